import PyProof.Rows.All
import Wide.All
import OpenK.AllK
import Wide.FinOn
import HandS.ForMost
import HandS.IsInst
import HandS.Wide
import HandS.TupAny
import HandS.Style
import HandS.Flow
import HandS.Conv
import HandS.EndBits
import KE.IntBitsLaws
import KE.DataFind
import KE.LtSeq
import HandS.TupMul
import PySem.Challenge.RW_steadypages_k06_what_is_a_condition
set_option Elab.async false
set_option linter.all false
set_option maxRecDepth 100000
set_option maxHeartbeats 4000000
/-! Data level: values as trees, a store for what may be written, and judgements that say "this piece of text computes this function". -/
namespace DL
open PySem PySem.Spec PyProof.Rows L2

inductive D where
  | non | bl (b : Bool) | int (i : Int) | str (x : Str)
  | tup (ds : List D) | lst (ds : List D) | dct (kvs : List (Key × D))
  | scr (ns : List Int) | ref (n : Nat)

inductive Ob where
  | dead
  | dct (kvs : List (Key × D))
  | lst (ds : List D)
/-- where the store's objects stand; what no value may lean on -/
structure Rf where
  adr : List Addr
  av : Addr → Prop
abbrev Store := List Ob
abbrev Lo := List (Option D)

variable {K : PySem.W.Frag}

mutual
inductive Rep (K : PySem.W.Frag) (r : Rf) (H : Hp) : V → D → Prop
  | non : Rep K r H .non .non
  | bl (b : Bool) : Rep K r H (.bl b) (.bl b)
  | int (i : Int) : Rep K r H (.int i) (.int i)
  | str (x : Str) : Rep K r H (.str x) (.str x)
  | tup {a : Addr} {xs : List V} {ds : List D} : H a = some (.tup xs) → ¬ r.av a → RepL K r H xs ds → Rep K r H (.ref a) (.tup ds)
  | tupK {a : Addr} {o : Obj} {its : Array Value} {n : Nat} {xs : List V} {ds : List D} : K.lookup a = some o → o.cls = .type "tuple" → o.data = .seq its n → its.size ≤ sizeLine → Vals xs its.toList → RepL K r H xs ds → Rep K r H (.ref a) (.tup ds)
  | lst {a : Addr} {xs : List V} {ds : List D} : H a = some (.lst xs) → ¬ r.av a → RepL K r H xs ds → Rep K r H (.ref a) (.lst ds)
  | dct {a : Addr} {xs : List (Key × V)} {kvs : List (Key × D)} : H a = some (.dK xs) → ¬ r.av a → RepK K r H xs kvs → Rep K r H (.ref a) (.dct kvs)
  | scr {a : Addr} {ns : List Int} {o : Obj} : H a = some (.frz o (.lst (ns.map V.int))) → ¬ r.av a → Rep K r H (.ref a) (.scr ns)
  | scrK {a : Addr} {ns : List Int} {o : Obj} {its : Array Value} {n : Nat} : K.lookup a = some o → o.cls = .type "list" → o.dict = none → o.data = .seq its n → its.size ≤ sizeLine → Vals (ns.map V.int) its.toList → Rep K r H (.ref a) (.scr ns)
  | ref {n : Nat} {a : Addr} : r.adr[n]? = some a → Rep K r H (.ref a) (.ref n)
inductive RepL (K : PySem.W.Frag) (r : Rf) (H : Hp) : List V → List D → Prop
  | nil : RepL K r H [] []
  | cons {v : V} {vs : List V} {d : D} {ds : List D} : Rep K r H v d → RepL K r H vs ds → RepL K r H (v :: vs) (d :: ds)
inductive RepK (K : PySem.W.Frag) (r : Rf) (H : Hp) : List (Key × V) → List (Key × D) → Prop
  | nil : RepK K r H [] []
  | cons {k : Key} {v : V} {vs : List (Key × V)} {d : D} {ds : List (Key × D)} : Rep K r H v d → RepK K r H vs ds → RepK K r H ((k, v) :: vs) ((k, d) :: ds)
end

/-- what was known stays known -/
structure Ex (r : Rf) (H : Hp) (r' : Rf) (H' : Hp) : Prop where
  pre : ∃ l, r'.adr = r.adr ++ l
  keep : ∀ p o, H p = some o → ¬ r.av p → H' p = some o
  new : ∀ p, r'.av p → ¬ r.av p → H p = none
/-- .. and nothing is done to what is hidden -/
structure Ext (r : Rf) (H : Hp) (r' : Rf) (H' : Hp) : Prop extends Ex r H r' H' where
  hid : ∀ p, r.av p → p ∉ r.adr → H' p = H p ∧ r'.av p ∧ p ∉ r'.adr

theorem Ext.refl (r : Rf) (H : Hp) : Ext r H r H := ⟨⟨⟨[], by simp⟩, fun _ _ h _ => h, fun _ h n => absurd h n⟩, fun _ a b => ⟨rfl, a, b⟩⟩
theorem Ex.out {r r' : Rf} {H H' : Hp} (e : Ex r H r' H') {p : Addr} {o : HO} (h : H p = some o) (n : ¬ r.av p) : ¬ r'.av p := fun z => by
  rw [e.new p z n] at h; cases h
theorem Ex.get {r r' : Rf} {H H' : Hp} (e : Ex r H r' H') {n : Nat} {a : Addr} (h : r.adr[n]? = some a) : r'.adr[n]? = some a := by
  obtain ⟨l, hl⟩ := e.pre
  obtain ⟨q, _⟩ := List.getElem?_eq_some_iff.mp h
  rw [hl, List.getElem?_append_left q]; exact h
theorem Ex.trans {r r1 r2 : Rf} {H H1 H2 : Hp} (a : Ex r H r1 H1) (b : Ex r1 H1 r2 H2) : Ex r H r2 H2 := by
  refine ⟨?_, fun p o h n => b.keep p o (a.keep p o h n) (a.out h n), fun p h n => ?_⟩
  · obtain ⟨l, hl⟩ := a.pre
    obtain ⟨m, hm⟩ := b.pre
    exact ⟨l ++ m, by rw [hm, hl, List.append_assoc]⟩
  · by_cases q : r1.av p
    · exact a.new p q n
    · cases z : H p with
      | none => rfl
      | some o =>
        have := b.new p h q
        rw [a.keep p o z n] at this
        cases this
theorem Ext.trans {r r1 r2 : Rf} {H H1 H2 : Hp} (a : Ext r H r1 H1) (b : Ext r1 H1 r2 H2) : Ext r H r2 H2 :=
  ⟨a.toEx.trans b.toEx, fun p x y => let ⟨h1, h2, h3⟩ := a.hid p x y; let ⟨h4, h5, h6⟩ := b.hid p h2 h3; ⟨h4.trans h1, h5, h6⟩⟩
theorem Ext.same (r : Rf) {H H' : Hp} (s : Same H H') (there : ∀ p, r.av p → ∃ o, H p = some o) : Ext r H r H' :=
  ⟨⟨⟨[], by simp⟩, fun p o h _ => s p o h, fun p h n => absurd h n⟩, fun p a b => ⟨by obtain ⟨o, h⟩ := there p a; rw [h]; exact s p o h, a, b⟩⟩
theorem Ex.same (r : Rf) {H H' : Hp} (s : Same H H') : Ex r H r H' := ⟨⟨[], by simp⟩, fun p o h _ => s p o h, fun p h n => absurd h n⟩
theorem same_alloc {H : Hp} {p : Addr} {o : HO} (h : H p = none) : Same H (upd H p o) := fun b x e => by
  rw [upd_ne (ne_of_none e h)]; exact e

mutual
theorem Rep.ex {r r' : Rf} {H H' : Hp} (e : Ex r H r' H') : ∀ {v : V} {d : D}, Rep K r H v d → Rep K r' H' v d
  | _, _, .non => .non
  | _, _, .bl b => .bl b
  | _, _, .int i => .int i
  | _, _, .str x => .str x
  | _, _, .tup h n l => .tup (e.keep _ _ h n) (e.out h n) (RepL.ex e l)
  | _, _, .tupK a b c d f l => .tupK a b c d f (RepL.ex e l)
  | _, _, .lst h n l => .lst (e.keep _ _ h n) (e.out h n) (RepL.ex e l)
  | _, _, .dct h n l => .dct (e.keep _ _ h n) (e.out h n) (RepK.ex e l)
  | _, _, .scr h n => .scr (e.keep _ _ h n) (e.out h n)
  | _, _, .scrK a b c d f g => .scrK a b c d f g
  | _, _, .ref h => .ref (e.get h)
theorem RepL.ex {r r' : Rf} {H H' : Hp} (e : Ex r H r' H') : ∀ {v : List V} {d : List D}, RepL K r H v d → RepL K r' H' v d
  | _, _, .nil => .nil
  | _, _, .cons a b => .cons (Rep.ex e a) (RepL.ex e b)
theorem RepK.ex {r r' : Rf} {H H' : Hp} (e : Ex r H r' H') : ∀ {v : List (Key × V)} {d : List (Key × D)}, RepK K r H v d → RepK K r' H' v d
  | _, _, .nil => .nil
  | _, _, .cons a b => .cons (Rep.ex e a) (RepK.ex e b)
end
theorem Rep.ext {r r' : Rf} {H H' : Hp} {v : V} {d : D} (h : Rep K r H v d) (e : Ext r H r' H') : Rep K r' H' v d := h.ex e.toEx
theorem RepL.ext {r r' : Rf} {H H' : Hp} {v : List V} {d : List D} (h : RepL K r H v d) (e : Ext r H r' H') : RepL K r' H' v d := h.ex e.toEx
theorem RepK.ext {r r' : Rf} {H H' : Hp} {v : List (Key × V)} {d : List (Key × D)} (h : RepK K r H v d) (e : Ext r H r' H') : RepK K r' H' v d := h.ex e.toEx
theorem RepL.len {r : Rf} {H : Hp} : ∀ {v : List V} {d : List D}, RepL K r H v d → v.length = d.length
  | _, _, .nil => rfl
  | _, _, .cons _ b => by rw [List.length_cons, List.length_cons, RepL.len b]
theorem RepL.get {r : Rf} {H : Hp} : ∀ {vs : List V} {ds : List D}, RepL K r H vs ds → ∀ {i : Nat} {d : D}, ds[i]? = some d → ∃ v, vs[i]? = some v ∧ Rep K r H v d
  | _, _, .nil, i, d, h => by simp at h
  | _, _, .cons a b, 0, d, h => by
    have e := Option.some.inj h
    subst e
    exact ⟨_, rfl, a⟩
  | _, _, .cons a b, i + 1, d, h => RepL.get b (i := i) h
theorem RepL.getV {r : Rf} {H : Hp} : ∀ {vs : List V} {ds : List D}, RepL K r H vs ds → ∀ {i : Nat} {v : V}, vs[i]? = some v → ∃ d, ds[i]? = some d ∧ Rep K r H v d
  | _, _, .nil, i, d, h => by simp at h
  | _, _, .cons a b, 0, d, h => by
    have e := Option.some.inj h
    subst e
    exact ⟨_, rfl, a⟩
  | _, _, .cons a b, i + 1, d, h => RepL.getV b (i := i) h
theorem RepL.append {r : Rf} {H : Hp} : ∀ {vs us : List V} {ds es : List D}, RepL K r H vs ds → RepL K r H us es → RepL K r H (vs ++ us) (ds ++ es)
  | _, _, _, _, .nil, q => q
  | _, _, _, _, .cons a b, q => .cons a (RepL.append b q)
theorem RepL.take {r : Rf} {H : Hp} : ∀ (n : Nat) {vs : List V} {ds : List D}, RepL K r H vs ds → RepL K r H (vs.take n) (ds.take n)
  | 0, _, _, _ => .nil
  | _ + 1, _, _, .nil => .nil
  | n + 1, _, _, .cons a b => .cons a (RepL.take n b)
theorem RepL.drop {r : Rf} {H : Hp} : ∀ (n : Nat) {vs : List V} {ds : List D}, RepL K r H vs ds → RepL K r H (vs.drop n) (ds.drop n)
  | 0, _, _, q => q
  | _ + 1, _, _, .nil => .nil
  | n + 1, _, _, .cons a b => RepL.drop n b
theorem RepL.ints {r : Rf} {H : Hp} : ∀ {vs : List V} {ns : List Int}, RepL K r H vs (ns.map D.int) → vs = ns.map V.int
  | _, [], .nil => rfl
  | _, n :: r, .cons (.int _) b => by rw [List.map_cons, RepL.ints b]
theorem RepL.ofInts {r : Rf} {H : Hp} : ∀ (ns : List Int), RepL K r H (ns.map V.int) (ns.map D.int)
  | [] => .nil
  | n :: r => .cons (.int n) (RepL.ofInts r)

/-- the store is held -/
def ObR (K : PySem.W.Frag) (r : Rf) (H : Hp) (a : Addr) : Ob → Prop
  | .dead => True
  | .dct kvs => r.av a ∧ ∃ xs, H a = some (.dK xs) ∧ RepK K r H xs kvs
  | .lst ds => r.av a ∧ ∃ xs, H a = some (.lst xs) ∧ RepL K r H xs ds
theorem ObR.ex {r r' : Rf} {H H' : Hp} (e : Ex r H r' H') {a : Addr} (k : r.av a → H' a = H a ∧ r'.av a) : ∀ {o : Ob}, ObR K r H a o → ObR K r' H' a o
  | .dead, _ => trivial
  | .dct _, ⟨v, xs, h, l⟩ => ⟨(k v).2, xs, (k v).1.trans h, l.ex e⟩
  | .lst _, ⟨v, xs, h, l⟩ => ⟨(k v).2, xs, (k v).1.trans h, l.ex e⟩
structure Sim (K : PySem.W.Frag) (r : Rf) (H : Hp) (st : Store) : Prop where
  len : r.adr.length = st.length
  nd : r.adr.Nodup
  ob : ∀ (n : Nat) (a : Addr) (o : Ob), r.adr[n]? = some a → st[n]? = some o → ObR K r H a o
  there : ∀ p, r.av p → ∃ o, H p = some o
  old : ∀ a ∈ r.adr, ∃ o, H a = some o
theorem Sim.same {r : Rf} {H H' : Hp} {st : Store} (s : Sim K r H st) (e : Same H H') : Sim K r H' st :=
  ⟨s.len, s.nd, fun n a o h1 h2 => (s.ob n a o h1 h2).ex (Ex.same r e) (fun v => by
    obtain ⟨h, z⟩ := s.there a v
    exact ⟨by rw [z]; exact e a h z, v⟩), fun p v => let ⟨o, h⟩ := s.there p v; ⟨o, e p o h⟩, fun p v => let ⟨o, h⟩ := s.old p v; ⟨o, e p o h⟩⟩

theorem Sim.ext {r : Rf} {H H' : Hp} {st : Store} (s : Sim K r H st) (e : Same H H') : Ext r H r H' := Ext.same r e s.there
/-- the locals -/
structure EnvR (K : PySem.W.Frag) (r : Rf) (H : Hp) (env : Lo) (σ : L2.St) : Prop where
  len : env.length = σ.length
  at_ : ∀ (i : Nat) (d : D), env[i]? = some (some d) → ∃ v, σ[i]? = some (some v) ∧ Rep K r H v d
theorem EnvR.ext {r r' : Rf} {H H' : Hp} {env : Lo} {σ : L2.St} (h : EnvR K r H env σ) (e : Ext r H r' H') : EnvR K r' H' env σ :=
  ⟨h.len, fun i d q => let ⟨v, a, b⟩ := h.at_ i d q; ⟨v, a, b.ext e⟩⟩
theorem EnvR.set {r : Rf} {H : Hp} {env : Lo} {σ : L2.St} (h : EnvR K r H env σ) {v : V} {d : D} (q : Rep K r H v d) (i : Nat) : EnvR K r H (env.set i (some d)) (σ.set i (some v)) := by
  refine ⟨by rw [List.length_set, List.length_set]; exact h.len, fun j c e => ?_⟩
  by_cases z : i = j
  · subst z
    by_cases hi : i < env.length
    · rw [List.getElem?_set_self hi] at e
      cases e
      exact ⟨v, by rw [List.getElem?_set_self (by rw [← h.len]; exact hi)], q⟩
    · rw [List.getElem?_eq_none (by rw [List.length_set]; omega)] at e
      cases e
  · rw [List.getElem?_set_ne z] at e
    obtain ⟨u, a, b⟩ := h.at_ j c e
    exact ⟨u, by rw [List.getElem?_set_ne z]; exact a, b⟩
/-- a slot forgotten on both sides -/
theorem EnvR.wipe {r : Rf} {H : Hp} {env : Lo} {σ : L2.St} (h : EnvR K r H env σ) (i : Nat) : EnvR K r H (env.set i none) (σ.set i none) := by
  refine ⟨by rw [List.length_set, List.length_set]; exact h.len, fun j c e => ?_⟩
  by_cases z : i = j
  · subst z
    by_cases hi : i < env.length
    · rw [List.getElem?_set_self hi] at e
      cases e
    · rw [List.getElem?_eq_none (by rw [List.length_set]; omega)] at e
      cases e
  · rw [List.getElem?_set_ne z] at e
    obtain ⟨u, a, b⟩ := h.at_ j c e
    exact ⟨u, by rw [List.getElem?_set_ne z]; exact a, b⟩

/-! ### judgements -/
abbrev F := Lo → Store → Option (D × Store)
abbrev FT := Lo → Store → Option (Bool × Store)
abbrev FA := Lo → Store → Option (List D × Store)
def tD (K : PySem.W.Frag) (f : F) : TE := fun σ H Q => ∃ r env st d st', EnvR K r H env σ ∧ Sim K r H st ∧ f env st = some (d, st') ∧ ∀ v r' H', Ext r H r' H' → Sim K r' H' st' → Rep K r' H' v d → Q v H'
def tT (K : PySem.W.Frag) (f : FT) : TT := fun σ H Q => ∃ r env st b st', EnvR K r H env σ ∧ Sim K r H st ∧ f env st = some (b, st') ∧ ∀ r' H', Ext r H r' H' → Sim K r' H' st' → Q b H'
def tA (K : PySem.W.Frag) (f : FA) : TA := fun σ H Q => ∃ r env st ds st', EnvR K r H env σ ∧ Sim K r H st ∧ f env st = some (ds, st') ∧ ∀ vs r' H', Ext r H r' H' → Sim K r' H' st' → RepL K r' H' vs ds → Q vs H'
abbrev DE (X : Cx) (e : Expr) (f : F) : Prop := PE X e (tD X.K f)
abbrev DT (X : Cx) (e : Expr) (f : FT) : Prop := PT X e (tT X.K f)
abbrev DA (X : Cx) (es : List Expr) (f : FA) : Prop := PA X es (tA X.K f)

section
variable {X : Cx}
theorem weakE {e : Expr} {t t' : TE} (h : PE X e t) (i : ∀ σ H Q, t' σ H Q → t σ H Q) : PE X e t' := ⟨fun pins s σ H Q I q => h.run pins s σ H Q I (i σ H Q q)⟩
theorem weakT {e : Expr} {t t' : TT} (h : PT X e t) (i : ∀ σ H Q, t' σ H Q → t σ H Q) : PT X e t' := ⟨fun pins s σ H Q I q => h.run pins s σ H Q I (i σ H Q q)⟩
theorem weakA {e : List Expr} {t t' : TA} (h : PA X e t) (i : ∀ σ H Q, t' σ H Q → t σ H Q) : PA X e t' := ⟨fun pos pins s σ H Q I q => h.run pos pins s σ H Q I (i σ H Q q)⟩
theorem weakS {e : Stmt} {t t' : TS} (h : PS X e t) (i : ∀ D σ H, t' D σ H → t D σ H) : PS X e t' := ⟨fun pins s σ H D I q => h.run pins s σ H D I (i D σ H q)⟩
theorem weakSs {e : List Stmt} {t t' : TS} (h : PSs X e t) (i : ∀ D σ H, t' D σ H → t D σ H) : PSs X e t' := ⟨fun pins s σ H D I q => h.run pins s σ H D I (i D σ H q)⟩

/-- what a context must bear -/
structure GX (X : Cx) (k : Nat) : Prop where
  calm : X.calm = true
  nd : X.N.Nodup
  room : Room k X.A
  gd : X.A.guards = some []

/-! ### names, constants -/
def fVar (i : Nat) : F := fun env st => match env[i]? with | some (some d) => some (d, st) | _ => none
def fC (d : D) : F := fun _ st => some (d, st)
theorem de_var (i : Nat) {x : Str} {pos : Pos} (hN : X.N[i]? = some x := by rfl) (hv : Vis X.env.scope x := by first | exact Or.inl rfl | exact Or.inr (Or.inl rfl) | exact Or.inr (Or.inr rfl)) (hd : (x == ("__debug__" : Str)) = false := by decide)
    (hcd : (x == ("__classdict__" : Str)) = false := by decide) : DE X (.Name x pos) (fVar i) := weakE (pe_var hN hv hd hcd) fun σ H Q h => by
  obtain ⟨r, env, st, d, st', he, hs, hf, q⟩ := h
  unfold fVar at hf
  split at hf
  · rename_i d' hd'
    cases hf
    obtain ⟨v, a, b⟩ := he.at_ i _ hd'
    exact ⟨v, a, q v r H (.refl r H) hs b⟩
  · cases hf
theorem de_c {e : Expr} {v : V} {d : D} (h : PE X e (tC v)) (q : ∀ r H, Rep X.K r H v d) : DE X e (fC d) := weakE h fun σ H Q hh => by
  obtain ⟨r, env, st, d', st', he, hs, hf, k⟩ := hh
  cases hf
  exact k v r H (.refl r H) hs (q r H)
theorem de_int {i j pos} : DE X (.Constant (.int i) j pos) (fC (.int i)) := de_c pe_int fun _ _ => .int i
theorem de_bl {i j pos} : DE X (.Constant (.bool i) j pos) (fC (.bl i)) := de_c pe_bl fun _ _ => .bl i
theorem de_non {j pos} : DE X (.Constant .none j pos) (fC .non) := de_c pe_non fun _ _ => .non
theorem de_str {i j pos} : DE X (.Constant (.str i) j pos) (fC (.str i)) := de_c pe_str fun _ _ => .str i
theorem de_gint {x : Str} {i : Int} {t : Tok} {pos : Pos} (hg : Gl X x) (hm : X.mg x = some (.int i t)) (hd : (x == ("__debug__" : Str)) = false := by decide) : DE X (.Name x pos) (fC (.int i)) :=
  de_c (pe_glob (v := .int i) hg hm ⟨t, rfl⟩ hd) fun _ _ => .int i
theorem de_gstr {x : Str} {i : Str} {t : Tok} {pos : Pos} (hg : Gl X x) (hm : X.mg x = some (.str i t)) (hd : (x == ("__debug__" : Str)) = false := by decide) : DE X (.Name x pos) (fC (.str i)) :=
  de_c (pe_glob (v := .str i) hg hm ⟨t, rfl⟩ hd) fun _ _ => .str i

/-! ### two values -/
def OpOk (X : Cx) (f : Value → Value → Sem Value) (g : D → D → Option D) : Prop :=
  ∃ r : R2, OpR X f r ∧ ∀ (rho : Rf) (H : Hp) (x y : V) (a b d : D) (st : Store) (Q : VK), Sim X.K rho H st → Rep X.K rho H x a → Rep X.K rho H y b → g a b = some d → (∀ v H', Same H H' → Rep X.K rho H' v d → Q v H') → r x y H Q
def fOp (g : D → D → Option D) (fa fb : F) : F := fun env st => (fa env st).bind fun p => (fb env p.2).bind fun q => (g p.1 q.1).map fun d => (d, q.2)
theorem fOp_some {g : D → D → Option D} {fa fb : F} {env : Lo} {st : Store} {z : D × Store} (h : fOp g fa fb env st = some z) : ∃ x s1 y s2 d, fa env st = some (x, s1) ∧ fb env s1 = some (y, s2) ∧ g x y = some d ∧ z = (d, s2) := by
  unfold fOp at h
  obtain ⟨⟨x, s1⟩, h1, h⟩ := Option.bind_eq_some_iff.mp h
  obtain ⟨⟨y, s2⟩, h2, h⟩ := Option.bind_eq_some_iff.mp h
  obtain ⟨d, h3, h⟩ := Option.map_eq_some_iff.mp h
  exact ⟨x, s1, y, s2, d, h1, h2, h3, h.symm⟩
/-- the reading of two data expressions in a row -/
theorem two {fa fb : F} {σ : L2.St} {H : Hp} {Q : V → V → Hp → Prop} {r : Rf} {env : Lo} {st s1 s2 : Store} {x y : D} (he : EnvR K r H env σ) (hs : Sim K r H st) (h1 : fa env st = some (x, s1)) (h2 : fb env s1 = some (y, s2))
    (k : ∀ u v r' H', Ext r H r' H' → Sim K r' H' s2 → Rep K r' H' u x → Rep K r' H' v y → Q u v H') : tD K fa σ H fun u H1 => tD K fb σ H1 fun v H2 => Q u v H2 :=
  ⟨r, env, st, x, s1, he, hs, h1, fun u r1 H1 e1 q1 p1 => ⟨r1, env, s1, y, s2, he.ext e1, q1, h2, fun v r2 H2 e2 q2 p2 => k u v r2 H2 (e1.trans e2) q2 (p1.ext e2) p2⟩⟩
theorem opReads {f : Value → Value → Sem Value} {g : D → D → Option D} {r : R2} (k : ∀ (rho : Rf) (H : Hp) (x y : V) (a b d : D) (st : Store) (Q : VK), Sim K rho H st → Rep K rho H x a → Rep K rho H y b → g a b = some d → (∀ v H', Same H H' → Rep K rho H' v d → Q v H') → r x y H Q)
    {fa fb : F} (σ : L2.St) (H : Hp) (Q : VK) (h : tD K (fOp g fa fb) σ H Q) : tOp r (tD K fa) (tD K fb) σ H Q := by
  obtain ⟨rho, env, st, d, st', he, hs, hf, q⟩ := h
  obtain ⟨x, s1, y, s2, d', h1, h2, h3, e⟩ := fOp_some hf
  cases e
  exact two he hs h1 h2 fun u v r' H' e1 q1 pu pv => k r' H' u v x y d _ Q q1 pu pv h3 fun w H2 sm pw => q w r' H2 (e1.trans (q1.ext sm)) (q1.same sm) pw
theorem de_op {op : Operator} {g : D → D → Option D} {a b : Expr} {fa fb : F} {pos : Pos} (ho : OpOk X (binaryOp op) g) (ha : DE X a fa) (hb : DE X b fb) : DE X (.BinOp a op b pos) (fOp g fa fb) := by
  obtain ⟨r, hr, k⟩ := ho
  exact weakE (pe_op hr ha hb) fun σ H Q h => opReads (f := binaryOp op) k σ H Q h
theorem de_cmp {op : CmpOp} {g : D → D → Option D} {a b : Expr} {fa fb : F} {pos : Pos} (ho : OpOk X (compareOp op) g) (ha : DE X a fa) (hb : DE X b fb) (hm : behindInMarks op b = false := by with_unfolding_all rfl) : DE X (.Compare a [op] [b] pos) (fOp g fa fb) := by
  obtain ⟨r, hr, k⟩ := ho
  exact weakE (pe_cmpR hr ha hb hm) fun σ H Q h => opReads (f := compareOp op) k σ H Q h
end
end DL
namespace DL
open PySem PySem.Spec PyProof.Rows L2
variable {K : PySem.W.Frag}

/-! ### arguments, displays -/
def aNil : FA := fun _ st => some ([], st)
def aCons (f : F) (g : FA) : FA := fun env st => (f env st).bind fun p => (g env p.2).map fun q => (p.1 :: q.1, q.2)
theorem aCons_some {f : F} {g : FA} {env : Lo} {st : Store} {z : List D × Store} (h : aCons f g env st = some z) : ∃ x s1 ys s2, f env st = some (x, s1) ∧ g env s1 = some (ys, s2) ∧ z = (x :: ys, s2) := by
  unfold aCons at h
  obtain ⟨⟨x, s1⟩, h1, h⟩ := Option.bind_eq_some_iff.mp h
  obtain ⟨⟨y, s2⟩, h2, h⟩ := Option.map_eq_some_iff.mp h
  exact ⟨x, s1, y, s2, h1, h2, h.symm⟩
section
variable {X : Cx}
theorem da_nil : DA X [] aNil := weakA pa_nil fun σ H Q h => by
  obtain ⟨r, env, st, ds, st', he, hs, hf, q⟩ := h
  cases hf
  exact q [] r H (.refl r H) hs .nil
theorem da_cons {e : Expr} {es : List Expr} {f : F} {g : FA} (h : DE X e f) (t : DA X es g) (hs : starEach (e :: es) X.env = (false, eval e X.env) :: starEach es X.env := by rfl) : DA X (e :: es) (aCons f g) :=
  weakA (pa_cons h t hs) fun σ H Q hh => by
  obtain ⟨r, env, st, ds, st', he, hs, hf, q⟩ := hh
  obtain ⟨x, s1, ys, s2, h1, h2, e⟩ := aCons_some hf
  cases e
  exact ⟨r, env, st, x, s1, he, hs, h1, fun u r1 H1 e1 q1 p1 => ⟨r1, env, s1, ys, _, he.ext e1, q1, h2, fun us r2 H2 e2 q2 p2 => q (u :: us) r2 H2 (e1.trans e2) q2 (.cons (p1.ext e2) p2)⟩⟩

/-- a value made of the values of several expressions -/
def fMk (g : List D → Store → Option D) (fa : FA) : F := fun env st => (fa env st).bind fun p => (g p.1 p.2).map fun d => (d, p.2)
theorem fMk_some {g : List D → Store → Option D} {fa : FA} {env : Lo} {st : Store} {z : D × Store} (h : fMk g fa env st = some z) : ∃ xs s1 d, fa env st = some (xs, s1) ∧ g xs s1 = some d ∧ z = (d, s1) := by
  unfold fMk at h
  obtain ⟨⟨x, s1⟩, h1, h⟩ := Option.bind_eq_some_iff.mp h
  obtain ⟨d, h2, h⟩ := Option.map_eq_some_iff.mp h
  exact ⟨x, s1, d, h1, h2, h.symm⟩
/-- values in, a value out, new objects at most -/
def ArgOk (K : PySem.W.Frag) (r : List V → Hp → VK → Prop) (g : List D → Store → Option D) : Prop :=
  ∀ (rho : Rf) (H : Hp) (xs : List V) (ds : List D) (d : D) (st : Store) (Q : VK), RepL K rho H xs ds → Sim K rho H st → g ds st = some d → (∀ v H', Same H H' → Rep K rho H' v d → Q v H') → r xs H Q
theorem argReads {r : List V → Hp → VK → Prop} {g : List D → Store → Option D} (k : ArgOk K r g) {fa : FA} (σ : L2.St) (H : Hp) (Q : VK) (h : tD K (fMk g fa) σ H Q) : tA K fa σ H fun vs H1 => r vs H1 Q := by
  obtain ⟨rho, env, st, d, st', he, hs, hf, q⟩ := h
  obtain ⟨xs, s1, d', h1, h2, e⟩ := fMk_some hf
  cases e
  exact ⟨rho, env, st, xs, _, he, hs, h1, fun us r1 H1 e1 q1 p1 => k r1 H1 us xs d _ Q p1 q1 h2 fun v H2 sm pv => q v r1 H2 (e1.trans (q1.ext sm)) (q1.same sm) pv⟩
/-- a new object that no value is -/
theorem Sim.free {r : Rf} {H : Hp} {st : Store} (s : Sim K r H st) {p : Addr} (h : H p = none) : ¬ r.av p := fun z => by
  obtain ⟨o, e⟩ := s.there p z
  rw [h] at e; cases e
def mkTup (ds : List D) (_ : Store) : Option D := if ds.length ≤ sizeLine then some (.tup ds) else none
def mkLst (ds : List D) (_ : Store) : Option D := if ds.length ≤ sizeLine then some (.lst ds) else none
theorem de_tup {es : List Expr} {fa : FA} {x1 : Nat} {pos : Pos} (h : DA X es fa) : DE X (.Tuple es x1 pos) (fMk mkTup fa) :=
  weakE (pe_tup h) fun σ H Q hh => argReads (r := fun xs H1 Q => xs.length ≤ sizeLine ∧ ∀ p, H1 p = none → Q (.ref p) (upd H1 p (.tup xs))) (fun rho H xs ds d st Q hr hs hg k => by
    unfold mkTup at hg
    split at hg
    · rename_i hl
      cases hg
      refine ⟨by rw [hr.len]; exact hl, fun p hp => k _ _ (same_alloc hp) (.tup upd_same (hs.free hp) (hr.ex (Ex.same rho (same_alloc hp))))⟩
    · cases hg) σ H Q hh
theorem de_lst {es : List Expr} {fa : FA} {pos : Pos} (h : DA X es fa) : DE X (.List es pos) (fMk mkLst fa) :=
  weakE (pe_lst h) fun σ H Q hh => argReads (r := fun xs H1 Q => xs.length ≤ sizeLine ∧ ∀ p, H1 p = none → Q (.ref p) (upd H1 p (.lst xs))) (fun rho H xs ds d st Q hr hs hg k => by
    unfold mkLst at hg
    split at hg
    · rename_i hl
      cases hg
      refine ⟨by rw [hr.len]; exact hl, fun p hp => k _ _ (same_alloc hp) (.lst upd_same (hs.free hp) (hr.ex (Ex.same rho (same_alloc hp))))⟩
    · cases hg) σ H Q hh
/-- a call of a built-in -/
def CallOk (X : Cx) (f : Value) (g : List D → Store → Option D) : Prop := ∃ r, CallR X f r ∧ ArgOk X.K r g
theorem de_callB {id : String} {x : Str} {g : List D → Store → Option D} {fa : FA} {e : Expr} {es : List Expr} {p pos : Pos} (ho : CallOk X (.builtin id) g) (hg : Gl X x) (hm : X.mg x = none) (hv : bootBuiltins x = some (.builtin id)) (ha : DA X (e :: es) fa) (hn : x ≠ "__name__" := by decide) (hdb : (x == ("__debug__" : Str)) = false := by decide)
    (he : starEach (e :: es) X.env = (false, eval e X.env) :: starEach es X.env := by rfl) (hpl : (backTo pos (starEach es X.env)).any (·.1) = false := by rfl) : DE X (.Call (.Name x p) (e :: es) [] pos) (fMk g fa) := by
  obtain ⟨r, hr, k⟩ := ho
  exact weakE (pe_callB hr hg hm hv ha hn hdb he hpl) fun σ H Q h => argReads k σ H Q h
theorem de_callTy {T : String} {x : Str} {g : List D → Store → Option D} {fa : FA} {e : Expr} {es : List Expr} {p pos : Pos} (ho : CallOk X (.type T) g) (hg : Gl X x) (hm : X.mg x = none) (hv : bootBuiltins x = some (.type T)) (ha : DA X (e :: es) fa) (hn : x ≠ "__name__" := by decide) (hdb : (x == ("__debug__" : Str)) = false := by decide)
    (he : starEach (e :: es) X.env = (false, eval e X.env) :: starEach es X.env := by rfl) (hpl : (backTo pos (starEach es X.env)).any (·.1) = false := by rfl) : DE X (.Call (.Name x p) (e :: es) [] pos) (fMk g fa) := by
  obtain ⟨r, hr, k⟩ := ho
  exact weakE (pe_callTy hr hg hm hv ha hn hdb he hpl) fun σ H Q h => argReads k σ H Q h

/-! ### tests, and, or, not -/
def asB : D → Option Bool | .bl b => some b | _ => none
def fTest (f : F) : FT := fun env st => (f env st).bind fun p => (asB p.1).map fun b => (b, p.2)
theorem fTest_some {f : F} {env : Lo} {st : Store} {z : Bool × Store} (h : fTest f env st = some z) : f env st = some (.bl z.1, z.2) := by
  unfold fTest at h
  obtain ⟨⟨x, s1⟩, h1, h⟩ := Option.bind_eq_some_iff.mp h
  obtain ⟨b, h2, h⟩ := Option.map_eq_some_iff.mp h
  cases x with
  | bl c => cases h2; subst h; exact h1
  | _ => cases h2
theorem testReads {f : F} (σ : L2.St) (H : Hp) (Q : Bool → Hp → Prop) (h : tT K (fTest f) σ H Q) : tD K f σ H fun x H1 => ∃ c, x = .bl c ∧ Q c H1 := by
  obtain ⟨r, env, st, b, st', he, hs, hf, q⟩ := h
  exact ⟨r, env, st, _, _, he, hs, fTest_some hf, fun v r1 H1 e1 q1 p1 => by
    cases p1
    exact ⟨b, rfl, q r1 H1 e1 q1⟩⟩
theorem dt_val {e : Expr} {f : F} (h : DE X e f) (he : ∀ whole, isTrue e X.env whole = (do let v ← whole; standAt e.pos; holding [v] (truthy v)) := by intro _; rfl) : DT X e (fTest f) := weakT (pt_val h he) fun σ H Q hh => testReads σ H Q hh
theorem dt_cmp {op : CmpOp} {g : D → D → Option D} {a b : Expr} {fa fb : F} {pos : Pos} (ho : OpOk X (compareOp op) g) (ha : DE X a fa) (hb : DE X b fb) (hm : behindInMarks op b = false := by with_unfolding_all rfl) : DT X (.Compare a [op] [b] pos) (fTest (fOp g fa fb)) := by
  obtain ⟨r, hr, k⟩ := ho
  exact weakT (pt_cmpR hr ha hb hm) fun σ H Q h => opReads (f := compareOp op) k σ H (fun x H1 => ∃ c, x = .bl c ∧ Q c H1) (testReads σ H Q h)
def fNotT (f : FT) : FT := fun env st => (f env st).map fun p => (!p.1, p.2)
theorem dt_not {e : Expr} {f : FT} {pos : Pos} (h : DT X e f) : DT X (.UnaryOp .Not e pos) (fNotT f) := weakT (pt_not h) fun σ H Q hh => by
  obtain ⟨r, env, st, b, st', he, hs, hf, q⟩ := hh
  obtain ⟨⟨c, s1⟩, h1, h2⟩ := Option.map_eq_some_iff.mp hf
  cases h2
  exact ⟨r, env, st, c, _, he, hs, h1, q⟩
def fAndT (f g : FT) : FT := fun env st => (f env st).bind fun p => if p.1 = true then g env p.2 else some (false, p.2)
def fOrT (f g : FT) : FT := fun env st => (f env st).bind fun p => if p.1 = true then some (true, p.2) else g env p.2
/-- a test whatever the whole is -/
abbrev DW (X : Cx) (e : Expr) (f : FT) : Prop := PW X e (tT X.K f)
theorem weakW {e : Expr} {t t' : TT} (h : PW X e t) (i : ∀ σ H Q, t' σ H Q → t σ H Q) : PW X e t' := ⟨fun wh pins s σ H Q I q => h.run wh pins s σ H Q I (i σ H Q q)⟩
theorem dw_and1 {a : Expr} {f : FT} {pos : Pos} (h : DT X a f) : DW X (.BoolOp .And [a] pos) f := pw_and1 h
theorem dw_or1 {a : Expr} {f : FT} {pos : Pos} (h : DT X a f) : DW X (.BoolOp .Or [a] pos) f := pw_or1 h
theorem dw_and {a b : Expr} {rest : List Expr} {f g : FT} {pos : Pos} (ha : DT X a f) (hb : DW X (.BoolOp .And (b :: rest) pos) g) : DW X (.BoolOp .And (a :: b :: rest) pos) (fAndT f g) := weakW (pw_and ha hb) fun σ H Q hh => by
  obtain ⟨r, env, st, b, st', he, hs, hf, q⟩ := hh
  obtain ⟨⟨c, s1⟩, h1, h2⟩ := Option.bind_eq_some_iff.mp hf
  refine ⟨r, env, st, c, s1, he, hs, h1, fun r1 H1 e1 q1 => ?_⟩
  cases c with
  | true => exact ⟨r1, env, s1, b, st', he.ext e1, q1, h2, fun r2 H2 e2 q2 => q r2 H2 (e1.trans e2) q2⟩
  | false =>
    cases h2
    exact q r1 H1 e1 q1
theorem dw_or {a b : Expr} {rest : List Expr} {f g : FT} {pos : Pos} (ha : DT X a f) (hb : DW X (.BoolOp .Or (b :: rest) pos) g) : DW X (.BoolOp .Or (a :: b :: rest) pos) (fOrT f g) := weakW (pw_or ha hb) fun σ H Q hh => by
  obtain ⟨r, env, st, b, st', he, hs, hf, q⟩ := hh
  obtain ⟨⟨c, s1⟩, h1, h2⟩ := Option.bind_eq_some_iff.mp hf
  refine ⟨r, env, st, c, s1, he, hs, h1, fun r1 H1 e1 q1 => ?_⟩
  cases c with
  | false => exact ⟨r1, env, s1, b, st', he.ext e1, q1, h2, fun r2 H2 e2 q2 => q r2 H2 (e1.trans e2) q2⟩
  | true =>
    cases h2
    exact q r1 H1 e1 q1
theorem dt_w {e : Expr} {f : FT} (h : DW X e f) : DT X e f := h.pt
/-- as values: bools alone -/
def fAnd (f g : F) : F := fun env st => (f env st).bind fun p => (asB p.1).bind fun b => if b = true then g env p.2 else some (.bl false, p.2)
def fOr (f g : F) : F := fun env st => (f env st).bind fun p => (asB p.1).bind fun b => if b = true then some (.bl true, p.2) else g env p.2
def fNot (f : F) : F := fun env st => (f env st).bind fun p => (asB p.1).map fun b => (.bl (!b), p.2)
theorem asB_some {d : D} {b : Bool} (h : asB d = some b) : d = .bl b := by
  cases d with
  | bl c => cases h; rfl
  | _ => cases h
theorem de_one {a : Expr} {op} {f : F} {pos : Pos} (h : DE X a f) : DE X (.BoolOp op [a] pos) f := pe_one h
theorem de_and {a b : Expr} {rest : List Expr} {f g : F} {pos : Pos} (ha : DE X a f) (hb : DE X (.BoolOp .And (b :: rest) pos) g) : DE X (.BoolOp .And (a :: b :: rest) pos) (fAnd f g) := weakE (pe_and ha hb) fun σ H Q hh => by
  obtain ⟨r, env, st, d, st', he, hs, hf, q⟩ := hh
  obtain ⟨⟨x, s1⟩, h1, h2⟩ := Option.bind_eq_some_iff.mp hf
  obtain ⟨c, h3, h4⟩ := Option.bind_eq_some_iff.mp h2
  have e := asB_some h3
  subst e
  refine ⟨r, env, st, .bl c, s1, he, hs, h1, fun u r1 H1 e1 q1 p1 => ?_⟩
  cases p1
  refine ⟨c, rfl, ?_⟩
  cases c with
  | true => exact ⟨r1, env, s1, d, st', he.ext e1, q1, h4, fun v r2 H2 e2 q2 p2 => q v r2 H2 (e1.trans e2) q2 p2⟩
  | false =>
    cases h4
    exact q _ r1 H1 e1 q1 (.bl false)
theorem de_or {a b : Expr} {rest : List Expr} {f g : F} {pos : Pos} (ha : DE X a f) (hb : DE X (.BoolOp .Or (b :: rest) pos) g) : DE X (.BoolOp .Or (a :: b :: rest) pos) (fOr f g) := weakE (pe_or ha hb) fun σ H Q hh => by
  obtain ⟨r, env, st, d, st', he, hs, hf, q⟩ := hh
  obtain ⟨⟨x, s1⟩, h1, h2⟩ := Option.bind_eq_some_iff.mp hf
  obtain ⟨c, h3, h4⟩ := Option.bind_eq_some_iff.mp h2
  have e := asB_some h3
  subst e
  refine ⟨r, env, st, .bl c, s1, he, hs, h1, fun u r1 H1 e1 q1 p1 => ?_⟩
  cases p1
  refine ⟨c, rfl, ?_⟩
  cases c with
  | false => exact ⟨r1, env, s1, d, st', he.ext e1, q1, h4, fun v r2 H2 e2 q2 p2 => q v r2 H2 (e1.trans e2) q2 p2⟩
  | true =>
    cases h4
    exact q _ r1 H1 e1 q1 (.bl true)
theorem de_not {a : Expr} {f : F} {pos : Pos} (ha : DE X a f) : DE X (.UnaryOp .Not a pos) (fNot f) := weakE (pe_not ha) fun σ H Q hh => by
  obtain ⟨r, env, st, d, st', he, hs, hf, q⟩ := hh
  obtain ⟨⟨x, s1⟩, h1, h2⟩ := Option.bind_eq_some_iff.mp hf
  obtain ⟨c, h3, h4⟩ := Option.map_eq_some_iff.mp h2
  have e := asB_some h3
  subst e
  cases h4
  refine ⟨r, env, st, .bl c, _, he, hs, h1, fun u r1 H1 e1 q1 p1 => ?_⟩
  cases p1
  exact ⟨c, rfl, q _ r1 H1 e1 q1 (.bl (!c))⟩
def fIfE (t : FT) (f g : F) : F := fun env st => (t env st).bind fun p => if p.1 = true then f env p.2 else g env p.2
theorem de_if {c a b : Expr} {t : FT} {f g : F} {pos : Pos} (hc : DT X c t) (ha : DE X a f) (hb : DE X b g) : DE X (.IfExp c a b pos) (fIfE t f g) := weakE (pe_ifExp hc ha hb) fun σ H Q hh => by
  obtain ⟨r, env, st, d, st', he, hs, hf, q⟩ := hh
  obtain ⟨⟨c, s1⟩, h1, h2⟩ := Option.bind_eq_some_iff.mp hf
  refine ⟨r, env, st, c, s1, he, hs, h1, fun r1 H1 e1 q1 => ?_⟩
  cases c with
  | true => exact ⟨r1, env, s1, d, st', he.ext e1, q1, h2, fun v r2 H2 e2 q2 p2 => q v r2 H2 (e1.trans e2) q2 p2⟩
  | false => exact ⟨r1, env, s1, d, st', he.ext e1, q1, h2, fun v r2 H2 e2 q2 p2 => q v r2 H2 (e1.trans e2) q2 p2⟩
/-- a op b op' c -/
def fChain (g g' : D → D → Option D) (fa fb fc : F) : F := fun env st => (fa env st).bind fun p => (fb env p.2).bind fun q => (g p.1 q.1).bind fun z => (asB z).bind fun k =>
  if k = true then (fc env q.2).bind fun w => (g' q.1 w.1).map fun d => (d, w.2) else some (.bl false, q.2)
theorem chainReads {r r' : R2} {g g' : D → D → Option D}
    (k : ∀ (rho : Rf) (H : Hp) (x y : V) (a b d : D) (st : Store) (Q : VK), Sim K rho H st → Rep K rho H x a → Rep K rho H y b → g a b = some d → (∀ v H', Same H H' → Rep K rho H' v d → Q v H') → r x y H Q)
    (k' : ∀ (rho : Rf) (H : Hp) (x y : V) (a b d : D) (st : Store) (Q : VK), Sim K rho H st → Rep K rho H x a → Rep K rho H y b → g' a b = some d → (∀ v H', Same H H' → Rep K rho H' v d → Q v H') → r' x y H Q)
    {fa fb fc : F} (σ : L2.St) (H : Hp) (Q : VK) (h : tD K (fChain g g' fa fb fc) σ H Q) : tChain r r' (tD K fa) (tD K fb) (tD K fc) σ H Q := by
  obtain ⟨rho, env, st, d, st', he, hs, hf, q⟩ := h
  obtain ⟨⟨x, s1⟩, h1, hf1⟩ := Option.bind_eq_some_iff.mp hf
  obtain ⟨⟨y, s2⟩, h2, hf2⟩ := Option.bind_eq_some_iff.mp hf1
  obtain ⟨z, h3, hf3⟩ := Option.bind_eq_some_iff.mp hf2
  obtain ⟨c, h4, hf4⟩ := Option.bind_eq_some_iff.mp hf3
  have e := asB_some h4
  subst e
  refine two he hs h1 h2 fun u v r1 H1 e1 q1 pu pv => k r1 H1 u v x y _ _ _ q1 pu pv h3 fun w H2 sm pw => ?_
  cases pw
  refine ⟨c, rfl, ?_⟩
  cases c with
  | false =>
    cases hf4
    exact q _ r1 H2 (e1.trans (q1.ext sm)) (q1.same sm) (.bl false)
  | true =>
    rw [if_pos rfl] at hf4
    obtain ⟨⟨w, s3⟩, h5, hf5⟩ := Option.bind_eq_some_iff.mp hf4
    obtain ⟨d', h6, hf6⟩ := Option.map_eq_some_iff.mp hf5
    cases hf6
    rw [if_pos rfl]
    have e2 : Ext rho H r1 H2 := e1.trans (q1.ext sm)
    refine ⟨r1, env, s2, w, _, he.ext e2, q1.same sm, h5, fun w' r3 H3 e3 q3 pw' => ?_⟩
    exact k' r3 H3 v w' y w _ _ _ q3 (pv.ext ((q1.ext sm).trans e3)) pw' h6 fun v4 H4 sm4 p4 => q v4 r3 H4 ((e2.trans e3).trans (q3.ext sm4)) (q3.same sm4) p4
theorem de_chain {op op' : CmpOp} {g g' : D → D → Option D} {a b c : Expr} {fa fb fc : F} {pos : Pos} (ho : OpOk X (compareOp op) g) (ho' : OpOk X (compareOp op') g') (ha : DE X a fa) (hb : DE X b fb) (hc : DE X c fc)
    (hm : lastMarks [op, op'] [b, c] = false := by with_unfolding_all rfl) : DE X (.Compare a [op, op'] [b, c] pos) (fChain g g' fa fb fc) := by
  obtain ⟨r, hr, k⟩ := ho
  obtain ⟨r', hr', k'⟩ := ho'
  exact weakE (pe_chain hr hr' ha hb hc hm) fun σ H Q h => chainReads k k' σ H Q h
theorem dt_chain {op op' : CmpOp} {g g' : D → D → Option D} {a b c : Expr} {fa fb fc : F} {pos : Pos} (ho : OpOk X (compareOp op) g) (ho' : OpOk X (compareOp op') g') (ha : DE X a fa) (hb : DE X b fb) (hc : DE X c fc)
    (hm : lastMarks [op, op'] [b, c] = false := by with_unfolding_all rfl) : DT X (.Compare a [op, op'] [b, c] pos) (fTest (fChain g g' fa fb fc)) := by
  obtain ⟨r, hr, k⟩ := ho
  obtain ⟨r', hr', k'⟩ := ho'
  exact weakT (pt_chain hr hr' ha hb hc hm) fun σ H Q h => chainReads k k' σ H (fun x H1 => ∃ c, x = .bl c ∧ Q c H1) (testReads σ H Q h)

/-! ### statements -/
inductive Out | nx | bk | ct | rt (d : D)
abbrev FS := Lo → Store → Option (Out × Lo × Store)
def OutOk (K : PySem.W.Frag) (r : Rf) (H : Hp) (D' : Ends) (env' : Lo) (st' : Store) : Out → Prop
  | .nx => ∀ σ' r' H', Ext r H r' H' → EnvR K r' H' env' σ' → Sim K r' H' st' → D'.nx σ' H'
  | .bk => ∀ σ' r' H', Ext r H r' H' → EnvR K r' H' env' σ' → Sim K r' H' st' → D'.bk σ' H'
  | .ct => ∀ σ' r' H', Ext r H r' H' → EnvR K r' H' env' σ' → Sim K r' H' st' → D'.ct σ' H'
  | .rt d => ∀ v r' H', Ext r H r' H' → Sim K r' H' st' → Rep K r' H' v d → D'.rt v H'
theorem OutOk.ext {r r1 : Rf} {H H1 : Hp} {D' : Ends} {env' : Lo} {st' : Store} (e : Ext r H r1 H1) : ∀ {o : Out}, OutOk K r H D' env' st' o → OutOk K r1 H1 D' env' st' o
  | .nx, h => fun σ' r' H' e' a b => h σ' r' H' (e.trans e') a b
  | .bk, h => fun σ' r' H' e' a b => h σ' r' H' (e.trans e') a b
  | .ct, h => fun σ' r' H' e' a b => h σ' r' H' (e.trans e') a b
  | .rt _, h => fun v r' H' e' a b => h v r' H' (e.trans e') a b
def tS (K : PySem.W.Frag) (g : FS) : TS := fun D' σ H => ∃ r env st o env' st', EnvR K r H env σ ∧ Sim K r H st ∧ g env st = some (o, env', st') ∧ OutOk K r H D' env' st' o
abbrev DS (X : Cx) (st : Stmt) (g : FS) : Prop := PS X st (tS X.K g)
abbrev DSs (X : Cx) (st : List Stmt) (g : FS) : Prop := PSs X st (tS X.K g)
def sNil : FS := fun env st => some (.nx, env, st)
def sSeq (g h : FS) : FS := fun env st => (g env st).bind fun p => match p with | (.nx, e1, s1) => h e1 s1 | q => some q
theorem ds_nil : DSs X [] sNil := weakSs pss_nil fun D' σ H hh => by
  obtain ⟨r, env, st, o, env', st', he, hs, hf, q⟩ := hh
  cases hf
  exact q σ r H (.refl r H) he hs
theorem ds_one {s : Stmt} {g : FS} (h : DS X s g) : DSs X [s] g := pss_one h
theorem ds_cons {s : Stmt} {rest : List Stmt} {g h : FS} (hg : DS X s g) (hr : DSs X rest h) : DSs X (s :: rest) (sSeq g h) := weakSs (pss_cons hg hr) fun D' σ H hh => by
  obtain ⟨r, env, st, o, env', st', he, hs, hf, q⟩ := hh
  obtain ⟨⟨o1, e1, s1⟩, h1, h2⟩ := Option.bind_eq_some_iff.mp hf
  refine ⟨r, env, st, o1, e1, s1, he, hs, h1, ?_⟩
  cases o1 with
  | nx => exact fun σ' r' H' ex he' hs' => ⟨r', e1, s1, o, env', st', he', hs', h2, q.ext ex⟩
  | bk => cases h2; exact q
  | ct => cases h2; exact q
  | rt d => cases h2; exact q
def sRet (f : F) : FS := fun env st => (f env st).map fun p => (.rt p.1, env, p.2)
theorem ds_ret {e : Expr} {f : F} {pos : Pos} (h : DE X e f) : DS X (.Return (some e) pos) (sRet f) := weakS (ps_ret h) fun D' σ H hh => by
  obtain ⟨r, env, st, o, env', st', he, hs, hf, q⟩ := hh
  obtain ⟨⟨d, s1⟩, h1, h2⟩ := Option.map_eq_some_iff.mp hf
  cases h2
  exact ⟨r, env, st, d, _, he, hs, h1, q⟩
def sRetN : FS := fun env st => some (.rt .non, env, st)
theorem ds_retN {pos : Pos} : DS X (.Return none pos) sRetN := weakS ps_retN fun D' σ H hh => by
  obtain ⟨r, env, st, o, env', st', he, hs, hf, q⟩ := hh
  cases hf
  exact q _ r H (.refl r H) hs .non
def sBrk : FS := fun env st => some (.bk, env, st)
def sCnt : FS := fun env st => some (.ct, env, st)
theorem ds_pass {pos : Pos} : DS X (.Pass pos) sNil := weakS ps_pass fun D' σ H hh => by
  obtain ⟨r, env, st, o, env', st', he, hs, hf, q⟩ := hh
  cases hf
  exact q σ r H (.refl r H) he hs
theorem ds_brk {pos : Pos} : DS X (.Break pos) sBrk := weakS ps_break fun D' σ H hh => by
  obtain ⟨r, env, st, o, env', st', he, hs, hf, q⟩ := hh
  cases hf
  exact q σ r H (.refl r H) he hs
theorem ds_cnt {pos : Pos} : DS X (.Continue pos) sCnt := weakS ps_continue fun D' σ H hh => by
  obtain ⟨r, env, st, o, env', st', he, hs, hf, q⟩ := hh
  cases hf
  exact q σ r H (.refl r H) he hs
def sDrop (f : F) : FS := fun env st => (f env st).map fun p => (.nx, env, p.2)
theorem ds_expr {e : Expr} {f : F} {pos : Pos} (h : DE X e f) (hs : swapsWith e none pos.line X.env = pure false := by rfl) : DS X (.Expr e pos) (sDrop f) := weakS (ps_expr h hs) fun D' σ H hh => by
  obtain ⟨r, env, st, o, env', st', he, hs, hf, q⟩ := hh
  obtain ⟨⟨d, s1⟩, h1, h2⟩ := Option.map_eq_some_iff.mp hf
  cases h2
  exact ⟨r, env, st, d, _, he, hs, h1, fun v r1 H1 e1 q1 p1 => q σ r1 H1 e1 (he.ext e1) q1⟩
def sIf (t : FT) (g h : FS) : FS := fun env st => (t env st).bind fun p => if p.1 = true then g env p.2 else h env p.2
theorem ds_if {c : Expr} {a b : List Stmt} {t : FT} {g h : FS} {pos : Pos} (hc : DT X c t) (ha : DSs X a g) (hb : DSs X b h) : DS X (.If c a b pos) (sIf t g h) := weakS (ps_if hc ha hb) fun D' σ H hh => by
  obtain ⟨r, env, st, o, env', st', he, hs, hf, q⟩ := hh
  obtain ⟨⟨k, s1⟩, h1, h2⟩ := Option.bind_eq_some_iff.mp hf
  refine ⟨r, env, st, k, s1, he, hs, h1, fun r1 H1 e1 q1 => ?_⟩
  cases k with
  | true => exact ⟨r1, env, s1, o, env', st', he.ext e1, q1, h2, q.ext e1⟩
  | false => exact ⟨r1, env, s1, o, env', st', he.ext e1, q1, h2, q.ext e1⟩

/-! ### targets -/
abbrev FG := D → Lo → Option Lo
abbrev FGs := List D → Lo → Option Lo
def tG (K : PySem.W.Frag) (g : FG) : TG := fun v σ H Q => ∃ r env d env', EnvR K r H env σ ∧ Rep K r H v d ∧ g d env = some env' ∧ ∀ σ', EnvR K r H env' σ' → Q σ' H
def tGs (K : PySem.W.Frag) (g : FGs) : TGs := fun vs σ H Q => ∃ r env ds env', EnvR K r H env σ ∧ RepL K r H vs ds ∧ g ds env = some env' ∧ ∀ σ', EnvR K r H env' σ' → Q σ' H
abbrev DG (X : Cx) (e : Expr) (g : FG) : Prop := PG X e (tG X.K g)
abbrev DGs (X : Cx) (e : List Expr) (g : FGs) : Prop := PGs X e (tGs X.K g)
theorem weakG {e : Expr} {t t' : TG} (h : PG X e t) (i : ∀ v σ H Q, t' v σ H Q → t v σ H Q) : PG X e t' := ⟨fun pins s σ H v u Q I r q => h.run pins s σ H v u Q I r (i v σ H Q q)⟩
theorem weakGs {e : List Expr} {t t' : TGs} (h : PGs X e t) (i : ∀ v σ H Q, t' v σ H Q → t v σ H Q) : PGs X e t' := ⟨fun pins s σ H v u Q I r q => h.run pins s σ H v u Q I r (i v σ H Q q)⟩
def gN (i : Nat) : FG := fun d env => some (env.set i (some d))
theorem dg_name (i : Nat) {x : Str} {pos : Pos} (hN : X.N.Nodup) (hi : X.N[i]? = some x := by rfl) (hx : Loc X.env.scope x := by first | exact Or.inl rfl | exact Or.inr rfl) (hf : X.fn x = true ∨ X.env.scope.names.lookup x = some .local := by first | exact .inl rfl | exact .inr rfl | assumption) : DG X (.Name x pos) (gN i) :=
  weakG (pg_name hN hi hx hf) fun v σ H Q hh => by
  obtain ⟨r, env, d, env', he, hr, hg, q⟩ := hh
  cases hg
  exact q _ (he.set hr i)
def gNil' : FGs := fun ds env => match ds with | [] => some env | _ => none
def gCons' (g : FG) (h : FGs) : FGs := fun ds env => match ds with | d :: r => (g d env).bind fun e1 => h r e1 | [] => none
theorem dgs_nil : DGs X [] gNil' := weakGs pgs_nil fun v σ H Q hh => by
  obtain ⟨r, env, ds, env', he, hr, hg, q⟩ := hh
  cases ds with
  | nil =>
    cases hg
    cases hr
    exact ⟨rfl, q _ he⟩
  | cons a b => cases hg
theorem dgs_cons {e : Expr} {es : List Expr} {g : FG} {h : FGs} (h1 : DG X e g) (h2 : DGs X es h) (hs : (assignEach (e :: es) X.env).map (·.2) = assign e X.env :: (assignEach es X.env).map (·.2) := by rfl) : DGs X (e :: es) (gCons' g h) := weakGs (pgs_cons h1 h2 hs) fun v σ H Q hh => by
  obtain ⟨r, env, ds, env', he, hr, hg, q⟩ := hh
  cases ds with
  | nil => cases hg
  | cons a b =>
    cases hr with
    | cons ra rb =>
      obtain ⟨e1, g1, g2⟩ := Option.bind_eq_some_iff.mp hg
      exact ⟨_, _, rfl, r, env, a, e1, he, ra, g1, fun σ' he' => ⟨r, e1, b, env', he', rb, g2, q⟩⟩
def gT (n : Nat) (h : FGs) : FG := fun d env => match d with | .tup ds => if ds.length = n then h ds env else none | _ => none
theorem Rep.sqT {r : Rf} {H : Hp} {v : V} {ds : List D} (h : Rep K r H v (.tup ds)) : ∃ a xs, v = .ref a ∧ SqT K H a xs ∧ RepL K r H xs ds := by
  cases h with
  | tup a b c => exact ⟨_, _, rfl, .inl (.inl a), c⟩
  | tupK a b c d e f => exact ⟨_, _, rfl, .inr ⟨_, _, _, a, b, c, d, e⟩, f⟩
theorem dg_tup {es : List Expr} {k n : Nat} {h : FGs} {pos : Pos} (hc : X.calm = true) (hh : DGs X es h) (hn : (assignEach es X.env).length = n := by rfl) (hst : (assignEach es X.env).findIdx? (·.1) = none := by rfl) : DG X (.Tuple es k pos) (gT n h) :=
  weakG (pg_tup hc hh hn hst) fun v σ H Q hh => by
  obtain ⟨r, env, d, env', he, hr, hg, q⟩ := hh
  cases d with
  | tup ds =>
    obtain ⟨a, xs, e, s, l⟩ := hr.sqT
    have hg' : (if ds.length = n then h ds env else none) = some env' := hg
    by_cases hl : ds.length = n
    · rw [if_pos hl] at hg'
      exact ⟨a, xs, e, s, by rw [l.len]; exact hl, r, env, ds, env', he, l, hg', q⟩
    · rw [if_neg hl] at hg'
      cases hg'
  | _ => cases hg
def sAsg (f : F) (g : FG) : FS := fun env st => (f env st).bind fun p => (g p.1 env).map fun e1 => (.nx, e1, p.2)
theorem asgReads {f : F} {g : FG} (D' : Ends) (σ : L2.St) (H : Hp) (hh : tS K (sAsg f g) D' σ H) : tAsg (tD K f) (tG K g) D' σ H := by
  obtain ⟨r, env, st, o, env', st', he, hs, hf, q⟩ := hh
  obtain ⟨⟨d, s1⟩, h1, h2⟩ := Option.bind_eq_some_iff.mp hf
  obtain ⟨e1, h3, h4⟩ := Option.map_eq_some_iff.mp h2
  cases h4
  exact ⟨r, env, st, d, _, he, hs, h1, fun v r1 H1 x1 q1 p1 => ⟨r1, env, d, _, he.ext x1, p1, h3, fun σ' he' => q σ' r1 H1 x1 he' q1⟩⟩
theorem ds_asg {tg e : Expr} {f : F} {g : FG} {pos : Pos} (he : DE X e f) (hg : DG X tg g) (hs : swapsWithSole [tg] e pos.line X.env = pure false := by rfl) (hw : swappedStores [tg] e X.env = pure none := by rfl)
    (h1 : (assignEach [tg] X.env).map (·.2) = [assign tg X.env] := by rfl) : DS X (.Assign [tg] e pos) (sAsg f g) := weakS (ps_asg he hg hs hw h1) fun D' σ H hh => asgReads D' σ H hh
end
end DL
namespace DL
open PySem PySem.Spec PyProof.Rows L2
variable {K : PySem.W.Frag}

/-! ### what is walked -/
abbrev FI := Lo → Store → Option (List D × Store)
/-- the iterator yields these data, whatever has become known since -/
def ItOk (K : PySem.W.Frag) (J : It) (r : Rf) (H : Hp) (ds : List D) : Prop :=
  ∀ r1 H1 st1, Ext r H r1 H1 → Sim K r1 H1 st1 → (∀ i, ds.length ≤ i → J.stop i H1) ∧
    ∀ (i : Nat) d, ds[i]? = some d → J.go i H1 ∧ ∀ x H2, J.yld i H1 x H2 → ∃ r2, Ext r1 H1 r2 H2 ∧ Sim K r2 H2 st1 ∧ Rep K r2 H2 x d
def tI (K : PySem.W.Frag) (f : FI) : TI := fun σ H R => ∃ r env st ds st', EnvR K r H env σ ∧ Sim K r H st ∧ f env st = some (ds, st') ∧ ∀ J r' H', Ext r H r' H' → Sim K r' H' st' → ItOk K J r' H' ds → R J H'
abbrev DI (X : Cx) (tg iter : Expr) (f : FI) : Prop := PI X tg iter (tI X.K f)
theorem ItOk.ext {J : It} {r r' : Rf} {H H' : Hp} {ds : List D} (h : ItOk K J r H ds) (e : Ext r H r' H') : ItOk K J r' H' ds := fun r1 H1 st1 e1 s1 => h r1 H1 st1 (e.trans e1) s1

section
variable {X : Cx} {tg iter : Expr}
theorem weakI {t t' : TI} (h : PI X tg iter t) (i : ∀ σ H Q, t' σ H Q → t σ H Q) : PI X tg iter t' := ⟨fun pins s σ H Q I q => h.run pins s σ H Q I (i σ H Q q)⟩

def asL : D → Option (List D) | .lst ds => some ds | _ => none
def asT : D → Option (List D) | .tup ds => some ds | _ => none
def asScr : D → Option (List D) | .scr ns => some (ns.map D.int) | _ => none
def asStr : D → Option (List D) | .str x => some (x.cps.toList.map fun c => .str ⟨#[c]⟩) | _ => none
def iOf (a : D → Option (List D)) (f : F) : FI := fun env st => (f env st).bind fun p => (a p.1).map fun ds => (ds, p.2)
theorem iOf_some {a : D → Option (List D)} {f : F} {env : Lo} {st : Store} {z : List D × Store} (h : iOf a f env st = some z) : ∃ d, f env st = some (d, z.2) ∧ a d = some z.1 := by
  obtain ⟨⟨x, s1⟩, h1, h2⟩ := Option.bind_eq_some_iff.mp h
  obtain ⟨ds, h3, h4⟩ := Option.map_eq_some_iff.mp h2
  cases h4
  exact ⟨x, h1, h3⟩
theorem sql_ok {J : It} {a : Addr} {r : Rf} {H : Hp} {xs : List V} {ds : List D} (hJ : J = Itl K a) (h : ∀ r1 H1, Ext r H r1 H1 → SqL K H1 a xs) (l : RepL K r H xs ds) : ItOk K J r H ds := fun r1 H1 st1 e1 s1 => by
  subst hJ
  have q := h r1 H1 e1
  have l1 := l.ext e1
  refine ⟨fun i hi => ⟨xs, q, by rw [l.len]; exact hi⟩, fun i d hd => ?_⟩
  obtain ⟨v, hv, rv⟩ := l1.get hd
  exact ⟨⟨xs, v, q, hv⟩, fun x H2 ⟨e, y⟩ => by
    subst e
    have := y xs q
    rw [hv] at this
    cases this
    exact ⟨r1, .refl _ _, s1, rv⟩⟩
theorem di_lst {f : F} (h : DE X iter f) : DI X tg iter (iOf asL f) := weakI (pi_list h) fun σ H R hh => by
  obtain ⟨r, env, st, ds, st', he, hs, hf, q⟩ := hh
  obtain ⟨d, h1, h2⟩ := iOf_some hf
  refine ⟨r, env, st, d, st', he, hs, h1, fun v r1 H1 e1 q1 p1 => ?_⟩
  cases d with
  | lst es =>
    cases h2
    cases p1 with
    | lst a b c => exact ⟨_, rfl, ⟨_, .of a⟩, q _ r1 H1 e1 q1 (sql_ok rfl (fun r2 H2 e2 => .of (e2.keep _ _ a b)) c)⟩
  | _ => cases h2
theorem di_scr {f : F} (h : DE X iter f) : DI X tg iter (iOf asScr f) := weakI (pi_list h) fun σ H R hh => by
  obtain ⟨r, env, st, ds, st', he, hs, hf, q⟩ := hh
  obtain ⟨d, h1, h2⟩ := iOf_some hf
  refine ⟨r, env, st, d, st', he, hs, h1, fun v r1 H1 e1 q1 p1 => ?_⟩
  cases d with
  | scr es =>
    cases h2
    cases p1 with
    | scr a b => exact ⟨_, rfl, ⟨_, .inl (.inr ⟨_, a⟩)⟩, q _ r1 H1 e1 q1 (sql_ok rfl (fun r2 H2 e2 => .inl (.inr ⟨_, e2.keep _ _ a b⟩)) (RepL.ofInts es))⟩
    | scrK a b c d e f => exact ⟨_, rfl, ⟨_, .inr ⟨_, _, _, a, b, c, d, e, f⟩⟩, q _ r1 H1 e1 q1 (sql_ok rfl (fun r2 H2 e2 => .inr ⟨_, _, _, a, b, c, d, e, f⟩) (RepL.ofInts es))⟩
  | _ => cases h2
theorem di_tup {f : F} (h : DE X iter f) : DI X tg iter (iOf asT f) := weakI (pi_tup h) fun σ H R hh => by
  obtain ⟨r, env, st, ds, st', he, hs, hf, q⟩ := hh
  obtain ⟨d, h1, h2⟩ := iOf_some hf
  refine ⟨r, env, st, d, st', he, hs, h1, fun v r1 H1 e1 q1 p1 => ?_⟩
  cases d with
  | tup es =>
    have ees : es = ds := Option.some.inj h2
    subst ees
    have key : ∀ {a : Addr} {xs : List V}, (∀ r2 H2, Ext r1 H1 r2 H2 → SqT X.K H2 a xs) → RepL X.K r1 H1 xs es → ItOk X.K (Itt X.K a) r1 H1 es := fun {a xs} hq l r2 H2 st2 e2 s2 => by
      have qq := hq r2 H2 e2
      have l1 := l.ext e2
      refine ⟨fun i hi => ⟨xs, qq, by rw [l.len]; exact hi⟩, fun i d hd => ?_⟩
      obtain ⟨v, hv, rv⟩ := l1.get hd
      exact ⟨⟨xs, v, qq, hv⟩, fun x H3 ⟨e, y⟩ => by
        subst e
        have := y xs qq
        rw [hv] at this
        cases this
        exact ⟨r2, .refl _ _, s2, rv⟩⟩
    cases p1 with
    | tup a b c => exact ⟨_, rfl, ⟨_, .of a⟩, q _ r1 H1 e1 q1 (key (fun r2 H2 e2 => .of (e2.keep _ _ a b)) c)⟩
    | tupK a b c d e f => exact ⟨_, rfl, ⟨_, .inr ⟨_, _, _, a, b, c, d, e⟩⟩, q _ r1 H1 e1 q1 (key (fun r2 H2 e2 => .inr ⟨_, _, _, a, b, c, d, e⟩) f)⟩
  | _ => cases h2
theorem di_str {f : F} (h : DE X iter f) : DI X tg iter (iOf asStr f) := weakI (pi_str h) fun σ H R hh => by
  obtain ⟨r, env, st, ds, st', he, hs, hf, q⟩ := hh
  obtain ⟨d, h1, h2⟩ := iOf_some hf
  refine ⟨r, env, st, d, st', he, hs, h1, fun v r1 H1 e1 q1 p1 => ?_⟩
  cases d with
  | str x =>
    cases h2
    cases p1
    refine ⟨x, rfl, q _ r1 H1 e1 q1 fun r2 H2 st2 e2 s2 => ⟨fun i hi => ?_, fun i d hd => ?_⟩⟩
    · show x.cps.size ≤ i
      simpa using hi
    · rw [List.getElem?_map] at hd
      obtain ⟨c, hc, e⟩ := Option.map_eq_some_iff.mp hd
      subst e
      have hc' : x.cps[i]? = some c := by simpa using hc
      refine ⟨(Array.getElem?_eq_some_iff.mp hc').1, fun y H3 ⟨e, c', hc2, ey⟩ => ?_⟩
      subst e
      rw [hc'] at hc2
      cases hc2
      subst ey
      exact ⟨r2, .refl _ _, s2, .str _⟩
  | _ => cases h2
/-- range(n) -/
def rg (lo hi : Int) : List D := (List.range (hi - lo).toNat).map fun k => .int (lo + (k : Nat))
def asR1 : List D → Option (List D) | [.int n] => if -(2 ^ 62) ≤ n ∧ n < 2 ^ 62 then some (rg 0 n) else none | _ => none
def asR2 : List D → Option (List D) | [.int i, .int n] => if (-(2 ^ 62) ≤ i ∧ i < 2 ^ 62) ∧ (-(2 ^ 62) ≤ n ∧ n < 2 ^ 62) then some (rg i n) else none | _ => none
def iOfA (a : List D → Option (List D)) (f : FA) : FI := fun env st => (f env st).bind fun p => (a p.1).map fun ds => (ds, p.2)
theorem iOfA_some {a : List D → Option (List D)} {f : FA} {env : Lo} {st : Store} {z : List D × Store} (h : iOfA a f env st = some z) : ∃ d, f env st = some (d, z.2) ∧ a d = some z.1 := by
  obtain ⟨⟨x, s1⟩, h1, h2⟩ := Option.bind_eq_some_iff.mp h
  obtain ⟨ds, h3, h4⟩ := Option.map_eq_some_iff.mp h2
  cases h4
  exact ⟨x, h1, h3⟩
theorem rng_ok {lo hi : Int} {r : Rf} {H : Hp} : ItOk K (Itr lo (hi - lo).toNat) r H (rg lo hi) := fun r1 H1 st1 e1 s1 => by
  refine ⟨fun i h => ?_, fun i d hd => ?_⟩
  · show (hi - lo).toNat ≤ i
    simpa [rg] using h
  · unfold rg at hd
    rw [List.getElem?_map] at hd
    obtain ⟨c, hc, e⟩ := Option.map_eq_some_iff.mp hd
    subst e
    obtain ⟨h1, h2⟩ := List.getElem?_eq_some_iff.mp hc
    rw [List.getElem_range] at h2
    subst h2
    refine ⟨by show i < (hi - lo).toNat; simpa using h1, fun x H2 ⟨e, y⟩ => ?_⟩
    subst e
    subst y
    exact ⟨r1, .refl _ _, s1, .int _⟩
theorem di_range1 {a : Expr} {fa : FA} {p pos : Pos} (hg : Gl X "range") (hm : X.mg "range" = none) (ha : DA X [a] fa) (hs : starEach [a] X.env = [(false, eval a X.env)] := by rfl) : DI X tg (.Call (.Name "range" p) [a] [] pos) (iOfA asR1 fa) := weakI (pi_range1 hg hm ha hs) fun σ H R hh => by
  obtain ⟨r, env, st, ds, st', he, hs, hf, q⟩ := hh
  obtain ⟨d, h1, h2⟩ := iOfA_some hf
  refine ⟨r, env, st, d, st', he, hs, h1, fun v r1 H1 e1 q1 p1 => ?_⟩
  unfold asR1 at h2
  split at h2
  · rename_i n
    split at h2
    · rename_i hn
      cases h2
      cases p1 with
      | cons pa pb =>
        cases pa
        cases pb
        refine ⟨n, rfl, hn.1, hn.2, q _ r1 H1 e1 q1 ?_⟩
        have z : (n - 0).toNat = n.toNat := by rw [Int.sub_zero]
        have := rng_ok (K := X.K) (lo := 0) (hi := n) (r := r1) (H := H1)
        rw [z] at this
        exact this
    · cases h2
  · cases h2
theorem di_range2 {a b : Expr} {fa : FA} {p pos : Pos} (hg : Gl X "range") (hm : X.mg "range" = none) (ha : DA X [a, b] fa) (hs : starEach [a, b] X.env = [(false, eval a X.env), (false, eval b X.env)] := by rfl) (hs2 : starEach [b] X.env = [(false, eval b X.env)] := by rfl) :
    DI X tg (.Call (.Name "range" p) [a, b] [] pos) (iOfA asR2 fa) := weakI (pi_range2 hg hm ha hs hs2) fun σ H R hh => by
  obtain ⟨r, env, st, ds, st', he, hs, hf, q⟩ := hh
  obtain ⟨d, h1, h2⟩ := iOfA_some hf
  refine ⟨r, env, st, d, st', he, hs, h1, fun v r1 H1 e1 q1 p1 => ?_⟩
  unfold asR2 at h2
  split at h2
  · rename_i i n
    split at h2
    · rename_i hn
      cases h2
      cases p1 with
      | cons pa pb =>
        cases pa
        cases pb with
        | cons pc pd =>
          cases pc
          cases pd
          exact ⟨i, n, rfl, ⟨hn.1.1, hn.1.2, hn.2.1, hn.2.2⟩, q _ r1 H1 e1 q1 rng_ok⟩
    · cases h2
  · cases h2
/-- for i, x in enumerate(xs) -/
def pairUp : Nat → List D → List D
  | _, [] => []
  | n, d :: ds => .tup [.int (n : Int), d] :: pairUp (n + 1) ds
def asEn : List D → Option (List D) | [.lst ds] => some (pairUp 0 ds) | _ => none
end

/-! ### for -/
def loopS (tg : FG) (body : FS) : List D → Lo → Store → Option (Out × Lo × Store)
  | [], env, st => some (.nx, env, st)
  | d :: ds, env, st => (tg d env).bind fun e1 => (body e1 st).bind fun p => match p with
    | (.nx, e2, s2) => loopS tg body ds e2 s2
    | (.ct, e2, s2) => loopS tg body ds e2 s2
    | (.bk, e2, s2) => some (.nx, e2, s2)
    | (.rt v, e2, s2) => some (.rt v, e2, s2)
def sFor (fi : FI) (tg : FG) (body : FS) : FS := fun env st => (fi env st).bind fun p => loopS tg body p.1 env p.2
section
variable {X : Cx} {tg iter : Expr}
theorem ds_for {body : List Stmt} {fi : FI} {g : FG} {b : FS} {pos : Pos} (hp : PassesOwn (model X.prog X.w) X.A X.env X.xe) (hc : X.calm = true) (hi : DI X tg iter fi) (hg : DG X tg g) (hb : DSs X body b)
    (hs : ∀ x, foldedSetIterable iter X.env x = pure x := by intro _; rfl) : DS X (.For tg iter body [] pos) (sFor fi g b) := weakS (ps_for hp hc hi hg hb hs) fun D' σ H hh => by
  obtain ⟨r, env, st, o, env', st', he, hs, hf, q⟩ := hh
  obtain ⟨⟨ds, s1⟩, h1, h2⟩ := Option.bind_eq_some_iff.mp hf
  refine ⟨r, env, st, ds, s1, he, hs, h1, fun J r1 H1 e1 q1 j1 => ?_⟩
  refine ⟨fun i m σ2 H2 => m = ds.length - i ∧ i ≤ ds.length ∧ ∃ r2 env2 st2, Ext r1 H1 r2 H2 ∧ EnvR X.K r2 H2 env2 σ2 ∧ Sim X.K r2 H2 st2 ∧ loopS g b (ds.drop i) env2 st2 = some (o, env', st'),
    ⟨_, rfl, Nat.zero_le _, r1, env, s1, .refl _ _, he.ext e1, q1, h2⟩, ?_⟩
  rintro i m σ2 H2 ⟨rfl, hi, r2, env2, st2, e2, he2, hs2, h3⟩
  obtain ⟨jst, jgo⟩ := j1 r2 H2 st2 e2 hs2
  by_cases hlt : i < ds.length
  · have hd : ds[i]? = some ds[i] := List.getElem?_eq_getElem hlt
    rw [List.drop_eq_getElem_cons hlt] at h3
    obtain ⟨env3, g1, h4⟩ := Option.bind_eq_some_iff.mp h3
    obtain ⟨⟨o4, env4, st4⟩, g2, h5⟩ := Option.bind_eq_some_iff.mp h4
    obtain ⟨j2, j3⟩ := jgo i _ hd
    refine .inr ⟨j2, fun σ' H' => i + 1 ≤ ds.length ∧ ∃ r2 env2 st2, Ext r1 H1 r2 H' ∧ EnvR X.K r2 H' env2 σ' ∧ Sim X.K r2 H' st2 ∧ loopS g b (ds.drop (i + 1)) env2 st2 = some (o, env', st'),
      fun σ' H' ⟨hi', w⟩ => ⟨ds.length - (i + 1), by omega, rfl, hi', w⟩, fun x H3 y => ?_⟩
    obtain ⟨r3, e3, hs3, rx⟩ := j3 x H3 y
    refine ⟨r3, env2, ds[i], env3, he2.ext e3, rx, g1, fun σ3 he3 => ⟨r3, env3, st2, o4, env4, st4, he3, hs3, g2, ?_⟩⟩
    cases o4 with
    | nx => exact fun σ' r' H' e' a c => ⟨by omega, r', env4, st4, (e2.trans e3).trans e', a, c, h5⟩
    | ct => exact fun σ' r' H' e' a c => ⟨by omega, r', env4, st4, (e2.trans e3).trans e', a, c, h5⟩
    | bk =>
      cases h5
      exact fun σ' r' H' e' a c => q σ' r' H' (((e1.trans e2).trans e3).trans e') a c
    | rt v =>
      cases h5
      exact fun v r' H' e' a c => q v r' H' (((e1.trans e2).trans e3).trans e') a c
  · have e : i = ds.length := by omega
    subst e
    rw [List.drop_length] at h3
    cases h3
    exact .inl ⟨jst _ (Nat.le_refl _), q σ2 r2 H2 (e1.trans e2) he2 hs2⟩
end

/-! ### a new object that is being made: hidden, then shown as a value, or taken into the store -/
def Rf.hide (r : Rf) (p : Addr) : Rf := ⟨r.adr, fun a => r.av a ∨ a = p⟩
def Rf.shown (r : Rf) (p : Addr) : Rf := ⟨r.adr, fun a => r.av a ∧ a ≠ p⟩
def Rf.add (r : Rf) (p : Addr) : Rf := ⟨r.adr ++ [p], r.av⟩
structure Hid (K : PySem.W.Frag) (r : Rf) (H : Hp) (st : Store) (p : Addr) : Prop where
  av : r.av p
  na : p ∉ r.adr
  sim : Sim K r H st
theorem hideNew {r : Rf} {H : Hp} {st : Store} {p : Addr} {o : HO} (q1 : Sim K r H st) (hD : H p = none) : Ext r H (r.hide p) (upd H p o) ∧ Hid K (r.hide p) (upd H p o) st p := by
  have e0 : Ext r H (r.hide p) (upd H p o) := ⟨⟨⟨[], by simp [Rf.hide]⟩, fun a x h _ => same_alloc hD a x h, fun a h n => by
    rcases h with h | h
    · exact absurd h n
    · rw [h]; exact hD⟩, fun a b c => ⟨by obtain ⟨o, h⟩ := q1.there a b; rw [h]; exact same_alloc hD a o h, .inl b, c⟩⟩
  refine ⟨e0, .inr rfl, fun z => ?_, q1.len, q1.nd, fun n a x h1 h2 => (q1.ob n a x h1 h2).ex e0.toEx (fun v => ⟨?_, .inl v⟩), fun a v => ?_, fun a v => ?_⟩
  · obtain ⟨x, y⟩ := q1.old p z
    rw [hD] at y; cases y
  · obtain ⟨x, z⟩ := q1.there a v
    rw [z]; exact same_alloc hD a x z
  · rcases v with v | v
    · obtain ⟨x, z⟩ := q1.there a v
      exact ⟨x, same_alloc hD a x z⟩
    · exact ⟨_, by rw [v]; exact upd_same⟩
  · obtain ⟨x, z⟩ := q1.old a v
    exact ⟨x, same_alloc hD a x z⟩
theorem Hid.ext {r r' : Rf} {H H' : Hp} {st st' : Store} {p : Addr} (h : Hid K r H st p) (e : Ext r H r' H') (s : Sim K r' H' st') : Hid K r' H' st' p ∧ H' p = H p :=
  let ⟨a, b, c⟩ := e.hid p h.av h.na; ⟨⟨b, c, s⟩, a⟩
/-- the hidden object is taken into the store -/
theorem Hid.add {r r0 : Rf} {H H0 : Hp} {st st0 : Store} {p : Addr} {o : HO} {ob : Ob} (h : Hid K r H st p) (e : Ext r0 H0 r H) (q0 : Sim K r0 H0 st0) (hn : H0 p = none) (hob : ObR K (r.add p) (upd H p o) p ob) :
    Ext r0 H0 (r.add p) (upd H p o) ∧ Sim K (r.add p) (upd H p o) (st ++ [ob]) ∧ ∀ d, d = D.ref st.length → Rep K (r.add p) (upd H p o) (.ref p) d := by
  have ex : Ex r H (r.add p) (upd H p o) := ⟨⟨[p], rfl⟩, fun q x z n => by rw [upd_ne (fun y => n (by rw [y]; exact h.av))]; exact z, fun q z n => absurd z n⟩
  refine ⟨⟨e.toEx.trans ex, fun q a b => ?_⟩, ⟨?_, ?_, fun n a x h1 h2 => ?_, fun q v => ?_, fun q v => ?_⟩, fun d hd => ?_⟩
  · obtain ⟨z1, z2, z3⟩ := e.hid q a b
    have nq : q ≠ p := fun y => by
      obtain ⟨x, z⟩ := q0.there q a
      rw [y, hn] at z; cases z
    exact ⟨by rw [upd_ne nq]; exact z1, z2, fun z => by
      rcases List.mem_append.mp z with z | z
      · exact z3 z
      · exact nq (List.mem_singleton.mp z)⟩
  · show (r.adr ++ [p]).length = (st ++ [ob]).length
    rw [List.length_append, List.length_append, h.sim.len]; rfl
  · exact List.nodup_append.mpr ⟨h.sim.nd, by simp, fun a ha b hb e => h.na (by rw [List.mem_singleton.mp hb] at e; rw [← e]; exact ha)⟩
  · by_cases hlt : n < r.adr.length
    · have h1' : r.adr[n]? = some a := by
        have : (r.adr ++ [p])[n]? = some a := h1
        rwa [List.getElem?_append_left hlt] at this
      have h2' : st[n]? = some x := by rwa [List.getElem?_append_left (by rw [← h.sim.len]; exact hlt)] at h2
      exact (h.sim.ob n a x h1' h2').ex ex fun v => ⟨by rw [upd_ne (fun y => h.na (by rw [← y]; exact List.mem_of_getElem? h1'))], v⟩
    · have hl : n = r.adr.length := by
        have : n < (r.adr ++ [p]).length := (List.getElem?_eq_some_iff.mp (show (r.adr ++ [p])[n]? = some a from h1)).1
        rw [List.length_append, List.length_singleton] at this
        omega
      have e1 : a = p := by
        have : (r.adr ++ [p])[n]? = some a := h1
        rw [hl, List.getElem?_append_right (Nat.le_refl _), Nat.sub_self] at this
        exact (Option.some.inj this).symm
      have e2 : x = ob := by
        rw [hl, h.sim.len, List.getElem?_append_right (Nat.le_refl _), Nat.sub_self] at h2
        exact (Option.some.inj h2).symm
      rw [e1, e2]; exact hob
  · by_cases z : q = p
    · exact ⟨_, by rw [z]; exact upd_same⟩
    · rw [upd_ne z]; exact h.sim.there q v
  · by_cases z : q = p
    · exact ⟨_, by rw [z]; exact upd_same⟩
    · rw [upd_ne z]
      rcases List.mem_append.mp v with v | v
      · exact h.sim.old q v
      · exact absurd (List.mem_singleton.mp v) z
  · subst hd
    refine .ref ?_
    show (r.adr ++ [p])[st.length]? = some p
    rw [← h.sim.len, List.getElem?_append_right (Nat.le_refl _), Nat.sub_self]; rfl
/-! ### list comprehensions of one clause, the target one name or several (slots is) -/
def setL {α : Type} : List Nat → List α → List (Option α) → List (Option α)
  | i :: is, v :: vs, σ => setL is vs (σ.set i (some v))
  | _, _, σ => σ
theorem setL_length {α : Type} : ∀ (is : List Nat) (vs : List α) (σ : List (Option α)), (setL is vs σ).length = σ.length
  | [], _, _ => rfl
  | _ :: _, [], _ => rfl
  | i :: is, v :: vs, σ => by unfold setL; rw [setL_length is vs, List.length_set]
theorem setL_out {α : Type} {j : Nat} : ∀ (is : List Nat) (vs : List α) (σ : List (Option α)), j ∉ is → (setL is vs σ)[j]? = σ[j]?
  | [], _, _, _ => rfl
  | _ :: _, [], _, _ => rfl
  | i :: is, v :: vs, σ, h => by
    unfold setL
    rw [setL_out is vs _ (fun z => h (List.mem_cons_of_mem _ z)), List.getElem?_set_ne (fun z => h (by rw [z]; exact List.mem_cons_self))]
theorem wipe_in {σ : L2.St} {j : Nat} : ∀ {is : List Nat}, j ∈ is → (wipe σ is)[j]? = σ[j]?.map fun _ => none
  | [], h => by cases h
  | i :: is, h => by
    unfold wipe
    by_cases z : i = j
    · subst z
      by_cases hi : i < σ.length
      · rw [List.getElem?_set_self (by rw [wipe_length]; exact hi), List.getElem?_eq_getElem hi]; rfl
      · rw [List.getElem?_eq_none (by rw [List.length_set, wipe_length]; omega), List.getElem?_eq_none (by omega)]; rfl
    · rw [List.getElem?_set_ne z]
      rcases List.mem_cons.mp h with e | e
      · exact absurd e.symm z
      · exact wipe_in e
theorem wipe_setL (σ : L2.St) (is : List Nat) (vs : List V) : wipe (setL is vs (wipe σ is)) is = wipe σ is := by
  refine List.ext_getElem? fun j => ?_
  by_cases h : j ∈ is
  · rw [wipe_in h]
    by_cases hj : j < σ.length
    · have h1 : j < (setL is vs (wipe σ is)).length := by rw [setL_length, wipe_length]; exact hj
      have h2 : j < (wipe σ is).length := by rw [wipe_length]; exact hj
      rw [List.getElem?_eq_getElem h1, wipe_in h, List.getElem?_eq_getElem hj]; rfl
    · rw [List.getElem?_eq_none (by rw [setL_length, wipe_length]; omega), List.getElem?_eq_none (by rw [wipe_length]; omega)]; rfl
  · rw [wipe_out h, setL_out is vs _ h]
/-- the slots of a block's own names, forgotten -/
def wipeL (env : Lo) : List Nat → Lo
  | [] => env
  | i :: is => (wipeL env is).set i none
theorem EnvR.wipeL {r : Rf} {H : Hp} {env : Lo} {σ : L2.St} (h : EnvR K r H env σ) : ∀ is : List Nat, EnvR K r H (DL.wipeL env is) (L2.wipe σ is)
  | [] => h
  | i :: is => EnvR.wipe (EnvR.wipeL h is) i
theorem EnvR.setL {r : Rf} {H : Hp} : ∀ {is : List Nat} {vs : List V} {ds : List D} {env : Lo} {σ : L2.St}, EnvR K r H env σ → RepL K r H vs ds → EnvR K r H (DL.setL is ds env) (DL.setL is vs σ)
  | [], _, _, _, _, h, _ => h
  | _ :: _, _, _, _, _, h, .nil => h
  | i :: is, _ :: _, _ :: _, env, σ, h, .cons a b => by
    have := EnvR.setL (is := is) (EnvR.set h a i) b
    exact this
/-- how a target takes an item -/
abbrev FB := D → Option (List D)
def b1 : FB := fun d => some [d]
def bT (n : Nat) : FB := fun d => match d with | .tup ds => if ds.length = n then some ds else none | _ => none
def loopC (is : List Nat) (bd : FB) (t : FT) (f : F) : List D → Lo → Store → Option (List D × Store)
  | [], _, st => some ([], st)
  | d :: ds, env, st => (bd d).bind fun vs => (t (setL is vs env) st).bind fun p => if p.1 = true then (f (setL is vs env) p.2).bind fun q => (loopC is bd t f ds env q.2).map fun z => (q.1 :: z.1, z.2) else loopC is bd t f ds env p.2
def fComp (fi : FI) (is : List Nat) (bd : FB) (t : FT) (f : F) : F := fun env st => (fi env st).bind fun p => (loopC is bd t f p.1 (wipeL env is) p.2).bind fun q => if q.1.length ≤ sizeLine then some (.lst q.1, q.2) else none
/-- a raw target -/
def TgOk (K : PySem.W.Frag) (g : TG) (is : List Nat) (bd : FB) : Prop := ∀ r H x d σ (Q : L2.St → Hp → Prop) vals, Rep K r H x d → bd d = some vals → (∀ vs, RepL K r H vs vals → Q (setL is vs σ) H) → g x σ H Q
theorem tg1 (i : Nat) : TgOk K (gName i) [i] b1 := fun r H x d σ Q vals hr hb q => by
  cases hb
  exact q [x] (.cons hr .nil)
def tTrue : FT := fun _ st => some (true, st)
abbrev DTs (X : Cx) (ifs : List Expr) (t : FT) : Prop := PTs X ifs (tT X.K t)
section
variable {X : Cx} {tg iter : Expr}
theorem weakTs {ifs : List Expr} {t t' : TT} (h : PTs X ifs t) (i : ∀ σ H Q, t' σ H Q → t σ H Q) : PTs X ifs t' := ⟨fun pins s σ H Q I q => h.run pins s σ H Q I (i σ H Q q)⟩
theorem dts_nil : DTs X [] tTrue := weakTs pts_nil fun σ H Q hh => by
  obtain ⟨r, env, st, b, st', he, hs, hf, q⟩ := hh
  cases hf
  exact q r H (.refl r H) hs
theorem dts_one {c : Expr} {t : FT} (h : DT X c t) : DTs X [c] t := pts_one h
theorem compReads {fi : FI} {is : List Nat} {bd : FB} {g : TG} {t : FT} {f : F} (hg : TgOk K g is bd) (σ : L2.St) (H : Hp) (Q : VK) (hh : tD K (fComp fi is bd t f) σ H Q) : tLc (tI K fi) g (tT K t) (tD K f) is σ H Q := by
  obtain ⟨r, env, st, d, st', he, hs, hf, q⟩ := hh
  obtain ⟨⟨ds, s1⟩, h1, h2⟩ := Option.bind_eq_some_iff.mp hf
  obtain ⟨⟨zs, s2⟩, h3, h4⟩ := Option.bind_eq_some_iff.mp h2
  by_cases hz : zs.length ≤ sizeLine
  case neg => rw [if_neg hz] at h4; cases h4
  rw [if_pos hz] at h4
  cases h4
  refine ⟨r, env, st, ds, s1, he, hs, h1, fun J r1 H1 e1 q1 j1 Dl hD => ?_⟩
  have nD : ¬ r1.av Dl := q1.free hD
  have nDa : Dl ∉ r1.adr := fun z => by
    obtain ⟨x, y⟩ := q1.old Dl z
    rw [hD] at y; cases y
  -- the new list's place is not to be leant on
  have e0 : Ext r1 H1 (r1.hide Dl) (upd H1 Dl (.lst [])) := ⟨⟨⟨[], by simp [Rf.hide]⟩, fun p o h _ => same_alloc hD p o h, fun p h n => by
    rcases h with h | h
    · exact absurd h n
    · rw [h]; exact hD⟩, fun p a b => ⟨by obtain ⟨o, h⟩ := q1.there p a; rw [h]; exact same_alloc hD p o h, .inl a, b⟩⟩
  have q0 : Sim K (r1.hide Dl) (upd H1 Dl (.lst [])) s1 := by
    refine ⟨q1.len, q1.nd, fun n a o h1 h2 => (q1.ob n a o h1 h2).ex e0.toEx (fun v => ⟨?_, .inl v⟩), fun p v => ?_, fun p v => ?_⟩
    · obtain ⟨x, z⟩ := q1.there a v
      rw [z]; exact same_alloc hD a x z
    · rcases v with v | v
      · obtain ⟨x, z⟩ := q1.there p v
        exact ⟨x, same_alloc hD p x z⟩
      · exact ⟨_, by rw [v]; exact upd_same⟩
    · obtain ⟨x, z⟩ := q1.old p v
      exact ⟨x, same_alloc hD p x z⟩
  have wp : EnvR K (r1.hide Dl) (upd H1 Dl (.lst [])) (DL.wipeL env is) (wipe σ is) := ((he.ext e1).ext e0).wipeL is
  -- the list grows
  have grow : ∀ {r2 : Rf} {H2 : Hp} {st2 : Store} {us : List V} (y : V), Sim K r2 H2 st2 → r2.av Dl → Dl ∉ r2.adr → H2 Dl = some (.lst us) → Ex r2 H2 r2 (upd H2 Dl (.lst (us ++ [y]))) ∧ Sim K r2 (upd H2 Dl (.lst (us ++ [y]))) st2 := fun {r2 H2 st2 us} y s2 a b c => by
    have e : Ex r2 H2 r2 (upd H2 Dl (.lst (us ++ [y]))) := ⟨⟨[], by simp⟩, fun p o h n => by
      have np : p ≠ Dl := fun z => n (by rw [z]; exact a)
      rw [upd_ne np]; exact h, fun p h n => absurd h n⟩
    refine ⟨e, s2.len, s2.nd, fun n p o h1 h2 => (s2.ob n p o h1 h2).ex e fun v => ⟨?_, v⟩, fun p v => ?_, fun p v => ?_⟩
    · have np : p ≠ Dl := fun z => b (by rw [← z]; exact List.mem_of_getElem? h1)
      rw [upd_ne np]
    · by_cases z : p = Dl
      · exact ⟨_, by rw [z]; exact upd_same⟩
      · rw [upd_ne z]; exact s2.there p v
    · by_cases z : p = Dl
      · exact ⟨_, by rw [z]; exact upd_same⟩
      · rw [upd_ne z]; exact s2.old p v
  refine ⟨fun k m H2 => m = ds.length - k ∧ k ≤ ds.length ∧ ∃ r2 st2 acc us ys, Ex (r1.hide Dl) (upd H1 Dl (.lst [])) r2 H2 ∧ (∀ p, r1.av p → p ∉ r1.adr → H2 p = H1 p ∧ r2.av p ∧ p ∉ r2.adr) ∧ r2.av Dl ∧ Dl ∉ r2.adr ∧ Sim K r2 H2 st2 ∧ H2 Dl = some (.lst us) ∧ RepL K r2 H2 us acc ∧
    loopC is bd t f (ds.drop k) (DL.wipeL env is) st2 = some (ys, s2) ∧ acc ++ ys = zs, ⟨_, rfl, Nat.zero_le _, r1.hide Dl, s1, [], [], zs, ⟨⟨[], by simp⟩, fun _ _ h _ => h, fun _ h n => absurd h n⟩, fun p a b => e0.hid p a b, .inr rfl, nDa, q0, upd_same, .nil, h3, rfl⟩, ?_⟩
  rintro k m H2 ⟨rfl, hk, r2, st2, acc, us, ys, e2, hid, av, nad, sm, hus, racc, hl, hcat⟩
  have e12 : Ext r1 H1 r2 H2 := ⟨e0.toEx.trans e2, hid⟩
  obtain ⟨jst, jgo⟩ := j1 r2 H2 st2 e12 sm
  by_cases hlt : k < ds.length
  case neg =>
    have e : k = ds.length := by omega
    subst e
    rw [List.drop_length] at hl
    cases hl
    rw [List.append_nil] at hcat
    subst hcat
    refine .inl ⟨jst _ (Nat.le_refl _), ?_⟩
    have es : Ex r2 H2 (r2.shown Dl) H2 := ⟨⟨[], by simp [Rf.shown]⟩, fun p o h _ => h, fun p h n => absurd h.1 n⟩
    have ef : Ext r1 H1 (r2.shown Dl) H2 := by
      refine ⟨⟨e12.pre, fun p o h n => e12.keep p o h n, fun p h n => e12.new p h.1 n⟩, fun p a b => ?_⟩
      obtain ⟨z1, z2, z3⟩ := hid p a b
      exact ⟨z1, ⟨z2, fun z => nD (by rw [← z]; exact a)⟩, z3⟩
    refine q (.ref Dl) (r2.shown Dl) H2 (e1.trans ef) ⟨sm.len, sm.nd, fun n p o h1 h2 => (sm.ob n p o h1 h2).ex es fun v => ⟨rfl, v, fun z => nad (by rw [← z]; exact List.mem_of_getElem? h1)⟩, fun p v => sm.there p v.1, sm.old⟩ (.lst hus (fun z => z.2 rfl) (racc.ex es))
  case pos =>
    have hd : ds[k]? = some ds[k] := List.getElem?_eq_getElem hlt
    rw [List.drop_eq_getElem_cons hlt] at hl
    obtain ⟨vals, hv, hl1⟩ := Option.bind_eq_some_iff.mp hl
    obtain ⟨⟨b, st3⟩, hb, hl2⟩ := Option.bind_eq_some_iff.mp hl1
    obtain ⟨j2, j3⟩ := jgo k _ hd
    refine .inr ⟨j2, fun H' => k + 1 ≤ ds.length ∧ ∃ r2 st2 acc us ys, Ex (r1.hide Dl) (upd H1 Dl (.lst [])) r2 H' ∧ (∀ p, r1.av p → p ∉ r1.adr → H' p = H1 p ∧ r2.av p ∧ p ∉ r2.adr) ∧ r2.av Dl ∧ Dl ∉ r2.adr ∧ Sim K r2 H' st2 ∧ H' Dl = some (.lst us) ∧ RepL K r2 H' us acc ∧
      loopC is bd t f (ds.drop (k + 1)) (DL.wipeL env is) st2 = some (ys, s2) ∧ acc ++ ys = zs, fun H' ⟨hk', w⟩ => ⟨ds.length - (k + 1), by omega, rfl, hk', w⟩, fun x H3 y => ?_⟩
    obtain ⟨r3, e3, s3, rx⟩ := j3 x H3 y
    have hid3 : ∀ {ra : Rf} {Ha : Hp}, Ext r2 H2 ra Ha → (∀ p, r1.av p → p ∉ r1.adr → Ha p = H1 p ∧ ra.av p ∧ p ∉ ra.adr) ∧ ra.av Dl ∧ Dl ∉ ra.adr ∧ Ha Dl = some (.lst us) := fun {ra Ha} ea => by
      obtain ⟨z1, z2, z3⟩ := ea.hid Dl av nad
      refine ⟨fun p a b => ?_, z2, z3, z1.trans hus⟩
      obtain ⟨y1, y2, y3⟩ := hid p a b
      obtain ⟨x1, x2, x3⟩ := ea.hid p y2 y3
      exact ⟨x1.trans y1, x2, x3⟩
    have wp2 : EnvR K r3 H3 (DL.wipeL env is) (wipe σ is) := by
      have a : EnvR K r2 H2 (DL.wipeL env is) (wipe σ is) := ⟨wp.len, fun j dd z => let ⟨v, a, b⟩ := wp.at_ j dd z; ⟨v, a, b.ex e2⟩⟩
      exact a.ext e3
    refine hg r3 H3 x _ _ _ vals rx hv fun vs rvs => ⟨wipe_setL σ is vs, ?_⟩
    · have he3 : EnvR K r3 H3 (DL.setL is vals (DL.wipeL env is)) (DL.setL is vs (wipe σ is)) := wp2.setL rvs
      refine ⟨r3, _, st2, b, st3, he3, s3, hb, fun r4 H4 e4 s4 => ?_⟩
      cases b with
      | false =>
        rw [if_neg Bool.false_ne_true] at hl2 ⊢
        have e24 : Ext r2 H2 r4 H4 := e3.trans e4
        obtain ⟨w1, w2, w3, w4⟩ := hid3 e24
        exact ⟨hlt, r4, st3, acc, us, ys, e2.trans e24.toEx, w1, w2, w3, s4, w4, racc.ext e24, hl2, hcat⟩
      | true =>
        rw [if_pos rfl] at hl2 ⊢
        obtain ⟨⟨yd, st4⟩, hy, hl3⟩ := Option.bind_eq_some_iff.mp hl2
        obtain ⟨⟨ys', st5⟩, hl4, hl5⟩ := Option.map_eq_some_iff.mp hl3
        cases hl5
        refine ⟨r4, _, st3, yd, st4, he3.ext e4, s4, hy, fun yv r5 H5 e5 s5 ry => ?_⟩
        have e25 : Ext r2 H2 r5 H5 := (e3.trans e4).trans e5
        obtain ⟨w1, w2, w3, w4⟩ := hid3 e25
        obtain ⟨g1, g2⟩ := grow yv s5 w2 w3 w4
        refine ⟨us, w4, ?_, hlt, r5, st4, acc ++ [yd], us ++ [yv], ys', (e2.trans e25.toEx).trans g1, fun p a c => ?_, w2, w3, g2, upd_same, ((racc.ext e25).ex g1).append (.cons (ry.ex g1) .nil), hl4, by rw [← hcat, List.append_assoc]; rfl⟩
        · rw [racc.len]
          have : (acc ++ yd :: ys').length ≤ sizeLine := by rw [hcat]; exact hz
          rw [List.length_append, List.length_cons] at this
          omega
        · obtain ⟨x1, x2, x3⟩ := w1 p a c
          have np : p ≠ Dl := fun z => nD (by rw [← z]; exact a)
          exact ⟨by rw [upd_ne np]; exact x1, x2, x3⟩
/-- [elt for x in xs if ..] -/
theorem de_lc {elt : Expr} {ifs : List Expr} {scope : Scope} {own : List (Str × Nat)} {pos : Pos} {fi : FI} {bd : FB} {g : TG} {t : FT} {f : F} (hc : X.calm = true) (hN : X.N.Nodup) (hi : DI X tg iter fi) (ok : BlkOk X.N X.env.scope scope own)
    (tk : TgOk X.K g (own.map (·.2)) bd)
    (hg : ∀ (s : Shared) (H : Hp) (C : Addr) (cl : List (Str × Addr)) (fp : List Addr), PG (X.blk s H scope (compEnvC scope cl C X.env) fp) tg g) (ht : ∀ (s : Shared) (H : Hp) (C : Addr) (cl : List (Str × Addr)) (fp : List Addr), DTs (X.blk s H scope (compEnvC scope cl C X.env) fp) ifs t)
    (he : ∀ (s : Shared) (H : Hp) (C : Addr) (cl : List (Str × Addr)) (fp : List Addr), DE (X.blk s H scope (compEnvC scope cl C X.env) fp) elt f) (hs : ∀ x, foldedSetIterable iter X.env x = pure x := by intro _; rfl) :
    DE X (.ListComp elt [⟨tg, iter, ifs, 0⟩] scope pos) (fComp fi (own.map (·.2)) bd t f) := weakE (pe_lc hc hN hi ok hg ht he hs) fun σ H Q hh => compReads tk σ H Q hh
/-- y = [elt for x in xs if ..] on one line -/
theorem ds_setLc {i : Nat} {y : Str} {py : Pos} {elt : Expr} {ifs : List Expr} {scope : Scope} {own : List (Str × Nat)} {pos spos : Pos} {fi : FI} {bd : FB} {g : TG} {t : FT} {f : F} (hc : X.calm = true) (hN : X.N.Nodup) (hy : X.N[i]? = some y) (hyl : X.env.scope.names.lookup y = some .local)
    (hsw : swapsWith (.ListComp elt [⟨tg, iter, ifs, 0⟩] scope pos) (some (.Name y py)) spos.line X.env = pure true) (hi : DI X tg iter fi) (ok : BlkOk X.N X.env.scope scope own)
    (tk : TgOk X.K g (own.map (·.2)) bd)
    (hg : ∀ (s : Shared) (H : Hp) (C : Addr) (cl : List (Str × Addr)) (fp : List Addr), PG (X.blk s H scope (compEnvC scope cl C X.env) fp) tg g) (ht : ∀ (s : Shared) (H : Hp) (C : Addr) (cl : List (Str × Addr)) (fp : List Addr), DTs (X.blk s H scope (compEnvC scope cl C X.env) fp) ifs t)
    (he : ∀ (s : Shared) (H : Hp) (C : Addr) (cl : List (Str × Addr)) (fp : List Addr), DE (X.blk s H scope (compEnvC scope cl C X.env) fp) elt f) (hs : ∀ x, foldedSetIterable iter X.env x = pure x := by intro _; rfl) :
    DS X (.Assign [.Name y py] (.ListComp elt [⟨tg, iter, ifs, 0⟩] scope pos) spos) (sAsg (fComp fi (own.map (·.2)) bd t f) (gN i)) := weakS (ps_setLc hc hN hy hyl hsw hi ok hg ht he hs) fun D' σ H hh => by
  obtain ⟨r, env, st, o, env', st', he, hs, hf, q⟩ := hh
  obtain ⟨⟨d, s1⟩, h1, h2⟩ := Option.bind_eq_some_iff.mp hf
  obtain ⟨e1, h3, h4⟩ := Option.map_eq_some_iff.mp h2
  cases h4
  cases h3
  exact compReads tk σ H _ ⟨r, env, st, d, _, he, hs, h1, fun v r1 H1 x1 q1 p1 => q _ r1 H1 x1 ((he.ext x1).set p1 i) q1⟩
end
end DL
namespace DL
open PySem PySem.Spec PyProof.Rows L2
open Builtin.Int (intBits)
variable {K : PySem.W.Frag}
/-- a rule by kinds: one of several -/
def R2Ok (K : PySem.W.Frag) (r : R2) (g : D → D → Option D) : Prop :=
  ∀ (rho : Rf) (H : Hp) (x y : V) (a b d : D) (st : Store) (Q : VK), Sim K rho H st → Rep K rho H x a → Rep K rho H y b → g a b = some d → (∀ v H', Same H H' → Rep K rho H' v d → Q v H') → r x y H Q
section
variable {X : Cx}
/-- the first of two functions that answers -/
def orD (g g' : D → D → Option D) : D → D → Option D := fun a b => (g a b).or (g' a b)
theorem OpOk.or {f : Value → Value → Sem Value} {g g' : D → D → Option D} (h : OpOk X f g) (h' : OpOk X f g') : OpOk X f (orD g g') := by
  obtain ⟨r, hr, k⟩ := h
  obtain ⟨r', hr', k'⟩ := h'
  refine ⟨_, hr.or hr', fun rho H x y a b d st Q si ra rb e q => ?_⟩
  unfold orD at e
  cases z : g a b with
  | some c =>
    rw [z] at e
    cases e
    exact .inl (k rho H x y a b _ st Q si ra rb z q)
  | none =>
    rw [z] at e
    exact .inr (k' rho H x y a b d st Q si ra rb e q)
/-- two ints, under a condition -/
def onI (c : Int → Int → Prop) [∀ i j, Decidable (c i j)] (g : Int → Int → D) : D → D → Option D := fun a b => match a, b with
  | .int i, .int j => if c i j then some (g i j) else none
  | _, _ => none
theorem onI_some {c : Int → Int → Prop} [∀ i j, Decidable (c i j)] {g : Int → Int → D} {a b d : D} (h : onI c g a b = some d) : ∃ i j, a = .int i ∧ b = .int j ∧ c i j ∧ d = g i j := by
  cases a <;> cases b <;> first
    | cases h; done
    | skip
  rename_i i j
  have h' : (if c i j then some (g i j) else none) = some d := h
  by_cases z : c i j
  · rw [if_pos z] at h'
    cases h'
    exact ⟨i, j, rfl, rfl, z, rfl⟩
  · rw [if_neg z] at h'
    cases h'
theorem ok_int {f : Value → Value → Sem Value} {c C : Int → Int → Prop} [∀ i j, Decidable (c i j)] {g : Int → Int → Int} (h : OpR X f (rI C fun i j => .int (g i j))) (hc : ∀ i j, c i j → C i j) : OpOk X f (onI c fun i j => .int (g i j)) :=
  ⟨_, h, fun rho H x y a b d st Q si ra rb e q => by
    obtain ⟨i, j, rfl, rfl, z, rfl⟩ := onI_some e
    cases ra
    cases rb
    exact ⟨i, j, rfl, rfl, hc i j z, q _ H (fun _ _ h => h) (.int _)⟩⟩
theorem ok_int0 {f : Value → Value → Sem Value} {g : Int → Int → Int} (h : OpR X f (rI0 fun i j => .int (g i j))) : OpOk X f (onI (fun _ _ => True) fun i j => .int (g i j)) :=
  ⟨_, h, fun rho H x y a b d st Q si ra rb e q => by
    obtain ⟨i, j, rfl, rfl, z, rfl⟩ := onI_some e
    cases ra
    cases rb
    exact ⟨i, j, rfl, rfl, q _ H (fun _ _ h => h) (.int _)⟩⟩
theorem ok_intB {f : Value → Value → Sem Value} {g : Int → Int → Bool} (h : OpR X f (rI0 fun i j => .bl (g i j))) : OpOk X f (onI (fun _ _ => True) fun i j => .bl (g i j)) :=
  ⟨_, h, fun rho H x y a b d st Q si ra rb e q => by
    obtain ⟨i, j, rfl, rfl, z, rfl⟩ := onI_some e
    cases ra
    cases rb
    exact ⟨i, j, rfl, rfl, q _ H (fun _ _ h => h) (.bl _)⟩⟩
/-- two texts -/
def onS (c : Str → Str → Prop) [∀ i j, Decidable (c i j)] (g : Str → Str → D) : D → D → Option D := fun a b => match a, b with
  | .str i, .str j => if c i j then some (g i j) else none
  | _, _ => none
theorem onS_some {c : Str → Str → Prop} [∀ i j, Decidable (c i j)] {g : Str → Str → D} {a b d : D} (h : onS c g a b = some d) : ∃ i j, a = .str i ∧ b = .str j ∧ c i j ∧ d = g i j := by
  cases a <;> cases b <;> first
    | cases h; done
    | skip
  rename_i i j
  have h' : (if c i j then some (g i j) else none) = some d := h
  by_cases z : c i j
  · rw [if_pos z] at h'
    cases h'
    exact ⟨i, j, rfl, rfl, z, rfl⟩
  · rw [if_neg z] at h'
    cases h'

/-! ### + - * // % ** -/
def addI : D → D → Option D := onI (fun _ _ => True) fun i j => .int (i + j)
theorem ok_addI : OpOk X (binaryOp .Add) addI := ok_int0 op_add
def subI : D → D → Option D := onI (fun _ _ => True) fun i j => .int (i - j)
theorem ok_subI : OpOk X (binaryOp .Sub) subI := ok_int0 op_sub
def mulI : D → D → Option D := onI (fun i j => intBits i + intBits j ≤ 134217728) fun i j => .int (i * j)
theorem op_mulL : OpR X (binaryOp .Mult) (rI IntMulOk fun i j => .int (i * j)) := opI fun _ _ _ _ _ _ _ hc q => mul_int q hc
theorem ok_mulI : OpOk X (binaryOp .Mult) mulI := ok_int op_mulL fun i j h => IntMulOk.of_le (Nat.le_refl _) (Nat.le_refl _) h
def fdivI : D → D → Option D := onI (fun _ j => 0 < j ∧ j < 1073741824) fun i j => .int (i / j)
theorem ok_fdivI : OpOk X (binaryOp .FloorDiv) fdivI := ok_int op_fdiv fun i j h => h
def modI : D → D → Option D := onI (fun _ j => 0 < j) fun i j => .int (i % j)
theorem ok_modI : OpOk X (binaryOp .Mod) modI := ok_int op_mod fun i j h => h
def powI : D → D → Option D := onI (fun i j => 0 ≤ j ∧ (intBits i : Int) * j ≤ 2 ^ 27) fun i j => .int (i ^ j.toNat)
theorem op_powL : OpR X (binaryOp .Pow) (rI (fun i j => 0 ≤ j ∧ (intBits i : Int) * j ≤ 2 ^ 27) fun i j => .int (i ^ j.toNat)) := opI fun _ _ _ _ _ _ _ hc q => pow_int hc.1 hc.2 q
theorem ok_powI : OpOk X (binaryOp .Pow) powI := ok_int op_powL fun i j h => h
def addS : D → D → Option D := onS (fun i j => i.length + j.length ≤ sizeLine) fun i j => .str (i ++ j)
theorem ok_addS : OpOk X (binaryOp .Add) addS := ⟨_, op_add_str, fun rho H x y a b d st Q si ra rb e q => by
  obtain ⟨i, j, rfl, rfl, z, rfl⟩ := onS_some e
  cases ra
  cases rb
  exact ⟨i, j, rfl, rfl, z, q _ H (fun _ _ h => h) (.str _)⟩⟩
def addL : D → D → Option D := fun a b => match a, b with
  | .lst xs, .lst ys => if xs.length + ys.length ≤ sizeLine then some (.lst (xs ++ ys)) else none
  | _, _ => none
theorem ok_addL : OpOk X (binaryOp .Add) addL := ⟨_, op_cat, fun rho H x y a b d st Q si ra rb e q => by
  cases a <;> cases b <;> first
    | cases e; done
    | skip
  rename_i xs ys
  have e' : (if xs.length + ys.length ≤ sizeLine then some (D.lst (xs ++ ys)) else none) = some d := e
  by_cases z : xs.length + ys.length ≤ sizeLine
  · rw [if_pos z] at e'
    cases e'
    cases ra with
    | lst a1 a2 a3 =>
      cases rb with
      | lst b1 b2 b3 =>
        refine ⟨_, _, _, _, rfl, rfl, a1, b1, by rw [a3.len, b3.len]; exact z, fun p hp => ?_⟩
        exact q _ _ (same_alloc hp) (.lst upd_same (si.free hp) ((a3.append b3).ex (Ex.same rho (same_alloc hp))))
  · rw [if_neg z] at e'
    cases e'⟩
/-- t + u -/
def addT : D → D → Option D := fun a b => match a, b with
  | .tup xs, .tup ys => if xs.length + ys.length ≤ sizeLine then some (.tup (xs ++ ys)) else none
  | _, _ => none
theorem ok_addT : OpOk X (binaryOp .Add) addT := ⟨_, op_catA, fun rho H x y a b d st Q si ra rb e q => by
  cases a <;> cases b <;> first
    | cases e; done
    | skip
  rename_i xs ys
  have e' : (if xs.length + ys.length ≤ sizeLine then some (D.tup (xs ++ ys)) else none) = some d := e
  by_cases z : xs.length + ys.length ≤ sizeLine
  · rw [if_pos z] at e'
    cases e'
    obtain ⟨pa, us, rfl, sa, la⟩ := ra.sqT
    obtain ⟨pb, vs, rfl, sb, lb⟩ := rb.sqT
    refine ⟨pa, pb, us, vs, rfl, rfl, sa, sb, by rw [la.len, lb.len]; exact z, fun h => ?_, fun h h2 => ?_, fun _ _ p hp => ?_⟩
    · subst h
      cases la
      exact q _ H (fun _ _ h => h) rb
    · subst h2
      cases lb
      rw [List.append_nil] at q
      exact q _ H (fun _ _ h => h) ra
    · exact q _ _ (same_alloc hp) (.tup upd_same (si.free hp) ((la.append lb).ex (Ex.same rho (same_alloc hp))))
  · rw [if_neg z] at e'
    cases e'⟩
/-- x * n of a text -/
def mulS : D → D → Option D := fun a b => match a, b with
  | .str x, .int n => if 0 ≤ n ∧ n ≤ 1000 ∧ x.length ≤ 1000 then some (.str (Txt.mul x n)) else none
  | _, _ => none
theorem mulOk_small {x : Str} {n : Int} (h0 : 0 ≤ n) (h1 : n ≤ 1000) (h2 : x.length ≤ 1000) : MulOk x n := by
  refine ⟨?_, fun h _ => ?_, fun _ _ => ?_⟩
  · have a : ¬ n < -(2 ^ 63 : Int) := by omega
    have b : ¬ n ≥ 2 ^ 63 := by omega
    rw [decide_eq_false a, decide_eq_false b]; rfl
  · have hn : 0 < n := by omega
    intro z
    have : (2 ^ 63 - 1 : Int) / 1000 ≤ (2 ^ 63 - 1) / n := by
      refine Int.le_ediv_of_mul_le hn ?_
      omega
    omega
  · unfold Builtin.Str.tooLong
    have : x.length * n.toNat ≤ 1000 * 1000 := Nat.mul_le_mul h2 (by omega)
    have hs := sizeLine_eq
    rw [hs]
    exact decide_eq_false (by omega)
theorem op_mulS : OpR X (binaryOp .Mult) (fun x y H Q => ∃ i n, x = .str i ∧ y = .int n ∧ MulOk i n ∧ Q (.str (Txt.mul i n)) H) := by
  intro pins s σ H x y v u Q I rx ry h
  obtain ⟨i, n, rfl, rfl, hz, q⟩ := h
  obtain ⟨t, rfl⟩ := rx
  obtain ⟨t', rfl⟩ := ry
  exact SB.mul hz fun t' k => ⟨.str _, H, I.tok _, ⟨_, rfl⟩, q⟩
theorem ok_mulS : OpOk X (binaryOp .Mult) mulS := ⟨_, op_mulS, fun rho H x y a b d st Q si ra rb e q => by
  cases a <;> cases b <;> first
    | cases e; done
    | skip
  rename_i xs n
  have e' : (if 0 ≤ n ∧ n ≤ 1000 ∧ xs.length ≤ 1000 then some (D.str (Txt.mul xs n)) else none) = some d := e
  by_cases z : 0 ≤ n ∧ n ≤ 1000 ∧ xs.length ≤ 1000
  · rw [if_pos z] at e'
    cases e'
    cases ra
    cases rb
    exact ⟨xs, n, rfl, rfl, mulOk_small z.1 z.2.1 z.2.2, q _ H (fun _ _ h => h) (.str _)⟩
  · rw [if_neg z] at e'
    cases e'⟩
def opAdd : D → D → Option D := orD addI (orD addS (orD addL addT))
theorem ok_add : OpOk X (binaryOp .Add) opAdd := ok_addI.or (ok_addS.or (ok_addL.or ok_addT))
def opMul : D → D → Option D := orD mulI mulS
theorem ok_mul : OpOk X (binaryOp .Mult) opMul := ok_mulI.or ok_mulS

/-! ### comparisons -/
mutual
def toPy : D → Option PyData
  | .non => some .none
  | .bl b => some (.bool b)
  | .int i => some (.int i)
  | .str x => some (.str x)
  | .tup ds => (toPyL ds).map .tuple
  | .lst ds => (toPyL ds).map .list
  | .dct _ => none
  | .scr _ => none
  | .ref _ => none
def toPyL : List D → Option (List PyData)
  | [] => some []
  | d :: ds => (toPy d).bind fun p => (toPyL ds).map fun q => p :: q
end
mutual
theorem Rep.dp {r : Rf} {H : Hp} : ∀ {d : D} {v : V} {p : PyData}, Rep K r H v d → toPy d = some p → Dp K H v p
  | .non, _, _, .non, h => by cases h; exact .non
  | .bl _, _, _, .bl _, h => by cases h; exact .bl _
  | .int _, _, _, .int _, h => by cases h; exact .int _
  | .str _, _, _, .str _, h => by cases h; exact .str _
  | .tup ds, _, p, h, e => by
    obtain ⟨q, h1, h2⟩ := Option.map_eq_some_iff.mp (show (toPyL ds).map PyData.tuple = some p from e)
    subst h2
    obtain ⟨a, xs, rfl, s, l⟩ := h.sqT
    exact .tup s (RepL.dp l h1)
  | .lst ds, _, p, .lst a b c, e => by
    obtain ⟨q, h1, h2⟩ := Option.map_eq_some_iff.mp (show (toPyL ds).map PyData.list = some p from e)
    subst h2
    exact .lst (.of a) (RepL.dp c h1)
  | .dct _, _, _, _, e => by cases e
  | .scr _, _, _, _, e => by cases e
  | .ref _, _, _, _, e => by cases e
theorem RepL.dp {r : Rf} {H : Hp} : ∀ {ds : List D} {vs : List V} {ps : List PyData}, RepL K r H vs ds → toPyL ds = some ps → DpAll K H vs ps
  | [], _, _, .nil, h => by cases h; exact .nil
  | d :: ds, _, ps, .cons a b, h => by
    obtain ⟨p, h1, h2⟩ := Option.bind_eq_some_iff.mp (show ((toPy d).bind fun p => (toPyL ds).map fun q => p :: q) = some ps from h)
    obtain ⟨q, h3, h4⟩ := Option.map_eq_some_iff.mp h2
    subst h4
    exact .cons (Rep.dp a h1) (RepL.dp b h3)
end
def opEq : D → D → Option D := fun a b => (toPy a).bind fun p => (toPy b).bind fun q => if SeqAt.shaped p = true ∧ SeqAt.shaped q = true then some (.bl (PyData.eqv p q)) else none
def opNe : D → D → Option D := fun a b => (toPy a).bind fun p => (toPy b).bind fun q => if SeqAt.shaped p = true ∧ SeqAt.shaped q = true then some (.bl (!PyData.eqv p q)) else none
theorem ok_eq {k : Nat} (g : GX X k) : OpOk X (compareOp .Eq) opEq := ⟨_, op_eqD g.room.units, fun rho H x y a b d st Q si ra rb e q => by
  obtain ⟨p, h1, h2⟩ := Option.bind_eq_some_iff.mp e
  obtain ⟨p2, h3, h4⟩ := Option.bind_eq_some_iff.mp h2
  by_cases z : SeqAt.shaped p = true ∧ SeqAt.shaped p2 = true
  · rw [if_pos z] at h4
    cases h4
    exact ⟨p, p2, ra.dp h1, rb.dp h3, z.1, z.2, q _ H (fun _ _ h => h) (.bl _)⟩
  · rw [if_neg z] at h4
    cases h4⟩
theorem ok_ne {k : Nat} (g : GX X k) : OpOk X (compareOp .NotEq) opNe := ⟨_, op_neD g.room.units, fun rho H x y a b d st Q si ra rb e q => by
  obtain ⟨p, h1, h2⟩ := Option.bind_eq_some_iff.mp e
  obtain ⟨p2, h3, h4⟩ := Option.bind_eq_some_iff.mp h2
  by_cases z : SeqAt.shaped p = true ∧ SeqAt.shaped p2 = true
  · rw [if_pos z] at h4
    cases h4
    exact ⟨p, p2, ra.dp h1, rb.dp h3, z.1, z.2, q _ H (fun _ _ h => h) (.bl _)⟩
  · rw [if_neg z] at h4
    cases h4⟩
def ltI : D → D → Option D := onI (fun _ _ => True) fun i j => .bl (decide (i < j))
def leI : D → D → Option D := onI (fun _ _ => True) fun i j => .bl (decide (i ≤ j))
def gtI : D → D → Option D := onI (fun _ _ => True) fun i j => .bl (decide (j < i))
def geI : D → D → Option D := onI (fun _ _ => True) fun i j => .bl (decide (j ≤ i))
theorem op_gt_str : OpR X (compareOp .Gt) (fun x y H Q => ∃ i j, x = .str i ∧ y = .str j ∧ Q (.bl (decide (j.cps.toList < i.cps.toList))) H) := by
  intro pins s σ H x y v u Q I rx ry h
  obtain ⟨i, j, rfl, rfl, q⟩ := h
  obtain ⟨t, rfl⟩ := rx
  obtain ⟨t', rfl⟩ := ry
  exact PySem.P.gt_str (fin_bl I q rfl)
theorem op_ge_str : OpR X (compareOp .GtE) (fun x y H Q => ∃ i j, x = .str i ∧ y = .str j ∧ Q (.bl (!decide (i.cps.toList < j.cps.toList))) H) := by
  intro pins s σ H x y v u Q I rx ry h
  obtain ⟨i, j, rfl, rfl, q⟩ := h
  obtain ⟨t, rfl⟩ := rx
  obtain ⟨t', rfl⟩ := ry
  exact PySem.P.ge_str (fin_bl I q rfl)
def ltS : D → D → Option D := onS (fun _ _ => True) fun i j => .bl (decide (i.cps.toList < j.cps.toList))
def leS : D → D → Option D := onS (fun _ _ => True) fun i j => .bl (!decide (j.cps.toList < i.cps.toList))
def gtS : D → D → Option D := onS (fun _ _ => True) fun i j => .bl (decide (j.cps.toList < i.cps.toList))
def geS : D → D → Option D := onS (fun _ _ => True) fun i j => .bl (!decide (i.cps.toList < j.cps.toList))
theorem ok_strB {f : Value → Value → Sem Value} {g : Str → Str → Bool} (h : OpR X f (fun x y H Q => ∃ i j, x = .str i ∧ y = .str j ∧ Q (.bl (g i j)) H)) : OpOk X f (onS (fun _ _ => True) fun i j => .bl (g i j)) :=
  ⟨_, h, fun rho H x y a b d st Q si ra rb e q => by
    obtain ⟨i, j, rfl, rfl, z, rfl⟩ := onS_some e
    cases ra
    cases rb
    exact ⟨i, j, rfl, rfl, q _ H (fun _ _ h => h) (.bl _)⟩⟩
def opLt : D → D → Option D := orD ltI ltS
def opLe : D → D → Option D := orD leI leS
def opGt : D → D → Option D := orD gtI gtS
def opGe : D → D → Option D := orD geI geS
theorem ok_lt : OpOk X (compareOp .Lt) opLt := (ok_intB op_lt).or (ok_strB op_lt_str)
theorem ok_le : OpOk X (compareOp .LtE) opLe := (ok_intB op_le).or (ok_strB op_le_str)
theorem ok_gt : OpOk X (compareOp .Gt) opGt := (ok_intB op_gt).or (ok_strB op_gt_str)
theorem ok_ge : OpOk X (compareOp .GtE) opGe := (ok_intB op_ge).or (ok_strB op_ge_str)
/-- is None -/
def isNon : D → Bool | .non => true | _ => false
def isN : D → D → Option D := fun a b => match b with | .non => some (.bl (isNon a)) | _ => none
def isntN : D → D → Option D := fun a b => match b with | .non => some (.bl (!isNon a)) | _ => none
theorem rep_non {r : Rf} {H : Hp} {v : V} {a : D} (h : Rep K r H v a) : decide (v = .non) = isNon a := by cases h <;> rfl
theorem ok_isN : OpOk X (compareOp .Is) isN := ⟨_, op_isN, fun rho H x y a b d st Q si ra rb e q => by
  cases b with
  | non =>
    cases e
    cases rb
    exact ⟨rfl, by rw [rep_non ra]; exact q _ H (fun _ _ h => h) (.bl _)⟩
  | _ => cases e⟩
theorem ok_isntN : OpOk X (compareOp .IsNot) isntN := ⟨_, op_notN, fun rho H x y a b d st Q si ra rb e q => by
  cases b with
  | non =>
    cases e
    cases rb
    exact ⟨rfl, by rw [rep_non ra]; exact q _ H (fun _ _ h => h) (.bl _)⟩
  | _ => cases e⟩
def isB : D → D → Option D := fun a b => match a, b with | .bl x, .bl y => some (.bl (decide (x = y))) | _, _ => none
def isntB : D → D → Option D := fun a b => match a, b with | .bl x, .bl y => some (.bl (!decide (x = y))) | _, _ => none
theorem ok_isB : OpOk X (compareOp .Is) isB := ⟨_, op_isBl, fun rho H x y a b d st Q si ra rb e q => by
  cases a <;> cases b <;> first
    | cases e; done
    | skip
  cases ra
  cases rb
  cases e
  exact ⟨_, _, rfl, rfl, q _ H (fun _ _ h => h) (.bl _)⟩⟩
theorem ok_isntB : OpOk X (compareOp .IsNot) isntB := ⟨_, op_notBl, fun rho H x y a b d st Q si ra rb e q => by
  cases a <;> cases b <;> first
    | cases e; done
    | skip
  cases ra
  cases rb
  cases e
  exact ⟨_, _, rfl, rfl, q _ H (fun _ _ h => h) (.bl _)⟩⟩
def opIs : D → D → Option D := orD isN isB
def opIsnt : D → D → Option D := orD isntN isntB
theorem ok_is : OpOk X (compareOp .Is) opIs := ok_isN.or ok_isB
theorem ok_isnt : OpOk X (compareOp .IsNot) opIsnt := ok_isntN.or ok_isntB
end
end DL
namespace DL
open PySem PySem.Spec PyProof.Rows L2
variable {K : PySem.W.Frag}
theorem orE {X : Cx} {e : Expr} {t t' : TE} (h : PE X e t) (h' : PE X e t') : PE X e (fun σ H Q => t σ H Q ∨ t' σ H Q) := ⟨fun pins s σ H Q I q => q.elim (h.run pins s σ H Q I) (h'.run pins s σ H Q I)⟩

/-! ### a[b] -/
def asKey : D → Option Key | .int i => some (.inl i) | .str x => some (.inr x) | _ => none
def valD (kvs : List (Key × D)) (k : Key) : Option D := (kvs.find? fun kv => decide (kv.1 = k)).map (·.2)
def ixD : D → D → Store → Option D := fun a b st => match a, b with
  | .lst ds, .int i => atI ds i
  | .tup ds, .int i => atI ds i
  | .str x, .int i => if x.length ≤ sizeLine then (atI x.cps.toList i).map fun c => .str ⟨#[c]⟩ else none
  | .scr ns, .int i => (atI ns i).map .int
  | .dct kvs, k => (asKey k).bind fun k => valD kvs k
  | .ref n, k => match st[n]? with
    | some (.lst ds) => (match k with | .int i => atI ds i | _ => none)
    | some (.dct kvs) => (asKey k).bind fun k => valD kvs k
    | _ => none
  | _, _ => none
def fSub (fa fb : F) : F := fun env st => (fa env st).bind fun p => (fb env p.2).bind fun q => (ixD p.1 q.1 q.2).map fun d => (d, q.2)
theorem RepL.atI {r : Rf} {H : Hp} {vs : List V} {ds : List D} (l : RepL K r H vs ds) {i : Int} {d : D} (h : L2.atI ds i = some d) : ∃ v, L2.atI vs i = some v ∧ Rep K r H v d := by
  unfold L2.atI at h ⊢
  obtain ⟨j, h1, h2⟩ := Option.bind_eq_some_iff.mp h
  obtain ⟨v, h3, h4⟩ := l.get h2
  exact ⟨v, by rw [l.len, h1]; exact h3, h4⟩
theorem atI_map {α β : Type} (f : α → β) (xs : List α) (i : Int) : L2.atI (xs.map f) i = (L2.atI xs i).map f := by
  unfold L2.atI
  rw [List.length_map]
  cases ixN xs.length i with
  | none => rfl
  | some j => simp
theorem RepK.val {r : Rf} {H : Hp} {k : Key} : ∀ {vs : List (Key × V)} {ds : List (Key × D)}, RepK K r H vs ds → ∀ {d : D}, valD ds k = some d → ∃ v, valV vs k = some v ∧ Rep K r H v d
  | _, _, .nil, d, h => by cases h
  | _, _, .cons (k := k0) (vs := vs) (ds := ds) a b, d, h => by
    unfold valD at h
    unfold valV
    rw [List.find?_cons] at h ⊢
    by_cases z : k0 = k
    · simp only [z, decide_true] at h ⊢
      cases h
      exact ⟨_, rfl, a⟩
    · simp only [z, decide_false] at h ⊢
      exact RepK.val b h
theorem asKey_rep {r : Rf} {H : Hp} {v : V} {d : D} {k : Key} (h : Rep K r H v d) (e : asKey d = some k) : v = kV k := by
  cases d <;> first
    | cases e; done
    | skip
  · cases h; cases e; rfl
  · cases h; cases e; rfl
theorem Rep.scrL {r : Rf} {H : Hp} {v : V} {ns : List Int} (h : Rep K r H v (.scr ns)) : ∃ a, v = .ref a ∧ SqL K H a (ns.map V.int) := by
  cases h with
  | scr a b => exact ⟨_, rfl, .inl (.inr ⟨_, a⟩)⟩
  | scrK a b c d e f => exact ⟨_, rfl, .inr ⟨_, _, _, a, b, c, d, e, f⟩⟩
theorem Rep.refI {r : Rf} {H : Hp} {v : V} {n : Nat} (h : Rep K r H v (.ref n)) : ∃ a, v = .ref a ∧ r.adr[n]? = some a := by
  cases h with
  | ref h => exact ⟨_, rfl, h⟩
section
variable {X : Cx}
def isD : D → Store → Bool := fun a st => match a with
  | .dct _ => true
  | .ref n => (match st[n]? with | some (.dct _) => true | _ => false)
  | _ => false
theorem ixReadsS {rho : Rf} {H : Hp} {x y : V} {a b d : D} {st : Store} (si : Sim K rho H st) (ra : Rep K rho H x a) (rb : Rep K rho H y b) (e : ixD a b st = some d) (nd : isD a st = false) :
    ∃ v, Rep K rho H v d ∧ ∀ Q : VK, Q v H → rIx K x y H Q := by
  unfold ixD at e
  split at e
  · rename_i ds i
    cases rb
    cases ra with
    | lst h1 h2 h3 =>
      obtain ⟨v, hv, rv⟩ := h3.atI e
      exact ⟨v, rv, fun Q q => .inl ⟨_, _, i, v, rfl, rfl, .of h1, hv, q⟩⟩
  · rename_i ds i
    cases rb
    obtain ⟨p, us, rfl, s, l⟩ := ra.sqT
    obtain ⟨v, hv, rv⟩ := l.atI e
    exact ⟨v, rv, fun Q q => .inr (.inl ⟨_, _, i, v, rfl, rfl, s, hv, q⟩)⟩
  · rename_i z i
    cases rb
    cases ra
    split at e
    · rename_i hz
      obtain ⟨c, hc, e2⟩ := Option.map_eq_some_iff.mp e
      subst e2
      exact ⟨_, .str _, fun Q q => .inr (.inr ⟨z, i, c, rfl, rfl, hz, hc, q⟩)⟩
    · cases e
  · rename_i ns i
    cases rb
    obtain ⟨p, rfl, s⟩ := ra.scrL
    obtain ⟨c, hc, e2⟩ := Option.map_eq_some_iff.mp e
    subst e2
    refine ⟨_, .int c, fun Q q => .inl ⟨_, _, i, .int c, rfl, rfl, s, ?_, q⟩⟩
    rw [atI_map, hc]; rfl
  · cases nd
  · rename_i n
    obtain ⟨p, rfl, hp⟩ := ra.refI
    split at e
    · rename_i ds hst
      split at e
      · rename_i i
        cases rb
        obtain ⟨av, xs, hx, l⟩ := si.ob n p _ hp hst
        obtain ⟨v, hv, rv⟩ := l.atI e
        exact ⟨v, rv, fun Q q => .inl ⟨_, _, i, v, rfl, rfl, .of hx, hv, q⟩⟩
      · cases e
    · rename_i kvs hst
      unfold isD at nd
      simp only [hst] at nd
      cases nd
    · cases e
  · cases e
theorem ixReadsD {rho : Rf} {H : Hp} {x y : V} {a b d : D} {st : Store} (si : Sim K rho H st) (ra : Rep K rho H x a) (rb : Rep K rho H y b) (e : ixD a b st = some d) (nd : isD a st = true) :
    ∃ p v, x = .ref p ∧ DGet H p y (some v) ∧ Rep K rho H v d := by
  cases a with
  | dct kvs =>
    obtain ⟨k, hk, h2⟩ := Option.bind_eq_some_iff.mp (show ((asKey b).bind fun k => valD kvs k) = some d from e)
    have ey := asKey_rep rb hk
    subst ey
    cases ra with
    | dct h1 n1 l1 =>
      obtain ⟨v, hv, rv⟩ := l1.val h2
      exact ⟨_, v, rfl, by rw [← hv]; exact .k h1, rv⟩
  | ref n =>
    have nd' : (match st[n]? with | some (.dct _) => true | _ => false) = true := nd
    · split at nd'
      · rename_i kvs hst
        have e' : ((asKey b).bind fun k => valD kvs k) = some d := by
          unfold ixD at e
          simp only [hst] at e
          exact e
        obtain ⟨k, hk, h2⟩ := Option.bind_eq_some_iff.mp e'
        have ey := asKey_rep rb hk
        subst ey
        obtain ⟨p, rfl, hp⟩ := ra.refI
        obtain ⟨av, xs, hx, l⟩ := si.ob _ p _ hp hst
        obtain ⟨v, hv, rv⟩ := l.val h2
        exact ⟨_, v, rfl, by rw [← hv]; exact .k hx, rv⟩
      · cases nd'
  | _ => cases nd
theorem de_sub {a b : Expr} {fa fb : F} {pos : Pos} {k : Nat} (g : GX X k) (ha : DE X a fa) (hb : DE X b fb) (hs : PlainIx b := by intro _ _; rfl) : DE X (.Subscript a b pos) (fSub fa fb) :=
  weakE (orE (pe_ix ix_seq ha hb hs) (pe_dget (hu_of g.room) ha hb hs)) fun σ H Q hh => by
  obtain ⟨r, env, st, d, st', he, hs, hf, q⟩ := hh
  obtain ⟨⟨x, s1⟩, h1, hf1⟩ := Option.bind_eq_some_iff.mp hf
  obtain ⟨⟨y, s2⟩, h2, hf2⟩ := Option.bind_eq_some_iff.mp hf1
  obtain ⟨d', h3, hf3⟩ := Option.map_eq_some_iff.mp hf2
  cases hf3
  cases z : isD x s2 with
  | true =>
    refine .inr (two he hs h1 h2 fun u v r' H' e1 q1 pu pv => ?_)
    obtain ⟨p, w, ep, dg, rw'⟩ := ixReadsD q1 pu pv h3 z
    exact ⟨p, w, ep, dg, q w r' H' e1 q1 rw'⟩
  | false =>
    refine .inl (two he hs h1 h2 fun u v r' H' e1 q1 pu pv => ?_)
    obtain ⟨w, rw', k'⟩ := ixReadsS q1 pu pv h3 z
    exact k' Q (q w r' H' e1 q1 rw')

/-! ### a[lo:hi] -/
abbrev FO := Lo → Store → Option (Option Int × Store)
def oNone : FO := fun _ st => some (none, st)
def oSome (f : F) : FO := fun env st => (f env st).bind fun p => match p.1 with | .int i => some (some i, p.2) | _ => none
def tO (K : PySem.W.Frag) (f : FO) : TO := fun σ H Q => ∃ r env st o st', EnvR K r H env σ ∧ Sim K r H st ∧ f env st = some (o, st') ∧ ∀ r' H', Ext r H r' H' → Sim K r' H' st' → Q o H'
abbrev DO' (X : Cx) (e : Option Expr) (f : FO) : Prop := PO X e (tO X.K f)
theorem weakO {e : Option Expr} {t t' : TO} (h : PO X e t) (i : ∀ σ H Q, t' σ H Q → t σ H Q) : PO X e t' := ⟨fun pins s σ H Q I q => h.run pins s σ H Q I (i σ H Q q)⟩
theorem do_none : DO' X none oNone := weakO po_none fun σ H Q hh => by
  obtain ⟨r, env, st, o, st', he, hs, hf, q⟩ := hh
  cases hf
  exact q r H (.refl r H) hs
theorem do_some {e : Expr} {f : F} (h : DE X e f) : DO' X (some e) (oSome f) := weakO (po_some h) fun σ H Q hh => by
  obtain ⟨r, env, st, o, st', he, hs, hf, q⟩ := hh
  obtain ⟨⟨x, s1⟩, h1, hf1⟩ := Option.bind_eq_some_iff.mp hf
  cases x with
  | int i =>
    cases hf1
    exact ⟨r, env, st, _, _, he, hs, h1, fun v r1 H1 e1 q1 p1 => by
      cases p1
      exact ⟨i, rfl, q r1 H1 e1 q1⟩⟩
  | _ => cases hf1
def cutD {α : Type} (xs : List α) (lo hi : Option Int) : List α := (xs.drop (HT.sIx xs.length 0 lo)).take (HT.sIx xs.length xs.length hi - HT.sIx xs.length 0 lo)
def slD : D → Option Int → Option Int → Option D := fun a lo hi => match a with
  | .lst ds => some (.lst (cutD ds lo hi))
  | .tup ds => some (.tup (cutD ds lo hi))
  | _ => none
theorem RepL.cut {r : Rf} {H : Hp} {vs : List V} {ds : List D} (l : RepL K r H vs ds) (lo hi : Option Int) : RepL K r H (cutV vs lo hi) (cutD ds lo hi) := by
  unfold cutV cutD
  rw [l.len]
  exact (l.drop _).take _
def fSlice (fa : F) (lo hi : FO) : F := fun env st => (fa env st).bind fun p => (lo env p.2).bind fun q => (hi env q.2).bind fun w => (slD p.1 q.1 w.1).map fun d => (d, w.2)
theorem cut_all {α : Type} {xs : List α} {lo hi : Option Int} (h : HT.sIx xs.length 0 lo = 0 ∧ HT.sIx xs.length xs.length hi = xs.length) : cutD xs lo hi = xs := by
  unfold cutD
  rw [h.1, h.2]
  simp
theorem de_slice {a : Expr} {lo hi : Option Expr} {fa : F} {fl fh : FO} {p2 pos : Pos} (ha : DE X a fa) (hl : DO' X lo fl) (hh : DO' X hi fh) : DE X (.Subscript a (.Slice lo hi none p2) pos) (fSlice fa fl fh) :=
  weakE (pe_slice (sl_list.or sl_tupA) ha hl hh) fun σ H Q hh => by
  obtain ⟨r, env, st, d, st', he, hs, hf, q⟩ := hh
  obtain ⟨⟨x, s1⟩, h1, hf1⟩ := Option.bind_eq_some_iff.mp hf
  obtain ⟨⟨i, s2⟩, h2, hf2⟩ := Option.bind_eq_some_iff.mp hf1
  obtain ⟨⟨j, s3⟩, h3, hf3⟩ := Option.bind_eq_some_iff.mp hf2
  obtain ⟨d', h4, hf4⟩ := Option.map_eq_some_iff.mp hf3
  cases hf4
  refine ⟨r, env, st, x, s1, he, hs, h1, fun u r1 H1 e1 q1 p1 => ⟨r1, env, s1, i, s2, he.ext e1, q1, h2, fun r2 H2 e2 q2 => ⟨r2, env, s2, j, _, (he.ext e1).ext e2, q2, h3, fun r3 H3 e3 q3 => ?_⟩⟩⟩
  have p3 := (p1.ext e2).ext e3
  have e13 := (e1.trans e2).trans e3
  cases x with
  | lst ds =>
    cases h4
    cases p3 with
    | lst g1 g2 g3 => exact .inl ⟨_, _, rfl, .of g1, fun p hp => q _ _ _ (e13.trans (q3.ext (same_alloc hp))) (q3.same (same_alloc hp)) (.lst upd_same (q3.free hp) ((g3.cut i j).ex (Ex.same r3 (same_alloc hp))))⟩
  | tup ds =>
    cases h4
    obtain ⟨p, us, rfl, s, l⟩ := p3.sqT
    refine .inr ⟨p, us, rfl, s, fun w => ?_, fun w p' hp => ?_⟩
    · rw [l.len] at w
      rw [cut_all w] at q
      exact q _ r3 H3 e13 q3 p3
    · exact q _ _ _ (e13.trans (q3.ext (same_alloc hp))) (q3.same (same_alloc hp)) (.tup upd_same (q3.free hp) ((l.cut i j).ex (Ex.same r3 (same_alloc hp))))
  | _ => cases h4

/-! ### what is written: an object of the store -/
theorem Sim.set {r : Rf} {H : Hp} {st : Store} (s : Sim K r H st) {n : Nat} {a : Addr} {o : HO} {ob : Ob} (ha : r.adr[n]? = some a) (hav : r.av a) (hob : ObR K r (upd H a o) a ob) : Ext r H r (upd H a o) ∧ Sim K r (upd H a o) (st.set n ob) := by
  have hm : a ∈ r.adr := List.mem_of_getElem? ha
  have ex : Ext r H r (upd H a o) := ⟨⟨⟨[], by simp⟩, fun q x z m => by rw [upd_ne (fun y => m (by rw [y]; exact hav))]; exact z, fun q z m => absurd z m⟩,
    fun q v m => ⟨by rw [upd_ne (fun y => m (by rw [y]; exact hm))], v, m⟩⟩
  refine ⟨ex, by rw [List.length_set]; exact s.len, s.nd, fun m b x h1 h2 => ?_, fun q v => ?_, fun q v => ?_⟩
  · by_cases z : n = m
    · subst z
      rw [ha] at h1
      cases h1
      by_cases hl : n < st.length
      · rw [List.getElem?_set_self hl] at h2
        cases h2
        exact hob
      · rw [List.getElem?_eq_none (by rw [List.length_set]; omega)] at h2
        cases h2
    · rw [List.getElem?_set_ne z] at h2
      have nb : b ≠ a := fun y => z (by
        subst y
        obtain ⟨l1, e1⟩ := List.getElem?_eq_some_iff.mp ha
        obtain ⟨l2, e2⟩ := List.getElem?_eq_some_iff.mp h1
        exact (List.getElem_inj s.nd).mp (e1.trans e2.symm))
      exact (s.ob m b x h1 h2).ex ex.toEx fun v => ⟨by rw [upd_ne nb], v⟩
  · by_cases z : q = a
    · exact ⟨_, by rw [z]; exact upd_same⟩
    · rw [upd_ne z]; exact s.there q v
  · by_cases z : q = a
    · exact ⟨_, by rw [z]; exact upd_same⟩
    · rw [upd_ne z]; exact s.old q v
def putD (kvs : List (Key × D)) (k : Key) (v : D) : List (Key × D) := if kvs.any (fun kv => decide (kv.1 = k)) then kvs.map fun kv => if kv.1 = k then (kv.1, v) else kv else kvs ++ [(k, v)]
theorem RepK.len {r : Rf} {H : Hp} : ∀ {vs : List (Key × V)} {ds : List (Key × D)}, RepK K r H vs ds → vs.length = ds.length
  | _, _, .nil => rfl
  | _, _, .cons _ b => by rw [List.length_cons, List.length_cons, RepK.len b]
theorem RepK.any {r : Rf} {H : Hp} {k : Key} : ∀ {vs : List (Key × V)} {ds : List (Key × D)}, RepK K r H vs ds → (vs.any fun kv => decide (kv.1 = k)) = ds.any fun kv => decide (kv.1 = k)
  | _, _, .nil => rfl
  | _, _, .cons _ b => by rw [List.any_cons, List.any_cons, RepK.any b]
theorem RepK.repl {r : Rf} {H : Hp} {k : Key} {v : V} {d : D} (q : Rep K r H v d) : ∀ {vs : List (Key × V)} {ds : List (Key × D)}, RepK K r H vs ds → RepK K r H (vs.map fun kv => if kv.1 = k then (kv.1, v) else kv) (ds.map fun kv => if kv.1 = k then (kv.1, d) else kv)
  | _, _, .nil => .nil
  | _, _, .cons (k := k0) a b => by
    rw [List.map_cons, List.map_cons]
    by_cases z : k0 = k
    · rw [if_pos z, if_pos z]
      exact .cons q (RepK.repl q b)
    · rw [if_neg z, if_neg z]
      exact .cons a (RepK.repl q b)
theorem RepK.snoc {r : Rf} {H : Hp} {k : Key} {v : V} {d : D} (q : Rep K r H v d) : ∀ {vs : List (Key × V)} {ds : List (Key × D)}, RepK K r H vs ds → RepK K r H (vs ++ [(k, v)]) (ds ++ [(k, d)])
  | _, _, .nil => .cons q .nil
  | _, _, .cons a b => .cons a (RepK.snoc q b)
theorem RepK.put {r : Rf} {H : Hp} {k : Key} {v : V} {d : D} (q : Rep K r H v d) {vs : List (Key × V)} {ds : List (Key × D)} (l : RepK K r H vs ds) : RepK K r H (putK vs k v) (putD ds k d) := by
  unfold putK putD
  rw [l.any]
  split
  · exact l.repl q
  · exact l.snoc q
/-- o[k] = v, o a dict of the store -/
def sPut (fo fk fv : F) : FS := fun env st => (fv env st).bind fun p => (fo env p.2).bind fun q => (fk env q.2).bind fun w => match q.1 with
  | .ref n => (match w.2[n]? with
    | some (.dct kvs) => (asKey w.1).bind fun k => if kvs.length < sizeLine then some (.nx, env, w.2.set n (.dct (putD kvs k p.1))) else none
    | _ => none)
  | _ => none
theorem ds_put {o i value : Expr} {fo fk fv : F} {pos pos' : Pos} {k : Nat} (g : GX X k) (ho : DE X o fo) (hi : DE X i fk) (hv : DE X value fv) (hs : swapsWith value (some (.Subscript o i pos')) pos.line X.env = pure false := by rfl) :
    DS X (.Assign [.Subscript o i pos'] value pos) (sPut fo fk fv) := weakS (ps_dput (hu_of g.room) ho hi hv hs) fun D' σ H hh => by
  obtain ⟨r, env, st, out, env', st', he, hs, hf, q⟩ := hh
  obtain ⟨⟨x, s1⟩, h1, hf1⟩ := Option.bind_eq_some_iff.mp hf
  obtain ⟨⟨y, s2⟩, h2, hf2⟩ := Option.bind_eq_some_iff.mp hf1
  obtain ⟨⟨z, s3⟩, h3, hf3⟩ := Option.bind_eq_some_iff.mp hf2
  cases y with
  | ref n =>
    simp only at hf3
    split at hf3
    · rename_i kvs hst
      obtain ⟨kk, hk, hf4⟩ := Option.bind_eq_some_iff.mp hf3
      split at hf4
      · rename_i hl
        cases hf4
        refine ⟨r, env, st, x, s1, he, hs, h1, fun xv r1 H1 e1 q1 p1 => ⟨r1, env, s1, _, s2, he.ext e1, q1, h2, fun yv r2 H2 e2 q2 p2 => ⟨r2, env, s2, z, s3, (he.ext e1).ext e2, q2, h3, fun zv r3 H3 e3 q3 p3 => ?_⟩⟩⟩
        have ez := asKey_rep p3 hk
        subst ez
        obtain ⟨p, rfl, hp⟩ := (p2.ext e3).refI
        obtain ⟨av, xs, hx, l⟩ := q3.ob _ p _ hp hst
        have px : Rep X.K r3 H3 xv x := (p1.ext e2).ext e3
        refine ⟨p, _, rfl, .k hx (by rw [l.len]; exact hl), ?_⟩
        have ee : Ex r3 H3 r3 (upd H3 p (.dK (putK xs kk xv))) := ⟨⟨[], by simp⟩, fun a o w m => by rw [upd_ne (fun y => m (by rw [y]; exact av))]; exact w, fun a w m => absurd w m⟩
        obtain ⟨w1, w2⟩ := q3.set (o := .dK (putK xs kk xv)) (ob := .dct (putD kvs kk x)) hp av ⟨av, _, upd_same, (l.put px).ex ee⟩
        exact q σ r3 _ (((e1.trans e2).trans e3).trans w1) ((((he.ext e1).ext e2).ext e3).ext w1) w2
      · cases hf4
    · cases hf3
  | _ => cases hf3
/-- {k: v, ..}, into the store -/
def evP : List (F × F) → Lo → Store → Option (List (Key × D) × Store)
  | [], _, st => some ([], st)
  | (fk, fv) :: r, env, st => (fk env st).bind fun p => (asKey p.1).bind fun k => (fv env p.2).bind fun q => (evP r env q.2).map fun z => ((k, q.1) :: z.1, z.2)
def mergeD (kvs more : List (Key × D)) : List (Key × D) := more.foldl (fun acc kv => putD acc kv.1 kv.2) kvs
def fDict (ps : List (F × F)) : F := fun env st => (evP ps env st).bind fun q => if q.1.length ≤ 15 then some (.ref q.2.length, q.2 ++ [.dct (mergeD [] q.1)]) else none
inductive DPs (X : Cx) (pos : Pos) : List (Option Expr) → List Expr → List (F × F) → Prop
  | nil : DPs X pos [] [] []
  | cons {k v : Expr} {ks : List (Option Expr)} {vs : List Expr} {fk fv : F} {ps : List (F × F)} : DE X k fk → DE X v fv → DPs X pos ks vs ps → DPs X pos (some k :: ks) (v :: vs) ((fk, fv) :: ps)
theorem DPs.pps {pos : Pos} : ∀ {ks : List (Option Expr)} {vs : List Expr} {ps : List (F × F)}, DPs X pos ks vs ps → PPs X pos ks vs (ps.map fun p => (tD X.K p.1, tD X.K p.2))
  | _, _, _, .nil => pps_nil
  | _, _, _, .cons a b c => pps_cons a b (DPs.pps c)
theorem RepK.merge {r : Rf} {H : Hp} : ∀ {more : List (Key × V)} {md : List (Key × D)} {kvs : List (Key × V)} {ds : List (Key × D)}, RepK K r H more md → RepK K r H kvs ds → RepK K r H (mergeK kvs more) (mergeD ds md)
  | _, _, _, _, .nil, q => q
  | _, _, kvs, ds, .cons (k := k) (v := v) (vs := more) (d := d) (ds := md) a b, q => by
    have := RepK.merge b (q.put (k := k) a)
    exact this
theorem pairsRead : ∀ {ps : List (F × F)} {r : Rf} {env : Lo} {st st' : Store} {σ : L2.St} {H : Hp} {kds : List (Key × D)} {Q : List (V × V) → Hp → Prop}, EnvR K r H env σ → Sim K r H st → evP ps env st = some (kds, st') →
    (∀ r' H' (kvs : List (Key × V)), Ext r H r' H' → Sim K r' H' st' → RepK K r' H' kvs kds → Q (kvs.map fun kv => (kV kv.1, kv.2)) H') → tPairs (ps.map fun p => (tD K p.1, tD K p.2)) σ H Q
  | [], r, env, st, st', σ, H, kds, Q, he, hs, hf, q => by
    cases hf
    exact q r H [] (.refl r H) hs .nil
  | (fk, fv) :: ps, r, env, st, st', σ, H, kds, Q, he, hs, hf, q => by
    obtain ⟨⟨x, s1⟩, h1, hf1⟩ := Option.bind_eq_some_iff.mp hf
    obtain ⟨k, hk, hf2⟩ := Option.bind_eq_some_iff.mp hf1
    obtain ⟨⟨y, s2⟩, h2, hf3⟩ := Option.bind_eq_some_iff.mp hf2
    obtain ⟨⟨zs, s3⟩, h3, hf4⟩ := Option.map_eq_some_iff.mp hf3
    cases hf4
    refine ⟨r, env, st, x, s1, he, hs, h1, fun xv r1 H1 e1 q1 p1 => ⟨r1, env, s1, y, s2, he.ext e1, q1, h2, fun yv r2 H2 e2 q2 p2 => ?_⟩⟩
    have ex := asKey_rep p1 hk
    subst ex
    refine pairsRead (ps := ps) ((he.ext e1).ext e2) q2 h3 fun r3 H3 kvs e3 q3 l3 => ?_
    exact q r3 H3 ((k, yv) :: kvs) ((e1.trans e2).trans e3) q3 (.cons (p2.ext e3) l3)
theorem de_dict {pos : Pos} {keys : List (Option Expr)} {values : List Expr} {ps : List (F × F)} (h : DPs X pos keys values ps) (hall : keys.all (·.isSome) = true := by rfl) (hl : keys.length = values.length := by rfl) (h0 : keys ≠ [] := by (intro z; cases z)) (h15 : keys.length ≤ 15 := by decide) :
    DE X (.Dict keys values pos) (fDict ps) := weakE (pe_disp h.pps hall hl h0 h15) fun σ H Q hh => by
  obtain ⟨r, env, st, d, st', he, hs, hf, q⟩ := hh
  obtain ⟨⟨kds, s1⟩, h1, hf1⟩ := Option.bind_eq_some_iff.mp hf
  by_cases hz : kds.length ≤ 15
  case neg => rw [if_neg hz] at hf1; cases hf1
  rw [if_pos hz] at hf1
  cases hf1
  intro p hp
  obtain ⟨e0, hd0⟩ := hideNew (o := .dK []) hs hp
  refine pairsRead (he.ext e0) hd0.sim h1 fun r' H' kvs e1 q1 l1 => ?_
  obtain ⟨hd1, hk⟩ := hd0.ext e1 q1
  refine ⟨hk.trans upd_same, kvs, rfl, by rw [l1.len]; exact hz, ?_⟩
  have ee : Ex r' H' (r'.add p) (upd H' p (.dK (mergeK [] kvs))) := ⟨⟨[p], rfl⟩, fun a o w m => by rw [upd_ne (fun y => m (by rw [y]; exact hd1.av))]; exact w, fun a w m => absurd w m⟩
  obtain ⟨w1, w2, w3⟩ := hd1.add (o := .dK (mergeK [] kvs)) (ob := .dct (mergeD [] kds)) (e0.trans e1) hs hp ⟨hd1.av, _, upd_same, (RepK.merge l1 .nil).ex ee⟩
  exact q _ _ _ w1 w2 (w3 _ rfl)
/-- {} as a value -/
theorem de_dict0 {pos : Pos} : DE X (.Dict [] [] pos) (fC (.dct [])) := weakE pe_dnewK fun σ H Q hh => by
  obtain ⟨r, env, st, d, st', he, hs, hf, q⟩ := hh
  cases hf
  exact fun p hp => q _ r _ (hs.ext (same_alloc hp)) (hs.same (same_alloc hp)) (.dct upd_same (hs.free hp) .nil)
/-- a list display, into the store -/
def fNewL (fa : FA) : F := fun env st => (fa env st).bind fun p => if p.1.length ≤ sizeLine then some (.ref p.2.length, p.2 ++ [.lst p.1]) else none
theorem de_newL {es : List Expr} {fa : FA} {pos : Pos} (h : DA X es fa) : DE X (.List es pos) (fNewL fa) := weakE (pe_lst h) fun σ H Q hh => by
  obtain ⟨r, env, st, d, st', he, hs, hf, q⟩ := hh
  obtain ⟨⟨ds, s1⟩, h1, hf1⟩ := Option.bind_eq_some_iff.mp hf
  by_cases hz : ds.length ≤ sizeLine
  case neg => rw [if_neg hz] at hf1; cases hf1
  rw [if_pos hz] at hf1
  cases hf1
  refine ⟨r, env, st, ds, s1, he, hs, h1, fun vs r1 H1 e1 q1 l1 => ⟨by rw [l1.len]; exact hz, fun p hp => ?_⟩⟩
  obtain ⟨e0, hd0⟩ := hideNew (o := .lst vs) q1 hp
  have ee : Ex r1 H1 ((r1.hide p).add p) (upd (upd H1 p (.lst vs)) p (.lst vs)) := by
    rw [upd_upd]
    refine ⟨⟨[p], rfl⟩, fun a o w m => same_alloc hp a o w, fun a w m => ?_⟩
    rcases w with w | w
    · exact absurd w m
    · rw [w]; exact hp
  obtain ⟨w1, w2, w3⟩ := hd0.add (o := .lst vs) (ob := .lst ds) e0 q1 hp ⟨hd0.av, _, upd_same, l1.ex ee⟩
  have key := q (.ref p) _ _ (e1.trans w1) w2 (w3 _ rfl)
  rw [upd_upd] at key
  exact key
/-- xs.append(e), xs of the store -/
def isLs : Option Ob → Bool | some (.lst _) => true | _ => false
def appAt (n : Nat) (d : D) (st : Store) : Option (D × Store) := match st[n]? with
  | some (.lst ds) => if ds.length < sizeLine then some (.non, st.set n (.lst (ds ++ [d]))) else none
  | _ => none
def fApp (fo fe : F) : F := fun env st => (fo env st).bind fun p => match p.1 with
  | .ref n => if isLs p.2[n]? = true then (fe env p.2).bind fun q => appAt n q.1 q.2 else none
  | _ => none
theorem de_append {o e : Expr} {fo fe : F} {apos cpos : Pos} (ho : DE X o fo) (hv : DE X e fe) (hbase : attributeBase o "append" X.env (eval o X.env) = eval o X.env := by rfl)
    (hfew : ((backTo cpos (starEach [e] X.env)).all (fun x => !x.1) && (backToKw cpos (keywordEach [] X.env)).all (fun x => x.1.isSome)
      && decide (([e] : List Expr).length + ([] : List Keyword).length + (if ([] : List Keyword).isEmpty then 0 else 1) < 30)) = true := by rfl)
    (hline : (apos.endLine == cpos.line) = true := by rfl) (hs : starEach [e] X.env = [(false, eval e X.env)] := by rfl) :
    DE X (.Call (.Attribute o "append" apos) [e] [] cpos) (fApp fo fe) :=
  weakE (pe_bm PySem.F.plainAttrs_list PySem.F.slot_list_append PySem.F.type_list_append mt_append ho (pa_cons hv pa_nil hs) hbase hfew hline hs rfl) fun σ H Q hh => by
  obtain ⟨r, env, st, d, st', he, hs, hf, q⟩ := hh
  obtain ⟨⟨x, s1⟩, h1, hf1⟩ := Option.bind_eq_some_iff.mp hf
  cases x with
  | ref n =>
    have hf1' : (if isLs s1[n]? = true then (fe env s1).bind fun q => appAt n q.1 q.2 else none) = some (d, st') := hf1
    by_cases hl1 : isLs s1[n]? = true
    case neg => rw [if_neg hl1] at hf1'; cases hf1'
    rw [if_pos hl1] at hf1'
    obtain ⟨⟨y, s2⟩, h2, hf2⟩ := Option.bind_eq_some_iff.mp hf1'
    have hf3 : appAt n y s2 = some (d, st') := hf2
    unfold appAt at hf3
    split at hf3
    · rename_i ds hst
      split at hf3
      · rename_i hl
        cases hf3
        refine ⟨r, env, st, _, s1, he, hs, h1, fun xv r1 H1 e1 q1 p1 => ?_⟩
        obtain ⟨p, rfl, hp⟩ := p1.refI
        refine ⟨.inl ⟨rfl, ?_⟩, r1, env, s1, y, s2, he.ext e1, q1, h2, fun yv r2 H2 e2 q2 p2 => ?_⟩
        · unfold isLs at hl1
          split at hl1
          · rename_i es hes
            obtain ⟨av, xs, hx, l⟩ := q1.ob n p _ hp hes
            exact ⟨xs, .of hx⟩
          · cases hl1
        · have hp2 := e2.get hp
          obtain ⟨av, xs, hx, l⟩ := q2.ob n p _ hp2 hst
          refine ⟨p, xs, yv, rfl, rfl, hx, by rw [l.len]; exact hl, ?_⟩
          have ee : Ex r2 H2 r2 (upd H2 p (.lst (xs ++ [yv]))) := ⟨⟨[], by simp⟩, fun a o w m => by rw [upd_ne (fun y => m (by rw [y]; exact av))]; exact w, fun a w m => absurd w m⟩
          obtain ⟨w1, w2⟩ := q2.set (o := .lst (xs ++ [yv])) (ob := .lst (ds ++ [y])) hp2 av ⟨av, _, upd_same, (l.append (.cons p2 .nil)).ex ee⟩
          exact q _ _ _ ((e1.trans e2).trans w1) w2 .non
      · cases hf3
    · cases hf3
  | _ => cases hf1
end
end DL
namespace DL
open PySem PySem.Spec PyProof.Rows L2
variable {K : PySem.W.Frag}

/-! ### a def -/
abbrev FM := List D → Store → Option (D × Store)
/-- a def computes m (nothing is raised) -/
structure FnD (P : Program) (w : World) (K : PySem.W.Frag) (mg : Str → Option Value) (base : Heap) (k : Nat) (f : Addr) (fd : FuncData) (ps : List Str) (m : FM) : Prop where
  run : ∀ (A : Around) (outer : List Env) (s : Shared) (H : Hp) (args : Args) (us : List Value) (vs : List V) (Q : VK) (rho : Rf) (ds : List D) (st st' : Store) (d : D),
    A.guards = some [] → Room k A → Env0 P w K mg base A outer s H → BindsTo s fd args (ps.zip us) → Vals vs us → vs.length = ps.length → RepL K rho H vs ds → Sim K rho H st → m ds st = some (d, st') →
    (∀ v rho' H', Ext rho H rho' H' → Sim K rho' H' st' → Rep K rho' H' v d → Q v H') → codeAny (model P w) A (.call (.ref f) args) (CR CX0 outer P w H s Q E0) s
theorem FnD.up {P : Program} {w : World} {mg : Str → Option Value} {base : Heap} {j k : Nat} {f : Addr} {fd : FuncData} {ps : List Str} {m : FM} (h : FnD P w K mg base j f fd ps m) (l : j ≤ k) : FnD P w K mg base k f fd ps m :=
  ⟨fun A outer s H args us vs Q rho ds st st' d hg hr => h.run A outer s H args us vs Q rho ds st st' d hg (hr.mono l)⟩
/-- a body's context -/
abbrev cxD (P : Program) (w : World) (K : PySem.W.Frag) (mg : Str → Option Value) (base : Heap) (N : List Str) (qual : Str) (sc : Scope) (f : Addr) (cd : Value) (A : Around) (outer : List Env) (s : Shared) (H : Hp) : Cx :=
  (cxOf CX0 P w K mg base N qual sc f cd A outer s H E0).nox
def startD (n : Nat) (ds : List D) : Lo := ds.map some ++ List.replicate (n - ds.length) none
def outM : Option (Out × Lo × Store) → Option (D × Store)
  | some (.rt d, _, s) => some (d, s)
  | some (.nx, _, s) => some (.non, s)
  | _ => none
def mOf (n : Nat) (g : FS) : FM := fun ds st => outM (g (startD n ds) st)
theorem start_env {r : Rf} {H : Hp} {vs : List V} {ds : List D} {N : List Str} (l : RepL K r H vs ds) (hn : vs.length ≤ N.length) : EnvR K r H (startD N.length ds) (L2.start N vs) := by
  refine ⟨?_, fun i d h => ?_⟩
  · unfold startD L2.start
    rw [List.length_append, List.length_append, List.length_map, List.length_map, List.length_replicate, List.length_replicate, l.len]
  · unfold startD at h
    unfold L2.start
    by_cases hi : i < ds.length
    · rw [List.getElem?_append_left (by rw [List.length_map]; exact hi), List.getElem?_map] at h
      obtain ⟨d', h1, h2⟩ := Option.map_eq_some_iff.mp h
      cases h2
      obtain ⟨v, h3, h4⟩ := l.get h1
      refine ⟨v, ?_, h4⟩
      rw [List.getElem?_append_left (by rw [List.length_map, l.len]; exact hi), List.getElem?_map, h3]; rfl
    · rw [List.getElem?_append_right (by rw [List.length_map]; omega), List.getElem?_replicate] at h
      split at h <;> cases h
theorem FnD.of {P : Program} {w : World} {mg : Str → Option Value} {base : Heap} {x qual : Str} {sd : Stmt} {f : Addr} {fd : FuncData} {N ps : List Str} {k : Nat} {g : FS} (F : Fun K x qual sd f fd) (S : FnScope N ps (defScope sd))
    (hb : ∀ (cd : Value) (A : Around) (outer : List Env) (s : Shared) (H : Hp), GX (cxD P w K mg base N qual (defScope sd) f cd A outer s H) k → DSs (cxD P w K mg base N qual (defScope sd) f cd A outer s H) (defBody sd) g) :
    FnD P w K mg base (k + 1) f fd ps (mOf N.length g) := by
  obtain ⟨oc, od, kV, doc, pm, an, cd, ct, osl, rfl, lk, hcd⟩ := F.ex
  refine ⟨fun A outer s H args us vs Q rho ds st st' d hgd hr e0 hbind rv hlen rds hs hm hq => ?_⟩
  have hps : ps.length ≤ N.length := by
    have := congrArg List.length S.pre
    rw [List.length_take] at this
    omega
  have KX : K.In s.heap := e0.mod.kin.keeps fun b o e => (e0.bs b o e).1
  have lim : s.heap.NoLimit := e0.mod.nolimit.keeps fun b o e => (e0.bs b o e).1
  have kinds : ∀ y ∈ ps.zip us, (defScope sd).names.lookup y.1 = some .local ∨ ((defScope sd).names.lookup y.1 = some .cell ∧ ((cellsFrom (s.heap.objs.size + 1) (defScope sd).names []).lookup y.1).isSome = true) := fun ⟨n, v⟩ hy =>
    (S.par n (List.of_mem_zip hy).1).elim .inl fun q => .inr ⟨q, PySem.W.cellsFrom_some _ _ _ (.inl q)⟩
  refine codeAny_call_function hr.depth (KX _ _ lk) rfl S.co S.gen rfl (PySem.W.codeRec_of KX hcd) (hbind _ _ _ _ (wpAny_newFunctionEnv_cells S.kind kinds fun env he s1 x => ?_))
  subst he
  refine ⟨lim.keeps x.toInCall.keep, codeAny_func ?_⟩
  have gx : GX (cxD P w K mg base N qual (defScope sd) f cd A outer s H) k := ⟨rfl, S.nd, hr.deeper _, hgd⟩
  have I0 : Inv (cxOf CX0 P w K mg base N qual (defScope sd) f cd A outer s H E0) [] (L2.start N vs) H s1 := inv_start S hr.hd e0 hlen rv x
  -- what the body does
  obtain ⟨o, env', h1, h2⟩ : ∃ o env', g (startD N.length ds) st = some (o, env', st') ∧ (o = .rt d ∨ (o = .nx ∧ d = .non)) := by
    unfold mOf at hm
    cases z : g (startD N.length ds) st with
    | none => rw [z] at hm; cases hm
    | some q =>
      obtain ⟨o, e, s2⟩ := q
      rw [z] at hm
      cases o with
      | rt d' => cases hm; exact ⟨_, _, rfl, .inl rfl⟩
      | nx => cases hm; exact ⟨_, _, rfl, .inr ⟨rfl, rfl⟩⟩
      | bk => cases hm
      | ct => cases hm
  have run := (hb cd A outer s H gx).run [] s1 (L2.start N vs) H { nx := fun _ H' => Q .non H', rt := Q } (I0.wish _) ⟨rho, _, st, o, env', st', start_env rds (by omega), hs, h1, by
    rcases h2 with e | ⟨e, e2⟩
    · subst e
      exact hq
    · subst e e2
      exact fun σ' r' H' ex _ hs' => hq .non r' H' ex hs' .non⟩
  refine wpAny_mono run (fun fl s' q => ?_) fun _ _ z => False.elim z
  have back : ∀ {σ' : L2.St} {H' : Hp} {v : V} {u : Value}, Inv (cxD P w K mg base N qual (defScope sd) f cd A outer s H) [] σ' H' s' → RelV v u → Q v H' → CE outer P w H s Q u s' := fun {σ' H' v u} J r z => ⟨v, H', J.os, J.bare, J.base, J.hok, r, z⟩
  cases fl with
  | ret u =>
    obtain ⟨v, σ', H', J, r, z⟩ := q
    exact back J r z
  | next =>
    obtain ⟨σ', H', J, z⟩ := q
    exact back (v := V.non) (u := Value.none) J rfl z
  | brk => obtain ⟨_, _, _, z⟩ := q; exact z.elim
  | cont => obtain ⟨_, _, _, z⟩ := q; exact z.elim

/-! ### a call -/
def fCall (m : FM) (fa : FA) : F := fun env st => (fa env st).bind fun p => m p.1 p.2
section
variable {X : Cx} {k : Nat} {f : Addr} {fd : FuncData} {ps : List Str} {m : FM} {x : Str} {p pos : Pos} {e : Expr} {es : List Expr}
theorem runD {pins : List (Addr × Obj)} {σ : L2.St} {H : Hp} {s : Shared} {Q : VK} {us : List Value} {vs : List V} {rho : Rf} {ds : List D} {st st' : Store} {d : D} (Fd : FnD X.prog X.w X.K X.mg X.base k f fd ps m) (gx : GX X k) (hb : Binds X.K fd ps [])
    (I : Inv X pins σ H s) (r : Vals vs us) (hl : vs.length = ps.length) (rd : RepL X.K rho H vs ds) (hs : Sim X.K rho H st) (hm : m ds st = some (d, st')) (hq : ∀ v rho' H', Ext rho H rho' H' → Sim X.K rho' H' st' → Rep X.K rho' H' v d → Q v H') :
    wpAny (model X.prog X.w) X.A (call (.ref f) us) (EP X pins σ Q) X.xe s := by
  have hu : us.length = ps.length := by rw [← r.length]; exact hl
  have hbt : BindsTo s fd ⟨us, []⟩ (ps.zip us) := by
    have := hb s us I.kIn (by rw [List.append_nil]; exact hu)
    rwa [List.append_nil] at this
  refine wpAny_call (codeAny_mono (Fd.run X.A X.stack s H ⟨us, []⟩ us vs Q rho ds st st' d gx.gd gx.room I.env0 hbt r hl rd hs hm hq) fun z s' hz => ?_)
  cases z with
  | error e => exact False.elim hz
  | ok fl =>
    cases fl with
    | ret u => exact I.after hz
    | next => exact False.elim hz
    | brk => exact False.elim hz
    | cont => exact False.elim hz
/-- f(e, ..), every parameter given by place -/
theorem de_call (Fd : FnD X.prog X.w X.K X.mg X.base k f fd ps m) (gx : GX X k) (hg : Gl X x) (hm : X.mg x = some (.ref f)) (hk : PySem.W.keepIn X.K (.ref f) = true) (hb : Binds X.K fd ps []) {fa : FA}
    (ha : DA X (e :: es) fa) (hl : (e :: es).length = ps.length := by rfl) (hdb : (x == ("__debug__" : Str)) = false := by decide) (he : starEach (e :: es) X.env = (false, eval e X.env) :: starEach es X.env := by rfl) (hpl : (backTo pos (starEach es X.env)).any (·.1) = false := by rfl)
    (hn : ∀ env st ds st', fa env st = some (ds, st') → ds.length = (e :: es).length) :
    DE X (.Call (.Name x p) (e :: es) [] pos) (fCall m fa) := by
  refine ⟨fun pins s σ H Q I h => wpAny_Call_Name_kw (ld_glob I hg hm ?_ hdb)⟩
  obtain ⟨r, env, st, d, st', he', hs, hf, q⟩ := h
  obtain ⟨⟨ds, s1⟩, h1, h2⟩ := Option.bind_eq_some_iff.mp hf
  refine PySem.W.callWith_K (h₀ := X.base) I.ok.mod.kin hk (thn (ha.run pos pins s σ H (fun vs H1 => ∃ r1, Ext r H r1 H1 ∧ Sim X.K r1 H1 s1 ∧ RepL X.K r1 H1 vs ds) I ⟨r, env, st, ds, s1, he', hs, h1, fun vs r1 H1 e1 q1 l1 => ⟨r1, e1, q1, l1⟩⟩) fun us sa hz => ?_) he hpl
  obtain ⟨vs, H1, I1, rv, r1, e1, q1, l1⟩ := hz
  exact ⟨I1.kIn, runD Fd gx hb I1 rv (by rw [l1.len, hn _ _ _ _ h1]; exact hl) l1 q1 h2 fun v r2 H2 e2 q2 p2 => q v r2 H2 (e1.trans e2) q2 p2⟩
end
theorem aNil_n : ∀ (env : Lo) (st : Store) (ds : List D) (st' : Store), aNil env st = some (ds, st') → ds.length = 0 := fun _ _ _ _ h => by cases h; rfl
theorem aCons_n {f : F} {g : FA} {n : Nat} (h : ∀ (env : Lo) (st : Store) (ds : List D) (st' : Store), g env st = some (ds, st') → ds.length = n) :
    ∀ (env : Lo) (st : Store) (ds : List D) (st' : Store), aCons f g env st = some (ds, st') → ds.length = n + 1 := fun env st ds st' hh => by
  obtain ⟨x, s1, ys, s2, h1, h2, e⟩ := aCons_some hh
  cases e
  rw [List.length_cons, h _ _ _ _ h2]

/-! ### the law's end -/
theorem law_end {P : Program} {w : World} {mg mb : Str → Option Value} {k : Nat} {fa a : Addr} {fd : FuncData} {x : Str} {m : FM} {s1 : Shared} {vs : List Value} {ns : List Int}
    (KX : K.In s1.heap) (hns : s1.heap.Ns mainGlobals mg) (hb : s1.heap.Ns builtinsNs mb) (hbb : ∀ x : Str, x ≠ "__name__" → mb x = bootBuiltins x) (hlim : s1.heap.NoLimit) (hg : s1.gens = #[])
    (ha : s1.heap.get? a = some { cls := .type "list", data := .seq vs.toArray }) (hi : IntsAre vs ns) (hl : ns.length ≤ sizeLine) (hr : Room k callerA)
    (Fd : ∀ base : Heap, K.In base → base.Ns mainGlobals mg → FnD P w K mg base k fa fd [x] m) (hbind : ∀ (s : Shared) (u : Value), BindsTo s fd ⟨[u], []⟩ [(x, u)])
    (hm : ∃ st', m [.scr ns] [] = some (.bl true, st')) :
    codeAny (model P w) callerA (.call (.ref fa) ⟨[.ref a], []⟩) (fun r s' => r = .ok (.ret (.bool true)) ∧ OldK s1.heap s'.heap ∧ s'.os = s1.os ∧ AllBare s'.gens) s1 := by
  obtain ⟨st', hm⟩ := hm
  have rv := vals_ints hi
  have lenV := hi.length
  let ob : Obj := { cls := .type "list", data := .seq vs.toArray }
  let emp : Rf := ⟨[], fun _ => False⟩
  -- what is tracked: nothing, or the script alone
  have go : ∀ H : Hp, (∀ b u, H b = some u → b = a ∧ u = .frz ob (.lst (ns.map V.int))) → (H a ≠ none → K.lookup a = none) → Rep K emp H (.ref a) (.scr ns) →
      codeAny (model P w) callerA (.call (.ref fa) ⟨[.ref a], []⟩) (fun r s' => r = .ok (.ret (.bool true)) ∧ OldK s1.heap s'.heap ∧ s'.os = s1.os ∧ AllBare s'.gens) s1 := by
    intro H hH hK hrep
    have hok : HOk P w H s1.heap := fun b u e => by
      obtain ⟨rfl, rfl⟩ := hH b u e
      exact ⟨ha, by rw [List.length_map]; exact hl, vs, _, rv, ha⟩
    have keepNs : ∀ {b : Addr} {m : Str → Option Value}, s1.heap.Ns b m → (hidT s1.heap H).Ns b m := fun {b m} ⟨o, es, ep, e, d, r⟩ => by
      refine ⟨o, es, ep, hidT_get e ?_, d, r⟩
      cases q : H b with
      | none => rfl
      | some u =>
        obtain ⟨rfl, _⟩ := hH b u q
        rw [ha] at e
        cases e
        cases (show Data.seq vs.toArray _ = Data.dict es ep from d)
    have KB : K.In (hidT s1.heap H) := fun b o e => hidT_get (KX b o e) (by
      cases q : H b with
      | none => rfl
      | some u =>
        obtain ⟨rfl, _⟩ := hH b u q
        rw [hK (by rw [q]; simp)] at e
        cases e)
    have e0 : Env0 P w K mg (hidT s1.heap H) callerA [] s1 H :=
      ⟨rfl, ⟨KB, keepNs hns, ⟨mb, keepNs hb, hbb⟩, let ⟨mc, h1, h2⟩ := hlim; ⟨mc, keepNs h1, h2⟩⟩, fun b o e => of_hidT e, Nat.le_of_eq (hidT_size _ _), trivial, fun b hb => absurd (show b ∈ ([] : List Addr) from hb) (by simp), hok, .of_eq hg⟩
    have sim : Sim K emp H [] := ⟨rfl, List.nodup_nil, fun n a o h => by simp [emp] at h, fun p h => h.elim, fun p h => by cases h⟩
    refine codeAny_mono ((Fd _ KB (keepNs hns)).run callerA [] s1 H ⟨[.ref a], []⟩ [.ref a] [.ref a] (fun v _ => v = .bl true) emp [.scr ns] [] st' (.bl true) rfl hr e0 (hbind s1 (.ref a)) (.cons rfl .nil) rfl (.cons hrep .nil) sim hm (fun v _ _ _ _ h => by cases h; rfl)) fun r s' h => ?_
    cases r with
    | error e => exact False.elim h
    | ok fl =>
      cases fl with
      | next => exact False.elim h
      | brk => exact False.elim h
      | cont => exact False.elim h
      | ret u =>
        obtain ⟨v, H', os, bare, un, hok', r', q⟩ := h
        subst q
        obtain rfl : u = Value.bool true := r'
        refine ⟨rfl, OldK.of_keep fun b o e => ?_, os, bare⟩
        cases q : H b with
        | none => exact un.keep b o e q (fun z => absurd (show b ∈ ([] : List Addr) from z) (by simp)) (by simp)
        | some u =>
          obtain ⟨rfl, rfl⟩ := hH b u q
          obtain ⟨e2, _⟩ := hok' b _ (un.frzs b _ _ q)
          rw [ha] at e
          cases e
          exact e2
  cases hk : K.lookup a with
  | some o =>
    have e := KX a o hk
    rw [ha] at e
    cases e
    exact go (fun _ => none) (fun _ _ h => by cases h) (fun h => absurd rfl h) (.scrK hk rfl rfl rfl (by rw [List.size_toArray, lenV]; exact hl) (by simpa using rv))
  | none =>
    refine go (fun b => if b = a then some (.frz ob (.lst (ns.map V.int))) else none) (fun b u h => ?_) (fun _ => hk) (.scr (if_pos rfl) fun h => h)
    by_cases z : b = a
    · have := (if_pos z).symm.trans h
      cases this
      exact ⟨z, rfl⟩
    · have := (if_neg z).symm.trans h
      cases this
/-- the goal that k_head leaves -/
theorem walkD {l : PySem.W.OpenLaw} {n k : Nat} {q : Program} {loose : List Str} {XP : (Str → Option Value) → Heap → Prop} {YP : World → Heap → Prop} {d : DefRec} {KK : Params → PySem.W.Frag} {x : Str} {m : FM}
    (hn : l.most = some n) (hn2 : n ≤ sizeLine) (hdf : d.params.defaults = []) (hr : Room k callerA) (hY : ∀ (w : World) (h : Heap), YP w h → (KK w.params).In h)
    (Fd : ∀ (w : World) (mg : Str → Option Value) (fa : Addr) (h : Heap), (KK w.params).In h → h.Ns mainGlobals mg → mg d.name = some (.ref fa) →
      ∃ fd : FuncData, (∀ (s : Shared) (u : Value), BindsTo s fd ⟨[u], []⟩ [(x, u)]) ∧ ∀ base : Heap, (KK w.params).In base → base.Ns mainGlobals mg → FnD l.prog w (KK w.params) mg base k fa fd [x] m)
    (hm : ∀ ns : List Int, ns.length ≤ n → (∀ z ∈ ns, Builtin.Int.intBits z ≤ 1048576) → ∃ st', m [.scr ns] [] = some (.bl true, st')) :
    PySem.W.WalkO q loose XP YP l.row.toRowW d [] (fun f vs => PySem.call f vs) := by
  refine Att.attach_callB hn hdf fun w s0 s1 mg mb fa o pm cd doc a vs ns G Y ho hd hcd hmg hobj hints hlen hbits hg => ?_
  obtain ⟨fd, hb, hF⟩ := Fd w mg fa _ (hY w _ Y) G.T.g hmg
  exact law_end (hY w _ Y) G.T.g G.T.b G.T.builtins G.T.nolimit hg hobj hints (Nat.le_trans hlen hn2) hr hF hb (hm ns hlen hbits)
end DL
namespace DL
open PySem PySem.Spec PyProof.Rows L2
variable {K : PySem.W.Frag}
/-! ### built-ins -/
section
variable {X : Cx}
theorem CallOk.or {f : Value} {g g' : List D → Store → Option D} (h : CallOk X f g) (h' : CallOk X f g') : CallOk X f (fun ds st => (g ds st).or (g' ds st)) := by
  obtain ⟨r, hr, k⟩ := h
  obtain ⟨r', hr', k'⟩ := h'
  refine ⟨_, hr.or hr', fun rho H xs ds d st Q rl si e q => ?_⟩
  cases z : g ds st with
  | some c =>
    simp only [z, Option.some_or] at e
    cases e
    exact .inl (k rho H xs ds _ st Q rl si z q)
  | none =>
    simp only [z, Option.none_or] at e
    exact .inr (k' rho H xs ds d st Q rl si e q)
/-- len -/
def lenL : List D → Store → Option D := fun ds st => match ds with
  | [.str x] => if x.length ≤ sizeLine then some (.int x.length) else none
  | [.lst xs] => some (.int xs.length)
  | [.tup xs] => some (.int xs.length)
  | [.scr ns] => some (.int ns.length)
  | [.ref n] => (match st[n]? with | some (.lst xs) => some (.int xs.length) | _ => none)
  | _ => none
theorem lst1 {r : Rf} {H : Hp} {vs : List V} {d : D} (l : RepL K r H vs [d]) : ∃ v, vs = [v] ∧ Rep K r H v d := by
  cases l with
  | cons a b => cases b; exact ⟨_, rfl, a⟩
theorem lst2 {r : Rf} {H : Hp} {vs : List V} {d e : D} (l : RepL K r H vs [d, e]) : ∃ v u, vs = [v, u] ∧ Rep K r H v d ∧ Rep K r H u e := by
  cases l with
  | cons a b =>
    obtain ⟨u, rfl, c⟩ := lst1 b
    exact ⟨_, u, rfl, a, c⟩
theorem ok_lenL : CallOk X (.builtin "len") lenL := ⟨_, call_len, fun rho H xs ds d st Q rl si e q => by
  unfold lenL at e
  split at e
  · obtain ⟨v, rfl, p⟩ := lst1 rl
    cases p
    split at e
    · rename_i hl
      cases e
      exact ⟨_, _, rfl, ⟨hl, rfl⟩, q _ H (fun _ _ h => h) (.int _)⟩
    · cases e
  · obtain ⟨v, rfl, p⟩ := lst1 rl
    cases e
    cases p with
    | lst a b c => exact ⟨_, _, rfl, .inl ⟨_, .of a, rfl⟩, by rw [c.len]; exact q _ H (fun _ _ h => h) (.int _)⟩
  · obtain ⟨v, rfl, p⟩ := lst1 rl
    cases e
    obtain ⟨a, us, rfl, s, l⟩ := p.sqT
    exact ⟨_, _, rfl, .inr ⟨_, s, rfl⟩, by rw [l.len]; exact q _ H (fun _ _ h => h) (.int _)⟩
  · rename_i ns
    obtain ⟨v, rfl, p⟩ := lst1 rl
    cases e
    obtain ⟨a, rfl, s⟩ := p.scrL
    exact ⟨_, _, rfl, .inl ⟨_, s, rfl⟩, by rw [List.length_map]; exact q _ H (fun _ _ h => h) (.int _)⟩
  · obtain ⟨v, rfl, p⟩ := lst1 rl
    obtain ⟨a, rfl, hp⟩ := p.refI
    split at e
    · rename_i xs hst
      cases e
      obtain ⟨av, us, hx, l⟩ := si.ob _ a _ hp hst
      exact ⟨_, _, rfl, .inl ⟨_, .of hx, rfl⟩, by rw [l.len]; exact q _ H (fun _ _ h => h) (.int _)⟩
    · cases e
  · cases e⟩
theorem call_lenK : CallR X (.builtin "len") (fun xs H Q => ∃ p kvs, xs = [.ref p] ∧ H p = some (.dK kvs) ∧ Q (.int kvs.length) H) := by
  intro pins s σ H xs us Q I r h
  obtain ⟨p, kvs, rfl, hp, q⟩ := h
  obtain ⟨u, rfl, rx⟩ := vals1 r
  cases rx
  exact d_len I (.inl hp) fun t s' I' => ⟨.int kvs.length, H, I', ⟨t, rfl⟩, q⟩
def lenK : List D → Store → Option D := fun ds st => match ds with
  | [.dct kvs] => some (.int kvs.length)
  | [.ref n] => (match st[n]? with | some (.dct kvs) => some (.int kvs.length) | _ => none)
  | _ => none
theorem ok_lenK : CallOk X (.builtin "len") lenK := ⟨_, call_lenK, fun rho H xs ds d st Q rl si e q => by
  unfold lenK at e
  split at e
  · obtain ⟨v, rfl, p⟩ := lst1 rl
    cases e
    cases p with
    | dct a b c => exact ⟨_, _, rfl, a, by rw [c.len]; exact q _ H (fun _ _ h => h) (.int _)⟩
  · obtain ⟨v, rfl, p⟩ := lst1 rl
    obtain ⟨a, rfl, hp⟩ := p.refI
    split at e
    · rename_i xs hst
      cases e
      obtain ⟨av, us, hx, l⟩ := si.ob _ a _ hp hst
      exact ⟨_, _, rfl, hx, by rw [l.len]; exact q _ H (fun _ _ h => h) (.int _)⟩
    · cases e
  · cases e⟩
def bLen : List D → Store → Option D := fun ds st => (lenL ds st).or (lenK ds st)
theorem ok_len : CallOk X (.builtin "len") bLen := ok_lenL.or ok_lenK
/-- list(x) -/
def listSeq : List D → Store → Option D := fun ds st => match ds with
  | [.lst xs] => some (.lst xs)
  | [.tup xs] => some (.lst xs)
  | [.scr ns] => some (.lst (ns.map .int))
  | [.ref n] => (match st[n]? with | some (.lst xs) => some (.lst xs) | _ => none)
  | _ => none
theorem fresh_lst {r : Rf} {H : Hp} {st : Store} {p : Addr} {vs : List V} {ds : List D} (si : Sim K r H st) (hp : H p = none) (l : RepL K r H vs ds) : Rep K r (upd H p (.lst vs)) (.ref p) (.lst ds) := .lst upd_same (si.free hp) (l.ex (Ex.same r (same_alloc hp)))
theorem fresh_tup {r : Rf} {H : Hp} {st : Store} {p : Addr} {vs : List V} {ds : List D} (si : Sim K r H st) (hp : H p = none) (l : RepL K r H vs ds) : Rep K r (upd H p (.tup vs)) (.ref p) (.tup ds) := .tup upd_same (si.free hp) (l.ex (Ex.same r (same_alloc hp)))
theorem ok_listSeq : CallOk X (.type "list") listSeq := ⟨_, call_list_of, fun rho H xs ds d st Q rl si e q => by
  unfold listSeq at e
  split at e
  · obtain ⟨v, rfl, p⟩ := lst1 rl
    cases e
    cases p with
    | lst a b c => exact ⟨_, _, rfl, .inl (.of a), fun l hl => q _ _ (same_alloc hl) (fresh_lst si hl c)⟩
  · obtain ⟨v, rfl, p⟩ := lst1 rl
    cases e
    obtain ⟨a, us, rfl, s, l⟩ := p.sqT
    exact ⟨_, _, rfl, .inr s, fun p hl => q _ _ (same_alloc hl) (fresh_lst si hl l)⟩
  · obtain ⟨v, rfl, p⟩ := lst1 rl
    cases e
    obtain ⟨a, rfl, s⟩ := p.scrL
    exact ⟨_, _, rfl, .inl s, fun p hl => q _ _ (same_alloc hl) (fresh_lst si hl (RepL.ofInts _))⟩
  · obtain ⟨v, rfl, p⟩ := lst1 rl
    obtain ⟨a, rfl, hp⟩ := p.refI
    split at e
    · rename_i xs hst
      cases e
      obtain ⟨av, us, hx, l⟩ := si.ob _ a _ hp hst
      exact ⟨_, _, rfl, .inl (.of hx), fun p hl => q _ _ (same_alloc hl) (fresh_lst si hl l)⟩
    · cases e
  · cases e⟩
theorem call_list_txt (hc : X.calm = true) : CallR X (.type "list") (fun xs H Q => ∃ x, xs = [.str x] ∧ x.length ≤ sizeLine ∧ ∀ p, H p = none → Q (.ref p) (upd H p (.lst (x.cps.toList.map fun c => V.str ⟨#[c]⟩)))) := by
  intro pins s σ H xs us Q I r h
  obtain ⟨x, rfl, hz, q⟩ := h
  obtain ⟨u, rfl, t, rfl⟩ := vals1 r
  refine call_list_str (I.ok.hd hc) x t (fun h' tk acc c' hk hS hacc => ?_) hz
  refine ⟨.ref s.heap.objs.size, _, I.laid (t' := tk) hk (Nat.le_refl _) ?_, rfl, q _ (I.hok.fresh (Nat.le_refl _))⟩
  refine ⟨by rw [List.length_map, Array.length_toList]; exact hz, acc.toList, c', ?_, by simpa using hS⟩
  refine vals_of_at ?_ fun j v w hv hw => ?_
  · rw [List.length_map, Array.length_toList, Array.length_toList, hacc.1]
  · obtain ⟨c, t2, h1, h2⟩ := hacc.2 j w (by simpa using hw)
    rw [List.getElem?_map] at hv
    have : x.cps.toList[j]? = some c := by simpa using h1
    rw [this] at hv
    cases hv
    exact ⟨t2, h2⟩
def listTxt : List D → Store → Option D := fun ds _ => match ds with
  | [.str x] => if x.length ≤ sizeLine then some (.lst (x.cps.toList.map fun c => .str ⟨#[c]⟩)) else none
  | _ => none
theorem RepL.signs {r : Rf} {H : Hp} : ∀ l : List Nat, RepL K r H (l.map fun c => V.str ⟨#[c]⟩) (l.map fun c => D.str ⟨#[c]⟩)
  | [] => .nil
  | c :: l => .cons (.str _) (RepL.signs l)
theorem ok_listTxt {k : Nat} (g : GX X k) : CallOk X (.type "list") listTxt := ⟨_, call_list_txt g.calm, fun rho H xs ds d st Q rl si e q => by
  unfold listTxt at e
  split at e
  · obtain ⟨v, rfl, p⟩ := lst1 rl
    cases p
    split at e
    · rename_i hl
      cases e
      exact ⟨_, rfl, hl, fun p hp => q _ _ (same_alloc hp) (fresh_lst si hp (RepL.signs _))⟩
    · cases e
  · cases e⟩
def bList : List D → Store → Option D := fun ds st => (listSeq ds st).or (listTxt ds st)
theorem ok_list {k : Nat} (g : GX X k) : CallOk X (.type "list") bList := ok_listSeq.or (ok_listTxt g)
/-- tuple(x) -/
def bTuple : List D → Store → Option D := fun ds st => match ds with
  | [.lst xs] => some (.tup xs)
  | [.tup xs] => some (.tup xs)
  | [.ref n] => (match st[n]? with | some (.lst xs) => some (.tup xs) | _ => none)
  | _ => none
theorem ok_tuple : CallOk X (.type "tuple") bTuple := ⟨_, call_tuple_of, fun rho H xs ds d st Q rl si e q => by
  unfold bTuple at e
  split at e
  · obtain ⟨v, rfl, p⟩ := lst1 rl
    cases e
    cases p with
    | lst a b c => exact ⟨_, _, rfl, .inl ⟨.of a, fun l hl => q _ _ (same_alloc hl) (fresh_tup si hl c)⟩⟩
  · obtain ⟨v, rfl, p⟩ := lst1 rl
    cases e
    obtain ⟨a, us, rfl, s, l⟩ := p.sqT
    exact ⟨_, _, rfl, .inr ⟨s, q _ H (fun _ _ h => h) p⟩⟩
  · obtain ⟨v, rfl, p⟩ := lst1 rl
    obtain ⟨a, rfl, hp⟩ := p.refI
    split at e
    · rename_i xs hst
      cases e
      obtain ⟨av, us, hx, l⟩ := si.ob _ a _ hp hst
      exact ⟨_, _, rfl, .inl ⟨.of hx, fun p hl => q _ _ (same_alloc hl) (fresh_tup si hl l)⟩⟩
    · cases e
  · cases e⟩
/-- int(x) of an int, a bool -/
def bInt : List D → Store → Option D := fun ds _ => match ds with
  | [.int i] => some (.int i)
  | [.bl b] => some (.int (if b then 1 else 0))
  | _ => none
theorem ok_intT : CallOk X (.type "int") bInt := ⟨_, call_int1, fun rho H xs ds d st Q rl si e q => by
  unfold bInt at e
  split at e
  · obtain ⟨v, rfl, p⟩ := lst1 rl
    cases p
    cases e
    exact .inl ⟨_, rfl, q _ H (fun _ _ h => h) (.int _)⟩
  · obtain ⟨v, rfl, p⟩ := lst1 rl
    cases p
    cases e
    exact .inr ⟨_, rfl, q _ H (fun _ _ h => h) (.int _)⟩
  · cases e⟩
def bMax : List D → Store → Option D := fun ds _ => match ds with | [.int i, .int j] => some (.int (if j > i then j else i)) | _ => none
def bMin : List D → Store → Option D := fun ds _ => match ds with | [.int i, .int j] => some (.int (if j < i then j else i)) | _ => none
theorem ok_max {k : Nat} (g : GX X k) : CallOk X (.builtin "max") bMax := ⟨_, call_max2 g.calm, fun rho H xs ds d st Q rl si e q => by
  unfold bMax at e
  split at e
  · obtain ⟨v, u, rfl, p1, p2⟩ := lst2 rl
    cases p1
    cases p2
    cases e
    exact ⟨_, _, rfl, q _ H (fun _ _ h => h) (.int _)⟩
  · cases e⟩
theorem ok_min {k : Nat} (g : GX X k) : CallOk X (.builtin "min") bMin := ⟨_, call_min2 g.calm, fun rho H xs ds d st Q rl si e q => by
  unfold bMin at e
  split at e
  · obtain ⟨v, u, rfl, p1, p2⟩ := lst2 rl
    cases p1
    cases p2
    cases e
    exact ⟨_, _, rfl, q _ H (fun _ _ h => h) (.int _)⟩
  · cases e⟩
/-- all, any of bools -/
def bools : List D → Option (List Bool)
  | [] => some []
  | .bl b :: ds => (bools ds).map (b :: ·)
  | _ :: _ => none
theorem RepL.bools {r : Rf} {H : Hp} : ∀ {ds : List D} {vs : List V} {bs : List Bool}, RepL K r H vs ds → DL.bools ds = some bs → vs = bs.map V.bl
  | [], _, _, .nil, h => by cases h; rfl
  | .bl b :: ds, _, _, .cons (.bl _) l, h => by
    obtain ⟨c, h1, h2⟩ := Option.map_eq_some_iff.mp (show (DL.bools ds).map (b :: ·) = _ from h)
    subst h2
    rw [List.map_cons, RepL.bools l h1]
  | .non :: _, _, _, _, h => by cases h
  | .int _ :: _, _, _, _, h => by cases h
  | .str _ :: _, _, _, _, h => by cases h
  | .tup _ :: _, _, _, _, h => by cases h
  | .lst _ :: _, _, _, _, h => by cases h
  | .dct _ :: _, _, _, _, h => by cases h
  | .scr _ :: _, _, _, _, h => by cases h
  | .ref _ :: _, _, _, _, h => by cases h
def bAll : List D → Store → Option D := fun ds _ => match ds with | [.lst xs] => (bools xs).map fun bs => .bl (bs.all id) | _ => none
def bAny : List D → Store → Option D := fun ds _ => match ds with | [.lst xs] => (bools xs).map fun bs => .bl (bs.any id) | _ => none
theorem ok_all {k : Nat} (g : GX X k) : CallOk X (.builtin "all") bAll := ⟨_, cr_all g.calm, fun rho H xs ds d st Q rl si e q => by
  unfold bAll at e
  split at e
  · obtain ⟨v, rfl, p⟩ := lst1 rl
    obtain ⟨bs, h1, h2⟩ := Option.map_eq_some_iff.mp e
    subst h2
    cases p with
    | lst a b c =>
      have := c.bools h1
      subst this
      exact ⟨_, bs, rfl, .of a, q _ H (fun _ _ h => h) (.bl _)⟩
  · cases e⟩
theorem ok_any {k : Nat} (g : GX X k) : CallOk X (.builtin "any") bAny := ⟨_, cr_any g.calm, fun rho H xs ds d st Q rl si e q => by
  unfold bAny at e
  split at e
  · obtain ⟨v, rfl, p⟩ := lst1 rl
    obtain ⟨bs, h1, h2⟩ := Option.map_eq_some_iff.mp e
    subst h2
    cases p with
    | lst a b c =>
      have := c.bools h1
      subst this
      exact ⟨_, bs, rfl, .of a, q _ H (fun _ _ h => h) (.bl _)⟩
  · cases e⟩
/-- sep.join(texts) -/
def strsD : List D → Option (List Str)
  | [] => some []
  | .str x :: ds => (strsD ds).map (x :: ·)
  | _ :: _ => none
theorem RepL.strs' {r : Rf} {H : Hp} : ∀ {ds : List D} {vs : List V} {ys : List Str}, RepL K r H vs ds → strsD ds = some ys → vs = ys.map V.str
  | [], _, _, .nil, h => by cases h; rfl
  | .str b :: ds, _, _, .cons (.str _) l, h => by
    obtain ⟨c, h1, h2⟩ := Option.map_eq_some_iff.mp (show (strsD ds).map (b :: ·) = _ from h)
    subst h2
    rw [List.map_cons, RepL.strs' l h1]
  | .non :: _, _, _, _, h => by cases h
  | .int _ :: _, _, _, _, h => by cases h
  | .bl _ :: _, _, _, _, h => by cases h
  | .tup _ :: _, _, _, _, h => by cases h
  | .lst _ :: _, _, _, _, h => by cases h
  | .dct _ :: _, _, _, _, h => by cases h
  | .scr _ :: _, _, _, _, h => by cases h
  | .ref _ :: _, _, _, _, h => by cases h
/-- a method of a built-in type: the receiver, the arguments -/
def MtOk (X : Cx) (T id : String) (g : D → List D → Option D) : Prop :=
  ∃ r, MtR X id r ∧ ∀ (rho : Rf) (H : Hp) (x : V) (a : D) (Q : VK) , Rep X.K rho H x a → (∃ ds d, g a ds = some d) → tyV X.K T x H
def fMt (g : D → List D → Option D) (fo : F) (fa : FA) : F := fun env st => (fo env st).bind fun p => (fa env p.2).bind fun q => (g p.1 q.1).map fun d => (d, q.2)
/-- one argument; the receiver keeps its type -/
theorem de_mt {T id : String} {name : Str} {g : D → List D → Option D} {r : V → List V → Hp → VK → Prop} {o e : Expr} {es : List Expr} {fo : F} {fa : FA} {apos cpos : Pos}
    (hm : MtR X id r) (ty : ∀ (rho : Rf) (H : Hp) (x : V) (a : D) ds d, Rep X.K rho H x a → g a ds = some d → tyV X.K T x H)
    (ok : ∀ (rho : Rf) (H : Hp) (x : V) (xs : List V) (a : D) (ds : List D) (d : D) (st : Store) (Q : VK), Rep X.K rho H x a → RepL X.K rho H xs ds → Sim X.K rho H st → g a ds = some d → (∀ v H', Same H H' → Rep X.K rho H' v d → Q v H') → r x xs H Q)
    (pa : PlainAttrs T) (slot : Slot T name id) (hty : typeOf (.builtin id) = pure (.type "method_descriptor")) (ho : DE X o fo) (ha : DA X (e :: es) fa)
    (hbase : attributeBase o name X.env (eval o X.env) = eval o X.env := by rfl)
    (hfew : ((backTo cpos (starEach (e :: es) X.env)).all (fun x => !x.1) && (backToKw cpos (keywordEach [] X.env)).all (fun x => x.1.isSome)
      && decide ((e :: es).length + ([] : List Keyword).length + (if ([] : List Keyword).isEmpty then 0 else 1) < 30)) = true := by rfl)
    (hline : (apos.endLine == cpos.line) = true := by rfl) (hs : starEach (e :: es) X.env = (false, eval e X.env) :: starEach es X.env := by rfl) (hplain : (backTo cpos (starEach es X.env)).any (·.1) = false := by rfl) :
    DE X (.Call (.Attribute o name apos) (e :: es) [] cpos) (fMt g fo fa) :=
  weakE (pe_bm pa slot hty hm ho ha hbase hfew hline hs hplain) fun σ H Q hh => by
  obtain ⟨r', env, st, d, st', he, hs, hf, q⟩ := hh
  obtain ⟨⟨x, s1⟩, h1, hf1⟩ := Option.bind_eq_some_iff.mp hf
  obtain ⟨⟨ys, s2⟩, h2, hf2⟩ := Option.bind_eq_some_iff.mp hf1
  obtain ⟨d', h3, hf3⟩ := Option.map_eq_some_iff.mp hf2
  cases hf3
  exact ⟨r', env, st, x, s1, he, hs, h1, fun u r1 H1 e1 q1 p1 => ⟨ty r1 H1 u x ys d p1 h3, r1, env, s1, ys, _, he.ext e1, q1, h2, fun us r2 H2 e2 q2 l2 =>
    ok r2 H2 u us x ys d _ Q (p1.ext e2) l2 q2 h3 fun w H3 sm pw => q w r2 H3 ((e1.trans e2).trans (q2.ext sm)) (q2.same sm) pw⟩⟩
def joinD : D → List D → Option D := fun a ds => match a, ds with
  | .str x, [.lst xs] => (strsD xs).bind fun ys => if (ys.map (·.length)).sum + ys.length * x.length ≤ 16777216 then some (.str (Txt.join x ys)) else none
  | _, _ => none
theorem strTy {g : D → List D → Option D} (h : ∀ a ds d, g a ds = some d → ∃ x, a = .str x) : ∀ (rho : Rf) (H : Hp) (x : V) (a : D) ds d, Rep X.K rho H x a → g a ds = some d → tyV X.K "str" x H := fun rho H x a ds d ra e => by
  obtain ⟨z, rfl⟩ := h a ds d e
  cases ra
  exact rfl
theorem joinOk : ∀ (rho : Rf) (H : Hp) (x : V) (xs : List V) (a : D) (ds : List D) (d : D) (st : Store) (Q : VK), Rep X.K rho H x a → RepL X.K rho H xs ds → Sim X.K rho H st → joinD a ds = some d → (∀ v H', Same H H' → Rep X.K rho H' v d → Q v H') →
    ∃ a p, ∃ ys : List Str, x = .str a ∧ xs = [.ref p] ∧ (SqL X.K H p (ys.map V.str) ∨ SqT X.K H p (ys.map V.str)) ∧ (ys.map (·.length)).sum + ys.length * a.length ≤ 16777216 ∧ Q (.str (Txt.join a ys)) H := by
  intro rho H x xs a ds d st Q ra rl si e q
  unfold joinD at e
  split at e
  · rename_i z zs
    obtain ⟨ys, h1, h2⟩ := Option.bind_eq_some_iff.mp e
    split at h2
    · rename_i hl
      cases h2
      cases ra
      obtain ⟨v, rfl, p⟩ := lst1 rl
      cases p with
      | lst g1 g2 g3 =>
        have := g3.strs' h1
        subst this
        exact ⟨z, _, ys, rfl, rfl, .inl (.of g1), hl, q _ H (fun _ _ h => h) (.str _)⟩
    · cases h2
  · cases e
theorem joinTy : ∀ (rho : Rf) (H : Hp) (x : V) (a : D) ds d, Rep X.K rho H x a → joinD a ds = some d → tyV X.K "str" x H := strTy fun a ds d e => by
  unfold joinD at e
  split at e
  · exact ⟨_, rfl⟩
  · cases e
def startsD : D → List D → Option D := fun a ds => match a, ds with
  | .str x, [.str y] => some (.bl (Txt.startswith x y))
  | _, _ => none
theorem startsOk : ∀ (rho : Rf) (H : Hp) (x : V) (xs : List V) (a : D) (ds : List D) (d : D) (st : Store) (Q : VK), Rep X.K rho H x a → RepL X.K rho H xs ds → Sim X.K rho H st → startsD a ds = some d → (∀ v H', Same H H' → Rep X.K rho H' v d → Q v H') →
    ∃ a b, x = .str a ∧ xs = [.str b] ∧ Q (.bl (Txt.startswith a b)) H := by
  intro rho H x xs a ds d st Q ra rl si e q
  unfold startsD at e
  split at e
  · cases ra
    obtain ⟨v, rfl, p⟩ := lst1 rl
    cases p
    cases e
    exact ⟨_, _, rfl, rfl, q _ H (fun _ _ h => h) (.bl _)⟩
  · cases e
theorem startsTy : ∀ (rho : Rf) (H : Hp) (x : V) (a : D) ds d, Rep X.K rho H x a → startsD a ds = some d → tyV X.K "str" x H := strTy fun a ds d e => by
  unfold startsD at e
  split at e
  · exact ⟨_, rfl⟩
  · cases e

/-! ### one value -/
def fUn (g : D → Option D) (fa : F) : F := fun env st => (fa env st).bind fun p => (g p.1).map fun d => (d, p.2)
def negI : D → Option D | .int i => some (.int (-i)) | _ => none
theorem de_neg {a : Expr} {fa : F} {pos : Pos} (ha : DE X a fa) : DE X (.UnaryOp .USub a pos) (fUn negI fa) := weakE (pe_un un_neg ha) fun σ H Q hh => by
  obtain ⟨r', env, st, d, st', he, hs, hf, q⟩ := hh
  obtain ⟨⟨x, s1⟩, h1, hf1⟩ := Option.bind_eq_some_iff.mp hf
  obtain ⟨d', h2, hf2⟩ := Option.map_eq_some_iff.mp hf1
  cases hf2
  refine ⟨r', env, st, x, _, he, hs, h1, fun u r1 H1 e1 q1 p1 => ?_⟩
  cases x with
  | int i =>
    cases h2
    cases p1
    exact ⟨i, rfl, q _ r1 H1 e1 q1 (.int _)⟩
  | _ => cases h2
/-- isinstance(x, T), T a built-in type -/
def tyOb : Option Ob → Option String | some (.lst _) => some "list" | some (.dct _) => some "dict" | _ => none
def tyD : D → Store → Option String := fun d st => match d with
  | .non => some "NoneType" | .bl _ => some "bool" | .int _ => some "int" | .str _ => some "str" | .tup _ => some "tuple" | .lst _ => some "list" | .dct _ => some "dict" | .scr _ => some "list"
  | .ref n => tyOb st[n]?
def isiB (a T : String) : Bool := a == T || (a == "bool" && T == "int")
def fIsi (T : String) (f : F) : F := fun env st => (f env st).bind fun p => (tyD p.1 p.2).map fun a => (.bl (isiB a T), p.2)
theorem tyX_of {r : Rf} {H : Hp} {v : V} {d : D} {st : Store} {t : String} (h : Rep K r H v d) (si : Sim K r H st) (e : tyD d st = some t) : TyX K H v (.type t) := by
  cases d with
  | non => cases h; cases e; exact .base .non
  | bl b => cases h; cases e; exact .base (.bl b)
  | int b => cases h; cases e; exact .base (.int b)
  | str b => cases h; cases e; exact .base (.str b)
  | tup ds =>
    cases e
    cases h with
    | tup a b c => exact .base (.tup a)
    | tupK a b c d f l => exact .kTuple a b
  | lst ds =>
    cases e
    cases h with
    | lst a b c => exact .base (.lst a)
  | dct ds =>
    cases e
    cases h with
    | dct a b c => exact .base (.dK a)
  | scr ns =>
    cases e
    cases h with
    | scr a b => exact .base (.frz a)
    | scrK a b c d e f => exact .kList a b
  | ref n =>
    obtain ⟨a, rfl, hp⟩ := h.refI
    have e' : tyOb st[n]? = some t := e
    unfold tyOb at e'
    split at e'
    · rename_i xs hst
      cases e'
      obtain ⟨av, us, hx, l⟩ := si.ob n a _ hp hst
      exact .base (.lst hx)
    · rename_i xs hst
      cases e'
      obtain ⟨av, us, hx, l⟩ := si.ob n a _ hp hst
      exact .base (.dK hx)
    · cases e'
def tyNames : List String := ["NoneType", "bool", "int", "str", "tuple", "list", "dict"]
theorem kit_all : ∀ a ∈ tyNames, ∀ T ∈ tyNames, kitB a T = some (isiB a T) := by decide +kernel
theorem tyD_mem {d : D} {st : Store} {t : String} (e : tyD d st = some t) : t ∈ tyNames := by
  cases d with
  | ref n =>
    have e' : tyOb st[n]? = some t := e
    unfold tyOb at e'
    split at e' <;> cases e' <;> decide
  | _ => cases e; decide
theorem de_isi {a : Expr} {fa : F} {T : String} {x : Str} {p p2 pos : Pos} (ha : DE X a fa) (hT : T ∈ tyNames) (hg : Gl X "isinstance") (hm : X.mg "isinstance" = none) (hg2 : Gl X x) (hm2 : X.mg x = none) (hv : bootBuiltins x = some (.type T)) (hn : x ≠ "__name__" := by decide) (hdb : (x == ("__debug__" : Str)) = false := by decide)
    (hs : starEach [a, .Name x p2] X.env = (false, eval a X.env) :: starEach [.Name x p2] X.env := by rfl) (hs2 : starEach [.Name x p2] X.env = [(false, eval (.Name x p2) X.env)] := by rfl) (hpl : (backTo pos (starEach [.Name x p2] X.env)).any (·.1) = false := by rfl) :
    DE X (.Call (.Name "isinstance" p) [a, .Name x p2] [] pos) (fIsi T fa) :=
  weakE (pe_callB call_isi hg hm PyProof.Rows.boot_isinstance (pa_cons ha (pa_cons (pe_bltn (v := .ty T) hg2 hm2 hv rfl hn hdb) pa_nil hs2) hs) (by decide) (by decide) hs hpl) fun σ H Q hh => by
  obtain ⟨r', env, st, d, st', he, hs, hf, q⟩ := hh
  obtain ⟨⟨y, s1⟩, h1, hf1⟩ := Option.bind_eq_some_iff.mp hf
  obtain ⟨t, h2, hf2⟩ := Option.map_eq_some_iff.mp hf1
  cases hf2
  refine ⟨r', env, st, y, _, he, hs, h1, fun u r1 H1 e1 q1 p1 => ?_⟩
  exact ⟨u, .ty T, .type t, .type T, isiB t T, rfl, .ty T, tyX_of p1 q1 h2, kit_ty (kit_all t (tyD_mem h2) T hT), q _ r1 H1 e1 q1 (.bl _)⟩

/-! ### in, not in: flat items -/
def eqF : D → D → Option Bool
  | .non, .non => some true | .non, .bl _ => some false | .non, .int _ => some false | .non, .str _ => some false
  | .bl _, .non => some false | .bl a, .bl b => some (a == b) | .bl a, .int b => some ((if a then 1 else 0) == b) | .bl _, .str _ => some false
  | .int _, .non => some false | .int a, .bl b => some (a == (if b then 1 else 0)) | .int a, .int b => some (a == b) | .int _, .str _ => some false
  | .str _, .non => some false | .str _, .bl _ => some false | .str _, .int _ => some false | .str a, .str b => some (a == b)
  | _, _ => none
/-- is x among the items -/
def anyF (x : D) : List D → Option Bool
  | [] => some false
  | y :: ys => (eqF y x).bind fun b => (anyF x ys).map fun c => b || c
def flatD : D → Bool | .non => true | .bl _ => true | .int _ => true | .str _ => true | _ => false
def inSeq (neg : Bool) : D → D → Option D := fun x y => match y with
  | .lst ds => if flatD x then (anyF x ds).map fun b => .bl (if neg then !b else b) else none
  | .tup ds => if flatD x then (anyF x ds).map fun b => .bl (if neg then !b else b) else none
  | _ => none
theorem eqF_rep {r : Rf} {H : Hp} {v u : V} {a b : D} {k : Bool} (ra : Rep K r H v a) (rb : Rep K r H u b) (e : eqF a b = some k) : eqV v u = k ∧ flatV v = true ∧ flatV u = true := by
  cases a <;> cases b <;> first
    | cases e; done
    | (cases ra; cases rb; cases e; exact ⟨rfl, rfl, rfl⟩)
theorem anyF_rep {r : Rf} {H : Hp} {x : V} {a : D} (ra : Rep K r H x a) : ∀ {ds : List D} {vs : List V} {k : Bool}, RepL K r H vs ds → anyF a ds = some k → inV x vs = k ∧ vs.all flatV = true
  | [], _, _, .nil, e => by cases e; exact ⟨rfl, rfl⟩
  | d :: ds, _, k, .cons p l, e => by
    obtain ⟨b, h1, h2⟩ := Option.bind_eq_some_iff.mp (show ((eqF d a).bind fun b => (anyF a ds).map fun c => b || c) = some k from e)
    obtain ⟨c, h3, h4⟩ := Option.map_eq_some_iff.mp h2
    obtain ⟨g1, g2⟩ := anyF_rep ra l h3
    obtain ⟨g3, g4, _⟩ := eqF_rep p ra h1
    refine ⟨?_, by rw [List.all_cons, g4, g2]; rfl⟩
    unfold inV at g1 ⊢
    rw [List.any_cons, g3, g1]; exact h4
theorem flat_rep {r : Rf} {H : Hp} {x : V} {a : D} (ra : Rep K r H x a) (h : flatD a = true) : flatV x = true := by
  cases a <;> first
    | cases h; done
    | (cases ra; rfl)
theorem inSeq_ok (neg : Bool) {rho : Rf} {H : Hp} {x y : V} {a b d : D} {Q : VK} (ra : Rep K rho H x a) (rb : Rep K rho H y b) (e : inSeq neg a b = some d) (q : ∀ v H', Same H H' → Rep K rho H' v d → Q v H') : rIn K neg x y H Q := by
  cases b with
  | lst ds =>
    have e' : (if flatD a then (anyF a ds).map fun b => D.bl (if neg then !b else b) else none) = some d := e
    by_cases fl : flatD a = true
    case neg => rw [if_neg fl] at e'; cases e'
    rw [if_pos fl] at e'
    obtain ⟨k, h1, h2⟩ := Option.map_eq_some_iff.mp e'
    subst h2
    cases rb with
    | lst g1 g2 g3 =>
      obtain ⟨z1, z2⟩ := anyF_rep ra g3 h1
      refine ⟨_, _, rfl, .inl (.of g1), flat_rep ra fl, z2, ?_⟩
      rw [z1]; exact q _ H (fun _ _ h => h) (.bl _)
  | tup ds =>
    have e' : (if flatD a then (anyF a ds).map fun b => D.bl (if neg then !b else b) else none) = some d := e
    by_cases fl : flatD a = true
    case neg => rw [if_neg fl] at e'; cases e'
    rw [if_pos fl] at e'
    obtain ⟨k, h1, h2⟩ := Option.map_eq_some_iff.mp e'
    subst h2
    obtain ⟨p, us, rfl, s, l⟩ := rb.sqT
    obtain ⟨z1, z2⟩ := anyF_rep ra l h1
    refine ⟨_, _, rfl, .inr s, flat_rep ra fl, z2, ?_⟩
    rw [z1]; exact q _ H (fun _ _ h => h) (.bl _)
  | _ => cases e
theorem ok_in : OpOk X (compareOp .In) (inSeq false) := ⟨_, op_in_seq, fun rho H x y a b d st Q si ra rb e q => inSeq_ok false ra rb e q⟩
theorem ok_notin : OpOk X (compareOp .NotIn) (inSeq true) := ⟨_, op_notIn_seq, fun rho H x y a b d st Q si ra rb e q => inSeq_ok true ra rb e q⟩
end
end DL
namespace DL
open PySem PySem.Spec PyProof.Rows L2
variable {K : PySem.W.Frag}
section
variable {X : Cx}
theorem GX.blk {k : Nat} (g : GX X k) {s : Shared} {H : Hp} {sc : Scope} {ce : Env} {fp : List Addr} : GX (X.blk s H sc ce fp) k := ⟨g.calm, g.nd, g.room, g.gd⟩
/-- a, b = x, y -/
def par2 (i j : Nat) (ds : List D) (env : Lo) : Option Lo := match ds with | [x, y] => some ((env.set i (some x)).set j (some y)) | _ => none
def par3 (i j l : Nat) (ds : List D) (env : Lo) : Option Lo := match ds with | [x, y, z] => some (((env.set i (some x)).set j (some y)).set l (some z)) | _ => none
theorem par2_some {i j : Nat} {ds : List D} {env e : Lo} (h : par2 i j ds env = some e) : ∃ x y, ds = [x, y] ∧ e = (env.set i (some x)).set j (some y) := by
  unfold par2 at h
  split at h
  · cases h; exact ⟨_, _, rfl, rfl⟩
  · cases h
theorem par3_some {i j l : Nat} {ds : List D} {env e : Lo} (h : par3 i j l ds env = some e) : ∃ x y z, ds = [x, y, z] ∧ e = ((env.set i (some x)).set j (some y)).set l (some z) := by
  unfold par3 at h
  split at h
  · cases h; exact ⟨_, _, _, rfl, rfl⟩
  · cases h
def sPar (f : List D → Lo → Option Lo) (fa : FA) : FS := fun env st => (fa env st).bind fun p => (f p.1 env).map fun e => (.nx, e, p.2)
theorem ds_par2 (i j : Nat) {x y : Str} {a b : Expr} {fa : FA} {px py pt pos : Pos} {kt k2 : Nat} {pt2 : Pos} {k : Nat} (g : GX X k) (hi : X.N[i]? = some x) (hj : X.N[j]? = some y) (hij : i ≠ j)
    (hx : X.env.scope.names.lookup x = some .local) (hy : X.env.scope.names.lookup y = some .local) (ha : DA X [a, b] fa)
    (hw : swappedStores [.Tuple [.Name x px, .Name y py] kt pt] (.Tuple [a, b] k2 pt2) X.env = pure (some [x, y]) := by rfl)
    (hs : swapsWithSole [.Tuple [.Name x px, .Name y py] kt pt] (.Tuple [a, b] k2 pt2) pos.line X.env = pure false := by rfl) :
    DS X (.Assign [.Tuple [.Name x px, .Name y py] kt pt] (.Tuple [a, b] k2 pt2) pos) (sPar (par2 i j) fa) := weakS (ps_par g.calm g.nd hi hj hij hx hy ha hw hs) fun D' σ H hh => by
  obtain ⟨r, env, st, o, env', st', he, hs, hf, q⟩ := hh
  obtain ⟨⟨ds, s1⟩, h1, h2⟩ := Option.bind_eq_some_iff.mp hf
  obtain ⟨e1, h3, h4⟩ := Option.map_eq_some_iff.mp h2
  cases h4
  obtain ⟨a, b, rfl, rfl⟩ := par2_some h3
  refine ⟨r, env, st, _, _, he, hs, h1, fun vs r1 H1 x1 q1 l1 => ?_⟩
  obtain ⟨v, u, rfl, p1, p2⟩ := lst2 l1
  exact ⟨v, u, rfl, q _ r1 H1 x1 (((he.ext x1).set p1 i).set p2 j) q1⟩
theorem lst3 {r : Rf} {H : Hp} {vs : List V} {d e f : D} (l : RepL K r H vs [d, e, f]) : ∃ v u w, vs = [v, u, w] ∧ Rep K r H v d ∧ Rep K r H u e ∧ Rep K r H w f := by
  cases l with
  | cons a b =>
    obtain ⟨u, w, rfl, c, d⟩ := lst2 b
    exact ⟨_, u, w, rfl, a, c, d⟩
theorem ds_par3 (i j l : Nat) {x y z : Str} {a b c : Expr} {fa : FA} {px py pz pt pos : Pos} {kt k2 : Nat} {pt2 : Pos} {k : Nat} (g : GX X k) (hi : X.N[i]? = some x) (hj : X.N[j]? = some y) (hl : X.N[l]? = some z) (hij : i ≠ j) (hil : i ≠ l) (hjl : j ≠ l)
    (hx : X.env.scope.names.lookup x = some .local) (hy : X.env.scope.names.lookup y = some .local) (hz : X.env.scope.names.lookup z = some .local) (ha : DA X [a, b, c] fa)
    (hw : swappedStores [.Tuple [.Name x px, .Name y py, .Name z pz] kt pt] (.Tuple [a, b, c] k2 pt2) X.env = pure (some [x, y, z]) := by rfl)
    (hs : swapsWithSole [.Tuple [.Name x px, .Name y py, .Name z pz] kt pt] (.Tuple [a, b, c] k2 pt2) pos.line X.env = pure false := by rfl) :
    DS X (.Assign [.Tuple [.Name x px, .Name y py, .Name z pz] kt pt] (.Tuple [a, b, c] k2 pt2) pos) (sPar (par3 i j l) fa) := weakS (ps_par3 g.calm g.nd hi hj hl hij hil hjl hx hy hz ha hw hs) fun D' σ H hh => by
  obtain ⟨r, env, st, o, env', st', he, hs, hf, q⟩ := hh
  obtain ⟨⟨ds, s1⟩, h1, h2⟩ := Option.bind_eq_some_iff.mp hf
  obtain ⟨e1, h3, h4⟩ := Option.map_eq_some_iff.mp h2
  cases h4
  obtain ⟨a, b, c, rfl, rfl⟩ := par3_some h3
  refine ⟨r, env, st, _, _, he, hs, h1, fun vs r1 H1 x1 q1 l1 => ?_⟩
  obtain ⟨v, u, w, rfl, p1, p2, p3⟩ := lst3 l1
  exact ⟨v, u, w, rfl, q _ r1 H1 x1 ((((he.ext x1).set p1 i).set p2 j).set p3 l) q1⟩
theorem RepL.ofStrs {r : Rf} {H : Hp} : ∀ ys : List Str, RepL K r H (ys.map V.str) (ys.map D.str)
  | [] => .nil
  | y :: ys => .cons (.str y) (RepL.ofStrs ys)
/-- a constant of the module: a tuple of texts -/
theorem de_gtupS {x : Str} {a : Addr} {o : Obj} {its : Array Value} {n : Nat} {ys : List Str} {pos : Pos} (hg : Gl X x) (hm : X.mg x = some (.ref a)) (hl : X.K.lookup a = some o) (hc : o.cls = .type "tuple") (hd : o.data = .seq its n) (hz : its.size ≤ sizeLine) (hv : Vals (ys.map V.str) its.toList)
    (hdb : (x == ("__debug__" : Str)) = false := by decide) : DE X (.Name x pos) (fC (.tup (ys.map .str))) :=
  de_c (pe_glob (v := .ref a) hg hm rfl hdb) fun r H => .tupK hl hc hd hz hv (RepL.ofStrs ys)
end
end DL
/-! The laws' tape of draws, once for all laws. -/
namespace DL
open PySem PySem.Spec PyProof.Rows L2
open Builtin.Int (intBits)
def gTape : FS := (sSeq (sAsg (fOp opAdd (fC (.int 97)) (fOp opMul (fVar 1) (fC (.int 31)))) (gN 2)) (sSeq (sFor (iOf asScr (fVar 0)) (gN 3) (sAsg (fOp opAdd (fOp modI (fOp powI (fOp opAdd (fOp opAdd (fOp opMul (fVar 2) (fC (.int 30011))) (fOp opMul (fVar 3) (fVar 3))) (fC (.int 7))) (fC (.int 2))) (fC (.int 2147483563))) (fC (.int 2))) (gN 2))) (sSeq (sAsg (fIfE (fAndT (fTest (fOp opLt (fVar 1) (fMk bLen (aCons (fVar 0) aNil)))) (fTest (fOp opGe (fSub (fVar 0) (fVar 1)) (fOp powI (fC (.int 10)) (fC (.int 18)))))) (fOp subI (fSub (fVar 0) (fVar 1)) (fOp powI (fC (.int 10)) (fC (.int 18)))) (fC (.int 0))) (gN 4)) (sRet (fDict (((fC (.str (Str.ofString "digits"))), (fVar 4)) :: (((fC (.str (Str.ofString "mixed"))), (fVar 2)) :: [])))))))
def gPick : FS := (sSeq (sIf (fTest (fOp opGe (fSub (fVar 0) (fC (.str (Str.ofString "digits")))) (fVar 1))) (sSeq (sAsg (fOp modI (fSub (fVar 0) (fC (.str (Str.ofString "digits")))) (fVar 1)) (gN 2)) (sSeq (sPut (fVar 0) (fC (.str (Str.ofString "digits"))) (fOp fdivI (fSub (fVar 0) (fC (.str (Str.ofString "digits")))) (fVar 1))) (sRet (fVar 2)))) sNil) (sSeq (sPut (fVar 0) (fC (.str (Str.ofString "mixed"))) (fOp modI (fOp opAdd (fOp opMul (fSub (fVar 0) (fC (.str (Str.ofString "mixed")))) (fC (.int 40014))) (fC (.int 1013))) (fC (.int 2147483563)))) (sRet (fOp modI (fOp fdivI (fOp modI (fOp powI (fOp modI (fOp powI (fSub (fVar 0) (fC (.str (Str.ofString "mixed")))) (fC (.int 2))) (fC (.int 2147483399))) (fC (.int 3))) (fC (.int 998244353))) (fC (.int 5))) (fVar 1)))))
def mTape : FM := mOf 5 gTape
def mPick : FM := mOf 3 gPick
def gOne : FS := (sRet (fSub (fVar 1) (fCall mPick (aCons (fVar 0) (aCons (fMk bLen (aCons (fVar 1) aNil)) aNil)))))
def mOne : FM := mOf 2 gOne
abbrev kD : Key := .inr (Str.ofString "digits")
abbrev kM : Key := .inr (Str.ofString "mixed")
theorem kDM : ¬ Str.ofString "digits" = Str.ofString "mixed" := by decide
theorem kMD : ¬ Str.ofString "mixed" = Str.ofString "digits" := by decide
/-- the tape's pairs -/
def tapeKV (a b : Int) : List (Key × D) := [(kD, .int a), (kM, .int b)]
theorem tape_valD (a b : Int) : valD (tapeKV a b) kD = some (.int a) := by simp [valD, tapeKV]
theorem tape_valM (a b : Int) : valD (tapeKV a b) kM = some (.int b) := by simp [valD, tapeKV, kDM]
theorem tape_putD (a b c : Int) : putD (tapeKV a b) kD (.int c) = tapeKV c b := by simp [putD, tapeKV, kDM, kMD]
theorem tape_putM (a b c : Int) : putD (tapeKV a b) kM (.int c) = tapeKV a c := by simp [putD, tapeKV, kDM, kMD]
/-- the tape at n -/
structure Tp (st : Store) (n : Nat) : Prop where
  at_ : ∃ a b : Int, st[n]? = some (.dct (tapeKV a b)) ∧ 0 ≤ a ∧ 0 ≤ b ∧ b < 4294967296
/-- nothing else has changed -/
structure Fr (n : Nat) (st st' : Store) : Prop where
  len : st.length ≤ st'.length
  at_ : ∀ m, m ≠ n → m < st.length → st'[m]? = st[m]?
theorem Fr.refl (n : Nat) (st : Store) : Fr n st st := ⟨Nat.le_refl _, fun _ _ _ => rfl⟩
theorem Fr.trans {n : Nat} {a b c : Store} (x : Fr n a b) (y : Fr n b c) : Fr n a c := ⟨Nat.le_trans x.len y.len, fun m h1 h2 => (y.at_ m h1 (Nat.lt_of_lt_of_le h2 x.len)).trans (x.at_ m h1 h2)⟩
theorem Fr.set {n : Nat} {st : Store} (o : Ob) : Fr n st (st.set n o) := ⟨by rw [List.length_set]; exact Nat.le_refl _, fun m h _ => by rw [List.getElem?_set_ne (Ne.symm h)]⟩
theorem Tp.lt {st : Store} {n : Nat} (h : Tp st n) : n < st.length := let ⟨_, _, e, _⟩ := h.at_; (List.getElem?_eq_some_iff.mp e).1
theorem bits32 {x : Int} (h0 : 0 ≤ x) (h1 : x < 4294967296) : intBits x ≤ 32 := intBits_le_iff.mpr (by omega)
theorem opAdd_int (a b : Int) : opAdd (.int a) (.int b) = some (.int (a + b)) := by simp [opAdd, orD, addI, onI]
theorem opMul_int {a b : Int} {m n : Nat} (ha : intBits a ≤ m) (hb : intBits b ≤ n) (h : m + n ≤ 134217728) : opMul (.int a) (.int b) = some (.int (a * b)) := by
  have : intBits a + intBits b ≤ 134217728 := by omega
  simp [opMul, orD, mulI, onI, this]
theorem modI_int {a b : Int} (h : 0 < b) : modI (.int a) (.int b) = some (.int (a % b)) := by simp [modI, onI, h]
theorem fdivI_int {a b : Int} (h : 0 < b) (h2 : b < 1073741824) : fdivI (.int a) (.int b) = some (.int (a / b)) := by simp [fdivI, onI, h, h2]
theorem powI_int {a b : Int} {m : Nat} (h0 : 0 ≤ b) (ha : intBits a ≤ m) (h : (m : Int) * b ≤ 134217728) : powI (.int a) (.int b) = some (.int (a ^ b.toNat)) := by
  have : (intBits a : Int) * b ≤ 134217728 := Int.le_trans (Int.mul_le_mul_of_nonneg_right (Int.ofNat_le.mpr ha) h0) h
  simp [powI, onI, h0, this]
theorem opGe_int (a b : Int) : opGe (.int a) (.int b) = some (.bl (decide (b ≤ a))) := by simp [opGe, orD, geI, onI]
theorem opLt_int (a b : Int) : opLt (.int a) (.int b) = some (.bl (decide (a < b))) := by simp [opLt, orD, ltI, onI]
theorem opLe_int (a b : Int) : opLe (.int a) (.int b) = some (.bl (decide (a ≤ b))) := by simp [opLe, orD, leI, onI]
theorem opGt_int (a b : Int) : opGt (.int a) (.int b) = some (.bl (decide (b < a))) := by simp [opGt, orD, gtI, onI]
theorem subI_int (a b : Int) : subI (.int a) (.int b) = some (.int (a - b)) := by simp [subI, onI]
theorem subTape {st : Store} {n : Nat} {a b : Int} (h : st[n]? = some (.dct (tapeKV a b))) : ixD (.ref n) (.str (Str.ofString "digits")) st = some (.int a) ∧ ixD (.ref n) (.str (Str.ofString "mixed")) st = some (.int b) := by
  constructor
  · unfold ixD
    simp only [h, asKey, Option.bind_some]
    exact tape_valD a b
  · unfold ixD
    simp only [h, asKey, Option.bind_some]
    exact tape_valM a b
theorem put_ref {env : Lo} {st s1 s2 s3 : Store} {fo fk fv : F} {d : D} {n : Nat} {kd : D} {k : Key} {kvs : List (Key × D)} (h1 : fv env st = some (d, s1)) (h2 : fo env s1 = some (.ref n, s2)) (h3 : fk env s2 = some (kd, s3)) (hk : asKey kd = some k)
    (hs : s3[n]? = some (.dct kvs)) (hl : kvs.length < 1000) : sPut fo fk fv env st = some (.nx, env, s3.set n (.dct (putD kvs k d))) := by
  have : kvs.length < sizeLine := Nat.lt_of_lt_of_le hl (by decide)
  simp [sPut, h1, h2, h3, hs, hk, this]
theorem pick_ok {st : Store} {n : Nat} {s : Int} (t : Tp st n) (h0 : 0 < s) (h1 : s < 1073741824) : ∃ r st', mPick [.ref n, .int s] st = some (.int r, st') ∧ 0 ≤ r ∧ r < s ∧ Tp st' n ∧ Fr n st st' ∧ st'.length = st.length := by
  obtain ⟨a, b, e, ha, hb, hb2⟩ := t.at_
  have hn := t.lt
  obtain ⟨g1, g2⟩ := subTape e
  by_cases c : s ≤ a
  · refine ⟨a % s, st.set n (.dct (tapeKV (a / s) b)), ?_, Int.emod_nonneg _ (by omega), Int.emod_lt_of_pos _ h0, ⟨a / s, b, by rw [List.getElem?_set_self hn], Int.ediv_nonneg ha (by omega), hb, hb2⟩, .set _, by rw [List.length_set]⟩
    have p : ∀ env : Lo, env[0]? = some (some (.ref n)) → env[1]? = some (some (.int s)) → sPut (fVar 0) (fC (.str (Str.ofString "digits"))) (fOp fdivI (fSub (fVar 0) (fC (.str (Str.ofString "digits")))) (fVar 1)) env st = some (.nx, env, st.set n (.dct (tapeKV (a / s) b))) := fun env x y => by
      rw [← tape_putD a b]
      refine put_ref (s1 := st) (s2 := st) (s3 := st) (kd := .str (Str.ofString "digits")) ?_ ?_ rfl rfl e (by simp [tapeKV])
      · simp [fOp, fSub, fVar, fC, x, y, g1, fdivI_int h0 h1]
      · simp [fVar, x]
    simp [mPick, mOf, gPick, outM, startD, sSeq, sIf, fTest, asB, fOp, fSub, fVar, fC, g1, opGe_int, c, sAsg, modI_int h0, gN]
    rw [p _ rfl rfl]
    simp [sRet, fVar]
  · have hm : 0 ≤ (b * 40014 + 1013) % 2147483563 := Int.emod_nonneg _ (by decide)
    have hm2 : (b * 40014 + 1013) % 2147483563 < 2147483563 := Int.emod_lt_of_pos _ (by decide)
    have gset : (st.set n (.dct (tapeKV a ((b * 40014 + 1013) % 2147483563))))[n]? = some (.dct (tapeKV a ((b * 40014 + 1013) % 2147483563))) := by rw [List.getElem?_set_self hn]
    obtain ⟨_, g3⟩ := subTape gset
    have p : ∀ env : Lo, env[0]? = some (some (.ref n)) → sPut (fVar 0) (fC (.str (Str.ofString "mixed"))) (fOp modI (fOp opAdd (fOp opMul (fSub (fVar 0) (fC (.str (Str.ofString "mixed")))) (fC (.int 40014))) (fC (.int 1013))) (fC (.int 2147483563))) env st = some (.nx, env, st.set n (.dct (tapeKV a ((b * 40014 + 1013) % 2147483563)))) := fun env x => by
      rw [← tape_putM a b]
      refine put_ref (s1 := st) (s2 := st) (s3 := st) (kd := .str (Str.ofString "mixed")) ?_ ?_ rfl rfl e (by simp [tapeKV])
      · simp [fOp, fSub, fVar, fC, x, g2, opMul_int (bits32 hb hb2) (bits32 (x := 40014) (by decide) (by decide)) (by decide), opAdd_int, modI_int (b := 2147483563) (by decide)]
      · simp [fVar, x]
    generalize hw : (b * 40014 + 1013) % 2147483563 = w at *
    have b1 : intBits w ≤ 32 := bits32 hm (by omega)
    have h5 : 0 ≤ w ^ 2 % 2147483399 := Int.emod_nonneg _ (by decide)
    have h6 : w ^ 2 % 2147483399 < 2147483399 := Int.emod_lt_of_pos _ (by decide)
    have b2 : intBits (w ^ 2 % 2147483399) ≤ 32 := bits32 h5 (by omega)
    refine ⟨(w ^ 2 % 2147483399) ^ 3 % 998244353 / 5 % s, st.set n (.dct (tapeKV a w)), ?_, Int.emod_nonneg _ (by omega), Int.emod_lt_of_pos _ h0, ⟨a, w, gset, ha, hm, by omega⟩, .set _, by rw [List.length_set]⟩
    simp [mPick, mOf, gPick, outM, startD, sSeq, sIf, fTest, asB, fOp, fSub, fVar, fC, g1, opGe_int, c, sNil]
    rw [p _ rfl]
    have q1 := powI_int (a := w) (b := 2) (by decide) b1 (by decide)
    have q2 := powI_int (a := w ^ 2 % 2147483399) (b := 3) (by decide) b2 (by decide)
    simp only [show (2 : Int).toNat = 2 from rfl, show (3 : Int).toNat = 3 from rfl] at q1 q2
    simp [sRet, fOp, fSub, fVar, fC, g3, q1, modI_int (b := 2147483399) (by decide), q2, modI_int (b := 998244353) (by decide), fdivI_int (b := 5) (by decide) (by decide), modI_int h0]
theorem atI_lt {α : Type} {xs : List α} {i : Int} (h0 : 0 ≤ i) (h1 : i < xs.length) : ∃ d, L2.atI xs i = some d ∧ d ∈ xs := by
  have hi : i.toNat < xs.length := by omega
  refine ⟨xs[i.toNat], ?_, List.getElem_mem hi⟩
  have := atI_nat (xs := xs) (j := i.toNat) (List.getElem?_eq_getElem hi)
  rwa [Int.toNat_of_nonneg h0] at this
theorem one_ok {st : Store} {n : Nat} {xs : List D} (t : Tp st n) (h0 : 0 < xs.length) (h1 : xs.length < 1073741824) : ∃ d st', mOne [.ref n, .lst xs] st = some (d, st') ∧ d ∈ xs ∧ Tp st' n ∧ Fr n st st' ∧ st'.length = st.length := by
  obtain ⟨r, st', h, hr0, hr1, t', f, l⟩ := pick_ok t (s := (xs.length : Int)) (by omega) (by omega)
  obtain ⟨d, hd, hm⟩ := atI_lt hr0 hr1
  refine ⟨d, st', ?_, hm, t', f, l⟩
  simp [mOne, mOf, gOne, outM, startD, sRet, fSub, fVar, fCall, aCons, aNil, fMk, bLen, lenL, h, ixD, hd]
theorem one_okT {st : Store} {n : Nat} {xs : List D} (t : Tp st n) (h0 : 0 < xs.length) (h1 : xs.length < 1073741824) : ∃ d st', mOne [.ref n, .tup xs] st = some (d, st') ∧ d ∈ xs ∧ Tp st' n ∧ Fr n st st' ∧ st'.length = st.length := by
  obtain ⟨r, st', h, hr0, hr1, t', f, l⟩ := pick_ok t (s := (xs.length : Int)) (by omega) (by omega)
  obtain ⟨d, hd, hm⟩ := atI_lt hr0 hr1
  refine ⟨d, st', ?_, hm, t', f, l⟩
  simp [mOne, mOf, gOne, outM, startD, sRet, fSub, fVar, fCall, aCons, aNil, fMk, bLen, lenL, h, ixD, hd]
abbrev bTape : FS := (sAsg (fOp opAdd (fOp modI (fOp powI (fOp opAdd (fOp opAdd (fOp opMul (fVar 2) (fC (.int 30011))) (fOp opMul (fVar 3) (fVar 3))) (fC (.int 7))) (fC (.int 2))) (fC (.int 2147483563))) (fC (.int 2))) (gN 2))
theorem tape_loop {s t y : Option D} {st : Store} : ∀ (ns : List Int), (∀ z ∈ ns, intBits z ≤ 1048576) → ∀ (m : Int) (x : Option D), 0 ≤ m → m < 4294967296 →
    ∃ m' x', loopS (gN 3) bTape (ns.map .int) [s, t, some (.int m), x, y] st = some (.nx, [s, t, some (.int m'), x', y], st) ∧ 0 ≤ m' ∧ m' < 4294967296
  | [], _, m, x, h0, h1 => ⟨m, x, rfl, h0, h1⟩
  | z :: ns, hb, m, x, h0, h1 => by
    have hz := hb z List.mem_cons_self
    have b1 : intBits (m * 30011) ≤ 32 + 32 := intBits_mul_le (bits32 h0 h1) (bits32 (x := 30011) (by decide) (by decide))
    have b2 : intBits (z * z) ≤ 1048576 + 1048576 := intBits_mul_le hz hz
    have b3 : intBits (m * 30011 + z * z) ≤ 2097152 + 1 := Nat.le_trans (intBits_add_le b1 b2) (by decide)
    have b4 : intBits (m * 30011 + z * z + 7) ≤ 2097153 + 1 := Nat.le_trans (intBits_add_le b3 (bits32 (x := 7) (by decide) (by decide))) (by decide)
    have q := powI_int (a := m * 30011 + z * z + 7) (b := 2) (by decide) b4 (by decide)
    have h2 : 0 ≤ (m * 30011 + z * z + 7) ^ (2 : Int).toNat % 2147483563 := Int.emod_nonneg _ (by decide)
    have h3 : (m * 30011 + z * z + 7) ^ (2 : Int).toNat % 2147483563 < 2147483563 := Int.emod_lt_of_pos _ (by decide)
    obtain ⟨m', x', e, g0, g1⟩ := tape_loop (s := s) (t := t) (y := y) (st := st) ns (fun w hw => hb w (List.mem_cons_of_mem _ hw)) ((m * 30011 + z * z + 7) ^ (2 : Int).toNat % 2147483563 + 2) (some (.int z)) (by omega) (by omega)
    refine ⟨m', x', ?_, g0, g1⟩
    rw [← e, List.map_cons]
    generalize (m * 30011 + z * z + 7) ^ (2 : Int).toNat = w at *
    simp [loopS, gN, bTape, sAsg, fOp, fVar, fC, opMul_int (bits32 h0 h1) (bits32 (x := 30011) (by decide) (by decide)) (by decide), opMul_int hz hz (by decide), opAdd_int, q, modI_int (b := 2147483563) (by decide)]
theorem tape_ok {st : Store} {ns : List Int} {s : Int} (hb : ∀ z ∈ ns, intBits z ≤ 1048576) (h0 : 0 ≤ s) (h1 : s < 1000) : ∃ st', mTape [.scr ns, .int s] st = some (.ref st.length, st') ∧ st'.length = st.length + 1 ∧ Tp st' st.length ∧ ∀ m, m < st.length → st'[m]? = st[m]? := by
  obtain ⟨m', x', e, g0, g1⟩ := tape_loop (s := some (.scr ns)) (t := some (.int s)) (y := none) (st := st) ns hb (97 + s * 31) none (by omega) (by omega)
  have q := powI_int (a := 10) (b := 18) (by decide) (bits32 (by decide) (by decide)) (by decide)
  have b1 : intBits s ≤ 32 := bits32 h0 (by omega)
  -- the digits
  obtain ⟨d, hd, hd0⟩ : ∃ d : Int, (fIfE (fAndT (fTest (fOp opLt (fVar 1) (fMk bLen (aCons (fVar 0) aNil)))) (fTest (fOp opGe (fSub (fVar 0) (fVar 1)) (fOp powI (fC (.int 10)) (fC (.int 18)))))) (fOp subI (fSub (fVar 0) (fVar 1)) (fOp powI (fC (.int 10)) (fC (.int 18)))) (fC (.int 0)))
      [some (.scr ns), some (.int s), some (.int m'), x', none] st = some (.int d, st) ∧ 0 ≤ d := by
    by_cases c : s < ns.length
    · obtain ⟨z, hz, _⟩ := atI_lt h0 c
      by_cases c2 : (1000000000000000000 : Int) ≤ z
      · exact ⟨z - 1000000000000000000, by simp [fIfE, fAndT, fTest, fOp, fVar, fMk, aCons, aNil, bLen, lenL, opLt_int, asB, c, fSub, ixD, hz, fC, q, opGe_int, c2, subI_int], by omega⟩
      · exact ⟨0, by simp [fIfE, fAndT, fTest, fOp, fVar, fMk, aCons, aNil, bLen, lenL, opLt_int, asB, c, fSub, ixD, hz, fC, q, opGe_int, c2], by omega⟩
    · exact ⟨0, by simp [fIfE, fAndT, fTest, fOp, fVar, fMk, aCons, aNil, bLen, lenL, opLt_int, asB, c, fC], by omega⟩
  refine ⟨st ++ [.dct (tapeKV d m')], ?_, by simp, ⟨d, m', by simp, hd0, g0, g1⟩, fun m hm => by rw [List.getElem?_append_left hm]⟩
  have e' : loopS (gN 3) bTape (ns.map D.int) [some (.scr ns), some (.int s), some (.int (97 + s * 31)), none, none] st = some (.nx, [some (.scr ns), some (.int s), some (.int m'), x', none], st) := e
  simp only [bTape] at e'
  simp [mTape, mOf, gTape, outM, startD, sSeq, sAsg, fOp, fVar, fC, opMul_int b1 (bits32 (x := 31) (by decide) (by decide)) (by decide), opAdd_int, gN, sFor, iOf, asScr, e', hd]
  simp [sRet, fDict, evP, fC, fVar, asKey, mergeD, putD, kDM, tapeKV]
end DL
/-! Plain texts, flat values, loops with an invariant. -/
namespace DL
open PySem PySem.Spec PyProof.Rows L2 TL
open Builtin.Int (intBits)
/-- at most n signs, all of ASCII -/
def GS (n : Nat) (x : Str) : Prop := x.length ≤ n ∧ ∀ c ∈ tl x, c < 128
theorem GS.mono {m n : Nat} {x : Str} (h : GS m x) (l : m ≤ n) : GS n x := ⟨Nat.le_trans h.1 l, h.2⟩
theorem GS.append {m n : Nat} {x y : Str} (a : GS m x) (b : GS n y) : GS (m + n) (x ++ y) := by
  refine ⟨?_, fun c hc => ?_⟩
  · rw [len_tl, tl_append, List.length_append, ← len_tl, ← len_tl]
    have := a.1
    have := b.1
    omega
  · rw [tl_append] at hc
    rcases List.mem_append.mp hc with h | h
    · exact a.2 c h
    · exact b.2 c h
theorem joinL_nil : ∀ ps : List (List Nat), joinL [] ps = ps.flatten
  | [] => rfl
  | [p] => by simp [joinL]
  | p :: q :: r => by
    have := joinL_nil (q :: r)
    simp only [joinL] at this ⊢
    rw [this]
    simp
theorem tl_join0 (ps : List Str) : tl (Txt.join (Str.ofString "") ps) = (ps.map tl).flatten := by
  rw [join_eq, tl_join, show tl (Str.ofString "") = [] from rfl, joinL_nil]
theorem GS.join {m : Nat} : ∀ {ps : List Str}, (∀ p ∈ ps, GS m p) → GS (ps.length * m) (Txt.join (Str.ofString "") ps) := fun {ps} h => by
  unfold GS
  rw [len_tl, tl_join0]
  induction ps with
  | nil => exact ⟨Nat.zero_le _, fun c hc => by cases hc⟩
  | cons p ps ih =>
    obtain ⟨i1, i2⟩ := ih fun q hq => h q (List.mem_cons_of_mem _ hq)
    obtain ⟨j1, j2⟩ := h p List.mem_cons_self
    rw [len_tl] at j1
    refine ⟨?_, fun c hc => ?_⟩
    · rw [List.map_cons, List.flatten_cons, List.length_append, List.length_cons, Nat.succ_mul]
      omega
    · rw [List.map_cons, List.flatten_cons] at hc
      rcases List.mem_append.mp hc with z | z
      · exact j2 c z
      · exact i2 c z
theorem GS.ok {n : Nat} {x : Str} (h : GS n x) : SeqAt.shaped (.str x) = true := by
  have : PyData.canLay0 (.str x) = true := by
    unfold PyData.canLay0
    unfold PyData.strOk
    rw [Array.all_eq_true]
    intro i hi
    have := h.2 x.cps[i] (by unfold tl; simp)
    exact decide_eq_true (by omega)
  unfold SeqAt.shaped
  rw [this]
  simp [PyData.depth]
/-- a flat value: None, an int, a text of at most n signs -/
def FV (n : Nat) : D → Prop | .non => True | .int _ => True | .str x => GS n x | _ => False
theorem FV.mono {m n : Nat} (l : m ≤ n) : ∀ {d : D}, FV m d → FV n d
  | .non, _ => trivial
  | .int _, _ => trivial
  | .str _, h => GS.mono h l
  | .bl _, h => h.elim
  | .tup _, h => h.elim
  | .lst _, h => h.elim
  | .dct _, h => h.elim
  | .scr _, h => h.elim
  | .ref _, h => h.elim
def vEq : D → D → Bool | .non, .non => true | .int a, .int b => a == b | .str a, .str b => a == b | _, _ => false
theorem opEq_fv {m n : Nat} {a b : D} (ha : FV m a) (hb : FV n b) : opEq a b = some (.bl (vEq a b)) := by
  cases a <;> cases b <;> first
    | exact ha.elim
    | exact hb.elim
    | skip
  all_goals simp only [opEq, toPy, Option.bind_some]
  all_goals first
    | rfl
    | (rw [if_pos ⟨rfl, GS.ok hb⟩]; rfl)
    | (rw [if_pos ⟨GS.ok ha, rfl⟩]; rfl)
    | (rw [if_pos ⟨GS.ok ha, GS.ok hb⟩]; rfl)
theorem opNe_fv {m n : Nat} {a b : D} (ha : FV m a) (hb : FV n b) : opNe a b = some (.bl (!vEq a b)) := by
  cases a <;> cases b <;> first
    | exact ha.elim
    | exact hb.elim
    | skip
  all_goals simp only [opNe, toPy, Option.bind_some]
  all_goals first
    | rfl
    | (rw [if_pos ⟨rfl, GS.ok hb⟩]; rfl)
    | (rw [if_pos ⟨GS.ok ha, rfl⟩]; rfl)
    | (rw [if_pos ⟨GS.ok ha, GS.ok hb⟩]; rfl)
theorem opEq_int (a b : Int) : opEq (.int a) (.int b) = some (.bl (a == b)) := opEq_fv (m := 0) (n := 0) (a := .int a) (b := .int b) trivial trivial
theorem opNe_int (a b : Int) : opNe (.int a) (.int b) = some (.bl (!(a == b))) := opNe_fv (m := 0) (n := 0) (a := .int a) (b := .int b) trivial trivial
theorem opLt_str (a b : Str) : opLt (.str a) (.str b) = some (.bl (decide (tl a < tl b))) := by simp [opLt, orD, ltI, ltS, onI, onS]
theorem opGt_str (a b : Str) : opGt (.str a) (.str b) = some (.bl (decide (tl b < tl a))) := by simp [opGt, orD, gtI, gtS, onI, onS]
theorem opAdd_str {a b : Str} (h : a.length + b.length ≤ 16777216) : opAdd (.str a) (.str b) = some (.str (a ++ b)) := by
  have : a.length + b.length ≤ sizeLine := by rw [sizeLine_eq]; exact h
  simp [opAdd, orD, addI, addS, onI, onS, this]

/-! ### loops -/
/-- a for that runs through, by what holds between the turns -/
theorem loopS_inv {tg : FG} {body : FS} (I : Lo → Store → Prop) : ∀ {ds : List D}, (∀ d ∈ ds, ∀ env st, I env st → ∃ e1, tg d env = some e1 ∧ ∃ o e2 s2, body e1 st = some (o, e2, s2) ∧ (o = .nx ∨ o = .ct) ∧ I e2 s2) →
    ∀ {env : Lo} {st : Store}, I env st → ∃ e2 s2, loopS tg body ds env st = some (.nx, e2, s2) ∧ I e2 s2
  | [], _, env, st, i => ⟨env, st, rfl, i⟩
  | d :: ds, h, env, st, i => by
    obtain ⟨e1, h1, o, e2, s2, h2, ho, i2⟩ := h d List.mem_cons_self env st i
    obtain ⟨e3, s3, h3, i3⟩ := loopS_inv I (fun d hd => h d (List.mem_cons_of_mem _ hd)) i2
    refine ⟨e3, s3, ?_, i3⟩
    rcases ho with rfl | rfl
    · simp [loopS, h1, h2, h3]
    · simp [loopS, h1, h2, h3]
/-- a comprehension of draws -/
theorem loopC_draw {is : List Nat} {bd : FB} {f : F} {n : Nat} {P : D → Prop} {env : Lo} : ∀ {ds : List D}, (∀ d ∈ ds, ∃ vs, bd d = some vs ∧ ∀ st, Tp st n → ∃ v st', f (setL is vs env) st = some (v, st') ∧ P v ∧ Tp st' n ∧ Fr n st st') →
    ∀ {st : Store}, Tp st n → ∃ vs st', loopC is bd tTrue f ds env st = some (vs, st') ∧ vs.length = ds.length ∧ (∀ v ∈ vs, P v) ∧ Tp st' n ∧ Fr n st st'
  | [], _, st, t => ⟨[], st, rfl, rfl, fun _ h => (by cases h), t, .refl _ _⟩
  | d :: ds, h, st, t => by
    obtain ⟨ws, hb, hf⟩ := h d List.mem_cons_self
    obtain ⟨v, s1, h1, pv, t1, f1⟩ := hf st t
    obtain ⟨vs, s2, h2, l2, p2, t2, f2⟩ := loopC_draw (fun d hd => h d (List.mem_cons_of_mem _ hd)) t1
    refine ⟨v :: vs, s2, by simp [loopC, hb, tTrue, h1, h2], by simp [l2], fun w hw => ?_, t2, f1.trans f2⟩
    rcases List.mem_cons.mp hw with rfl | hw
    · exact pv
    · exact p2 w hw
theorem rg_len (lo hi : Int) : (rg lo hi).length = (hi - lo).toNat := by simp [rg]
theorem rg_mem {lo hi : Int} {d : D} (h : d ∈ rg lo hi) : ∃ i : Int, d = .int i ∧ lo ≤ i ∧ i < hi := by
  unfold rg at h
  obtain ⟨k, hk, e⟩ := List.mem_map.mp h
  subst e
  have := List.mem_range.mp hk
  exact ⟨_, rfl, by omega, by omega⟩
theorem asR1_ok {n : Int} (h0 : 0 ≤ n) (h1 : n < 1000000) : asR1 [.int n] = some (rg 0 n) := by
  have : -(2 ^ 62) ≤ n ∧ n < 2 ^ 62 := by omega
  simp only [asR1, if_pos this]
end DL
namespace DL
open PySem PySem.Spec PyProof.Rows L2 TL
/-- .. that lay nothing -/
theorem loopC_draw2 {is : List Nat} {bd : FB} {f : F} {n : Nat} {P : D → Prop} {env : Lo} : ∀ {ds : List D}, (∀ d ∈ ds, ∃ vs, bd d = some vs ∧ ∀ st, Tp st n → ∃ v st', f (setL is vs env) st = some (v, st') ∧ P v ∧ Tp st' n ∧ Fr n st st' ∧ st'.length = st.length) →
    ∀ {st : Store}, Tp st n → ∃ vs st', loopC is bd tTrue f ds env st = some (vs, st') ∧ vs.length = ds.length ∧ (∀ v ∈ vs, P v) ∧ Tp st' n ∧ Fr n st st' ∧ st'.length = st.length
  | [], _, st, t => ⟨[], st, rfl, rfl, fun _ h => (by cases h), t, .refl _ _, rfl⟩
  | d :: ds, h, st, t => by
    obtain ⟨ws, hb, hf⟩ := h d List.mem_cons_self
    obtain ⟨v, s1, h1, pv, t1, f1, l1⟩ := hf st t
    obtain ⟨vs, s2, h2, l2, p2, t2, f2, g2⟩ := loopC_draw2 (fun d hd => h d (List.mem_cons_of_mem _ hd)) t1
    refine ⟨v :: vs, s2, by simp [loopC, hb, tTrue, h1, h2], by simp [l2], fun w hw => ?_, t2, f1.trans f2, by rw [g2, l1]⟩
    rcases List.mem_cons.mp hw with rfl | hw
    · exact pv
    · exact p2 w hw
/-- a comprehension that changes nothing -/
theorem loopC_map {is : List Nat} {bd : FB} {f : F} {g : D → D} {env : Lo} {st : Store} : ∀ {ds : List D}, (∀ d ∈ ds, ∃ vs, bd d = some vs ∧ f (setL is vs env) st = some (g d, st)) → loopC is bd tTrue f ds env st = some (ds.map g, st)
  | [], _ => rfl
  | d :: ds, h => by
    obtain ⟨ws, hb, hf⟩ := h d List.mem_cons_self
    have := loopC_map (ds := ds) fun d hd => h d (List.mem_cons_of_mem _ hd)
    simp [loopC, hb, tTrue, hf, this]
end DL
/-! More operations: nested data in a list or tuple, pairs in order, slices of texts, repr, a def that answers nothing. -/
namespace DL
open PySem PySem.Spec PyProof.Rows L2 TL
variable {K : PySem.W.Frag}
/-- at fuel 0 -/
theorem FnD.nil {P : Program} {w : World} {mg : Str → Option Value} {base : Heap} {k : Nat} {f : Addr} {fd : FuncData} {ps : List Str} : FnD P w K mg base k f fd ps (fun _ _ => none) :=
  ⟨fun _ _ _ _ _ _ _ _ _ _ _ _ _ _ _ _ _ _ _ _ _ h => by cases h⟩
section
variable {X : Cx}
/-! ### in, nested data -/
def inPy (neg : Bool) : D → D → Option D := fun x y => (toPy x).bind fun p => match y with
  | .lst ds => (toPyL ds).bind fun qs => if SeqAt.shaped p = true ∧ SeqAt.shaped (.list qs) = true then some (.bl (if neg then !(qs.any fun z => PyData.eqv z p) else qs.any fun z => PyData.eqv z p)) else none
  | .tup ds => (toPyL ds).bind fun qs => if SeqAt.shaped p = true ∧ SeqAt.shaped (.tuple qs) = true then some (.bl (if neg then !(qs.any fun z => PyData.eqv z p) else qs.any fun z => PyData.eqv z p)) else none
  | _ => none
def rInPy (K : PySem.W.Frag) (neg : Bool) : R2 := fun x y H Q => ∃ d ds, Dp K H x d ∧ ((Dp K H y (.list ds) ∧ SeqAt.shaped (.list ds) = true) ∨ (Dp K H y (.tuple ds) ∧ SeqAt.shaped (.tuple ds) = true)) ∧ SeqAt.shaped d = true ∧
  Q (.bl (if neg then !(ds.any fun z => PyData.eqv z d) else ds.any fun z => PyData.eqv z d)) H
theorem op_inPy (hu : X.A.units + 65 < cLine) : OpR X (compareOp .In) (rInPy X.K false) := by
  intro pins s σ H x y v u Q I rx ry h
  obtain ⟨d, ds, hd, he, sd, q⟩ := h
  obtain ⟨as, r1⟩ := Dp.reads I d x v hd rx
  rcases he with ⟨he, se⟩ | ⟨he, se⟩
  · obtain ⟨bs, r2⟩ := Dp.reads I (.list ds) y u he ry
    exact SeqAt.in_list_reads r2 r1 (SeqAt.canLay_of_shaped se) (SeqAt.canLay_of_shaped sd) (room_in_shaped sd hu) ⟨.bl _, H, I, rfl, q⟩
  · obtain ⟨bs, r2⟩ := Dp.reads I (.tuple ds) y u he ry
    exact SeqAt.in_tuple_reads r2 r1 (SeqAt.canLay_of_shaped se) (SeqAt.canLay_of_shaped sd) (room_in_shaped sd hu) ⟨.bl _, H, I, rfl, q⟩
theorem op_notInPy (hu : X.A.units + 65 < cLine) : OpR X (compareOp .NotIn) (rInPy X.K true) := by
  intro pins s σ H x y v u Q I rx ry h
  obtain ⟨d, ds, hd, he, sd, q⟩ := h
  obtain ⟨as, r1⟩ := Dp.reads I d x v hd rx
  rcases he with ⟨he, se⟩ | ⟨he, se⟩
  · obtain ⟨bs, r2⟩ := Dp.reads I (.list ds) y u he ry
    exact SeqAt.notIn_list_reads r2 r1 (SeqAt.canLay_of_shaped se) (SeqAt.canLay_of_shaped sd) (room_in_shaped sd hu) ⟨.bl _, H, I, rfl, q⟩
  · obtain ⟨bs, r2⟩ := Dp.reads I (.tuple ds) y u he ry
    exact SeqAt.notIn_tuple_reads r2 r1 (SeqAt.canLay_of_shaped se) (SeqAt.canLay_of_shaped sd) (room_in_shaped sd hu) ⟨.bl _, H, I, rfl, q⟩
theorem inPy_ok (neg : Bool) {rho : Rf} {H : Hp} {x y : V} {a b d : D} {Q : VK} (ra : Rep K rho H x a) (rb : Rep K rho H y b) (e : inPy neg a b = some d) (q : ∀ v H', Same H H' → Rep K rho H' v d → Q v H') : rInPy K neg x y H Q := by
  obtain ⟨p, h1, h2⟩ := Option.bind_eq_some_iff.mp e
  split at h2
  · rename_i ds
    obtain ⟨qs, h3, h4⟩ := Option.bind_eq_some_iff.mp h2
    split at h4
    · rename_i sh
      cases h4
      exact ⟨p, qs, ra.dp h1, .inl ⟨rb.dp (show (toPyL ds).map PyData.list = some (.list qs) by rw [h3]; rfl), sh.2⟩, sh.1, q _ H (fun _ _ h => h) (.bl _)⟩
    · cases h4
  · rename_i ds
    obtain ⟨qs, h3, h4⟩ := Option.bind_eq_some_iff.mp h2
    split at h4
    · rename_i sh
      cases h4
      exact ⟨p, qs, ra.dp h1, .inr ⟨rb.dp (show (toPyL ds).map PyData.tuple = some (.tuple qs) by rw [h3]; rfl), sh.2⟩, sh.1, q _ H (fun _ _ h => h) (.bl _)⟩
    · cases h4
  · cases h2
def opIn : D → D → Option D := orD (inSeq false) (inPy false)
def opNotIn : D → D → Option D := orD (inSeq true) (inPy true)
theorem ok_inD {k : Nat} (g : GX X k) : OpOk X (compareOp .In) opIn := ok_in.or ⟨_, op_inPy (by have := g.room.un; omega), fun rho H x y a b d st Q si ra rb e q => inPy_ok false ra rb e q⟩
theorem ok_notinD {k : Nat} (g : GX X k) : OpOk X (compareOp .NotIn) opNotIn := ok_notin.or ⟨_, op_notInPy (by have := g.room.un; omega), fun rho H x y a b d st Q si ra rb e q => inPy_ok true ra rb e q⟩

/-! ### (a, b) < (c, d), flat -/
section
open PySem.AutoSeq1 (wpAny_loadPart')
open PySem.MeetsSeq PySem.MeetsSeq2 PySem.MeetsSeq3 PySem.SeqAt
/-- two pairs whose first items differ: these alone are asked -/
theorem pair_first {p q : Addr} {x0 x1 y0 y1 : Value} {i1 i2 : Nat} {d1 d2 : Option Addr} {t1 t2 : Array (Option Value)} {k : Bool} : Meets (Builtin.«tuple.__lt__» ⟨[.ref p, .ref q], []⟩) (fun A R s =>
    s.heap.get? p = some ⟨.type "tuple", d1, .seq #[x0, x1] i1, t1⟩ ∧ s.heap.get? q = some ⟨.type "tuple", d2, .seq #[y0, y1] i2, t2⟩ ∧ EqAt A.in1 s x0 y0 false ∧ RcLt A.in1 s x0 y0 k ∧ R (.ok (.ret (.bool k))) s) := .of_wp fun P w A R s hh => by
  obtain ⟨hp, g, d, tk, os⟩ := s
  obtain ⟨g1, g2, differ, less, done⟩ := hh
  have sub := AutoSeq1.sub_tuple_tuple
  wp_walk using wpAny_loadPart' g1, wpAny_loadPart' g2, wpAny_forIn_list _ (fun todo acc now => acc.1 = none ∧ now = ⟨hp, g, d, tk, os⟩ ∧ todo = [(x0, y0), (x1, y1)]) _
  case turn =>
    rintro ⟨u, v⟩ todo acc now ⟨e1, rfl, e2⟩
    injection e2 with e3 _
    injection e3 with eu ev
    subst eu ev
    refine wpAny_bind (differ P w _ _ ?_)
    have ask := less P w
    wp_walk using ask
    exact ⟨_, rfl, done⟩
  case fin =>
    rintro ⟨_, _⟩ now ⟨_, _, e2⟩
    cases e2
  case h =>
    exact ⟨rfl, rfl, rfl⟩
end
/-- a < b of two of one kind -/
def ltF : V → V → Option Bool
  | .int a, .int b => some (decide (a < b))
  | .str a, .str b => some (decide (a.cps.toList < b.cps.toList))
  | _, _ => none
theorem rcLt_V {A : Around} {s : Shared} {x y : V} {v u : Value} {k : Bool} (rx : RelV x v) (ry : RelV y u) (e : ltF x y = some k) : SeqAt.RcLt A s v u k := by
  unfold ltF at e
  split at e
  · cases e
    obtain ⟨t, rfl⟩ := rx
    obtain ⟨t', rfl⟩ := ry
    exact fun _ _ _ _ h => PyProof.Rows.lt_int h
  · cases e
    obtain ⟨t, rfl⟩ := rx
    obtain ⟨t', rfl⟩ := ry
    exact fun _ _ _ _ h => PySem.P.lt_str h
  · cases e
/-- the order of two pairs -/
def lt2V (a b c d : V) : Option Bool := if eqV a c = true then (if eqV b d = true then some false else ltF b d) else ltF a c
def rLt2 (K : PySem.W.Frag) : R2 := fun x y H Q => ∃ p q a b c d k, x = .ref p ∧ y = .ref q ∧ SqT K H p [a, b] ∧ SqT K H q [c, d] ∧ flatV a = true ∧ flatV b = true ∧ flatV c = true ∧ flatV d = true ∧ lt2V a b c d = some k ∧ Q (.bl k) H
theorem op_lt2 (hu : X.A.units < cLine) : OpR X (compareOp .Lt) (rLt2 X.K) := by
  intro pins s σ H x y v u Q I rx ry h
  obtain ⟨p, q, a, b, c, d, k, rfl, rfl, hp, hq, fa, fb, fc, fd, hk, hQ⟩ := h
  cases rx
  cases ry
  obtain ⟨its, r1, p1, _⟩ := I.tuple hp
  obtain ⟨its2, r2, p2, _⟩ := I.tuple hq
  cases r1 with
  | @cons _ ua _ us1 ra t1 =>
  cases t1 with
  | @cons _ ub _ us2 rb t2 =>
  cases t2
  cases r2 with
  | @cons _ uc _ us3 rc t3 =>
  cases t3 with
  | @cons _ ud _ us4 rd t4 =>
  cases t4
  obtain ⟨⟨cls, dd, data, sl⟩, ho, hc, n, hd⟩ := id p1
  obtain ⟨⟨cls2, dd2, data2, sl2⟩, ho2, hc2, n2, hd2⟩ := id p2
  simp only at hc hd hc2 hd2
  subst hc hd hc2 hd2
  let e : Nat → Bool := fun j => match j with | 0 => eqV a c | _ => eqV b d
  let r : Nat → Bool := fun j => match j with | 0 => (ltF a c).getD false | _ => (ltF b d).getD false
  by_cases ac : eqV a c = true
  · by_cases bd : eqV b d = true
    · have hk' : k = false := by unfold lt2V at hk; rw [if_pos ac, if_pos bd] at hk; cases hk; rfl
      subst hk'
      refine richCompare_meets_room (op := .Lt) ⟨_, ho, rfl⟩ ⟨_, ho2, rfl⟩ PySem.F.slot_tuple_lt PySem.F.entry_tuple_lt (PySem.F.args_tuple_lt_2 _ _) (SeqAt.tuple_ltAt p q #[ua, ub] #[uc, ud] n n2 dd dd2 sl sl2 (fun _ => true) (fun _ => false))
        ⟨ho, ho2, fun j h1 h2 => ?_, fun j h1 h2 z => (by cases z), ⟨(fun x => nomatch x), ⟨.bl false, H, I, rfl, hQ⟩⟩⟩ hu
      match j, h1, h2 with
      | 0, _, _ =>
        rw [← ac]
        exact eqAt_V ra rc fa fc
      | 1, _, _ =>
        rw [← bd]
        exact eqAt_V rb rd fb fd
    · have bd' : eqV b d = false := by simpa using bd
      have hk' : ltF b d = some k := by unfold lt2V at hk; rw [if_pos ac, if_neg bd] at hk; exact hk
      refine richCompare_meets_room (op := .Lt) ⟨_, ho, rfl⟩ ⟨_, ho2, rfl⟩ PySem.F.slot_tuple_lt PySem.F.entry_tuple_lt (PySem.F.args_tuple_lt_2 _ _) (SeqAt.tuple_ltAt p q #[ua, ub] #[uc, ud] n n2 dd dd2 sl sl2 (fun j => j == 0) (fun _ => k))
        ⟨ho, ho2, fun j h1 h2 => ?_, fun j h1 h2 z => ?_, ⟨(fun x => nomatch x), ⟨.bl k, H, I, rfl, hQ⟩⟩⟩ hu
      · match j, h1, h2 with
        | 0, _, _ =>
          show SeqAt.EqAt X.A.in1 s ua uc true
          rw [← ac]
          exact eqAt_V ra rc fa fc
        | 1, _, _ =>
          show SeqAt.EqAt X.A.in1 s ub ud false
          rw [← bd']
          exact eqAt_V rb rd fb fd
      · match j, h1, h2, z with
        | 1, _, _, _ => exact rcLt_V rb rd hk'
  · have ac' : eqV a c = false := by simpa using ac
    have hk' : ltF a c = some k := by unfold lt2V at hk; rw [if_neg ac] at hk; exact hk
    exact richCompare_meets_room (op := .Lt) ⟨_, ho, rfl⟩ ⟨_, ho2, rfl⟩ PySem.F.slot_tuple_lt PySem.F.entry_tuple_lt (PySem.F.args_tuple_lt_2 _ _) pair_first
      ⟨ho, ho2, by rw [← ac']; exact eqAt_V ra rc fa fc, rcLt_V ra rc hk', ⟨(fun x => nomatch x), ⟨.bl k, H, I, rfl, hQ⟩⟩⟩ hu
def lt2 : D → D → Option D := fun x y => match x, y with
  | .tup [a, b], .tup [c, d] => (eqF a c).bind fun e => (eqF b d).bind fun e2 => if e = true then (if e2 = true then some (.bl false) else (orD ltI ltS) b d) else (orD ltI ltS) a c
  | _, _ => none
theorem ltF_of {r : Rf} {H : Hp} {x y : V} {a b d : D} (ra : Rep K r H x a) (rb : Rep K r H y b) (e : (orD ltI ltS) a b = some d) : ∃ k, d = .bl k ∧ ltF x y = some k ∧ flatV x = true ∧ flatV y = true := by
  cases a <;> cases b <;> first
    | cases e; done
    | (cases ra; cases rb; cases e; exact ⟨_, rfl, rfl, rfl, rfl⟩)
theorem ok_lt2 {k : Nat} (g : GX X k) : OpOk X (compareOp .Lt) lt2 := ⟨_, op_lt2 g.room.units0, fun rho H x y m n d st Q si rm rn e q => by
  unfold lt2 at e
  split at e
  · rename_i a b c d'
    obtain ⟨p, us, rfl, s1, l1⟩ := rm.sqT
    obtain ⟨p', us', rfl, s2, l2⟩ := rn.sqT
    obtain ⟨va, vb, rfl, ra, rb⟩ := lst2 l1
    obtain ⟨vc, vd, rfl, rc, rd⟩ := lst2 l2
    obtain ⟨e1, h1, h2⟩ := Option.bind_eq_some_iff.mp e
    obtain ⟨e2, h3, h4⟩ := Option.bind_eq_some_iff.mp h2
    obtain ⟨g1, f1, f2⟩ := eqF_rep ra rc h1
    obtain ⟨g2, f3, f4⟩ := eqF_rep rb rd h3
    have mk : ∀ j, lt2V va vb vc vd = some j → Q (.bl j) H → rLt2 X.K (.ref p) (.ref p') H Q := fun j hj hq => ⟨p, p', va, vb, vc, vd, j, rfl, rfl, s1, s2, f1, f3, f2, f4, hj, hq⟩
    cases e1 with
    | false =>
      rw [if_neg Bool.false_ne_true] at h4
      obtain ⟨j, rfl, lj, _, _⟩ := ltF_of ra rc h4
      exact mk j (by unfold lt2V; rw [if_neg (by rw [g1]; exact Bool.false_ne_true)]; exact lj) (q _ H (fun _ _ h => h) (.bl _))
    | true =>
      rw [if_pos rfl] at h4
      cases e2 with
      | true =>
        rw [if_pos rfl] at h4
        cases h4
        exact mk false (by unfold lt2V; rw [if_pos g1, if_pos g2]) (q _ H (fun _ _ h => h) (.bl _))
      | false =>
        rw [if_neg Bool.false_ne_true] at h4
        obtain ⟨j, rfl, lj, _, _⟩ := ltF_of rb rd h4
        exact mk j (by unfold lt2V; rw [if_pos g1, if_neg (by rw [g2]; exact Bool.false_ne_true)]; exact lj) (q _ H (fun _ _ h => h) (.bl _))
  · cases e⟩
def opLtD : D → D → Option D := orD opLt lt2
theorem ok_ltD {k : Nat} (g : GX X k) : OpOk X (compareOp .Lt) opLtD := ok_lt.or (ok_lt2 g)

/-! ### z[lo:hi] of a text -/
def slS : D → Option Int → Option Int → Option D := fun a lo hi => match a with
  | .str z => if z.length ≤ sizeLine then some (.str (cutS z lo hi)) else none
  | _ => none
def fSliceS (fa : F) (lo hi : FO) : F := fun env st => (fa env st).bind fun p => (lo env p.2).bind fun q => (hi env q.2).bind fun w => (slS p.1 q.1 w.1).map fun d => (d, w.2)
theorem de_sliceS {a : Expr} {lo hi : Option Expr} {fa : F} {fl fh : FO} {p2 pos : Pos} (ha : DE X a fa) (hl : DO' X lo fl) (hh : DO' X hi fh) : DE X (.Subscript a (.Slice lo hi none p2) pos) (fSliceS fa fl fh) :=
  weakE (pe_slice sl_str ha hl hh) fun σ H Q hh => by
  obtain ⟨r, env, st, d, st', he, hs, hf, q⟩ := hh
  obtain ⟨⟨x, s1⟩, h1, hf1⟩ := Option.bind_eq_some_iff.mp hf
  obtain ⟨⟨i, s2⟩, h2, hf2⟩ := Option.bind_eq_some_iff.mp hf1
  obtain ⟨⟨j, s3⟩, h3, hf3⟩ := Option.bind_eq_some_iff.mp hf2
  obtain ⟨d', h4, hf4⟩ := Option.map_eq_some_iff.mp hf3
  cases hf4
  refine ⟨r, env, st, x, s1, he, hs, h1, fun u r1 H1 e1 q1 p1 => ⟨r1, env, s1, i, s2, he.ext e1, q1, h2, fun r2 H2 e2 q2 => ⟨r2, env, s2, j, _, (he.ext e1).ext e2, q2, h3, fun r3 H3 e3 q3 => ?_⟩⟩⟩
  have p3 := (p1.ext e2).ext e3
  cases x with
  | str z =>
    have h4' : (if z.length ≤ sizeLine then some (D.str (cutS z i j)) else none) = some _ := h4
    by_cases hz : z.length ≤ sizeLine
    · rw [if_pos hz] at h4'
      cases h4'
      cases p3
      exact ⟨z, rfl, hz, q _ r3 H3 ((e1.trans e2).trans e3) q3 (.str _)⟩
    · rw [if_neg hz] at h4'
      cases h4'
  | _ => cases h4

/-! ### repr -/
/-- what repr shows of x, if it is no more than may be shown -/
def shownD (d : PyData) : Option D := if d.hasDict = false ∧ d.showable = true ∧ d.depth ≤ 64 ∧ d.shown.length ≤ sizeLine then some (.str d.shown) else none
def bRepr : List D → Store → Option D := fun ds _ => match ds with
  | [.tup xs] => (toPy (.tup xs)).bind shownD
  | [.lst xs] => (toPy (.lst xs)).bind shownD
  | _ => none
theorem call_reprD {k : Nat} (g : GX X k) : CallR X (.builtin "repr") (fun xs H Q => ∃ a d, xs = [.ref a] ∧ Dp X.K H (.ref a) d ∧ d.hasDict = false ∧ d.showable = true ∧ d.depth ≤ 64 ∧ d.shown.length ≤ sizeLine ∧ Q (.str d.shown) H) := by
  intro pins s σ H xs us Q I r h
  obtain ⟨a, d, rfl, hd, h1, h2, h3, h4, q⟩ := h
  obtain ⟨u, rfl, ru⟩ := vals1 r
  cases ru
  obtain ⟨as, rd⟩ := Dp.reads I d (.ref a) (.ref a) hd rfl
  exact repr_of_reads' rd h2 (PyData.noDict_hsm h1) g.gd (by have := g.room.un; omega) (fun _ _ e => e) (fun h' u tk hk => ⟨.str d.shown, H, I.kept hk, ⟨_, rfl⟩, q⟩) h4
theorem shownD_some {d : PyData} {z : D} (h : shownD d = some z) : d.hasDict = false ∧ d.showable = true ∧ d.depth ≤ 64 ∧ d.shown.length ≤ sizeLine ∧ z = .str d.shown := by
  unfold shownD at h
  split at h
  · rename_i c
    cases h
    exact ⟨c.1, c.2.1, c.2.2.1, c.2.2.2, rfl⟩
  · cases h
theorem ok_repr {k : Nat} (g : GX X k) : CallOk X (.builtin "repr") bRepr := ⟨_, call_reprD g, fun rho H xs ds d st Q rl si e q => by
  unfold bRepr at e
  split at e
  · obtain ⟨v, rfl, p⟩ := lst1 rl
    obtain ⟨y, h1, h2⟩ := Option.bind_eq_some_iff.mp e
    obtain ⟨c1, c2, c3, c4, rfl⟩ := shownD_some h2
    have pd := p.dp h1
    obtain ⟨a, us, rfl, s, l⟩ := p.sqT
    exact ⟨a, y, rfl, pd, c1, c2, c3, c4, q _ H (fun _ _ h => h) (.str _)⟩
  · obtain ⟨v, rfl, p⟩ := lst1 rl
    obtain ⟨y, h1, h2⟩ := Option.bind_eq_some_iff.mp e
    obtain ⟨c1, c2, c3, c4, rfl⟩ := shownD_some h2
    have pd := p.dp h1
    cases p with
    | lst a b c => exact ⟨_, y, rfl, pd, c1, c2, c3, c4, q _ H (fun _ _ h => h) (.str _)⟩
  · cases e⟩
end
end DL
/-! Small data: what may be compared and shown. -/
namespace DL
open PySem PySem.Spec PyProof.Rows L2 TL
variable {K : PySem.W.Frag}
section
variable {X : Cx}
/-- two texts, equal or not -/
def opEqS : D → D → Option D := onS (fun _ _ => True) fun i j => .bl (decide (i = j))
def opNeS : D → D → Option D := onS (fun _ _ => True) fun i j => .bl (!decide (i = j))
theorem ok_eqS : OpOk X (compareOp .Eq) opEqS := ⟨_, op_eq, fun rho H x y a b d st Q si ra rb e q => by
  obtain ⟨i, j, rfl, rfl, z, rfl⟩ := onS_some e
  cases ra
  cases rb
  refine ⟨rfl, ?_⟩
  have : decide (V.str i = V.str j) = decide (i = j) := by by_cases h : i = j <;> simp [h]
  rw [this]
  exact q _ H (fun _ _ h => h) (.bl _)⟩
theorem ok_neS : OpOk X (compareOp .NotEq) opNeS := ⟨_, op_ne, fun rho H x y a b d st Q si ra rb e q => by
  obtain ⟨i, j, rfl, rfl, z, rfl⟩ := onS_some e
  cases ra
  cases rb
  refine ⟨rfl, ?_⟩
  have : decide (V.str i = V.str j) = decide (i = j) := by by_cases h : i = j <;> simp [h]
  rw [this]
  exact q _ H (fun _ _ h => h) (.bl _)⟩
theorem opNeS_same (x : Str) : opNeS (.str x) (.str x) = some (.bl false) := by simp [opNeS, onS]
end
/-- small data: of depth dp at most, of weight wt at most -/
def Sm (dp wt : Nat) (d : D) : Prop := ∃ p, toPy d = some p ∧ p.canLay0 = true ∧ p.depth ≤ dp ∧ p.weight ≤ wt ∧ p.intsShort 13 = true ∧ p.showable = true
def SmL (dp wt : Nat) (ds : List D) : Prop := ∃ ps, toPyL ds = some ps ∧ PyData.canLayAll0 ps = true ∧ PyData.depthAll ps ≤ dp ∧ PyData.weightAll ps ≤ wt ∧ PyData.intsShortAll 13 ps = true ∧ PyData.showableAll ps = true
theorem Sm.mono {dp wt dp' wt' : Nat} {d : D} (h : Sm dp wt d) (a : dp ≤ dp') (b : wt ≤ wt') : Sm dp' wt' d := let ⟨p, h1, h2, h3, h4, h5⟩ := h; ⟨p, h1, h2, Nat.le_trans h3 a, Nat.le_trans h4 b, h5⟩
theorem SmL.mono {dp wt dp' wt' : Nat} {d : List D} (h : SmL dp wt d) (a : dp ≤ dp') (b : wt ≤ wt') : SmL dp' wt' d := let ⟨p, h1, h2, h3, h4, h5⟩ := h; ⟨p, h1, h2, Nat.le_trans h3 a, Nat.le_trans h4 b, h5⟩
theorem SmL.nil : SmL 0 0 [] := ⟨[], rfl, rfl, Nat.le_refl _, Nat.le_refl _, rfl, rfl⟩
theorem SmL.cons {dp wt wt' : Nat} {d : D} {ds : List D} (h : Sm dp wt d) (t : SmL dp wt' ds) : SmL dp (wt + 1 + wt') (d :: ds) := by
  obtain ⟨p, h1, h2, h3, h4, h5, h6⟩ := h
  obtain ⟨ps, t1, t2, t3, t4, t5, t6⟩ := t
  refine ⟨p :: ps, by simp [toPyL, h1, t1], by simp [PyData.canLayAll0, h2, t2], ?_, ?_, by simp [PyData.intsShortAll, h5, t5], by simp [PyData.showableAll, h6, t6]⟩
  · rw [PyData.depthAll]
    exact Nat.max_le.mpr ⟨h3, t3⟩
  · rw [PyData.weightAll]
    omega
theorem SmL.all {dp wt : Nat} : ∀ {ds : List D}, (∀ d ∈ ds, Sm dp wt d) → SmL dp (ds.length * (wt + 1)) ds
  | [], _ => SmL.nil.mono (Nat.zero_le _) (Nat.zero_le _)
  | d :: ds, h => (SmL.cons (h d List.mem_cons_self) (SmL.all fun x hx => h x (List.mem_cons_of_mem _ hx))).mono (Nat.le_refl _) (by rw [List.length_cons, Nat.succ_mul]; omega)
theorem Sm.tup {dp wt : Nat} {ds : List D} (h : SmL dp wt ds) : Sm (dp + 1) wt (.tup ds) := by
  obtain ⟨ps, t1, t2, t3, t4, t5, t6⟩ := h
  exact ⟨.tuple ps, by simp [toPy, t1], by simpa [PyData.canLay0] using t2, by simpa [PyData.depth] using t3, by simpa [PyData.weight] using t4, by simpa [PyData.intsShort] using t5, by simpa [PyData.showable] using t6⟩
theorem Sm.lst {dp wt : Nat} {ds : List D} (h : SmL dp wt ds) : Sm (dp + 1) wt (.lst ds) := by
  obtain ⟨ps, t1, t2, t3, t4, t5, t6⟩ := h
  exact ⟨.list ps, by simp [toPy, t1], by simpa [PyData.canLay0] using t2, by simpa [PyData.depth] using t3, by simpa [PyData.weight] using t4, by simpa [PyData.intsShort] using t5, by simpa [PyData.showable] using t6⟩
theorem Sm.non : Sm 0 0 .non := ⟨.none, rfl, rfl, Nat.le_refl _, Nat.le_refl _, rfl, rfl⟩
theorem Sm.bl (b : Bool) : Sm 0 0 (.bl b) := ⟨.bool b, rfl, rfl, Nat.le_refl _, Nat.le_refl _, rfl, rfl⟩
theorem Sm.int {i : Int} (h : -1000000000000 < i ∧ i < 1000000000000) : Sm 0 40 (.int i) := by
  have hn : i.natAbs < 10 ^ 12 := by omega
  have hl : i.natAbs.log2 < 40 := by
    by_cases z : i.natAbs = 0
    · rw [z]; decide
    · exact (Nat.log2_lt z).mpr (by omega)
  refine ⟨.int i, rfl, rfl, Nat.le_refl _, ?_, ?_, ?_⟩
  · rw [PyData.weight]
    split
    · exact Nat.zero_le _
    · omega
  · rw [PyData.intsShort, PyData.shown]
    have h0 := int_text_length_le10 (a := i) (k := 12) (by decide) hn
    refine decide_eq_true ?_
    rw [PySem.ofString_length]
    exact h0
  · rw [PyData.showable]
    exact decide_eq_true (by omega)
theorem Sm.str {n : Nat} {x : Str} (h : GS n x) : Sm 0 n (.str x) := by
  refine ⟨.str x, rfl, ?_, Nat.le_refl _, ?_, rfl, rfl⟩
  · have := h.ok
    unfold SeqAt.shaped at this
    exact (Bool.and_eq_true_iff.mp this).1
  · rw [PyData.weight]
    exact h.1
theorem Sm.shaped {dp wt : Nat} {d : D} (h : Sm dp wt d) (l : dp ≤ 64) : ∃ p, toPy d = some p ∧ SeqAt.shaped p = true := by
  obtain ⟨p, h1, h2, h3, h4, h5, h6⟩ := h
  refine ⟨p, h1, ?_⟩
  unfold SeqAt.shaped
  rw [h2, decide_eq_true (Nat.le_trans h3 l)]
  rfl
theorem Sm.shown {dp wt : Nat} {d : D} (h : Sm dp wt d) (l : dp ≤ 64) (m : wt ≤ 1048576) : ∃ x, (toPy d).bind shownD = some (.str x) := by
  obtain ⟨p, h1, h2, h3, h4, h5, h6⟩ := h
  have hl : PyData.layable0 p = true := by
    unfold PyData.layable0
    rw [h2, decide_eq_true (Nat.le_trans h3 l), decide_eq_true (show p.weight ≤ 2 ^ 20 from Nat.le_trans h4 m)]
    rfl
  have hs : p.shown.length ≤ sizeLine := Nat.le_trans (shown_le13 hl h5) (by rw [sizeLine_eq]; decide)
  have hd := PyData.hasDict_of_layable hl
  exact ⟨p.shown, by rw [h1, Option.bind_some]; unfold shownD; rw [if_pos ⟨hd, h6, Nat.le_trans h3 l, hs⟩]⟩
theorem repr_tup {dp wt : Nat} {ds : List D} (h : Sm dp wt (.tup ds)) (l : dp ≤ 64) (m : wt ≤ 1048576) : ∃ x, ∀ st, bRepr [.tup ds] st = some (.str x) := let ⟨x, e⟩ := h.shown l m; ⟨x, fun st => e⟩
theorem repr_lst {dp wt : Nat} {ds : List D} (h : Sm dp wt (.lst ds)) (l : dp ≤ 64) (m : wt ≤ 1048576) : ∃ x, ∀ st, bRepr [.lst ds] st = some (.str x) := let ⟨x, e⟩ := h.shown l m; ⟨x, fun st => e⟩
end DL
/-! == of anything and a text; a tuple and (). -/
namespace DL
open PySem PySem.Spec PyProof.Rows L2 TL
variable {K : PySem.W.Frag}
section
open PySem.MeetsSeq PySem.MeetsSeq2 PySem.MeetsSeq3 PySem.SeqAt
variable {A : Around} {s : Shared}
theorem str_not_dict (x : Str) (t : Tok) (a : Addr) (es : Array DictEntry) (n : Nat) (dd : Option Addr) (sl : Array (Option Value)) :
    Meets (Builtin.«str.__eq__» ⟨[.str x t, .ref a], []⟩) (fun _ R s => s.heap.get? a = some ⟨.type "dict", dd, .dict es n, sl⟩ ∧ R (.ok (.ret .notImplemented)) s) := .of_wp fun P w A R s hh => by
  obtain ⟨hp, g, d, tk, os⟩ := s
  obtain ⟨got, done⟩ := hh
  wp_walk using wpAny_load got
  exact ⟨_, rfl, done⟩
/-- dict's own answer to a text -/
theorem call_dict_str {P : Program} {w : World} {E Q' : Value → Shared → Prop} {a : Addr} (x : Str) (t : Tok) {id : Str} (slot : Slot "dict" id "dict.__eq__") (hT : s.TypeIs (.ref a) "dict") (hq : Q' .notImplemented s) : wpAny (model P w) A (call (.builtin "dict.__eq__") [.ref a, .str x t]) Q' E s := by
  refine wpAny_call_entry slot hT PySem.F.entry_dict_eq ?_ (PySem.F.args_dict_eq_2 _ _)
  show wpAny _ _ (Builtin.Dict.dictSlotArgs "__eq__" ⟨[.ref a, .str x t], []⟩ >>= _) _ _ s
  refine wpAny_bind ?_
  unfold Builtin.Dict.dictSlotArgs
  refine wpAny_bind (wpAny_notOrdered_dict hT ?_)
  show wpAny _ _ (pure (Value.ref a, Value.str x t)) _ _ s
  refine wpAny_pure ?_
  refine wpAny_bind (wpAny_isInstance (T := "str") (typeIs_str _ _ _) PySem.F.sub_str_dict ?_)
  simp only [Bool.not_false, if_true]
  wp_walk
  exact ⟨_, rfl, hq⟩
/-- a dict == a text -/
theorem rc_dict_str {a : Addr} {es : Array DictEntry} {n : Nat} {dd : Option Addr} {sl : Array (Option Value)} (x : Str) (t : Tok) (got : s.heap.get? a = some ⟨.type "dict", dd, .dict es n, sl⟩) (hu : A.units < cLine) : RcAt A s (.ref a) (.str x t) false := fun P w E Q h =>
  have hT : s.TypeIs (.ref a) "dict" := ⟨_, got, rfl⟩
  rc_eq_decline_or (k := false) hT (typeIs_str s x t) (by decide) PySem.F.sub_str_dict PySem.F.slot_dict_eq PySem.F.slot_str_eq_refl (fun Q' hq => call_dict_str x t PySem.F.slot_dict_eq hT hq)
    (fun Q' hq => call_meets PySem.F.slot_str_eq_refl (typeIs_str s x t) PySem.F.entry_str_eq (PySem.F.args_str_eq_2 _ _) (str_not_dict x t a es n dd sl) ⟨got, hq⟩)
    (fun Q' hq => wpAny_of_eq (rfl : isSame (.ref a) (.str x t) = pure false) hq) (.inr hu) h
theorem rc_str_dict {a : Addr} {es : Array DictEntry} {n : Nat} {dd : Option Addr} {sl : Array (Option Value)} (x : Str) (t : Tok) (got : s.heap.get? a = some ⟨.type "dict", dd, .dict es n, sl⟩) (hu : A.units < cLine) : RcAt A s (.str x t) (.ref a) false := fun P w E Q h =>
  have hT : s.TypeIs (.ref a) "dict" := ⟨_, got, rfl⟩
  rc_eq_decline_or (k := false) (typeIs_str s x t) hT (by decide) PySem.F.sub_dict_str PySem.F.slot_str_eq PySem.F.slot_dict_eq_refl
    (fun Q' hq => call_meets PySem.F.slot_str_eq (typeIs_str s x t) PySem.F.entry_str_eq (PySem.F.args_str_eq_2 _ _) (str_not_dict x t a es n dd sl) ⟨got, hq⟩) (fun Q' hq => call_dict_str x t PySem.F.slot_dict_eq_refl hT hq)
    (fun Q' hq => wpAny_of_eq (rfl : isSame (.str x t) (.ref a) = pure false) hq) (.inr hu) h
/-- as an item is compared -/
theorem eq_str_dict {a : Addr} {es : Array DictEntry} {n : Nat} {dd : Option Addr} {sl : Array (Option Value)} (x : Str) (t : Tok) (got : s.heap.get? a = some ⟨.type "dict", dd, .dict es n, sl⟩) (hu : A.units < cLine) : EqAt A s (.str x t) (.ref a) false := fun P w E Q q => by
  unfold eqBool
  refine wpAny_holding (wpAny_ite_split (fun z => absurd (eq_of_beq z) nofun) fun _ => ?_)
  exact wpAny_bind (rc_str_dict x t got hu P w E _ (wpAny_truthy_bool q))
end
section
variable {X : Cx}
/-- is it this text -/
def eqS (x : Str) : D → Option Bool
  | .non => some false | .bl _ => some false | .int _ => some false | .str y => some (y == x) | .tup _ => some false | .lst _ => some false | .dct _ => some false | .scr _ => none | .ref _ => none
/-- both ways, behind whatever is read -/
theorem any_str {rho : Rf} {pins : List (Addr × Obj)} {σ : L2.St} {H : Hp} {s : Shared} {v : V} {u : Value} {d : D} {x : Str} {t : Tok} {k : Bool} {A : Around} (I : Inv X pins σ H s) (r : Rep X.K rho H v d) (rv : RelV v u) (e : eqS x d = some k) (hu : A.units < cLine) :
    SeqAt.RcAt A s u (.str x t) k ∧ SeqAt.EqAt A s (.str x t) u k := by
  cases d with
  | non => cases r; cases e; cases rv; exact ⟨.none_str _ _, .str_none _ _⟩
  | bl b => cases r; cases e; cases rv; exact ⟨.bool_str _ _ _, .str_bool _ _ _⟩
  | int i =>
    cases r
    cases e
    obtain ⟨t', rfl⟩ := rv
    exact ⟨.int_str _ _ _ _, .str_int _ _ _ _⟩
  | str y =>
    cases r
    cases e
    obtain ⟨t', rfl⟩ := rv
    refine ⟨.str_str _ _ _ _, ?_⟩
    have := SeqAt.EqAt.str_str (A := A) (s := s) x t y t'
    rwa [show (x == y) = (y == x) from Bool.beq_comm] at this
  | tup ds =>
    cases e
    obtain ⟨a, us, rfl, sq, l⟩ := r.sqT
    cases rv
    obtain ⟨its, r1, p1, _⟩ := I.tuple sq
    exact ⟨.tuple_str _ _ p1 hu, .str_tuple _ _ p1 hu⟩
  | lst ds =>
    cases e
    cases r with
    | lst g1 g2 g3 =>
      cases rv
      obtain ⟨its, r1, p1, _⟩ := I.list (.of g1)
      exact ⟨.list_str _ _ p1.isList hu, .str_list _ _ p1.isList hu⟩
  | dct kvs =>
    cases e
    cases r with
    | dct g1 g2 g3 =>
      cases rv
      obtain ⟨_, ns, vs, _, ⟨⟨cls, dd, data, sl⟩, es, ep, ho, ⟨hc, _, _⟩, hd, _⟩⟩ := (show ObjOk X.prog X.w H s.heap _ (.dK _) from I.hok _ _ g1)
      simp only at hc hd
      subst hc hd
      exact ⟨rc_dict_str x t ho hu, eq_str_dict x t ho hu⟩
  | scr ns => cases e
  | ref n => cases e
/-- d == "text" -/
def eqT : D → D → Option D := fun a b => match b with | .str x => (eqS x a).map .bl | _ => none
def rEqT (K : PySem.W.Frag) : R2 := fun x y H Q => ∃ (rho : Rf) (d : D) (z : Str) (k : Bool), Rep K rho H x d ∧ y = .str z ∧ eqS z d = some k ∧ Q (.bl k) H
theorem op_eqT (hu : X.A.units < cLine) : OpR X (compareOp .Eq) (rEqT X.K) := by
  intro pins s σ H x y v u Q I rx ry h
  obtain ⟨rho, d, z, k, r, rfl, e, q⟩ := h
  obtain ⟨t, rfl⟩ := ry
  exact (any_str (A := X.A) I r rx e hu).1 X.prog X.w _ _ ⟨.bl k, H, I, rfl, q⟩
theorem ok_eqT {k : Nat} (g : GX X k) : OpOk X (compareOp .Eq) eqT := ⟨_, op_eqT g.room.units0, fun rho H x y a b d st Q si ra rb e q => by
  unfold eqT at e
  split at e
  · obtain ⟨c, h1, h2⟩ := Option.map_eq_some_iff.mp e
    subst h2
    cases rb
    exact ⟨rho, a, _, c, ra, rfl, h1, q _ H (fun _ _ h => h) (.bl _)⟩
  · cases e⟩
/-- t == () -/
def eqNil : D → D → Option D := fun a b => match a, b with | .tup xs, .tup [] => some (.bl (xs.length == 0)) | _, _ => none
def rEqNil (K : PySem.W.Frag) : R2 := fun x y H Q => ∃ a b xs, x = .ref a ∧ y = .ref b ∧ SqT K H a xs ∧ SqT K H b [] ∧ Q (.bl (xs.length == 0)) H
theorem op_eqNil (hu : X.A.units < cLine) : OpR X (compareOp .Eq) (rEqNil X.K) := by
  intro pins s σ H x y v u Q I rx ry h
  obtain ⟨a, b, xs, rfl, rfl, h1, h2, q⟩ := h
  cases rx
  cases ry
  obtain ⟨its, r1, p1, _⟩ := I.tuple h1
  obtain ⟨its2, r2, p2, _⟩ := I.tuple h2
  cases r2
  refine SeqAt.eq_tupleAt (e := fun _ => true) p1 p2 hu (fun j h1 h2 => absurd h2 (Nat.not_lt_zero j)) ?_
  have : (((List.range (min its.toArray.size (#[] : Array Value).size)).all fun _ => true) && its.toArray.size == (#[] : Array Value).size) = (xs.length == 0) := by
    rw [r1.length]
    simp
  rw [this]
  exact ⟨.bl _, H, I, rfl, q⟩
theorem ok_eqNil {k : Nat} (g : GX X k) : OpOk X (compareOp .Eq) eqNil := ⟨_, op_eqNil g.room.units0, fun rho H x y a b d st Q si ra rb e q => by
  unfold eqNil at e
  split at e
  · cases e
    obtain ⟨p, us, rfl, s1, l1⟩ := ra.sqT
    obtain ⟨p2, us2, rfl, s2, l2⟩ := rb.sqT
    cases l2
    exact ⟨p, p2, us, rfl, rfl, s1, s2, by rw [l1.len]; exact q _ H (fun _ _ h => h) (.bl _)⟩
  · cases e⟩
/-- == where one side may be anything -/
def opEqA : D → D → Option D := orD eqT (orD eqNil opEq)
theorem ok_eqA {k : Nat} (g : GX X k) : OpOk X (compareOp .Eq) opEqA := (ok_eqT g).or ((ok_eqNil g).or (ok_eq g))
/-- d in ("text", ..) -/
def anyS (a : D) : List Str → Option Bool
  | [] => some false
  | z :: zs => (eqS z a).bind fun b => (anyS a zs).map fun c => b || c
def inStr (neg : Bool) : D → D → Option D := fun a b => match b with | .tup ds => (strsD ds).bind fun zs => (anyS a zs).map fun b => .bl (if neg then !b else b) | _ => none
def rInStr (K : PySem.W.Frag) (neg : Bool) : R2 := fun x y H Q => ∃ (rho : Rf) (d : D) (p : Addr) (zs : List Str) (k : Bool), Rep K rho H x d ∧ y = .ref p ∧ SqT K H p (zs.map V.str) ∧ anyS d zs = some k ∧ Q (.bl (if neg then !k else k)) H
/-- an item's answer -/
def itemS (d : D) : Value → Bool | .str z _ => (eqS z d).getD false | _ => false
theorem any_items {rho : Rf} {pins : List (Addr × Obj)} {σ : L2.St} {H : Hp} {s : Shared} {v : V} {u : Value} {d : D} {A : Around} (I : Inv X pins σ H s) (r : Rep X.K rho H v d) (rv : RelV v u) (hu : A.units < cLine) :
    ∀ {zs : List Str} {its : List Value} {k : Bool}, Vals (zs.map V.str) its → anyS d zs = some k → its.any (itemS d) = k ∧ ∀ y ∈ its, SeqAt.EqAt A s y u (itemS d y)
  | [], _, k, .nil, e => by
    cases e
    exact ⟨rfl, fun y hy => by cases hy⟩
  | z :: zs, _, k, .cons (b := w) (l₂ := ws) hw t, e => by
    obtain ⟨b, h1, h2⟩ := Option.bind_eq_some_iff.mp (show ((eqS z d).bind fun b => (anyS d zs).map fun c => b || c) = some k from e)
    obtain ⟨c, h3, h4⟩ := Option.map_eq_some_iff.mp h2
    obtain ⟨g1, g2⟩ := any_items I r rv hu t h3
    obtain ⟨tk, rfl⟩ := hw
    have e1 : itemS d (.str z tk) = b := by
      show (eqS z d).getD false = b
      rw [h1]; rfl
    refine ⟨by rw [List.any_cons, g1, e1]; exact h4, fun y hy => ?_⟩
    rcases List.mem_cons.mp hy with rfl | hy
    · rw [e1]
      exact (any_str (A := A) I r rv h1 hu).2
    · exact g2 y hy
theorem op_inStr (hu : X.A.units + 1 < cLine) : OpR X (compareOp .In) (rInStr X.K false) := by
  intro pins s σ H x y v u Q I rx ry h
  obtain ⟨rho, d, p, zs, k, r, rfl, sq, e, q⟩ := h
  cases ry
  obtain ⟨its, r1, p1, _⟩ := I.tuple sq
  obtain ⟨g1, g2⟩ := any_items (A := X.A.in1) I r rx hu r1 e
  refine SeqAt.in_tupleAt (itemS d) p1 (fun y hy => g2 y (by simpa using hy)) ?_
  rw [show its.toArray.any (itemS d) = its.any (itemS d) by simp, g1]
  exact ⟨.bl k, H, I, rfl, q⟩
theorem op_notInStr (hu : X.A.units + 1 < cLine) : OpR X (compareOp .NotIn) (rInStr X.K true) := by
  intro pins s σ H x y v u Q I rx ry h
  obtain ⟨rho, d, p, zs, k, r, rfl, sq, e, q⟩ := h
  cases ry
  obtain ⟨its, r1, p1, _⟩ := I.tuple sq
  obtain ⟨g1, g2⟩ := any_items (A := X.A.in1) I r rx hu r1 e
  refine SeqAt.notIn_tupleAt (itemS d) p1 (fun y hy => g2 y (by simpa using hy)) ?_
  rw [show its.toArray.any (itemS d) = its.any (itemS d) by simp, g1]
  exact ⟨.bl (!k), H, I, rfl, q⟩
theorem inStr_ok (neg : Bool) {rho : Rf} {H : Hp} {x y : V} {a b d : D} {Q : VK} (ra : Rep K rho H x a) (rb : Rep K rho H y b) (e : inStr neg a b = some d) (q : ∀ v H', Same H H' → Rep K rho H' v d → Q v H') : rInStr K neg x y H Q := by
  unfold inStr at e
  split at e
  · obtain ⟨zs, h1, h2⟩ := Option.bind_eq_some_iff.mp e
    obtain ⟨c, h3, h4⟩ := Option.map_eq_some_iff.mp h2
    subst h4
    obtain ⟨p, us, rfl, s1, l1⟩ := rb.sqT
    have := l1.strs' h1
    subst this
    exact ⟨rho, a, p, zs, c, ra, rfl, s1, h3, q _ H (fun _ _ h => h) (.bl _)⟩
  · cases e
def opInA : D → D → Option D := orD (inStr false) (inSeq false)
def opNotInA : D → D → Option D := orD (inStr true) (inSeq true)
theorem ok_inA {k : Nat} (g : GX X k) : OpOk X (compareOp .In) opInA := OpOk.or ⟨_, op_inStr (by have := g.room.un; omega), fun rho H x y a b d st Q si ra rb e q => inStr_ok false ra rb e q⟩ ok_in
theorem ok_notinA {k : Nat} (g : GX X k) : OpOk X (compareOp .NotIn) opNotInA := OpOk.or ⟨_, op_notInStr (by have := g.room.un; omega), fun rho H x y a b d st Q si ra rb e q => inStr_ok true ra rb e q⟩ ok_notin
end
end DL
/-! repr of anything. -/
namespace DL
open PySem PySem.Spec PyProof.Rows L2 TL
variable {K : PySem.W.Frag}
mutual
def toPyR : D → Option PyData
  | .non => some .none
  | .bl b => some (.bool b)
  | .int i => some (.int i)
  | .str x => some (.str x)
  | .tup ds => (toPyRL ds).map .tuple
  | .lst ds => (toPyRL ds).map .list
  | .dct [] => some (.dict [])
  | .dct (_ :: _) => none
  | .scr _ => none
  | .ref _ => none
def toPyRL : List D → Option (List PyData)
  | [] => some []
  | d :: ds => (toPyR d).bind fun p => (toPyRL ds).map fun q => p :: q
end
section
variable {X : Cx} {pins : List (Addr × Obj)} {σ : L2.St} {H : Hp} {s : Shared} {rho : Rf}
theorem dict_nil (I : Inv X pins σ H s) {a : Addr} {xs : List (Key × V)} (h : H a = some (.dK xs)) (e : xs = []) : ∃ o es ep, s.heap.get? a = some o ∧ o.cls = .type "dict" ∧ o.data = .dict es ep ∧ es.toList = [] ∧ (a == sysModules) = false := by
  subst e
  obtain ⟨_, ns, vs, kv, ⟨o, es, ep, ho, ⟨hc, _, _⟩, hd, _, hp, _⟩⟩ := (show ObjOk X.prog X.w H s.heap a (.dK []) from I.hok a _ h)
  unfold KV at kv
  cases kv
  refine ⟨o, es, ep, ho, hc, hd, ?_, ns⟩
  generalize es.toList = l at *
  cases hp
  rfl
/-- what can be read back, with what shows it -/
def Shows (X : Cx) (s : Shared) (u : Value) (p : PyData) : Prop := (∃ as, Reads s.heap u p as) ∧ ∃ bs, ReadAtMost s.heap p.depth bs ∧ ReprK X.prog X.w bs s.heap p.depth u p.shown
def ShowsL (X : Cx) (s : Shared) (us : List Value) (ps : List PyData) : Prop := (∃ as, ReadsAll s.heap us ps as) ∧ ∃ bs, ReadAtMost s.heap (PyData.depthAll ps) bs ∧ ReprAllK X.prog X.w bs s.heap (PyData.depthAll ps) us (PyData.shownAll ps)
theorem shows_flat {u : Value} {p : PyData} (r : Reads s.heap u p []) (h : ReprIs X.prog X.w u p.shown) : Shows X s u p := ⟨⟨[], r⟩, [], (fun _ z => nomatch z), .of_is h _ _ _⟩
mutual
theorem shows_of (I : Inv X pins σ H s) : ∀ (d : D) {v : V} {u : Value} {p : PyData}, Rep X.K rho H v d → RelV v u → toPyR d = some p → p.showable = true → p.shown.length ≤ sizeLine → Shows X s u p
  | .non, _, _, _, r, rv, e, _, _ => by
    cases r
    cases rv
    cases e
    exact shows_flat .none .none
  | .bl b, _, _, _, r, rv, e, _, _ => by
    cases r
    cases rv
    cases e
    exact shows_flat (.bool b) (.bool b)
  | .int i, _, _, _, r, rv, e, sh, _ => by
    cases r
    obtain ⟨t, rfl⟩ := rv
    cases e
    exact shows_flat (.int i t) (.int t (of_decide_eq_true (show decide (i.natAbs.log2 < 1920) = true from sh)))
  | .str x, _, _, _, r, rv, e, _, z => by
    cases r
    obtain ⟨t, rfl⟩ := rv
    cases e
    exact shows_flat (.str x t) (.str x t z)
  | .scr _, _, _, _, _, _, e, _, _ => by cases e
  | .ref _, _, _, _, _, _, e, _, _ => by cases e
  | .dct (_ :: _), _, _, _, _, _, e, _, _ => by cases e
  | .dct [], _, _, _, r, rv, e, _, _ => by
    cases e
    cases r with
    | dct g1 g2 g3 =>
      cases g3
      cases rv
      obtain ⟨o, es, ep, ho, hc, hd, hn, hs⟩ := dict_nil I g1 rfl
      have rd : Reads s.heap (.ref _) (.dict []) _ := .dict (as := []) (bs := []) ho hc hd (by rw [hn]; exact .nil) (by rw [hn]; exact .nil)
      exact ⟨⟨_, rd⟩, [_], fun b hb => by
        rw [List.mem_singleton.mp hb]
        exact ⟨_, _, rd, Nat.le_refl _⟩, ReprK.dict (d := 0) ho hc hd hs (by simp) (by rw [hn]; exact .nil)⟩
  | .tup ds, _, _, _, r, rv, e, sh, z => by
    obtain ⟨ps, e1, e2⟩ := Option.map_eq_some_iff.mp (show (toPyRL ds).map PyData.tuple = some _ from e)
    subst e2
    obtain ⟨a, us, rfl, sq, l⟩ := r.sqT
    cases rv
    obtain ⟨its, r1, ⟨o, ho, hc, n, hd⟩, _⟩ := I.tuple sq
    obtain ⟨⟨as, ra⟩, bs, hb, hk⟩ := showsL_of I ds l r1 e1 sh fun t ht => Nat.le_trans (tupleText_mem_le ht) z
    have rd : Reads s.heap (.ref a) (.tuple ps) as := .tuple ho hc hd ra
    have na : a ∉ bs := not_mem_of_deeper rd (Nat.lt_succ_self _) hb
    exact ⟨⟨as, rd⟩, a :: bs, ReadAtMost.cons rd (Nat.le_succ _) hb, ReprK.tuple ho hc hd na hk⟩
  | .lst ds, _, _, _, r, rv, e, sh, z => by
    obtain ⟨ps, e1, e2⟩ := Option.map_eq_some_iff.mp (show (toPyRL ds).map PyData.list = some _ from e)
    subst e2
    cases r with
    | lst g1 g2 g3 =>
      rename_i a us
      cases rv
      obtain ⟨its, r1, ⟨⟨o, n, ho, hc, hx, hd⟩, hz⟩⟩ := I.list (.of g1)
      obtain ⟨⟨as, ra⟩, bs, hb, hk⟩ := showsL_of I ds g3 r1 e1 sh fun t ht => Nat.le_trans (listText_mem_le ht) z
      have rd : Reads s.heap (.ref a) (.list ps) (a :: as) := .list ho hc hd ra
      have na : a ∉ bs := not_mem_of_deeper rd (Nat.lt_succ_self _) hb
      refine ⟨⟨_, rd⟩, a :: bs, ReadAtMost.cons rd (Nat.le_succ _) hb, ?_⟩
      cases its with
      | nil =>
        cases ra
        exact ReprK.listEmpty ho hc hd
      | cons w ws => exact ReprK.list ho hc hd na (by simpa using hk.length_eq) fun i y q => hk.item i y (by simpa using q)
theorem showsL_of (I : Inv X pins σ H s) : ∀ (ds : List D) {vs : List V} {us : List Value} {ps : List PyData}, RepL X.K rho H vs ds → Vals vs us → toPyRL ds = some ps → PyData.showableAll ps = true → (∀ t ∈ PyData.shownAll ps, t.length ≤ sizeLine) → ShowsL X s us ps
  | [], _, _, _, .nil, .nil, e, _, _ => by
    cases e
    exact ⟨⟨[], .nil⟩, [], (fun _ z => nomatch z), .nil⟩
  | d :: ds, _, _, ps, .cons r l, .cons rv rt, e, sh, z => by
    obtain ⟨p, e1, e2⟩ := Option.bind_eq_some_iff.mp (show ((toPyR d).bind fun p => (toPyRL ds).map fun q => p :: q) = some ps from e)
    obtain ⟨qs, e3, e4⟩ := Option.map_eq_some_iff.mp e2
    subst e4
    have sh2 : p.showable = true ∧ PyData.showableAll qs = true := Bool.and_eq_true_iff.mp (show (p.showable && PyData.showableAll qs) = true from sh)
    obtain ⟨⟨as, ra⟩, b1, hb1, k1⟩ := shows_of I d r rv e1 sh2.1 (z _ (List.mem_cons_self (a := p.shown) (l := PyData.shownAll qs)))
    obtain ⟨⟨as2, ra2⟩, b2, hb2, k2⟩ := showsL_of I ds l rt e3 sh2.2 fun t ht => z t (List.mem_cons_of_mem _ ht)
    refine ⟨⟨as ++ as2, .cons ra ra2⟩, b1 ++ b2, ReadAtMost.append (hb1.mono (Nat.le_max_left _ _)) (hb2.mono (Nat.le_max_right _ _)), ?_⟩
    exact .cons ((k1.more fun b h => List.mem_append_left _ h).level_le (Nat.le_max_left _ _)) (k2.more_le (fun b h => List.mem_append_right _ h) (Nat.le_max_right _ _))
end
end
section
variable {X : Cx}
def rRepr (K : PySem.W.Frag) : List V → Hp → VK → Prop := fun xs H Q => ∃ rho v d p, xs = [v] ∧ Rep K rho H v d ∧ toPyR d = some p ∧ p.showable = true ∧ p.depth ≤ 64 ∧ p.shown.length ≤ sizeLine ∧ Q (.str p.shown) H
theorem call_reprA {k : Nat} (g : GX X k) : CallR X (.builtin "repr") (rRepr X.K) := by
  intro pins s σ H xs us Q I r h
  obtain ⟨rho, v, d, p, rfl, rp, e, sh, dp, z, q⟩ := h
  obtain ⟨u, rfl, rv⟩ := vals1 r
  have hu := g.room.un
  have fin : ∀ h' (w : Tok) (tk : Nat), (∀ b o, s.heap.get? b = some o → h'.get? b = some o) → EP X pins σ Q (.str p.shown w) { s with heap := h', toks := tk } := fun h' w tk hk => ⟨.str p.shown, H, I.kept hk, ⟨_, rfl⟩, q⟩
  cases d with
  | non =>
    cases rp
    cases rv
    cases e
    exact PySem.P.repr_of_none ⟨.str _, H, I.tok _, ⟨_, rfl⟩, q⟩
  | bl b =>
    cases rp
    cases rv
    cases e
    exact PySem.P.repr_of_bool ⟨.str _, H, I.tok _, ⟨_, rfl⟩, q⟩
  | int i =>
    cases rp
    obtain ⟨t, rfl⟩ := rv
    cases e
    exact PySem.P.repr_of_int (of_decide_eq_true (show decide (i.natAbs.log2 < 1920) = true from sh)) ⟨.str _, H, I.tok _, ⟨_, rfl⟩, q⟩
  | str x =>
    cases rp
    obtain ⟨t, rfl⟩ := rv
    cases e
    exact PySem.P.repr_of_str ⟨.str _, H, I.tok _, ⟨_, rfl⟩, q⟩ z
  | scr ns => cases e
  | ref n => cases e
  | dct kvs =>
    cases kvs with
    | cons _ _ => cases e
    | nil =>
      cases e
      cases rp with
      | dct g1 g2 g3 =>
        cases g3
        cases rv
        obtain ⟨o, es, ep, ho, hc, hd, hn, hs⟩ := dict_nil I g1 rfl
        exact call_repr_slot (by omega) ⟨o, ho, hc⟩ PySem.F.slot_dict_repr (call_dict_reprK (as := []) (d := 0) (ps := []) ho hc hd hs (by simp) (by rw [hn]; exact .nil) g.gd (fun b _ => Clear.nil b) (by show X.A.units + 1 + 1 < cLine; omega) (fun _ _ e => e) (fun h' u tk hk => ⟨_, _, rfl, fin h' u tk hk⟩) z)
  | tup ds =>
    obtain ⟨ps, e1, e2⟩ := Option.map_eq_some_iff.mp (show (toPyRL ds).map PyData.tuple = some _ from e)
    subst e2
    obtain ⟨a, us, rfl, sq, l⟩ := rp.sqT
    cases rv
    obtain ⟨its, r1, ⟨o, ho, hc, n, hd⟩, _⟩ := I.tuple sq
    obtain ⟨⟨as, ra⟩, bs, hb, hk⟩ := showsL_of I ds l r1 e1 sh fun t ht => Nat.le_trans (tupleText_mem_le ht) z
    have rd : Reads s.heap (.ref a) (.tuple ps) as := .tuple ho hc hd ra
    have na : a ∉ bs := not_mem_of_deeper rd (Nat.lt_succ_self _) hb
    have dd : PyData.depthAll ps + 1 ≤ 64 := dp
    exact call_repr_slot (by omega) ⟨o, ho, hc⟩ PySem.F.slot_tuple_repr (call_tuple_reprK ho hc hd na hk g.gd (fun b _ => Clear.nil b) (by show X.A.units + 1 + (PyData.depthAll ps + 1) < cLine; omega) (fun _ _ e => e) (fun h' u tk hk => ⟨_, _, rfl, fin h' u tk hk⟩) z)
  | lst ds =>
    obtain ⟨ps, e1, e2⟩ := Option.map_eq_some_iff.mp (show (toPyRL ds).map PyData.list = some _ from e)
    subst e2
    cases rp with
    | lst g1 g2 g3 =>
      rename_i a us
      cases rv
      obtain ⟨its, r1, ⟨⟨o, n, ho, hc, hx, hd⟩, hz⟩⟩ := I.list (.of g1)
      obtain ⟨⟨as, ra⟩, bs, hb, hk⟩ := showsL_of I ds g3 r1 e1 sh fun t ht => Nat.le_trans (listText_mem_le ht) z
      have rd : Reads s.heap (.ref a) (.list ps) (a :: as) := .list ho hc hd ra
      have na : a ∉ bs := not_mem_of_deeper rd (Nat.lt_succ_self _) hb
      have dd : PyData.depthAll ps + 1 ≤ 64 := dp
      refine call_repr_slot (by omega) ⟨o, ho, hc⟩ PySem.F.slot_list_repr.toG ?_
      cases its with
      | nil =>
        cases ra
        exact call_list_repr_empty ⟨o, ho, hc⟩ ho hd ⟨_, _, rfl, fin s.heap _ _ fun _ _ e => e⟩
      | cons w ws => exact call_list_reprK ho hc hd na (by simpa using hk.length_eq) (fun i y q => hk.item i y (by simpa using q)) g.gd (fun b _ => Clear.nil b) (by show X.A.units + 1 + (PyData.depthAll ps + 1) < cLine; omega) (fun _ _ e => e) (fun h' u tk hk => ⟨_, _, rfl, fin h' u tk hk⟩) z
/-- repr(d), of anything -/
def bReprA : List D → Store → Option D := fun ds _ => match ds with
  | [d] => (toPyR d).bind fun p => if p.showable = true ∧ p.depth ≤ 64 ∧ p.shown.length ≤ sizeLine then some (.str p.shown) else none
  | _ => none
theorem ok_reprA {k : Nat} (g : GX X k) : CallOk X (.builtin "repr") bReprA := ⟨_, call_reprA g, fun rho H xs ds d st Q rl si e q => by
  unfold bReprA at e
  split at e
  · rename_i y
    obtain ⟨v, rfl, p⟩ := lst1 rl
    obtain ⟨z, h1, h2⟩ := Option.bind_eq_some_iff.mp e
    by_cases c : z.showable = true ∧ z.depth ≤ 64 ∧ z.shown.length ≤ sizeLine
    · rw [if_pos c] at h2
      cases h2
      exact ⟨rho, v, y, z, rfl, p, h1, c.1, c.2.1, c.2.2, q _ H (fun _ _ h => h) (.str _)⟩
    · rw [if_neg c] at h2
      cases h2
  · cases e⟩
end
/-! ### measures -/
mutual
/-- what may be shown: no great ints, texts of ASCII -/
def okD : D → Bool
  | .non => true
  | .bl _ => true
  | .int i => decide (i.natAbs < 10 ^ 62)
  | .str x => (tl x).all fun c => decide (c < 128)
  | .tup ds => okL ds
  | .lst ds => okL ds
  | .dct [] => true
  | .dct (_ :: _) => false
  | .scr _ => false
  | .ref _ => false
def okL : List D → Bool
  | [] => true
  | d :: ds => okD d && okL ds
end
mutual
def wD : D → Nat
  | .int _ => 210
  | .str x => x.length
  | .tup ds => wL ds
  | .lst ds => wL ds
  | _ => 0
def wL : List D → Nat
  | [] => 0
  | d :: ds => wD d + 1 + wL ds
end
mutual
def hD : D → Nat
  | .tup ds => hL ds + 1
  | .lst ds => hL ds + 1
  | .dct _ => 1
  | _ => 0
def hL : List D → Nat
  | [] => 0
  | d :: ds => max (hD d) (hL ds)
end
mutual
theorem ok_pyR : ∀ (d : D), okD d = true → ∃ p, toPyR d = some p ∧ p.showable = true ∧ p.leavesShort 70 = true ∧ p.depth ≤ hD d ∧ p.weight ≤ wD d
  | .non, _ => ⟨_, rfl, rfl, rfl, Nat.le_refl _, Nat.le_refl _⟩
  | .bl b, _ => ⟨_, rfl, rfl, rfl, Nat.le_refl _, Nat.le_refl _⟩
  | .int i, h => by
    have hn : i.natAbs < 10 ^ 62 := of_decide_eq_true h
    have hl : i.natAbs.log2 < 207 := by
      by_cases z : i.natAbs = 0
      · rw [z]; decide
      · exact (Nat.log2_lt z).mpr (Nat.lt_trans hn (by decide))
    refine ⟨.int i, rfl, ?_, ?_, Nat.le_refl _, ?_⟩
    · rw [PyData.showable]
      exact decide_eq_true (by omega)
    · rw [PyData.leavesShort, PyData.shown]
      have h0 := int_text_length_le10 (a := i) (k := 62) (by decide) hn
      refine decide_eq_true ?_
      rw [PySem.ofString_length]
      omega
    · rw [PyData.weight, wD]
      split
      · exact Nat.zero_le _
      · omega
  | .str x, h => by
    refine ⟨.str x, rfl, rfl, ?_, Nat.le_refl _, ?_⟩
    · rw [PyData.leavesShort]
      exact List.all_eq_true.mpr fun c hc => decide_eq_true (Nat.lt_trans (of_decide_eq_true (List.all_eq_true.mp h c hc)) (by decide))
    · rw [PyData.weight, wD]
      exact Nat.le_refl _
  | .dct [], _ => ⟨.dict [], rfl, rfl, rfl, Nat.le_refl _, Nat.le_refl _⟩
  | .dct (_ :: _), h => by cases h
  | .scr _, h => by cases h
  | .ref _, h => by cases h
  | .tup ds, h => by
    obtain ⟨ps, h1, h2, h3, h4, h5⟩ := ok_pyRL ds h
    exact ⟨.tuple ps, by show (toPyRL ds).map _ = _; rw [h1]; rfl, h2, h3, Nat.succ_le_succ h4, h5⟩
  | .lst ds, h => by
    obtain ⟨ps, h1, h2, h3, h4, h5⟩ := ok_pyRL ds h
    exact ⟨.list ps, by show (toPyRL ds).map _ = _; rw [h1]; rfl, h2, h3, Nat.succ_le_succ h4, h5⟩
theorem ok_pyRL : ∀ (ds : List D), okL ds = true → ∃ ps, toPyRL ds = some ps ∧ PyData.showableAll ps = true ∧ PyData.leavesShortAll 70 ps = true ∧ PyData.depthAll ps ≤ hL ds ∧ PyData.weightAll ps ≤ wL ds
  | [], _ => ⟨[], rfl, rfl, rfl, Nat.le_refl _, Nat.le_refl _⟩
  | d :: ds, h => by
    obtain ⟨a, b⟩ := Bool.and_eq_true_iff.mp (show (okD d && okL ds) = true from h)
    obtain ⟨p, h1, h2, h3, h4, h5⟩ := ok_pyR d a
    obtain ⟨ps, g1, g2, g3, g4, g5⟩ := ok_pyRL ds b
    refine ⟨p :: ps, by show (toPyR d).bind _ = _; rw [h1, g1]; rfl, by rw [PyData.showableAll, h2, g2]; rfl, by rw [PyData.leavesShortAll, h3, g3]; rfl, ?_, ?_⟩
    · rw [PyData.depthAll, hL]
      exact Nat.max_le.mpr ⟨Nat.le_trans h4 (Nat.le_max_left _ _), Nat.le_trans g4 (Nat.le_max_right _ _)⟩
    · rw [PyData.weightAll, wL]
      omega
end
theorem repr_any {d : D} (h : okD d = true) (l : hD d ≤ 64) (m : wD d ≤ 200000) : ∃ x, ∀ st, bReprA [d] st = some (.str x) := by
  obtain ⟨p, h1, h2, h3, h4, h5⟩ := ok_pyR d h
  have hs : p.shown.length ≤ sizeLine := by
    have := PyData.shown_le 70 (by decide) p h3
    have h6 : (70 + 2) * p.weight ≤ 72 * 200000 := Nat.mul_le_mul_left 72 (Nat.le_trans h5 m)
    rw [sizeLine_eq]
    omega
  exact ⟨p.shown, fun st => by show (toPyR d).bind _ = _; rw [h1, Option.bind_some, if_pos ⟨h2, Nat.le_trans h4 l, hs⟩]⟩
theorem okL_mem {ds : List D} : okL ds = true ↔ ∀ d ∈ ds, okD d = true := by
  induction ds with
  | nil => exact ⟨fun _ _ h => (by cases h), fun _ => rfl⟩
  | cons d ds ih =>
    show (okD d && okL ds) = true ↔ _
    rw [Bool.and_eq_true, ih]
    simp
theorem wL_append : ∀ (xs ys : List D), wL (xs ++ ys) = wL xs + wL ys
  | [], ys => by rw [List.nil_append, wL, Nat.zero_add]
  | x :: xs, ys => by rw [List.cons_append, wL, wL, wL_append xs ys]; omega
theorem wL_mem {ds : List D} {d : D} (h : d ∈ ds) : wD d + 1 ≤ wL ds := by
  induction ds with
  | nil => cases h
  | cons e es ih =>
    rw [wL]
    rcases List.mem_cons.mp h with rfl | h
    · omega
    · have := ih h
      omega
theorem hL_le {n : Nat} {ds : List D} : hL ds ≤ n ↔ ∀ d ∈ ds, hD d ≤ n := by
  induction ds with
  | nil => exact ⟨fun _ _ h => (by cases h), fun _ => Nat.zero_le _⟩
  | cons d ds ih =>
    rw [hL, Nat.max_le, ih]
    simp
end DL
/-! A list of the store: an item replaced; walked for good; tuples times an int. -/
namespace DL
open PySem PySem.Spec PyProof.Rows L2 TL
variable {K : PySem.W.Frag}
section
variable {X : Cx} {tg iter : Expr}
/-- a list of the store is walked, and written no more -/
def iOfZ (f : F) : FI := fun env st => (f env st).bind fun p => match p.1 with
  | .ref n => (match p.2[n]? with | some (.lst ds) => some (ds, p.2.set n .dead) | _ => none)
  | _ => none
def Rf.drop (r : Rf) (a : Addr) : Rf := ⟨r.adr, fun p => r.av p ∧ p ≠ a⟩
theorem drop_ext {r : Rf} {H : Hp} {a : Addr} (h : a ∈ r.adr) : Ext r H (r.drop a) H :=
  ⟨⟨⟨[], by simp [Rf.drop]⟩, fun _ _ z _ => z, fun _ z n => absurd z.1 n⟩, fun p v n => ⟨rfl, ⟨v, fun e => n (e ▸ h)⟩, n⟩⟩
theorem drop_sim {r : Rf} {H : Hp} {st : Store} (s : Sim K r H st) {n : Nat} {a : Addr} (h : r.adr[n]? = some a) : Sim K (r.drop a) H (st.set n .dead) := by
  refine ⟨by rw [List.length_set]; exact s.len, s.nd, fun m b o h1 h2 => ?_, fun p v => s.there p v.1, s.old⟩
  by_cases z : n = m
  · subst z
    by_cases hl : n < st.length
    · rw [List.getElem?_set_self hl] at h2
      cases h2
      trivial
    · rw [List.getElem?_eq_none (by rw [List.length_set]; omega)] at h2
      cases h2
  · rw [List.getElem?_set_ne z] at h2
    have nb : b ≠ a := fun y => z (by
      subst y
      obtain ⟨l1, e1⟩ := List.getElem?_eq_some_iff.mp h
      obtain ⟨l2, e2⟩ := List.getElem?_eq_some_iff.mp h1
      exact (List.getElem_inj s.nd).mp (e1.trans e2.symm))
    exact (s.ob m b o h1 h2).ex (drop_ext (List.mem_of_getElem? h)).toEx fun v => ⟨rfl, v, nb⟩
theorem di_frz {f : F} (h : DE X iter f) : DI X tg iter (iOfZ f) := weakI (pi_list h) fun σ H R hh => by
  obtain ⟨r, env, st, ds, st', he, hs, hf, q⟩ := hh
  obtain ⟨⟨d, s1⟩, h1, h2⟩ := Option.bind_eq_some_iff.mp hf
  cases d with
  | ref n =>
    have h2' : (match s1[n]? with | some (.lst ds) => some (ds, s1.set n .dead) | _ => none) = some (ds, st') := h2
    split at h2'
    · rename_i es hst
      cases h2'
      refine ⟨r, env, st, _, s1, he, hs, h1, fun v r1 H1 e1 q1 p1 => ?_⟩
      obtain ⟨a, rfl, ha⟩ := p1.refI
      obtain ⟨av, xs, hx, l⟩ := q1.ob _ a _ ha hst
      have ex := drop_ext (H := H1) (List.mem_of_getElem? ha)
      have na : ¬ (r1.drop a).av a := fun z => z.2 rfl
      exact ⟨a, rfl, ⟨xs, .of hx⟩, q _ _ H1 (e1.trans ex) (drop_sim q1 ha) (sql_ok rfl (fun r2 H2 e2 => .of (e2.keep _ _ hx na)) (l.ext ex))⟩
    · cases h2'
  | _ => cases h2
theorem RepL.set {r : Rf} {H : Hp} {v : V} {d : D} (q : Rep K r H v d) : ∀ {vs : List V} {ds : List D} (j : Nat), RepL K r H vs ds → RepL K r H (vs.set j v) (ds.set j d)
  | _, _, _, .nil => .nil
  | _, _, 0, .cons a b => .cons q b
  | _, _, j + 1, .cons a b => .cons a (RepL.set q j b)
/-- o[i] = v, o a list of the store -/
def sPutL (fo fk fv : F) : FS := fun env st => (fv env st).bind fun p => (fo env p.2).bind fun q => (fk env q.2).bind fun w => match q.1, w.1 with
  | .ref n, .int i => (match w.2[n]? with
    | some (.lst ds) => (ixN ds.length i).bind fun j => some (.nx, env, w.2.set n (.lst (ds.set j p.1)))
    | _ => none)
  | _, _ => none
theorem ds_putL {o i value : Expr} {fo fk fv : F} {pos pos' : Pos} (ho : DE X o fo) (hi : DE X i fk) (hv : DE X value fv) (hs : swapsWithSole [.Subscript o i pos'] value pos.line X.env = pure false := by rfl) (hw : swappedStores [.Subscript o i pos'] value X.env = pure none := by rfl)
    (h1 : (assignEach [.Subscript o i pos'] X.env).map (·.2) = [assign (.Subscript o i pos') X.env] := by rfl)
    (ha : ∀ v, assign (.Subscript o i pos') X.env v = (do let ov ← holding [v] (eval o X.env); let iv ← holding [v, ov] (eval i X.env); standAt pos'; holding [v, ov, iv] (setItem ov iv v); release [v, ov, iv] []) := by intro _; rfl) :
    DS X (.Assign [.Subscript o i pos'] value pos) (sPutL fo fk fv) := weakS (ps_asg hv (pg_sub ho hi set_list ha) hs hw h1) fun D' σ H hh => by
  obtain ⟨r, env, st, out, env', st', he, hs, hf, q⟩ := hh
  obtain ⟨⟨x, s1⟩, h1, hf1⟩ := Option.bind_eq_some_iff.mp hf
  obtain ⟨⟨y, s2⟩, h2, hf2⟩ := Option.bind_eq_some_iff.mp hf1
  obtain ⟨⟨z, s3⟩, h3, hf3⟩ := Option.bind_eq_some_iff.mp hf2
  cases y with
  | ref n =>
    cases z with
    | int k =>
      simp only at hf3
      split at hf3
      · rename_i ds hst
        obtain ⟨j, hj, hf4⟩ := Option.bind_eq_some_iff.mp hf3
        cases hf4
        refine ⟨r, env, st, x, s1, he, hs, h1, fun xv r1 H1 e1 q1 p1 => ⟨r1, env, s1, _, s2, he.ext e1, q1, h2, fun yv r2 H2 e2 q2 p2 => ⟨r2, env, s2, _, s3, (he.ext e1).ext e2, q2, h3, fun zv r3 H3 e3 q3 p3 => ?_⟩⟩⟩
        cases p3
        obtain ⟨p, rfl, hp⟩ := (p2.ext e3).refI
        obtain ⟨av, xs, hx, l⟩ := q3.ob _ p _ hp hst
        have px : Rep X.K r3 H3 xv x := (p1.ext e2).ext e3
        refine ⟨p, xs, k, j, rfl, rfl, hx, by rw [l.len]; exact hj, ?_⟩
        have ee : Ex r3 H3 r3 (upd H3 p (.lst (xs.set j xv))) := ⟨⟨[], by simp⟩, fun a o w m => by rw [upd_ne (fun y => m (by rw [y]; exact av))]; exact w, fun a w m => absurd w m⟩
        obtain ⟨w1, w2⟩ := q3.set (o := .lst (xs.set j xv)) (ob := .lst (ds.set j x)) hp av ⟨av, _, upd_same, (RepL.set px j l).ex ee⟩
        exact q σ r3 _ (((e1.trans e2).trans e3).trans w1) ((((he.ext e1).ext e2).ext e3).ext w1) w2
      · cases hf3
    | _ => cases hf3
  | _ => cases hf3
/-- (x, ..) * n -/
def mulT : D → D → Option D := fun a b => match a, b with
  | .tup xs, .int n => if xs ≠ [] ∧ 2 ≤ n ∧ n ≤ 1000 ∧ xs.length ≤ 1000 then some (.tup (List.replicate n.toNat xs).flatten) else none
  | _, _ => none
theorem RepL.rep {r : Rf} {H : Hp} {vs : List V} {ds : List D} (l : RepL K r H vs ds) : ∀ n : Nat, RepL K r H (List.replicate n vs).flatten (List.replicate n ds).flatten
  | 0 => .nil
  | n + 1 => by
    rw [List.replicate_succ, List.replicate_succ, List.flatten_cons, List.flatten_cons]
    exact l.append (RepL.rep l n)
theorem ok_mulT : OpOk X (binaryOp .Mult) mulT := ⟨_, op_repT, fun rho H x y a b d st Q si ra rb e q => by
  unfold mulT at e
  split at e
  · rename_i xs n
    by_cases c : xs ≠ [] ∧ 2 ≤ n ∧ n ≤ 1000 ∧ xs.length ≤ 1000
    · rw [if_pos c] at e
      cases e
      cases rb
      obtain ⟨p, us, rfl, s1, l1⟩ := ra.sqT
      refine ⟨p, n, us, rfl, rfl, s1, fun z => c.1 ?_, c.2.1, c.2.2.1, by rw [l1.len]; exact c.2.2.2, fun p' hp => q _ _ (same_alloc hp) (fresh_tup si hp (l1.rep n.toNat))⟩
      subst z
      cases l1
      rfl
    · rw [if_neg c] at e
      cases e
  · cases e⟩
def opMulA : D → D → Option D := orD opMul mulT
theorem ok_mulA : OpOk X (binaryOp .Mult) opMulA := ok_mul.or ok_mulT
end
end DL
namespace LW
open PySem PySem.Spec PyProof.Rows L2 DL
def topS (i : Nat) : Stmt := PySem.Challenge.pw_steadypages_k06_what_is_a_condition.main.body.getD i (.Pass ⟨0, 0, 0, 0⟩)
abbrev s__law_tape : Stmt := topS 15
abbrev N__law_tape : List Str := ["script", "start", "mixed", "cell", "digits"]
theorem sc__law_tape : FnScope N__law_tape ["script", "start"] (defScope s__law_tape) := ⟨rfl, rfl, rfl, by decide +kernel, rfl, by decide +kernel, by decide +kernel⟩
abbrev s__law_pick : Stmt := topS 16
abbrev N__law_pick : List Str := ["tape", "size", "found"]
theorem sc__law_pick : FnScope N__law_pick ["tape", "size"] (defScope s__law_pick) := ⟨rfl, rfl, rfl, by decide +kernel, rfl, by decide +kernel, by decide +kernel⟩
abbrev s__law_one_of : Stmt := topS 17
abbrev N__law_one_of : List Str := ["tape", "items"]
theorem sc__law_one_of : FnScope N__law_one_of ["tape", "items"] (defScope s__law_one_of) := ⟨rfl, rfl, rfl, by decide +kernel, rfl, by decide +kernel, by decide +kernel⟩
abbrev s__law_value : Stmt := topS 18
abbrev N__law_value : List Str := ["tape", "signs", "some", "turn"]
theorem sc__law_value : FnScope N__law_value ["tape"] (defScope s__law_value) := ⟨rfl, rfl, rfl, by decide +kernel, rfl, by decide +kernel, by decide +kernel⟩
abbrev s__law_test : Stmt := topS 20
abbrev N__law_test : List Str := ["tape", "width", "column", "kind", "many", "turn"]
theorem sc__law_test : FnScope N__law_test ["tape", "width"] (defScope s__law_test) := ⟨rfl, rfl, rfl, by decide +kernel, rfl, by decide +kernel, by decide +kernel⟩
abbrev s__law_condition : Stmt := topS 21
abbrev N__law_condition : List Str := ["tape", "width", "depth", "kind", "parts"]
theorem sc__law_condition : FnScope N__law_condition ["tape", "width", "depth"] (defScope s__law_condition) := ⟨rfl, rfl, rfl, by decide +kernel, rfl, by decide +kernel, by decide +kernel⟩
abbrev s_is_integer : Stmt := topS 3
abbrev N_is_integer : List Str := ["value"]
theorem sc_is_integer : FnScope N_is_integer ["value"] (defScope s_is_integer) := ⟨rfl, rfl, rfl, by decide +kernel, rfl, by decide +kernel, by decide +kernel⟩
abbrev s_is_string : Stmt := topS 4
abbrev N_is_string : List Str := ["value", "sign"]
theorem sc_is_string : FnScope N_is_string ["value"] (defScope s_is_string) := ⟨rfl, rfl, rfl, by decide +kernel, rfl, by decide +kernel, by decide +kernel⟩
abbrev s_is_value : Stmt := topS 5
abbrev N_is_value : List Str := ["value"]
theorem sc_is_value : FnScope N_is_value ["value"] (defScope s_is_value) := ⟨rfl, rfl, rfl, by decide +kernel, rfl, by decide +kernel, by decide +kernel⟩
abbrev s_is_choice : Stmt := topS 13
abbrev N_is_choice : List Str := ["value", "item"]
theorem sc_is_choice : FnScope N_is_choice ["value"] (defScope s_is_choice) := ⟨rfl, rfl, rfl, by decide +kernel, rfl, by decide +kernel, by decide +kernel⟩
abbrev s_is_operand : Stmt := topS 12
abbrev N_is_operand : List Str := ["kind", "value"]
theorem sc_is_operand : FnScope N_is_operand ["kind", "value"] (defScope s_is_operand) := ⟨rfl, rfl, rfl, by decide +kernel, rfl, by decide +kernel, by decide +kernel⟩
abbrev s_is_column : Stmt := topS 11
abbrev N_is_column : List Str := ["value", "width"]
theorem sc_is_column : FnScope N_is_column ["value", "width"] (defScope s_is_column) := ⟨rfl, rfl, rfl, by decide +kernel, rfl, by decide +kernel, by decide +kernel⟩
abbrev s_is_condition_within : Stmt := topS 10
abbrev N_is_condition_within : List Str := ["value", "width", "depth", "kind", "part"]
theorem sc_is_condition_within : FnScope N_is_condition_within ["value", "width", "depth"] (defScope s_is_condition_within) := ⟨rfl, rfl, rfl, by decide +kernel, rfl, by decide +kernel, by decide +kernel⟩
abbrev s_is_condition : Stmt := topS 9
abbrev N_is_condition : List Str := ["value", "width"]
theorem sc_is_condition : FnScope N_is_condition ["value", "width"] (defScope s_is_condition) := ⟨rfl, rfl, rfl, by decide +kernel, rfl, by decide +kernel, by decide +kernel⟩
abbrev s__law_integer : Stmt := topS 22
abbrev N__law_integer : List Str := ["thing", "least", "most"]
theorem sc__law_integer : FnScope N__law_integer ["thing", "least", "most"] (defScope s__law_integer) := ⟨rfl, rfl, rfl, by decide +kernel, rfl, by decide +kernel, by decide +kernel⟩
abbrev s__law_value_due : Stmt := topS 23
abbrev N__law_value_due : List Str := ["thing", "sign"]
theorem sc__law_value_due : FnScope N__law_value_due ["thing"] (defScope s__law_value_due) := ⟨rfl, rfl, rfl, by decide +kernel, rfl, by decide +kernel, by decide +kernel⟩
abbrev s__law_due : Stmt := topS 24
abbrev N__law_due : List Str := ["thing", "width", "depth", "kind", "parts", "part"]
theorem sc__law_due : FnScope N__law_due ["thing", "width", "depth"] (defScope s__law_due) := ⟨rfl, rfl, rfl, by decide +kernel, rfl, by decide +kernel, by decide +kernel⟩
abbrev s__law_right : Stmt := topS 27
abbrev N__law_right : List Str := ["thing", "width", "kept", "told"]
theorem sc__law_right : FnScope N__law_right ["thing", "width"] (defScope s__law_right) := ⟨rfl, rfl, rfl, by decide +kernel, rfl, by decide +kernel, by decide +kernel⟩
abbrev s__law_thing : Stmt := topS 25
abbrev N__law_thing : List Str := ["tape", "some"]
theorem sc__law_thing : FnScope N__law_thing ["tape"] (defScope s__law_thing) := ⟨rfl, rfl, rfl, by decide +kernel, rfl, by decide +kernel, by decide +kernel⟩
abbrev s__law_bent : Stmt := topS 26
abbrev N__law_bent : List Str := ["tape", "thing", "at", "way"]
theorem sc__law_bent : FnScope N__law_bent ["tape", "thing"] (defScope s__law_bent) := ⟨rfl, rfl, rfl, by decide +kernel, rfl, by decide +kernel, by decide +kernel⟩
abbrev s_law : Stmt := topS 28
abbrev N_law : List Str := ["script", "start", "tape", "width", "some", "turn", "plain", "deeper", "thing", "bent"]
theorem sc_law : FnScope N_law ["script"] (defScope s_law) := ⟨rfl, rfl, rfl, by decide +kernel, rfl, by decide +kernel, by decide +kernel⟩
/-- what the top has left -/
structure Txt (K : PySem.W.Frag) (mg : Str → Option Value) where
  a__law_tape : Addr
  f__law_tape : FuncData
  F__law_tape : Fun K "_law_tape" "_law_tape" s__law_tape a__law_tape f__law_tape
  b__law_tape : Binds K f__law_tape ["script", "start"] []
  g__law_tape : mg "_law_tape" = some (.ref a__law_tape)
  a__law_pick : Addr
  f__law_pick : FuncData
  F__law_pick : Fun K "_law_pick" "_law_pick" s__law_pick a__law_pick f__law_pick
  b__law_pick : Binds K f__law_pick ["tape", "size"] []
  g__law_pick : mg "_law_pick" = some (.ref a__law_pick)
  a__law_one_of : Addr
  f__law_one_of : FuncData
  F__law_one_of : Fun K "_law_one_of" "_law_one_of" s__law_one_of a__law_one_of f__law_one_of
  b__law_one_of : Binds K f__law_one_of ["tape", "items"] []
  g__law_one_of : mg "_law_one_of" = some (.ref a__law_one_of)
  a__law_value : Addr
  f__law_value : FuncData
  F__law_value : Fun K "_law_value" "_law_value" s__law_value a__law_value f__law_value
  b__law_value : Binds K f__law_value ["tape"] []
  g__law_value : mg "_law_value" = some (.ref a__law_value)
  a__law_test : Addr
  f__law_test : FuncData
  F__law_test : Fun K "_law_test" "_law_test" s__law_test a__law_test f__law_test
  b__law_test : Binds K f__law_test ["tape", "width"] []
  g__law_test : mg "_law_test" = some (.ref a__law_test)
  a__law_condition : Addr
  f__law_condition : FuncData
  F__law_condition : Fun K "_law_condition" "_law_condition" s__law_condition a__law_condition f__law_condition
  b__law_condition : Binds K f__law_condition ["tape", "width", "depth"] []
  g__law_condition : mg "_law_condition" = some (.ref a__law_condition)
  a_is_integer : Addr
  f_is_integer : FuncData
  F_is_integer : Fun K "is_integer" "is_integer" s_is_integer a_is_integer f_is_integer
  b_is_integer : Binds K f_is_integer ["value"] []
  g_is_integer : mg "is_integer" = some (.ref a_is_integer)
  a_is_string : Addr
  f_is_string : FuncData
  F_is_string : Fun K "is_string" "is_string" s_is_string a_is_string f_is_string
  b_is_string : Binds K f_is_string ["value"] []
  g_is_string : mg "is_string" = some (.ref a_is_string)
  a_is_value : Addr
  f_is_value : FuncData
  F_is_value : Fun K "is_value" "is_value" s_is_value a_is_value f_is_value
  b_is_value : Binds K f_is_value ["value"] []
  g_is_value : mg "is_value" = some (.ref a_is_value)
  a_is_choice : Addr
  f_is_choice : FuncData
  F_is_choice : Fun K "is_choice" "is_choice" s_is_choice a_is_choice f_is_choice
  b_is_choice : Binds K f_is_choice ["value"] []
  g_is_choice : mg "is_choice" = some (.ref a_is_choice)
  a_is_operand : Addr
  f_is_operand : FuncData
  F_is_operand : Fun K "is_operand" "is_operand" s_is_operand a_is_operand f_is_operand
  b_is_operand : Binds K f_is_operand ["kind", "value"] []
  g_is_operand : mg "is_operand" = some (.ref a_is_operand)
  a_is_column : Addr
  f_is_column : FuncData
  F_is_column : Fun K "is_column" "is_column" s_is_column a_is_column f_is_column
  b_is_column : Binds K f_is_column ["value", "width"] []
  g_is_column : mg "is_column" = some (.ref a_is_column)
  a_is_condition_within : Addr
  f_is_condition_within : FuncData
  F_is_condition_within : Fun K "is_condition_within" "is_condition_within" s_is_condition_within a_is_condition_within f_is_condition_within
  b_is_condition_within : Binds K f_is_condition_within ["value", "width", "depth"] []
  g_is_condition_within : mg "is_condition_within" = some (.ref a_is_condition_within)
  a_is_condition : Addr
  f_is_condition : FuncData
  F_is_condition : Fun K "is_condition" "is_condition" s_is_condition a_is_condition f_is_condition
  b_is_condition : Binds K f_is_condition ["value", "width"] []
  g_is_condition : mg "is_condition" = some (.ref a_is_condition)
  a__law_integer : Addr
  f__law_integer : FuncData
  F__law_integer : Fun K "_law_integer" "_law_integer" s__law_integer a__law_integer f__law_integer
  b__law_integer : Binds K f__law_integer ["thing", "least", "most"] []
  g__law_integer : mg "_law_integer" = some (.ref a__law_integer)
  a__law_value_due : Addr
  f__law_value_due : FuncData
  F__law_value_due : Fun K "_law_value_due" "_law_value_due" s__law_value_due a__law_value_due f__law_value_due
  b__law_value_due : Binds K f__law_value_due ["thing"] []
  g__law_value_due : mg "_law_value_due" = some (.ref a__law_value_due)
  a__law_due : Addr
  f__law_due : FuncData
  F__law_due : Fun K "_law_due" "_law_due" s__law_due a__law_due f__law_due
  b__law_due : Binds K f__law_due ["thing", "width", "depth"] []
  g__law_due : mg "_law_due" = some (.ref a__law_due)
  a__law_right : Addr
  f__law_right : FuncData
  F__law_right : Fun K "_law_right" "_law_right" s__law_right a__law_right f__law_right
  b__law_right : Binds K f__law_right ["thing", "width"] []
  g__law_right : mg "_law_right" = some (.ref a__law_right)
  a__law_thing : Addr
  f__law_thing : FuncData
  F__law_thing : Fun K "_law_thing" "_law_thing" s__law_thing a__law_thing f__law_thing
  b__law_thing : Binds K f__law_thing ["tape"] []
  g__law_thing : mg "_law_thing" = some (.ref a__law_thing)
  a__law_bent : Addr
  f__law_bent : FuncData
  F__law_bent : Fun K "_law_bent" "_law_bent" s__law_bent a__law_bent f__law_bent
  b__law_bent : Binds K f__law_bent ["tape", "thing"] []
  g__law_bent : mg "_law_bent" = some (.ref a__law_bent)
  a_law : Addr
  f_law : FuncData
  F_law : Fun K "law" "law" s_law a_law f_law
  b_law : Binds K f_law ["script"] []
  g_law : mg "law" = some (.ref a_law)
  n_all : mg "all" = none
  n_bool : mg "bool" = none
  n_int : mg "int" = none
  n_isinstance : mg "isinstance" = none
  n_len : mg "len" = none
  n_list : mg "list" = none
  n_max : mg "max" = none
  n_min : mg "min" = none
  n_range : mg "range" = none
  n_repr : mg "repr" = none
  n_str : mg "str" = none
  n_tuple : mg "tuple" = none
  t_GREATEST_DEPTH : Tok
  c_GREATEST_DEPTH : mg "GREATEST_DEPTH" = some (.int 8 t_GREATEST_DEPTH)
  t_GREATEST_INTEGER : Tok
  c_GREATEST_INTEGER : mg "GREATEST_INTEGER" = some (.int 1000000000 t_GREATEST_INTEGER)
  t_LONGEST_STRING : Tok
  c_LONGEST_STRING : mg "LONGEST_STRING" = some (.int 20 t_LONGEST_STRING)
  t_MOST_CHOICES : Tok
  c_MOST_CHOICES : mg "MOST_CHOICES" = some (.int 8 t_MOST_CHOICES)
variable {P : Program} {w : World} {K : PySem.W.Frag} {mg : Str → Option Value} {base : Heap}
def g__law_tape : FS := (sSeq (sAsg (fOp opAdd (fC (.int 97)) (fOp opMul (fVar 1) (fC (.int 31)))) (gN 2)) (sSeq (sFor (iOf asScr (fVar 0)) (gN 3) (sAsg (fOp opAdd (fOp modI (fOp powI (fOp opAdd (fOp opAdd (fOp opMul (fVar 2) (fC (.int 30011))) (fOp opMul (fVar 3) (fVar 3))) (fC (.int 7))) (fC (.int 2))) (fC (.int 2147483563))) (fC (.int 2))) (gN 2))) (sSeq (sAsg (fIfE (fAndT (fTest (fOp opLt (fVar 1) (fMk bLen (aCons (fVar 0) aNil)))) (fTest (fOp opGe (fSub (fVar 0) (fVar 1)) (fOp powI (fC (.int 10)) (fC (.int 18)))))) (fOp subI (fSub (fVar 0) (fVar 1)) (fOp powI (fC (.int 10)) (fC (.int 18)))) (fC (.int 0))) (gN 4)) (sRet (fDict (((fC (.str (Str.ofString "digits"))), (fVar 4)) :: (((fC (.str (Str.ofString "mixed"))), (fVar 2)) :: [])))))))
def m__law_tape : FM := mOf N__law_tape.length g__law_tape
theorem d__law_tape (T : Txt K mg) : FnD P w K mg base 1 T.a__law_tape T.f__law_tape ["script", "start"] m__law_tape := FnD.of T.F__law_tape sc__law_tape fun cd A outer s H gx => (ds_cons (ds_asg (de_op ok_add de_int (de_op ok_mul (de_var 1) de_int)) (dg_name 2 gx.nd)) (ds_cons (ds_for PassesOwn.never gx.calm (di_scr (de_var 0)) (dg_name 3 gx.nd) (ds_one (ds_asg (de_op ok_add (de_op ok_modI (de_op ok_powI (de_op ok_add (de_op ok_add (de_op ok_mul (de_var 2) de_int) (de_op ok_mul (de_var 3) (de_var 3))) de_int) de_int) de_int) de_int) (dg_name 2 gx.nd)))) (ds_cons (ds_asg (de_if (dt_w (dw_and (dt_cmp ok_lt (de_var 1) (de_callB (id := "len") ok_len (by rfl) T.n_len (by decide +kernel) (da_cons (de_var 0) da_nil))) (dw_and1 (dt_cmp ok_ge (de_sub gx (de_var 0) (de_var 1)) (de_op ok_powI de_int de_int))))) (de_op ok_subI (de_sub gx (de_var 0) (de_var 1)) (de_op ok_powI de_int de_int)) de_int) (dg_name 4 gx.nd)) (ds_one (ds_ret (de_dict (.cons de_str (de_var 4) (.cons de_str (de_var 2) .nil))))))))
def g__law_pick : FS := (sSeq (sIf (fTest (fOp opGe (fSub (fVar 0) (fC (.str (Str.ofString "digits")))) (fVar 1))) (sSeq (sAsg (fOp modI (fSub (fVar 0) (fC (.str (Str.ofString "digits")))) (fVar 1)) (gN 2)) (sSeq (sPut (fVar 0) (fC (.str (Str.ofString "digits"))) (fOp fdivI (fSub (fVar 0) (fC (.str (Str.ofString "digits")))) (fVar 1))) (sRet (fVar 2)))) sNil) (sSeq (sPut (fVar 0) (fC (.str (Str.ofString "mixed"))) (fOp modI (fOp opAdd (fOp opMul (fSub (fVar 0) (fC (.str (Str.ofString "mixed")))) (fC (.int 40014))) (fC (.int 1013))) (fC (.int 2147483563)))) (sRet (fOp modI (fOp fdivI (fOp modI (fOp powI (fOp modI (fOp powI (fSub (fVar 0) (fC (.str (Str.ofString "mixed")))) (fC (.int 2))) (fC (.int 2147483399))) (fC (.int 3))) (fC (.int 998244353))) (fC (.int 5))) (fVar 1)))))
def m__law_pick : FM := mOf N__law_pick.length g__law_pick
theorem d__law_pick (T : Txt K mg) : FnD P w K mg base 1 T.a__law_pick T.f__law_pick ["tape", "size"] m__law_pick := FnD.of T.F__law_pick sc__law_pick fun cd A outer s H gx => (ds_cons (ds_if (dt_cmp ok_ge (de_sub gx (de_var 0) de_str) (de_var 1)) (ds_cons (ds_asg (de_op ok_modI (de_sub gx (de_var 0) de_str) (de_var 1)) (dg_name 2 gx.nd)) (ds_cons (ds_put gx (de_var 0) de_str (de_op ok_fdivI (de_sub gx (de_var 0) de_str) (de_var 1))) (ds_one (ds_ret (de_var 2))))) ds_nil) (ds_cons (ds_put gx (de_var 0) de_str (de_op ok_modI (de_op ok_add (de_op ok_mul (de_sub gx (de_var 0) de_str) de_int) de_int) de_int)) (ds_one (ds_ret (de_op ok_modI (de_op ok_fdivI (de_op ok_modI (de_op ok_powI (de_op ok_modI (de_op ok_powI (de_sub gx (de_var 0) de_str) de_int) de_int) de_int) de_int) de_int) (de_var 1))))))
def g__law_one_of : FS := (sRet (fSub (fVar 1) (fCall m__law_pick (aCons (fVar 0) (aCons (fMk bLen (aCons (fVar 1) aNil)) aNil)))))
def m__law_one_of : FM := mOf N__law_one_of.length g__law_one_of
theorem d__law_one_of (T : Txt K mg) : FnD P w K mg base 2 T.a__law_one_of T.f__law_one_of ["tape", "items"] m__law_one_of := FnD.of T.F__law_one_of sc__law_one_of fun cd A outer s H gx => (ds_one (ds_ret (de_sub gx (de_var 1) (de_call ((d__law_pick T).up (by decide)) gx (by rfl) T.g__law_pick T.F__law_pick.kp T.b__law_pick (da_cons (de_var 0) (da_cons (de_callB (id := "len") ok_len (by rfl) T.n_len (by decide +kernel) (da_cons (de_var 1) da_nil)) da_nil)) (hn := (aCons_n (aCons_n aNil_n)))))))
def g__law_value : FS := (sSeq (sIf (fTest (fOp opEq (fCall m__law_pick (aCons (fVar 0) (aCons (fC (.int 24)) aNil))) (fC (.int 0)))) (sSeq (sAsg (fC (.str (Str.ofString " !#$&'()*+,-./0123456789:;<=>?@ABCDEFGHIJKLMNOPQRSTUVWXYZ[]^_{|}~"))) (gN 1)) (sSeq (sAsg (fMk bList (aCons (fOp opAdd (fVar 1) (fC (.str (Str.ofString "abcdefghijklmnopqrstuvwxyz")))) aNil)) (gN 1)) (sRet (fMt joinD (fC (.str (Str.ofString ""))) (aCons (fComp (iOfA asR1 (aCons (fOp opAdd (fC (.int 1)) (fCall m__law_pick (aCons (fVar 0) (aCons (fC (.int 20)) aNil)))) aNil)) [3] b1 tTrue (fCall m__law_one_of (aCons (fVar 0) (aCons (fVar 1) aNil)))) aNil))))) sNil) (sSeq (sAsg (fMk mkLst (aCons (fC .non) (aCons (fC (.int 0)) (aCons (fC (.int 1)) (aCons (fC (.int 2)) (aCons (fOp subI (fC (.int 0)) (fC (.int 1))) (aCons (fC (.int 1)) (aCons (fC (.int 2)) (aCons (fOp powI (fC (.int 10)) (fC (.int 9))) (aCons (fOp subI (fC (.int 0)) (fOp powI (fC (.int 10)) (fC (.int 9)))) (aCons (fC (.str (Str.ofString ""))) (aCons (fC (.str (Str.ofString "a"))) (aCons (fC (.str (Str.ofString "ab"))) (aCons (fC (.str (Str.ofString "b"))) (aCons (fC (.str (Str.ofString "a b"))) (aCons (fC (.str (Str.ofString "A"))) (aCons (fC (.str (Str.ofString "~"))) (aCons (fOp opMul (fC (.str (Str.ofString "z"))) (fC (.int 20))) aNil)))))))))))))))))) (gN 2)) (sSeq (sAsg (fOp opAdd (fVar 2) (fMk mkLst (aCons (fOp opMul (fC (.str (Str.ofString "z"))) (fC (.int 19))) (aCons (fC (.str (Str.ofString "customer one"))) (aCons (fC (.str (Str.ofString "customer two"))) (aCons (fC (.str (Str.ofString "1"))) (aCons (fC (.str (Str.ofString "-1"))) (aCons (fC (.int 2)) (aCons (fC (.str (Str.ofString "abc"))) (aCons (fC (.str (Str.ofString "abd"))) aNil)))))))))) (gN 2)) (sRet (fCall m__law_one_of (aCons (fVar 0) (aCons (fVar 2) aNil)))))))
def m__law_value : FM := mOf N__law_value.length g__law_value
theorem d__law_value (T : Txt K mg) : FnD P w K mg base 3 T.a__law_value T.f__law_value ["tape"] m__law_value := FnD.of T.F__law_value sc__law_value fun cd A outer s H gx => (ds_cons (ds_if (dt_cmp (ok_eq gx) (de_call ((d__law_pick T).up (by decide)) gx (by rfl) T.g__law_pick T.F__law_pick.kp T.b__law_pick (da_cons (de_var 0) (da_cons de_int da_nil)) (hn := (aCons_n (aCons_n aNil_n)))) de_int) (ds_cons (ds_asg de_str (dg_name 1 gx.nd)) (ds_cons (ds_asg (de_callTy (T := "list") (ok_list gx) (by rfl) T.n_list (by decide +kernel) (da_cons (de_op ok_add (de_var 1) de_str) da_nil)) (dg_name 1 gx.nd)) (ds_one (ds_ret (de_mt mt_join joinTy joinOk PySem.F.plainAttrs_str PySem.F.slot_str_join PySem.F.type_str_join de_str (da_cons (de_lc (own := [("turn", 3)]) (bd := b1) gx.calm gx.nd (di_range1 (by rfl) T.n_range (da_cons (de_op ok_add de_int (de_call ((d__law_pick T).up (by decide)) gx (by rfl) T.g__law_pick T.F__law_pick.kp T.b__law_pick (da_cons (de_var 0) (da_cons de_int da_nil)) (hn := (aCons_n (aCons_n aNil_n))))) da_nil)) (blkOk_by (N := N__law_value) (sc := defScope s__law_value) (by decide +kernel)) (tg1 3) (fun _ _ _ _ _ => (pg_name (i := 3) gx.nd rfl (.inl rfl))) (fun _ _ _ _ _ => dts_nil) (fun _ _ _ _ _ => (de_call ((d__law_one_of T).up (by decide)) gx.blk (by rfl) T.g__law_one_of T.F__law_one_of.kp T.b__law_one_of (da_cons (de_var 0) (da_cons (de_var 1) da_nil)) (hn := (aCons_n (aCons_n aNil_n)))))) da_nil)))))) ds_nil) (ds_cons (ds_asg (de_lst (da_cons de_non (da_cons de_int (da_cons de_int (da_cons de_int (da_cons (de_op ok_subI de_int de_int) (da_cons de_int (da_cons de_int (da_cons (de_op ok_powI de_int de_int) (da_cons (de_op ok_subI de_int (de_op ok_powI de_int de_int)) (da_cons de_str (da_cons de_str (da_cons de_str (da_cons de_str (da_cons de_str (da_cons de_str (da_cons de_str (da_cons (de_op ok_mul de_str de_int) da_nil)))))))))))))))))) (dg_name 2 gx.nd)) (ds_cons (ds_asg (de_op ok_add (de_var 2) (de_lst (da_cons (de_op ok_mul de_str de_int) (da_cons de_str (da_cons de_str (da_cons de_str (da_cons de_str (da_cons de_int (da_cons de_str (da_cons de_str da_nil)))))))))) (dg_name 2 gx.nd)) (ds_one (ds_ret (de_call ((d__law_one_of T).up (by decide)) gx (by rfl) T.g__law_one_of T.F__law_one_of.kp T.b__law_one_of (da_cons (de_var 0) (da_cons (de_var 2) da_nil)) (hn := (aCons_n (aCons_n aNil_n)))))))))
def g__law_test : FS := (sSeq (sPar (par2 2 3) (aCons (fCall m__law_pick (aCons (fVar 0) (aCons (fVar 1) aNil))) (aCons (fCall m__law_pick (aCons (fVar 0) (aCons (fC (.int 6)) aNil))) aNil))) (sSeq (sIf (fTest (fOp opEq (fVar 3) (fC (.int 0)))) (sRet (fMk mkTup (aCons (fC (.str (Str.ofString "all"))) aNil))) sNil) (sSeq (sIf (fTest (fOp opEq (fVar 3) (fC (.int 1)))) (sRet (fMk mkTup (aCons (fC (.str (Str.ofString "equal"))) (aCons (fVar 2) (aCons (fCall m__law_value (aCons (fVar 0) aNil)) aNil))))) sNil) (sSeq (sIf (fTest (fOp opLt (fVar 3) (fC (.int 4)))) (sRet (fMk mkTup (aCons (fC (.str (Str.ofString "less"))) (aCons (fVar 2) (aCons (fCall m__law_value (aCons (fVar 0) aNil)) aNil))))) sNil) (sSeq (sIf (fTest (fOp opEq (fVar 3) (fC (.int 4)))) (sRet (fMk mkTup (aCons (fC (.str (Str.ofString "starts"))) (aCons (fVar 2) (aCons (fCall m__law_one_of (aCons (fVar 0) (aCons (fMk mkLst (aCons (fC (.str (Str.ofString "a"))) (aCons (fC (.str (Str.ofString "ab"))) (aCons (fC (.str (Str.ofString "b"))) (aCons (fC (.str (Str.ofString "A"))) (aCons (fC (.str (Str.ofString " "))) (aCons (fC (.str (Str.ofString "1"))) (aCons (fC (.str (Str.ofString "-"))) (aCons (fC (.str (Str.ofString "N"))) (aCons (fC (.str (Str.ofString "customer"))) (aCons (fC (.str (Str.ofString "abc"))) aNil))))))))))) aNil))) aNil))))) sNil) (sSeq (sAsg (fOp opAdd (fC (.int 1)) (fCall m__law_one_of (aCons (fVar 0) (aCons (fMk mkLst (aCons (fCall m__law_pick (aCons (fVar 0) (aCons (fC (.int 4)) aNil))) (aCons (fOp opAdd (fC (.int 4)) (fCall m__law_pick (aCons (fVar 0) (aCons (fC (.int 4)) aNil)))) aNil))) aNil)))) (gN 4)) (sRet (fMk mkTup (aCons (fC (.str (Str.ofString "one_of"))) (aCons (fVar 2) (aCons (fMk bTuple (aCons (fComp (iOfA asR1 (aCons (fVar 4) aNil)) [5] b1 tTrue (fCall m__law_value (aCons (fVar 0) aNil))) aNil)) aNil)))))))))))
def m__law_test : FM := mOf N__law_test.length g__law_test
theorem d__law_test (T : Txt K mg) : FnD P w K mg base 4 T.a__law_test T.f__law_test ["tape", "width"] m__law_test := FnD.of T.F__law_test sc__law_test fun cd A outer s H gx => (ds_cons (ds_par2 2 3 gx rfl rfl (by decide) rfl rfl (da_cons (de_call ((d__law_pick T).up (by decide)) gx (by rfl) T.g__law_pick T.F__law_pick.kp T.b__law_pick (da_cons (de_var 0) (da_cons (de_var 1) da_nil)) (hn := (aCons_n (aCons_n aNil_n)))) (da_cons (de_call ((d__law_pick T).up (by decide)) gx (by rfl) T.g__law_pick T.F__law_pick.kp T.b__law_pick (da_cons (de_var 0) (da_cons de_int da_nil)) (hn := (aCons_n (aCons_n aNil_n)))) da_nil))) (ds_cons (ds_if (dt_cmp (ok_eq gx) (de_var 3) de_int) (ds_one (ds_ret (de_tup (da_cons de_str da_nil)))) ds_nil) (ds_cons (ds_if (dt_cmp (ok_eq gx) (de_var 3) de_int) (ds_one (ds_ret (de_tup (da_cons de_str (da_cons (de_var 2) (da_cons (de_call ((d__law_value T).up (by decide)) gx (by rfl) T.g__law_value T.F__law_value.kp T.b__law_value (da_cons (de_var 0) da_nil) (hn := (aCons_n aNil_n))) da_nil)))))) ds_nil) (ds_cons (ds_if (dt_cmp ok_lt (de_var 3) de_int) (ds_one (ds_ret (de_tup (da_cons de_str (da_cons (de_var 2) (da_cons (de_call ((d__law_value T).up (by decide)) gx (by rfl) T.g__law_value T.F__law_value.kp T.b__law_value (da_cons (de_var 0) da_nil) (hn := (aCons_n aNil_n))) da_nil)))))) ds_nil) (ds_cons (ds_if (dt_cmp (ok_eq gx) (de_var 3) de_int) (ds_one (ds_ret (de_tup (da_cons de_str (da_cons (de_var 2) (da_cons (de_call ((d__law_one_of T).up (by decide)) gx (by rfl) T.g__law_one_of T.F__law_one_of.kp T.b__law_one_of (da_cons (de_var 0) (da_cons (de_lst (da_cons de_str (da_cons de_str (da_cons de_str (da_cons de_str (da_cons de_str (da_cons de_str (da_cons de_str (da_cons de_str (da_cons de_str (da_cons de_str da_nil))))))))))) da_nil)) (hn := (aCons_n (aCons_n aNil_n)))) da_nil)))))) ds_nil) (ds_cons (ds_asg (de_op ok_add de_int (de_call ((d__law_one_of T).up (by decide)) gx (by rfl) T.g__law_one_of T.F__law_one_of.kp T.b__law_one_of (da_cons (de_var 0) (da_cons (de_lst (da_cons (de_call ((d__law_pick T).up (by decide)) gx (by rfl) T.g__law_pick T.F__law_pick.kp T.b__law_pick (da_cons (de_var 0) (da_cons de_int da_nil)) (hn := (aCons_n (aCons_n aNil_n)))) (da_cons (de_op ok_add de_int (de_call ((d__law_pick T).up (by decide)) gx (by rfl) T.g__law_pick T.F__law_pick.kp T.b__law_pick (da_cons (de_var 0) (da_cons de_int da_nil)) (hn := (aCons_n (aCons_n aNil_n))))) da_nil))) da_nil)) (hn := (aCons_n (aCons_n aNil_n))))) (dg_name 4 gx.nd)) (ds_one (ds_ret (de_tup (da_cons de_str (da_cons (de_var 2) (da_cons (de_callTy (T := "tuple") ok_tuple (by rfl) T.n_tuple (by decide +kernel) (da_cons (de_lc (own := [("turn", 5)]) (bd := b1) gx.calm gx.nd (di_range1 (by rfl) T.n_range (da_cons (de_var 4) da_nil)) (blkOk_by (N := N__law_test) (sc := defScope s__law_test) (by decide +kernel)) (tg1 5) (fun _ _ _ _ _ => (pg_name (i := 5) gx.nd rfl (.inl rfl))) (fun _ _ _ _ _ => dts_nil) (fun _ _ _ _ _ => (de_call ((d__law_value T).up (by decide)) gx.blk (by rfl) T.g__law_value T.F__law_value.kp T.b__law_value (da_cons (de_var 0) da_nil) (hn := (aCons_n aNil_n))))) da_nil)) da_nil))))))))))))
def g__law_condition (rec_ : FM) : FS := (sSeq (sAsg (fCall m__law_pick (aCons (fVar 0) (aCons (fC (.int 6)) aNil))) (gN 3)) (sSeq (sIf (fOrT (fTest (fOp opEq (fVar 2) (fC (.int 0)))) (fTest (fOp opLt (fVar 3) (fC (.int 2))))) (sRet (fCall m__law_test (aCons (fVar 0) (aCons (fVar 1) aNil)))) sNil) (sSeq (sIf (fTest (fOp opEq (fVar 3) (fC (.int 2)))) (sRet (fMk mkTup (aCons (fC (.str (Str.ofString "not"))) (aCons (fCall rec_ (aCons (fVar 0) (aCons (fVar 1) (aCons (fOp subI (fVar 2) (fC (.int 1))) aNil)))) aNil)))) sNil) (sSeq (sAsg (fMk mkTup (aCons (fCall rec_ (aCons (fVar 0) (aCons (fVar 1) (aCons (fOp subI (fVar 2) (fC (.int 1))) aNil)))) (aCons (fCall rec_ (aCons (fVar 0) (aCons (fVar 1) (aCons (fOp subI (fVar 2) (fC (.int 1))) aNil)))) aNil))) (gN 4)) (sRet (fOp opAdd (fMk mkTup (aCons (fCall m__law_one_of (aCons (fVar 0) (aCons (fMk mkLst (aCons (fC (.str (Str.ofString "and"))) (aCons (fC (.str (Str.ofString "or"))) aNil))) aNil))) aNil)) (fVar 4)))))))
def m__law_condition : Nat → FM
  | 0 => fun _ _ => none
  | n + 1 => mOf N__law_condition.length (g__law_condition (m__law_condition n))
theorem d__law_condition (T : Txt K mg) : ∀ n : Nat, FnD P w K mg base (4 + n) T.a__law_condition T.f__law_condition ["tape", "width", "depth"] (m__law_condition n)
  | 0 => FnD.nil
  | n + 1 => by
    have ih : FnD P w K mg base (4 + n) T.a__law_condition T.f__law_condition ["tape", "width", "depth"] (m__law_condition n) := d__law_condition T n
    exact FnD.of (k := 4 + n) T.F__law_condition sc__law_condition fun cd A outer s H gx => (ds_cons (ds_asg (de_call ((d__law_pick T).up (by omega)) gx (by rfl) T.g__law_pick T.F__law_pick.kp T.b__law_pick (da_cons (de_var 0) (da_cons de_int da_nil)) (hn := (aCons_n (aCons_n aNil_n)))) (dg_name 3 gx.nd)) (ds_cons (ds_if (dt_w (dw_or (dt_cmp (ok_eq gx) (de_var 2) de_int) (dw_or1 (dt_cmp ok_lt (de_var 3) de_int)))) (ds_one (ds_ret (de_call ((d__law_test T).up (by omega)) gx (by rfl) T.g__law_test T.F__law_test.kp T.b__law_test (da_cons (de_var 0) (da_cons (de_var 1) da_nil)) (hn := (aCons_n (aCons_n aNil_n)))))) ds_nil) (ds_cons (ds_if (dt_cmp (ok_eq gx) (de_var 3) de_int) (ds_one (ds_ret (de_tup (da_cons de_str (da_cons (de_call ih gx (by rfl) T.g__law_condition T.F__law_condition.kp T.b__law_condition (da_cons (de_var 0) (da_cons (de_var 1) (da_cons (de_op ok_subI (de_var 2) de_int) da_nil))) (hn := (aCons_n (aCons_n (aCons_n aNil_n))))) da_nil))))) ds_nil) (ds_cons (ds_asg (de_tup (da_cons (de_call ih gx (by rfl) T.g__law_condition T.F__law_condition.kp T.b__law_condition (da_cons (de_var 0) (da_cons (de_var 1) (da_cons (de_op ok_subI (de_var 2) de_int) da_nil))) (hn := (aCons_n (aCons_n (aCons_n aNil_n))))) (da_cons (de_call ih gx (by rfl) T.g__law_condition T.F__law_condition.kp T.b__law_condition (da_cons (de_var 0) (da_cons (de_var 1) (da_cons (de_op ok_subI (de_var 2) de_int) da_nil))) (hn := (aCons_n (aCons_n (aCons_n aNil_n))))) da_nil))) (dg_name 4 gx.nd)) (ds_one (ds_ret (de_op ok_add (de_tup (da_cons (de_call ((d__law_one_of T).up (by omega)) gx (by rfl) T.g__law_one_of T.F__law_one_of.kp T.b__law_one_of (da_cons (de_var 0) (da_cons (de_lst (da_cons de_str (da_cons de_str da_nil))) da_nil)) (hn := (aCons_n (aCons_n aNil_n)))) da_nil)) (de_var 4))))))))
def g_is_integer : FS := (sRet (fAnd (fIsi "int" (fVar 0)) (fNot (fIsi "bool" (fVar 0)))))
def m_is_integer : FM := mOf N_is_integer.length g_is_integer
theorem d_is_integer (T : Txt K mg) : FnD P w K mg base 1 T.a_is_integer T.f_is_integer ["value"] m_is_integer := FnD.of T.F_is_integer sc_is_integer fun cd A outer s H gx => (ds_one (ds_ret (de_and (de_isi (T := "int") (de_var 0) (by decide) (by rfl) T.n_isinstance (by rfl) T.n_int (by decide +kernel)) (de_one (de_not (de_isi (T := "bool") (de_var 0) (by decide) (by rfl) T.n_isinstance (by rfl) T.n_bool (by decide +kernel)))))))
def g_is_string : FS := (sSeq (sIf (fOrT (fNotT (fTest (fIsi "str" (fVar 0)))) (fTest (fOp opGt (fMk bLen (aCons (fVar 0) aNil)) (fC (.int 20))))) (sRet (fC (.bl false))) sNil) (sRet (fMk bAll (aCons (fComp (iOf asStr (fVar 0)) [1] b1 tTrue (fChain opLe opLe (fC (.str (Str.ofString " "))) (fVar 1) (fC (.str (Str.ofString "~"))))) aNil))))
def m_is_string : FM := mOf N_is_string.length g_is_string
theorem d_is_string (T : Txt K mg) : FnD P w K mg base 1 T.a_is_string T.f_is_string ["value"] m_is_string := FnD.of T.F_is_string sc_is_string fun cd A outer s H gx => (ds_cons (ds_if (dt_w (dw_or (dt_not (dt_val (de_isi (T := "str") (de_var 0) (by decide) (by rfl) T.n_isinstance (by rfl) T.n_str (by decide +kernel)))) (dw_or1 (dt_cmp ok_gt (de_callB (id := "len") ok_len (by rfl) T.n_len (by decide +kernel) (da_cons (de_var 0) da_nil)) (de_gint (by rfl) T.c_LONGEST_STRING))))) (ds_one (ds_ret de_bl)) ds_nil) (ds_one (ds_ret (de_callB (id := "all") (ok_all gx) (by rfl) T.n_all (by decide +kernel) (da_cons (de_lc (own := [("sign", 1)]) (bd := b1) gx.calm gx.nd (di_str (de_var 0)) (blkOk_by (N := N_is_string) (sc := defScope s_is_string) (by decide +kernel)) (tg1 1) (fun _ _ _ _ _ => (pg_name (i := 1) gx.nd rfl (.inl rfl))) (fun _ _ _ _ _ => dts_nil) (fun _ _ _ _ _ => (de_chain ok_le ok_le de_str (de_var 1) de_str))) da_nil)))))
def g_is_value : FS := (sSeq (sIf (fTest (fCall m_is_integer (aCons (fVar 0) aNil))) (sRet (fChain opLe opLe (fUn negI (fC (.int 1000000000))) (fVar 0) (fC (.int 1000000000)))) sNil) (sRet (fOr (fOp opIs (fVar 0) (fC .non)) (fCall m_is_string (aCons (fVar 0) aNil)))))
def m_is_value : FM := mOf N_is_value.length g_is_value
theorem d_is_value (T : Txt K mg) : FnD P w K mg base 2 T.a_is_value T.f_is_value ["value"] m_is_value := FnD.of T.F_is_value sc_is_value fun cd A outer s H gx => (ds_cons (ds_if (dt_val (de_call ((d_is_integer T).up (by decide)) gx (by rfl) T.g_is_integer T.F_is_integer.kp T.b_is_integer (da_cons (de_var 0) da_nil) (hn := (aCons_n aNil_n)))) (ds_one (ds_ret (de_chain ok_le ok_le (de_neg (de_gint (by rfl) T.c_GREATEST_INTEGER)) (de_var 0) (de_gint (by rfl) T.c_GREATEST_INTEGER)))) ds_nil) (ds_one (ds_ret (de_or (de_cmp ok_is (de_var 0) de_non) (de_one (de_call ((d_is_string T).up (by decide)) gx (by rfl) T.g_is_string T.F_is_string.kp T.b_is_string (da_cons (de_var 0) da_nil) (hn := (aCons_n aNil_n))))))))
def g_is_choice : FS := (sSeq (sIf (fOrT (fNotT (fTest (fIsi "tuple" (fVar 0)))) (fNotT (fTest (fChain opLe opLe (fC (.int 1)) (fMk bLen (aCons (fVar 0) aNil)) (fC (.int 8)))))) (sRet (fC (.bl false))) sNil) (sRet (fMk bAll (aCons (fComp (iOf asT (fVar 0)) [1] b1 tTrue (fCall m_is_value (aCons (fVar 1) aNil))) aNil))))
def m_is_choice : FM := mOf N_is_choice.length g_is_choice
theorem d_is_choice (T : Txt K mg) : FnD P w K mg base 3 T.a_is_choice T.f_is_choice ["value"] m_is_choice := FnD.of T.F_is_choice sc_is_choice fun cd A outer s H gx => (ds_cons (ds_if (dt_w (dw_or (dt_not (dt_val (de_isi (T := "tuple") (de_var 0) (by decide) (by rfl) T.n_isinstance (by rfl) T.n_tuple (by decide +kernel)))) (dw_or1 (dt_not (dt_chain ok_le ok_le de_int (de_callB (id := "len") ok_len (by rfl) T.n_len (by decide +kernel) (da_cons (de_var 0) da_nil)) (de_gint (by rfl) T.c_MOST_CHOICES)))))) (ds_one (ds_ret de_bl)) ds_nil) (ds_one (ds_ret (de_callB (id := "all") (ok_all gx) (by rfl) T.n_all (by decide +kernel) (da_cons (de_lc (own := [("item", 1)]) (bd := b1) gx.calm gx.nd (di_tup (de_var 0)) (blkOk_by (N := N_is_choice) (sc := defScope s_is_choice) (by decide +kernel)) (tg1 1) (fun _ _ _ _ _ => (pg_name (i := 1) gx.nd rfl (.inl rfl))) (fun _ _ _ _ _ => dts_nil) (fun _ _ _ _ _ => (de_call ((d_is_value T).up (by decide)) gx.blk (by rfl) T.g_is_value T.F_is_value.kp T.b_is_value (da_cons (de_var 1) da_nil) (hn := (aCons_n aNil_n))))) da_nil)))))
def g_is_operand : FS := (sSeq (sIf (fTest (fOp opInA (fVar 0) (fMk mkTup (aCons (fC (.str (Str.ofString "equal"))) (aCons (fC (.str (Str.ofString "less"))) aNil))))) (sRet (fCall m_is_value (aCons (fVar 1) aNil))) sNil) (sSeq (sIf (fTest (fOp opEqA (fVar 0) (fC (.str (Str.ofString "starts"))))) (sRet (fAnd (fCall m_is_string (aCons (fVar 1) aNil)) (fOp opNe (fVar 1) (fC (.str (Str.ofString "")))))) sNil) (sRet (fAnd (fOp opEqA (fVar 0) (fC (.str (Str.ofString "one_of")))) (fCall m_is_choice (aCons (fVar 1) aNil))))))
def m_is_operand : FM := mOf N_is_operand.length g_is_operand
theorem d_is_operand (T : Txt K mg) : FnD P w K mg base 4 T.a_is_operand T.f_is_operand ["kind", "value"] m_is_operand := FnD.of T.F_is_operand sc_is_operand fun cd A outer s H gx => (ds_cons (ds_if (dt_cmp (ok_inA gx) (de_var 0) (de_tup (da_cons de_str (da_cons de_str da_nil)))) (ds_one (ds_ret (de_call ((d_is_value T).up (by decide)) gx (by rfl) T.g_is_value T.F_is_value.kp T.b_is_value (da_cons (de_var 1) da_nil) (hn := (aCons_n aNil_n))))) ds_nil) (ds_cons (ds_if (dt_cmp (ok_eqA gx) (de_var 0) de_str) (ds_one (ds_ret (de_and (de_call ((d_is_string T).up (by decide)) gx (by rfl) T.g_is_string T.F_is_string.kp T.b_is_string (da_cons (de_var 1) da_nil) (hn := (aCons_n aNil_n))) (de_one (de_cmp (ok_ne gx) (de_var 1) de_str))))) ds_nil) (ds_one (ds_ret (de_and (de_cmp (ok_eqA gx) (de_var 0) de_str) (de_one (de_call ((d_is_choice T).up (by decide)) gx (by rfl) T.g_is_choice T.F_is_choice.kp T.b_is_choice (da_cons (de_var 1) da_nil) (hn := (aCons_n aNil_n)))))))))
def g_is_column : FS := (sRet (fAnd (fCall m_is_integer (aCons (fVar 0) aNil)) (fChain opLe opLt (fC (.int 0)) (fVar 0) (fVar 1))))
def m_is_column : FM := mOf N_is_column.length g_is_column
theorem d_is_column (T : Txt K mg) : FnD P w K mg base 2 T.a_is_column T.f_is_column ["value", "width"] m_is_column := FnD.of T.F_is_column sc_is_column fun cd A outer s H gx => (ds_one (ds_ret (de_and (de_call ((d_is_integer T).up (by decide)) gx (by rfl) T.g_is_integer T.F_is_integer.kp T.b_is_integer (da_cons (de_var 0) da_nil) (hn := (aCons_n aNil_n))) (de_one (de_chain ok_le ok_lt de_int (de_var 0) (de_var 1))))))
def g_is_condition_within (rec_ : FM) : FS := (sSeq (sIf (fOrT (fTest (fOp opEq (fVar 2) (fC (.int 0)))) (fOrT (fNotT (fTest (fIsi "tuple" (fVar 0)))) (fTest (fOp opEq (fMk bLen (aCons (fVar 0) aNil)) (fC (.int 0)))))) (sRet (fC (.bl false))) sNil) (sSeq (sAsg (fSub (fVar 0) (fC (.int 0))) (gN 3)) (sSeq (sIf (fTest (fOp opEqA (fVar 3) (fC (.str (Str.ofString "all"))))) (sRet (fOp opEq (fMk bLen (aCons (fVar 0) aNil)) (fC (.int 1)))) sNil) (sSeq (sIf (fTest (fOp opEqA (fVar 3) (fC (.str (Str.ofString "not"))))) (sRet (fAnd (fOp opEq (fMk bLen (aCons (fVar 0) aNil)) (fC (.int 2))) (fCall rec_ (aCons (fSub (fVar 0) (fC (.int 1))) (aCons (fVar 1) (aCons (fOp subI (fVar 2) (fC (.int 1))) aNil)))))) sNil) (sSeq (sIf (fTest (fOp opNe (fMk bLen (aCons (fVar 0) aNil)) (fC (.int 3)))) (sRet (fC (.bl false))) sNil) (sSeq (sIf (fTest (fOp opInA (fVar 3) (fMk mkTup (aCons (fC (.str (Str.ofString "and"))) (aCons (fC (.str (Str.ofString "or"))) aNil))))) (sRet (fMk bAll (aCons (fComp (iOf asT (fSlice (fVar 0) (oSome (fC (.int 1))) oNone)) [4] b1 tTrue (fCall rec_ (aCons (fVar 4) (aCons (fVar 1) (aCons (fOp subI (fVar 2) (fC (.int 1))) aNil))))) aNil))) sNil) (sRet (fAnd (fCall m_is_column (aCons (fSub (fVar 0) (fC (.int 1))) (aCons (fVar 1) aNil))) (fCall m_is_operand (aCons (fVar 3) (aCons (fSub (fVar 0) (fC (.int 2))) aNil)))))))))))
def m_is_condition_within : Nat → FM
  | 0 => fun _ _ => none
  | n + 1 => mOf N_is_condition_within.length (g_is_condition_within (m_is_condition_within n))
theorem d_is_condition_within (T : Txt K mg) : ∀ n : Nat, FnD P w K mg base (4 + n) T.a_is_condition_within T.f_is_condition_within ["value", "width", "depth"] (m_is_condition_within n)
  | 0 => FnD.nil
  | n + 1 => by
    have ih : FnD P w K mg base (4 + n) T.a_is_condition_within T.f_is_condition_within ["value", "width", "depth"] (m_is_condition_within n) := d_is_condition_within T n
    exact FnD.of (k := 4 + n) T.F_is_condition_within sc_is_condition_within fun cd A outer s H gx => (ds_cons (ds_if (dt_w (dw_or (dt_cmp (ok_eq gx) (de_var 2) de_int) (dw_or (dt_not (dt_val (de_isi (T := "tuple") (de_var 0) (by decide) (by rfl) T.n_isinstance (by rfl) T.n_tuple (by decide +kernel)))) (dw_or1 (dt_cmp (ok_eq gx) (de_callB (id := "len") ok_len (by rfl) T.n_len (by decide +kernel) (da_cons (de_var 0) da_nil)) de_int))))) (ds_one (ds_ret de_bl)) ds_nil) (ds_cons (ds_asg (de_sub gx (de_var 0) de_int) (dg_name 3 gx.nd)) (ds_cons (ds_if (dt_cmp (ok_eqA gx) (de_var 3) de_str) (ds_one (ds_ret (de_cmp (ok_eq gx) (de_callB (id := "len") ok_len (by rfl) T.n_len (by decide +kernel) (da_cons (de_var 0) da_nil)) de_int))) ds_nil) (ds_cons (ds_if (dt_cmp (ok_eqA gx) (de_var 3) de_str) (ds_one (ds_ret (de_and (de_cmp (ok_eq gx) (de_callB (id := "len") ok_len (by rfl) T.n_len (by decide +kernel) (da_cons (de_var 0) da_nil)) de_int) (de_one (de_call ih gx (by rfl) T.g_is_condition_within T.F_is_condition_within.kp T.b_is_condition_within (da_cons (de_sub gx (de_var 0) de_int) (da_cons (de_var 1) (da_cons (de_op ok_subI (de_var 2) de_int) da_nil))) (hn := (aCons_n (aCons_n (aCons_n aNil_n))))))))) ds_nil) (ds_cons (ds_if (dt_cmp (ok_ne gx) (de_callB (id := "len") ok_len (by rfl) T.n_len (by decide +kernel) (da_cons (de_var 0) da_nil)) de_int) (ds_one (ds_ret de_bl)) ds_nil) (ds_cons (ds_if (dt_cmp (ok_inA gx) (de_var 3) (de_tup (da_cons de_str (da_cons de_str da_nil)))) (ds_one (ds_ret (de_callB (id := "all") (ok_all gx) (by rfl) T.n_all (by decide +kernel) (da_cons (de_lc (own := [("part", 4)]) (bd := b1) gx.calm gx.nd (di_tup (de_slice (de_var 0) (do_some de_int) do_none)) (blkOk_by (N := N_is_condition_within) (sc := defScope s_is_condition_within) (by decide +kernel)) (tg1 4) (fun _ _ _ _ _ => (pg_name (i := 4) gx.nd rfl (.inl rfl))) (fun _ _ _ _ _ => dts_nil) (fun _ _ _ _ _ => (de_call ih gx.blk (by rfl) T.g_is_condition_within T.F_is_condition_within.kp T.b_is_condition_within (da_cons (de_var 4) (da_cons (de_var 1) (da_cons (de_op ok_subI (de_var 2) de_int) da_nil))) (hn := (aCons_n (aCons_n (aCons_n aNil_n))))))) da_nil)))) ds_nil) (ds_one (ds_ret (de_and (de_call ((d_is_column T).up (by omega)) gx (by rfl) T.g_is_column T.F_is_column.kp T.b_is_column (da_cons (de_sub gx (de_var 0) de_int) (da_cons (de_var 1) da_nil)) (hn := (aCons_n (aCons_n aNil_n)))) (de_one (de_call ((d_is_operand T).up (by omega)) gx (by rfl) T.g_is_operand T.F_is_operand.kp T.b_is_operand (da_cons (de_var 3) (da_cons (de_sub gx (de_var 0) de_int) da_nil)) (hn := (aCons_n (aCons_n aNil_n))))))))))))))
def g_is_condition : FS := (sRet (fCall (m_is_condition_within 9) (aCons (fVar 0) (aCons (fVar 1) (aCons (fC (.int 8)) aNil)))))
def m_is_condition : FM := mOf N_is_condition.length g_is_condition
theorem d_is_condition (T : Txt K mg) : FnD P w K mg base 14 T.a_is_condition T.f_is_condition ["value", "width"] m_is_condition := FnD.of T.F_is_condition sc_is_condition fun cd A outer s H gx => (ds_one (ds_ret (de_call ((d_is_condition_within T 9).up (by decide)) gx (by rfl) T.g_is_condition_within T.F_is_condition_within.kp T.b_is_condition_within (da_cons (de_var 0) (da_cons (de_var 1) (da_cons (de_gint (by rfl) T.c_GREATEST_DEPTH) da_nil))) (hn := (aCons_n (aCons_n (aCons_n aNil_n)))))))
def g__law_integer : FS := (sRet (fAnd (fIsi "int" (fVar 0)) (fAnd (fNot (fIsi "bool" (fVar 0))) (fChain opLe opLe (fVar 1) (fVar 0) (fVar 2)))))
def m__law_integer : FM := mOf N__law_integer.length g__law_integer
theorem d__law_integer (T : Txt K mg) : FnD P w K mg base 1 T.a__law_integer T.f__law_integer ["thing", "least", "most"] m__law_integer := FnD.of T.F__law_integer sc__law_integer fun cd A outer s H gx => (ds_one (ds_ret (de_and (de_isi (T := "int") (de_var 0) (by decide) (by rfl) T.n_isinstance (by rfl) T.n_int (by decide +kernel)) (de_and (de_not (de_isi (T := "bool") (de_var 0) (by decide) (by rfl) T.n_isinstance (by rfl) T.n_bool (by decide +kernel))) (de_one (de_chain ok_le ok_le (de_var 1) (de_var 0) (de_var 2)))))))
def g__law_value_due : FS := (sSeq (sIf (fTest (fIsi "str" (fVar 0))) (sRet (fAnd (fOp opLe (fMk bLen (aCons (fVar 0) aNil)) (fC (.int 20))) (fOp opEq (fComp (iOf asStr (fVar 0)) [1] b1 (fNotT (fTest (fChain opLe opLe (fC (.str (Str.ofString " "))) (fVar 1) (fC (.str (Str.ofString "~")))))) (fVar 1)) (fMk mkLst aNil)))) sNil) (sRet (fOr (fOp opIs (fVar 0) (fC .non)) (fCall m__law_integer (aCons (fVar 0) (aCons (fOp subI (fC (.int 0)) (fOp powI (fC (.int 10)) (fC (.int 9)))) (aCons (fOp powI (fC (.int 10)) (fC (.int 9))) aNil)))))))
def m__law_value_due : FM := mOf N__law_value_due.length g__law_value_due
theorem d__law_value_due (T : Txt K mg) : FnD P w K mg base 2 T.a__law_value_due T.f__law_value_due ["thing"] m__law_value_due := FnD.of T.F__law_value_due sc__law_value_due fun cd A outer s H gx => (ds_cons (ds_if (dt_val (de_isi (T := "str") (de_var 0) (by decide) (by rfl) T.n_isinstance (by rfl) T.n_str (by decide +kernel))) (ds_one (ds_ret (de_and (de_cmp ok_le (de_callB (id := "len") ok_len (by rfl) T.n_len (by decide +kernel) (da_cons (de_var 0) da_nil)) de_int) (de_one (de_cmp (ok_eq gx) (de_lc (own := [("sign", 1)]) (bd := b1) gx.calm gx.nd (di_str (de_var 0)) (blkOk_by (N := N__law_value_due) (sc := defScope s__law_value_due) (by decide +kernel)) (tg1 1) (fun _ _ _ _ _ => (pg_name (i := 1) gx.nd rfl (.inl rfl))) (fun _ _ _ _ _ => (dts_one (dt_not (dt_chain ok_le ok_le de_str (de_var 1) de_str)))) (fun _ _ _ _ _ => (de_var 1))) (de_lst da_nil)))))) ds_nil) (ds_one (ds_ret (de_or (de_cmp ok_is (de_var 0) de_non) (de_one (de_call ((d__law_integer T).up (by decide)) gx (by rfl) T.g__law_integer T.F__law_integer.kp T.b__law_integer (da_cons (de_var 0) (da_cons (de_op ok_subI de_int (de_op ok_powI de_int de_int)) (da_cons (de_op ok_powI de_int de_int) da_nil))) (hn := (aCons_n (aCons_n (aCons_n aNil_n))))))))))
def g__law_due (rec_ : FM) : FS := (sSeq (sIf (fOrT (fTest (fOp opEq (fVar 2) (fC (.int 0)))) (fOrT (fNotT (fTest (fIsi "tuple" (fVar 0)))) (fOrT (fTest (fOp opEq (fMk bLen (aCons (fVar 0) aNil)) (fC (.int 0)))) (fNotT (fTest (fIsi "str" (fSub (fVar 0) (fC (.int 0))))))))) (sRet (fC (.bl false))) sNil) (sSeq (sPar (par2 3 4) (aCons (fSub (fVar 0) (fC (.int 0))) (aCons (fSlice (fVar 0) (oSome (fC (.int 1))) oNone) aNil))) (sSeq (sIf (fTest (fOp opEqA (fVar 3) (fC (.str (Str.ofString "all"))))) (sRet (fOp opEqA (fVar 4) (fMk mkTup aNil))) sNil) (sSeq (sIf (fTest (fOp (inSeq false) (fVar 3) (fMk mkTup (aCons (fC (.str (Str.ofString "not"))) (aCons (fC (.str (Str.ofString "and"))) (aCons (fC (.str (Str.ofString "or"))) aNil)))))) (sSeq (sIf (fTest (fOp opNe (fMk bLen (aCons (fVar 4) aNil)) (fOp opAdd (fC (.int 1)) (fMk bInt (aCons (fOp opNe (fVar 3) (fC (.str (Str.ofString "not")))) aNil))))) (sRet (fC (.bl false))) sNil) (sRet (fOp (inSeq true) (fC (.bl false)) (fComp (iOf asT (fVar 4)) [5] b1 tTrue (fCall rec_ (aCons (fVar 5) (aCons (fVar 1) (aCons (fOp subI (fVar 2) (fC (.int 1))) aNil)))))))) sNil) (sSeq (sIf (fOrT (fTest (fOp (inSeq true) (fVar 3) (fMk mkTup (aCons (fC (.str (Str.ofString "equal"))) (aCons (fC (.str (Str.ofString "less"))) (aCons (fC (.str (Str.ofString "starts"))) (aCons (fC (.str (Str.ofString "one_of"))) aNil))))))) (fTest (fOp opNe (fMk bLen (aCons (fVar 4) aNil)) (fC (.int 2))))) (sRet (fC (.bl false))) sNil) (sSeq (sIf (fNotT (fTest (fCall m__law_integer (aCons (fSub (fVar 4) (fC (.int 0))) (aCons (fC (.int 0)) (aCons (fOp subI (fVar 1) (fC (.int 1))) aNil)))))) (sRet (fC (.bl false))) sNil) (sSeq (sIf (fTest (fOp opEqA (fVar 3) (fC (.str (Str.ofString "starts"))))) (sRet (fAnd (fIsi "str" (fSub (fVar 4) (fC (.int 1)))) (fAnd (fOp opNe (fSub (fVar 4) (fC (.int 1))) (fC (.str (Str.ofString "")))) (fCall m__law_value_due (aCons (fSub (fVar 4) (fC (.int 1))) aNil))))) sNil) (sSeq (sIf (fTest (fOp opEqA (fVar 3) (fC (.str (Str.ofString "one_of"))))) (sSeq (sIf (fOrT (fNotT (fTest (fIsi "tuple" (fSub (fVar 4) (fC (.int 1)))))) (fNotT (fTest (fChain opLe opLe (fC (.int 1)) (fMk bLen (aCons (fSub (fVar 4) (fC (.int 1))) aNil)) (fC (.int 8)))))) (sRet (fC (.bl false))) sNil) (sRet (fOp (inSeq true) (fC (.bl false)) (fComp (iOf asT (fSub (fVar 4) (fC (.int 1)))) [5] b1 tTrue (fCall m__law_value_due (aCons (fVar 5) aNil)))))) sNil) (sRet (fCall m__law_value_due (aCons (fSub (fVar 4) (fC (.int 1))) aNil)))))))))))
def m__law_due : Nat → FM
  | 0 => fun _ _ => none
  | n + 1 => mOf N__law_due.length (g__law_due (m__law_due n))
theorem d__law_due (T : Txt K mg) : ∀ n : Nat, FnD P w K mg base (2 + n) T.a__law_due T.f__law_due ["thing", "width", "depth"] (m__law_due n)
  | 0 => FnD.nil
  | n + 1 => by
    have ih : FnD P w K mg base (2 + n) T.a__law_due T.f__law_due ["thing", "width", "depth"] (m__law_due n) := d__law_due T n
    exact FnD.of (k := 2 + n) T.F__law_due sc__law_due fun cd A outer s H gx => (ds_cons (ds_if (dt_w (dw_or (dt_cmp (ok_eq gx) (de_var 2) de_int) (dw_or (dt_not (dt_val (de_isi (T := "tuple") (de_var 0) (by decide) (by rfl) T.n_isinstance (by rfl) T.n_tuple (by decide +kernel)))) (dw_or (dt_cmp (ok_eq gx) (de_callB (id := "len") ok_len (by rfl) T.n_len (by decide +kernel) (da_cons (de_var 0) da_nil)) de_int) (dw_or1 (dt_not (dt_val (de_isi (T := "str") (de_sub gx (de_var 0) de_int) (by decide) (by rfl) T.n_isinstance (by rfl) T.n_str (by decide +kernel))))))))) (ds_one (ds_ret de_bl)) ds_nil) (ds_cons (ds_par2 3 4 gx rfl rfl (by decide) rfl rfl (da_cons (de_sub gx (de_var 0) de_int) (da_cons (de_slice (de_var 0) (do_some de_int) do_none) da_nil))) (ds_cons (ds_if (dt_cmp (ok_eqA gx) (de_var 3) de_str) (ds_one (ds_ret (de_cmp (ok_eqA gx) (de_var 4) (de_tup da_nil)))) ds_nil) (ds_cons (ds_if (dt_cmp ok_in (de_var 3) (de_tup (da_cons de_str (da_cons de_str (da_cons de_str da_nil))))) (ds_cons (ds_if (dt_cmp (ok_ne gx) (de_callB (id := "len") ok_len (by rfl) T.n_len (by decide +kernel) (da_cons (de_var 4) da_nil)) (de_op ok_add de_int (de_callTy (T := "int") ok_intT (by rfl) T.n_int (by decide +kernel) (da_cons (de_cmp (ok_ne gx) (de_var 3) de_str) da_nil)))) (ds_one (ds_ret de_bl)) ds_nil) (ds_one (ds_ret (de_cmp ok_notin de_bl (de_lc (own := [("part", 5)]) (bd := b1) gx.calm gx.nd (di_tup (de_var 4)) (blkOk_by (N := N__law_due) (sc := defScope s__law_due) (by decide +kernel)) (tg1 5) (fun _ _ _ _ _ => (pg_name (i := 5) gx.nd rfl (.inl rfl))) (fun _ _ _ _ _ => dts_nil) (fun _ _ _ _ _ => (de_call ih gx.blk (by rfl) T.g__law_due T.F__law_due.kp T.b__law_due (da_cons (de_var 5) (da_cons (de_var 1) (da_cons (de_op ok_subI (de_var 2) de_int) da_nil))) (hn := (aCons_n (aCons_n (aCons_n aNil_n))))))))))) ds_nil) (ds_cons (ds_if (dt_w (dw_or (dt_cmp ok_notin (de_var 3) (de_tup (da_cons de_str (da_cons de_str (da_cons de_str (da_cons de_str da_nil)))))) (dw_or1 (dt_cmp (ok_ne gx) (de_callB (id := "len") ok_len (by rfl) T.n_len (by decide +kernel) (da_cons (de_var 4) da_nil)) de_int)))) (ds_one (ds_ret de_bl)) ds_nil) (ds_cons (ds_if (dt_not (dt_val (de_call ((d__law_integer T).up (by omega)) gx (by rfl) T.g__law_integer T.F__law_integer.kp T.b__law_integer (da_cons (de_sub gx (de_var 4) de_int) (da_cons de_int (da_cons (de_op ok_subI (de_var 1) de_int) da_nil))) (hn := (aCons_n (aCons_n (aCons_n aNil_n))))))) (ds_one (ds_ret de_bl)) ds_nil) (ds_cons (ds_if (dt_cmp (ok_eqA gx) (de_var 3) de_str) (ds_one (ds_ret (de_and (de_isi (T := "str") (de_sub gx (de_var 4) de_int) (by decide) (by rfl) T.n_isinstance (by rfl) T.n_str (by decide +kernel)) (de_and (de_cmp (ok_ne gx) (de_sub gx (de_var 4) de_int) de_str) (de_one (de_call ((d__law_value_due T).up (by omega)) gx (by rfl) T.g__law_value_due T.F__law_value_due.kp T.b__law_value_due (da_cons (de_sub gx (de_var 4) de_int) da_nil) (hn := (aCons_n aNil_n)))))))) ds_nil) (ds_cons (ds_if (dt_cmp (ok_eqA gx) (de_var 3) de_str) (ds_cons (ds_if (dt_w (dw_or (dt_not (dt_val (de_isi (T := "tuple") (de_sub gx (de_var 4) de_int) (by decide) (by rfl) T.n_isinstance (by rfl) T.n_tuple (by decide +kernel)))) (dw_or1 (dt_not (dt_chain ok_le ok_le de_int (de_callB (id := "len") ok_len (by rfl) T.n_len (by decide +kernel) (da_cons (de_sub gx (de_var 4) de_int) da_nil)) de_int))))) (ds_one (ds_ret de_bl)) ds_nil) (ds_one (ds_ret (de_cmp ok_notin de_bl (de_lc (own := [("part", 5)]) (bd := b1) gx.calm gx.nd (di_tup (de_sub gx (de_var 4) de_int)) (blkOk_by (N := N__law_due) (sc := defScope s__law_due) (by decide +kernel)) (tg1 5) (fun _ _ _ _ _ => (pg_name (i := 5) gx.nd rfl (.inl rfl))) (fun _ _ _ _ _ => dts_nil) (fun _ _ _ _ _ => (de_call ((d__law_value_due T).up (by omega)) gx.blk (by rfl) T.g__law_value_due T.F__law_value_due.kp T.b__law_value_due (da_cons (de_var 5) da_nil) (hn := (aCons_n aNil_n))))))))) ds_nil) (ds_one (ds_ret (de_call ((d__law_value_due T).up (by omega)) gx (by rfl) T.g__law_value_due T.F__law_value_due.kp T.b__law_value_due (da_cons (de_sub gx (de_var 4) de_int) da_nil) (hn := (aCons_n aNil_n)))))))))))))
def g__law_right : FS := (sSeq (sAsg (fMk bReprA (aCons (fVar 0) aNil)) (gN 2)) (sSeq (sAsg (fCall m_is_condition (aCons (fVar 0) (aCons (fVar 1) aNil))) (gN 3)) (sRet (fAnd (fIsi "bool" (fVar 3)) (fAnd (fOp opEq (fVar 3) (fCall (m__law_due 9) (aCons (fVar 0) (aCons (fVar 1) (aCons (fC (.int 8)) aNil))))) (fOp opEqS (fMk bReprA (aCons (fVar 0) aNil)) (fVar 2)))))))
def m__law_right : FM := mOf N__law_right.length g__law_right
theorem d__law_right (T : Txt K mg) : FnD P w K mg base 15 T.a__law_right T.f__law_right ["thing", "width"] m__law_right := FnD.of T.F__law_right sc__law_right fun cd A outer s H gx => (ds_cons (ds_asg (de_callB (id := "repr") (ok_reprA gx) (by rfl) T.n_repr (by decide +kernel) (da_cons (de_var 0) da_nil)) (dg_name 2 gx.nd)) (ds_cons (ds_asg (de_call ((d_is_condition T).up (by decide)) gx (by rfl) T.g_is_condition T.F_is_condition.kp T.b_is_condition (da_cons (de_var 0) (da_cons (de_var 1) da_nil)) (hn := (aCons_n (aCons_n aNil_n)))) (dg_name 3 gx.nd)) (ds_one (ds_ret (de_and (de_isi (T := "bool") (de_var 3) (by decide) (by rfl) T.n_isinstance (by rfl) T.n_bool (by decide +kernel)) (de_and (de_cmp (ok_eq gx) (de_var 3) (de_call ((d__law_due T 9).up (by decide)) gx (by rfl) T.g__law_due T.F__law_due.kp T.b__law_due (da_cons (de_var 0) (da_cons (de_var 1) (da_cons de_int da_nil))) (hn := (aCons_n (aCons_n (aCons_n aNil_n)))))) (de_one (de_cmp ok_eqS (de_callB (id := "repr") (ok_reprA gx) (by rfl) T.n_repr (by decide +kernel) (da_cons (de_var 0) da_nil)) (de_var 2)))))))))
def g__law_thing : FS := (sSeq (sAsg (fMk mkLst (aCons (fC .non) (aCons (fC (.bl true)) (aCons (fC (.bl false)) (aCons (fC (.int 0)) (aCons (fC (.int 1)) (aCons (fC (.int 5)) (aCons (fC (.int 6)) (aCons (fUn negI (fC (.int 1))) (aCons (fOp opAdd (fOp powI (fC (.int 10)) (fC (.int 9))) (fC (.int 1))) (aCons (fC (.str (Str.ofString ""))) (aCons (fC (.str (Str.ofString "all"))) (aCons (fC (.str (Str.ofString "equal"))) (aCons (fC (.str (Str.ofString "less"))) (aCons (fC (.str (Str.ofString "starts"))) (aCons (fC (.str (Str.ofString "one_of"))) (aCons (fC (.str (Str.ofString "not"))) aNil))))))))))))))))) (gN 1)) (sSeq (sAsg (fOp opAdd (fVar 1) (fMk mkLst (aCons (fC (.str (Str.ofString "and"))) (aCons (fC (.str (Str.ofString "or"))) (aCons (fC (.str (Str.ofString "xor"))) (aCons (fOp opMul (fC (.str (Str.ofString "x"))) (fC (.int 21))) (aCons (fC (.str (Str.ofString "a\n"))) (aCons (fMk mkTup aNil) (aCons (fMk mkLst aNil) (aCons (fC (.dct [])) (aCons (fMk mkTup (aCons (fC (.str (Str.ofString "all"))) aNil)) (aCons (fMk mkTup (aCons (fC (.str (Str.ofString "not"))) (aCons (fMk mkTup (aCons (fC (.str (Str.ofString "all"))) aNil)) aNil))) (aCons (fMk mkTup (aCons (fC (.str (Str.ofString "equal"))) (aCons (fC (.int 0)) (aCons (fC (.int 1)) aNil)))) aNil))))))))))))) (gN 1)) (sSeq (sAsg (fOp opAdd (fVar 1) (fMk mkLst (aCons (fMk mkLst (aCons (fC (.int 1)) aNil)) (aCons (fOp opMulA (fMk mkTup (aCons (fC (.int 1)) aNil)) (fC (.int 9))) aNil)))) (gN 1)) (sRet (fCall m__law_one_of (aCons (fVar 0) (aCons (fVar 1) aNil)))))))
def m__law_thing : FM := mOf N__law_thing.length g__law_thing
theorem d__law_thing (T : Txt K mg) : FnD P w K mg base 3 T.a__law_thing T.f__law_thing ["tape"] m__law_thing := FnD.of T.F__law_thing sc__law_thing fun cd A outer s H gx => (ds_cons (ds_asg (de_lst (da_cons de_non (da_cons de_bl (da_cons de_bl (da_cons de_int (da_cons de_int (da_cons de_int (da_cons de_int (da_cons (de_neg de_int) (da_cons (de_op ok_add (de_op ok_powI de_int de_int) de_int) (da_cons de_str (da_cons de_str (da_cons de_str (da_cons de_str (da_cons de_str (da_cons de_str (da_cons de_str da_nil))))))))))))))))) (dg_name 1 gx.nd)) (ds_cons (ds_asg (de_op ok_add (de_var 1) (de_lst (da_cons de_str (da_cons de_str (da_cons de_str (da_cons (de_op ok_mul de_str de_int) (da_cons de_str (da_cons (de_tup da_nil) (da_cons (de_lst da_nil) (da_cons de_dict0 (da_cons (de_tup (da_cons de_str da_nil)) (da_cons (de_tup (da_cons de_str (da_cons (de_tup (da_cons de_str da_nil)) da_nil))) (da_cons (de_tup (da_cons de_str (da_cons de_int (da_cons de_int da_nil)))) da_nil))))))))))))) (dg_name 1 gx.nd)) (ds_cons (ds_asg (de_op ok_add (de_var 1) (de_lst (da_cons (de_lst (da_cons de_int da_nil)) (da_cons (de_op ok_mulA (de_tup (da_cons de_int da_nil)) de_int) da_nil)))) (dg_name 1 gx.nd)) (ds_one (ds_ret (de_call ((d__law_one_of T).up (by decide)) gx (by rfl) T.g__law_one_of T.F__law_one_of.kp T.b__law_one_of (da_cons (de_var 0) (da_cons (de_var 1) da_nil)) (hn := (aCons_n (aCons_n aNil_n)))))))))
def g__law_bent (rec_ : FM) : FS := (sSeq (sIf (fOrT (fNotT (fTest (fIsi "tuple" (fVar 1)))) (fOrT (fTest (fOp opEqA (fVar 1) (fMk mkTup aNil))) (fTest (fOp opEq (fCall m__law_pick (aCons (fVar 0) (aCons (fC (.int 8)) aNil))) (fC (.int 0)))))) (sRet (fCall m__law_thing (aCons (fVar 0) aNil))) sNil) (sSeq (sPar (par2 2 3) (aCons (fCall m__law_pick (aCons (fVar 0) (aCons (fMk bLen (aCons (fVar 1) aNil)) aNil))) (aCons (fCall m__law_pick (aCons (fVar 0) (aCons (fC (.int 10)) aNil))) aNil))) (sSeq (sIf (fTest (fOp opEq (fVar 3) (fC (.int 0)))) (sRet (fOp opAdd (fSlice (fVar 1) oNone (oSome (fVar 2))) (fSlice (fVar 1) (oSome (fOp opAdd (fVar 2) (fC (.int 1)))) oNone))) sNil) (sSeq (sIf (fTest (fOp opEq (fVar 3) (fC (.int 1)))) (sRet (fOp opAdd (fSlice (fVar 1) oNone (oSome (fOp opAdd (fVar 2) (fC (.int 1))))) (fSlice (fVar 1) (oSome (fVar 2)) oNone))) sNil) (sSeq (sIf (fTest (fOp opEq (fVar 3) (fC (.int 2)))) (sRet (fOp opAdd (fOp opAdd (fSlice (fVar 1) oNone (oSome (fVar 2))) (fMk mkTup (aCons (fCall m__law_thing (aCons (fVar 0) aNil)) aNil))) (fSlice (fVar 1) (oSome (fVar 2)) oNone))) sNil) (sSeq (sIf (fTest (fOp opEq (fVar 3) (fC (.int 3)))) (sRet (fOp opAdd (fOp opAdd (fSlice (fVar 1) oNone (oSome (fVar 2))) (fMk mkTup (aCons (fCall m__law_one_of (aCons (fVar 0) (aCons (fVar 1) aNil))) aNil))) (fSlice (fVar 1) (oSome (fOp opAdd (fVar 2) (fC (.int 1)))) oNone))) sNil) (sSeq (sIf (fTest (fOp opEq (fVar 3) (fC (.int 4)))) (sRet (fMk bList (aCons (fVar 1) aNil))) sNil) (sRet (fOp opAdd (fOp opAdd (fSlice (fVar 1) oNone (oSome (fVar 2))) (fMk mkTup (aCons (fCall rec_ (aCons (fVar 0) (aCons (fSub (fVar 1) (fVar 2)) aNil))) aNil))) (fSlice (fVar 1) (oSome (fOp opAdd (fVar 2) (fC (.int 1)))) oNone))))))))))
def m__law_bent : Nat → FM
  | 0 => fun _ _ => none
  | n + 1 => mOf N__law_bent.length (g__law_bent (m__law_bent n))
theorem d__law_bent (T : Txt K mg) : ∀ n : Nat, FnD P w K mg base (3 + n) T.a__law_bent T.f__law_bent ["tape", "thing"] (m__law_bent n)
  | 0 => FnD.nil
  | n + 1 => by
    have ih : FnD P w K mg base (3 + n) T.a__law_bent T.f__law_bent ["tape", "thing"] (m__law_bent n) := d__law_bent T n
    exact FnD.of (k := 3 + n) T.F__law_bent sc__law_bent fun cd A outer s H gx => (ds_cons (ds_if (dt_w (dw_or (dt_not (dt_val (de_isi (T := "tuple") (de_var 1) (by decide) (by rfl) T.n_isinstance (by rfl) T.n_tuple (by decide +kernel)))) (dw_or (dt_cmp (ok_eqA gx) (de_var 1) (de_tup da_nil)) (dw_or1 (dt_cmp (ok_eq gx) (de_call ((d__law_pick T).up (by omega)) gx (by rfl) T.g__law_pick T.F__law_pick.kp T.b__law_pick (da_cons (de_var 0) (da_cons de_int da_nil)) (hn := (aCons_n (aCons_n aNil_n)))) de_int))))) (ds_one (ds_ret (de_call ((d__law_thing T).up (by omega)) gx (by rfl) T.g__law_thing T.F__law_thing.kp T.b__law_thing (da_cons (de_var 0) da_nil) (hn := (aCons_n aNil_n))))) ds_nil) (ds_cons (ds_par2 2 3 gx rfl rfl (by decide) rfl rfl (da_cons (de_call ((d__law_pick T).up (by omega)) gx (by rfl) T.g__law_pick T.F__law_pick.kp T.b__law_pick (da_cons (de_var 0) (da_cons (de_callB (id := "len") ok_len (by rfl) T.n_len (by decide +kernel) (da_cons (de_var 1) da_nil)) da_nil)) (hn := (aCons_n (aCons_n aNil_n)))) (da_cons (de_call ((d__law_pick T).up (by omega)) gx (by rfl) T.g__law_pick T.F__law_pick.kp T.b__law_pick (da_cons (de_var 0) (da_cons de_int da_nil)) (hn := (aCons_n (aCons_n aNil_n)))) da_nil))) (ds_cons (ds_if (dt_cmp (ok_eq gx) (de_var 3) de_int) (ds_one (ds_ret (de_op ok_add (de_slice (de_var 1) do_none (do_some (de_var 2))) (de_slice (de_var 1) (do_some (de_op ok_add (de_var 2) de_int)) do_none)))) ds_nil) (ds_cons (ds_if (dt_cmp (ok_eq gx) (de_var 3) de_int) (ds_one (ds_ret (de_op ok_add (de_slice (de_var 1) do_none (do_some (de_op ok_add (de_var 2) de_int))) (de_slice (de_var 1) (do_some (de_var 2)) do_none)))) ds_nil) (ds_cons (ds_if (dt_cmp (ok_eq gx) (de_var 3) de_int) (ds_one (ds_ret (de_op ok_add (de_op ok_add (de_slice (de_var 1) do_none (do_some (de_var 2))) (de_tup (da_cons (de_call ((d__law_thing T).up (by omega)) gx (by rfl) T.g__law_thing T.F__law_thing.kp T.b__law_thing (da_cons (de_var 0) da_nil) (hn := (aCons_n aNil_n))) da_nil))) (de_slice (de_var 1) (do_some (de_var 2)) do_none)))) ds_nil) (ds_cons (ds_if (dt_cmp (ok_eq gx) (de_var 3) de_int) (ds_one (ds_ret (de_op ok_add (de_op ok_add (de_slice (de_var 1) do_none (do_some (de_var 2))) (de_tup (da_cons (de_call ((d__law_one_of T).up (by omega)) gx (by rfl) T.g__law_one_of T.F__law_one_of.kp T.b__law_one_of (da_cons (de_var 0) (da_cons (de_var 1) da_nil)) (hn := (aCons_n (aCons_n aNil_n)))) da_nil))) (de_slice (de_var 1) (do_some (de_op ok_add (de_var 2) de_int)) do_none)))) ds_nil) (ds_cons (ds_if (dt_cmp (ok_eq gx) (de_var 3) de_int) (ds_one (ds_ret (de_callTy (T := "list") (ok_list gx) (by rfl) T.n_list (by decide +kernel) (da_cons (de_var 1) da_nil)))) ds_nil) (ds_one (ds_ret (de_op ok_add (de_op ok_add (de_slice (de_var 1) do_none (do_some (de_var 2))) (de_tup (da_cons (de_call ih gx (by rfl) T.g__law_bent T.F__law_bent.kp T.b__law_bent (da_cons (de_var 0) (da_cons (de_sub gx (de_var 1) (de_var 2)) da_nil)) (hn := (aCons_n (aCons_n aNil_n)))) da_nil))) (de_slice (de_var 1) (do_some (de_op ok_add (de_var 2) de_int)) do_none)))))))))))
def g_law : FS := (sSeq (sFor (iOfA asR1 (aCons (fMk bMax (aCons (fC (.int 2)) (aCons (fMk bMin (aCons (fC (.int 5)) (aCons (fMk bLen (aCons (fVar 0) aNil)) aNil))) aNil))) aNil)) (gN 1) (sSeq (sAsg (fCall m__law_tape (aCons (fVar 0) (aCons (fVar 1) aNil))) (gN 2)) (sSeq (sAsg (fOp opAdd (fC (.int 1)) (fCall m__law_pick (aCons (fVar 2) (aCons (fC (.int 6)) aNil)))) (gN 3)) (sSeq (sAsg (fNewL (aCons (fCall (m__law_condition 5) (aCons (fVar 2) (aCons (fVar 3) (aCons (fOp opAdd (fC (.int 1)) (fCall m__law_pick (aCons (fVar 2) (aCons (fC (.int 3)) aNil)))) aNil)))) (aCons (fCall m__law_test (aCons (fVar 2) (aCons (fVar 3) aNil))) aNil))) (gN 4)) (sSeq (sFor (iOfA asR1 (aCons (fOp opAdd (fC (.int 6)) (fCall m__law_pick (aCons (fVar 2) (aCons (fC (.int 4)) aNil)))) aNil)) (gN 5) (sSeq (sAsg (fMk mkTup (aCons (fC (.str (Str.ofString "all"))) aNil)) (gN 6)) (sSeq (sAsg (fMk mkLst (aCons (fMk mkTup (aCons (fC (.str (Str.ofString "not"))) (aCons (fSub (fVar 4) (fC (.int 1))) aNil))) (aCons (fMk mkTup (aCons (fC (.str (Str.ofString "and"))) (aCons (fVar 6) (aCons (fSub (fVar 4) (fC (.int 1))) aNil)))) (aCons (fMk mkTup (aCons (fC (.str (Str.ofString "or"))) (aCons (fVar 6) (aCons (fSub (fVar 4) (fC (.int 1))) aNil)))) (aCons (fMk mkTup (aCons (fC (.str (Str.ofString "and"))) (aCons (fSub (fVar 4) (fC (.int 1))) (aCons (fVar 6) aNil)))) aNil))))) (gN 7)) (sPutL (fVar 4) (fC (.int 1)) (fCall m__law_one_of (aCons (fVar 2) (aCons (fVar 7) aNil))))))) (sFor (iOfZ (fVar 4)) (gN 8) (sSeq (sIf (fOrT (fNotT (fTest (fCall m__law_right (aCons (fVar 8) (aCons (fVar 3) aNil))))) (fNotT (fTest (fCall m__law_right (aCons (fVar 8) (aCons (fOp opAdd (fC (.int 1)) (fCall m__law_pick (aCons (fVar 2) (aCons (fC (.int 6)) aNil)))) aNil)))))) (sRet (fC (.bl false))) sNil) (sFor (iOfA asR1 (aCons (fC (.int 7)) aNil)) (gN 5) (sSeq (sAsg (fCall (m__law_bent 40) (aCons (fVar 2) (aCons (fVar 8) aNil))) (gN 9)) (sSeq (sIf (fTest (fOp opGt (fVar 5) (fC (.int 4)))) (sAsg (fCall (m__law_bent 40) (aCons (fVar 2) (aCons (fVar 9) aNil))) (gN 9)) sNil) (sIf (fNotT (fTest (fCall m__law_right (aCons (fVar 9) (aCons (fVar 3) aNil))))) (sRet (fC (.bl false))) sNil))))))))))) (sSeq (sFor (iOf asL (fMk mkLst (aCons (fC .non) (aCons (fC (.int 5)) (aCons (fC (.bl true)) (aCons (fC (.str (Str.ofString "all"))) (aCons (fC (.str (Str.ofString ""))) (aCons (fMk mkLst aNil) (aCons (fMk mkTup aNil) (aCons (fC (.dct [])) (aCons (fMk mkTup (aCons (fC (.str (Str.ofString "all"))) (aCons (fC (.int 1)) aNil))) (aCons (fMk mkLst (aCons (fC (.str (Str.ofString "all"))) aNil)) (aCons (fMk mkTup (aCons (fC (.str (Str.ofString "starts"))) (aCons (fC (.int 0)) (aCons (fC (.str (Str.ofString ""))) aNil)))) aNil))))))))))))) (gN 8) (sIf (fTest (fOp opIsnt (fCall m_is_condition (aCons (fVar 8) (aCons (fC (.int 6)) aNil))) (fC (.bl false)))) (sRet (fC (.bl false))) sNil)) (sRet (fOp opIs (fCall m_is_condition (aCons (fMk mkTup (aCons (fC (.str (Str.ofString "all"))) aNil)) (aCons (fC (.int 1)) aNil))) (fC (.bl true))))))
def m_law : FM := mOf N_law.length g_law
theorem d_law (T : Txt K mg) : FnD P w K mg base 44 T.a_law T.f_law ["script"] m_law := FnD.of T.F_law sc_law fun cd A outer s H gx => (ds_cons (ds_for PassesOwn.never gx.calm (di_range1 (by rfl) T.n_range (da_cons (de_callB (id := "max") (ok_max gx) (by rfl) T.n_max (by decide +kernel) (da_cons de_int (da_cons (de_callB (id := "min") (ok_min gx) (by rfl) T.n_min (by decide +kernel) (da_cons de_int (da_cons (de_callB (id := "len") ok_len (by rfl) T.n_len (by decide +kernel) (da_cons (de_var 0) da_nil)) da_nil))) da_nil))) da_nil)) (dg_name 1 gx.nd) (ds_cons (ds_asg (de_call ((d__law_tape T).up (by decide)) gx (by rfl) T.g__law_tape T.F__law_tape.kp T.b__law_tape (da_cons (de_var 0) (da_cons (de_var 1) da_nil)) (hn := (aCons_n (aCons_n aNil_n)))) (dg_name 2 gx.nd)) (ds_cons (ds_asg (de_op ok_add de_int (de_call ((d__law_pick T).up (by decide)) gx (by rfl) T.g__law_pick T.F__law_pick.kp T.b__law_pick (da_cons (de_var 2) (da_cons de_int da_nil)) (hn := (aCons_n (aCons_n aNil_n))))) (dg_name 3 gx.nd)) (ds_cons (ds_asg (de_newL (da_cons (de_call ((d__law_condition T 5).up (by decide)) gx (by rfl) T.g__law_condition T.F__law_condition.kp T.b__law_condition (da_cons (de_var 2) (da_cons (de_var 3) (da_cons (de_op ok_add de_int (de_call ((d__law_pick T).up (by decide)) gx (by rfl) T.g__law_pick T.F__law_pick.kp T.b__law_pick (da_cons (de_var 2) (da_cons de_int da_nil)) (hn := (aCons_n (aCons_n aNil_n))))) da_nil))) (hn := (aCons_n (aCons_n (aCons_n aNil_n))))) (da_cons (de_call ((d__law_test T).up (by decide)) gx (by rfl) T.g__law_test T.F__law_test.kp T.b__law_test (da_cons (de_var 2) (da_cons (de_var 3) da_nil)) (hn := (aCons_n (aCons_n aNil_n)))) da_nil))) (dg_name 4 gx.nd)) (ds_cons (ds_for PassesOwn.never gx.calm (di_range1 (by rfl) T.n_range (da_cons (de_op ok_add de_int (de_call ((d__law_pick T).up (by decide)) gx (by rfl) T.g__law_pick T.F__law_pick.kp T.b__law_pick (da_cons (de_var 2) (da_cons de_int da_nil)) (hn := (aCons_n (aCons_n aNil_n))))) da_nil)) (dg_name 5 gx.nd) (ds_cons (ds_asg (de_tup (da_cons de_str da_nil)) (dg_name 6 gx.nd)) (ds_cons (ds_asg (de_lst (da_cons (de_tup (da_cons de_str (da_cons (de_sub gx (de_var 4) de_int) da_nil))) (da_cons (de_tup (da_cons de_str (da_cons (de_var 6) (da_cons (de_sub gx (de_var 4) de_int) da_nil)))) (da_cons (de_tup (da_cons de_str (da_cons (de_var 6) (da_cons (de_sub gx (de_var 4) de_int) da_nil)))) (da_cons (de_tup (da_cons de_str (da_cons (de_sub gx (de_var 4) de_int) (da_cons (de_var 6) da_nil)))) da_nil))))) (dg_name 7 gx.nd)) (ds_one (ds_putL (de_var 4) de_int (de_call ((d__law_one_of T).up (by decide)) gx (by rfl) T.g__law_one_of T.F__law_one_of.kp T.b__law_one_of (da_cons (de_var 2) (da_cons (de_var 7) da_nil)) (hn := (aCons_n (aCons_n aNil_n))))))))) (ds_one (ds_for PassesOwn.never gx.calm (di_frz (de_var 4)) (dg_name 8 gx.nd) (ds_cons (ds_if (dt_w (dw_or (dt_not (dt_val (de_call ((d__law_right T).up (by decide)) gx (by rfl) T.g__law_right T.F__law_right.kp T.b__law_right (da_cons (de_var 8) (da_cons (de_var 3) da_nil)) (hn := (aCons_n (aCons_n aNil_n)))))) (dw_or1 (dt_not (dt_val (de_call ((d__law_right T).up (by decide)) gx (by rfl) T.g__law_right T.F__law_right.kp T.b__law_right (da_cons (de_var 8) (da_cons (de_op ok_add de_int (de_call ((d__law_pick T).up (by decide)) gx (by rfl) T.g__law_pick T.F__law_pick.kp T.b__law_pick (da_cons (de_var 2) (da_cons de_int da_nil)) (hn := (aCons_n (aCons_n aNil_n))))) da_nil)) (hn := (aCons_n (aCons_n aNil_n))))))))) (ds_one (ds_ret de_bl)) ds_nil) (ds_one (ds_for PassesOwn.never gx.calm (di_range1 (by rfl) T.n_range (da_cons de_int da_nil)) (dg_name 5 gx.nd) (ds_cons (ds_asg (de_call ((d__law_bent T 40).up (by decide)) gx (by rfl) T.g__law_bent T.F__law_bent.kp T.b__law_bent (da_cons (de_var 2) (da_cons (de_var 8) da_nil)) (hn := (aCons_n (aCons_n aNil_n)))) (dg_name 9 gx.nd)) (ds_cons (ds_if (dt_cmp ok_gt (de_var 5) de_int) (ds_one (ds_asg (de_call ((d__law_bent T 40).up (by decide)) gx (by rfl) T.g__law_bent T.F__law_bent.kp T.b__law_bent (da_cons (de_var 2) (da_cons (de_var 9) da_nil)) (hn := (aCons_n (aCons_n aNil_n)))) (dg_name 9 gx.nd))) ds_nil) (ds_one (ds_if (dt_not (dt_val (de_call ((d__law_right T).up (by decide)) gx (by rfl) T.g__law_right T.F__law_right.kp T.b__law_right (da_cons (de_var 9) (da_cons (de_var 3) da_nil)) (hn := (aCons_n (aCons_n aNil_n)))))) (ds_one (ds_ret de_bl)) ds_nil)))))))))))))) (ds_cons (ds_for PassesOwn.never gx.calm (di_lst (de_lst (da_cons de_non (da_cons de_int (da_cons de_bl (da_cons de_str (da_cons de_str (da_cons (de_lst da_nil) (da_cons (de_tup da_nil) (da_cons de_dict0 (da_cons (de_tup (da_cons de_str (da_cons de_int da_nil))) (da_cons (de_lst (da_cons de_str da_nil)) (da_cons (de_tup (da_cons de_str (da_cons de_int (da_cons de_str da_nil)))) da_nil))))))))))))) (dg_name 8 gx.nd) (ds_one (ds_if (dt_cmp ok_isnt (de_call ((d_is_condition T).up (by decide)) gx (by rfl) T.g_is_condition T.F_is_condition.kp T.b_is_condition (da_cons (de_var 8) (da_cons de_int da_nil)) (hn := (aCons_n (aCons_n aNil_n)))) de_bl) (ds_one (ds_ret de_bl)) ds_nil))) (ds_one (ds_ret (de_cmp ok_is (de_call ((d_is_condition T).up (by decide)) gx (by rfl) T.g_is_condition T.F_is_condition.kp T.b_is_condition (da_cons (de_tup (da_cons de_str da_nil)) (da_cons de_int da_nil)) (hn := (aCons_n (aCons_n aNil_n)))) de_bl)))))
end LW
namespace LW
open PySem PySem.Spec PyProof.Rows L2 DL TL
theorem e_tape : m__law_tape = mTape := rfl
theorem e_pick : m__law_pick = mPick := rfl
theorem e_one : m__law_one_of = mOne := rfl
def asc (n : Nat) (x : Str) : Bool := decide (x.length ≤ n) && (tl x).all fun c => decide (c < 128)
theorem asc_gs {n : Nat} {x : Str} (h : asc n x = true) : GS n x := by
  unfold asc at h
  rw [Bool.and_eq_true] at h
  exact ⟨of_decide_eq_true h.1, fun c hc => of_decide_eq_true (List.all_eq_true.mp h.2 c hc)⟩
theorem gs_asc {n : Nat} {x : Str} (h : GS n x) : asc n x = true := by
  unfold asc
  rw [Bool.and_eq_true]
  exact ⟨decide_eq_true h.1, List.all_eq_true.mpr fun c hc => decide_eq_true (h.2 c hc)⟩
theorem eqL {a b : Str} {c : Bool} (ha : asc 16 a = true) (hb : asc 16 b = true) (h : (a == b) = c) : opEq (.str a) (.str b) = some (.bl c) := by
  rw [← h]
  exact opEq_fv (m := 16) (n := 16) (a := .str a) (b := .str b) (asc_gs ha) (asc_gs hb)
theorem qs : opEq (.str (Str.ofString "all")) (.str (Str.ofString "all")) = some (.bl true) ∧
  opEq (.str (Str.ofString "all")) (.str (Str.ofString "not")) = some (.bl false) ∧
  opEq (.str (Str.ofString "all")) (.str (Str.ofString "and")) = some (.bl false) ∧
  opEq (.str (Str.ofString "all")) (.str (Str.ofString "or")) = some (.bl false) ∧
  opEq (.str (Str.ofString "all")) (.str (Str.ofString "equal")) = some (.bl false) ∧
  opEq (.str (Str.ofString "all")) (.str (Str.ofString "less")) = some (.bl false) ∧
  opEq (.str (Str.ofString "all")) (.str (Str.ofString "starts")) = some (.bl false) ∧
  opEq (.str (Str.ofString "equal")) (.str (Str.ofString "all")) = some (.bl false) ∧
  opEq (.str (Str.ofString "equal")) (.str (Str.ofString "not")) = some (.bl false) ∧
  opEq (.str (Str.ofString "equal")) (.str (Str.ofString "and")) = some (.bl false) ∧
  opEq (.str (Str.ofString "equal")) (.str (Str.ofString "or")) = some (.bl false) ∧
  opEq (.str (Str.ofString "equal")) (.str (Str.ofString "equal")) = some (.bl true) ∧
  opEq (.str (Str.ofString "equal")) (.str (Str.ofString "less")) = some (.bl false) ∧
  opEq (.str (Str.ofString "equal")) (.str (Str.ofString "starts")) = some (.bl false) ∧
  opEq (.str (Str.ofString "less")) (.str (Str.ofString "all")) = some (.bl false) ∧
  opEq (.str (Str.ofString "less")) (.str (Str.ofString "not")) = some (.bl false) ∧
  opEq (.str (Str.ofString "less")) (.str (Str.ofString "and")) = some (.bl false) ∧
  opEq (.str (Str.ofString "less")) (.str (Str.ofString "or")) = some (.bl false) ∧
  opEq (.str (Str.ofString "less")) (.str (Str.ofString "equal")) = some (.bl false) ∧
  opEq (.str (Str.ofString "less")) (.str (Str.ofString "less")) = some (.bl true) ∧
  opEq (.str (Str.ofString "less")) (.str (Str.ofString "starts")) = some (.bl false) ∧
  opEq (.str (Str.ofString "starts")) (.str (Str.ofString "all")) = some (.bl false) ∧
  opEq (.str (Str.ofString "starts")) (.str (Str.ofString "not")) = some (.bl false) ∧
  opEq (.str (Str.ofString "starts")) (.str (Str.ofString "and")) = some (.bl false) ∧
  opEq (.str (Str.ofString "starts")) (.str (Str.ofString "or")) = some (.bl false) ∧
  opEq (.str (Str.ofString "starts")) (.str (Str.ofString "equal")) = some (.bl false) ∧
  opEq (.str (Str.ofString "starts")) (.str (Str.ofString "less")) = some (.bl false) ∧
  opEq (.str (Str.ofString "starts")) (.str (Str.ofString "starts")) = some (.bl true) ∧
  opEq (.str (Str.ofString "one_of")) (.str (Str.ofString "all")) = some (.bl false) ∧
  opEq (.str (Str.ofString "one_of")) (.str (Str.ofString "not")) = some (.bl false) ∧
  opEq (.str (Str.ofString "one_of")) (.str (Str.ofString "and")) = some (.bl false) ∧
  opEq (.str (Str.ofString "one_of")) (.str (Str.ofString "or")) = some (.bl false) ∧
  opEq (.str (Str.ofString "one_of")) (.str (Str.ofString "equal")) = some (.bl false) ∧
  opEq (.str (Str.ofString "one_of")) (.str (Str.ofString "less")) = some (.bl false) ∧
  opEq (.str (Str.ofString "one_of")) (.str (Str.ofString "starts")) = some (.bl false) ∧
  opEq (.str (Str.ofString "not")) (.str (Str.ofString "all")) = some (.bl false) ∧
  opEq (.str (Str.ofString "not")) (.str (Str.ofString "not")) = some (.bl true) ∧
  opEq (.str (Str.ofString "not")) (.str (Str.ofString "and")) = some (.bl false) ∧
  opEq (.str (Str.ofString "not")) (.str (Str.ofString "or")) = some (.bl false) ∧
  opEq (.str (Str.ofString "not")) (.str (Str.ofString "equal")) = some (.bl false) ∧
  opEq (.str (Str.ofString "not")) (.str (Str.ofString "less")) = some (.bl false) ∧
  opEq (.str (Str.ofString "not")) (.str (Str.ofString "starts")) = some (.bl false) ∧
  opEq (.str (Str.ofString "and")) (.str (Str.ofString "all")) = some (.bl false) ∧
  opEq (.str (Str.ofString "and")) (.str (Str.ofString "not")) = some (.bl false) ∧
  opEq (.str (Str.ofString "and")) (.str (Str.ofString "and")) = some (.bl true) ∧
  opEq (.str (Str.ofString "and")) (.str (Str.ofString "or")) = some (.bl false) ∧
  opEq (.str (Str.ofString "and")) (.str (Str.ofString "equal")) = some (.bl false) ∧
  opEq (.str (Str.ofString "and")) (.str (Str.ofString "less")) = some (.bl false) ∧
  opEq (.str (Str.ofString "and")) (.str (Str.ofString "starts")) = some (.bl false) ∧
  opEq (.str (Str.ofString "or")) (.str (Str.ofString "all")) = some (.bl false) ∧
  opEq (.str (Str.ofString "or")) (.str (Str.ofString "not")) = some (.bl false) ∧
  opEq (.str (Str.ofString "or")) (.str (Str.ofString "and")) = some (.bl false) ∧
  opEq (.str (Str.ofString "or")) (.str (Str.ofString "or")) = some (.bl true) ∧
  opEq (.str (Str.ofString "or")) (.str (Str.ofString "equal")) = some (.bl false) ∧
  opEq (.str (Str.ofString "or")) (.str (Str.ofString "less")) = some (.bl false) ∧
  opEq (.str (Str.ofString "or")) (.str (Str.ofString "starts")) = some (.bl false) :=
  ⟨eqL (by decide +kernel) (by decide +kernel) (by decide +kernel), eqL (by decide +kernel) (by decide +kernel) (by decide +kernel), eqL (by decide +kernel) (by decide +kernel) (by decide +kernel), eqL (by decide +kernel) (by decide +kernel) (by decide +kernel), eqL (by decide +kernel) (by decide +kernel) (by decide +kernel), eqL (by decide +kernel) (by decide +kernel) (by decide +kernel), eqL (by decide +kernel) (by decide +kernel) (by decide +kernel), eqL (by decide +kernel) (by decide +kernel) (by decide +kernel), eqL (by decide +kernel) (by decide +kernel) (by decide +kernel), eqL (by decide +kernel) (by decide +kernel) (by decide +kernel), eqL (by decide +kernel) (by decide +kernel) (by decide +kernel), eqL (by decide +kernel) (by decide +kernel) (by decide +kernel), eqL (by decide +kernel) (by decide +kernel) (by decide +kernel), eqL (by decide +kernel) (by decide +kernel) (by decide +kernel), eqL (by decide +kernel) (by decide +kernel) (by decide +kernel), eqL (by decide +kernel) (by decide +kernel) (by decide +kernel), eqL (by decide +kernel) (by decide +kernel) (by decide +kernel), eqL (by decide +kernel) (by decide +kernel) (by decide +kernel), eqL (by decide +kernel) (by decide +kernel) (by decide +kernel), eqL (by decide +kernel) (by decide +kernel) (by decide +kernel), eqL (by decide +kernel) (by decide +kernel) (by decide +kernel), eqL (by decide +kernel) (by decide +kernel) (by decide +kernel), eqL (by decide +kernel) (by decide +kernel) (by decide +kernel), eqL (by decide +kernel) (by decide +kernel) (by decide +kernel), eqL (by decide +kernel) (by decide +kernel) (by decide +kernel), eqL (by decide +kernel) (by decide +kernel) (by decide +kernel), eqL (by decide +kernel) (by decide +kernel) (by decide +kernel), eqL (by decide +kernel) (by decide +kernel) (by decide +kernel), eqL (by decide +kernel) (by decide +kernel) (by decide +kernel), eqL (by decide +kernel) (by decide +kernel) (by decide +kernel), eqL (by decide +kernel) (by decide +kernel) (by decide +kernel), eqL (by decide +kernel) (by decide +kernel) (by decide +kernel), eqL (by decide +kernel) (by decide +kernel) (by decide +kernel), eqL (by decide +kernel) (by decide +kernel) (by decide +kernel), eqL (by decide +kernel) (by decide +kernel) (by decide +kernel), eqL (by decide +kernel) (by decide +kernel) (by decide +kernel), eqL (by decide +kernel) (by decide +kernel) (by decide +kernel), eqL (by decide +kernel) (by decide +kernel) (by decide +kernel), eqL (by decide +kernel) (by decide +kernel) (by decide +kernel), eqL (by decide +kernel) (by decide +kernel) (by decide +kernel), eqL (by decide +kernel) (by decide +kernel) (by decide +kernel), eqL (by decide +kernel) (by decide +kernel) (by decide +kernel), eqL (by decide +kernel) (by decide +kernel) (by decide +kernel), eqL (by decide +kernel) (by decide +kernel) (by decide +kernel), eqL (by decide +kernel) (by decide +kernel) (by decide +kernel), eqL (by decide +kernel) (by decide +kernel) (by decide +kernel), eqL (by decide +kernel) (by decide +kernel) (by decide +kernel), eqL (by decide +kernel) (by decide +kernel) (by decide +kernel), eqL (by decide +kernel) (by decide +kernel) (by decide +kernel), eqL (by decide +kernel) (by decide +kernel) (by decide +kernel), eqL (by decide +kernel) (by decide +kernel) (by decide +kernel), eqL (by decide +kernel) (by decide +kernel) (by decide +kernel), eqL (by decide +kernel) (by decide +kernel) (by decide +kernel), eqL (by decide +kernel) (by decide +kernel) (by decide +kernel), eqL (by decide +kernel) (by decide +kernel) (by decide +kernel), eqL (by decide +kernel) (by decide +kernel) (by decide +kernel)⟩
/-- plain values -/
def pvB : D → Bool | .non => true | .int i => decide (-1000000000 ≤ i ∧ i ≤ 1000000000) | .str x => asc 40 x | _ => false
theorem pv_fv : ∀ {d : D}, pvB d = true → FV 40 d
  | .non, _ => trivial
  | .int _, _ => trivial
  | .str x, h => asc_gs h
  | .bl _, h => by cases h
  | .tup _, h => by cases h
  | .lst _, h => by cases h
  | .dct _, h => by cases h
  | .scr _, h => by cases h
  | .ref _, h => by cases h
theorem pv_sm : ∀ {d : D}, pvB d = true → Sm 0 40 d
  | .non, _ => Sm.non.mono (Nat.le_refl _) (Nat.zero_le _)
  | .int i, h => Sm.int (by have := of_decide_eq_true (show decide (-1000000000 ≤ i ∧ i ≤ 1000000000) = true from h); omega)
  | .str x, h => Sm.str (asc_gs h)
  | .bl _, h => by cases h
  | .tup _, h => by cases h
  | .lst _, h => by cases h
  | .dct _, h => by cases h
  | .scr _, h => by cases h
  | .ref _, h => by cases h
theorem strsD_of : ∀ {vs : List D}, (∀ v ∈ vs, ∃ x, v = .str x ∧ GS 1 x) → ∃ ys, strsD vs = some ys ∧ ys.length = vs.length ∧ ∀ y ∈ ys, GS 1 y
  | [], _ => ⟨[], rfl, rfl, fun _ h => by cases h⟩
  | v :: vs, h => by
    obtain ⟨x, rfl, g⟩ := h v List.mem_cons_self
    obtain ⟨ys, h1, h2, h3⟩ := strsD_of fun w hw => h w (List.mem_cons_of_mem _ hw)
    refine ⟨x :: ys, by simp [strsD, h1], by simp [h2], fun y hy => ?_⟩
    rcases List.mem_cons.mp hy with rfl | hy
    · exact g
    · exact h3 y hy
theorem sum_le {m : Nat} : ∀ {ys : List Str}, (∀ y ∈ ys, GS m y) → (ys.map (·.length)).sum ≤ ys.length * m
  | [], _ => Nat.zero_le _
  | y :: ys, h => by
    have h1 := sum_le fun z hz => h z (List.mem_cons_of_mem _ hz)
    have h2 := (h y List.mem_cons_self).1
    rw [List.map_cons, List.sum_cons, List.length_cons, Nat.succ_mul]
    omega
theorem join_ok {m k : Nat} {vs : List D} (h : ∀ v ∈ vs, ∃ x, v = .str x ∧ GS 1 x) (hl : vs.length ≤ k) (hk : k ≤ 1000) : ∃ z, joinD (.str (Str.ofString "")) [.lst vs] = some (.str z) ∧ GS k z := by
  obtain ⟨ys, h1, h2, h3⟩ := strsD_of h
  have hs := sum_le h3
  have : (ys.map (·.length)).sum + ys.length * (Str.ofString "").length ≤ 16777216 := by
    rw [show (Str.ofString "").length = 0 from rfl]
    omega
  refine ⟨_, by simp only [joinD, h1, Option.bind_some]; rw [if_pos this], ?_⟩
  exact (GS.join h3).mono (by omega)
end LW
namespace LW
open PySem PySem.Spec PyProof.Rows L2 DL TL
theorem pv_str {x : Str} (h : GS 40 x) : pvB (.str x) = true := gs_asc h
theorem bits10 : Builtin.Int.intBits 10 ≤ 32 := bits32 (by decide) (by decide)
theorem pow109 : powI (.int 10) (.int 9) = some (.int 1000000000) := by
  have p := powI_int (a := 10) (b := 9) (by decide) bits10 (by decide)
  simpa using p
theorem mulz (k : Int) (h : 0 ≤ k ∧ k ≤ 1000) : opMul (.str (Str.ofString "z")) (.int k) = some (.str (Txt.mul (Str.ofString "z") k)) := by
  have : (Str.ofString "z").length ≤ 1000 := by decide
  simp [opMul, orD, mulI, onI, mulS, this, h.1, h.2]
theorem addL_ok {xs ys : List D} (h : xs.length + ys.length ≤ 1000) : opAdd (.lst xs) (.lst ys) = some (.lst (xs ++ ys)) := by
  have : xs.length + ys.length ≤ sizeLine := Nat.le_trans h (by decide)
  simp [opAdd, orD, addI, addS, addL, onI, onS, this]
theorem addT_ok {xs ys : List D} (h : xs.length + ys.length ≤ 1000) : opAdd (.tup xs) (.tup ys) = some (.tup (xs ++ ys)) := by
  have : xs.length + ys.length ≤ sizeLine := Nat.le_trans h (by decide)
  simp [opAdd, orD, addI, addS, addL, addT, onI, onS, this]
def someV : List D := [.non, .int 0, .int 1, .int 2, .int (-1), .int 1, .int 2, .int 1000000000, .int (-1000000000), .str (Str.ofString ""), .str (Str.ofString "a"), .str (Str.ofString "ab"), .str (Str.ofString "b"), .str (Str.ofString "a b"), .str (Str.ofString "A"), .str (Str.ofString "~"), .str (Txt.mul (Str.ofString "z") 20)]
def moreV : List D := [.str (Txt.mul (Str.ofString "z") 19), .str (Str.ofString "customer one"), .str (Str.ofString "customer two"), .str (Str.ofString "1"), .str (Str.ofString "-1"), .int 2, .str (Str.ofString "abc"), .str (Str.ofString "abd")]
theorem allV : (someV ++ moreV).all pvB = true := by decide +kernel
abbrev sgn1 : String := " !#$&'()*+,-./0123456789:;<=>?@ABCDEFGHIJKLMNOPQRSTUVWXYZ[]^_{|}~"
abbrev sgn2 : String := "abcdefghijklmnopqrstuvwxyz"
theorem value_ok {st : Store} {n : Nat} (t : Tp st n) : ∃ d st', m__law_value [.ref n] st = some (d, st') ∧ pvB d = true ∧ Tp st' n ∧ Fr n st st' ∧ st'.length = st.length := by
  obtain ⟨r, s1, h1, r0, r8, t1, f1, l1⟩ := pick_ok t (s := 24) (by decide) (by decide)
  by_cases c0 : r = 0
  · subst c0
    let sg : List D := (Str.ofString sgn1 ++ Str.ofString sgn2).cps.toList.map fun c => D.str ⟨#[c]⟩
    have hsg : ∀ v ∈ sg, ∃ x, v = .str x ∧ GS 1 x := fun v hv => by
      obtain ⟨c, hc, rfl⟩ := List.mem_map.mp hv
      refine ⟨_, rfl, Nat.le_refl _, fun y hy => ?_⟩
      have : y = c := by simpa using hy
      subst this
      have := List.all_eq_true.mp (show ((Str.ofString sgn1 ++ Str.ofString sgn2).cps.toList.all fun c => decide (c < 128)) = true by decide +kernel) y hc
      exact of_decide_eq_true this
    have ad : opAdd (.str (Str.ofString sgn1)) (.str (Str.ofString sgn2)) = some (.str (Str.ofString sgn1 ++ Str.ofString sgn2)) := opAdd_str (by decide +kernel)
    have bl : bList [.str (Str.ofString sgn1 ++ Str.ofString sgn2)] = fun _ => some (.lst sg) := by
      funext s
      have : (Str.ofString sgn1 ++ Str.ofString sgn2).length ≤ sizeLine := Nat.le_trans (show _ ≤ 1000 by decide +kernel) (by decide)
      simp [bList, listSeq, listTxt, this, sg]
    obtain ⟨r2, s2, h2, r20, r24, t2, f2, l2⟩ := pick_ok t1 (s := 20) (by decide) (by decide)
    obtain ⟨vs, s3, h3, l3, p3, t3, f3, q3⟩ := loopC_draw2 (is := [3]) (bd := b1) (f := fCall m__law_one_of (aCons (fVar 0) (aCons (fVar 1) aNil))) (n := n) (P := fun v => ∃ x, v = .str x ∧ GS 1 x)
      (env := [some (.ref n), some (.lst sg), none, none]) (ds := rg 0 (1 + r2)) (fun d hd => ⟨[d], rfl, fun s t => by
        obtain ⟨v, s', g1, g2, g3, g4, g5⟩ := one_ok (xs := sg) t (by decide +kernel) (by decide +kernel)
        exact ⟨v, s', by simp [fCall, aCons, aNil, fVar, setL, e_one, g1], hsg v g2, g3, g4, g5⟩⟩) t2
    obtain ⟨w, hw, gw⟩ := join_ok (m := 1) (k := 20) p3 (by rw [l3, rg_len]; omega) (by decide)
    have zc : vs.length ≤ sizeLine := Nat.le_trans (by rw [l3, rg_len]; omega) (show 20 ≤ sizeLine by decide)
    have ra := asR1_ok (n := 1 + r2) (by omega) (by omega)
    refine ⟨.str w, s3, ?_, pv_str (gw.mono (by decide)), t3, (f1.trans f2).trans f3, by rw [q3, l2, l1]⟩
    rw [e_one] at h3
    simp [m__law_value, g__law_value, mOf, outM, startD, sSeq, sAsg, gN, sIf, sRet, sNil, fCall, aCons, aNil, fVar, fC, fTest, fOp, e_pick, h1, opEq_int, asB, ad, fMk, bl, fMt, fComp, iOfA, h2, opAdd_int, ra, wipeL, e_one, h3, zc, hw]
  · have q0 : (r == 0) = false := by simp [c0]
    obtain ⟨d, s2, h2, m2, t2, f2, l2⟩ := one_ok (xs := someV ++ moreV) t1 (by decide) (by decide)
    refine ⟨d, s2, ?_, List.all_eq_true.mp allV d m2, t2, f1.trans f2, by rw [l2, l1]⟩
    have z1 : 17 ≤ sizeLine := by decide
    have z2 : 8 ≤ sizeLine := by decide
    have ad : opAdd (.lst someV) (.lst moreV) = some (.lst (someV ++ moreV)) := addL_ok (by decide)
    simp only [someV, moreV] at ad h2
    simp [m__law_value, g__law_value, mOf, outM, startD, sSeq, sAsg, gN, sIf, sRet, sNil, fCall, aCons, aNil, fVar, fC, fTest, fOp, e_pick, h1, opEq_int, asB, q0, fMk, mkLst, subI_int, pow109, mulz, z1, z2]
    simp at ad h2
    simp [ad, e_one, h2]
end LW
namespace LW
open PySem PySem.Spec PyProof.Rows L2 DL TL
inductive C where
  | all | eq (c : Nat) (v : D) | lt (c : Nat) (v : D) | st (c : Nat) (x : Str) | one (c : Nat) (us : List D) | not (p : C) | and (p q : C) | or (p q : C)
def nm (s : String) : D := .str (Str.ofString s)
def C.d : C → D
  | .all => .tup [.str (Str.ofString "all")]
  | .eq c v => .tup [.str (Str.ofString "equal"), .int c, v]
  | .lt c v => .tup [.str (Str.ofString "less"), .int c, v]
  | .st c x => .tup [.str (Str.ofString "starts"), .int c, .str x]
  | .one c us => .tup [.str (Str.ofString "one_of"), .int c, .tup us]
  | .not p => .tup [.str (Str.ofString "not"), p.d]
  | .and p q => .tup [.str (Str.ofString "and"), p.d, q.d]
  | .or p q => .tup [.str (Str.ofString "or"), p.d, q.d]
def C.ok (w : Nat) : C → Prop
  | .all => True
  | .eq c v => c < w ∧ pvB v = true
  | .lt c v => c < w ∧ pvB v = true
  | .st c x => c < w ∧ GS 10 x ∧ 0 < x.length
  | .one c us => c < w ∧ us.length ≤ 8 ∧ 0 < us.length ∧ ∀ u ∈ us, pvB u = true
  | .not p => p.ok w
  | .and p q => p.ok w ∧ q.ok w
  | .or p q => p.ok w ∧ q.ok w
def C.ht : C → Nat
  | .not p => p.ht + 1
  | .and p q => max p.ht q.ht + 1
  | .or p q => max p.ht q.ht + 1
  | _ => 1
theorem C.ht_pos : ∀ c : C, 1 ≤ c.ht
  | .all => Nat.le_refl _
  | .eq _ _ => Nat.le_refl _
  | .lt _ _ => Nat.le_refl _
  | .st _ _ => Nat.le_refl _
  | .one _ _ => Nat.le_refl _
  | .not _ => Nat.le_add_left _ _
  | .and _ _ => Nat.le_add_left _ _
  | .or _ _ => Nat.le_add_left _ _
theorem sm_name {s : String} (h : asc 16 (Str.ofString s) = true) (dp : Nat) : Sm dp 40 (.str (Str.ofString s)) := (Sm.str (asc_gs h)).mono (Nat.zero_le _) (by decide)
theorem C.sm {w : Nat} (hw : w ≤ 10) : ∀ c : C, c.ok w → Sm (c.ht + 1) (500 * 2 ^ c.ht - 100) c.d
  | .all, _ => (Sm.tup (SmL.cons (sm_name (s := "all") (by decide +kernel) 0) (SmL.nil.mono (Nat.zero_le _) (Nat.le_refl _)))).mono (show _ ≤ 1 + 1 by decide) (show _ ≤ 500 * 2 ^ 1 - 100 by decide)
  | .eq c v, h => (Sm.tup (SmL.cons (sm_name (s := "equal") (by decide +kernel) 0) (SmL.cons (Sm.int (i := c) (by have := h.1; omega)) (SmL.cons (pv_sm h.2) SmL.nil)))).mono (show _ ≤ 1 + 1 by decide) (show _ ≤ 500 * 2 ^ 1 - 100 by decide)
  | .lt c v, h => (Sm.tup (SmL.cons (sm_name (s := "less") (by decide +kernel) 0) (SmL.cons (Sm.int (i := c) (by have := h.1; omega)) (SmL.cons (pv_sm h.2) SmL.nil)))).mono (show _ ≤ 1 + 1 by decide) (show _ ≤ 500 * 2 ^ 1 - 100 by decide)
  | .st c x, h => (Sm.tup (SmL.cons (sm_name (s := "starts") (by decide +kernel) 0) (SmL.cons (Sm.int (i := c) (by have := h.1; omega)) (SmL.cons (Sm.str h.2.1) SmL.nil)))).mono (show _ ≤ 1 + 1 by decide) (show _ ≤ 500 * 2 ^ 1 - 100 by decide)
  | .one c us, h => by
    have h1 : SmL 0 (us.length * 41) us := SmL.all fun u hu => pv_sm (h.2.2.2 u hu)
    have h2 : us.length * 41 ≤ 8 * 41 := Nat.mul_le_mul_right _ h.2.1
    exact (Sm.tup (SmL.cons (sm_name (s := "one_of") (by decide +kernel) 1) (SmL.cons ((Sm.int (i := c) (by have := h.1; omega)).mono (Nat.zero_le _) (Nat.le_refl _)) (SmL.cons (Sm.tup (h1.mono (Nat.le_refl _) h2)) (SmL.nil.mono (Nat.zero_le _) (Nat.le_refl _)))))).mono (show _ ≤ 1 + 1 by decide) (show _ ≤ 500 * 2 ^ 1 - 100 by decide)
  | .not p, h => by
    have hp := C.sm hw p h
    have := C.ht_pos p
    refine (Sm.tup (SmL.cons (sm_name (s := "not") (by decide +kernel) _) (SmL.cons hp (SmL.nil.mono (Nat.zero_le _) (Nat.le_refl _))))).mono (by show p.ht + 1 + 1 ≤ p.ht + 1 + 1; omega) ?_
    have e : C.ht (.not p) = p.ht + 1 := rfl
    have e2 : 2 ^ 1 ≤ 2 ^ p.ht := Nat.pow_le_pow_right (by decide) this
    rw [e, Nat.pow_succ]
    omega
  | .and p q, h => by
    have hp := C.sm hw p h.1
    have hq := C.sm hw q h.2
    have h1 := C.ht_pos p
    have e : C.ht (.and p q) = max p.ht q.ht + 1 := rfl
    have m1 := Nat.le_max_left p.ht q.ht
    have m2 := Nat.le_max_right p.ht q.ht
    rw [e]
    generalize max p.ht q.ht = m at *
    have e1 : 2 ^ p.ht ≤ 2 ^ m := Nat.pow_le_pow_right (by decide) m1
    have e2 : 2 ^ q.ht ≤ 2 ^ m := Nat.pow_le_pow_right (by decide) m2
    have e3 : 2 ^ 1 ≤ 2 ^ p.ht := Nat.pow_le_pow_right (by decide) (by omega)
    have e4 : 2 ^ 1 ≤ 2 ^ q.ht := Nat.pow_le_pow_right (by decide) (C.ht_pos q)
    refine (Sm.tup (SmL.cons (sm_name (s := "and") (by decide +kernel) (m + 1)) (SmL.cons (hp.mono (by omega) (Nat.le_refl _)) (SmL.cons (hq.mono (by omega) (Nat.le_refl _)) (SmL.nil.mono (Nat.zero_le _) (Nat.le_refl _)))))).mono (by omega) ?_
    rw [Nat.pow_succ]
    omega
  | .or p q, h => by
    have hp := C.sm hw p h.1
    have hq := C.sm hw q h.2
    have h1 := C.ht_pos p
    have e : C.ht (.or p q) = max p.ht q.ht + 1 := rfl
    have m1 := Nat.le_max_left p.ht q.ht
    have m2 := Nat.le_max_right p.ht q.ht
    rw [e]
    generalize max p.ht q.ht = m at *
    have e1 : 2 ^ p.ht ≤ 2 ^ m := Nat.pow_le_pow_right (by decide) m1
    have e2 : 2 ^ q.ht ≤ 2 ^ m := Nat.pow_le_pow_right (by decide) m2
    have e3 : 2 ^ 1 ≤ 2 ^ p.ht := Nat.pow_le_pow_right (by decide) (by omega)
    have e4 : 2 ^ 1 ≤ 2 ^ q.ht := Nat.pow_le_pow_right (by decide) (C.ht_pos q)
    refine (Sm.tup (SmL.cons (sm_name (s := "or") (by decide +kernel) (m + 1)) (SmL.cons (hp.mono (by omega) (Nat.le_refl _)) (SmL.cons (hq.mono (by omega) (Nat.le_refl _)) (SmL.nil.mono (Nat.zero_le _) (Nat.le_refl _)))))).mono (by omega) ?_
    rw [Nat.pow_succ]
    omega
def startsV : List D := [.str (Str.ofString "a"), .str (Str.ofString "ab"), .str (Str.ofString "b"), .str (Str.ofString "A"), .str (Str.ofString " "), .str (Str.ofString "1"), .str (Str.ofString "-"), .str (Str.ofString "N"), .str (Str.ofString "customer"), .str (Str.ofString "abc")]
def stB : D → Bool | .str x => asc 10 x && decide (0 < x.length) | _ => false
theorem allSt : startsV.all stB = true := by decide +kernel
theorem test_ok {st : Store} {n : Nat} {w : Int} (t : Tp st n) (h0 : 0 < w) (h1 : w ≤ 10) : ∃ c st', m__law_test [.ref n, .int w] st = some (C.d c, st') ∧ c.ok w.toNat ∧ c.ht = 1 ∧ Tp st' n ∧ Fr n st st' ∧ st'.length = st.length := by
  obtain ⟨co, s1, g1, c0, c1, t1, f1, l1⟩ := pick_ok t (s := w) h0 (by omega)
  obtain ⟨r, s2, g2, r0, r6, t2, f2, l2⟩ := pick_ok t1 (s := 6) (by decide) (by decide)
  have hc : ((co.toNat : Nat) : Int) = co := Int.toNat_of_nonneg c0
  have hlt : co.toNat < w.toNat := by omega
  have z1 : 1 ≤ sizeLine := by decide
  have z3 : 3 ≤ sizeLine := by decide
  have f12 := f1.trans f2
  have l12 : s2.length = st.length := by rw [l2, l1]
  by_cases k0 : r = 0
  · subst k0
    exact ⟨.all, s2, by simp [m__law_test, g__law_test, mOf, outM, startD, sSeq, sPar, par2, fCall, aCons, aNil, fVar, fC, e_pick, g1, g2, sIf, fTest, fOp, opEq_int, asB, sRet, fMk, mkTup, z1, C.d], trivial, rfl, t2, f12, l12⟩
  · have q0 : (r == 0) = false := by simp [k0]
    by_cases k1 : r = 1
    · subst k1
      obtain ⟨v, s3, g3, pv, t3, f3, l3⟩ := value_ok t2
      exact ⟨.eq co.toNat v, s3, by simp [m__law_test, g__law_test, mOf, outM, startD, sSeq, sPar, par2, fCall, aCons, aNil, fVar, fC, e_pick, g1, g2, sIf, sNil, fTest, fOp, opEq_int, asB, sRet, fMk, mkTup, z3, C.d, g3, hc], ⟨hlt, pv⟩, rfl, t3, f12.trans f3, by rw [l3, l12]⟩
    · have q1 : (r == 1) = false := by simp [k1]
      by_cases k4 : r < 4
      · obtain ⟨v, s3, g3, pv, t3, f3, l3⟩ := value_ok t2
        exact ⟨.lt co.toNat v, s3, by simp [m__law_test, g__law_test, mOf, outM, startD, sSeq, sPar, par2, fCall, aCons, aNil, fVar, fC, e_pick, g1, g2, sIf, sNil, fTest, fOp, opEq_int, opLt_int, asB, q0, q1, k4, sRet, fMk, mkTup, z3, C.d, g3, hc], ⟨hlt, pv⟩, rfl, t3, f12.trans f3, by rw [l3, l12]⟩
      · by_cases k5 : r = 4
        · subst k5
          obtain ⟨d, s3, g3, md, t3, f3, l3⟩ := one_ok (xs := startsV) t2 (by decide) (by decide)
          have hs := List.all_eq_true.mp allSt d md
          obtain ⟨x, rfl, gx⟩ : ∃ x, d = .str x ∧ (asc 10 x && decide (0 < x.length)) = true := by
            cases d <;> first
              | exact ⟨_, rfl, hs⟩
              | cases hs
          rw [Bool.and_eq_true] at gx
          have z10 : 10 ≤ sizeLine := by decide
          simp only [startsV] at g3
          exact ⟨.st co.toNat x, s3, by simp [m__law_test, g__law_test, mOf, outM, startD, sSeq, sPar, par2, fCall, aCons, aNil, fVar, fC, e_pick, e_one, g1, g2, sIf, sNil, fTest, fOp, opEq_int, opLt_int, asB, sRet, fMk, mkTup, mkLst, z3, z10, C.d, g3, hc], ⟨hlt, asc_gs gx.1, of_decide_eq_true gx.2⟩, rfl, t3, f12.trans f3, by rw [l3, l12]⟩
        · have q4 : (r == 4) = false := by simp [k5]
          obtain ⟨a, s3, g3, a0, a4, t3, f3, l3⟩ := pick_ok t2 (s := 4) (by decide) (by decide)
          obtain ⟨b, s4, g4, b0, b4, t4, f4, l4⟩ := pick_ok t3 (s := 4) (by decide) (by decide)
          obtain ⟨d, s5, g5, md, t5, f5, l5⟩ := one_ok (xs := [.int a, .int (4 + b)]) t4 (by simp) (by simp)
          obtain ⟨m, rfl, m0, m8⟩ : ∃ m : Int, d = .int m ∧ 0 ≤ m ∧ m < 8 := by
            simp only [List.mem_cons, List.not_mem_nil, or_false] at md
            rcases md with rfl | rfl
            · exact ⟨_, rfl, by omega, by omega⟩
            · exact ⟨_, rfl, by omega, by omega⟩
          obtain ⟨vs, s6, g6, l6, p6, t6, f6, q6⟩ := loopC_draw2 (is := [5]) (bd := b1) (f := fCall m__law_value (aCons (fVar 0) aNil)) (n := n) (P := fun v => pvB v = true)
            (env := [some (.ref n), some (.int w), some (.int co), some (.int r), some (.int (1 + m)), none]) (ds := rg 0 (1 + m)) (fun d hd => ⟨[d], rfl, fun s t => by
              obtain ⟨v, s', x1, x2, x3, x4, x5⟩ := value_ok t
              exact ⟨v, s', by simp [fCall, aCons, aNil, fVar, setL, x1], x2, x3, x4, x5⟩⟩) t5
          rw [rg_len] at l6
          have ra := asR1_ok (n := 1 + m) (by omega) (by omega)
          have z2 : 2 ≤ sizeLine := by decide
          have zc : vs.length ≤ sizeLine := Nat.le_trans (by rw [l6]; omega) (show 10 ≤ sizeLine by decide)
          refine ⟨.one co.toNat vs, s6, ?_, ⟨hlt, by omega, by omega, p6⟩, rfl, t6, (((f12.trans f3).trans f4).trans f5).trans f6, by rw [q6, l5, l4, l3, l12]⟩
          simp [m__law_test, g__law_test, mOf, outM, startD, sSeq, sPar, par2, fCall, aCons, aNil, fVar, fC, e_pick, e_one, g1, g2, g3, g4, sIf, sNil, sAsg, gN, fTest, fOp, opEq_int, opLt_int, opAdd_int, asB, q0, q1, k4, q4, sRet, fMk, mkTup, mkLst, z2, z3, C.d, hc, g5, fComp, iOfA, ra, wipeL]
          simp [g6, zc, bTuple, z3]
theorem cond_ok : ∀ (k : Nat) {st : Store} {n : Nat} {w dp : Int}, Tp st n → 0 < w → w ≤ 10 → 0 ≤ dp → dp < k → ∃ c st', m__law_condition k [.ref n, .int w, .int dp] st = some (C.d c, st') ∧ c.ok w.toNat ∧ c.ht ≤ k ∧ Tp st' n ∧ Fr n st st' ∧ st'.length = st.length
  | 0, _, _, _, _, _, _, _, h, h2 => by omega
  | k + 1, st, n, w, dp, t, h0, h1, h2, h3 => by
    obtain ⟨r, s1, g1, r0, r6, t1, f1, l1⟩ := pick_ok t (s := 6) (by decide) (by decide)
    by_cases c1 : dp = 0 ∨ r < 2
    · obtain ⟨c, s2, g2, ok, hh, t2, f2, l2⟩ := test_ok t1 h0 h1
      refine ⟨c, s2, ?_, ok, by omega, t2, f1.trans f2, by rw [l2, l1]⟩
      rcases c1 with rfl | c1
      · simp [m__law_condition, g__law_condition, mOf, outM, startD, sSeq, sAsg, gN, sIf, sRet, fCall, aCons, aNil, fVar, fC, e_pick, g1, fOrT, fTest, fOp, opEq_int, asB, g2]
      · by_cases z : dp = 0
        · subst z
          simp [m__law_condition, g__law_condition, mOf, outM, startD, sSeq, sAsg, gN, sIf, sRet, fCall, aCons, aNil, fVar, fC, e_pick, g1, fOrT, fTest, fOp, opEq_int, asB, g2]
        · have z' : (dp == 0) = false := by simp [z]
          simp [m__law_condition, g__law_condition, mOf, outM, startD, sSeq, sAsg, gN, sIf, sRet, fCall, aCons, aNil, fVar, fC, e_pick, g1, fOrT, fTest, fOp, opEq_int, opLt_int, c1, z', asB, g2]
    · have c2 : ¬ dp = 0 := fun z => c1 (.inl z)
      have c3 : ¬ r < 2 := fun z => c1 (.inr z)
      have q0 : (dp == 0) = false := by simp [c2]
      have z1 : 1 ≤ sizeLine := by decide
      have z2 : 2 ≤ sizeLine := by decide
      by_cases c4 : r = 2
      · subst c4
        obtain ⟨c, s2, g2, ok, hh, t2, f2, l2⟩ := cond_ok k t1 h0 h1 (show 0 ≤ dp - 1 by omega) (by omega)
        refine ⟨.not c, s2, ?_, ok, Nat.succ_le_succ hh, t2, f1.trans f2, by rw [l2, l1]⟩
        simp [m__law_condition, g__law_condition, mOf, outM, startD, sSeq, sAsg, gN, sIf, sNil, sRet, fCall, aCons, aNil, fVar, fC, e_pick, g1, fOrT, fTest, fOp, opEq_int, opLt_int, subI_int, asB, q0, g2, fMk, mkTup, z2, C.d]
      · have q2 : (r == 2) = false := by simp [c4]
        obtain ⟨c, s2, g2, ok2, hh2, t2, f2, l2⟩ := cond_ok k t1 h0 h1 (show 0 ≤ dp - 1 by omega) (by omega)
        obtain ⟨e, s3, g3, ok3, hh3, t3, f3, l3⟩ := cond_ok k t2 h0 h1 (show 0 ≤ dp - 1 by omega) (by omega)
        obtain ⟨d, s4, g4, md, t4, f4, l4⟩ := one_ok (xs := [.str (Str.ofString "and"), .str (Str.ofString "or")]) t3 (by simp) (by simp)
        have fin : ∀ x : Str, d = .str x → m__law_condition (k + 1) [.ref n, .int w, .int dp] st = some (.tup [.str x, c.d, e.d], s4) := fun x hx => by
          subst hx
          have ad : opAdd (.tup [.str x]) (.tup [c.d, e.d]) = some (.tup [.str x, c.d, e.d]) := addT_ok (by simp)
          simp [m__law_condition, g__law_condition, mOf, outM, startD, sSeq, sAsg, gN, sIf, sNil, sRet, fCall, aCons, aNil, fVar, fC, e_pick, e_one, g1, fOrT, fTest, fOp, opEq_int, opLt_int, subI_int, asB, q0, c3, q2, g2, g3, g4, fMk, mkTup, mkLst, z1, z2, ad]
        have fr := ((f1.trans f2).trans f3).trans f4
        have ln : s4.length = st.length := by rw [l4, l3, l2, l1]
        simp only [List.mem_cons, List.not_mem_nil, or_false] at md
        rcases md with hd | hd
        · exact ⟨.and c e, s4, fin _ hd, ⟨ok2, ok3⟩, Nat.succ_le_succ (Nat.max_le.mpr ⟨hh2, hh3⟩), t4, fr, ln⟩
        · exact ⟨.or c e, s4, fin _ hd, ⟨ok2, ok3⟩, Nat.succ_le_succ (Nat.max_le.mpr ⟨hh2, hh3⟩), t4, fr, ln⟩
end LW
namespace LW
open PySem PySem.Spec PyProof.Rows L2 DL TL
/-! what the document says of values and conditions -/
def signB (c : Nat) : Bool := decide (32 ≤ c ∧ c ≤ 126)
def isInt : D → Bool | .int _ => true | _ => false
def strB : D → Bool | .str x => decide (x.length ≤ 20) && (tl x).all signB | _ => false
def valB : D → Bool | .non => true | .int i => decide (-1000000000 ≤ i ∧ i ≤ 1000000000) | .str x => decide (x.length ≤ 20) && (tl x).all signB | _ => false
def choiceB : D → Bool | .tup us => decide (1 ≤ us.length ∧ us.length ≤ 8) && us.all valB | _ => false
def colB (w : Int) : D → Bool | .int i => decide (0 ≤ i ∧ i < w) | _ => false
def okw (d : D) : Prop := okD d = true ∧ wD d ≤ 200000
theorem okw.mem {ds : List D} (h : okw (.tup ds)) {d : D} (m : d ∈ ds) : okw d := ⟨okL_mem.mp h.1 d m, by have := wL_mem m; have h2 : wL ds ≤ 200000 := h.2; omega⟩
theorem len_wL : ∀ ds : List D, ds.length ≤ wL ds
  | [] => Nat.le_refl _
  | d :: ds => by have := len_wL ds; rw [wL, List.length_cons]; omega
theorem okw.len {ds : List D} (h : okw (.tup ds)) : ds.length ≤ sizeLine := Nat.le_trans (len_wL ds) (Nat.le_trans h.2 (by rw [sizeLine_eq]; decide))
theorem okw.strlen {x : Str} (h : okw (.str x)) : x.length ≤ sizeLine := Nat.le_trans (show x.length ≤ 200000 from h.2) (by rw [sizeLine_eq]; decide)
theorem int_ok {d : D} (h : okw d) (st : Store) : m_is_integer [d] st = some (.bl (isInt d), st) := by
  cases d <;> first
    | (cases h.1; done)
    | (simp [m_is_integer, g_is_integer, mOf, outM, startD, sRet, fAnd, fNot, fIsi, fVar, tyD, isiB, asB, isInt]; done)
theorem lt1 {a b : Nat} (h : a < b) : ([a] : List Nat) < [b] := by simp [List.cons_lt_cons_iff, h]
theorem le1 {a b : Nat} (h : a ≤ b) : ([a] : List Nat) ≤ [b] := List.not_lt.mp (by simp [List.cons_lt_cons_iff]; omega)
theorem chain_sign (c : Nat) (env : Lo) (st : Store) (h : env[1]? = some (some (.str ⟨#[c]⟩))) : fChain opLe opLe (fC (.str (Str.ofString " "))) (fVar 1) (fC (.str (Str.ofString "~"))) env st = some (.bl (signB c), st) := by
  have e1 : (Str.ofString " ").cps.toList = [32] := by decide +kernel
  have e2 : (Str.ofString "~").cps.toList = [126] := by decide +kernel
  have l1 : opLe (.str (Str.ofString " ")) (.str ⟨#[c]⟩) = some (.bl (decide (32 ≤ c))) := by
    by_cases q : 32 ≤ c
    · simp [opLe, orD, leI, leS, onI, onS, e1, q, le1 q]
    · simp [opLe, orD, leI, leS, onI, onS, e1, q, lt1 (show c < 32 by omega)]
  have l2 : opLe (.str ⟨#[c]⟩) (.str (Str.ofString "~")) = some (.bl (decide (c ≤ 126))) := by
    by_cases q : c ≤ 126
    · simp [opLe, orD, leI, leS, onI, onS, e2, q, le1 q]
    · simp [opLe, orD, leI, leS, onI, onS, e2, q, lt1 (show 126 < c by omega)]
  by_cases h1 : 32 ≤ c
  · simp [fChain, fC, fVar, h, l1, l2, asB, h1, signB]
  · simp [fChain, fC, fVar, h, l1, asB, h1, signB]
theorem bools_map : ∀ l : List Bool, bools (l.map .bl) = some l
  | [] => rfl
  | b :: l => by simp [bools, bools_map l]
def signD (c : Nat) : D := .str ⟨#[c]⟩
theorem signs_loop (x : Str) (st : Store) : loopC [1] b1 tTrue (fChain opLe opLe (fC (.str (Str.ofString " "))) (fVar 1) (fC (.str (Str.ofString "~")))) (x.cps.toList.map fun c => .str ⟨#[c]⟩) [some (.str x), none] st = some (((tl x).map signB).map .bl, st) := by
  have key : ∀ l : List Nat, loopC [1] b1 tTrue (fChain opLe opLe (fC (.str (Str.ofString " "))) (fVar 1) (fC (.str (Str.ofString "~")))) (l.map fun c => .str ⟨#[c]⟩) [some (.str x), none] st = some ((l.map signB).map .bl, st) := by
    intro l
    induction l with
    | nil => rfl
    | cons c l ih => simp only [List.map_cons, loopC, b1, Option.bind_some, tTrue, if_true, setL, chain_sign c [some (.str x), some (.str ⟨#[c]⟩)] st rfl, List.set_cons_succ, List.set_cons_zero, ih, Option.map_some]
  exact key (tl x)
theorem tl_len (x : Str) : (tl x).length = x.length := (len_tl x).symm
theorem string_ok {d : D} (h : okw d) (st : Store) : m_is_string [d] st = some (.bl (strB d), st) := by
  cases d with
  | str x =>
    have z := h.strlen
    by_cases c : x.length ≤ 20
    · have c2 : ¬ (20 : Int) < (x.length : Int) := by omega
      have zz : ((tl x).map signB).length ≤ sizeLine := by rw [List.length_map, tl_len]; exact z
      simp only [m_is_string, g_is_string, mOf, outM, startD, sSeq, sIf, sRet, sNil, fOrT, fNotT, fTest, fIsi, fVar, tyD, isiB, asB, fOp, fMk, bLen, lenL, aCons, aNil, fC]
      simp [z, opGt_int, c2, fComp, iOf, fVar, asStr, wipeL]
      rw [signs_loop x st]
      have ba := bools_map ((tl x).map signB)
      simp at ba zz
      simp [zz, ba, bAll, strB, c]
    · have c2 : (20 : Int) < (x.length : Int) := by omega
      simp [m_is_string, g_is_string, mOf, outM, startD, sSeq, sIf, sRet, sNil, fOrT, fNotT, fTest, fIsi, fVar, tyD, isiB, asB, fOp, fMk, bLen, lenL, aCons, aNil, fC, z, opGt_int, c2, strB, c]
  | scr _ => cases h.1
  | ref _ => cases h.1
  | _ => simp [m_is_string, g_is_string, mOf, outM, startD, sSeq, sIf, sRet, fOrT, fNotT, fTest, fIsi, fVar, tyD, isiB, asB, fC, strB]
end LW
namespace LW
open PySem PySem.Spec PyProof.Rows L2 DL TL
theorem opLe_int (a b : Int) : opLe (.int a) (.int b) = some (.bl (decide (a ≤ b))) := by simp [opLe, orD, leI, onI]
theorem chain_int {a b c : Int} {fa fb fc : F} {env : Lo} {st : Store} (h1 : fa env st = some (.int a, st)) (h2 : fb env st = some (.int b, st)) (h3 : fc env st = some (.int c, st)) : fChain opLe opLe fa fb fc env st = some (.bl (decide (a ≤ b ∧ b ≤ c)), st) := by
  by_cases q : a ≤ b
  · simp [fChain, h1, h2, h3, opLe_int, asB, q]
  · simp [fChain, h1, h2, opLe_int, asB, q]
theorem isval_ok {d : D} (h : okw d) (st : Store) : m_is_value [d] st = some (.bl (valB d), st) := by
  have k := string_ok h st
  have k2 := int_ok h st
  cases d with
  | int i =>
    have c := chain_int (a := -1000000000) (b := i) (c := 1000000000) (fa := fUn negI (fC (.int 1000000000))) (fb := fVar 0) (fc := fC (.int 1000000000)) (env := [some (.int i)]) (st := st) (by simp [fUn, negI, fC]) (by simp [fVar]) (by simp [fC])
    simp only [m_is_value, g_is_value, mOf, outM, startD, sSeq, sIf, sRet, sNil, fTest, fCall, aCons, aNil, List.map_cons, List.map_nil, List.singleton_append, show N_is_value.length = 1 from rfl, List.length_cons, List.length_nil, show List.replicate (1 - (0 + 1)) (none : Option D) = [] from rfl]
    simp [fVar, k2, isInt, asB]
    rw [show ([some (D.int i)] : Lo) = [some (.int i)] from rfl, c]
    simp [valB]
  | scr _ => cases h.1
  | ref _ => cases h.1
  | _ => simp [m_is_value, g_is_value, mOf, outM, startD, sSeq, sIf, sRet, sNil, fTest, fCall, aCons, aNil, fVar, k2, isInt, asB, fOr, fOp, fC, opIs, orD, isN, isB, isNon, k, strB, valB]
theorem map_loop {is : List Nat} {f : F} {env : Lo} {st : Store} {g : D → Bool} {us : List D} (h : ∀ u ∈ us, f (setL is [u] env) st = some (.bl (g u), st)) : loopC is b1 tTrue f us env st = some ((us.map g).map .bl, st) := by
  have := loopC_map (is := is) (bd := b1) (f := f) (g := fun u => .bl (g u)) (env := env) (st := st) (ds := us) fun d hd => ⟨[d], rfl, h d hd⟩
  rw [this, List.map_map]
  rfl
theorem all_id (g : D → Bool) (us : List D) : (us.map g).all id = us.all g := by
  induction us with
  | nil => rfl
  | cons u us ih => rw [List.map_cons, List.all_cons, List.all_cons, ih]; rfl
theorem choice_ok {d : D} (h : okw d) (st : Store) : m_is_choice [d] st = some (.bl (choiceB d), st) := by
  cases d with
  | tup us =>
    have z := h.len
    have c := chain_int (a := 1) (b := us.length) (c := 8) (fa := fC (.int 1)) (fb := fMk bLen (aCons (fVar 0) aNil)) (fc := fC (.int 8)) (env := [some (.tup us), none]) (st := st) (by simp [fC]) (by simp [fMk, bLen, lenL, aCons, aNil, fVar]) (by simp [fC])
    have lp := map_loop (is := [1]) (f := fCall m_is_value (aCons (fVar 1) aNil)) (env := [some (.tup us), none]) (st := st) (g := valB) (us := us) (fun u hu => by simp [fCall, aCons, aNil, fVar, setL, isval_ok (h.mem hu)])
    by_cases q : 1 ≤ us.length ∧ us.length ≤ 8
    · have q2 : (1 : Int) ≤ us.length ∧ (us.length : Int) ≤ 8 := by omega
      simp [m_is_choice, g_is_choice, mOf, outM, startD, sSeq, sIf, sRet, sNil, fOrT, fNotT, fTest, fIsi, tyD, isiB, asB, fVar, c, q2, fMk, aCons, aNil, fComp, iOf, asT, wipeL, lp, z, bAll, choiceB, q]
      have ba := bools_map (us.map valB)
      have al := all_id valB us
      simp at ba al
      simp [ba, al]
    · have q2 : ¬ ((1 : Int) ≤ us.length ∧ (us.length : Int) ≤ 8) := by omega
      simp only [q2, decide_false] at c
      simp only [m_is_choice, g_is_choice, mOf, outM, startD, sSeq, sIf, sRet, sNil, fOrT, fNotT, fTest, fIsi, tyD, isiB, asB, choiceB]
      simp [fVar, c, fC, q]
  | scr _ => cases h.1
  | ref _ => cases h.1
  | _ => simp [m_is_choice, g_is_choice, mOf, outM, startD, sSeq, sIf, sRet, sNil, fOrT, fNotT, fTest, fIsi, tyD, isiB, asB, fVar, fC, choiceB]
theorem column_ok {d : D} (h : okw d) (w : Int) (st : Store) : m_is_column [d, .int w] st = some (.bl (colB w d), st) := by
  have k2 := int_ok h st
  cases d with
  | int i =>
    by_cases q : 0 ≤ i
    · simp [m_is_column, g_is_column, mOf, outM, startD, sRet, fAnd, fCall, aCons, aNil, fVar, k2, isInt, asB, fChain, fC, opLe_int, q, opLt_int, colB]
    · simp [m_is_column, g_is_column, mOf, outM, startD, sRet, fAnd, fCall, aCons, aNil, fVar, k2, isInt, asB, fChain, fC, opLe_int, q, opLt_int, colB]
  | scr _ => cases h.1
  | ref _ => cases h.1
  | _ => simp [m_is_column, g_is_column, mOf, outM, startD, sRet, fAnd, fCall, aCons, aNil, fVar, k2, isInt, asB, colB]
/-- the text of a kind -/
def isK (s : String) : D → Bool | .str x => x == Str.ofString s | _ => false
theorem isK_str (s : String) (x : Str) : isK s (.str x) = (x == Str.ofString s) := rfl
theorem eqS_ok {d : D} (h : okD d = true) (s : String) : eqS (Str.ofString s) d = some (isK s d) := by
  cases d <;> first
    | rfl
    | (cases h; done)
theorem eqA_k {d : D} (h : okD d = true) (s : String) : opEqA d (.str (Str.ofString s)) = some (.bl (isK s d)) := by
  simp [opEqA, orD, DL.eqT, eqS_ok h s]
theorem inA_k {d : D} (h : okD d = true) (a b : String) : opInA d (.tup [.str (Str.ofString a), .str (Str.ofString b)]) = some (.bl (isK a d || isK b d)) := by
  simp [opInA, orD, inStr, strsD, anyS, eqS_ok h]
def operB (k : D) (d : D) : Bool := if isK "equal" k || isK "less" k then valB d else if isK "starts" k then (strB d && !isK "" d) else isK "one_of" k && choiceB d
theorem oper_ok {k d : D} (hk : okw k) (h : okw d) (st : Store) : m_is_operand [k, d] st = some (.bl (operB k d), st) := by
  have z2 : 2 ≤ sizeLine := by decide
  have e1 := inA_k hk.1 "equal" "less"
  have e2 := eqA_k hk.1 "starts"
  have e3 := eqA_k hk.1 "one_of"
  by_cases q : (isK "equal" k || isK "less" k) = true
  · rw [q] at e1
    simp [m_is_operand, g_is_operand, mOf, outM, startD, sSeq, sIf, sRet, sNil, fTest, fOp, fVar, fC, fMk, mkTup, aCons, aNil, z2, e1, asB, fCall, isval_ok h, operB, q]
  · simp only [Bool.not_eq_true] at q
    rw [q] at e1
    cases q2 : isK "starts" k with
    | true =>
      rw [q2] at e2
      have s := string_ok h st
      cases d with
      | str x =>
        have gx : GS x.length x := ⟨Nat.le_refl _, fun c hc => of_decide_eq_true (List.all_eq_true.mp h.1 c hc)⟩
        have ne := opNe_fv (m := x.length) (n := 0) (a := .str x) (b := .str (Str.ofString "")) gx (asc_gs (by decide +kernel))
        cases sb : strB (.str x) <;> simp [m_is_operand, g_is_operand, mOf, outM, startD, sSeq, sIf, sRet, sNil, fTest, fOp, fVar, fC, fMk, mkTup, aCons, aNil, z2, e1, e2, asB, fCall, fAnd, s, sb, ne, operB, q, q2, vEq, isK_str]
      | scr _ => cases h.1
      | ref _ => cases h.1
      | _ => simp [m_is_operand, g_is_operand, mOf, outM, startD, sSeq, sIf, sRet, sNil, fTest, fOp, fVar, fC, fMk, mkTup, aCons, aNil, z2, e1, e2, asB, fCall, fAnd, s, strB, operB, q, q2]
    | false =>
      rw [q2] at e2
      cases q3 : isK "one_of" k with
      | true =>
        rw [q3] at e3
        simp [m_is_operand, g_is_operand, mOf, outM, startD, sSeq, sIf, sRet, sNil, fTest, fOp, fVar, fC, fMk, mkTup, aCons, aNil, z2, e1, e2, e3, asB, fCall, fAnd, choice_ok h, operB, q, q2, q3]
      | false =>
        rw [q3] at e3
        simp [m_is_operand, g_is_operand, mOf, outM, startD, sSeq, sIf, sRet, sNil, fTest, fOp, fVar, fC, fMk, mkTup, aCons, aNil, z2, e1, e2, e3, asB, fCall, fAnd, operB, q, q2, q3]
end LW
namespace LW
open PySem PySem.Spec PyProof.Rows L2 DL TL
/-- a condition of depth k at most -/
def cw (w : Int) : Nat → D → Bool
  | k + 1, .tup (h :: r) => if isK "all" h then r.isEmpty else if isK "not" h then (match r with | [p] => cw w k p | _ => false) else (match r with | [p, q] => if isK "and" h || isK "or" h then cw w k p && cw w k q else colB w p && operB h q | _ => false)
  | _, _ => false
theorem ix0 {a : D} {r : List D} : L2.atI (a :: r) 0 = some a := atI_nat (j := 0) rfl
theorem ix1 {a b : D} {r : List D} : L2.atI (a :: b :: r) 1 = some b := atI_nat (j := 1) rfl
theorem ix2 {a b c : D} {r : List D} : L2.atI (a :: b :: c :: r) 2 = some c := atI_nat (j := 2) rfl
theorem cut1 {a : D} {r : List D} : DL.cutD (a :: r) (some 1) none = r := by
  unfold DL.cutD
  rw [show (1 : Int) = ((1 : Nat) : Int) from rfl, HT.sIx_nat, HT.sIx_none]
  simp
theorem within_ok (w : Int) : ∀ (k : Nat) {d : D}, okw d → ∀ (dp : Int), dp = k → ∀ st : Store, m_is_condition_within (k + 1) [d, .int w, .int dp] st = some (.bl (cw w k d), st)
  | 0, d, h, dp, e, st => by
    subst e
    have : cw w 0 d = false := by cases d <;> rfl
    simp [m_is_condition_within, g_is_condition_within, mOf, outM, startD, sSeq, sIf, sRet, fOrT, fTest, fOp, fVar, fC, opEq_int, asB, this]
  | k + 1, d, h, dp, e, st => by
    have ne : (dp == 0) = false := by
      rw [e]
      exact beq_eq_false_iff_ne.mpr (by omega)
    have sub : dp - 1 = (k : Int) := by omega
    cases d with
    | tup ds =>
      cases ds with
      | nil => simp [m_is_condition_within, g_is_condition_within, mOf, outM, startD, sSeq, sIf, sRet, fOrT, fNotT, fTest, fOp, fVar, fC, opEq_int, asB, ne, fIsi, tyD, isiB, fMk, bLen, lenL, aCons, aNil, cw]
      | cons a r =>
        have oa : okw a := h.mem List.mem_cons_self
        have e1 := eqA_k oa.1 "all"
        have e2 := eqA_k oa.1 "not"
        have e3 := inA_k oa.1 "and" "or"
        have z2 : 2 ≤ sizeLine := by decide
        have nz : (((r.length : Int) + 1) == 0) = false := beq_eq_false_iff_ne.mpr (by omega)
        cases q1 : isK "all" a with
        | true =>
          rw [q1] at e1
          have : (((r.length : Int) + 1) == 1) = r.isEmpty := by
            cases r with
            | nil => rfl
            | cons b t =>
              rw [List.isEmpty_cons, List.length_cons]
              exact beq_eq_false_iff_ne.mpr (by omega)
          simp [m_is_condition_within, g_is_condition_within, mOf, outM, startD, sSeq, sIf, sRet, sNil, sAsg, gN, fOrT, fNotT, fTest, fOp, fVar, fC, opEq_int, asB, ne, fIsi, tyD, isiB, fMk, bLen, lenL, aCons, aNil, nz, fSub, ixD, ix0, e1, this, cw, q1]
        | false =>
          rw [q1] at e1
          cases q2 : isK "not" a with
          | true =>
            rw [q2] at e2
            match r, h with
            | [], h => simp [m_is_condition_within, g_is_condition_within, mOf, outM, startD, sSeq, sIf, sRet, sNil, sAsg, gN, fOrT, fNotT, fTest, fOp, fVar, fC, opEq_int, asB, ne, fIsi, tyD, isiB, fMk, bLen, lenL, aCons, aNil, fSub, ixD, ix0, e1, e2, fAnd, cw, q1, q2]
            | [p], h =>
              have op : okw p := h.mem (List.mem_cons_of_mem _ List.mem_cons_self)
              have ih := within_ok w k op (dp - 1) sub st
              rw [show m_is_condition_within (k + 1 + 1) = mOf N_is_condition_within.length (g_is_condition_within (m_is_condition_within (k + 1))) from rfl]
              generalize m_is_condition_within (k + 1) = M at ih ⊢
              simp [g_is_condition_within, mOf, outM, startD, sSeq, sIf, sRet, sNil, sAsg, gN, fOrT, fNotT, fTest, fOp, fVar, fC, opEq_int, asB, ne, fIsi, tyD, isiB, fMk, bLen, lenL, aCons, aNil, fSub, ixD, ix0, ix1, e1, e2, fAnd, cw, q1, q2, fCall, subI_int, ih]
            | p :: q :: t, h =>
              have n2 : (((t.length : Int) + 1 + 1 + 1) == 2) = false := beq_eq_false_iff_ne.mpr (by omega)
              have n0 : (((t.length : Int) + 1 + 1 + 1) == 0) = false := beq_eq_false_iff_ne.mpr (by omega)
              simp [m_is_condition_within, g_is_condition_within, mOf, outM, startD, sSeq, sIf, sRet, sNil, sAsg, gN, fOrT, fNotT, fTest, fOp, fVar, fC, opEq_int, asB, ne, fIsi, tyD, isiB, fMk, bLen, lenL, aCons, aNil, fSub, ixD, ix0, e1, e2, fAnd, cw, q1, q2, n0, n2]
          | false =>
            rw [q2] at e2
            match r, h with
            | [p, q], h =>
              have op : okw p := h.mem (List.mem_cons_of_mem _ List.mem_cons_self)
              have oq : okw q := h.mem (List.mem_cons_of_mem _ (List.mem_cons_of_mem _ List.mem_cons_self))
              have ip := within_ok w k op (dp - 1) sub st
              have iq := within_ok w k oq (dp - 1) sub st
              have cp := column_ok op w st
              have oq2 := oper_ok oa oq st
              have f2 : okw (.tup [p, q]) := ⟨okL_mem.mpr fun d hd => okL_mem.mp h.1 d (List.mem_cons_of_mem _ hd), by
                have h2 : wL [a, p, q] ≤ 200000 := h.2
                rw [wL] at h2
                show wL [p, q] ≤ 200000
                omega⟩
              rw [show m_is_condition_within (k + 1 + 1) = mOf N_is_condition_within.length (g_is_condition_within (m_is_condition_within (k + 1))) from rfl]
              generalize m_is_condition_within (k + 1) = M at ip iq ⊢
              cases q3 : (isK "and" a || isK "or" a) with
              | true =>
                rw [q3] at e3
                simp [g_is_condition_within, mOf, outM, startD, sSeq, sIf, sRet, sNil, sAsg, gN, fOrT, fNotT, fTest, fOp, fVar, fC, opEq_int, opNe_int, asB, ne, fIsi, tyD, isiB, fMk, bLen, lenL, aCons, aNil, fSub, ixD, ix0, e1, e2, cw, q1, q2, q3, mkTup, z2, e3, fComp, iOf, asT, fSlice, oSome, oNone, slD, cut1, wipeL, loopC, b1, tTrue, setL, fCall, subI_int, ip, iq, bAll, bools]
              | false =>
                rw [q3] at e3
                cases q4 : colB w p with
                | true =>
                  rw [q4] at cp
                  simp [g_is_condition_within, mOf, outM, startD, sSeq, sIf, sRet, sNil, sAsg, gN, fOrT, fNotT, fTest, fOp, fVar, fC, opEq_int, opNe_int, asB, ne, fIsi, tyD, isiB, fMk, bLen, lenL, aCons, aNil, fSub, ixD, ix0, ix1, ix2, e1, e2, cw, q1, q2, q3, q4, mkTup, z2, e3, fAnd, fCall, cp, oq2]
                | false =>
                  rw [q4] at cp
                  simp [g_is_condition_within, mOf, outM, startD, sSeq, sIf, sRet, sNil, sAsg, gN, fOrT, fNotT, fTest, fOp, fVar, fC, opEq_int, opNe_int, asB, ne, fIsi, tyD, isiB, fMk, bLen, lenL, aCons, aNil, fSub, ixD, ix0, ix1, ix2, e1, e2, cw, q1, q2, q3, q4, mkTup, z2, e3, fAnd, fCall, cp]
            | [], h => simp [m_is_condition_within, g_is_condition_within, mOf, outM, startD, sSeq, sIf, sRet, sNil, sAsg, gN, fOrT, fNotT, fTest, fOp, fVar, fC, opEq_int, opNe_int, asB, ne, fIsi, tyD, isiB, fMk, bLen, lenL, aCons, aNil, fSub, ixD, ix0, e1, e2, cw, q1, q2]
            | [p], h => simp [m_is_condition_within, g_is_condition_within, mOf, outM, startD, sSeq, sIf, sRet, sNil, sAsg, gN, fOrT, fNotT, fTest, fOp, fVar, fC, opEq_int, opNe_int, asB, ne, fIsi, tyD, isiB, fMk, bLen, lenL, aCons, aNil, fSub, ixD, ix0, e1, e2, cw, q1, q2]
            | p :: q :: b :: t, h =>
              have n2 : (((t.length : Int) + 1 + 1 + 1 + 1) == 3) = false := beq_eq_false_iff_ne.mpr (by omega)
              have n0 : (((t.length : Int) + 1 + 1 + 1 + 1) == 0) = false := beq_eq_false_iff_ne.mpr (by omega)
              simp [m_is_condition_within, g_is_condition_within, mOf, outM, startD, sSeq, sIf, sRet, sNil, sAsg, gN, fOrT, fNotT, fTest, fOp, fVar, fC, opEq_int, opNe_int, asB, ne, fIsi, tyD, isiB, fMk, bLen, lenL, aCons, aNil, fSub, ixD, ix0, e1, e2, cw, q1, q2, n0, n2]
    | scr _ => cases h.1
    | ref _ => cases h.1
    | _ => simp [m_is_condition_within, g_is_condition_within, mOf, outM, startD, sSeq, sIf, sRet, fOrT, fNotT, fTest, fOp, fVar, fC, opEq_int, asB, ne, fIsi, tyD, isiB, cw]
theorem cond_is {d : D} (h : okw d) (w : Int) (st : Store) : m_is_condition [d, .int w] st = some (.bl (cw w 8 d), st) := by
  have := within_ok w 8 h 8 rfl st
  simp [m_is_condition, g_is_condition, mOf, outM, startD, sRet, fCall, aCons, aNil, fVar, fC, this]
/-! the law's own reading -/
def rngB (a b : Int) : D → Bool | .int i => decide (a ≤ i ∧ i ≤ b) | _ => false
theorem linteger_ok {d : D} (h : okw d) (a b : Int) (st : Store) : m__law_integer [d, .int a, .int b] st = some (.bl (rngB a b d), st) := by
  cases d with
  | int i =>
    have c := chain_int (a := a) (b := i) (c := b) (fa := fVar 1) (fb := fVar 0) (fc := fVar 2) (env := [some (.int i), some (.int a), some (.int b)]) (st := st) (by simp [fVar]) (by simp [fVar]) (by simp [fVar])
    simp [m__law_integer, g__law_integer, mOf, outM, startD, sRet, fAnd, fNot, fIsi, tyD, isiB, asB, fVar]
    rw [c]
    simp [rngB]
  | scr _ => cases h.1
  | ref _ => cases h.1
  | _ => simp [m__law_integer, g__law_integer, mOf, outM, startD, sRet, fAnd, fNot, fIsi, tyD, isiB, asB, fVar, rngB]
theorem bad_loop (x : Str) (st : Store) : loopC [1] b1 (fNotT (fTest (fChain opLe opLe (fC (.str (Str.ofString " "))) (fVar 1) (fC (.str (Str.ofString "~")))))) (fVar 1) (x.cps.toList.map fun c => .str ⟨#[c]⟩) [some (.str x), none] st = some (((tl x).filter fun c => !signB c).map fun c => .str ⟨#[c]⟩, st) := by
  have key : ∀ l : List Nat, loopC [1] b1 (fNotT (fTest (fChain opLe opLe (fC (.str (Str.ofString " "))) (fVar 1) (fC (.str (Str.ofString "~")))))) (fVar 1) (l.map fun c => .str ⟨#[c]⟩) [some (.str x), none] st = some ((l.filter fun c => !signB c).map fun c => .str ⟨#[c]⟩, st) := by
    intro l
    induction l with
    | nil => rfl
    | cons c l ih =>
      have e := chain_sign c [some (.str x), some (.str ⟨#[c]⟩)] st rfl
      rw [List.map_cons, List.filter_cons]
      cases q : signB c with
      | true =>
        rw [q] at e
        simp only [loopC, b1, Option.bind_some, setL, List.set_cons_succ, List.set_cons_zero, fNotT, fTest, e, asB, Option.map_some, Bool.not_true, Bool.false_eq_true, if_false]
        exact ih
      | false =>
        rw [q] at e
        simp only [loopC, b1, Option.bind_some, setL, List.set_cons_succ, List.set_cons_zero, fNotT, fTest, e, asB, Option.map_some, Bool.not_false, if_true]
        rw [show fVar 1 [some (D.str x), some (D.str ⟨#[c]⟩)] st = some (.str ⟨#[c]⟩, st) from rfl]
        simp only [Option.bind_some]
        rw [show loopC [1] b1 (fNotT (fTest (fChain opLe opLe (fC (.str (Str.ofString " "))) (fVar 1) (fC (.str (Str.ofString "~")))))) (fVar 1) (l.map fun c => .str ⟨#[c]⟩) [some (.str x), none] st = _ from ih]
        rfl
  exact key (tl x)
theorem signs_nil {l : List Nat} (h : ∀ c ∈ l, c < 128) : opEq (.lst (l.map fun c => .str ⟨#[c]⟩)) (.lst []) = some (.bl l.isEmpty) := by
  have s1 : SmL 0 ((l.map fun c => D.str ⟨#[c]⟩).length * 2) (l.map fun c => D.str ⟨#[c]⟩) := SmL.all fun d hd => by
    obtain ⟨c, hc, rfl⟩ := List.mem_map.mp hd
    exact Sm.str ⟨Nat.le_refl _, fun y hy => by
      have : y = c := by simpa using hy
      subst this
      exact h y hc⟩
  obtain ⟨p, h1, h2⟩ := (Sm.lst s1).shaped (by decide)
  obtain ⟨ps, h3, h4⟩ := Option.map_eq_some_iff.mp (show (toPyL _).map PyData.list = some p from h1)
  subst h4
  have e : PyData.eqv (.list ps) (.list []) = l.isEmpty := by
    cases l with
    | nil => cases h3; rfl
    | cons c l =>
      obtain ⟨q, g1, g2⟩ := Option.bind_eq_some_iff.mp (show ((toPy _).bind fun p => (toPyL _).map fun q => p :: q) = some ps from h3)
      obtain ⟨qs, g3, g4⟩ := Option.map_eq_some_iff.mp g2
      subst g4
      rfl
  have e2 : toPy (.lst []) = some (.list []) := rfl
  have e3 : SeqAt.shaped (.list []) = true := by decide
  simp only [opEq, h1, e2, Option.bind_some, h2, e3, and_self, if_true, e]
theorem filter_nil (l : List Nat) : (l.filter fun c => !signB c).isEmpty = l.all signB := by
  induction l with
  | nil => rfl
  | cons c l ih => cases q : signB c <;> simp [List.filter_cons, q, ih]
theorem vdue_ok {d : D} (h : okw d) (st : Store) : m__law_value_due [d] st = some (.bl (valB d), st) := by
  have li := linteger_ok h (-1000000000) 1000000000 st
  cases d with
  | str x =>
    have z := h.strlen
    have hx : ∀ c ∈ tl x, c < 128 := fun c hc => of_decide_eq_true (List.all_eq_true.mp h.1 c hc)
    have sn := signs_nil (l := (tl x).filter fun c => !signB c) fun c hc => hx c (List.mem_filter.mp hc).1
    rw [filter_nil] at sn
    have zz : (((tl x).filter fun c => !signB c).map fun c => D.str ⟨#[c]⟩).length ≤ sizeLine := by
      rw [List.length_map]
      exact Nat.le_trans (List.length_filter_le _ _) (by rw [tl_len]; exact z)
    by_cases c : x.length ≤ 20
    · have c2 : (x.length : Int) ≤ 20 := by omega
      simp [m__law_value_due, g__law_value_due, mOf, outM, startD, sSeq, sIf, sRet, sNil, fTest, fIsi, fVar, tyD, isiB, asB, fAnd, fOp, fMk, bLen, lenL, aCons, aNil, z, fC, opLe_int, c2, fComp, iOf, asStr, wipeL]
      rw [bad_loop x st]
      simp at zz sn
      simp [zz, mkLst, sn, valB, c]
    · have c2 : ¬ (x.length : Int) ≤ 20 := by omega
      simp [m__law_value_due, g__law_value_due, mOf, outM, startD, sSeq, sIf, sRet, sNil, fTest, fIsi, fVar, tyD, isiB, asB, fAnd, fOp, fMk, bLen, lenL, aCons, aNil, z, fC, opLe_int, c2, valB, c]
  | scr _ => cases h.1
  | ref _ => cases h.1
  | int i => simp [m__law_value_due, g__law_value_due, mOf, outM, startD, sSeq, sIf, sRet, sNil, fTest, fIsi, fVar, tyD, isiB, asB, fOr, fOp, opIs, orD, isN, isB, isNon, fC, fCall, aCons, aNil, subI_int, pow109, li, valB, rngB]
  | non => simp [m__law_value_due, g__law_value_due, mOf, outM, startD, sSeq, sIf, sRet, sNil, fTest, fIsi, fVar, tyD, isiB, asB, fOr, fOp, opIs, orD, isN, isB, isNon, fC, valB]
  | _ => simp [m__law_value_due, g__law_value_due, mOf, outM, startD, sSeq, sIf, sRet, sNil, fTest, fIsi, fVar, tyD, isiB, asB, fOr, fOp, opIs, orD, isN, isB, isNon, fC, fCall, aCons, aNil, subI_int, pow109, li, valB, rngB]
end LW
namespace LW
open PySem PySem.Spec PyProof.Rows L2 DL TL
theorem kt : isK "all" (.str (Str.ofString "all")) = true ∧
  isK "not" (.str (Str.ofString "all")) = false ∧
  isK "and" (.str (Str.ofString "all")) = false ∧
  isK "or" (.str (Str.ofString "all")) = false ∧
  isK "equal" (.str (Str.ofString "all")) = false ∧
  isK "less" (.str (Str.ofString "all")) = false ∧
  isK "starts" (.str (Str.ofString "all")) = false ∧
  isK "one_of" (.str (Str.ofString "all")) = false ∧
  isK "all" (.str (Str.ofString "not")) = false ∧
  isK "not" (.str (Str.ofString "not")) = true ∧
  isK "and" (.str (Str.ofString "not")) = false ∧
  isK "or" (.str (Str.ofString "not")) = false ∧
  isK "equal" (.str (Str.ofString "not")) = false ∧
  isK "less" (.str (Str.ofString "not")) = false ∧
  isK "starts" (.str (Str.ofString "not")) = false ∧
  isK "one_of" (.str (Str.ofString "not")) = false ∧
  isK "all" (.str (Str.ofString "and")) = false ∧
  isK "not" (.str (Str.ofString "and")) = false ∧
  isK "and" (.str (Str.ofString "and")) = true ∧
  isK "or" (.str (Str.ofString "and")) = false ∧
  isK "equal" (.str (Str.ofString "and")) = false ∧
  isK "less" (.str (Str.ofString "and")) = false ∧
  isK "starts" (.str (Str.ofString "and")) = false ∧
  isK "one_of" (.str (Str.ofString "and")) = false ∧
  isK "all" (.str (Str.ofString "or")) = false ∧
  isK "not" (.str (Str.ofString "or")) = false ∧
  isK "and" (.str (Str.ofString "or")) = false ∧
  isK "or" (.str (Str.ofString "or")) = true ∧
  isK "equal" (.str (Str.ofString "or")) = false ∧
  isK "less" (.str (Str.ofString "or")) = false ∧
  isK "starts" (.str (Str.ofString "or")) = false ∧
  isK "one_of" (.str (Str.ofString "or")) = false ∧
  isK "all" (.str (Str.ofString "equal")) = false ∧
  isK "not" (.str (Str.ofString "equal")) = false ∧
  isK "and" (.str (Str.ofString "equal")) = false ∧
  isK "or" (.str (Str.ofString "equal")) = false ∧
  isK "equal" (.str (Str.ofString "equal")) = true ∧
  isK "less" (.str (Str.ofString "equal")) = false ∧
  isK "starts" (.str (Str.ofString "equal")) = false ∧
  isK "one_of" (.str (Str.ofString "equal")) = false ∧
  isK "all" (.str (Str.ofString "less")) = false ∧
  isK "not" (.str (Str.ofString "less")) = false ∧
  isK "and" (.str (Str.ofString "less")) = false ∧
  isK "or" (.str (Str.ofString "less")) = false ∧
  isK "equal" (.str (Str.ofString "less")) = false ∧
  isK "less" (.str (Str.ofString "less")) = true ∧
  isK "starts" (.str (Str.ofString "less")) = false ∧
  isK "one_of" (.str (Str.ofString "less")) = false ∧
  isK "all" (.str (Str.ofString "starts")) = false ∧
  isK "not" (.str (Str.ofString "starts")) = false ∧
  isK "and" (.str (Str.ofString "starts")) = false ∧
  isK "or" (.str (Str.ofString "starts")) = false ∧
  isK "equal" (.str (Str.ofString "starts")) = false ∧
  isK "less" (.str (Str.ofString "starts")) = false ∧
  isK "starts" (.str (Str.ofString "starts")) = true ∧
  isK "one_of" (.str (Str.ofString "starts")) = false ∧
  isK "all" (.str (Str.ofString "one_of")) = false ∧
  isK "not" (.str (Str.ofString "one_of")) = false ∧
  isK "and" (.str (Str.ofString "one_of")) = false ∧
  isK "or" (.str (Str.ofString "one_of")) = false ∧
  isK "equal" (.str (Str.ofString "one_of")) = false ∧
  isK "less" (.str (Str.ofString "one_of")) = false ∧
  isK "starts" (.str (Str.ofString "one_of")) = false ∧
  isK "one_of" (.str (Str.ofString "one_of")) = true :=
  ⟨by decide +kernel, by decide +kernel, by decide +kernel, by decide +kernel, by decide +kernel, by decide +kernel, by decide +kernel, by decide +kernel, by decide +kernel, by decide +kernel, by decide +kernel, by decide +kernel, by decide +kernel, by decide +kernel, by decide +kernel, by decide +kernel, by decide +kernel, by decide +kernel, by decide +kernel, by decide +kernel, by decide +kernel, by decide +kernel, by decide +kernel, by decide +kernel, by decide +kernel, by decide +kernel, by decide +kernel, by decide +kernel, by decide +kernel, by decide +kernel, by decide +kernel, by decide +kernel, by decide +kernel, by decide +kernel, by decide +kernel, by decide +kernel, by decide +kernel, by decide +kernel, by decide +kernel, by decide +kernel, by decide +kernel, by decide +kernel, by decide +kernel, by decide +kernel, by decide +kernel, by decide +kernel, by decide +kernel, by decide +kernel, by decide +kernel, by decide +kernel, by decide +kernel, by decide +kernel, by decide +kernel, by decide +kernel, by decide +kernel, by decide +kernel, by decide +kernel, by decide +kernel, by decide +kernel, by decide +kernel, by decide +kernel, by decide +kernel, by decide +kernel, by decide +kernel⟩
theorem kc (n : String) (s : Str) : (Str.ofString n == s) = isK n (.str s) := by
  rw [isK_str]
  exact Bool.beq_comm
theorem in3 (s : Str) : inSeq false (.str s) (.tup [.str (Str.ofString "not"), .str (Str.ofString "and"), .str (Str.ofString "or")]) = some (.bl (isK "not" (.str s) || (isK "and" (.str s) || isK "or" (.str s)))) := by
  simp [inSeq, flatD, anyF, eqF, kc]
theorem in4 (s : Str) : inSeq true (.str s) (.tup [.str (Str.ofString "equal"), .str (Str.ofString "less"), .str (Str.ofString "starts"), .str (Str.ofString "one_of")]) = some (.bl (!(isK "equal" (.str s) || (isK "less" (.str s) || (isK "starts" (.str s) || isK "one_of" (.str s)))))) := by
  simp [inSeq, flatD, anyF, eqF, kc]
theorem noFalse (l : List Bool) : inSeq true (.bl false) (.lst (l.map .bl)) = some (.bl (l.all id)) := by
  have key : ∀ l : List Bool, anyF (.bl false) (l.map .bl) = some (!(l.all id)) := by
    intro l
    induction l with
    | nil => rfl
    | cons b l ih => cases b <;> simp [anyF, eqF, ih]
  have := key l
  simp only [inSeq, flatD, if_true, this, Option.map_some, Bool.not_not]
theorem opEqA_nil (r : List D) : opEqA (.tup r) (.tup []) = some (.bl r.isEmpty) := by
  have e : (r.length == 0) = r.isEmpty := by cases r <;> rfl
  simp [opEqA, orD, DL.eqT, eqNil, e]
theorem neNot {s : Str} (h : okD (.str s) = true) : opNe (.str s) (.str (Str.ofString "not")) = some (.bl (!isK "not" (.str s))) := by
  have gx : GS s.length s := ⟨Nat.le_refl _, fun c hc => of_decide_eq_true (List.all_eq_true.mp h c hc)⟩
  exact opNe_fv (m := s.length) (n := 16) (a := .str s) (b := .str (Str.ofString "not")) gx (asc_gs (by decide +kernel))
theorem colD (w : Int) (p : D) : rngB 0 (w - 1) p = colB w p := by
  cases p <;> first
    | rfl
    | (simp only [colB, rngB]; exact decide_eq_decide.mpr (by omega))
theorem due_ok (w : Int) : ∀ (k : Nat) {d : D}, okw d → ∀ (dp : Int), dp = k → ∀ st : Store, m__law_due (k + 1) [d, .int w, .int dp] st = some (.bl (cw w k d), st)
  | 0, d, h, dp, e, st => by
    subst e
    have : cw w 0 d = false := by cases d <;> rfl
    simp [m__law_due, g__law_due, mOf, outM, startD, sSeq, sIf, sRet, fOrT, fTest, fOp, fVar, fC, opEq_int, asB, this]
  | k + 1, d, h, dp, e, st => by
    have ne : (dp == 0) = false := by
      rw [e]
      exact beq_eq_false_iff_ne.mpr (by omega)
    have sub : dp - 1 = (k : Int) := by omega
    cases d with
    | tup ds =>
      cases ds with
      | nil => simp [m__law_due, g__law_due, mOf, outM, startD, sSeq, sIf, sRet, fOrT, fNotT, fTest, fOp, fVar, fC, opEq_int, asB, ne, fIsi, tyD, isiB, fMk, bLen, lenL, aCons, aNil, cw]
      | cons a r =>
        have oa : okw a := h.mem List.mem_cons_self
        have nz : (((r.length : Int) + 1) == 0) = false := beq_eq_false_iff_ne.mpr (by omega)
        have z0 : 0 ≤ sizeLine := Nat.zero_le _
        have z3 : 3 ≤ sizeLine := by decide
        have z4 : 4 ≤ sizeLine := by decide
        have rl : r.length ≤ sizeLine := Nat.le_trans (Nat.le_succ _) h.len
        cases a with
        | str s =>
          have e1 := eqA_k oa.1 "all"
          have e2 := eqA_k oa.1 "starts"
          have e3 := eqA_k oa.1 "one_of"
          have i3 := in3 s
          have i4 := in4 s
          have nn := neNot oa.1
          have mem : ∀ u ∈ r, okw u := fun u hu => h.mem (List.mem_cons_of_mem _ hu)
          have ih : ∀ u ∈ r, m__law_due (k + 1) [u, .int w, .int (dp - 1)] st = some (.bl (cw w k u), st) := fun u hu => due_ok w k (mem u hu) (dp - 1) sub st
          rw [show m__law_due (k + 1 + 1) = mOf N__law_due.length (g__law_due (m__law_due (k + 1))) from rfl]
          generalize m__law_due (k + 1) = M at ih ⊢
          have lp := map_loop (is := [5]) (f := fCall M (aCons (fVar 5) (aCons (fVar 1) (aCons (fOp subI (fVar 2) (fC (.int 1))) aNil)))) (env := [some (.tup (.str s :: r)), some (.int w), some (.int dp), some (.str s), some (.tup r), none]) (st := st) (g := cw w k) (us := r) (fun u hu => by simp [fCall, aCons, aNil, fVar, setL, fOp, fC, subI_int, ih u hu])
          have nf := noFalse (r.map (cw w k))
          rw [all_id] at nf
          cases q1 : isK "all" (.str s) with
          | true =>
            rw [q1] at e1
            simp [g__law_due, mOf, outM, startD, sSeq, sIf, sRet, sNil, sPar, par2, fOrT, fNotT, fTest, fOp, fVar, fC, opEq_int, asB, ne, fIsi, tyD, isiB, fMk, bLen, lenL, aCons, aNil, nz, fSub, ixD, ix0, fSlice, oSome, oNone, slD, cut1, e1, mkTup, opEqA_nil, cw, q1]
          | false =>
            rw [q1] at e1
            cases q2 : (isK "not" (.str s) || (isK "and" (.str s) || isK "or" (.str s))) with
            | true =>
              rw [q2] at i3
              cases q3 : isK "not" (.str s) with
              | true =>
                rw [q3] at nn
                match r, h, lp, nf, mem, ih, rl with
                | [], h, lp, nf, mem, ih, rl => simp [g__law_due, mOf, outM, startD, sSeq, sIf, sRet, sNil, sPar, par2, fOrT, fNotT, fTest, fOp, fVar, fC, opEq_int, opNe_int, asB, ne, fIsi, tyD, isiB, fMk, bLen, lenL, aCons, aNil, fSub, ixD, ix0, ix1, fSlice, oSome, oNone, slD, cut1, e1, mkTup, cw, q1, i3, z3, nn, bInt, opAdd_int, q3]
                | [p], h, lp, nf, mem, ih, rl =>
                  have z1 : 1 ≤ sizeLine := by decide
                  simp [g__law_due, mOf, outM, startD, sSeq, sIf, sRet, sNil, sPar, par2, fOrT, fNotT, fTest, fOp, fVar, fC, opEq_int, opNe_int, asB, ne, fIsi, tyD, isiB, fMk, bLen, lenL, aCons, aNil, fSub, ixD, ix0, ix1, fSlice, oSome, oNone, slD, cut1, e1, mkTup, cw, q1, i3, z3, nn, bInt, opAdd_int, q3, fComp, iOf, asT, wipeL]
                  simp at lp nf
                  simp [lp, z1, nf]
                | p :: q :: t, h, lp, nf, mem, ih, rl =>
                  have n2 : (((t.length : Int) + 1 + 1) == 1) = false := beq_eq_false_iff_ne.mpr (by omega)
                  have n0 : (((t.length : Int) + 1 + 1 + 1) == 0) = false := beq_eq_false_iff_ne.mpr (by omega)
                  simp [g__law_due, mOf, outM, startD, sSeq, sIf, sRet, sNil, sPar, par2, fOrT, fNotT, fTest, fOp, fVar, fC, opEq_int, opNe_int, asB, ne, fIsi, tyD, isiB, fMk, bLen, lenL, aCons, aNil, fSub, ixD, ix0, ix1, fSlice, oSome, oNone, slD, cut1, e1, mkTup, cw, q1, i3, z3, nn, bInt, opAdd_int, q3, n2, n0]
              | false =>
                rw [q3] at nn
                rw [q3, Bool.false_or] at q2
                match r, h, lp, nf, mem, ih, rl with
                | [], h, lp, nf, mem, ih, rl => simp [g__law_due, mOf, outM, startD, sSeq, sIf, sRet, sNil, sPar, par2, fOrT, fNotT, fTest, fOp, fVar, fC, opEq_int, opNe_int, asB, ne, fIsi, tyD, isiB, fMk, bLen, lenL, aCons, aNil, fSub, ixD, ix0, ix1, fSlice, oSome, oNone, slD, cut1, e1, mkTup, cw, q1, i3, z3, nn, bInt, opAdd_int, q3]
                | [p], h, lp, nf, mem, ih, rl => simp [g__law_due, mOf, outM, startD, sSeq, sIf, sRet, sNil, sPar, par2, fOrT, fNotT, fTest, fOp, fVar, fC, opEq_int, opNe_int, asB, ne, fIsi, tyD, isiB, fMk, bLen, lenL, aCons, aNil, fSub, ixD, ix0, ix1, fSlice, oSome, oNone, slD, cut1, e1, mkTup, cw, q1, i3, z3, nn, bInt, opAdd_int, q3]
                | [p, q], h, lp, nf, mem, ih, rl =>
                  have z2 : 2 ≤ sizeLine := by decide
                  simp [g__law_due, mOf, outM, startD, sSeq, sIf, sRet, sNil, sPar, par2, fOrT, fNotT, fTest, fOp, fVar, fC, opEq_int, opNe_int, asB, ne, fIsi, tyD, isiB, fMk, bLen, lenL, aCons, aNil, fSub, ixD, ix0, ix1, fSlice, oSome, oNone, slD, cut1, e1, mkTup, cw, q1, i3, z3, nn, bInt, opAdd_int, q3, q2, fComp, iOf, asT, wipeL]
                  simp at lp nf
                  simp [lp, z2, nf]
                | p :: q :: b :: t, h, lp, nf, mem, ih, rl =>
                  have n2 : (((t.length : Int) + 1 + 1 + 1) == 2) = false := beq_eq_false_iff_ne.mpr (by omega)
                  have n0 : (((t.length : Int) + 1 + 1 + 1 + 1) == 0) = false := beq_eq_false_iff_ne.mpr (by omega)
                  simp [g__law_due, mOf, outM, startD, sSeq, sIf, sRet, sNil, sPar, par2, fOrT, fNotT, fTest, fOp, fVar, fC, opEq_int, opNe_int, asB, ne, fIsi, tyD, isiB, fMk, bLen, lenL, aCons, aNil, fSub, ixD, ix0, ix1, fSlice, oSome, oNone, slD, cut1, e1, mkTup, cw, q1, i3, z3, nn, bInt, opAdd_int, q3, n2, n0]
            | false =>
              rw [q2] at i3
              have q3 : isK "not" (.str s) = false := (Bool.or_eq_false_iff.mp q2).1
              have q4 : (isK "and" (.str s) || isK "or" (.str s)) = false := (Bool.or_eq_false_iff.mp q2).2
              match r, h, mem, rl with
              | [], h, mem, rl => cases q5 : (isK "equal" (.str s) || (isK "less" (.str s) || (isK "starts" (.str s) || isK "one_of" (.str s)))) <;> (rw [q5] at i4; simp [g__law_due, mOf, outM, startD, sSeq, sIf, sRet, sNil, sPar, par2, fOrT, fNotT, fTest, fOp, fVar, fC, opEq_int, opNe_int, asB, ne, fIsi, tyD, isiB, fMk, bLen, lenL, aCons, aNil, fSub, ixD, ix0, ix1, fSlice, oSome, oNone, slD, cut1, e1, mkTup, cw, q1, i3, z3, i4, z4, q3])
              | [p], h, mem, rl => cases q5 : (isK "equal" (.str s) || (isK "less" (.str s) || (isK "starts" (.str s) || isK "one_of" (.str s)))) <;> (rw [q5] at i4; simp [g__law_due, mOf, outM, startD, sSeq, sIf, sRet, sNil, sPar, par2, fOrT, fNotT, fTest, fOp, fVar, fC, opEq_int, opNe_int, asB, ne, fIsi, tyD, isiB, fMk, bLen, lenL, aCons, aNil, fSub, ixD, ix0, ix1, fSlice, oSome, oNone, slD, cut1, e1, mkTup, cw, q1, i3, z3, i4, z4, q3])
              | p :: q :: b :: t, h, mem, rl =>
                have n2 : (((t.length : Int) + 1 + 1 + 1) == 2) = false := beq_eq_false_iff_ne.mpr (by omega)
                have n0 : (((t.length : Int) + 1 + 1 + 1 + 1) == 0) = false := beq_eq_false_iff_ne.mpr (by omega)
                cases q5 : (isK "equal" (.str s) || (isK "less" (.str s) || (isK "starts" (.str s) || isK "one_of" (.str s)))) <;> (rw [q5] at i4; simp [g__law_due, mOf, outM, startD, sSeq, sIf, sRet, sNil, sPar, par2, fOrT, fNotT, fTest, fOp, fVar, fC, opEq_int, opNe_int, asB, ne, fIsi, tyD, isiB, fMk, bLen, lenL, aCons, aNil, fSub, ixD, ix0, ix1, fSlice, oSome, oNone, slD, cut1, e1, mkTup, cw, q1, i3, z3, i4, z4, q3, n2, n0])
              | [p, q], h, mem, rl =>
                have op : okw p := mem p List.mem_cons_self
                have oq : okw q := mem q (List.mem_cons_of_mem _ List.mem_cons_self)
                have li := linteger_ok op 0 (w - 1) st
                rw [colD w p] at li
                have vd := vdue_ok oq st
                cases q5 : (isK "equal" (.str s) || (isK "less" (.str s) || (isK "starts" (.str s) || isK "one_of" (.str s)))) with
                | false =>
                  rw [q5] at i4
                  have hh : operB (.str s) q = false := by
                    simp only [Bool.or_eq_false_iff] at q5
                    simp [operB, q5.1, q5.2.1, q5.2.2.1, q5.2.2.2]
                  simp [g__law_due, mOf, outM, startD, sSeq, sIf, sRet, sNil, sPar, par2, fOrT, fNotT, fTest, fOp, fVar, fC, opEq_int, opNe_int, asB, ne, fIsi, tyD, isiB, fMk, bLen, lenL, aCons, aNil, fSub, ixD, ix0, ix1, fSlice, oSome, oNone, slD, cut1, e1, mkTup, cw, q1, i3, z3, i4, z4, q3, q4, hh]
                | true =>
                  rw [q5] at i4
                  cases q6 : colB w p with
                  | false =>
                    rw [q6] at li
                    simp [g__law_due, mOf, outM, startD, sSeq, sIf, sRet, sNil, sPar, par2, fOrT, fNotT, fTest, fOp, fVar, fC, opEq_int, opNe_int, asB, ne, fIsi, tyD, isiB, fMk, bLen, lenL, aCons, aNil, fSub, ixD, ix0, ix1, fSlice, oSome, oNone, slD, cut1, e1, mkTup, cw, q1, i3, z3, i4, z4, q3, q4, fCall, subI_int, li, q6]
                  | true =>
                    rw [q6] at li
                    cases q7 : isK "starts" (.str s) with
                    | true =>
                      rw [q7] at e2
                      have ne1 : isK "equal" (.str s) = false ∧ isK "less" (.str s) = false := by
                        have : s = Str.ofString "starts" := by rw [isK_str] at q7; exact eq_of_beq q7
                        subst this
                        exact ⟨by decide +kernel, by decide +kernel⟩
                      have hh : operB (.str s) q = (strB q && !isK "" q) := by simp [operB, ne1.1, ne1.2, q7]
                      cases q with
                      | str y =>
                        have gy : GS y.length y := ⟨Nat.le_refl _, fun c hc => of_decide_eq_true (List.all_eq_true.mp oq.1 c hc)⟩
                        have ney : opNe (.str y) (.str (Str.ofString "")) = some (.bl (!isK "" (.str y))) := opNe_fv (m := y.length) (n := 16) (a := .str y) (b := .str (Str.ofString "")) gy (asc_gs (by decide +kernel))
                        have vs : valB (.str y) = strB (.str y) := rfl
                        cases ky : isK "" (.str y) <;> (rw [ky] at ney hh; simp [g__law_due, mOf, outM, startD, sSeq, sIf, sRet, sNil, sPar, par2, fOrT, fNotT, fTest, fOp, fVar, fC, opEq_int, opNe_int, asB, ne, fIsi, tyD, isiB, fMk, bLen, lenL, aCons, aNil, fSub, ixD, ix0, ix1, fSlice, oSome, oNone, slD, cut1, e1, mkTup, cw, q1, i3, z3, i4, z4, q3, q4, fCall, subI_int, li, q6, e2, fAnd, vd, ney, hh, vs])
                      | scr _ => cases oq.1
                      | ref _ => cases oq.1
                      | _ => simp [g__law_due, mOf, outM, startD, sSeq, sIf, sRet, sNil, sPar, par2, fOrT, fNotT, fTest, fOp, fVar, fC, opEq_int, opNe_int, asB, ne, fIsi, tyD, isiB, fMk, bLen, lenL, aCons, aNil, fSub, ixD, ix0, ix1, fSlice, oSome, oNone, slD, cut1, e1, mkTup, cw, q1, i3, z3, i4, z4, q3, q4, fCall, subI_int, li, q6, e2, fAnd, hh, strB]
                    | false =>
                      rw [q7] at e2
                      cases q8 : isK "one_of" (.str s) with
                      | true =>
                        rw [q8] at e3
                        have ne1 : isK "equal" (.str s) = false ∧ isK "less" (.str s) = false := by
                          have : s = Str.ofString "one_of" := by rw [isK_str] at q8; exact eq_of_beq q8
                          subst this
                          exact ⟨by decide +kernel, by decide +kernel⟩
                        have hh : operB (.str s) q = choiceB q := by simp [operB, ne1.1, ne1.2, q7, q8]
                        cases q with
                        | tup us =>
                          have zu := oq.len
                          have c := chain_int (a := 1) (b := us.length) (c := 8) (fa := fC (.int 1)) (fb := fMk bLen (aCons (fSub (fVar 4) (fC (.int 1))) aNil)) (fc := fC (.int 8)) (env := [some (.tup [.str s, p, .tup us]), some (.int w), some (.int dp), some (.str s), some (.tup [p, .tup us]), none]) (st := st) (by simp [fC]) (by simp [fMk, bLen, lenL, aCons, aNil, fVar, fSub, fC, ixD, ix1]) (by simp [fC])
                          have lu := map_loop (is := [5]) (f := fCall m__law_value_due (aCons (fVar 5) aNil)) (env := [some (.tup [.str s, p, .tup us]), some (.int w), some (.int dp), some (.str s), some (.tup [p, .tup us]), none]) (st := st) (g := valB) (us := us) (fun u hu => by simp [fCall, aCons, aNil, fVar, setL, vdue_ok (oq.mem hu)])
                          have nu := noFalse (us.map valB)
                          rw [all_id] at nu
                          by_cases ql : 1 ≤ us.length ∧ us.length ≤ 8
                          · have q9 : (1 : Int) ≤ us.length ∧ (us.length : Int) ≤ 8 := by omega
                            simp only [q9, and_self, decide_true] at c
                            simp [g__law_due, mOf, outM, startD, sSeq, sIf, sRet, sNil, sPar, par2, fOrT, fNotT, fTest, fOp, fVar, fC, opEq_int, opNe_int, asB, ne, fIsi, tyD, isiB, fMk, bLen, lenL, aCons, aNil, fSub, ixD, ix0, ix1, fSlice, oSome, oNone, slD, cut1, e1, mkTup, cw, q1, i3, z3, i4, z4, q3, q4, fCall, subI_int, li, q6, e2, e3, c, hh, choiceB, ql, fComp, iOf, asT, wipeL]
                            simp at lu nu
                            simp [lu, zu, nu]
                          · have q9 : ¬ ((1 : Int) ≤ us.length ∧ (us.length : Int) ≤ 8) := by omega
                            simp only [q9, decide_false] at c
                            simp [g__law_due, mOf, outM, startD, sSeq, sIf, sRet, sNil, sPar, par2, fOrT, fNotT, fTest, fOp, fVar, fC, opEq_int, opNe_int, asB, ne, fIsi, tyD, isiB, fMk, bLen, lenL, aCons, aNil, fSub, ixD, ix0, ix1, fSlice, oSome, oNone, slD, cut1, e1, mkTup, cw, q1, i3, z3, i4, z4, q3, q4, fCall, subI_int, li, q6, e2, e3, c, hh, choiceB, ql]
                        | scr _ => cases oq.1
                        | ref _ => cases oq.1
                        | _ => simp [g__law_due, mOf, outM, startD, sSeq, sIf, sRet, sNil, sPar, par2, fOrT, fNotT, fTest, fOp, fVar, fC, opEq_int, opNe_int, asB, ne, fIsi, tyD, isiB, fMk, bLen, lenL, aCons, aNil, fSub, ixD, ix0, ix1, fSlice, oSome, oNone, slD, cut1, e1, mkTup, cw, q1, i3, z3, i4, z4, q3, q4, fCall, subI_int, li, q6, e2, e3, hh, choiceB]
                      | false =>
                        rw [q8] at e3
                        have hh : operB (.str s) q = valB q := by
                          rw [q7, q8] at q5
                          simp at q5
                          simp [operB, q5]
                        simp [g__law_due, mOf, outM, startD, sSeq, sIf, sRet, sNil, sPar, par2, fOrT, fNotT, fTest, fOp, fVar, fC, opEq_int, opNe_int, asB, ne, fIsi, tyD, isiB, fMk, bLen, lenL, aCons, aNil, fSub, ixD, ix0, ix1, fSlice, oSome, oNone, slD, cut1, e1, mkTup, cw, q1, i3, z3, i4, z4, q3, q4, fCall, subI_int, li, q6, e2, e3, vd, hh]
        | scr _ => cases oa.1
        | ref _ => cases oa.1
        | _ => cases r with
          | nil => simp [m__law_due, g__law_due, mOf, outM, startD, sSeq, sIf, sRet, sNil, sPar, par2, fOrT, fNotT, fTest, fOp, fVar, fC, opEq_int, opNe_int, asB, ne, fIsi, tyD, isiB, fMk, bLen, lenL, aCons, aNil, fSub, ixD, ix0, ix1, fSlice, oSome, oNone, slD, cut1, mkTup, cw, isK]
          | cons p r => cases r with
            | nil => simp [m__law_due, g__law_due, mOf, outM, startD, sSeq, sIf, sRet, sNil, sPar, par2, fOrT, fNotT, fTest, fOp, fVar, fC, opEq_int, opNe_int, asB, ne, fIsi, tyD, isiB, fMk, bLen, lenL, aCons, aNil, fSub, ixD, ix0, ix1, fSlice, oSome, oNone, slD, cut1, mkTup, cw, isK]
            | cons q r =>
              have n0 : (((r.length : Int) + 1 + 1 + 1) == 0) = false := beq_eq_false_iff_ne.mpr (by omega)
              cases r <;> simp [m__law_due, g__law_due, mOf, outM, startD, sSeq, sIf, sRet, sNil, sPar, par2, fOrT, fNotT, fTest, fOp, fVar, fC, opEq_int, opNe_int, asB, ne, fIsi, tyD, isiB, fMk, bLen, lenL, aCons, aNil, fSub, ixD, ix0, ix1, fSlice, oSome, oNone, slD, cut1, mkTup, cw, isK, operB, n0]
    | scr _ => cases h.1
    | ref _ => cases h.1
    | _ => simp [m__law_due, g__law_due, mOf, outM, startD, sSeq, sIf, sRet, fOrT, fNotT, fTest, fOp, fVar, fC, opEq_int, asB, ne, fIsi, tyD, isiB, cw]
end LW
namespace LW
open PySem PySem.Spec PyProof.Rows L2 DL TL
theorem right_ok {d : D} (h : okw d) (l : hD d ≤ 64) (w : Int) (st : Store) : m__law_right [d, .int w] st = some (.bl true, st) := by
  obtain ⟨x, hx⟩ := repr_any h.1 l h.2
  have k1 := cond_is h w st
  have k2 := due_ok w 8 h 8 rfl st
  have e : opEq (.bl (cw w 8 d)) (.bl (cw w 8 d)) = some (.bl true) := by cases cw w 8 d <;> rfl
  have e2 : opEqS (.str x) (.str x) = some (.bl true) := by simp [opEqS, onS]
  simp [m__law_right, g__law_right, mOf, outM, startD, sSeq, sAsg, gN, sRet, fMk, aCons, aNil, fVar, hx, fCall, k1, fAnd, fIsi, tyD, isiB, asB, fOp, fC, k2, e, e2]
/-! what is drawn -/
def thB (d : D) : Bool := okD d && (decide (wD d ≤ 2500) && decide (hD d ≤ 3))
def t1 : List D := [.non, .bl true, .bl false, .int 0, .int 1, .int 5, .int 6, .int (-1), .int 1000000001, .str (Str.ofString ""), .str (Str.ofString "all"), .str (Str.ofString "equal"), .str (Str.ofString "less"), .str (Str.ofString "starts"), .str (Str.ofString "one_of"), .str (Str.ofString "not")]
def t2 : List D := [.str (Str.ofString "and"), .str (Str.ofString "or"), .str (Str.ofString "xor"), .str (Txt.mul (Str.ofString "x") 21), .str (Str.ofString "a\n"), .tup [], .lst [], .dct [], .tup [.str (Str.ofString "all")], .tup [.str (Str.ofString "not"), .tup [.str (Str.ofString "all")]], .tup [.str (Str.ofString "equal"), .int 0, .int 1]]
def t3 : List D := [.lst [.int 1], .tup (List.replicate 9 [D.int 1]).flatten]
theorem allT : (t1 ++ t2 ++ t3).all thB = true := by decide +kernel
theorem mulx : opMul (.str (Str.ofString "x")) (.int 21) = some (.str (Txt.mul (Str.ofString "x") 21)) := by
  have : (Str.ofString "x").length ≤ 1000 := by decide
  simp [opMul, orD, mulI, onI, mulS, this]
theorem mul9 : opMulA (.tup [.int 1]) (.int 9) = some (.tup (List.replicate 9 [D.int 1]).flatten) := by
  simp [opMulA, opMul, orD, mulI, onI, mulS, mulT]
theorem thing_ok {st : Store} {n : Nat} (t : Tp st n) : ∃ d st', m__law_thing [.ref n] st = some (d, st') ∧ okD d = true ∧ wD d ≤ 2500 ∧ hD d ≤ 3 ∧ Tp st' n ∧ Fr n st st' ∧ st'.length = st.length := by
  obtain ⟨d, s1, h1, m1, tt, f1, l1⟩ := one_ok (xs := t1 ++ t2 ++ t3) t (by decide) (by decide)
  have hb := List.all_eq_true.mp allT d m1
  unfold thB at hb
  rw [Bool.and_eq_true, Bool.and_eq_true] at hb
  refine ⟨d, s1, ?_, hb.1, of_decide_eq_true hb.2.1, of_decide_eq_true hb.2.2, tt, f1, l1⟩
  have a1 : opAdd (.lst t1) (.lst t2) = some (.lst (t1 ++ t2)) := addL_ok (by decide)
  have a2 : opAdd (.lst (t1 ++ t2)) (.lst t3) = some (.lst (t1 ++ t2 ++ t3)) := addL_ok (by decide)
  have z : ∀ k : Nat, k ≤ 20 → k ≤ sizeLine := fun k hk => Nat.le_trans hk (by decide)
  have e1 : (fMk mkLst (aCons (fC .non) (aCons (fC (.bl true)) (aCons (fC (.bl false)) (aCons (fC (.int 0)) (aCons (fC (.int 1)) (aCons (fC (.int 5)) (aCons (fC (.int 6)) (aCons (fUn negI (fC (.int 1))) (aCons (fOp opAdd (fOp powI (fC (.int 10)) (fC (.int 9))) (fC (.int 1))) (aCons (fC (.str (Str.ofString ""))) (aCons (fC (.str (Str.ofString "all"))) (aCons (fC (.str (Str.ofString "equal"))) (aCons (fC (.str (Str.ofString "less"))) (aCons (fC (.str (Str.ofString "starts"))) (aCons (fC (.str (Str.ofString "one_of"))) (aCons (fC (.str (Str.ofString "not"))) aNil))))))))))))))))) = fC (.lst t1) := by
    funext env st
    simp [fMk, mkLst, aCons, aNil, fC, fUn, negI, fOp, pow109, opAdd_int, z, t1]
  have e2 : (fMk mkLst (aCons (fC (.str (Str.ofString "and"))) (aCons (fC (.str (Str.ofString "or"))) (aCons (fC (.str (Str.ofString "xor"))) (aCons (fOp opMul (fC (.str (Str.ofString "x"))) (fC (.int 21))) (aCons (fC (.str (Str.ofString "a\n"))) (aCons (fMk mkTup aNil) (aCons (fMk mkLst aNil) (aCons (fC (.dct [])) (aCons (fMk mkTup (aCons (fC (.str (Str.ofString "all"))) aNil)) (aCons (fMk mkTup (aCons (fC (.str (Str.ofString "not"))) (aCons (fMk mkTup (aCons (fC (.str (Str.ofString "all"))) aNil)) aNil))) (aCons (fMk mkTup (aCons (fC (.str (Str.ofString "equal"))) (aCons (fC (.int 0)) (aCons (fC (.int 1)) aNil)))) aNil)))))))))))) = fC (.lst t2) := by
    funext env st
    simp [fMk, mkLst, mkTup, aCons, aNil, fC, fOp, mulx, z, t2]
  have e3 : (fMk mkLst (aCons (fMk mkLst (aCons (fC (.int 1)) aNil)) (aCons (fOp opMulA (fMk mkTup (aCons (fC (.int 1)) aNil)) (fC (.int 9))) aNil))) = fC (.lst t3) := by
    funext env st
    simp [fMk, mkLst, mkTup, aCons, aNil, fC, fOp, mul9, z, t3]
  simp only [m__law_thing, g__law_thing, e1, e2, e3]
  simp [mOf, outM, startD, sSeq, sAsg, gN, sRet, fC, fOp, fVar, a1, a2, fCall, aCons, aNil, e_one, h1]
  rw [List.append_assoc] at a2 h1
  simp [a2, h1]
end LW
namespace LW
open PySem PySem.Spec PyProof.Rows L2 DL TL
theorem cutTo {xs : List D} {i : Int} (h0 : 0 ≤ i) (h1 : i ≤ xs.length) : DL.cutD xs none (some i) = xs.take i.toNat := by
  unfold DL.cutD
  rw [show i = ((i.toNat : Nat) : Int) from (Int.toNat_of_nonneg h0).symm, HT.sIx_nat, HT.sIx_none, Int.toNat_natCast]
  simp
theorem cutFrom {xs : List D} {i : Int} (h0 : 0 ≤ i) (h1 : i ≤ xs.length) : DL.cutD xs (some i) none = xs.drop i.toNat := by
  unfold DL.cutD
  rw [show i = ((i.toNat : Nat) : Int) from (Int.toNat_of_nonneg h0).symm, HT.sIx_nat, HT.sIx_none, Int.toNat_natCast]
  rw [Nat.min_eq_left (by omega), List.take_of_length_le (by rw [List.length_drop]; exact Nat.le_refl _)]
theorem addT_any {xs ys : List D} (h : xs.length + ys.length ≤ 1000000) : opAdd (.tup xs) (.tup ys) = some (.tup (xs ++ ys)) := by
  have : xs.length + ys.length ≤ sizeLine := Nat.le_trans h (by rw [sizeLine_eq]; decide)
  simp [opAdd, orD, addI, addS, addL, addT, onI, onS, this]
theorem wL_cut (xs : List D) (i : Nat) : wL (xs.take i) + wL (xs.drop i) = wL xs := by rw [← wL_append, List.take_append_drop]
theorem wL_drop (xs : List D) (i : Nat) : wL (xs.drop (i + 1)) ≤ wL (xs.drop i) := by
  have := wL_cut (xs.drop i) 1
  rw [List.drop_drop] at this
  omega
theorem wL_at {xs : List D} {i : Nat} {x : D} (h : xs[i]? = some x) : wL (xs.take i) + (wD x + 1) + wL (xs.drop (i + 1)) = wL xs := by
  obtain ⟨hi, e⟩ := List.getElem?_eq_some_iff.mp h
  have := wL_cut xs i
  rw [List.drop_eq_getElem_cons hi, e, wL] at this
  omega
/-- what a bent thing may be -/
structure Bent (d e : D) : Prop where
  ok : okD e = true
  w : wD e ≤ 2 * wD d + 2600
  h : hD e ≤ hD d + 4
/-- parts of xs, and one more -/
theorem mixT {xs ys : List D} (hx : okD (.tup xs) = true) (hm : ∀ y ∈ ys, y ∈ xs ∨ (okD y = true ∧ hD y ≤ hL xs + 4)) (hw : wL ys ≤ 2 * wL xs + 2600) : Bent (.tup xs) (.tup ys) := by
  have ok := okL_mem.mp (show okL xs = true from hx)
  refine ⟨okL_mem.mpr fun y hy => (hm y hy).elim (ok y) fun z => z.1, hw, ?_⟩
  show hL ys + 1 ≤ hL xs + 1 + 4
  have : hL ys ≤ hL xs + 4 := hL_le.mpr fun y hy => (hm y hy).elim (fun z => Nat.le_trans (hL_le.mp (Nat.le_refl _) y z) (Nat.le_add_right _ _)) fun z => z.2
  omega
theorem bent_ok : ∀ (k : Nat) {st : Store} {n : Nat} {d : D}, Tp st n → okD d = true → wD d ≤ 200000 → hD d < k → ∃ e st', m__law_bent k [.ref n, d] st = some (e, st') ∧ Bent d e ∧ Tp st' n ∧ Fr n st st' ∧ st'.length = st.length
  | 0, _, _, _, _, _, _, h => by omega
  | k + 1, st, n, d, t, hok, hw, hk => by
    have small : ∀ {e : D}, okD e = true → wD e ≤ 2500 → hD e ≤ 3 → Bent d e := fun a b c => ⟨a, by omega, by omega⟩
    by_cases ht : ∃ xs, d = .tup xs ∧ xs ≠ []
    case neg =>
      obtain ⟨e, s1, g1, o1, w1, h1, t1, f1, l1⟩ := thing_ok t
      refine ⟨e, s1, ?_, small o1 w1 h1, t1, f1, l1⟩
      cases d with
      | tup xs =>
        cases xs with
        | nil => simp [m__law_bent, g__law_bent, mOf, outM, startD, sSeq, sIf, sRet, fOrT, fNotT, fTest, fIsi, fVar, tyD, isiB, asB, fOp, fMk, mkTup, aCons, aNil, opEqA_nil, fCall, g1]
        | cons a r => exact absurd ⟨_, rfl, by simp⟩ ht
      | scr _ => cases hok
      | ref _ => cases hok
      | _ => simp [m__law_bent, g__law_bent, mOf, outM, startD, sSeq, sIf, sRet, fOrT, fNotT, fTest, fIsi, fVar, tyD, isiB, asB, fCall, aCons, aNil, g1]
    obtain ⟨xs, rfl, hne⟩ := ht
    have hpos : 0 < xs.length := List.length_pos_iff.mpr hne
    have hlen : xs.length ≤ 200000 := Nat.le_trans (len_wL xs) hw
    have hemp : xs.isEmpty = false := by cases xs with | nil => exact absurd rfl hne | cons _ _ => rfl
    obtain ⟨r, s1, g1, r0, r8, t1, f1, l1⟩ := pick_ok t (s := 8) (by decide) (by decide)
    by_cases c0 : r = 0
    · subst c0
      obtain ⟨e, s2, g2, o1, w1, h1, t2, f2, l2⟩ := thing_ok t1
      exact ⟨e, s2, by simp [m__law_bent, g__law_bent, mOf, outM, startD, sSeq, sIf, sRet, fOrT, fNotT, fTest, fIsi, fVar, tyD, isiB, asB, fOp, fMk, mkTup, aCons, aNil, opEqA_nil, hemp, fCall, e_pick, fC, g1, opEq_int, g2], small o1 w1 h1, t2, f1.trans f2, by rw [l2, l1]⟩
    have q0 : (r == 0) = false := by simp [c0]
    obtain ⟨a, s2, g2, a0, a1, t2, f2, l2⟩ := pick_ok t1 (s := (xs.length : Int)) (by omega) (by omega)
    obtain ⟨y, s3, g3, y0, y1, t3, f3, l3⟩ := pick_ok t2 (s := 10) (by decide) (by decide)
    have f13 := (f1.trans f2).trans f3
    have l13 : s3.length = st.length := by rw [l3, l2, l1]
    have ca := cutTo (xs := xs) (i := a) a0 (by omega)
    have cb := cutFrom (xs := xs) (i := a) a0 (by omega)
    have cc := cutTo (xs := xs) (i := a + 1) (by omega) (by omega)
    have cd := cutFrom (xs := xs) (i := a + 1) (by omega) (by omega)
    have ea : (a + 1).toNat = a.toNat + 1 := by omega
    rw [ea] at cc cd
    have mt : ∀ i, ∀ z ∈ xs.take i, z ∈ xs := fun i z => List.mem_of_mem_take
    have md : ∀ i, ∀ z ∈ xs.drop i, z ∈ xs := fun i z => List.mem_of_mem_drop
    have lt : ∀ i, (xs.take i).length ≤ 200000 := fun i => by rw [List.length_take]; omega
    have ld : ∀ i, (xs.drop i).length ≤ 200000 := fun i => by rw [List.length_drop]; omega
    have w0 := wL_cut xs a.toNat
    have w1 := wL_cut xs (a.toNat + 1)
    have wd := wL_drop xs a.toNat
    by_cases k0 : y = 0
    · subst k0
      refine ⟨.tup (xs.take a.toNat ++ xs.drop (a.toNat + 1)), s3, ?_, mixT hok (fun z hz => .inl ((List.mem_append.mp hz).elim (mt _ z) (md _ z))) (by rw [wL_append]; omega), t3, f13, l13⟩
      have ad := addT_any (xs := xs.take a.toNat) (ys := xs.drop (a.toNat + 1)) (by have := lt a.toNat; have := ld (a.toNat + 1); omega)
      simp [m__law_bent, g__law_bent, mOf, outM, startD, sSeq, sIf, sRet, sNil, sPar, par2, fOrT, fNotT, fTest, fIsi, fVar, tyD, isiB, asB, fOp, fMk, mkTup, aCons, aNil, opEqA_nil, hemp, fCall, e_pick, fC, g1, opEq_int, q0, bLen, lenL, g2, g3, fSlice, oNone, oSome, slD, ca, opAdd_int, cd, ad]
    have q1 : (y == 0) = false := by simp [k0]
    by_cases k1 : y = 1
    · subst k1
      refine ⟨.tup (xs.take (a.toNat + 1) ++ xs.drop a.toNat), s3, ?_, mixT hok (fun z hz => .inl ((List.mem_append.mp hz).elim (mt _ z) (md _ z))) (by rw [wL_append]; omega), t3, f13, l13⟩
      have ad := addT_any (xs := xs.take (a.toNat + 1)) (ys := xs.drop a.toNat) (by have := lt (a.toNat + 1); have := ld a.toNat; omega)
      simp [m__law_bent, g__law_bent, mOf, outM, startD, sSeq, sIf, sRet, sNil, sPar, par2, fOrT, fNotT, fTest, fIsi, fVar, tyD, isiB, asB, fOp, fMk, mkTup, aCons, aNil, opEqA_nil, hemp, fCall, e_pick, fC, g1, opEq_int, q0, bLen, lenL, g2, g3, fSlice, oNone, oSome, slD, cb, opAdd_int, cc, ad]
    have q2 : (y == 1) = false := by simp [k1]
    have z1 : 1 ≤ sizeLine := by decide
    by_cases k2 : y = 2
    · subst k2
      obtain ⟨e, s4, g4, o4, w4, h4, t4, f4, l4⟩ := thing_ok t3
      refine ⟨.tup (xs.take a.toNat ++ [e] ++ xs.drop a.toNat), s4, ?_, mixT hok (fun z hz => ?_) (by rw [wL_append, wL_append, wL, wL]; omega), t4, f13.trans f4, by rw [l4, l13]⟩
      · have ad := addT_any (xs := xs.take a.toNat) (ys := [e]) (by have := lt a.toNat; simp; omega)
        have ad2 := addT_any (xs := xs.take a.toNat ++ [e]) (ys := xs.drop a.toNat) (by have := lt a.toNat; have := ld a.toNat; simp at *; omega)
        simp [m__law_bent, g__law_bent, mOf, outM, startD, sSeq, sIf, sRet, sNil, sPar, par2, fOrT, fNotT, fTest, fIsi, fVar, tyD, isiB, asB, fOp, fMk, mkTup, z1, aCons, aNil, opEqA_nil, hemp, fCall, e_pick, fC, g1, opEq_int, q0, q1, q2, bLen, lenL, g2, g3, fSlice, oNone, oSome, slD, ca, cb, opAdd_int, g4, ad]
        simp at ad2
        simp [ad2]
      · rcases List.mem_append.mp hz with hz | hz
        · rcases List.mem_append.mp hz with hz | hz
          · exact .inl (mt _ z hz)
          · rw [List.mem_singleton.mp hz]
            exact .inr ⟨o4, by omega⟩
        · exact .inl (md _ z hz)
    have q3 : (y == 2) = false := by simp [k2]
    by_cases k3 : y = 3
    · subst k3
      obtain ⟨e, s4, g4, m4, t4, f4, l4⟩ := one_okT (xs := xs) t3 hpos (by omega)
      have we := wL_mem m4
      refine ⟨.tup (xs.take a.toNat ++ [e] ++ xs.drop (a.toNat + 1)), s4, ?_, mixT hok (fun z hz => .inl ?_) (by rw [wL_append, wL_append, wL, wL]; omega), t4, f13.trans f4, by rw [l4, l13]⟩
      · have ad := addT_any (xs := xs.take a.toNat) (ys := [e]) (by have := lt a.toNat; simp; omega)
        have ad2 := addT_any (xs := xs.take a.toNat ++ [e]) (ys := xs.drop (a.toNat + 1)) (by have := lt a.toNat; have := ld (a.toNat + 1); simp at *; omega)
        simp [m__law_bent, g__law_bent, mOf, outM, startD, sSeq, sIf, sRet, sNil, sPar, par2, fOrT, fNotT, fTest, fIsi, fVar, tyD, isiB, asB, fOp, fMk, mkTup, z1, aCons, aNil, opEqA_nil, hemp, fCall, e_pick, e_one, fC, g1, opEq_int, q0, q1, q2, q3, bLen, lenL, g2, g3, fSlice, oNone, oSome, slD, ca, cd, opAdd_int, g4, ad]
        simp at ad2
        simp [ad2]
      · rcases List.mem_append.mp hz with hz | hz
        · rcases List.mem_append.mp hz with hz | hz
          · exact mt _ z hz
          · rw [List.mem_singleton.mp hz]
            exact m4
        · exact md _ z hz
    have q4 : (y == 3) = false := by simp [k3]
    by_cases k4 : y = 4
    · subst k4
      refine ⟨.lst xs, s3, ?_, ⟨hok, by show wL xs ≤ 2 * wL xs + 2600; omega, by show hL xs + 1 ≤ hL xs + 1 + 4; omega⟩, t3, f13, l13⟩
      simp [m__law_bent, g__law_bent, mOf, outM, startD, sSeq, sIf, sRet, sNil, sPar, par2, fOrT, fNotT, fTest, fIsi, fVar, tyD, isiB, asB, fOp, fMk, mkTup, aCons, aNil, opEqA_nil, hemp, fCall, e_pick, fC, g1, opEq_int, q0, q1, q2, q3, q4, bLen, lenL, g2, g3, bList, listSeq]
    have q5 : (y == 4) = false := by simp [k4]
    obtain ⟨x, hx⟩ : ∃ x, xs[a.toNat]? = some x := ⟨xs[a.toNat]'(by omega), List.getElem?_eq_getElem (by omega)⟩
    have hat : L2.atI xs a = some x := by
      have := atI_nat hx
      rwa [Int.toNat_of_nonneg a0] at this
    have mx : x ∈ xs := List.mem_of_getElem? hx
    have hh : hD x ≤ hL xs := hL_le.mp (Nat.le_refl _) x mx
    have wx := wL_mem mx
    have hwx : wL xs ≤ 200000 := hw
    have hkx : hL xs + 1 < k + 1 := hk
    obtain ⟨e, s4, g4, b4, t4, f4, l4⟩ := bent_ok k t3 (okL_mem.mp (show okL xs = true from hok) x mx) (by omega) (by omega)
    have wa := wL_at hx
    have hb := b4.w
    have hc := b4.h
    refine ⟨.tup (xs.take a.toNat ++ [e] ++ xs.drop (a.toNat + 1)), s4, ?_, mixT hok (fun z hz => ?_) (by rw [wL_append, wL_append, wL, wL]; omega), t4, f13.trans f4, by rw [l4, l13]⟩
    · have ad := addT_any (xs := xs.take a.toNat) (ys := [e]) (by have := lt a.toNat; simp; omega)
      have ad2 := addT_any (xs := xs.take a.toNat ++ [e]) (ys := xs.drop (a.toNat + 1)) (by have := lt a.toNat; have := ld (a.toNat + 1); simp at *; omega)
      simp [m__law_bent, g__law_bent, mOf, outM, startD, sSeq, sIf, sRet, sNil, sPar, par2, fOrT, fNotT, fTest, fIsi, fVar, tyD, isiB, asB, fOp, fMk, mkTup, z1, aCons, aNil, opEqA_nil, hemp, fCall, e_pick, fC, g1, opEq_int, q0, q1, q2, q3, q4, q5, bLen, lenL, g2, g3, fSlice, oNone, oSome, slD, ca, cd, opAdd_int, fSub, ixD, hat, g4, ad]
      simp at ad2
      simp [ad2]
    · rcases List.mem_append.mp hz with hz | hz
      · rcases List.mem_append.mp hz with hz | hz
        · exact .inl (mt _ z hz)
        · rw [List.mem_singleton.mp hz]
          exact .inr ⟨b4.ok, by omega⟩
      · exact .inl (md _ z hz)
end LW
namespace LW
open PySem PySem.Spec PyProof.Rows L2 DL TL
/-- measured -/
def Ms (w h : Nat) (d : D) : Prop := okD d = true ∧ wD d ≤ w ∧ hD d ≤ h
theorem ms_pv : ∀ {d : D}, pvB d = true → Ms 210 0 d
  | .non, _ => ⟨rfl, Nat.zero_le _, Nat.le_refl _⟩
  | .int i, h => ⟨decide_eq_true (by have := of_decide_eq_true (show decide (-1000000000 ≤ i ∧ i ≤ 1000000000) = true from h); omega), Nat.le_refl _, Nat.le_refl _⟩
  | .str x, h => by
    have g := asc_gs (show asc 40 x = true from h)
    exact ⟨List.all_eq_true.mpr fun c hc => decide_eq_true (g.2 c hc), Nat.le_trans g.1 (by decide), Nat.le_refl _⟩
  | .bl _, h => by cases h
  | .tup _, h => by cases h
  | .lst _, h => by cases h
  | .dct _, h => by cases h
  | .scr _, h => by cases h
  | .ref _, h => by cases h
def MsL (w h : Nat) (ds : List D) : Prop := okL ds = true ∧ wL ds ≤ w ∧ hL ds ≤ h
theorem MsL.nil {h : Nat} : MsL 0 h [] := ⟨rfl, Nat.le_refl _, Nat.zero_le _⟩
theorem MsL.cons {w v h : Nat} {d : D} {ds : List D} (a : Ms w h d) (b : MsL v h ds) : MsL (w + 1 + v) h (d :: ds) :=
  ⟨by show (okD d && okL ds) = true; rw [a.1, b.1]; rfl, by have := a.2.1; have := b.2.1; rw [wL]; omega, by rw [hL]; exact Nat.max_le.mpr ⟨a.2.2, b.2.2⟩⟩
theorem Ms.tup {w h : Nat} {ds : List D} (a : MsL w h ds) : Ms w (h + 1) (.tup ds) := ⟨a.1, a.2.1, Nat.succ_le_succ a.2.2⟩
theorem Ms.mono {w h w' h' : Nat} {d : D} (a : Ms w h d) (b : w ≤ w') (c : h ≤ h') : Ms w' h' d := ⟨a.1, Nat.le_trans a.2.1 b, Nat.le_trans a.2.2 c⟩
theorem MsL.mono {w h w' h' : Nat} {d : List D} (a : MsL w h d) (b : w ≤ w') (c : h ≤ h') : MsL w' h' d := ⟨a.1, Nat.le_trans a.2.1 b, Nat.le_trans a.2.2 c⟩
theorem ms_name {s : String} (h : asc 10 (Str.ofString s) = true) (dp : Nat) : Ms 10 dp (.str (Str.ofString s)) := by
  have g := asc_gs h
  exact ⟨List.all_eq_true.mpr fun c hc => decide_eq_true (g.2 c hc), g.1, Nat.zero_le _⟩
theorem ms_nm {n : Nat} {s : String} (h : asc n (Str.ofString s) = true) (dp : Nat) : Ms n dp (.str (Str.ofString s)) := by
  have g := asc_gs h
  exact ⟨List.all_eq_true.mpr fun c hc => decide_eq_true (g.2 c hc), g.1, Nat.zero_le _⟩
theorem ms_int {i : Int} (h : 0 ≤ i ∧ i < 100) (dp : Nat) : Ms 210 dp (.int i) := ⟨decide_eq_true (by omega), Nat.le_refl _, Nat.zero_le _⟩
theorem ms_all {w h : Nat} : ∀ {us : List D}, (∀ u ∈ us, Ms w h u) → MsL (us.length * (w + 1)) h us
  | [], _ => MsL.nil.mono (Nat.zero_le _) (Nat.le_refl _)
  | u :: us, g => (MsL.cons (g u List.mem_cons_self) (ms_all fun x hx => g x (List.mem_cons_of_mem _ hx))).mono (by rw [List.length_cons, Nat.succ_mul]; omega) (Nat.le_refl _)
theorem C.ms {w : Nat} (hw : w ≤ 10) : ∀ c : C, c.ok w → Ms (965 * 2 ^ c.ht - 10) (c.ht + 1) c.d
  | .all, _ => (Ms.tup (MsL.cons (ms_name (s := "all") (by decide +kernel) 0) MsL.nil)).mono (show _ ≤ 965 * 2 ^ 1 - 10 by decide) (show _ ≤ 1 + 1 by decide)
  | .eq c v, h => (Ms.tup (MsL.cons (ms_name (s := "equal") (by decide +kernel) 0) (MsL.cons (ms_int (i := c) (by have := h.1; omega) 0) (MsL.cons (ms_pv h.2) MsL.nil)))).mono (show _ ≤ 965 * 2 ^ 1 - 10 by decide) (show _ ≤ 1 + 1 by decide)
  | .lt c v, h => (Ms.tup (MsL.cons (ms_name (s := "less") (by decide +kernel) 0) (MsL.cons (ms_int (i := c) (by have := h.1; omega) 0) (MsL.cons (ms_pv h.2) MsL.nil)))).mono (show _ ≤ 965 * 2 ^ 1 - 10 by decide) (show _ ≤ 1 + 1 by decide)
  | .st c x, h => (Ms.tup (MsL.cons (ms_name (s := "starts") (by decide +kernel) 0) (MsL.cons (ms_int (i := c) (by have := h.1; omega) 0) (MsL.cons (ms_pv (d := .str x) (gs_asc (h.2.1.mono (by decide)))) MsL.nil)))).mono (show _ ≤ 965 * 2 ^ 1 - 10 by decide) (show _ ≤ 1 + 1 by decide)
  | .one c us, h => by
    have h1 : MsL (us.length * 211) 0 us := ms_all fun u hu => ms_pv (h.2.2.2 u hu)
    have h2 : us.length * 211 ≤ 8 * 211 := Nat.mul_le_mul_right _ h.2.1
    exact (Ms.tup (MsL.cons (ms_name (s := "one_of") (by decide +kernel) 1) (MsL.cons (ms_int (i := c) (by have := h.1; omega) 1) (MsL.cons (Ms.tup (h1.mono h2 (Nat.le_refl _))) MsL.nil)))).mono (show _ ≤ 965 * 2 ^ 1 - 10 by decide) (show _ ≤ 1 + 1 by decide)
  | .not p, h => by
    have hp := C.ms hw p h
    have := C.ht_pos p
    have e : C.ht (.not p) = p.ht + 1 := rfl
    have e2 : 2 ^ 1 ≤ 2 ^ p.ht := Nat.pow_le_pow_right (by decide) this
    refine (Ms.tup (MsL.cons (ms_name (s := "not") (by decide +kernel) _) (MsL.cons hp MsL.nil))).mono ?_ (by rw [e]; omega)
    rw [e, Nat.pow_succ]
    omega
  | .and p q, h => by
    have hp := C.ms hw p h.1
    have hq := C.ms hw q h.2
    have h1 := C.ht_pos p
    have e : C.ht (.and p q) = max p.ht q.ht + 1 := rfl
    have m1 := Nat.le_max_left p.ht q.ht
    have m2 := Nat.le_max_right p.ht q.ht
    rw [e]
    generalize max p.ht q.ht = m at *
    have e1 : 2 ^ p.ht ≤ 2 ^ m := Nat.pow_le_pow_right (by decide) m1
    have e2 : 2 ^ q.ht ≤ 2 ^ m := Nat.pow_le_pow_right (by decide) m2
    have e3 : 2 ^ 1 ≤ 2 ^ p.ht := Nat.pow_le_pow_right (by decide) (by omega)
    have e4 : 2 ^ 1 ≤ 2 ^ q.ht := Nat.pow_le_pow_right (by decide) (C.ht_pos q)
    refine (Ms.tup (MsL.cons (ms_nm (n := 3) (s := "and") (by decide +kernel) (m + 1)) (MsL.cons (hp.mono (Nat.le_refl _) (by omega)) (MsL.cons (hq.mono (Nat.le_refl _) (by omega)) MsL.nil)))).mono ?_ (by omega)
    rw [Nat.pow_succ]
    omega
  | .or p q, h => by
    have hp := C.ms hw p h.1
    have hq := C.ms hw q h.2
    have h1 := C.ht_pos p
    have e : C.ht (.or p q) = max p.ht q.ht + 1 := rfl
    have m1 := Nat.le_max_left p.ht q.ht
    have m2 := Nat.le_max_right p.ht q.ht
    rw [e]
    generalize max p.ht q.ht = m at *
    have e1 : 2 ^ p.ht ≤ 2 ^ m := Nat.pow_le_pow_right (by decide) m1
    have e2 : 2 ^ q.ht ≤ 2 ^ m := Nat.pow_le_pow_right (by decide) m2
    have e3 : 2 ^ 1 ≤ 2 ^ p.ht := Nat.pow_le_pow_right (by decide) (by omega)
    have e4 : 2 ^ 1 ≤ 2 ^ q.ht := Nat.pow_le_pow_right (by decide) (C.ht_pos q)
    refine (Ms.tup (MsL.cons (ms_nm (n := 3) (s := "or") (by decide +kernel) (m + 1)) (MsL.cons (hp.mono (Nat.le_refl _) (by omega)) (MsL.cons (hq.mono (Nat.le_refl _) (by omega)) MsL.nil)))).mono ?_ (by omega)
    rw [Nat.pow_succ]
    omega
theorem Ms.okw {w h : Nat} {d : D} (a : Ms w h d) (l : w ≤ 200000) : okw d := ⟨a.1, Nat.le_trans a.2.1 l⟩
/-- one more round of not, and, or -/
abbrev bWrap : FS := (sSeq (sAsg (fMk mkTup (aCons (fC (.str (Str.ofString "all"))) aNil)) (gN 6)) (sSeq (sAsg (fMk mkLst (aCons (fMk mkTup (aCons (fC (.str (Str.ofString "not"))) (aCons (fSub (fVar 4) (fC (.int 1))) aNil))) (aCons (fMk mkTup (aCons (fC (.str (Str.ofString "and"))) (aCons (fVar 6) (aCons (fSub (fVar 4) (fC (.int 1))) aNil)))) (aCons (fMk mkTup (aCons (fC (.str (Str.ofString "or"))) (aCons (fVar 6) (aCons (fSub (fVar 4) (fC (.int 1))) aNil)))) (aCons (fMk mkTup (aCons (fC (.str (Str.ofString "and"))) (aCons (fSub (fVar 4) (fC (.int 1))) (aCons (fVar 6) aNil)))) aNil))))) (gN 7)) (sPutL (fVar 4) (fC (.int 1)) (fCall m__law_one_of (aCons (fVar 2) (aCons (fVar 7) aNil))))))
theorem wrap_one {a b c x5 x6 x7 x8 x9 : Option D} {n m : Nat} {c0 d : D} {w h : Nat} {st : Store} (t : Tp st n) (hm : m ≠ n) (hs : st[m]? = some (.lst [c0, d])) (md : Ms w h d) :
    ∃ e st' y6 y7, bWrap [a, b, some (.ref n), c, some (.ref m), x5, x6, x7, x8, x9] st = some (.nx, [a, b, some (.ref n), c, some (.ref m), x5, y6, y7, x8, x9], st') ∧ Tp st' n ∧ st'[m]? = some (.lst [c0, e]) ∧ Ms (w + 14) (max 1 h + 1) e := by
  let pl : D := .tup [.str (Str.ofString "all")]
  let opts : List D := [.tup [.str (Str.ofString "not"), d], .tup [.str (Str.ofString "and"), pl, d], .tup [.str (Str.ofString "or"), pl, d], .tup [.str (Str.ofString "and"), d, pl]]
  have mp : Ms 4 1 pl := Ms.tup (MsL.cons (ms_nm (n := 3) (s := "all") (by decide +kernel) 0) MsL.nil)
  have h1 := Nat.le_max_left 1 h
  have h2 := Nat.le_max_right 1 h
  have ho : ∀ e ∈ opts, Ms (w + 14) (max 1 h + 1) e := fun e he => by
    simp only [opts, List.mem_cons, List.not_mem_nil, or_false] at he
    rcases he with rfl | rfl | rfl | rfl
    · exact (Ms.tup (MsL.cons (ms_nm (n := 3) (s := "not") (by decide +kernel) (max 1 h)) (MsL.cons (md.mono (Nat.le_refl _) h2) MsL.nil))).mono (by omega) (Nat.le_refl _)
    · exact (Ms.tup (MsL.cons (ms_nm (n := 3) (s := "and") (by decide +kernel) (max 1 h)) (MsL.cons (mp.mono (Nat.le_refl _) h1) (MsL.cons (md.mono (Nat.le_refl _) h2) MsL.nil)))).mono (by omega) (Nat.le_refl _)
    · exact (Ms.tup (MsL.cons (ms_nm (n := 2) (s := "or") (by decide +kernel) (max 1 h)) (MsL.cons (mp.mono (Nat.le_refl _) h1) (MsL.cons (md.mono (Nat.le_refl _) h2) MsL.nil)))).mono (by omega) (Nat.le_refl _)
    · exact (Ms.tup (MsL.cons (ms_nm (n := 3) (s := "and") (by decide +kernel) (max 1 h)) (MsL.cons (md.mono (Nat.le_refl _) h2) (MsL.cons (mp.mono (Nat.le_refl _) h1) MsL.nil)))).mono (by omega) (Nat.le_refl _)
  obtain ⟨e, s1, g1, m1, t1, f1, l1⟩ := one_ok (xs := opts) t (by simp [opts]) (by simp [opts])
  have hlt : m < st.length := (List.getElem?_eq_some_iff.mp hs).1
  have hs1 : s1[m]? = some (.lst [c0, d]) := by rw [f1.at_ m hm hlt]; exact hs
  have z : ∀ k : Nat, k ≤ 20 → k ≤ sizeLine := fun k hk => Nat.le_trans hk (by decide)
  have at1 : L2.atI [c0, d] 1 = some d := ix1
  refine ⟨e, s1.set m (.lst [c0, e]), some pl, some (.lst opts), ?_, ?_, ?_, ho e m1⟩
  · simp only [opts, pl] at g1
    simp [bWrap, sSeq, sAsg, gN, fMk, mkTup, mkLst, aCons, aNil, fC, fVar, fSub, ixD, hs, at1, z, sPutL, fCall, e_one, g1, hs1, ixN, opts, pl]
  · obtain ⟨x, y, k1, k2, k3, k4⟩ := t1.at_
    exact ⟨x, y, by rw [List.getElem?_set_ne hm]; exact k1, k2, k3, k4⟩
  · rw [List.getElem?_set_self (by omega)]
theorem wrap_all {a b c x8 x9 : Option D} {n m : Nat} {c0 : D} (hm : m ≠ n) : ∀ (ds : List D) {x5 x6 x7 : Option D} {d : D} {w h : Nat} {st : Store}, Tp st n → st[m]? = some (.lst [c0, d]) → Ms w h d → 1 ≤ h →
    ∃ e st' y5 y6 y7, loopS (gN 5) bWrap ds [a, b, some (.ref n), c, some (.ref m), x5, x6, x7, x8, x9] st = some (.nx, [a, b, some (.ref n), c, some (.ref m), y5, y6, y7, x8, x9], st') ∧ Tp st' n ∧ st'[m]? = some (.lst [c0, e]) ∧ Ms (w + 14 * ds.length) (h + ds.length) e
  | [], x5, x6, x7, d, w, h, st, t, hs, md, _ => ⟨d, st, x5, x6, x7, rfl, t, hs, md⟩
  | v :: ds, x5, x6, x7, d, w, h, st, t, hs, md, h1 => by
    obtain ⟨e, s1, y6, y7, g1, t1, hs1, m1⟩ := wrap_one (a := a) (b := b) (c := c) (x5 := some v) (x6 := x6) (x7 := x7) (x8 := x8) (x9 := x9) t hm hs md
    rw [Nat.max_eq_right h1] at m1
    obtain ⟨e2, s2, z5, z6, z7, g2, t2, hs2, m2⟩ := wrap_all (a := a) (b := b) (c := c) (x8 := x8) (x9 := x9) hm ds (x5 := some v) (x6 := y6) (x7 := y7) t1 hs1 m1 (by omega)
    refine ⟨e2, s2, z5, z6, z7, ?_, t2, hs2, m2.mono (by rw [List.length_cons]; omega) (by rw [List.length_cons]; omega)⟩
    simp only [loopS, gN, Option.bind_some, List.set_cons_succ, List.set_cons_zero, List.length_cons, List.length_nil]
    simp [g1, g2]
end LW
namespace LW
open PySem PySem.Spec PyProof.Rows L2 DL TL
abbrev bBend : FS := (sSeq (sAsg (fCall (m__law_bent 40) (aCons (fVar 2) (aCons (fVar 8) aNil))) (gN 9)) (sSeq (sIf (fTest (fOp opGt (fVar 5) (fC (.int 4)))) (sAsg (fCall (m__law_bent 40) (aCons (fVar 2) (aCons (fVar 9) aNil))) (gN 9)) sNil) (sIf (fNotT (fTest (fCall m__law_right (aCons (fVar 9) (aCons (fVar 3) aNil))))) (sRet (fC (.bl false))) sNil)))
theorem bend_ok {a b x4 x6 x7 x9 : Option D} {n : Nat} {w : Int} {d : D} {i : Int} (md : Ms 40000 25 d) {st : Store} (t : Tp st n) :
    ∃ st' y9, bBend [a, b, some (.ref n), some (.int w), x4, some (.int i), x6, x7, some d, x9] st = some (.nx, [a, b, some (.ref n), some (.int w), x4, some (.int i), x6, x7, some d, y9], st') ∧ Tp st' n := by
  obtain ⟨e, s1, g1, b1, t1, f1, l1⟩ := bent_ok 40 t md.1 (by have := md.2.1; omega) (by have := md.2.2; omega)
  have w1 := b1.w
  have h1 := b1.h
  have w0 := md.2.1
  have h0 := md.2.2
  by_cases c : 4 < i
  · obtain ⟨e2, s2, g2, b2, t2, f2, l2⟩ := bent_ok 40 t1 b1.ok (by omega) (by omega)
    have w2 := b2.w
    have h2 := b2.h
    have r := right_ok (d := e2) ⟨b2.ok, by omega⟩ (by omega) w s2
    exact ⟨s2, some e2, by simp [bBend, sSeq, sAsg, sIf, sNil, gN, fCall, aCons, aNil, fVar, g1, fTest, fOp, fC, opGt_int, c, asB, g2, fNotT, r], t2⟩
  · have r := right_ok (d := e) ⟨b1.ok, by omega⟩ (by omega) w s1
    exact ⟨s1, some e, by simp [bBend, sSeq, sAsg, sIf, sNil, gN, fCall, aCons, aNil, fVar, g1, fTest, fOp, fC, opGt_int, c, asB, fNotT, r], t1⟩
abbrev bThing : FS := (sSeq (sIf (fOrT (fNotT (fTest (fCall m__law_right (aCons (fVar 8) (aCons (fVar 3) aNil))))) (fNotT (fTest (fCall m__law_right (aCons (fVar 8) (aCons (fOp opAdd (fC (.int 1)) (fCall m__law_pick (aCons (fVar 2) (aCons (fC (.int 6)) aNil)))) aNil)))))) (sRet (fC (.bl false))) sNil) (sFor (iOfA asR1 (aCons (fC (.int 7)) aNil)) (gN 5) bBend))
theorem each_ok {a b x4 x5 x6 x7 x9 : Option D} {n : Nat} {w : Int} {d : D} (md : Ms 40000 25 d) {st : Store} (t : Tp st n) :
    ∃ st' y5 y9, bThing [a, b, some (.ref n), some (.int w), x4, x5, x6, x7, some d, x9] st = some (.nx, [a, b, some (.ref n), some (.int w), x4, y5, x6, x7, some d, y9], st') ∧ Tp st' n := by
  have r1 := fun (v : Int) (s : Store) => right_ok (d := d) ⟨md.1, by have := md.2.1; omega⟩ (by have := md.2.2; omega) v s
  obtain ⟨r, s1, g1, r0, r6, t1, f1, l1⟩ := pick_ok t (s := 6) (by decide) (by decide)
  obtain ⟨e4, s4, g4, ⟨y5, y9, hy⟩, t4⟩ := loopS_inv (tg := gN 5) (body := bBend) (fun env st => (∃ y5 y9, env = [a, b, some (.ref n), some (.int w), x4, y5, x6, x7, some d, y9]) ∧ Tp st n) (ds := rg 0 7) (fun v hv env st i => by
    obtain ⟨⟨y5, y9, rfl⟩, t⟩ := i
    obtain ⟨k, rfl, _, _⟩ := rg_mem hv
    obtain ⟨st', z9, e, t'⟩ := bend_ok (a := a) (b := b) (x4 := x4) (x6 := x6) (x7 := x7) (x9 := y9) (w := w) (i := k) md t
    exact ⟨[a, b, some (.ref n), some (.int w), x4, some (.int k), x6, x7, some d, y9], by simp [gN], .nx, _, st', e, .inl rfl, ⟨_, _, rfl⟩, t'⟩) (env := [a, b, some (.ref n), some (.int w), x4, x5, x6, x7, some d, x9]) (st := s1) ⟨⟨_, _, rfl⟩, t1⟩
  subst hy
  have ra := asR1_ok (n := 7) (by decide) (by decide)
  refine ⟨s4, y5, y9, ?_, t4⟩
  simp [bThing, sSeq, sIf, sNil, fOrT, fNotT, fTest, fCall, aCons, aNil, fVar, r1, asB, fOp, fC, e_pick, g1, opAdd_int]
  simp [sFor, iOfA, aCons, aNil, fC, ra, g4]
abbrev bStart : FS := (sSeq (sAsg (fCall m__law_tape (aCons (fVar 0) (aCons (fVar 1) aNil))) (gN 2)) (sSeq (sAsg (fOp opAdd (fC (.int 1)) (fCall m__law_pick (aCons (fVar 2) (aCons (fC (.int 6)) aNil)))) (gN 3)) (sSeq (sAsg (fNewL (aCons (fCall (m__law_condition 5) (aCons (fVar 2) (aCons (fVar 3) (aCons (fOp opAdd (fC (.int 1)) (fCall m__law_pick (aCons (fVar 2) (aCons (fC (.int 3)) aNil)))) aNil)))) (aCons (fCall m__law_test (aCons (fVar 2) (aCons (fVar 3) aNil))) aNil))) (gN 4)) (sSeq (sFor (iOfA asR1 (aCons (fOp opAdd (fC (.int 6)) (fCall m__law_pick (aCons (fVar 2) (aCons (fC (.int 4)) aNil)))) aNil)) (gN 5) bWrap) (sFor (iOfZ (fVar 4)) (gN 8) bThing)))))
theorem start_ok {ns : List Int} (hb : ∀ z ∈ ns, Builtin.Int.intBits z ≤ 1048576) {s : Int} (s0 : 0 ≤ s) (s1 : s < 5) {x2 x3 x4 x5 x6 x7 x8 x9 : Option D} {st : Store} :
    ∃ st' y2 y3 y4 y5 y6 y7 y8 y9, bStart [some (.scr ns), some (.int s), x2, x3, x4, x5, x6, x7, x8, x9] st = some (.nx, [some (.scr ns), some (.int s), y2, y3, y4, y5, y6, y7, y8, y9], st') := by
  obtain ⟨sa, ha, _, ta, _⟩ := tape_ok (st := st) hb s0 (by omega)
  generalize st.length = n at *
  obtain ⟨r, sb, g1, r0, r6, tb, _, _⟩ := pick_ok ta (s := 6) (by decide) (by decide)
  obtain ⟨r2, sc, g2, r20, r23, tc, _, _⟩ := pick_ok tb (s := 3) (by decide) (by decide)
  obtain ⟨c, sd, g3, ok, hh, td, _, _⟩ := cond_ok 5 tc (w := 1 + r) (dp := 1 + r2) (by omega) (by omega) (by omega) (by omega)
  obtain ⟨c2, se, g4, ok2, hh2, te, _, _⟩ := test_ok td (w := 1 + r) (by omega) (by omega)
  have m0 := C.ms (w := (1 + r).toNat) (by omega) c ok
  have e1 : 2 ^ c.ht ≤ 2 ^ 5 := Nat.pow_le_pow_right (by decide) hh
  have m0' : Ms 40000 25 c.d := m0.mono (by omega) (by omega)
  have m1 := C.ms (w := (1 + r).toNat) (by omega) c2 ok2
  rw [hh2] at m1
  have hlt := te.lt
  -- the list
  have tf : Tp (se ++ [.lst [c.d, c2.d]]) n := by
    obtain ⟨x, y, k1, k2, k3, k4⟩ := te.at_
    exact ⟨x, y, by rw [List.getElem?_append_left hlt]; exact k1, k2, k3, k4⟩
  have hm : se.length ≠ n := by omega
  have hs : (se ++ [Ob.lst [c.d, c2.d]])[se.length]? = some (.lst [c.d, c2.d]) := by simp
  obtain ⟨r3, sg, g5, r30, r34, tg, fg, lg⟩ := pick_ok tf (s := 4) (by decide) (by decide)
  have hs2 : sg[se.length]? = some (.lst [c.d, c2.d]) := by rw [fg.at_ _ hm (by simp)]; exact hs
  generalize hgm : se.length = m at *
  obtain ⟨e, sh, y5, y6, y7, g6, th, hs3, m2⟩ := wrap_all (a := some (.scr ns)) (b := some (.int s)) (c := some (.int (1 + r))) (x8 := x8) (x9 := x9) hm (rg 0 (6 + r3)) (x5 := x5) (x6 := x6) (x7 := x7) tg hs2 m1 (by decide)
  have lr : (rg 0 (6 + r3)).length ≤ 10 := by rw [rg_len]; omega
  have m2' : Ms 40000 25 e := m2.mono (by omega) (by omega)
  have ra := asR1_ok (n := 6 + r3) (by omega) (by omega)
  have ti : Tp (sh.set m .dead) n := by
    obtain ⟨x, y, k1, k2, k3, k4⟩ := th.at_
    exact ⟨x, y, by rw [List.getElem?_set_ne hm]; exact k1, k2, k3, k4⟩
  obtain ⟨e4, s4, g7, ⟨z5, z6, z7, z8, z9, hz⟩, _⟩ := loopS_inv (tg := gN 8) (body := bThing) (fun env st => (∃ z5 z6 z7 z8 z9, env = [some (.scr ns), some (.int s), some (.ref n), some (.int (1 + r)), some (.ref m), z5, z6, z7, z8, z9]) ∧ Tp st n) (ds := [c.d, e]) (fun v hv env st i => by
    obtain ⟨⟨z5, z6, z7, z8, z9, rfl⟩, t⟩ := i
    have mv : Ms 40000 25 v := by
      simp only [List.mem_cons, List.not_mem_nil, or_false] at hv
      rcases hv with rfl | rfl
      · exact m0'
      · exact m2'
    obtain ⟨st', u5, u9, ee, t'⟩ := each_ok (a := some (.scr ns)) (b := some (.int s)) (x4 := some (.ref m)) (x5 := z5) (x6 := z6) (x7 := z7) (x9 := z9) (w := 1 + r) mv t
    exact ⟨[some (.scr ns), some (.int s), some (.ref n), some (.int (1 + r)), some (.ref m), z5, z6, z7, some v, z9], by simp [gN], .nx, _, st', ee, .inl rfl, ⟨_, _, _, _, _, rfl⟩, t'⟩) (env := [some (.scr ns), some (.int s), some (.ref n), some (.int (1 + r)), some (.ref m), y5, y6, y7, x8, x9]) (st := sh.set m .dead) ⟨⟨_, _, _, _, _, rfl⟩, ti⟩
  subst hz
  have z2 : 2 ≤ sizeLine := by decide
  refine ⟨s4, some (.ref n), some (.int (1 + r)), some (.ref m), z5, z6, z7, z8, z9, ?_⟩
  simp [bStart, sSeq, sAsg, gN, fCall, aCons, aNil, fVar, fC, fOp, e_tape, ha, e_pick, g1, opAdd_int, fNewL, g2, g3, g4, z2, hgm]
  simp [sFor, iOfA, aCons, aNil, fC, fOp, fCall, fVar, g5, opAdd_int, ra, g6, iOfZ, hs3, g7]
theorem last_ok : ∀ v ∈ ([.non, .int 5, .bl true, .str (Str.ofString "all"), .str (Str.ofString ""), .lst [], .tup [], .dct [], .tup [.str (Str.ofString "all"), .int 1], .lst [.str (Str.ofString "all")], .tup [.str (Str.ofString "starts"), .int 0, .str (Str.ofString "")]] : List D), okw v ∧ cw 6 8 v = false := by
  have ok : ([.non, .int 5, .bl true, .str (Str.ofString "all"), .str (Str.ofString ""), .lst [], .tup [], .dct [], .tup [.str (Str.ofString "all"), .int 1], .lst [.str (Str.ofString "all")], .tup [.str (Str.ofString "starts"), .int 0, .str (Str.ofString "")]] : List D).all (fun v => (okD v && decide (wD v ≤ 200000)) && !cw 6 8 v) = true := by decide +kernel
  intro v hv
  have := List.all_eq_true.mp ok v hv
  rw [Bool.and_eq_true, Bool.and_eq_true] at this
  exact ⟨⟨this.1.1, of_decide_eq_true this.1.2⟩, by simpa using this.2⟩
theorem all_ok : okw (.tup [.str (Str.ofString "all")]) ∧ cw 1 8 (.tup [.str (Str.ofString "all")]) = true := by
  have ok : ((okD (.tup [.str (Str.ofString "all")]) && decide (wD (.tup [.str (Str.ofString "all")]) ≤ 200000)) && cw 1 8 (.tup [.str (Str.ofString "all")])) = true := by decide +kernel
  rw [Bool.and_eq_true, Bool.and_eq_true] at ok
  exact ⟨⟨ok.1.1, of_decide_eq_true ok.1.2⟩, ok.2⟩
theorem law_true (ns : List Int) (h : ns.length ≤ 63) (hb : ∀ z ∈ ns, Builtin.Int.intBits z ≤ 1048576) : ∃ st', m_law [.scr ns] [] = some (.bl true, st') := by
  obtain ⟨j, hj, hj2⟩ : ∃ j : Int, (iOfA asR1 (aCons (fMk bMax (aCons (fC (.int 2)) (aCons (fMk bMin (aCons (fC (.int 5)) (aCons (fMk bLen (aCons (fVar 0) aNil)) aNil))) aNil))) aNil)) [some (.scr ns), none, none, none, none, none, none, none, none, none] [] = some (rg 0 j, []) ∧ j ≤ 5 := by
    refine ⟨if (if (ns.length : Int) < 5 then (ns.length : Int) else 5) > 2 then (if (ns.length : Int) < 5 then (ns.length : Int) else 5) else 2, ?_, by split <;> (try split) <;> omega⟩
    generalize hq : (if (if (ns.length : Int) < 5 then (ns.length : Int) else 5) > 2 then (if (ns.length : Int) < 5 then (ns.length : Int) else 5) else 2) = q
    have q0 : 0 ≤ q ∧ q ≤ 5 := by
      subst hq
      split <;> (try split) <;> omega
    have := asR1_ok (n := q) q0.1 (by omega)
    simp [iOfA, aCons, aNil, fMk, fC, fVar, bMax, bMin, bLen, lenL]
    simp at hq
    rw [hq, this]
  obtain ⟨e2, s2, h2, ⟨a2, b2, c2, d2, f2, g2, i2, k2, l2, he2⟩⟩ := loopS_inv (tg := gN 1) (body := bStart) (fun env _ => ∃ a b c d e f g i k, env = [some (.scr ns), a, b, c, d, e, f, g, i, k]) (ds := rg 0 j) (fun d hd env st i => by
      obtain ⟨a, b, c, d1, e, f, g, i, k, rfl⟩ := i
      obtain ⟨s, rfl, s0, s1⟩ := rg_mem hd
      obtain ⟨st', y2, y3, y4, y5, y6, y7, y8, y9, ee⟩ := start_ok hb s0 (by omega) (x2 := b) (x3 := c) (x4 := d1) (x5 := e) (x6 := f) (x7 := g) (x8 := i) (x9 := k) (st := st)
      exact ⟨[some (.scr ns), some (.int s), b, c, d1, e, f, g, i, k], by simp [gN], .nx, _, st', ee, .inl rfl, ⟨_, _, _, _, _, _, _, _, _, rfl⟩⟩) (env := [some (.scr ns), none, none, none, none, none, none, none, none, none]) (st := []) ⟨_, _, _, _, _, _, _, _, _, rfl⟩
  subst he2
  let bLast : FS := sIf (fTest (fOp opIsnt (fCall m_is_condition (aCons (fVar 8) (aCons (fC (.int 6)) aNil))) (fC (.bl false)))) (sRet (fC (.bl false))) sNil
  let ls : List D := [.non, .int 5, .bl true, .str (Str.ofString "all"), .str (Str.ofString ""), .lst [], .tup [], .dct [], .tup [.str (Str.ofString "all"), .int 1], .lst [.str (Str.ofString "all")], .tup [.str (Str.ofString "starts"), .int 0, .str (Str.ofString "")]]
  obtain ⟨e3, s3, h3, ⟨z, hz⟩⟩ := loopS_inv (tg := gN 8) (body := bLast) (fun env _ => ∃ z, env = [some (.scr ns), a2, b2, c2, d2, f2, g2, i2, z, l2]) (ds := ls) (fun d hd env st i => by
      obtain ⟨z, rfl⟩ := i
      obtain ⟨ok, ct⟩ := last_ok d hd
      have cc := cond_is ok 6 st
      rw [ct] at cc
      exact ⟨[some (.scr ns), a2, b2, c2, d2, f2, g2, i2, some d, l2], by simp [gN], .nx, [some (.scr ns), a2, b2, c2, d2, f2, g2, i2, some d, l2], st, by simp [bLast, sIf, fTest, fOp, fCall, aCons, aNil, fVar, fC, cc, opIsnt, orD, isntN, isntB, asB, sNil], .inl rfl, ⟨some d, rfl⟩⟩) (env := [some (.scr ns), a2, b2, c2, d2, f2, g2, i2, k2, l2]) (st := s2) ⟨_, rfl⟩
  subst hz
  have ca := cond_is all_ok.1 1 s3
  rw [all_ok.2] at ca
  have z : ∀ k : Nat, k ≤ 20 → k ≤ sizeLine := fun k hk => Nat.le_trans hk (by decide)
  refine ⟨s3, ?_⟩
  simp only [m_law, g_law, mOf, outM, startD, sSeq, sFor, List.map_cons, List.map_nil, List.singleton_append, show N_law.length = 10 from rfl, List.length_cons, List.length_nil, show List.replicate (10 - (0 + 1)) (none : Option D) = [none, none, none, none, none, none, none, none, none] from rfl, hj, Option.bind_some]
  rw [h2]
  simp only [bLast, ls] at h3
  simp [iOf, asL, fMk, mkLst, mkTup, aCons, aNil, fC, z]
  rw [h3]
  simp [sRet, fOp, fCall, aCons, aNil, fMk, mkTup, fC, z, ca, opIs, orD, isN, isB]
end LW
namespace LW
open PySem PySem.Spec PyProof.Rows L2 DL
theorem all_mk {l : PySem.W.OpenLaw} {w : World} {K : PySem.W.Frag} {h : Heap} {mg : Str → Option Value} {fa : Addr} (X : K.In h) (G : h.Ns mainGlobals mg) (hfa : mg "law" = some (.ref fa))
    {p__law_tape : Addr} {od__law_tape an__law_tape : Option Addr} {sl__law_tape : Array (Option Value)} {oc__law_tape kV__law_tape dc__law_tape pm__law_tape cd__law_tape ct__law_tape : Value}
    (a__law_tape : PySem.W.nsIn K mainGlobals "_law_tape" = some (some (.ref p__law_tape))) (l__law_tape : K.lookup p__law_tape = some ⟨oc__law_tape, od__law_tape, .func (PySem.W.fnOf "_law_tape" "_law_tape" (defArgs s__law_tape) (defBody s__law_tape) (defScope s__law_tape) .none kV__law_tape dc__law_tape pm__law_tape an__law_tape cd__law_tape ct__law_tape), sl__law_tape⟩) (c__law_tape : PySem.W.codeIn K cd__law_tape "_law_tape" = true) (k__law_tape : PySem.W.keepIn K (.ref p__law_tape) = true)
    {p__law_pick : Addr} {od__law_pick an__law_pick : Option Addr} {sl__law_pick : Array (Option Value)} {oc__law_pick kV__law_pick dc__law_pick pm__law_pick cd__law_pick ct__law_pick : Value}
    (a__law_pick : PySem.W.nsIn K mainGlobals "_law_pick" = some (some (.ref p__law_pick))) (l__law_pick : K.lookup p__law_pick = some ⟨oc__law_pick, od__law_pick, .func (PySem.W.fnOf "_law_pick" "_law_pick" (defArgs s__law_pick) (defBody s__law_pick) (defScope s__law_pick) .none kV__law_pick dc__law_pick pm__law_pick an__law_pick cd__law_pick ct__law_pick), sl__law_pick⟩) (c__law_pick : PySem.W.codeIn K cd__law_pick "_law_pick" = true) (k__law_pick : PySem.W.keepIn K (.ref p__law_pick) = true)
    {p__law_one_of : Addr} {od__law_one_of an__law_one_of : Option Addr} {sl__law_one_of : Array (Option Value)} {oc__law_one_of kV__law_one_of dc__law_one_of pm__law_one_of cd__law_one_of ct__law_one_of : Value}
    (a__law_one_of : PySem.W.nsIn K mainGlobals "_law_one_of" = some (some (.ref p__law_one_of))) (l__law_one_of : K.lookup p__law_one_of = some ⟨oc__law_one_of, od__law_one_of, .func (PySem.W.fnOf "_law_one_of" "_law_one_of" (defArgs s__law_one_of) (defBody s__law_one_of) (defScope s__law_one_of) .none kV__law_one_of dc__law_one_of pm__law_one_of an__law_one_of cd__law_one_of ct__law_one_of), sl__law_one_of⟩) (c__law_one_of : PySem.W.codeIn K cd__law_one_of "_law_one_of" = true) (k__law_one_of : PySem.W.keepIn K (.ref p__law_one_of) = true)
    {p__law_value : Addr} {od__law_value an__law_value : Option Addr} {sl__law_value : Array (Option Value)} {oc__law_value kV__law_value dc__law_value pm__law_value cd__law_value ct__law_value : Value}
    (a__law_value : PySem.W.nsIn K mainGlobals "_law_value" = some (some (.ref p__law_value))) (l__law_value : K.lookup p__law_value = some ⟨oc__law_value, od__law_value, .func (PySem.W.fnOf "_law_value" "_law_value" (defArgs s__law_value) (defBody s__law_value) (defScope s__law_value) .none kV__law_value dc__law_value pm__law_value an__law_value cd__law_value ct__law_value), sl__law_value⟩) (c__law_value : PySem.W.codeIn K cd__law_value "_law_value" = true) (k__law_value : PySem.W.keepIn K (.ref p__law_value) = true)
    {p__law_test : Addr} {od__law_test an__law_test : Option Addr} {sl__law_test : Array (Option Value)} {oc__law_test kV__law_test dc__law_test pm__law_test cd__law_test ct__law_test : Value}
    (a__law_test : PySem.W.nsIn K mainGlobals "_law_test" = some (some (.ref p__law_test))) (l__law_test : K.lookup p__law_test = some ⟨oc__law_test, od__law_test, .func (PySem.W.fnOf "_law_test" "_law_test" (defArgs s__law_test) (defBody s__law_test) (defScope s__law_test) .none kV__law_test dc__law_test pm__law_test an__law_test cd__law_test ct__law_test), sl__law_test⟩) (c__law_test : PySem.W.codeIn K cd__law_test "_law_test" = true) (k__law_test : PySem.W.keepIn K (.ref p__law_test) = true)
    {p__law_condition : Addr} {od__law_condition an__law_condition : Option Addr} {sl__law_condition : Array (Option Value)} {oc__law_condition kV__law_condition dc__law_condition pm__law_condition cd__law_condition ct__law_condition : Value}
    (a__law_condition : PySem.W.nsIn K mainGlobals "_law_condition" = some (some (.ref p__law_condition))) (l__law_condition : K.lookup p__law_condition = some ⟨oc__law_condition, od__law_condition, .func (PySem.W.fnOf "_law_condition" "_law_condition" (defArgs s__law_condition) (defBody s__law_condition) (defScope s__law_condition) .none kV__law_condition dc__law_condition pm__law_condition an__law_condition cd__law_condition ct__law_condition), sl__law_condition⟩) (c__law_condition : PySem.W.codeIn K cd__law_condition "_law_condition" = true) (k__law_condition : PySem.W.keepIn K (.ref p__law_condition) = true)
    {p_is_integer : Addr} {od_is_integer an_is_integer : Option Addr} {sl_is_integer : Array (Option Value)} {oc_is_integer kV_is_integer dc_is_integer pm_is_integer cd_is_integer ct_is_integer : Value}
    (a_is_integer : PySem.W.nsIn K mainGlobals "is_integer" = some (some (.ref p_is_integer))) (l_is_integer : K.lookup p_is_integer = some ⟨oc_is_integer, od_is_integer, .func (PySem.W.fnOf "is_integer" "is_integer" (defArgs s_is_integer) (defBody s_is_integer) (defScope s_is_integer) .none kV_is_integer dc_is_integer pm_is_integer an_is_integer cd_is_integer ct_is_integer), sl_is_integer⟩) (c_is_integer : PySem.W.codeIn K cd_is_integer "is_integer" = true) (k_is_integer : PySem.W.keepIn K (.ref p_is_integer) = true)
    {p_is_string : Addr} {od_is_string an_is_string : Option Addr} {sl_is_string : Array (Option Value)} {oc_is_string kV_is_string dc_is_string pm_is_string cd_is_string ct_is_string : Value}
    (a_is_string : PySem.W.nsIn K mainGlobals "is_string" = some (some (.ref p_is_string))) (l_is_string : K.lookup p_is_string = some ⟨oc_is_string, od_is_string, .func (PySem.W.fnOf "is_string" "is_string" (defArgs s_is_string) (defBody s_is_string) (defScope s_is_string) .none kV_is_string dc_is_string pm_is_string an_is_string cd_is_string ct_is_string), sl_is_string⟩) (c_is_string : PySem.W.codeIn K cd_is_string "is_string" = true) (k_is_string : PySem.W.keepIn K (.ref p_is_string) = true)
    {p_is_value : Addr} {od_is_value an_is_value : Option Addr} {sl_is_value : Array (Option Value)} {oc_is_value kV_is_value dc_is_value pm_is_value cd_is_value ct_is_value : Value}
    (a_is_value : PySem.W.nsIn K mainGlobals "is_value" = some (some (.ref p_is_value))) (l_is_value : K.lookup p_is_value = some ⟨oc_is_value, od_is_value, .func (PySem.W.fnOf "is_value" "is_value" (defArgs s_is_value) (defBody s_is_value) (defScope s_is_value) .none kV_is_value dc_is_value pm_is_value an_is_value cd_is_value ct_is_value), sl_is_value⟩) (c_is_value : PySem.W.codeIn K cd_is_value "is_value" = true) (k_is_value : PySem.W.keepIn K (.ref p_is_value) = true)
    {p_is_choice : Addr} {od_is_choice an_is_choice : Option Addr} {sl_is_choice : Array (Option Value)} {oc_is_choice kV_is_choice dc_is_choice pm_is_choice cd_is_choice ct_is_choice : Value}
    (a_is_choice : PySem.W.nsIn K mainGlobals "is_choice" = some (some (.ref p_is_choice))) (l_is_choice : K.lookup p_is_choice = some ⟨oc_is_choice, od_is_choice, .func (PySem.W.fnOf "is_choice" "is_choice" (defArgs s_is_choice) (defBody s_is_choice) (defScope s_is_choice) .none kV_is_choice dc_is_choice pm_is_choice an_is_choice cd_is_choice ct_is_choice), sl_is_choice⟩) (c_is_choice : PySem.W.codeIn K cd_is_choice "is_choice" = true) (k_is_choice : PySem.W.keepIn K (.ref p_is_choice) = true)
    {p_is_operand : Addr} {od_is_operand an_is_operand : Option Addr} {sl_is_operand : Array (Option Value)} {oc_is_operand kV_is_operand dc_is_operand pm_is_operand cd_is_operand ct_is_operand : Value}
    (a_is_operand : PySem.W.nsIn K mainGlobals "is_operand" = some (some (.ref p_is_operand))) (l_is_operand : K.lookup p_is_operand = some ⟨oc_is_operand, od_is_operand, .func (PySem.W.fnOf "is_operand" "is_operand" (defArgs s_is_operand) (defBody s_is_operand) (defScope s_is_operand) .none kV_is_operand dc_is_operand pm_is_operand an_is_operand cd_is_operand ct_is_operand), sl_is_operand⟩) (c_is_operand : PySem.W.codeIn K cd_is_operand "is_operand" = true) (k_is_operand : PySem.W.keepIn K (.ref p_is_operand) = true)
    {p_is_column : Addr} {od_is_column an_is_column : Option Addr} {sl_is_column : Array (Option Value)} {oc_is_column kV_is_column dc_is_column pm_is_column cd_is_column ct_is_column : Value}
    (a_is_column : PySem.W.nsIn K mainGlobals "is_column" = some (some (.ref p_is_column))) (l_is_column : K.lookup p_is_column = some ⟨oc_is_column, od_is_column, .func (PySem.W.fnOf "is_column" "is_column" (defArgs s_is_column) (defBody s_is_column) (defScope s_is_column) .none kV_is_column dc_is_column pm_is_column an_is_column cd_is_column ct_is_column), sl_is_column⟩) (c_is_column : PySem.W.codeIn K cd_is_column "is_column" = true) (k_is_column : PySem.W.keepIn K (.ref p_is_column) = true)
    {p_is_condition_within : Addr} {od_is_condition_within an_is_condition_within : Option Addr} {sl_is_condition_within : Array (Option Value)} {oc_is_condition_within kV_is_condition_within dc_is_condition_within pm_is_condition_within cd_is_condition_within ct_is_condition_within : Value}
    (a_is_condition_within : PySem.W.nsIn K mainGlobals "is_condition_within" = some (some (.ref p_is_condition_within))) (l_is_condition_within : K.lookup p_is_condition_within = some ⟨oc_is_condition_within, od_is_condition_within, .func (PySem.W.fnOf "is_condition_within" "is_condition_within" (defArgs s_is_condition_within) (defBody s_is_condition_within) (defScope s_is_condition_within) .none kV_is_condition_within dc_is_condition_within pm_is_condition_within an_is_condition_within cd_is_condition_within ct_is_condition_within), sl_is_condition_within⟩) (c_is_condition_within : PySem.W.codeIn K cd_is_condition_within "is_condition_within" = true) (k_is_condition_within : PySem.W.keepIn K (.ref p_is_condition_within) = true)
    {p_is_condition : Addr} {od_is_condition an_is_condition : Option Addr} {sl_is_condition : Array (Option Value)} {oc_is_condition kV_is_condition dc_is_condition pm_is_condition cd_is_condition ct_is_condition : Value}
    (a_is_condition : PySem.W.nsIn K mainGlobals "is_condition" = some (some (.ref p_is_condition))) (l_is_condition : K.lookup p_is_condition = some ⟨oc_is_condition, od_is_condition, .func (PySem.W.fnOf "is_condition" "is_condition" (defArgs s_is_condition) (defBody s_is_condition) (defScope s_is_condition) .none kV_is_condition dc_is_condition pm_is_condition an_is_condition cd_is_condition ct_is_condition), sl_is_condition⟩) (c_is_condition : PySem.W.codeIn K cd_is_condition "is_condition" = true) (k_is_condition : PySem.W.keepIn K (.ref p_is_condition) = true)
    {p__law_integer : Addr} {od__law_integer an__law_integer : Option Addr} {sl__law_integer : Array (Option Value)} {oc__law_integer kV__law_integer dc__law_integer pm__law_integer cd__law_integer ct__law_integer : Value}
    (a__law_integer : PySem.W.nsIn K mainGlobals "_law_integer" = some (some (.ref p__law_integer))) (l__law_integer : K.lookup p__law_integer = some ⟨oc__law_integer, od__law_integer, .func (PySem.W.fnOf "_law_integer" "_law_integer" (defArgs s__law_integer) (defBody s__law_integer) (defScope s__law_integer) .none kV__law_integer dc__law_integer pm__law_integer an__law_integer cd__law_integer ct__law_integer), sl__law_integer⟩) (c__law_integer : PySem.W.codeIn K cd__law_integer "_law_integer" = true) (k__law_integer : PySem.W.keepIn K (.ref p__law_integer) = true)
    {p__law_value_due : Addr} {od__law_value_due an__law_value_due : Option Addr} {sl__law_value_due : Array (Option Value)} {oc__law_value_due kV__law_value_due dc__law_value_due pm__law_value_due cd__law_value_due ct__law_value_due : Value}
    (a__law_value_due : PySem.W.nsIn K mainGlobals "_law_value_due" = some (some (.ref p__law_value_due))) (l__law_value_due : K.lookup p__law_value_due = some ⟨oc__law_value_due, od__law_value_due, .func (PySem.W.fnOf "_law_value_due" "_law_value_due" (defArgs s__law_value_due) (defBody s__law_value_due) (defScope s__law_value_due) .none kV__law_value_due dc__law_value_due pm__law_value_due an__law_value_due cd__law_value_due ct__law_value_due), sl__law_value_due⟩) (c__law_value_due : PySem.W.codeIn K cd__law_value_due "_law_value_due" = true) (k__law_value_due : PySem.W.keepIn K (.ref p__law_value_due) = true)
    {p__law_due : Addr} {od__law_due an__law_due : Option Addr} {sl__law_due : Array (Option Value)} {oc__law_due kV__law_due dc__law_due pm__law_due cd__law_due ct__law_due : Value}
    (a__law_due : PySem.W.nsIn K mainGlobals "_law_due" = some (some (.ref p__law_due))) (l__law_due : K.lookup p__law_due = some ⟨oc__law_due, od__law_due, .func (PySem.W.fnOf "_law_due" "_law_due" (defArgs s__law_due) (defBody s__law_due) (defScope s__law_due) .none kV__law_due dc__law_due pm__law_due an__law_due cd__law_due ct__law_due), sl__law_due⟩) (c__law_due : PySem.W.codeIn K cd__law_due "_law_due" = true) (k__law_due : PySem.W.keepIn K (.ref p__law_due) = true)
    {p__law_right : Addr} {od__law_right an__law_right : Option Addr} {sl__law_right : Array (Option Value)} {oc__law_right kV__law_right dc__law_right pm__law_right cd__law_right ct__law_right : Value}
    (a__law_right : PySem.W.nsIn K mainGlobals "_law_right" = some (some (.ref p__law_right))) (l__law_right : K.lookup p__law_right = some ⟨oc__law_right, od__law_right, .func (PySem.W.fnOf "_law_right" "_law_right" (defArgs s__law_right) (defBody s__law_right) (defScope s__law_right) .none kV__law_right dc__law_right pm__law_right an__law_right cd__law_right ct__law_right), sl__law_right⟩) (c__law_right : PySem.W.codeIn K cd__law_right "_law_right" = true) (k__law_right : PySem.W.keepIn K (.ref p__law_right) = true)
    {p__law_thing : Addr} {od__law_thing an__law_thing : Option Addr} {sl__law_thing : Array (Option Value)} {oc__law_thing kV__law_thing dc__law_thing pm__law_thing cd__law_thing ct__law_thing : Value}
    (a__law_thing : PySem.W.nsIn K mainGlobals "_law_thing" = some (some (.ref p__law_thing))) (l__law_thing : K.lookup p__law_thing = some ⟨oc__law_thing, od__law_thing, .func (PySem.W.fnOf "_law_thing" "_law_thing" (defArgs s__law_thing) (defBody s__law_thing) (defScope s__law_thing) .none kV__law_thing dc__law_thing pm__law_thing an__law_thing cd__law_thing ct__law_thing), sl__law_thing⟩) (c__law_thing : PySem.W.codeIn K cd__law_thing "_law_thing" = true) (k__law_thing : PySem.W.keepIn K (.ref p__law_thing) = true)
    {p__law_bent : Addr} {od__law_bent an__law_bent : Option Addr} {sl__law_bent : Array (Option Value)} {oc__law_bent kV__law_bent dc__law_bent pm__law_bent cd__law_bent ct__law_bent : Value}
    (a__law_bent : PySem.W.nsIn K mainGlobals "_law_bent" = some (some (.ref p__law_bent))) (l__law_bent : K.lookup p__law_bent = some ⟨oc__law_bent, od__law_bent, .func (PySem.W.fnOf "_law_bent" "_law_bent" (defArgs s__law_bent) (defBody s__law_bent) (defScope s__law_bent) .none kV__law_bent dc__law_bent pm__law_bent an__law_bent cd__law_bent ct__law_bent), sl__law_bent⟩) (c__law_bent : PySem.W.codeIn K cd__law_bent "_law_bent" = true) (k__law_bent : PySem.W.keepIn K (.ref p__law_bent) = true)
    {p_law : Addr} {od_law an_law : Option Addr} {sl_law : Array (Option Value)} {oc_law kV_law dc_law pm_law cd_law ct_law : Value}
    (a_law : PySem.W.nsIn K mainGlobals "law" = some (some (.ref p_law))) (l_law : K.lookup p_law = some ⟨oc_law, od_law, .func (PySem.W.fnOf "law" "law" (defArgs s_law) (defBody s_law) (defScope s_law) .none kV_law dc_law pm_law an_law cd_law ct_law), sl_law⟩) (c_law : PySem.W.codeIn K cd_law "law" = true) (k_law : PySem.W.keepIn K (.ref p_law) = true)
    (n_all : PySem.W.nsIn K mainGlobals "all" = some none)
    (n_bool : PySem.W.nsIn K mainGlobals "bool" = some none)
    (n_int : PySem.W.nsIn K mainGlobals "int" = some none)
    (n_isinstance : PySem.W.nsIn K mainGlobals "isinstance" = some none)
    (n_len : PySem.W.nsIn K mainGlobals "len" = some none)
    (n_list : PySem.W.nsIn K mainGlobals "list" = some none)
    (n_max : PySem.W.nsIn K mainGlobals "max" = some none)
    (n_min : PySem.W.nsIn K mainGlobals "min" = some none)
    (n_range : PySem.W.nsIn K mainGlobals "range" = some none)
    (n_repr : PySem.W.nsIn K mainGlobals "repr" = some none)
    (n_str : PySem.W.nsIn K mainGlobals "str" = some none)
    (n_tuple : PySem.W.nsIn K mainGlobals "tuple" = some none)
    {t_GREATEST_DEPTH : Tok} (c_GREATEST_DEPTH : PySem.W.nsIn K mainGlobals "GREATEST_DEPTH" = some (some (.int 8 t_GREATEST_DEPTH)))
    {t_GREATEST_INTEGER : Tok} (c_GREATEST_INTEGER : PySem.W.nsIn K mainGlobals "GREATEST_INTEGER" = some (some (.int 1000000000 t_GREATEST_INTEGER)))
    {t_LONGEST_STRING : Tok} (c_LONGEST_STRING : PySem.W.nsIn K mainGlobals "LONGEST_STRING" = some (some (.int 20 t_LONGEST_STRING)))
    {t_MOST_CHOICES : Tok} (c_MOST_CHOICES : PySem.W.nsIn K mainGlobals "MOST_CHOICES" = some (some (.int 8 t_MOST_CHOICES)))
    : ∃ fd : FuncData, (∀ (s : Shared) (v : Value), BindsTo s fd ⟨[v], []⟩ [("script", v)]) ∧ ∀ base : Heap, K.In base → base.Ns mainGlobals mg → FnD l.prog w K mg base 44 fa fd ["script"] m_law := by
  have e := hfa.symm.trans (PySem.W.mg_of X G a_law)
  cases e
  let T : Txt K mg := { a__law_tape := p__law_tape, f__law_tape := _, F__law_tape := fun_mk (st := s__law_tape) l__law_tape c__law_tape k__law_tape, b__law_tape := (fun_mk (st := s__law_tape) l__law_tape c__law_tape k__law_tape).binds (ps := ["script", "start"]) (fun _ _ _ _ _ _ us hl => (match us, hl with | [_, _], _ => rfl)), g__law_tape := PySem.W.mg_of X G a__law_tape, a__law_pick := p__law_pick, f__law_pick := _, F__law_pick := fun_mk (st := s__law_pick) l__law_pick c__law_pick k__law_pick, b__law_pick := (fun_mk (st := s__law_pick) l__law_pick c__law_pick k__law_pick).binds (ps := ["tape", "size"]) (fun _ _ _ _ _ _ us hl => (match us, hl with | [_, _], _ => rfl)), g__law_pick := PySem.W.mg_of X G a__law_pick, a__law_one_of := p__law_one_of, f__law_one_of := _, F__law_one_of := fun_mk (st := s__law_one_of) l__law_one_of c__law_one_of k__law_one_of, b__law_one_of := (fun_mk (st := s__law_one_of) l__law_one_of c__law_one_of k__law_one_of).binds (ps := ["tape", "items"]) (fun _ _ _ _ _ _ us hl => (match us, hl with | [_, _], _ => rfl)), g__law_one_of := PySem.W.mg_of X G a__law_one_of, a__law_value := p__law_value, f__law_value := _, F__law_value := fun_mk (st := s__law_value) l__law_value c__law_value k__law_value, b__law_value := (fun_mk (st := s__law_value) l__law_value c__law_value k__law_value).binds (ps := ["tape"]) (fun _ _ _ _ _ _ us hl => (match us, hl with | [_], _ => rfl)), g__law_value := PySem.W.mg_of X G a__law_value, a__law_test := p__law_test, f__law_test := _, F__law_test := fun_mk (st := s__law_test) l__law_test c__law_test k__law_test, b__law_test := (fun_mk (st := s__law_test) l__law_test c__law_test k__law_test).binds (ps := ["tape", "width"]) (fun _ _ _ _ _ _ us hl => (match us, hl with | [_, _], _ => rfl)), g__law_test := PySem.W.mg_of X G a__law_test, a__law_condition := p__law_condition, f__law_condition := _, F__law_condition := fun_mk (st := s__law_condition) l__law_condition c__law_condition k__law_condition, b__law_condition := (fun_mk (st := s__law_condition) l__law_condition c__law_condition k__law_condition).binds (ps := ["tape", "width", "depth"]) (fun _ _ _ _ _ _ us hl => (match us, hl with | [_, _, _], _ => rfl)), g__law_condition := PySem.W.mg_of X G a__law_condition, a_is_integer := p_is_integer, f_is_integer := _, F_is_integer := fun_mk (st := s_is_integer) l_is_integer c_is_integer k_is_integer, b_is_integer := (fun_mk (st := s_is_integer) l_is_integer c_is_integer k_is_integer).binds (ps := ["value"]) (fun _ _ _ _ _ _ us hl => (match us, hl with | [_], _ => rfl)), g_is_integer := PySem.W.mg_of X G a_is_integer, a_is_string := p_is_string, f_is_string := _, F_is_string := fun_mk (st := s_is_string) l_is_string c_is_string k_is_string, b_is_string := (fun_mk (st := s_is_string) l_is_string c_is_string k_is_string).binds (ps := ["value"]) (fun _ _ _ _ _ _ us hl => (match us, hl with | [_], _ => rfl)), g_is_string := PySem.W.mg_of X G a_is_string, a_is_value := p_is_value, f_is_value := _, F_is_value := fun_mk (st := s_is_value) l_is_value c_is_value k_is_value, b_is_value := (fun_mk (st := s_is_value) l_is_value c_is_value k_is_value).binds (ps := ["value"]) (fun _ _ _ _ _ _ us hl => (match us, hl with | [_], _ => rfl)), g_is_value := PySem.W.mg_of X G a_is_value, a_is_choice := p_is_choice, f_is_choice := _, F_is_choice := fun_mk (st := s_is_choice) l_is_choice c_is_choice k_is_choice, b_is_choice := (fun_mk (st := s_is_choice) l_is_choice c_is_choice k_is_choice).binds (ps := ["value"]) (fun _ _ _ _ _ _ us hl => (match us, hl with | [_], _ => rfl)), g_is_choice := PySem.W.mg_of X G a_is_choice, a_is_operand := p_is_operand, f_is_operand := _, F_is_operand := fun_mk (st := s_is_operand) l_is_operand c_is_operand k_is_operand, b_is_operand := (fun_mk (st := s_is_operand) l_is_operand c_is_operand k_is_operand).binds (ps := ["kind", "value"]) (fun _ _ _ _ _ _ us hl => (match us, hl with | [_, _], _ => rfl)), g_is_operand := PySem.W.mg_of X G a_is_operand, a_is_column := p_is_column, f_is_column := _, F_is_column := fun_mk (st := s_is_column) l_is_column c_is_column k_is_column, b_is_column := (fun_mk (st := s_is_column) l_is_column c_is_column k_is_column).binds (ps := ["value", "width"]) (fun _ _ _ _ _ _ us hl => (match us, hl with | [_, _], _ => rfl)), g_is_column := PySem.W.mg_of X G a_is_column, a_is_condition_within := p_is_condition_within, f_is_condition_within := _, F_is_condition_within := fun_mk (st := s_is_condition_within) l_is_condition_within c_is_condition_within k_is_condition_within, b_is_condition_within := (fun_mk (st := s_is_condition_within) l_is_condition_within c_is_condition_within k_is_condition_within).binds (ps := ["value", "width", "depth"]) (fun _ _ _ _ _ _ us hl => (match us, hl with | [_, _, _], _ => rfl)), g_is_condition_within := PySem.W.mg_of X G a_is_condition_within, a_is_condition := p_is_condition, f_is_condition := _, F_is_condition := fun_mk (st := s_is_condition) l_is_condition c_is_condition k_is_condition, b_is_condition := (fun_mk (st := s_is_condition) l_is_condition c_is_condition k_is_condition).binds (ps := ["value", "width"]) (fun _ _ _ _ _ _ us hl => (match us, hl with | [_, _], _ => rfl)), g_is_condition := PySem.W.mg_of X G a_is_condition, a__law_integer := p__law_integer, f__law_integer := _, F__law_integer := fun_mk (st := s__law_integer) l__law_integer c__law_integer k__law_integer, b__law_integer := (fun_mk (st := s__law_integer) l__law_integer c__law_integer k__law_integer).binds (ps := ["thing", "least", "most"]) (fun _ _ _ _ _ _ us hl => (match us, hl with | [_, _, _], _ => rfl)), g__law_integer := PySem.W.mg_of X G a__law_integer, a__law_value_due := p__law_value_due, f__law_value_due := _, F__law_value_due := fun_mk (st := s__law_value_due) l__law_value_due c__law_value_due k__law_value_due, b__law_value_due := (fun_mk (st := s__law_value_due) l__law_value_due c__law_value_due k__law_value_due).binds (ps := ["thing"]) (fun _ _ _ _ _ _ us hl => (match us, hl with | [_], _ => rfl)), g__law_value_due := PySem.W.mg_of X G a__law_value_due, a__law_due := p__law_due, f__law_due := _, F__law_due := fun_mk (st := s__law_due) l__law_due c__law_due k__law_due, b__law_due := (fun_mk (st := s__law_due) l__law_due c__law_due k__law_due).binds (ps := ["thing", "width", "depth"]) (fun _ _ _ _ _ _ us hl => (match us, hl with | [_, _, _], _ => rfl)), g__law_due := PySem.W.mg_of X G a__law_due, a__law_right := p__law_right, f__law_right := _, F__law_right := fun_mk (st := s__law_right) l__law_right c__law_right k__law_right, b__law_right := (fun_mk (st := s__law_right) l__law_right c__law_right k__law_right).binds (ps := ["thing", "width"]) (fun _ _ _ _ _ _ us hl => (match us, hl with | [_, _], _ => rfl)), g__law_right := PySem.W.mg_of X G a__law_right, a__law_thing := p__law_thing, f__law_thing := _, F__law_thing := fun_mk (st := s__law_thing) l__law_thing c__law_thing k__law_thing, b__law_thing := (fun_mk (st := s__law_thing) l__law_thing c__law_thing k__law_thing).binds (ps := ["tape"]) (fun _ _ _ _ _ _ us hl => (match us, hl with | [_], _ => rfl)), g__law_thing := PySem.W.mg_of X G a__law_thing, a__law_bent := p__law_bent, f__law_bent := _, F__law_bent := fun_mk (st := s__law_bent) l__law_bent c__law_bent k__law_bent, b__law_bent := (fun_mk (st := s__law_bent) l__law_bent c__law_bent k__law_bent).binds (ps := ["tape", "thing"]) (fun _ _ _ _ _ _ us hl => (match us, hl with | [_, _], _ => rfl)), g__law_bent := PySem.W.mg_of X G a__law_bent, a_law := fa, f_law := _, F_law := fun_mk (st := s_law) l_law c_law k_law, b_law := (fun_mk (st := s_law) l_law c_law k_law).binds (ps := ["script"]) (fun _ _ _ _ _ _ us hl => (match us, hl with | [_], _ => rfl)), g_law := PySem.W.mg_of X G a_law, n_all := PySem.W.mg_none_of X G n_all, n_bool := PySem.W.mg_none_of X G n_bool, n_int := PySem.W.mg_none_of X G n_int, n_isinstance := PySem.W.mg_none_of X G n_isinstance, n_len := PySem.W.mg_none_of X G n_len, n_list := PySem.W.mg_none_of X G n_list, n_max := PySem.W.mg_none_of X G n_max, n_min := PySem.W.mg_none_of X G n_min, n_range := PySem.W.mg_none_of X G n_range, n_repr := PySem.W.mg_none_of X G n_repr, n_str := PySem.W.mg_none_of X G n_str, n_tuple := PySem.W.mg_none_of X G n_tuple, t_GREATEST_DEPTH := t_GREATEST_DEPTH, c_GREATEST_DEPTH := PySem.W.mg_of X G c_GREATEST_DEPTH, t_GREATEST_INTEGER := t_GREATEST_INTEGER, c_GREATEST_INTEGER := PySem.W.mg_of X G c_GREATEST_INTEGER, t_LONGEST_STRING := t_LONGEST_STRING, c_LONGEST_STRING := PySem.W.mg_of X G c_LONGEST_STRING, t_MOST_CHOICES := t_MOST_CHOICES, c_MOST_CHOICES := PySem.W.mg_of X G c_MOST_CHOICES }
  exact ⟨_, fun s v => .of_eq rfl, fun base _ _ => d_law T⟩
end LW
open PySem PySem.W PyProof.Rows
set_option maxHeartbeats 0 in
theorem PySem.Challenge.cw_steadypages_k06_what_is_a_condition_holds : PySem.Challenge.rw_steadypages_k06_what_is_a_condition.Holds := by
  w_on; o_law; k_head; (case hw => w_witness2)
  k_fill
  refine DL.walkD (l := PySem.Challenge.rw_steadypages_k06_what_is_a_condition) (n := 63) (k := 44) (x := "script") (m := LW.m_law) rfl (by decide) rfl ⟨rfl, by decide, by decide⟩ (fun w h Y => PySem.W.kIn_of Y) ?F LW.law_true
  case F =>
    intro w mg fa h KX G hmg
    refine' LW.all_mk KX G hmg ?a__law_tape ?l__law_tape ?c__law_tape ?k__law_tape ?a__law_pick ?l__law_pick ?c__law_pick ?k__law_pick ?a__law_one_of ?l__law_one_of ?c__law_one_of ?k__law_one_of ?a__law_value ?l__law_value ?c__law_value ?k__law_value ?a__law_test ?l__law_test ?c__law_test ?k__law_test ?a__law_condition ?l__law_condition ?c__law_condition ?k__law_condition ?a_is_integer ?l_is_integer ?c_is_integer ?k_is_integer ?a_is_string ?l_is_string ?c_is_string ?k_is_string ?a_is_value ?l_is_value ?c_is_value ?k_is_value ?a_is_choice ?l_is_choice ?c_is_choice ?k_is_choice ?a_is_operand ?l_is_operand ?c_is_operand ?k_is_operand ?a_is_column ?l_is_column ?c_is_column ?k_is_column ?a_is_condition_within ?l_is_condition_within ?c_is_condition_within ?k_is_condition_within ?a_is_condition ?l_is_condition ?c_is_condition ?k_is_condition ?a__law_integer ?l__law_integer ?c__law_integer ?k__law_integer ?a__law_value_due ?l__law_value_due ?c__law_value_due ?k__law_value_due ?a__law_due ?l__law_due ?c__law_due ?k__law_due ?a__law_right ?l__law_right ?c__law_right ?k__law_right ?a__law_thing ?l__law_thing ?c__law_thing ?k__law_thing ?a__law_bent ?l__law_bent ?c__law_bent ?k__law_bent ?a_law ?l_law ?c_law ?k_law ?n_all ?n_bool ?n_int ?n_isinstance ?n_len ?n_list ?n_max ?n_min ?n_range ?n_repr ?n_str ?n_tuple ?c_GREATEST_DEPTH ?c_GREATEST_INTEGER ?c_LONGEST_STRING ?c_MOST_CHOICES
    (case a__law_tape => k_is); (case l__law_tape => k_is); (case c__law_tape => k_is); (case k__law_tape => k_is); (case a__law_pick => k_is); (case l__law_pick => k_is); (case c__law_pick => k_is); (case k__law_pick => k_is); (case a__law_one_of => k_is); (case l__law_one_of => k_is); (case c__law_one_of => k_is); (case k__law_one_of => k_is); (case a__law_value => k_is); (case l__law_value => k_is); (case c__law_value => k_is); (case k__law_value => k_is); (case a__law_test => k_is); (case l__law_test => k_is); (case c__law_test => k_is); (case k__law_test => k_is); (case a__law_condition => k_is); (case l__law_condition => k_is); (case c__law_condition => k_is); (case k__law_condition => k_is); (case a_is_integer => k_is); (case l_is_integer => k_is); (case c_is_integer => k_is); (case k_is_integer => k_is); (case a_is_string => k_is); (case l_is_string => k_is); (case c_is_string => k_is); (case k_is_string => k_is); (case a_is_value => k_is); (case l_is_value => k_is); (case c_is_value => k_is); (case k_is_value => k_is); (case a_is_choice => k_is); (case l_is_choice => k_is); (case c_is_choice => k_is); (case k_is_choice => k_is); (case a_is_operand => k_is); (case l_is_operand => k_is); (case c_is_operand => k_is); (case k_is_operand => k_is); (case a_is_column => k_is); (case l_is_column => k_is); (case c_is_column => k_is); (case k_is_column => k_is); (case a_is_condition_within => k_is); (case l_is_condition_within => k_is); (case c_is_condition_within => k_is); (case k_is_condition_within => k_is); (case a_is_condition => k_is); (case l_is_condition => k_is); (case c_is_condition => k_is); (case k_is_condition => k_is); (case a__law_integer => k_is); (case l__law_integer => k_is); (case c__law_integer => k_is); (case k__law_integer => k_is); (case a__law_value_due => k_is); (case l__law_value_due => k_is); (case c__law_value_due => k_is); (case k__law_value_due => k_is); (case a__law_due => k_is); (case l__law_due => k_is); (case c__law_due => k_is); (case k__law_due => k_is); (case a__law_right => k_is); (case l__law_right => k_is); (case c__law_right => k_is); (case k__law_right => k_is); (case a__law_thing => k_is); (case l__law_thing => k_is); (case c__law_thing => k_is); (case k__law_thing => k_is); (case a__law_bent => k_is); (case l__law_bent => k_is); (case c__law_bent => k_is); (case k__law_bent => k_is); (case a_law => k_is); (case l_law => k_is); (case c_law => k_is); (case k_law => k_is); (case n_all => k_is); (case n_bool => k_is); (case n_int => k_is); (case n_isinstance => k_is); (case n_len => k_is); (case n_list => k_is); (case n_max => k_is); (case n_min => k_is); (case n_range => k_is); (case n_repr => k_is); (case n_str => k_is); (case n_tuple => k_is); (case c_GREATEST_DEPTH => k_is); (case c_GREATEST_INTEGER => k_is); (case c_LONGEST_STRING => k_is); (case c_MOST_CHOICES => k_is)
