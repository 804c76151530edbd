import PyProof.Rows.All
import Wide.All
import OpenK.AllK
import Wide.FinOn
import HandS.ForMost
import HandS.IsInst
import HandS.Wide
import HandS.TupAny
import HandS.TupMul
import HandS.Style
import HandS.Flow
import HandS.Conv
import HandS.EndBits
import HandS.SetBool
import HandS.Strs
import HandS.Lambda
import KE.IntBitsLaws
import KE.DataFind
import KE.LtSeq
import HandS.ForExc
import HandS.ExcOwn
import HandS.Zip
import HandS.Star
import HandS.DictComp
import KE.GoesEnum
import KE.GoesMore
import KE.LtData
import HandS.SetFor
import HandS.SortInts
import HandS.NamedTupGet
import HandS.DictTup
import HandS.ListItems
import HandS.More
import HandS.Finally
import HandS.DictEq
import HandS.TryOnly
import HandS.TupSets
import HandS.ExcCtx
import HandS.Codes
import KE.KEqNest
import HandS.OwnEq
import HandS.Defaults
import HandS.HeadHook2
import PyProof.CollectIter
import PyProof.WalksMore
import KE.SortKeyHeap
import HandS.SortKw
import HandS.EndTab
import KE.KDictList
import PyProof.RowDictHeap
import PyProof.ReprRoads
import PyProof.DictDisplay
import PyProof.P3Eq
import PySem.Challenge.RW_steadypages_k28_listings_by_name
set_option Elab.async false
set_option linter.all false
set_option maxRecDepth 100000
set_option maxHeartbeats 4000000
/-! New tuples whose object is known: it has no dict. -/
namespace DL
open PySem PySem.Spec PyProof.Rows L2
/-- what a new tuple brings -/
abbrev Fz (Q : VK) (H : Hp) (xs : List V) : Prop := ∀ (p : Addr) (o : Obj), H p = none → o.dict = none → Q (.ref p) (upd H p (.frz o (.tup xs)))
section
variable {X : Cx}
theorem laidF {pins : List (Addr × Obj)} {σ : L2.St} {H : Hp} {s : Shared} {Q : VK} {xs : List V} {us : List Value} {t' : Nat} (I : Inv X pins σ H s) (r : Vals xs us) (z : xs.length ≤ sizeLine) (q : Fz Q H xs) :
    EP X pins σ Q (.ref s.heap.objs.size) { s with heap := s.heap.push { cls := .type "tuple", data := .seq us.toArray }, toks := t' } :=
  ⟨.ref s.heap.objs.size, _, I.laid (t' := t') (o := .frz { cls := .type "tuple", data := .seq us.toArray } (.tup xs)) (fun _ _ e => Heap.get?_push_of_some _ e) (Nat.le_refl _) ⟨Heap.get?_push_size _ rfl, z, us, r, IsTup.new _ _⟩, rfl, q _ _ (I.hok.fresh (Nat.le_refl _)) rfl⟩
theorem pe_tupF {es : List Expr} {t : TA} {x1 : Nat} {pos : Pos} (h : PA X es t) : PE X (.Tuple es x1 pos) (fun σ H Q => t σ H fun xs H1 => xs.length ≤ sizeLine ∧ Fz Q H1 xs) :=
  ⟨fun pins s σ H Q I hq => wpAny_Tuple_spliced (thn (h.run pos pins s σ H _ I hq) fun us s1 ⟨xs, H1, I1, r, z, q⟩ => ⟨by rw [← r.length]; exact z, laidF (t' := s1.toks) I1 r z q⟩)⟩
theorem call_tupF : CallR X (.type "tuple") (fun xs H Q => ∃ p ys, xs = [.ref p] ∧ ((SqL X.K H p ys ∧ Fz Q H ys) ∨ (SqT X.K H p ys ∧ Q (.ref p) H))) := by
  intro pins s σ H xs us Q I r h
  obtain ⟨p, ys, rfl, h⟩ := h
  obtain ⟨u, rfl, rx⟩ := vals1 r
  cases rx
  rcases h with ⟨sq, q⟩ | ⟨sq, q⟩
  · obtain ⟨its, r2, pl, hz⟩ := I.list sq
    have hlen := r2.length
    exact call_tuple_list pl.isList (fun h' kp => laidF (t' := s.toks) (I.kept (t' := s.toks) kp) r2 hz q) (by simp only [List.size_toArray] <;> omega)
  · obtain ⟨its, r2, pl, hz⟩ := I.tuple sq
    exact call_tuple_same pl ⟨.ref p, H, I, rfl, q⟩
def rCatF (K : PySem.W.Frag) : R2 := fun x y H Q => ∃ a b xs ys, x = .ref a ∧ y = .ref b ∧ SqT K H a xs ∧ SqT K H b ys ∧ xs.length + ys.length ≤ sizeLine ∧ (xs = [] → Q (.ref b) H) ∧ (xs ≠ [] → ys = [] → Q (.ref a) H) ∧ Fz Q H (xs ++ ys)
theorem op_catF : OpR X (binaryOp .Add) (rCatF X.K) := by
  intro pins s σ H x y v u Q I rx ry h
  obtain ⟨a, b, xs, ys, rfl, rfl, ha, hb, hz, q0, q1, q2⟩ := h
  cases rx
  cases ry
  obtain ⟨its, r1, p1, _⟩ := I.tuple ha
  obtain ⟨its2, r2, p2, _⟩ := I.tuple hb
  by_cases hx : xs = []
  · subst hx
    cases r1
    exact cat_tup0 p1 p2 ⟨.ref b, H, I, rfl, q0 rfl⟩
  · exact HT.cat_tup p1 p2 (fun z => hx (r1.nil_iff.mp z)) (fun z => ⟨.ref a, H, I, rfl, q1 hx (r2.nil_iff.mp z)⟩) (fun _ => laidF (t' := s.toks) I (r1.append r2) (by rw [List.length_append]; exact hz) q2) (by rw [← r1.length, ← r2.length]; exact hz)
end
end DL
/-! Data level: values as trees, a store for what may be written, and judgements that say "this piece of text computes this function". -/
namespace DL
open PySem PySem.Spec PyProof.Rows L2
inductive D where
  | non | bl (b : Bool) | int (i : Int) | str (x : Str)
  | tup (ds : List D) | lst (ds : List D) | dct (kvs : List (Key × D))
  | scr (ns : List Int) | ref (n : Nat)
inductive Ob where
  | dead
  | dct (kvs : List (Key × D))
  | lst (ds : List D)
  | ins (c : Str) (fs : List (Str × D))
  | ldc (kvs : List (Key × D))
  | st (ns : List Int)
  | tb (x : Str)
/-- where the store's objects stand; what no value may lean on -/
structure Rf where
  adr : List Addr
  av : Addr → Prop
  lk : Addr → Prop
abbrev Store := List Ob
abbrev Lo := List (Option D)
variable {K : PySem.W.Frag}
mutual
inductive Rep (K : PySem.W.Frag) (r : Rf) (H : Hp) : V → D → Prop
  | non : Rep K r H .non .non
  | bl (b : Bool) : Rep K r H (.bl b) (.bl b)
  | int (i : Int) : Rep K r H (.int i) (.int i)
  | str (x : Str) : Rep K r H (.str x) (.str x)
  | tup {a : Addr} {xs : List V} {ds : List D} {o : Obj} : H a = some (.frz o (.tup xs)) → o.dict = none → ¬ r.av a → RepL K r H xs ds → Rep K r H (.ref a) (.tup ds)
  | tupK {a : Addr} {o : Obj} {its : Array Value} {n : Nat} {xs : List V} {ds : List D} : K.lookup a = some o → o.cls = .type "tuple" → o.dict = none → o.data = .seq its n → its.size ≤ sizeLine → Vals xs its.toList → RepL K r H xs ds → Rep K r H (.ref a) (.tup ds)
  | lst {a : Addr} {xs : List V} {ds : List D} : H a = some (.lst xs) → ¬ r.av a → RepL K r H xs ds → Rep K r H (.ref a) (.lst ds)
  | tupP {a : Addr} {xs : List V} {ds : List D} : H a = some (.tup xs) → ¬ r.av a → RepL K r H xs ds → Rep K r H (.ref a) (.tup ds)
  | dct {a : Addr} {o : Obj} {xs : List (Key × V)} {kvs : List (Key × D)} : H a = some (.frz o (.dK xs)) → ¬ r.av a → RepK K r H xs kvs → Rep K r H (.ref a) (.dct kvs)
  | scr {a : Addr} {ns : List Int} {o : Obj} : H a = some (.frz o (.lst (ns.map V.int))) → ¬ r.av a → Rep K r H (.ref a) (.scr ns)
  | scrK {a : Addr} {ns : List Int} {o : Obj} {its : Array Value} {n : Nat} : K.lookup a = some o → o.cls = .type "list" → o.dict = none → o.data = .seq its n → its.size ≤ sizeLine → Vals (ns.map V.int) its.toList → Rep K r H (.ref a) (.scr ns)
  | ref {n : Nat} {a : Addr} : r.adr[n]? = some a → Rep K r H (.ref a) (.ref n)
inductive RepL (K : PySem.W.Frag) (r : Rf) (H : Hp) : List V → List D → Prop
  | nil : RepL K r H [] []
  | cons {v : V} {vs : List V} {d : D} {ds : List D} : Rep K r H v d → RepL K r H vs ds → RepL K r H (v :: vs) (d :: ds)
inductive RepK (K : PySem.W.Frag) (r : Rf) (H : Hp) : List (Key × V) → List (Key × D) → Prop
  | nil : RepK K r H [] []
  | cons {k : Key} {v : V} {vs : List (Key × V)} {d : D} {ds : List (Key × D)} : Rep K r H v d → RepK K r H vs ds → RepK K r H ((k, v) :: vs) ((k, d) :: ds)
end
/-- what was known stays known -/
structure Ex (r : Rf) (H : Hp) (r' : Rf) (H' : Hp) : Prop where
  pre : ∃ l, r'.adr = r.adr ++ l
  keep : ∀ p o, H p = some o → ¬ r.av p → H' p = some o
  new : ∀ p, r'.av p → ¬ r.av p → H p = none
/-- .. and nothing is done to what is hidden -/
structure HidL (r : Rf) (H : Hp) (r' : Rf) (H' : Hp) : Prop where
  hid : ∀ p, r.av p → p ∉ r.adr → H' p = H p ∧ r'.av p ∧ p ∉ r'.adr
  lke : ∀ p, r'.lk p ↔ r.lk p
  lks : ∀ p, r.lk p → H' p = H p
structure Ext (r : Rf) (H : Hp) (r' : Rf) (H' : Hp) : Prop extends Ex r H r' H' where
  hd : HidL r H r' H'
theorem Ext.hid {r r' : Rf} {H H' : Hp} (e : Ext r H r' H') : ∀ p, r.av p → p ∉ r.adr → H' p = H p ∧ r'.av p ∧ p ∉ r'.adr := e.hd.hid
theorem HidL.refl (r : Rf) (H : Hp) : HidL r H r H := ⟨fun _ a b => ⟨rfl, a, b⟩, fun _ => Iff.rfl, fun _ _ => rfl⟩
theorem HidL.trans {r r1 r2 : Rf} {H H1 H2 : Hp} (a : HidL r H r1 H1) (b : HidL r1 H1 r2 H2) : HidL r H r2 H2 :=
  ⟨fun p x y => let ⟨h1, h2, h3⟩ := a.hid p x y; let ⟨h4, h5, h6⟩ := b.hid p h2 h3; ⟨h4.trans h1, h5, h6⟩, fun p => (b.lke p).trans (a.lke p), fun p x => (b.lks p ((a.lke p).mpr x)).trans (a.lks p x)⟩
theorem Ext.refl (r : Rf) (H : Hp) : Ext r H r H := ⟨⟨⟨[], by simp⟩, fun _ _ h _ => h, fun _ h n => absurd h n⟩, .refl r H⟩
theorem Ex.out {r r' : Rf} {H H' : Hp} (e : Ex r H r' H') {p : Addr} {o : HO} (h : H p = some o) (n : ¬ r.av p) : ¬ r'.av p := fun z => by
  rw [e.new p z n] at h; cases h
theorem Ex.get {r r' : Rf} {H H' : Hp} (e : Ex r H r' H') {n : Nat} {a : Addr} (h : r.adr[n]? = some a) : r'.adr[n]? = some a := by
  obtain ⟨l, hl⟩ := e.pre
  obtain ⟨q, _⟩ := List.getElem?_eq_some_iff.mp h
  rw [hl, List.getElem?_append_left q]; exact h
theorem Ex.trans {r r1 r2 : Rf} {H H1 H2 : Hp} (a : Ex r H r1 H1) (b : Ex r1 H1 r2 H2) : Ex r H r2 H2 := by
  refine ⟨?_, fun p o h n => b.keep p o (a.keep p o h n) (a.out h n), fun p h n => ?_⟩
  · obtain ⟨l, hl⟩ := a.pre
    obtain ⟨m, hm⟩ := b.pre
    exact ⟨l ++ m, by rw [hm, hl, List.append_assoc]⟩
  · by_cases q : r1.av p
    · exact a.new p q n
    · cases z : H p with
      | none => rfl
      | some o =>
        have := b.new p h q
        rw [a.keep p o z n] at this
        cases this
theorem Ext.trans {r r1 r2 : Rf} {H H1 H2 : Hp} (a : Ext r H r1 H1) (b : Ext r1 H1 r2 H2) : Ext r H r2 H2 :=
  ⟨a.toEx.trans b.toEx, a.hd.trans b.hd⟩
theorem Ext.same (r : Rf) {H H' : Hp} (s : Same H H') (there : ∀ p, r.av p → ∃ o, H p = some o) (lkd : ∀ p, r.lk p → ∃ o u, H p = some (.frz o u)) : Ext r H r H' :=
  ⟨⟨⟨[], by simp⟩, fun p o h _ => s p o h, fun p h n => absurd h n⟩, fun p a b => ⟨by obtain ⟨o, h⟩ := there p a; rw [h]; exact s p o h, a, b⟩, fun _ => Iff.rfl, fun p a => by obtain ⟨o, u, h⟩ := lkd p a; rw [h]; exact s p _ h⟩
theorem Ex.same (r : Rf) {H H' : Hp} (s : Same H H') : Ex r H r H' := ⟨⟨[], by simp⟩, fun p o h _ => s p o h, fun p h n => absurd h n⟩
theorem same_alloc {H : Hp} {p : Addr} {o : HO} (h : H p = none) : Same H (upd H p o) := fun b x e => by
  rw [upd_ne (ne_of_none e h)]; exact e
mutual
theorem Rep.ex {r r' : Rf} {H H' : Hp} (e : Ex r H r' H') : ∀ {v : V} {d : D}, Rep K r H v d → Rep K r' H' v d
  | _, _, .non => .non
  | _, _, .bl b => .bl b
  | _, _, .int i => .int i
  | _, _, .str x => .str x
  | _, _, .tup h z n l => .tup (e.keep _ _ h n) z (e.out h n) (RepL.ex e l)
  | _, _, .tupK a b z c d f l => .tupK a b z c d f (RepL.ex e l)
  | _, _, .lst h n l => .lst (e.keep _ _ h n) (e.out h n) (RepL.ex e l)
  | _, _, .tupP h n l => .tupP (e.keep _ _ h n) (e.out h n) (RepL.ex e l)
  | _, _, .dct h n l => .dct (e.keep _ _ h n) (e.out h n) (RepK.ex e l)
  | _, _, .scr h n => .scr (e.keep _ _ h n) (e.out h n)
  | _, _, .scrK a b c d f g => .scrK a b c d f g
  | _, _, .ref h => .ref (e.get h)
theorem RepL.ex {r r' : Rf} {H H' : Hp} (e : Ex r H r' H') : ∀ {v : List V} {d : List D}, RepL K r H v d → RepL K r' H' v d
  | _, _, .nil => .nil
  | _, _, .cons a b => .cons (Rep.ex e a) (RepL.ex e b)
theorem RepK.ex {r r' : Rf} {H H' : Hp} (e : Ex r H r' H') : ∀ {v : List (Key × V)} {d : List (Key × D)}, RepK K r H v d → RepK K r' H' v d
  | _, _, .nil => .nil
  | _, _, .cons a b => .cons (Rep.ex e a) (RepK.ex e b)
end
theorem Rep.ext {r r' : Rf} {H H' : Hp} {v : V} {d : D} (h : Rep K r H v d) (e : Ext r H r' H') : Rep K r' H' v d := h.ex e.toEx
theorem RepL.ext {r r' : Rf} {H H' : Hp} {v : List V} {d : List D} (h : RepL K r H v d) (e : Ext r H r' H') : RepL K r' H' v d := h.ex e.toEx
theorem RepK.ext {r r' : Rf} {H H' : Hp} {v : List (Key × V)} {d : List (Key × D)} (h : RepK K r H v d) (e : Ext r H r' H') : RepK K r' H' v d := h.ex e.toEx
theorem RepL.len {r : Rf} {H : Hp} : ∀ {v : List V} {d : List D}, RepL K r H v d → v.length = d.length
  | _, _, .nil => rfl
  | _, _, .cons _ b => by rw [List.length_cons, List.length_cons, RepL.len b]
theorem RepL.get {r : Rf} {H : Hp} : ∀ {vs : List V} {ds : List D}, RepL K r H vs ds → ∀ {i : Nat} {d : D}, ds[i]? = some d → ∃ v, vs[i]? = some v ∧ Rep K r H v d
  | _, _, .nil, i, d, h => by simp at h
  | _, _, .cons a b, 0, d, h => by
    have e := Option.some.inj h
    subst e
    exact ⟨_, rfl, a⟩
  | _, _, .cons a b, i + 1, d, h => RepL.get b (i := i) h
theorem RepL.append {r : Rf} {H : Hp} : ∀ {vs us : List V} {ds es : List D}, RepL K r H vs ds → RepL K r H us es → RepL K r H (vs ++ us) (ds ++ es)
  | _, _, _, _, .nil, q => q
  | _, _, _, _, .cons a b, q => .cons a (RepL.append b q)
theorem RepL.take {r : Rf} {H : Hp} : ∀ (n : Nat) {vs : List V} {ds : List D}, RepL K r H vs ds → RepL K r H (vs.take n) (ds.take n)
  | 0, _, _, _ => .nil
  | _ + 1, _, _, .nil => .nil
  | n + 1, _, _, .cons a b => .cons a (RepL.take n b)
theorem RepL.drop {r : Rf} {H : Hp} : ∀ (n : Nat) {vs : List V} {ds : List D}, RepL K r H vs ds → RepL K r H (vs.drop n) (ds.drop n)
  | 0, _, _, q => q
  | _ + 1, _, _, .nil => .nil
  | n + 1, _, _, .cons a b => RepL.drop n b
theorem RepL.ints {r : Rf} {H : Hp} : ∀ {vs : List V} {ns : List Int}, RepL K r H vs (ns.map D.int) → vs = ns.map V.int
  | _, [], .nil => rfl
  | _, n :: r, .cons (.int _) b => by rw [List.map_cons, RepL.ints b]
theorem RepL.ofInts {r : Rf} {H : Hp} : ∀ (ns : List Int), RepL K r H (ns.map V.int) (ns.map D.int)
  | [] => .nil
  | n :: r => .cons (.int n) (RepL.ofInts r)
/-- the table of the code of the def x stands at a -/
def TbAt (K : PySem.W.Frag) (x : Str) (a : Addr) : Prop := ∃ (f c : Addr) (o : Obj) (fd : FuncData) (e : Value) (dd : Option Addr) (vs : Array Value) (sl : Array (Option Value)), PySem.W.nsIn K mainGlobals x = some (some (.ref f)) ∧ K.lookup f = some o ∧ o.data = .func fd ∧ fd.code = .ref c ∧ K.lookup c = some ⟨e, dd, .fields vs, sl⟩ ∧ vs[11]? = some (.ref a)
def qn (x : Str) : Str := (x ++ Str.ofString ".<locals>.") ++ Str.ofString "<lambda>"
/-- each code object that the table at a tells bears the name q -/
def TabR (r : Rf) (H : Hp) (a : Addr) (q : Str) : Prop := ∃ ps : Array Value, H a = some (.tbl ps) ∧ TriplesOk ps.toList ∧ ∀ (pos : Pos) (cv : Value), codeAmong pos ps.toList = some cv → ∃ c, cv = .ref c ∧ H c = some (LamX.CodeO c q) ∧ ¬ r.av c
theorem TabR.ex {r r' : Rf} {H H' : Hp} (e : Ex r H r' H') {a : Addr} {q : Str} (k : H' a = H a) (t : TabR r H a q) : TabR r' H' a q := by
  obtain ⟨ps, h1, h2, h3⟩ := t
  refine ⟨ps, k.trans h1, h2, fun pos cv hc => ?_⟩
  obtain ⟨c, rfl, h4, h5⟩ := h3 pos cv hc
  exact ⟨c, rfl, e.keep _ _ h4 h5, e.out h4 h5⟩
/-- the store is held -/
def ObR (K : PySem.W.Frag) (r : Rf) (H : Hp) (a : Addr) : Ob → Prop
  | .dead => True
  | .dct kvs => r.av a ∧ ∃ xs, H a = some (.dK xs) ∧ RepK K r H xs kvs
  | .lst ds => r.av a ∧ ∃ xs, H a = some (.lst xs) ∧ RepL K r H xs ds
  | .ldc kvs => r.av a ∧ r.lk a ∧ ∃ o xs, H a = some (.frz o (.dK xs)) ∧ RepK K r H xs kvs
  | .ins c fs => r.av a ∧ ∃ (C dx : Addr) (vs : List (Str × V)), PySem.W.nsIn K mainGlobals c = some (some (.ref C)) ∧ H a = some (.ins C dx vs) ∧ vs.map (·.1) = fs.map (·.1) ∧ RepL K r H (vs.map (·.2)) (fs.map (·.2))
  | .st ns => r.av a ∧ ∃ (w : World) (n : Nat), H a = some (SetO w a (fun j => decide (j ∈ ns)) n)
  | .tb x => r.av a ∧ TbAt K x a ∧ TabR r H a (qn x)
theorem ObR.ex {r r' : Rf} {H H' : Hp} (e : Ex r H r' H') {a : Addr} (k : r.av a → H' a = H a ∧ r'.av a) (kl : r.lk a → r'.lk a := by exact fun z => z) : ∀ {o : Ob}, ObR K r H a o → ObR K r' H' a o
  | .dead, _ => trivial
  | .dct _, ⟨v, xs, h, l⟩ => ⟨(k v).2, xs, (k v).1.trans h, l.ex e⟩
  | .lst _, ⟨v, xs, h, l⟩ => ⟨(k v).2, xs, (k v).1.trans h, l.ex e⟩
  | .ldc _, ⟨v, w, o, xs, h, l⟩ => ⟨(k v).2, kl w, o, xs, (k v).1.trans h, l.ex e⟩
  | .ins _ _, ⟨v, C, dx, vs, g, h, n, l⟩ => ⟨(k v).2, C, dx, vs, g, (k v).1.trans h, n, l.ex e⟩
  | .st _, ⟨v, w, n, h⟩ => ⟨(k v).2, w, n, (k v).1.trans h⟩
  | .tb _, ⟨v, t, h⟩ => ⟨(k v).2, t, h.ex e (k v).1⟩
structure Sim (K : PySem.W.Frag) (r : Rf) (H : Hp) (st : Store) : Prop where
  len : r.adr.length = st.length
  nd : r.adr.Nodup
  ob : ∀ (n : Nat) (a : Addr) (o : Ob), r.adr[n]? = some a → st[n]? = some o → ObR K r H a o
  there : ∀ p, r.av p → ∃ o, H p = some o
  old : ∀ a ∈ r.adr, ∃ o, H a = some o
  lkd : ∀ p, r.lk p → ∃ o u, H p = some (.frz o u)
theorem Sim.same {r : Rf} {H H' : Hp} {st : Store} (s : Sim K r H st) (e : Same H H') : Sim K r H' st :=
  ⟨s.len, s.nd, fun n a o h1 h2 => (s.ob n a o h1 h2).ex (Ex.same r e) (fun v => by
    obtain ⟨h, z⟩ := s.there a v
    exact ⟨by rw [z]; exact e a h z, v⟩), fun p v => let ⟨o, h⟩ := s.there p v; ⟨o, e p o h⟩, fun p v => let ⟨o, h⟩ := s.old p v; ⟨o, e p o h⟩, fun p v => let ⟨o, u, h⟩ := s.lkd p v; ⟨o, u, e p _ h⟩⟩
theorem Sim.ext {r : Rf} {H H' : Hp} {st : Store} (s : Sim K r H st) (e : Same H H') : Ext r H r H' := Ext.same r e s.there s.lkd
/-- the locals -/
structure EnvR (K : PySem.W.Frag) (r : Rf) (H : Hp) (env : Lo) (σ : L2.St) : Prop where
  len : env.length = σ.length
  at_ : ∀ (i : Nat) (d : D), env[i]? = some (some d) → ∃ v, σ[i]? = some (some v) ∧ Rep K r H v d
theorem EnvR.ext {r r' : Rf} {H H' : Hp} {env : Lo} {σ : L2.St} (h : EnvR K r H env σ) (e : Ext r H r' H') : EnvR K r' H' env σ :=
  ⟨h.len, fun i d q => let ⟨v, a, b⟩ := h.at_ i d q; ⟨v, a, b.ext e⟩⟩
theorem EnvR.set {r : Rf} {H : Hp} {env : Lo} {σ : L2.St} (h : EnvR K r H env σ) {v : V} {d : D} (q : Rep K r H v d) (i : Nat) : EnvR K r H (env.set i (some d)) (σ.set i (some v)) := by
  refine ⟨by rw [List.length_set, List.length_set]; exact h.len, fun j c e => ?_⟩
  by_cases z : i = j
  · subst z
    by_cases hi : i < env.length
    · rw [List.getElem?_set_self hi] at e
      cases e
      exact ⟨v, by rw [List.getElem?_set_self (by rw [← h.len]; exact hi)], q⟩
    · rw [List.getElem?_eq_none (by rw [List.length_set]; omega)] at e
      cases e
  · rw [List.getElem?_set_ne z] at e
    obtain ⟨u, a, b⟩ := h.at_ j c e
    exact ⟨u, by rw [List.getElem?_set_ne z]; exact a, b⟩
/-- a slot forgotten on both sides -/
theorem EnvR.wipe {r : Rf} {H : Hp} {env : Lo} {σ : L2.St} (h : EnvR K r H env σ) (i : Nat) : EnvR K r H (env.set i none) (σ.set i none) := by
  refine ⟨by rw [List.length_set, List.length_set]; exact h.len, fun j c e => ?_⟩
  by_cases z : i = j
  · subst z
    by_cases hi : i < env.length
    · rw [List.getElem?_set_self hi] at e
      cases e
    · rw [List.getElem?_eq_none (by rw [List.length_set]; omega)] at e
      cases e
  · rw [List.getElem?_set_ne z] at e
    obtain ⟨u, a, b⟩ := h.at_ j c e
    exact ⟨u, by rw [List.getElem?_set_ne z]; exact a, b⟩
/-! ### judgements -/
abbrev F := Lo → Store → Option (D × Store)
abbrev FT := Lo → Store → Option (Bool × Store)
abbrev FA := Lo → Store → Option (List D × Store)
def tD (K : PySem.W.Frag) (f : F) : TE := fun σ H Q => ∃ r env st d st', EnvR K r H env σ ∧ Sim K r H st ∧ f env st = some (d, st') ∧ ∀ v r' H', Ext r H r' H' → Sim K r' H' st' → Rep K r' H' v d → Q v H'
def tT (K : PySem.W.Frag) (f : FT) : TT := fun σ H Q => ∃ r env st b st', EnvR K r H env σ ∧ Sim K r H st ∧ f env st = some (b, st') ∧ ∀ r' H', Ext r H r' H' → Sim K r' H' st' → Q b H'
def tA (K : PySem.W.Frag) (f : FA) : TA := fun σ H Q => ∃ r env st ds st', EnvR K r H env σ ∧ Sim K r H st ∧ f env st = some (ds, st') ∧ ∀ vs r' H', Ext r H r' H' → Sim K r' H' st' → RepL K r' H' vs ds → Q vs H'
abbrev DE (X : Cx) (e : Expr) (f : F) : Prop := PE X e (tD X.K f)
abbrev DT (X : Cx) (e : Expr) (f : FT) : Prop := PT X e (tT X.K f)
abbrev DA (X : Cx) (es : List Expr) (f : FA) : Prop := PA X es (tA X.K f)
section
variable {X : Cx}
theorem weakE {e : Expr} {t t' : TE} (h : PE X e t) (i : ∀ σ H Q, t' σ H Q → t σ H Q) : PE X e t' := ⟨fun pins s σ H Q I q => h.run pins s σ H Q I (i σ H Q q)⟩
theorem weakT {e : Expr} {t t' : TT} (h : PT X e t) (i : ∀ σ H Q, t' σ H Q → t σ H Q) : PT X e t' := ⟨fun pins s σ H Q I q => h.run pins s σ H Q I (i σ H Q q)⟩
theorem weakA {e : List Expr} {t t' : TA} (h : PA X e t) (i : ∀ σ H Q, t' σ H Q → t σ H Q) : PA X e t' := ⟨fun pos pins s σ H Q I q => h.run pos pins s σ H Q I (i σ H Q q)⟩
theorem weakS {e : Stmt} {t t' : TS} (h : PS X e t) (i : ∀ D σ H, t' D σ H → t D σ H) : PS X e t' := ⟨fun pins s σ H D I q => h.run pins s σ H D I (i D σ H q)⟩
theorem weakSs {e : List Stmt} {t t' : TS} (h : PSs X e t) (i : ∀ D σ H, t' D σ H → t D σ H) : PSs X e t' := ⟨fun pins s σ H D I q => h.run pins s σ H D I (i D σ H q)⟩
/-- an object is locked for good -/
theorem pe_frz {e : Expr} {t : TE} (h : PE X e t) : PE X e (fun σ H Q => t σ H fun v H1 => ∃ d u, v = .ref d ∧ H1 d = some u ∧ Mut (some u) ∧ ∀ o, Q v (upd H1 d (.frz o u))) := by
  refine ⟨fun pins s σ H Q I hw => thn (h.run pins s σ H _ I hw) fun v s1 ⟨x, H1, I1, r, d, u, e1, hd, mu, q⟩ => ?_⟩
  obtain ⟨od, I2⟩ := I1.lock hd mu
  exact ⟨x, _, I2, r, q od⟩
/-- what a context must bear -/
structure GX (X : Cx) (k : Nat) : Prop where
  calm : X.calm = true
  nd : X.N.Nodup
  room : Room k X.A
  gd : X.A.guards = some []
/-! ### names, constants -/
def fVar (i : Nat) : F := fun env st => match env[i]? with | some (some d) => some (d, st) | _ => none
def fC (d : D) : F := fun _ st => some (d, st)
theorem de_var (i : Nat) {x : Str} {pos : Pos} (hN : X.N[i]? = some x := by rfl) (hv : Vis X.env.scope x := by first | exact Or.inl rfl | exact Or.inr (Or.inl rfl) | exact Or.inr (Or.inr rfl)) (hd : (x == ("__debug__" : Str)) = false := by decide)
    (hcd : (x == ("__classdict__" : Str)) = false := by decide) : DE X (.Name x pos) (fVar i) := weakE (pe_var hN hv hd hcd) fun σ H Q h => by
  obtain ⟨r, env, st, d, st', he, hs, hf, q⟩ := h
  unfold fVar at hf
  split at hf
  · rename_i d' hd'
    cases hf
    obtain ⟨v, a, b⟩ := he.at_ i _ hd'
    exact ⟨v, a, q v r H (.refl r H) hs b⟩
  · cases hf
theorem de_c {e : Expr} {v : V} {d : D} (h : PE X e (tC v)) (q : ∀ r H, Rep X.K r H v d) : DE X e (fC d) := weakE h fun σ H Q hh => by
  obtain ⟨r, env, st, d', st', he, hs, hf, k⟩ := hh
  cases hf
  exact k v r H (.refl r H) hs (q r H)
theorem de_int {i j pos} : DE X (.Constant (.int i) j pos) (fC (.int i)) := de_c pe_int fun _ _ => .int i
theorem de_bl {i j pos} : DE X (.Constant (.bool i) j pos) (fC (.bl i)) := de_c pe_bl fun _ _ => .bl i
theorem de_non {j pos} : DE X (.Constant .none j pos) (fC .non) := de_c pe_non fun _ _ => .non
theorem de_str {i j pos} : DE X (.Constant (.str i) j pos) (fC (.str i)) := de_c pe_str fun _ _ => .str i
theorem de_gint {x : Str} {i : Int} {t : Tok} {pos : Pos} (hg : Gl X x) (hm : X.mg x = some (.int i t)) (hd : (x == ("__debug__" : Str)) = false := by decide) : DE X (.Name x pos) (fC (.int i)) :=
  de_c (pe_glob (v := .int i) hg hm ⟨t, rfl⟩ hd) fun _ _ => .int i
/-! ### two values -/
def OpOk (X : Cx) (f : Value → Value → Sem Value) (g : D → D → Option D) : Prop :=
  ∃ r : R2, OpR X f r ∧ ∀ (rho : Rf) (H : Hp) (x y : V) (a b d : D) (st : Store) (Q : VK), Sim X.K rho H st → Rep X.K rho H x a → Rep X.K rho H y b → g a b = some d → (∀ v H', Same H H' → Rep X.K rho H' v d → Q v H') → r x y H Q
def fOp (g : D → D → Option D) (fa fb : F) : F := fun env st => (fa env st).bind fun p => (fb env p.2).bind fun q => (g p.1 q.1).map fun d => (d, q.2)
theorem fOp_some {g : D → D → Option D} {fa fb : F} {env : Lo} {st : Store} {z : D × Store} (h : fOp g fa fb env st = some z) : ∃ x s1 y s2 d, fa env st = some (x, s1) ∧ fb env s1 = some (y, s2) ∧ g x y = some d ∧ z = (d, s2) := by
  unfold fOp at h
  obtain ⟨⟨x, s1⟩, h1, h⟩ := Option.bind_eq_some_iff.mp h
  obtain ⟨⟨y, s2⟩, h2, h⟩ := Option.bind_eq_some_iff.mp h
  obtain ⟨d, h3, h⟩ := Option.map_eq_some_iff.mp h
  exact ⟨x, s1, y, s2, d, h1, h2, h3, h.symm⟩
/-- the reading of two data expressions in a row -/
theorem two {fa fb : F} {σ : L2.St} {H : Hp} {Q : V → V → Hp → Prop} {r : Rf} {env : Lo} {st s1 s2 : Store} {x y : D} (he : EnvR K r H env σ) (hs : Sim K r H st) (h1 : fa env st = some (x, s1)) (h2 : fb env s1 = some (y, s2))
    (k : ∀ u v r' H', Ext r H r' H' → Sim K r' H' s2 → Rep K r' H' u x → Rep K r' H' v y → Q u v H') : tD K fa σ H fun u H1 => tD K fb σ H1 fun v H2 => Q u v H2 :=
  ⟨r, env, st, x, s1, he, hs, h1, fun u r1 H1 e1 q1 p1 => ⟨r1, env, s1, y, s2, he.ext e1, q1, h2, fun v r2 H2 e2 q2 p2 => k u v r2 H2 (e1.trans e2) q2 (p1.ext e2) p2⟩⟩
theorem opReads {f : Value → Value → Sem Value} {g : D → D → Option D} {r : R2} (k : ∀ (rho : Rf) (H : Hp) (x y : V) (a b d : D) (st : Store) (Q : VK), Sim K rho H st → Rep K rho H x a → Rep K rho H y b → g a b = some d → (∀ v H', Same H H' → Rep K rho H' v d → Q v H') → r x y H Q)
    {fa fb : F} (σ : L2.St) (H : Hp) (Q : VK) (h : tD K (fOp g fa fb) σ H Q) : tOp r (tD K fa) (tD K fb) σ H Q := by
  obtain ⟨rho, env, st, d, st', he, hs, hf, q⟩ := h
  obtain ⟨x, s1, y, s2, d', h1, h2, h3, e⟩ := fOp_some hf
  cases e
  exact two he hs h1 h2 fun u v r' H' e1 q1 pu pv => k r' H' u v x y d _ Q q1 pu pv h3 fun w H2 sm pw => q w r' H2 (e1.trans (q1.ext sm)) (q1.same sm) pw
theorem de_op {op : Operator} {g : D → D → Option D} {a b : Expr} {fa fb : F} {pos : Pos} (ho : OpOk X (binaryOp op) g) (ha : DE X a fa) (hb : DE X b fb) : DE X (.BinOp a op b pos) (fOp g fa fb) := by
  obtain ⟨r, hr, k⟩ := ho
  exact weakE (pe_op hr ha hb) fun σ H Q h => opReads (f := binaryOp op) k σ H Q h
theorem de_cmp {op : CmpOp} {g : D → D → Option D} {a b : Expr} {fa fb : F} {pos : Pos} (ho : OpOk X (compareOp op) g) (ha : DE X a fa) (hb : DE X b fb) (hm : behindInMarks op b = false := by with_unfolding_all rfl) : DE X (.Compare a [op] [b] pos) (fOp g fa fb) := by
  obtain ⟨r, hr, k⟩ := ho
  exact weakE (pe_cmpR hr ha hb hm) fun σ H Q h => opReads (f := compareOp op) k σ H Q h
end
end DL
namespace DL
abbrev WXd := PySem.Value → Option PySem.Addr → L2.St → L2.Hp → Prop
open PySem PySem.Spec PyProof.Rows L2
variable {K : PySem.W.Frag}
/-! ### arguments, displays -/
def aNil : FA := fun _ st => some ([], st)
def aCons (f : F) (g : FA) : FA := fun env st => (f env st).bind fun p => (g env p.2).map fun q => (p.1 :: q.1, q.2)
theorem aCons_some {f : F} {g : FA} {env : Lo} {st : Store} {z : List D × Store} (h : aCons f g env st = some z) : ∃ x s1 ys s2, f env st = some (x, s1) ∧ g env s1 = some (ys, s2) ∧ z = (x :: ys, s2) := by
  unfold aCons at h
  obtain ⟨⟨x, s1⟩, h1, h⟩ := Option.bind_eq_some_iff.mp h
  obtain ⟨⟨y, s2⟩, h2, h⟩ := Option.map_eq_some_iff.mp h
  exact ⟨x, s1, y, s2, h1, h2, h.symm⟩
section
variable {X : Cx} {W : WXd}
theorem da_nil : DA X [] aNil := weakA pa_nil fun σ H Q h => by
  obtain ⟨r, env, st, ds, st', he, hs, hf, q⟩ := h
  cases hf
  exact q [] r H (.refl r H) hs .nil
theorem da_cons {e : Expr} {es : List Expr} {f : F} {g : FA} (h : DE X e f) (t : DA X es g) (hs : starEach (e :: es) X.env = (false, eval e X.env) :: starEach es X.env := by rfl) : DA X (e :: es) (aCons f g) :=
  weakA (pa_cons h t hs) fun σ H Q hh => by
  obtain ⟨r, env, st, ds, st', he, hs, hf, q⟩ := hh
  obtain ⟨x, s1, ys, s2, h1, h2, e⟩ := aCons_some hf
  cases e
  exact ⟨r, env, st, x, s1, he, hs, h1, fun u r1 H1 e1 q1 p1 => ⟨r1, env, s1, ys, _, he.ext e1, q1, h2, fun us r2 H2 e2 q2 p2 => q (u :: us) r2 H2 (e1.trans e2) q2 (.cons (p1.ext e2) p2)⟩⟩
/-- a value made of the values of several expressions -/
def fMk (g : List D → Store → Option D) (fa : FA) : F := fun env st => (fa env st).bind fun p => (g p.1 p.2).map fun d => (d, p.2)
theorem fMk_some {g : List D → Store → Option D} {fa : FA} {env : Lo} {st : Store} {z : D × Store} (h : fMk g fa env st = some z) : ∃ xs s1 d, fa env st = some (xs, s1) ∧ g xs s1 = some d ∧ z = (d, s1) := by
  unfold fMk at h
  obtain ⟨⟨x, s1⟩, h1, h⟩ := Option.bind_eq_some_iff.mp h
  obtain ⟨d, h2, h⟩ := Option.map_eq_some_iff.mp h
  exact ⟨x, s1, d, h1, h2, h.symm⟩
/-- values in, a value out, new objects at most -/
def ArgOk (K : PySem.W.Frag) (r : List V → Hp → VK → Prop) (g : List D → Store → Option D) : Prop :=
  ∀ (rho : Rf) (H : Hp) (xs : List V) (ds : List D) (d : D) (st : Store) (Q : VK), RepL K rho H xs ds → Sim K rho H st → g ds st = some d → (∀ v H', Same H H' → Rep K rho H' v d → Q v H') → r xs H Q
theorem argReads {r : List V → Hp → VK → Prop} {g : List D → Store → Option D} (k : ArgOk K r g) {fa : FA} (σ : L2.St) (H : Hp) (Q : VK) (h : tD K (fMk g fa) σ H Q) : tA K fa σ H fun vs H1 => r vs H1 Q := by
  obtain ⟨rho, env, st, d, st', he, hs, hf, q⟩ := h
  obtain ⟨xs, s1, d', h1, h2, e⟩ := fMk_some hf
  cases e
  exact ⟨rho, env, st, xs, _, he, hs, h1, fun us r1 H1 e1 q1 p1 => k r1 H1 us xs d _ Q p1 q1 h2 fun v H2 sm pv => q v r1 H2 (e1.trans (q1.ext sm)) (q1.same sm) pv⟩
/-- a new object that no value is -/
theorem Sim.free {r : Rf} {H : Hp} {st : Store} (s : Sim K r H st) {p : Addr} (h : H p = none) : ¬ r.av p := fun z => by
  obtain ⟨o, e⟩ := s.there p z
  rw [h] at e; cases e
def mkTup (ds : List D) (_ : Store) : Option D := if ds.length ≤ sizeLine then some (.tup ds) else none
def mkLst (ds : List D) (_ : Store) : Option D := if ds.length ≤ sizeLine then some (.lst ds) else none
theorem de_tup {es : List Expr} {fa : FA} {x1 : Nat} {pos : Pos} (h : DA X es fa) : DE X (.Tuple es x1 pos) (fMk mkTup fa) :=
  weakE (pe_tupF h) fun σ H Q hh => argReads (r := fun xs H1 Q => xs.length ≤ sizeLine ∧ Fz Q H1 xs) (fun rho H xs ds d st Q hr hs hg k => by
    unfold mkTup at hg
    split at hg
    · rename_i hl
      cases hg
      refine ⟨by rw [hr.len]; exact hl, fun p o hp hz => k _ _ (same_alloc hp) (.tup upd_same hz (hs.free hp) (hr.ex (Ex.same rho (same_alloc hp))))⟩
    · cases hg) σ H Q hh
theorem de_lst {es : List Expr} {fa : FA} {pos : Pos} (h : DA X es fa) : DE X (.List es pos) (fMk mkLst fa) :=
  weakE (pe_lst h) fun σ H Q hh => argReads (r := fun xs H1 Q => xs.length ≤ sizeLine ∧ ∀ p, H1 p = none → Q (.ref p) (upd H1 p (.lst xs))) (fun rho H xs ds d st Q hr hs hg k => by
    unfold mkLst at hg
    split at hg
    · rename_i hl
      cases hg
      refine ⟨by rw [hr.len]; exact hl, fun p hp => k _ _ (same_alloc hp) (.lst upd_same (hs.free hp) (hr.ex (Ex.same rho (same_alloc hp))))⟩
    · cases hg) σ H Q hh
/-- a call of a built-in -/
def CallOk (X : Cx) (f : Value) (g : List D → Store → Option D) : Prop := ∃ r, CallR X f r ∧ ArgOk X.K r g
theorem de_callB {id : String} {x : Str} {g : List D → Store → Option D} {fa : FA} {e : Expr} {es : List Expr} {p pos : Pos} (ho : CallOk X (.builtin id) g) (hg : Gl X x) (hm : X.mg x = none) (hv : bootBuiltins x = some (.builtin id)) (ha : DA X (e :: es) fa) (hn : x ≠ "__name__" := by decide) (hdb : (x == ("__debug__" : Str)) = false := by decide)
    (he : starEach (e :: es) X.env = (false, eval e X.env) :: starEach es X.env := by rfl) (hpl : (backTo pos (starEach es X.env)).any (·.1) = false := by rfl) : DE X (.Call (.Name x p) (e :: es) [] pos) (fMk g fa) := by
  obtain ⟨r, hr, k⟩ := ho
  exact weakE (pe_callB hr hg hm hv ha hn hdb he hpl) fun σ H Q h => argReads k σ H Q h
theorem de_callTy {T : String} {x : Str} {g : List D → Store → Option D} {fa : FA} {e : Expr} {es : List Expr} {p pos : Pos} (ho : CallOk X (.type T) g) (hg : Gl X x) (hm : X.mg x = none) (hv : bootBuiltins x = some (.type T)) (ha : DA X (e :: es) fa) (hn : x ≠ "__name__" := by decide) (hdb : (x == ("__debug__" : Str)) = false := by decide)
    (he : starEach (e :: es) X.env = (false, eval e X.env) :: starEach es X.env := by rfl) (hpl : (backTo pos (starEach es X.env)).any (·.1) = false := by rfl) : DE X (.Call (.Name x p) (e :: es) [] pos) (fMk g fa) := by
  obtain ⟨r, hr, k⟩ := ho
  exact weakE (pe_callTy hr hg hm hv ha hn hdb he hpl) fun σ H Q h => argReads k σ H Q h
/-! ### tests, and, or, not -/
def asB : D → Option Bool | .bl b => some b | _ => none
def fTest (f : F) : FT := fun env st => (f env st).bind fun p => (asB p.1).map fun b => (b, p.2)
theorem fTest_some {f : F} {env : Lo} {st : Store} {z : Bool × Store} (h : fTest f env st = some z) : f env st = some (.bl z.1, z.2) := by
  unfold fTest at h
  obtain ⟨⟨x, s1⟩, h1, h⟩ := Option.bind_eq_some_iff.mp h
  obtain ⟨b, h2, h⟩ := Option.map_eq_some_iff.mp h
  cases x with
  | bl c => cases h2; subst h; exact h1
  | _ => cases h2
theorem testReads {f : F} (σ : L2.St) (H : Hp) (Q : Bool → Hp → Prop) (h : tT K (fTest f) σ H Q) : tD K f σ H fun x H1 => ∃ c, x = .bl c ∧ Q c H1 := by
  obtain ⟨r, env, st, b, st', he, hs, hf, q⟩ := h
  exact ⟨r, env, st, _, _, he, hs, fTest_some hf, fun v r1 H1 e1 q1 p1 => by
    cases p1
    exact ⟨b, rfl, q r1 H1 e1 q1⟩⟩
theorem dt_val {e : Expr} {f : F} (h : DE X e f) (he : ∀ whole, isTrue e X.env whole = (do let v ← whole; standAt e.pos; holding [v] (truthy v)) := by intro _; rfl) : DT X e (fTest f) := weakT (pt_val h he) fun σ H Q hh => testReads σ H Q hh
theorem dt_cmp {op : CmpOp} {g : D → D → Option D} {a b : Expr} {fa fb : F} {pos : Pos} (ho : OpOk X (compareOp op) g) (ha : DE X a fa) (hb : DE X b fb) (hm : behindInMarks op b = false := by with_unfolding_all rfl) : DT X (.Compare a [op] [b] pos) (fTest (fOp g fa fb)) := by
  obtain ⟨r, hr, k⟩ := ho
  exact weakT (pt_cmpR hr ha hb hm) fun σ H Q h => opReads (f := compareOp op) k σ H (fun x H1 => ∃ c, x = .bl c ∧ Q c H1) (testReads σ H Q h)
def fNotT (f : FT) : FT := fun env st => (f env st).map fun p => (!p.1, p.2)
theorem dt_not {e : Expr} {f : FT} {pos : Pos} (h : DT X e f) : DT X (.UnaryOp .Not e pos) (fNotT f) := weakT (pt_not h) fun σ H Q hh => by
  obtain ⟨r, env, st, b, st', he, hs, hf, q⟩ := hh
  obtain ⟨⟨c, s1⟩, h1, h2⟩ := Option.map_eq_some_iff.mp hf
  cases h2
  exact ⟨r, env, st, c, _, he, hs, h1, q⟩
def fAndT (f g : FT) : FT := fun env st => (f env st).bind fun p => if p.1 = true then g env p.2 else some (false, p.2)
def fOrT (f g : FT) : FT := fun env st => (f env st).bind fun p => if p.1 = true then some (true, p.2) else g env p.2
/-- a test whatever the whole is -/
abbrev DW (X : Cx) (e : Expr) (f : FT) : Prop := PW X e (tT X.K f)
theorem weakW {e : Expr} {t t' : TT} (h : PW X e t) (i : ∀ σ H Q, t' σ H Q → t σ H Q) : PW X e t' := ⟨fun wh pins s σ H Q I q => h.run wh pins s σ H Q I (i σ H Q q)⟩
theorem dw_and1 {a : Expr} {f : FT} {pos : Pos} (h : DT X a f) : DW X (.BoolOp .And [a] pos) f := pw_and1 h
theorem dw_or1 {a : Expr} {f : FT} {pos : Pos} (h : DT X a f) : DW X (.BoolOp .Or [a] pos) f := pw_or1 h
theorem dw_and {a b : Expr} {rest : List Expr} {f g : FT} {pos : Pos} (ha : DT X a f) (hb : DW X (.BoolOp .And (b :: rest) pos) g) : DW X (.BoolOp .And (a :: b :: rest) pos) (fAndT f g) := weakW (pw_and ha hb) fun σ H Q hh => by
  obtain ⟨r, env, st, b, st', he, hs, hf, q⟩ := hh
  obtain ⟨⟨c, s1⟩, h1, h2⟩ := Option.bind_eq_some_iff.mp hf
  refine ⟨r, env, st, c, s1, he, hs, h1, fun r1 H1 e1 q1 => ?_⟩
  cases c with
  | true => exact ⟨r1, env, s1, b, st', he.ext e1, q1, h2, fun r2 H2 e2 q2 => q r2 H2 (e1.trans e2) q2⟩
  | false =>
    cases h2
    exact q r1 H1 e1 q1
theorem dw_or {a b : Expr} {rest : List Expr} {f g : FT} {pos : Pos} (ha : DT X a f) (hb : DW X (.BoolOp .Or (b :: rest) pos) g) : DW X (.BoolOp .Or (a :: b :: rest) pos) (fOrT f g) := weakW (pw_or ha hb) fun σ H Q hh => by
  obtain ⟨r, env, st, b, st', he, hs, hf, q⟩ := hh
  obtain ⟨⟨c, s1⟩, h1, h2⟩ := Option.bind_eq_some_iff.mp hf
  refine ⟨r, env, st, c, s1, he, hs, h1, fun r1 H1 e1 q1 => ?_⟩
  cases c with
  | false => exact ⟨r1, env, s1, b, st', he.ext e1, q1, h2, fun r2 H2 e2 q2 => q r2 H2 (e1.trans e2) q2⟩
  | true =>
    cases h2
    exact q r1 H1 e1 q1
theorem dt_w {e : Expr} {f : FT} (h : DW X e f) : DT X e f := h.pt
/-- as values: bools alone -/
def fAnd (f g : F) : F := fun env st => (f env st).bind fun p => (asB p.1).bind fun b => if b = true then g env p.2 else some (.bl false, p.2)
def fOr (f g : F) : F := fun env st => (f env st).bind fun p => (asB p.1).bind fun b => if b = true then some (.bl true, p.2) else g env p.2
def fNot (f : F) : F := fun env st => (f env st).bind fun p => (asB p.1).map fun b => (.bl (!b), p.2)
theorem asB_some {d : D} {b : Bool} (h : asB d = some b) : d = .bl b := by
  cases d with
  | bl c => cases h; rfl
  | _ => cases h
theorem de_one {a : Expr} {op} {f : F} {pos : Pos} (h : DE X a f) : DE X (.BoolOp op [a] pos) f := pe_one h
theorem de_and {a b : Expr} {rest : List Expr} {f g : F} {pos : Pos} (ha : DE X a f) (hb : DE X (.BoolOp .And (b :: rest) pos) g) : DE X (.BoolOp .And (a :: b :: rest) pos) (fAnd f g) := weakE (pe_and ha hb) fun σ H Q hh => by
  obtain ⟨r, env, st, d, st', he, hs, hf, q⟩ := hh
  obtain ⟨⟨x, s1⟩, h1, h2⟩ := Option.bind_eq_some_iff.mp hf
  obtain ⟨c, h3, h4⟩ := Option.bind_eq_some_iff.mp h2
  have e := asB_some h3
  subst e
  refine ⟨r, env, st, .bl c, s1, he, hs, h1, fun u r1 H1 e1 q1 p1 => ?_⟩
  cases p1
  refine ⟨c, rfl, ?_⟩
  cases c with
  | true => exact ⟨r1, env, s1, d, st', he.ext e1, q1, h4, fun v r2 H2 e2 q2 p2 => q v r2 H2 (e1.trans e2) q2 p2⟩
  | false =>
    cases h4
    exact q _ r1 H1 e1 q1 (.bl false)
theorem de_or {a b : Expr} {rest : List Expr} {f g : F} {pos : Pos} (ha : DE X a f) (hb : DE X (.BoolOp .Or (b :: rest) pos) g) : DE X (.BoolOp .Or (a :: b :: rest) pos) (fOr f g) := weakE (pe_or ha hb) fun σ H Q hh => by
  obtain ⟨r, env, st, d, st', he, hs, hf, q⟩ := hh
  obtain ⟨⟨x, s1⟩, h1, h2⟩ := Option.bind_eq_some_iff.mp hf
  obtain ⟨c, h3, h4⟩ := Option.bind_eq_some_iff.mp h2
  have e := asB_some h3
  subst e
  refine ⟨r, env, st, .bl c, s1, he, hs, h1, fun u r1 H1 e1 q1 p1 => ?_⟩
  cases p1
  refine ⟨c, rfl, ?_⟩
  cases c with
  | false => exact ⟨r1, env, s1, d, st', he.ext e1, q1, h4, fun v r2 H2 e2 q2 p2 => q v r2 H2 (e1.trans e2) q2 p2⟩
  | true =>
    cases h4
    exact q _ r1 H1 e1 q1 (.bl true)
theorem de_not {a : Expr} {f : F} {pos : Pos} (ha : DE X a f) : DE X (.UnaryOp .Not a pos) (fNot f) := weakE (pe_not ha) fun σ H Q hh => by
  obtain ⟨r, env, st, d, st', he, hs, hf, q⟩ := hh
  obtain ⟨⟨x, s1⟩, h1, h2⟩ := Option.bind_eq_some_iff.mp hf
  obtain ⟨c, h3, h4⟩ := Option.map_eq_some_iff.mp h2
  have e := asB_some h3
  subst e
  cases h4
  refine ⟨r, env, st, .bl c, _, he, hs, h1, fun u r1 H1 e1 q1 p1 => ?_⟩
  cases p1
  exact ⟨c, rfl, q _ r1 H1 e1 q1 (.bl (!c))⟩
def fIfE (t : FT) (f g : F) : F := fun env st => (t env st).bind fun p => if p.1 = true then f env p.2 else g env p.2
theorem de_if {c a b : Expr} {t : FT} {f g : F} {pos : Pos} (hc : DT X c t) (ha : DE X a f) (hb : DE X b g) : DE X (.IfExp c a b pos) (fIfE t f g) := weakE (pe_ifExp hc ha hb) fun σ H Q hh => by
  obtain ⟨r, env, st, d, st', he, hs, hf, q⟩ := hh
  obtain ⟨⟨c, s1⟩, h1, h2⟩ := Option.bind_eq_some_iff.mp hf
  refine ⟨r, env, st, c, s1, he, hs, h1, fun r1 H1 e1 q1 => ?_⟩
  cases c with
  | true => exact ⟨r1, env, s1, d, st', he.ext e1, q1, h2, fun v r2 H2 e2 q2 p2 => q v r2 H2 (e1.trans e2) q2 p2⟩
  | false => exact ⟨r1, env, s1, d, st', he.ext e1, q1, h2, fun v r2 H2 e2 q2 p2 => q v r2 H2 (e1.trans e2) q2 p2⟩
/-- a op b op' c -/
def fChain (g g' : D → D → Option D) (fa fb fc : F) : F := fun env st => (fa env st).bind fun p => (fb env p.2).bind fun q => (g p.1 q.1).bind fun z => (asB z).bind fun k =>
  if k = true then (fc env q.2).bind fun w => (g' q.1 w.1).map fun d => (d, w.2) else some (.bl false, q.2)
theorem chainReads {r r' : R2} {g g' : D → D → Option D}
    (k : ∀ (rho : Rf) (H : Hp) (x y : V) (a b d : D) (st : Store) (Q : VK), Sim K rho H st → Rep K rho H x a → Rep K rho H y b → g a b = some d → (∀ v H', Same H H' → Rep K rho H' v d → Q v H') → r x y H Q)
    (k' : ∀ (rho : Rf) (H : Hp) (x y : V) (a b d : D) (st : Store) (Q : VK), Sim K rho H st → Rep K rho H x a → Rep K rho H y b → g' a b = some d → (∀ v H', Same H H' → Rep K rho H' v d → Q v H') → r' x y H Q)
    {fa fb fc : F} (σ : L2.St) (H : Hp) (Q : VK) (h : tD K (fChain g g' fa fb fc) σ H Q) : tChain r r' (tD K fa) (tD K fb) (tD K fc) σ H Q := by
  obtain ⟨rho, env, st, d, st', he, hs, hf, q⟩ := h
  obtain ⟨⟨x, s1⟩, h1, hf1⟩ := Option.bind_eq_some_iff.mp hf
  obtain ⟨⟨y, s2⟩, h2, hf2⟩ := Option.bind_eq_some_iff.mp hf1
  obtain ⟨z, h3, hf3⟩ := Option.bind_eq_some_iff.mp hf2
  obtain ⟨c, h4, hf4⟩ := Option.bind_eq_some_iff.mp hf3
  have e := asB_some h4
  subst e
  refine two he hs h1 h2 fun u v r1 H1 e1 q1 pu pv => k r1 H1 u v x y _ _ _ q1 pu pv h3 fun w H2 sm pw => ?_
  cases pw
  refine ⟨c, rfl, ?_⟩
  cases c with
  | false =>
    cases hf4
    exact q _ r1 H2 (e1.trans (q1.ext sm)) (q1.same sm) (.bl false)
  | true =>
    rw [if_pos rfl] at hf4
    obtain ⟨⟨w, s3⟩, h5, hf5⟩ := Option.bind_eq_some_iff.mp hf4
    obtain ⟨d', h6, hf6⟩ := Option.map_eq_some_iff.mp hf5
    cases hf6
    rw [if_pos rfl]
    have e2 : Ext rho H r1 H2 := e1.trans (q1.ext sm)
    refine ⟨r1, env, s2, w, _, he.ext e2, q1.same sm, h5, fun w' r3 H3 e3 q3 pw' => ?_⟩
    exact k' r3 H3 v w' y w _ _ _ q3 (pv.ext ((q1.ext sm).trans e3)) pw' h6 fun v4 H4 sm4 p4 => q v4 r3 H4 ((e2.trans e3).trans (q3.ext sm4)) (q3.same sm4) p4
theorem de_chain {op op' : CmpOp} {g g' : D → D → Option D} {a b c : Expr} {fa fb fc : F} {pos : Pos} (ho : OpOk X (compareOp op) g) (ho' : OpOk X (compareOp op') g') (ha : DE X a fa) (hb : DE X b fb) (hc : DE X c fc)
    (hm : lastMarks [op, op'] [b, c] = false := by with_unfolding_all rfl) : DE X (.Compare a [op, op'] [b, c] pos) (fChain g g' fa fb fc) := by
  obtain ⟨r, hr, k⟩ := ho
  obtain ⟨r', hr', k'⟩ := ho'
  exact weakE (pe_chain hr hr' ha hb hc hm) fun σ H Q h => chainReads k k' σ H Q h
theorem dt_chain {op op' : CmpOp} {g g' : D → D → Option D} {a b c : Expr} {fa fb fc : F} {pos : Pos} (ho : OpOk X (compareOp op) g) (ho' : OpOk X (compareOp op') g') (ha : DE X a fa) (hb : DE X b fb) (hc : DE X c fc)
    (hm : lastMarks [op, op'] [b, c] = false := by with_unfolding_all rfl) : DT X (.Compare a [op, op'] [b, c] pos) (fTest (fChain g g' fa fb fc)) := by
  obtain ⟨r, hr, k⟩ := ho
  obtain ⟨r', hr', k'⟩ := ho'
  exact weakT (pt_chain hr hr' ha hb hc hm) fun σ H Q h => chainReads k k' σ H (fun x H1 => ∃ c, x = .bl c ∧ Q c H1) (testReads σ H Q h)
/-! ### statements -/
inductive Out | nx | bk | ct | rt (d : D) | er (c f : Str) (d : D)
/-- an error of class c, its one field f -/
def ErrAt (K : PySem.W.Frag) (r : Rf) (H : Hp) (c f : Str) (d : D) (C dd : Addr) : Prop := PySem.W.nsIn K mainGlobals c = some (some (.ref C)) ∧ ∃ v, H dd = some (.xd [(f, v)]) ∧ Rep K r H v d
abbrev FS := Lo → Store → Option (Out × Lo × Store)
def OutOk (K : PySem.W.Frag) (W : WXd) (r : Rf) (H : Hp) (D' : Ends) (env' : Lo) (st' : Store) : Out → Prop
  | .nx => ∀ σ' r' H', Ext r H r' H' → EnvR K r' H' env' σ' → Sim K r' H' st' → D'.nx σ' H'
  | .bk => ∀ σ' r' H', Ext r H r' H' → EnvR K r' H' env' σ' → Sim K r' H' st' → D'.bk σ' H'
  | .ct => ∀ σ' r' H', Ext r H r' H' → EnvR K r' H' env' σ' → Sim K r' H' st' → D'.ct σ' H'
  | .rt d => ∀ v r' H', Ext r H r' H' → Sim K r' H' st' → Rep K r' H' v d → D'.rt v H'
  | .er c f d => ∀ σ' r' H' C dd, Ext r H r' H' → EnvR K r' H' env' σ' → Sim K r' H' st' → ErrAt K r' H' c f d C dd → W (.ref C) (some dd) σ' H'
theorem OutOk.ext {W : WXd} {r r1 : Rf} {H H1 : Hp} {D' : Ends} {env' : Lo} {st' : Store} (e : Ext r H r1 H1) : ∀ {o : Out}, OutOk K W r H D' env' st' o → OutOk K W r1 H1 D' env' st' o
  | .nx, h => fun σ' r' H' e' a b => h σ' r' H' (e.trans e') a b
  | .bk, h => fun σ' r' H' e' a b => h σ' r' H' (e.trans e') a b
  | .ct, h => fun σ' r' H' e' a b => h σ' r' H' (e.trans e') a b
  | .rt _, h => fun v r' H' e' a b => h v r' H' (e.trans e') a b
  | .er _ _ _, h => fun σ' r' H' C dd e' a b c => h σ' r' H' C dd (e.trans e') a b c
def tS (K : PySem.W.Frag) (W : WXd) (g : FS) : TS := fun D' σ H => ∃ r env st o env' st', EnvR K r H env σ ∧ Sim K r H st ∧ g env st = some (o, env', st') ∧ OutOk K W r H D' env' st' o
abbrev DS (X : Cx) (W : WXd) (st : Stmt) (g : FS) : Prop := PS X st (tS X.K W g)
abbrev DSs (X : Cx) (W : WXd) (st : List Stmt) (g : FS) : Prop := PSs X st (tS X.K W g)
def sNil : FS := fun env st => some (.nx, env, st)
def sSeq (g h : FS) : FS := fun env st => (g env st).bind fun p => match p with | (.nx, e1, s1) => h e1 s1 | q => some q
theorem ds_nil : DSs X W [] sNil := weakSs pss_nil fun D' σ H hh => by
  obtain ⟨r, env, st, o, env', st', he, hs, hf, q⟩ := hh
  cases hf
  exact q σ r H (.refl r H) he hs
theorem ds_one {s : Stmt} {g : FS} (h : DS X W s g) : DSs X W [s] g := pss_one h
theorem ds_cons {s : Stmt} {rest : List Stmt} {g h : FS} (hg : DS X W s g) (hr : DSs X W rest h) : DSs X W (s :: rest) (sSeq g h) := weakSs (pss_cons hg hr) fun D' σ H hh => by
  obtain ⟨r, env, st, o, env', st', he, hs, hf, q⟩ := hh
  obtain ⟨⟨o1, e1, s1⟩, h1, h2⟩ := Option.bind_eq_some_iff.mp hf
  refine ⟨r, env, st, o1, e1, s1, he, hs, h1, ?_⟩
  cases o1 with
  | nx => exact fun σ' r' H' ex he' hs' => ⟨r', e1, s1, o, env', st', he', hs', h2, q.ext ex⟩
  | bk => cases h2; exact q
  | ct => cases h2; exact q
  | rt d => cases h2; exact q
  | er c f d => cases h2; exact q
def sRet (f : F) : FS := fun env st => (f env st).map fun p => (.rt p.1, env, p.2)
theorem ds_ret {e : Expr} {f : F} {pos : Pos} (h : DE X e f) : DS X W (.Return (some e) pos) (sRet f) := weakS (ps_ret h) fun D' σ H hh => by
  obtain ⟨r, env, st, o, env', st', he, hs, hf, q⟩ := hh
  obtain ⟨⟨d, s1⟩, h1, h2⟩ := Option.map_eq_some_iff.mp hf
  cases h2
  exact ⟨r, env, st, d, _, he, hs, h1, q⟩
def sRetN : FS := fun env st => some (.rt .non, env, st)
def sBrk : FS := fun env st => some (.bk, env, st)
def sCnt : FS := fun env st => some (.ct, env, st)
def sDrop (f : F) : FS := fun env st => (f env st).map fun p => (.nx, env, p.2)
theorem ds_expr {e : Expr} {f : F} {pos : Pos} (h : DE X e f) (hs : swapsWith e none pos.line X.env = pure false := by rfl) : DS X W (.Expr e pos) (sDrop f) := weakS (ps_expr h hs) fun D' σ H hh => by
  obtain ⟨r, env, st, o, env', st', he, hs, hf, q⟩ := hh
  obtain ⟨⟨d, s1⟩, h1, h2⟩ := Option.map_eq_some_iff.mp hf
  cases h2
  exact ⟨r, env, st, d, _, he, hs, h1, fun v r1 H1 e1 q1 p1 => q σ r1 H1 e1 (he.ext e1) q1⟩
def sIf (t : FT) (g h : FS) : FS := fun env st => (t env st).bind fun p => if p.1 = true then g env p.2 else h env p.2
theorem ds_if {c : Expr} {a b : List Stmt} {t : FT} {g h : FS} {pos : Pos} (hc : DT X c t) (ha : DSs X W a g) (hb : DSs X W b h) : DS X W (.If c a b pos) (sIf t g h) := weakS (ps_if hc ha hb) fun D' σ H hh => by
  obtain ⟨r, env, st, o, env', st', he, hs, hf, q⟩ := hh
  obtain ⟨⟨k, s1⟩, h1, h2⟩ := Option.bind_eq_some_iff.mp hf
  refine ⟨r, env, st, k, s1, he, hs, h1, fun r1 H1 e1 q1 => ?_⟩
  cases k with
  | true => exact ⟨r1, env, s1, o, env', st', he.ext e1, q1, h2, q.ext e1⟩
  | false => exact ⟨r1, env, s1, o, env', st', he.ext e1, q1, h2, q.ext e1⟩
/-! ### targets -/
abbrev FG := D → Lo → Option Lo
abbrev FGs := List D → Lo → Option Lo
/-- how an item stands for its data -/
abbrev RD := Rf → Hp → V → D → Prop
/-- .. by Rep, or as a tuple of which no more is known -/
def RepI (K : PySem.W.Frag) : RD := fun r H v d => ∃ a xs ds, v = .ref a ∧ d = .tup ds ∧ SqT K H a xs ∧ RepL K r H xs ds
def tGR (K : PySem.W.Frag) (R : RD) (g : FG) : TG := fun v σ H Q => ∃ r env d env', EnvR K r H env σ ∧ R r H v d ∧ g d env = some env' ∧ ∀ σ', EnvR K r H env' σ' → Q σ' H
abbrev tG (K : PySem.W.Frag) (g : FG) : TG := tGR K (Rep K) g
abbrev DGR (X : Cx) (R : RD) (e : Expr) (g : FG) : Prop := PG X e (tGR X.K R g)
def tGs (K : PySem.W.Frag) (g : FGs) : TGs := fun vs σ H Q => ∃ r env ds env', EnvR K r H env σ ∧ RepL K r H vs ds ∧ g ds env = some env' ∧ ∀ σ', EnvR K r H env' σ' → Q σ' H
abbrev DG (X : Cx) (e : Expr) (g : FG) : Prop := PG X e (tG X.K g)
abbrev DGs (X : Cx) (e : List Expr) (g : FGs) : Prop := PGs X e (tGs X.K g)
theorem weakG {e : Expr} {t t' : TG} (h : PG X e t) (i : ∀ v σ H Q, t' v σ H Q → t v σ H Q) : PG X e t' := ⟨fun pins s σ H v u Q I r q => h.run pins s σ H v u Q I r (i v σ H Q q)⟩
theorem weakGs {e : List Expr} {t t' : TGs} (h : PGs X e t) (i : ∀ v σ H Q, t' v σ H Q → t v σ H Q) : PGs X e t' := ⟨fun pins s σ H v u Q I r q => h.run pins s σ H v u Q I r (i v σ H Q q)⟩
def gN (i : Nat) : FG := fun d env => some (env.set i (some d))
theorem dg_name (i : Nat) {x : Str} {pos : Pos} (hN : X.N.Nodup) (hi : X.N[i]? = some x := by rfl) (hx : Loc X.env.scope x := by first | exact Or.inl rfl | exact Or.inr rfl) (hf : X.fn x = true ∨ X.env.scope.names.lookup x = some .local := by first | exact .inl rfl | exact .inr rfl | assumption) : DG X (.Name x pos) (gN i) :=
  weakG (pg_name hN hi hx hf) fun v σ H Q hh => by
  obtain ⟨r, env, d, env', he, hr, hg, q⟩ := hh
  cases hg
  exact q _ (he.set hr i)
def gNil' : FGs := fun ds env => match ds with | [] => some env | _ => none
def gCons' (g : FG) (h : FGs) : FGs := fun ds env => match ds with | d :: r => (g d env).bind fun e1 => h r e1 | [] => none
theorem dgs_nil : DGs X [] gNil' := weakGs pgs_nil fun v σ H Q hh => by
  obtain ⟨r, env, ds, env', he, hr, hg, q⟩ := hh
  cases ds with
  | nil =>
    cases hg
    cases hr
    exact ⟨rfl, q _ he⟩
  | cons a b => cases hg
theorem dgs_cons {e : Expr} {es : List Expr} {g : FG} {h : FGs} (h1 : DG X e g) (h2 : DGs X es h) (hs : (assignEach (e :: es) X.env).map (·.2) = assign e X.env :: (assignEach es X.env).map (·.2) := by rfl) : DGs X (e :: es) (gCons' g h) := weakGs (pgs_cons h1 h2 hs) fun v σ H Q hh => by
  obtain ⟨r, env, ds, env', he, hr, hg, q⟩ := hh
  cases ds with
  | nil => cases hg
  | cons a b =>
    cases hr with
    | cons ra rb =>
      obtain ⟨e1, g1, g2⟩ := Option.bind_eq_some_iff.mp hg
      exact ⟨_, _, rfl, r, env, a, e1, he, ra, g1, fun σ' he' => ⟨r, e1, b, env', he', rb, g2, q⟩⟩
def gT (n : Nat) (h : FGs) : FG := fun d env => match d with | .tup ds => if ds.length = n then h ds env else none | _ => none
theorem Rep.sqT {r : Rf} {H : Hp} {v : V} {ds : List D} (h : Rep K r H v (.tup ds)) : ∃ a xs, v = .ref a ∧ SqT K H a xs ∧ RepL K r H xs ds := by
  cases h with
  | tup a z b c => exact ⟨_, _, rfl, .inl (.inr ⟨_, a⟩), c⟩
  | tupP a b c => exact ⟨_, _, rfl, .inl (.inl a), c⟩
  | tupK a b z c d e f => exact ⟨_, _, rfl, .inr ⟨_, _, _, a, b, c, d, e⟩, f⟩
theorem dg_tup {es : List Expr} {k n : Nat} {h : FGs} {pos : Pos} (hc : X.calm = true) (hh : DGs X es h) (hn : (assignEach es X.env).length = n := by rfl) (hst : (assignEach es X.env).findIdx? (·.1) = none := by rfl) : DG X (.Tuple es k pos) (gT n h) :=
  weakG (pg_tup hc hh hn hst) fun v σ H Q hh => by
  obtain ⟨r, env, d, env', he, hr, hg, q⟩ := hh
  cases d with
  | tup ds =>
    obtain ⟨a, xs, e, s, l⟩ := hr.sqT
    have hg' : (if ds.length = n then h ds env else none) = some env' := hg
    by_cases hl : ds.length = n
    · rw [if_pos hl] at hg'
      exact ⟨a, xs, e, s, by rw [l.len]; exact hl, r, env, ds, env', he, l, hg', q⟩
    · rw [if_neg hl] at hg'
      cases hg'
  | _ => cases hg
/-- a tuple's target takes an item of either kind -/
theorem dg_tupI {es : List Expr} {k n : Nat} {h : FGs} {pos : Pos} (hc : X.calm = true) (hh : DGs X es h) (hn : (assignEach es X.env).length = n := by rfl) (hst : (assignEach es X.env).findIdx? (·.1) = none := by rfl) : DGR X (RepI X.K) (.Tuple es k pos) (gT n h) :=
  weakG (pg_tup hc hh hn hst) fun v σ H Q hh => by
  obtain ⟨r, env, d, env', he, hr, hg, q⟩ := hh
  obtain ⟨a, xs, ds, e, ed, s, l⟩ := hr
  subst ed
  have hg' : (if ds.length = n then h ds env else none) = some env' := hg
  by_cases hl : ds.length = n
  · rw [if_pos hl] at hg'
    exact ⟨a, xs, e, s, by rw [l.len]; exact hl, r, env, ds, env', he, l, hg', q⟩
  · rw [if_neg hl] at hg'
    cases hg'
def sAsg (f : F) (g : FG) : FS := fun env st => (f env st).bind fun p => (g p.1 env).map fun e1 => (.nx, e1, p.2)
theorem asgReads {W : WXd} {f : F} {g : FG} (D' : Ends) (σ : L2.St) (H : Hp) (hh : tS K W (sAsg f g) D' σ H) : tAsg (tD K f) (tG K g) D' σ H := by
  obtain ⟨r, env, st, o, env', st', he, hs, hf, q⟩ := hh
  obtain ⟨⟨d, s1⟩, h1, h2⟩ := Option.bind_eq_some_iff.mp hf
  obtain ⟨e1, h3, h4⟩ := Option.map_eq_some_iff.mp h2
  cases h4
  exact ⟨r, env, st, d, _, he, hs, h1, fun v r1 H1 x1 q1 p1 => ⟨r1, env, d, _, he.ext x1, p1, h3, fun σ' he' => q σ' r1 H1 x1 he' q1⟩⟩
theorem ds_asg {tg e : Expr} {f : F} {g : FG} {pos : Pos} (he : DE X e f) (hg : DG X tg g) (hs : swapsWithSole [tg] e pos.line X.env = pure false := by rfl) (hw : swappedStores [tg] e X.env = pure none := by rfl)
    (h1 : (assignEach [tg] X.env).map (·.2) = [assign tg X.env] := by rfl) : DS X W (.Assign [tg] e pos) (sAsg f g) := weakS (ps_asg he hg hs hw h1) fun D' σ H hh => asgReads D' σ H hh
end
end DL
namespace DL
open PySem PySem.Spec PyProof.Rows L2
variable {K : PySem.W.Frag}
/-! ### what is walked -/
abbrev FI := Lo → Store → Option (List D × Store)
/-- the iterator yields these data, whatever has become known since -/
def ItOkR (K : PySem.W.Frag) (R : RD) (J : It) (r : Rf) (H : Hp) (ds : List D) : Prop :=
  ∀ r1 H1 st1, Ext r H r1 H1 → Sim K r1 H1 st1 → (∀ i, ds.length ≤ i → J.stop i H1) ∧
    ∀ (i : Nat) d, ds[i]? = some d → J.go i H1 ∧ ∀ x H2, J.yld i H1 x H2 → ∃ r2, Ext r1 H1 r2 H2 ∧ Sim K r2 H2 st1 ∧ R r2 H2 x d
abbrev ItOk (K : PySem.W.Frag) (J : It) (r : Rf) (H : Hp) (ds : List D) : Prop := ItOkR K (Rep K) J r H ds
def tIR (K : PySem.W.Frag) (RR : RD) (f : FI) : TI := fun σ H R => ∃ r env st ds st', EnvR K r H env σ ∧ Sim K r H st ∧ f env st = some (ds, st') ∧ ∀ J r' H', Ext r H r' H' → Sim K r' H' st' → ItOkR K RR J r' H' ds → R J H'
abbrev DIR (X : Cx) (RR : RD) (tg iter : Expr) (f : FI) : Prop := PI X tg iter (tIR X.K RR f)
abbrev DI (X : Cx) (tg iter : Expr) (f : FI) : Prop := DIR X (Rep X.K) tg iter f
theorem ItOk.ext {R : RD} {J : It} {r r' : Rf} {H H' : Hp} {ds : List D} (h : ItOkR K R J r H ds) (e : Ext r H r' H') : ItOkR K R J r' H' ds := fun r1 H1 st1 e1 s1 => h r1 H1 st1 (e.trans e1) s1
section
variable {X : Cx} {W : WXd} {tg iter : Expr}
theorem weakI {t t' : TI} (h : PI X tg iter t) (i : ∀ σ H Q, t' σ H Q → t σ H Q) : PI X tg iter t' := ⟨fun pins s σ H Q I q => h.run pins s σ H Q I (i σ H Q q)⟩
def asL : D → Option (List D) | .lst ds => some ds | _ => none
def asT : D → Option (List D) | .tup ds => some ds | _ => none
def asScr : D → Option (List D) | .scr ns => some (ns.map D.int) | _ => none
def asStr : D → Option (List D) | .str x => some (x.cps.toList.map fun c => .str ⟨#[c]⟩) | _ => none
def iOf (a : D → Option (List D)) (f : F) : FI := fun env st => (f env st).bind fun p => (a p.1).map fun ds => (ds, p.2)
theorem iOf_some {a : D → Option (List D)} {f : F} {env : Lo} {st : Store} {z : List D × Store} (h : iOf a f env st = some z) : ∃ d, f env st = some (d, z.2) ∧ a d = some z.1 := by
  obtain ⟨⟨x, s1⟩, h1, h2⟩ := Option.bind_eq_some_iff.mp h
  obtain ⟨ds, h3, h4⟩ := Option.map_eq_some_iff.mp h2
  cases h4
  exact ⟨x, h1, h3⟩
theorem sql_ok {J : It} {a : Addr} {r : Rf} {H : Hp} {xs : List V} {ds : List D} (hJ : J = Itl K a) (h : ∀ r1 H1, Ext r H r1 H1 → SqL K H1 a xs) (l : RepL K r H xs ds) : ItOk K J r H ds := fun r1 H1 st1 e1 s1 => by
  subst hJ
  have q := h r1 H1 e1
  have l1 := l.ext e1
  refine ⟨fun i hi => ⟨xs, q, by rw [l.len]; exact hi⟩, fun i d hd => ?_⟩
  obtain ⟨v, hv, rv⟩ := l1.get hd
  exact ⟨⟨xs, v, q, hv⟩, fun x H2 ⟨e, y⟩ => by
    subst e
    have := y xs q
    rw [hv] at this
    cases this
    exact ⟨r1, .refl _ _, s1, rv⟩⟩
theorem di_lst {f : F} (h : DE X iter f) : DI X tg iter (iOf asL f) := weakI (pi_list h) fun σ H R hh => by
  obtain ⟨r, env, st, ds, st', he, hs, hf, q⟩ := hh
  obtain ⟨d, h1, h2⟩ := iOf_some hf
  refine ⟨r, env, st, d, st', he, hs, h1, fun v r1 H1 e1 q1 p1 => ?_⟩
  cases d with
  | lst es =>
    cases h2
    cases p1 with
    | lst a b c => exact ⟨_, rfl, ⟨_, .of a⟩, q _ r1 H1 e1 q1 (sql_ok rfl (fun r2 H2 e2 => .of (e2.keep _ _ a b)) c)⟩
  | _ => cases h2
theorem di_scr {f : F} (h : DE X iter f) : DI X tg iter (iOf asScr f) := weakI (pi_list h) fun σ H R hh => by
  obtain ⟨r, env, st, ds, st', he, hs, hf, q⟩ := hh
  obtain ⟨d, h1, h2⟩ := iOf_some hf
  refine ⟨r, env, st, d, st', he, hs, h1, fun v r1 H1 e1 q1 p1 => ?_⟩
  cases d with
  | scr es =>
    cases h2
    cases p1 with
    | scr a b => exact ⟨_, rfl, ⟨_, .inl (.inr ⟨_, a⟩)⟩, q _ r1 H1 e1 q1 (sql_ok rfl (fun r2 H2 e2 => .inl (.inr ⟨_, e2.keep _ _ a b⟩)) (RepL.ofInts es))⟩
    | scrK a b c d e f => exact ⟨_, rfl, ⟨_, .inr ⟨_, _, _, a, b, c, d, e, f⟩⟩, q _ r1 H1 e1 q1 (sql_ok rfl (fun r2 H2 e2 => .inr ⟨_, _, _, a, b, c, d, e, f⟩) (RepL.ofInts es))⟩
  | _ => cases h2
theorem di_tup {f : F} (h : DE X iter f) : DI X tg iter (iOf asT f) := weakI (pi_tup h) fun σ H R hh => by
  obtain ⟨r, env, st, ds, st', he, hs, hf, q⟩ := hh
  obtain ⟨d, h1, h2⟩ := iOf_some hf
  refine ⟨r, env, st, d, st', he, hs, h1, fun v r1 H1 e1 q1 p1 => ?_⟩
  cases d with
  | tup es =>
    have ees : es = ds := Option.some.inj h2
    subst ees
    have key : ∀ {a : Addr} {xs : List V}, (∀ r2 H2, Ext r1 H1 r2 H2 → SqT X.K H2 a xs) → RepL X.K r1 H1 xs es → ItOk X.K (Itt X.K a) r1 H1 es := fun {a xs} hq l r2 H2 st2 e2 s2 => by
      have qq := hq r2 H2 e2
      have l1 := l.ext e2
      refine ⟨fun i hi => ⟨xs, qq, by rw [l.len]; exact hi⟩, fun i d hd => ?_⟩
      obtain ⟨v, hv, rv⟩ := l1.get hd
      exact ⟨⟨xs, v, qq, hv⟩, fun x H3 ⟨e, y⟩ => by
        subst e
        have := y xs qq
        rw [hv] at this
        cases this
        exact ⟨r2, .refl _ _, s2, rv⟩⟩
    cases p1 with
    | tup a z b c => exact ⟨_, rfl, ⟨_, .inl (.inr ⟨_, a⟩)⟩, q _ r1 H1 e1 q1 (key (fun r2 H2 e2 => .inl (.inr ⟨_, e2.keep _ _ a b⟩)) c)⟩
    | tupP a b c => exact ⟨_, rfl, ⟨_, .inl (.inl a)⟩, q _ r1 H1 e1 q1 (key (fun r2 H2 e2 => .inl (.inl (e2.keep _ _ a b))) c)⟩
    | tupK a b z c d e f => exact ⟨_, rfl, ⟨_, .inr ⟨_, _, _, a, b, c, d, e⟩⟩, q _ r1 H1 e1 q1 (key (fun r2 H2 e2 => .inr ⟨_, _, _, a, b, c, d, e⟩) f)⟩
  | _ => cases h2
theorem di_str {f : F} (h : DE X iter f) : DI X tg iter (iOf asStr f) := weakI (pi_str h) fun σ H R hh => by
  obtain ⟨r, env, st, ds, st', he, hs, hf, q⟩ := hh
  obtain ⟨d, h1, h2⟩ := iOf_some hf
  refine ⟨r, env, st, d, st', he, hs, h1, fun v r1 H1 e1 q1 p1 => ?_⟩
  cases d with
  | str x =>
    cases h2
    cases p1
    refine ⟨x, rfl, q _ r1 H1 e1 q1 fun r2 H2 st2 e2 s2 => ⟨fun i hi => ?_, fun i d hd => ?_⟩⟩
    · show x.cps.size ≤ i
      simpa using hi
    · rw [List.getElem?_map] at hd
      obtain ⟨c, hc, e⟩ := Option.map_eq_some_iff.mp hd
      subst e
      have hc' : x.cps[i]? = some c := by simpa using hc
      refine ⟨(Array.getElem?_eq_some_iff.mp hc').1, fun y H3 ⟨e, c', hc2, ey⟩ => ?_⟩
      subst e
      rw [hc'] at hc2
      cases hc2
      subst ey
      exact ⟨r2, .refl _ _, s2, .str _⟩
  | _ => cases h2
/-- range(n) -/
def rg (lo hi : Int) : List D := (List.range (hi - lo).toNat).map fun k => .int (lo + (k : Nat))
def asR1 : List D → Option (List D) | [.int n] => if -(2 ^ 62) ≤ n ∧ n < 2 ^ 62 then some (rg 0 n) else none | _ => none
def iOfA (a : List D → Option (List D)) (f : FA) : FI := fun env st => (f env st).bind fun p => (a p.1).map fun ds => (ds, p.2)
theorem iOfA_some {a : List D → Option (List D)} {f : FA} {env : Lo} {st : Store} {z : List D × Store} (h : iOfA a f env st = some z) : ∃ d, f env st = some (d, z.2) ∧ a d = some z.1 := by
  obtain ⟨⟨x, s1⟩, h1, h2⟩ := Option.bind_eq_some_iff.mp h
  obtain ⟨ds, h3, h4⟩ := Option.map_eq_some_iff.mp h2
  cases h4
  exact ⟨x, h1, h3⟩
theorem rng_ok {lo hi : Int} {r : Rf} {H : Hp} : ItOk K (Itr lo (hi - lo).toNat) r H (rg lo hi) := fun r1 H1 st1 e1 s1 => by
  refine ⟨fun i h => ?_, fun i d hd => ?_⟩
  · show (hi - lo).toNat ≤ i
    simpa [rg] using h
  · unfold rg at hd
    rw [List.getElem?_map] at hd
    obtain ⟨c, hc, e⟩ := Option.map_eq_some_iff.mp hd
    subst e
    obtain ⟨h1, h2⟩ := List.getElem?_eq_some_iff.mp hc
    rw [List.getElem_range] at h2
    subst h2
    refine ⟨by show i < (hi - lo).toNat; simpa using h1, fun x H2 ⟨e, y⟩ => ?_⟩
    subst e
    subst y
    exact ⟨r1, .refl _ _, s1, .int _⟩
theorem di_range1 {a : Expr} {fa : FA} {p pos : Pos} (hg : Gl X "range") (hm : X.mg "range" = none) (ha : DA X [a] fa) (hs : starEach [a] X.env = [(false, eval a X.env)] := by rfl) : DI X tg (.Call (.Name "range" p) [a] [] pos) (iOfA asR1 fa) := weakI (pi_range1 hg hm ha hs) fun σ H R hh => by
  obtain ⟨r, env, st, ds, st', he, hs, hf, q⟩ := hh
  obtain ⟨d, h1, h2⟩ := iOfA_some hf
  refine ⟨r, env, st, d, st', he, hs, h1, fun v r1 H1 e1 q1 p1 => ?_⟩
  unfold asR1 at h2
  split at h2
  · rename_i n
    split at h2
    · rename_i hn
      cases h2
      cases p1 with
      | cons pa pb =>
        cases pa
        cases pb
        refine ⟨n, rfl, hn.1, hn.2, q _ r1 H1 e1 q1 ?_⟩
        have z : (n - 0).toNat = n.toNat := by rw [Int.sub_zero]
        have := rng_ok (K := X.K) (lo := 0) (hi := n) (r := r1) (H := H1)
        rw [z] at this
        exact this
    · cases h2
  · cases h2
end
/-! ### for -/
def loopS (tg : FG) (body : FS) : List D → Lo → Store → Option (Out × Lo × Store)
  | [], env, st => some (.nx, env, st)
  | d :: ds, env, st => (tg d env).bind fun e1 => (body e1 st).bind fun p => match p with
    | (.nx, e2, s2) => loopS tg body ds e2 s2
    | (.ct, e2, s2) => loopS tg body ds e2 s2
    | (.bk, e2, s2) => some (.nx, e2, s2)
    | (.rt v, e2, s2) => some (.rt v, e2, s2)
    | (.er c f v, e2, s2) => some (.er c f v, e2, s2)
def sFor (fi : FI) (tg : FG) (body : FS) : FS := fun env st => (fi env st).bind fun p => loopS tg body p.1 env p.2
section
variable {X : Cx} {W : WXd} {tg iter : Expr}
theorem ds_forR {RR : RD} {body : List Stmt} {fi : FI} {g : FG} {b : FS} {pos : Pos} (hp : PassesOwn (model X.prog X.w) X.A X.env X.xe) (hc : X.calm = true) (hi : DIR X RR tg iter fi) (hg : DGR X RR tg g) (hb : DSs X W body b)
    (hs : ∀ x, foldedSetIterable iter X.env x = pure x := by intro _; rfl) : DS X W (.For tg iter body [] pos) (sFor fi g b) := weakS (ps_for hp hc hi hg hb hs) fun D' σ H hh => by
  obtain ⟨r, env, st, o, env', st', he, hs, hf, q⟩ := hh
  obtain ⟨⟨ds, s1⟩, h1, h2⟩ := Option.bind_eq_some_iff.mp hf
  refine ⟨r, env, st, ds, s1, he, hs, h1, fun J r1 H1 e1 q1 j1 => ?_⟩
  refine ⟨fun i m σ2 H2 => m = ds.length - i ∧ i ≤ ds.length ∧ ∃ r2 env2 st2, Ext r1 H1 r2 H2 ∧ EnvR X.K r2 H2 env2 σ2 ∧ Sim X.K r2 H2 st2 ∧ loopS g b (ds.drop i) env2 st2 = some (o, env', st'),
    ⟨_, rfl, Nat.zero_le _, r1, env, s1, .refl _ _, he.ext e1, q1, h2⟩, ?_⟩
  rintro i m σ2 H2 ⟨rfl, hi, r2, env2, st2, e2, he2, hs2, h3⟩
  obtain ⟨jst, jgo⟩ := j1 r2 H2 st2 e2 hs2
  by_cases hlt : i < ds.length
  · have hd : ds[i]? = some ds[i] := List.getElem?_eq_getElem hlt
    rw [List.drop_eq_getElem_cons hlt] at h3
    obtain ⟨env3, g1, h4⟩ := Option.bind_eq_some_iff.mp h3
    obtain ⟨⟨o4, env4, st4⟩, g2, h5⟩ := Option.bind_eq_some_iff.mp h4
    obtain ⟨j2, j3⟩ := jgo i _ hd
    refine .inr ⟨j2, fun σ' H' => i + 1 ≤ ds.length ∧ ∃ r2 env2 st2, Ext r1 H1 r2 H' ∧ EnvR X.K r2 H' env2 σ' ∧ Sim X.K r2 H' st2 ∧ loopS g b (ds.drop (i + 1)) env2 st2 = some (o, env', st'),
      fun σ' H' ⟨hi', w⟩ => ⟨ds.length - (i + 1), by omega, rfl, hi', w⟩, fun x H3 y => ?_⟩
    obtain ⟨r3, e3, hs3, rx⟩ := j3 x H3 y
    refine ⟨r3, env2, ds[i], env3, he2.ext e3, rx, g1, fun σ3 he3 => ⟨r3, env3, st2, o4, env4, st4, he3, hs3, g2, ?_⟩⟩
    cases o4 with
    | nx => exact fun σ' r' H' e' a c => ⟨by omega, r', env4, st4, (e2.trans e3).trans e', a, c, h5⟩
    | ct => exact fun σ' r' H' e' a c => ⟨by omega, r', env4, st4, (e2.trans e3).trans e', a, c, h5⟩
    | bk =>
      cases h5
      exact fun σ' r' H' e' a c => q σ' r' H' (((e1.trans e2).trans e3).trans e') a c
    | rt v =>
      cases h5
      exact fun v r' H' e' a c => q v r' H' (((e1.trans e2).trans e3).trans e') a c
    | er c' f' v =>
      cases h5
      exact fun σ' r' H' C dd e' a c z => q σ' r' H' C dd (((e1.trans e2).trans e3).trans e') a c z
  · have e : i = ds.length := by omega
    subst e
    rw [List.drop_length] at h3
    cases h3
    exact .inl ⟨jst _ (Nat.le_refl _), q σ2 r2 H2 (e1.trans e2) he2 hs2⟩
end
/-! ### a new object that is being made: hidden, then shown as a value, or taken into the store -/
def Rf.hide (r : Rf) (p : Addr) : Rf := ⟨r.adr, fun a => r.av a ∨ a = p, r.lk⟩
def Rf.shown (r : Rf) (p : Addr) : Rf := ⟨r.adr, fun a => r.av a ∧ a ≠ p, r.lk⟩
def Rf.add (r : Rf) (p : Addr) : Rf := ⟨r.adr ++ [p], r.av, r.lk⟩
structure Hid (K : PySem.W.Frag) (r : Rf) (H : Hp) (st : Store) (p : Addr) : Prop where
  av : r.av p
  na : p ∉ r.adr
  nl : ¬ r.lk p
  sim : Sim K r H st
theorem hideNew {r : Rf} {H : Hp} {st : Store} {p : Addr} {o : HO} (q1 : Sim K r H st) (hD : H p = none) : Ext r H (r.hide p) (upd H p o) ∧ Hid K (r.hide p) (upd H p o) st p := by
  have e0 : Ext r H (r.hide p) (upd H p o) := ⟨⟨⟨[], by simp [Rf.hide]⟩, fun a x h _ => same_alloc hD a x h, fun a h n => by
    rcases h with h | h
    · exact absurd h n
    · rw [h]; exact hD⟩, fun a b c => ⟨by obtain ⟨o, h⟩ := q1.there a b; rw [h]; exact same_alloc hD a o h, .inl b, c⟩, fun _ => Iff.rfl, fun a b => by obtain ⟨o, u, h⟩ := q1.lkd a b; rw [h]; exact same_alloc hD a _ h⟩
  refine ⟨e0, .inr rfl, fun z => ?_, fun z => ?_, q1.len, q1.nd, fun n a x h1 h2 => (q1.ob n a x h1 h2).ex e0.toEx (fun v => ⟨?_, .inl v⟩), fun a v => ?_, fun a v => ?_, fun a v => ?_⟩
  · obtain ⟨x, y⟩ := q1.old p z
    rw [hD] at y; cases y
  · obtain ⟨o, u, y⟩ := q1.lkd p z
    rw [hD] at y; cases y
  · obtain ⟨x, z⟩ := q1.there a v
    rw [z]; exact same_alloc hD a x z
  · rcases v with v | v
    · obtain ⟨x, z⟩ := q1.there a v
      exact ⟨x, same_alloc hD a x z⟩
    · exact ⟨_, by rw [v]; exact upd_same⟩
  · obtain ⟨x, z⟩ := q1.old a v
    exact ⟨x, same_alloc hD a x z⟩
  · obtain ⟨o, u, z⟩ := q1.lkd a v
    exact ⟨o, u, same_alloc hD a _ z⟩
theorem Hid.ext {r r' : Rf} {H H' : Hp} {st st' : Store} {p : Addr} (h : Hid K r H st p) (e : Ext r H r' H') (s : Sim K r' H' st') : Hid K r' H' st' p ∧ H' p = H p :=
  let ⟨a, b, c⟩ := e.hid p h.av h.na; ⟨⟨b, c, fun z => h.nl ((e.hd.lke p).mp z), s⟩, a⟩
/-- the hidden object is taken into the store -/
theorem Hid.add {r r0 : Rf} {H H0 : Hp} {st st0 : Store} {p : Addr} {o : HO} {ob : Ob} (h : Hid K r H st p) (e : Ext r0 H0 r H) (q0 : Sim K r0 H0 st0) (hn : H0 p = none) (hob : ObR K (r.add p) (upd H p o) p ob) :
    Ext r0 H0 (r.add p) (upd H p o) ∧ Sim K (r.add p) (upd H p o) (st ++ [ob]) ∧ ∀ d, d = D.ref st.length → Rep K (r.add p) (upd H p o) (.ref p) d := by
  have ex : Ex r H (r.add p) (upd H p o) := ⟨⟨[p], rfl⟩, fun q x z n => by rw [upd_ne (fun y => n (by rw [y]; exact h.av))]; exact z, fun q z n => absurd z n⟩
  have nlk : ∀ q, r.lk q → q ≠ p := fun q z y => h.nl (by rw [← y]; exact z)
  refine ⟨⟨e.toEx.trans ex, fun q a b => ?_, e.hd.lke, fun q z => by rw [upd_ne (nlk q ((e.hd.lke q).mpr z))]; exact e.hd.lks q z⟩, ⟨?_, ?_, fun n a x h1 h2 => ?_, fun q v => ?_, fun q v => ?_, fun q v => ?_⟩, fun d hd => ?_⟩
  · obtain ⟨z1, z2, z3⟩ := e.hid q a b
    have nq : q ≠ p := fun y => by
      obtain ⟨x, z⟩ := q0.there q a
      rw [y, hn] at z; cases z
    exact ⟨by rw [upd_ne nq]; exact z1, z2, fun z => by
      rcases List.mem_append.mp z with z | z
      · exact z3 z
      · exact nq (List.mem_singleton.mp z)⟩
  · show (r.adr ++ [p]).length = (st ++ [ob]).length
    rw [List.length_append, List.length_append, h.sim.len]; rfl
  · exact List.nodup_append.mpr ⟨h.sim.nd, by simp, fun a ha b hb e => h.na (by rw [List.mem_singleton.mp hb] at e; rw [← e]; exact ha)⟩
  · by_cases hlt : n < r.adr.length
    · have h1' : r.adr[n]? = some a := by
        have : (r.adr ++ [p])[n]? = some a := h1
        rwa [List.getElem?_append_left hlt] at this
      have h2' : st[n]? = some x := by rwa [List.getElem?_append_left (by rw [← h.sim.len]; exact hlt)] at h2
      exact (h.sim.ob n a x h1' h2').ex ex fun v => ⟨by rw [upd_ne (fun y => h.na (by rw [← y]; exact List.mem_of_getElem? h1'))], v⟩
    · have hl : n = r.adr.length := by
        have : n < (r.adr ++ [p]).length := (List.getElem?_eq_some_iff.mp (show (r.adr ++ [p])[n]? = some a from h1)).1
        rw [List.length_append, List.length_singleton] at this
        omega
      have e1 : a = p := by
        have : (r.adr ++ [p])[n]? = some a := h1
        rw [hl, List.getElem?_append_right (Nat.le_refl _), Nat.sub_self] at this
        exact (Option.some.inj this).symm
      have e2 : x = ob := by
        rw [hl, h.sim.len, List.getElem?_append_right (Nat.le_refl _), Nat.sub_self] at h2
        exact (Option.some.inj h2).symm
      rw [e1, e2]; exact hob
  · by_cases z : q = p
    · exact ⟨_, by rw [z]; exact upd_same⟩
    · rw [upd_ne z]; exact h.sim.there q v
  · by_cases z : q = p
    · exact ⟨_, by rw [z]; exact upd_same⟩
    · rw [upd_ne z]
      rcases List.mem_append.mp v with v | v
      · exact h.sim.old q v
      · exact absurd (List.mem_singleton.mp v) z
  · rw [upd_ne (nlk q v)]; exact h.sim.lkd q v
  · subst hd
    refine .ref ?_
    show (r.adr ++ [p])[st.length]? = some p
    rw [← h.sim.len, List.getElem?_append_right (Nat.le_refl _), Nat.sub_self]; rfl
/-! ### list comprehensions of one clause, the target one name or several (slots is) -/
def setL {α : Type} : List Nat → List α → List (Option α) → List (Option α)
  | i :: is, v :: vs, σ => setL is vs (σ.set i (some v))
  | _, _, σ => σ
theorem setL_length {α : Type} : ∀ (is : List Nat) (vs : List α) (σ : List (Option α)), (setL is vs σ).length = σ.length
  | [], _, _ => rfl
  | _ :: _, [], _ => rfl
  | i :: is, v :: vs, σ => by unfold setL; rw [setL_length is vs, List.length_set]
theorem setL_out {α : Type} {j : Nat} : ∀ (is : List Nat) (vs : List α) (σ : List (Option α)), j ∉ is → (setL is vs σ)[j]? = σ[j]?
  | [], _, _, _ => rfl
  | _ :: _, [], _, _ => rfl
  | i :: is, v :: vs, σ, h => by
    unfold setL
    rw [setL_out is vs _ (fun z => h (List.mem_cons_of_mem _ z)), List.getElem?_set_ne (fun z => h (by rw [z]; exact List.mem_cons_self))]
theorem wipe_in {σ : L2.St} {j : Nat} : ∀ {is : List Nat}, j ∈ is → (wipe σ is)[j]? = σ[j]?.map fun _ => none
  | [], h => by cases h
  | i :: is, h => by
    unfold wipe
    by_cases z : i = j
    · subst z
      by_cases hi : i < σ.length
      · rw [List.getElem?_set_self (by rw [wipe_length]; exact hi), List.getElem?_eq_getElem hi]; rfl
      · rw [List.getElem?_eq_none (by rw [List.length_set, wipe_length]; omega), List.getElem?_eq_none (by omega)]; rfl
    · rw [List.getElem?_set_ne z]
      rcases List.mem_cons.mp h with e | e
      · exact absurd e.symm z
      · exact wipe_in e
theorem wipe_setL (σ : L2.St) (is : List Nat) (vs : List V) : wipe (setL is vs (wipe σ is)) is = wipe σ is := by
  refine List.ext_getElem? fun j => ?_
  by_cases h : j ∈ is
  · rw [wipe_in h]
    by_cases hj : j < σ.length
    · have h1 : j < (setL is vs (wipe σ is)).length := by rw [setL_length, wipe_length]; exact hj
      have h2 : j < (wipe σ is).length := by rw [wipe_length]; exact hj
      rw [List.getElem?_eq_getElem h1, wipe_in h, List.getElem?_eq_getElem hj]; rfl
    · rw [List.getElem?_eq_none (by rw [setL_length, wipe_length]; omega), List.getElem?_eq_none (by rw [wipe_length]; omega)]; rfl
  · rw [wipe_out h, setL_out is vs _ h]
/-- the slots of a block's own names, forgotten -/
def wipeL (env : Lo) : List Nat → Lo
  | [] => env
  | i :: is => (wipeL env is).set i none
theorem EnvR.wipeL {r : Rf} {H : Hp} {env : Lo} {σ : L2.St} (h : EnvR K r H env σ) : ∀ is : List Nat, EnvR K r H (DL.wipeL env is) (L2.wipe σ is)
  | [] => h
  | i :: is => EnvR.wipe (EnvR.wipeL h is) i
theorem EnvR.setL {r : Rf} {H : Hp} : ∀ {is : List Nat} {vs : List V} {ds : List D} {env : Lo} {σ : L2.St}, EnvR K r H env σ → RepL K r H vs ds → EnvR K r H (DL.setL is ds env) (DL.setL is vs σ)
  | [], _, _, _, _, h, _ => h
  | _ :: _, _, _, _, _, h, .nil => h
  | i :: is, _ :: _, _ :: _, env, σ, h, .cons a b => by
    have := EnvR.setL (is := is) (EnvR.set h a i) b
    exact this
/-- how a target takes an item -/
abbrev FB := D → Option (List D)
def b1 : FB := fun d => some [d]
def loopC (is : List Nat) (bd : FB) (t : FT) (f : F) : List D → Lo → Store → Option (List D × Store)
  | [], _, st => some ([], st)
  | d :: ds, env, st => (bd d).bind fun vs => (t (setL is vs env) st).bind fun p => if p.1 = true then (f (setL is vs env) p.2).bind fun q => (loopC is bd t f ds env q.2).map fun z => (q.1 :: z.1, z.2) else loopC is bd t f ds env p.2
def fComp (fi : FI) (is : List Nat) (bd : FB) (t : FT) (f : F) : F := fun env st => (fi env st).bind fun p => (loopC is bd t f p.1 (wipeL env is) p.2).bind fun q => if q.1.length ≤ sizeLine then some (.lst q.1, q.2) else none
/-- a raw target -/
def TgOkR (K : PySem.W.Frag) (R : RD) (g : TG) (is : List Nat) (bd : FB) : Prop := ∀ r H x d σ (Q : L2.St → Hp → Prop) vals, R r H x d → bd d = some vals → (∀ vs, RepL K r H vs vals → Q (setL is vs σ) H) → g x σ H Q
abbrev TgOk (K : PySem.W.Frag) (g : TG) (is : List Nat) (bd : FB) : Prop := TgOkR K (Rep K) g is bd
theorem tg1 (i : Nat) : TgOk K (gName i) [i] b1 := fun r H x d σ Q vals hr hb q => by
  cases hb
  exact q [x] (.cons hr .nil)
def tTrue : FT := fun _ st => some (true, st)
abbrev DTs (X : Cx) (ifs : List Expr) (t : FT) : Prop := PTs X ifs (tT X.K t)
section
variable {X : Cx} {W : WXd} {tg iter : Expr}
theorem weakTs {ifs : List Expr} {t t' : TT} (h : PTs X ifs t) (i : ∀ σ H Q, t' σ H Q → t σ H Q) : PTs X ifs t' := ⟨fun pins s σ H Q I q => h.run pins s σ H Q I (i σ H Q q)⟩
theorem dts_nil : DTs X [] tTrue := weakTs pts_nil fun σ H Q hh => by
  obtain ⟨r, env, st, b, st', he, hs, hf, q⟩ := hh
  cases hf
  exact q r H (.refl r H) hs
theorem dts_one {c : Expr} {t : FT} (h : DT X c t) : DTs X [c] t := pts_one h
/-- the object p is being made since (r1, H1): nothing leans on it -/
structure Mkg (K : PySem.W.Frag) (r1 : Rf) (H1 : Hp) (p : Addr) (r : Rf) (H : Hp) (st : Store) : Prop where
  ex : Ext r1 H1 r H
  av : r.av p
  na : p ∉ r.adr
  nl : ¬ r.lk p
  sim : Sim K r H st
theorem EnvR.exx {r r' : Rf} {H H' : Hp} {env : Lo} {σ : L2.St} (h : EnvR K r H env σ) (e : Ex r H r' H') : EnvR K r' H' env σ := ⟨h.len, fun j dd z => let ⟨v, a, b⟩ := h.at_ j dd z; ⟨v, a, b.ex e⟩⟩
theorem Mkg.start {r1 : Rf} {H1 : Hp} {s1 : Store} {p : Addr} {o : HO} (q1 : Sim K r1 H1 s1) (hD : H1 p = none) : Mkg K r1 H1 p (r1.hide p) (upd H1 p o) s1 :=
  let ⟨e0, hd0⟩ := hideNew (o := o) q1 hD; ⟨e0, hd0.av, hd0.na, hd0.nl, hd0.sim⟩
theorem Mkg.step {r1 r r' : Rf} {H1 H H' : Hp} {st st' : Store} {p : Addr} (m : Mkg K r1 H1 p r H st) (e : Ext r H r' H') (s : Sim K r' H' st') : Mkg K r1 H1 p r' H' st' ∧ H' p = H p :=
  let ⟨a, b, c⟩ := e.hid p m.av m.na; ⟨⟨m.ex.trans e, b, c, fun z => m.nl ((e.hd.lke p).mp z), s⟩, a⟩
theorem Mkg.put {r1 r : Rf} {H1 H : Hp} {st s1 : Store} {p : Addr} (m : Mkg K r1 H1 p r H st) (q1 : Sim K r1 H1 s1) (hD : H1 p = none) (o : HO) : Mkg K r1 H1 p r (upd H p o) st ∧ Ex r H r (upd H p o) := by
  have e : Ex r H r (upd H p o) := ⟨⟨[], by simp⟩, fun a x h n => by rw [upd_ne (fun z => n (by rw [z]; exact m.av))]; exact h, fun a h n => absurd h n⟩
  have av0 : ∀ a, r1.av a → a ≠ p := fun a h z => by
    obtain ⟨x, y⟩ := q1.there a h
    rw [z, hD] at y; cases y
  have lk0 : ∀ a, r1.lk a → a ≠ p := fun a h z => by
    obtain ⟨x, u, y⟩ := q1.lkd a h
    rw [z, hD] at y; cases y
  refine ⟨⟨⟨m.ex.toEx.trans e, fun a h n => ?_, m.ex.hd.lke, fun a h => ?_⟩, m.av, m.na, m.nl, m.sim.len, m.sim.nd, fun n a x h1 h2 => (m.sim.ob n a x h1 h2).ex e fun v => ⟨?_, v⟩, fun a v => ?_, fun a v => ?_, fun a v => ?_⟩, e⟩
  · obtain ⟨z1, z2, z3⟩ := m.ex.hid a h n
    exact ⟨by rw [upd_ne (av0 a h)]; exact z1, z2, z3⟩
  · rw [upd_ne (lk0 a h)]; exact m.ex.hd.lks a h
  · rw [upd_ne (fun z => m.na (by rw [← z]; exact List.mem_of_getElem? h1))]
  · by_cases z : a = p
    · exact ⟨_, by rw [z]; exact upd_same⟩
    · rw [upd_ne z]; exact m.sim.there a v
  · by_cases z : a = p
    · exact ⟨_, by rw [z]; exact upd_same⟩
    · rw [upd_ne z]; exact m.sim.old a v
  · rw [upd_ne (fun z => m.nl (by rw [← z]; exact v))]; exact m.sim.lkd a v
theorem Mkg.show {r1 r : Rf} {H1 H : Hp} {st s1 : Store} {p : Addr} (m : Mkg K r1 H1 p r H st) (q1 : Sim K r1 H1 s1) (hD : H1 p = none) : Ext r1 H1 (r.shown p) H ∧ Sim K (r.shown p) H st ∧ Ex r H (r.shown p) H := by
  have es : Ex r H (r.shown p) H := ⟨⟨[], by simp [Rf.shown]⟩, fun p o h _ => h, fun p h n => absurd h.1 n⟩
  refine ⟨⟨⟨m.ex.pre, fun a o h n => m.ex.keep a o h n, fun a h n => m.ex.new a h.1 n⟩, fun a h n => ?_, m.ex.hd.lke, m.ex.hd.lks⟩, ⟨m.sim.len, m.sim.nd, fun n a o h1 h2 => (m.sim.ob n a o h1 h2).ex es fun v => ⟨rfl, v, fun z => m.na (by rw [← z]; exact List.mem_of_getElem? h1)⟩, fun a v => m.sim.there a v.1, m.sim.old, m.sim.lkd⟩, es⟩
  obtain ⟨z1, z2, z3⟩ := m.ex.hid a h n
  exact ⟨z1, ⟨z2, fun z => by
    obtain ⟨x, y⟩ := q1.there a h
    rw [z, hD] at y; cases y⟩, z3⟩
theorem compReads {RR : RD} {fi : FI} {is : List Nat} {bd : FB} {g : TG} {t : FT} {f : F} (hg : TgOkR K RR g is bd) (σ : L2.St) (H : Hp) (Q : VK) (hh : tD K (fComp fi is bd t f) σ H Q) : tLc (tIR K RR fi) g (tT K t) (tD K f) is σ H Q := by
  obtain ⟨r, env, st, d, st', he, hs, hf, q⟩ := hh
  obtain ⟨⟨ds, s1⟩, h1, h2⟩ := Option.bind_eq_some_iff.mp hf
  obtain ⟨⟨zs, s2⟩, h3, h4⟩ := Option.bind_eq_some_iff.mp h2
  by_cases hz : zs.length ≤ sizeLine
  case neg => rw [if_neg hz] at h4; cases h4
  rw [if_pos hz] at h4
  cases h4
  refine ⟨r, env, st, ds, s1, he, hs, h1, fun J r1 H1 e1 q1 j1 Dl hD => ?_⟩
  have m0 := Mkg.start (o := .lst []) q1 hD
  refine ⟨fun k m H2 => m = ds.length - k ∧ k ≤ ds.length ∧ ∃ r2 st2 acc us ys, Mkg K r1 H1 Dl r2 H2 st2 ∧ EnvR K r2 H2 (DL.wipeL env is) (wipe σ is) ∧ H2 Dl = some (.lst us) ∧ RepL K r2 H2 us acc ∧
    loopC is bd t f (ds.drop k) (DL.wipeL env is) st2 = some (ys, s2) ∧ acc ++ ys = zs, ⟨_, rfl, Nat.zero_le _, r1.hide Dl, s1, [], [], zs, m0, ((he.ext e1).ext m0.ex).wipeL is, upd_same, .nil, h3, rfl⟩, ?_⟩
  rintro k m H2 ⟨rfl, hk, r2, st2, acc, us, ys, mk, wp, hus, racc, hl, hcat⟩
  obtain ⟨jst, jgo⟩ := j1 r2 H2 st2 mk.ex mk.sim
  by_cases hlt : k < ds.length
  case neg =>
    have e : k = ds.length := by omega
    subst e
    rw [List.drop_length] at hl
    cases hl
    rw [List.append_nil] at hcat
    subst hcat
    obtain ⟨w1, w2, w3⟩ := mk.show q1 hD
    exact .inl ⟨jst _ (Nat.le_refl _), q (.ref Dl) (r2.shown Dl) H2 (e1.trans w1) w2 (.lst hus (fun z => z.2 rfl) (racc.ex w3))⟩
  case pos =>
    have hd : ds[k]? = some ds[k] := List.getElem?_eq_getElem hlt
    rw [List.drop_eq_getElem_cons hlt] at hl
    obtain ⟨vals, hv, hl1⟩ := Option.bind_eq_some_iff.mp hl
    obtain ⟨⟨b, st3⟩, hb, hl2⟩ := Option.bind_eq_some_iff.mp hl1
    obtain ⟨j2, j3⟩ := jgo k _ hd
    refine .inr ⟨j2, fun H' => k + 1 ≤ ds.length ∧ ∃ r2 st2 acc us ys, Mkg K r1 H1 Dl r2 H' st2 ∧ EnvR K r2 H' (DL.wipeL env is) (wipe σ is) ∧ H' Dl = some (.lst us) ∧ RepL K r2 H' us acc ∧
      loopC is bd t f (ds.drop (k + 1)) (DL.wipeL env is) st2 = some (ys, s2) ∧ acc ++ ys = zs, fun H' ⟨hk', w⟩ => ⟨ds.length - (k + 1), by omega, rfl, hk', w⟩, fun x H3 y => ?_⟩
    obtain ⟨r3, e3, s3, rx⟩ := j3 x H3 y
    have wp3 := wp.ext e3
    refine hg r3 H3 x _ _ _ vals rx hv fun vs rvs => ⟨wipe_setL σ is vs, ?_⟩
    · have he3 : EnvR K r3 H3 (DL.setL is vals (DL.wipeL env is)) (DL.setL is vs (wipe σ is)) := wp3.setL rvs
      refine ⟨r3, _, st2, b, st3, he3, s3, hb, fun r4 H4 e4 s4 => ?_⟩
      cases b with
      | false =>
        rw [if_neg Bool.false_ne_true] at hl2 ⊢
        obtain ⟨m4, k4⟩ := mk.step (e3.trans e4) s4
        exact ⟨hlt, r4, st3, acc, us, ys, m4, wp3.ext e4, k4.trans hus, racc.ext (e3.trans e4), hl2, hcat⟩
      | true =>
        rw [if_pos rfl] at hl2 ⊢
        obtain ⟨⟨yd, st4⟩, hy, hl3⟩ := Option.bind_eq_some_iff.mp hl2
        obtain ⟨⟨ys', st5⟩, hl4, hl5⟩ := Option.map_eq_some_iff.mp hl3
        cases hl5
        refine ⟨r4, _, st3, yd, st4, he3.ext e4, s4, hy, fun yv r5 H5 e5 s5 ry => ?_⟩
        have e25 : Ext r2 H2 r5 H5 := (e3.trans e4).trans e5
        obtain ⟨m5, k5⟩ := mk.step e25 s5
        obtain ⟨m6, g1⟩ := m5.put q1 hD (.lst (us ++ [yv]))
        refine ⟨us, k5.trans hus, ?_, hlt, r5, st4, acc ++ [yd], us ++ [yv], ys', m6, ((wp3.ext e4).ext e5).exx g1, upd_same, ((racc.ext e25).ex g1).append (.cons (ry.ex g1) .nil), hl4, by rw [← hcat, List.append_assoc]; rfl⟩
        rw [racc.len]
        have : (acc ++ yd :: ys').length ≤ sizeLine := by rw [hcat]; exact hz
        rw [List.length_append, List.length_cons] at this
        omega
/-- [elt for x in xs if ..] -/
theorem de_lc {RR : RD} {elt : Expr} {ifs : List Expr} {scope : Scope} {own : List (Str × Nat)} {pos : Pos} {fi : FI} {bd : FB} {g : TG} {t : FT} {f : F} (hc : X.calm = true) (hN : X.N.Nodup) (hi : DIR X RR tg iter fi) (ok : BlkOk X.N X.env.scope scope own)
    (tk : TgOkR X.K RR g (own.map (·.2)) bd)
    (hg : ∀ (s : Shared) (H : Hp) (C : Addr) (cl : List (Str × Addr)) (fp : List Addr), PG (X.blk s H scope (compEnvC scope cl C X.env) fp) tg g) (ht : ∀ (s : Shared) (H : Hp) (C : Addr) (cl : List (Str × Addr)) (fp : List Addr), DTs (X.blk s H scope (compEnvC scope cl C X.env) fp) ifs t)
    (he : ∀ (s : Shared) (H : Hp) (C : Addr) (cl : List (Str × Addr)) (fp : List Addr), DE (X.blk s H scope (compEnvC scope cl C X.env) fp) elt f) (hs : ∀ x, foldedSetIterable iter X.env x = pure x := by intro _; rfl) :
    DE X (.ListComp elt [⟨tg, iter, ifs, 0⟩] scope pos) (fComp fi (own.map (·.2)) bd t f) := weakE (pe_lc hc hN hi ok hg ht he hs) fun σ H Q hh => compReads tk σ H Q hh
/-- y = [elt for x in xs if ..] on one line -/
theorem ds_setLc {RR : RD} {i : Nat} {y : Str} {py : Pos} {elt : Expr} {ifs : List Expr} {scope : Scope} {own : List (Str × Nat)} {pos spos : Pos} {fi : FI} {bd : FB} {g : TG} {t : FT} {f : F} (hc : X.calm = true) (hN : X.N.Nodup) (hy : X.N[i]? = some y) (hyl : X.env.scope.names.lookup y = some .local)
    (hsw : swapsWith (.ListComp elt [⟨tg, iter, ifs, 0⟩] scope pos) (some (.Name y py)) spos.line X.env = pure true) (hi : DIR X RR tg iter fi) (ok : BlkOk X.N X.env.scope scope own)
    (tk : TgOkR X.K RR g (own.map (·.2)) bd)
    (hg : ∀ (s : Shared) (H : Hp) (C : Addr) (cl : List (Str × Addr)) (fp : List Addr), PG (X.blk s H scope (compEnvC scope cl C X.env) fp) tg g) (ht : ∀ (s : Shared) (H : Hp) (C : Addr) (cl : List (Str × Addr)) (fp : List Addr), DTs (X.blk s H scope (compEnvC scope cl C X.env) fp) ifs t)
    (he : ∀ (s : Shared) (H : Hp) (C : Addr) (cl : List (Str × Addr)) (fp : List Addr), DE (X.blk s H scope (compEnvC scope cl C X.env) fp) elt f) (hs : ∀ x, foldedSetIterable iter X.env x = pure x := by intro _; rfl) :
    DS X W (.Assign [.Name y py] (.ListComp elt [⟨tg, iter, ifs, 0⟩] scope pos) spos) (sAsg (fComp fi (own.map (·.2)) bd t f) (gN i)) := weakS (ps_setLc hc hN hy hyl hsw hi ok hg ht he hs) fun D' σ H hh => by
  obtain ⟨r, env, st, o, env', st', he, hs, hf, q⟩ := hh
  obtain ⟨⟨d, s1⟩, h1, h2⟩ := Option.bind_eq_some_iff.mp hf
  obtain ⟨e1, h3, h4⟩ := Option.map_eq_some_iff.mp h2
  cases h4
  cases h3
  exact compReads tk σ H _ ⟨r, env, st, d, _, he, hs, h1, fun v r1 H1 x1 q1 p1 => q _ r1 H1 x1 ((he.ext x1).set p1 i) q1⟩
end
end DL
namespace DL
open PySem PySem.Spec PyProof.Rows L2
open Builtin.Int (intBits)
variable {K : PySem.W.Frag}
section
variable {X : Cx} {W : WXd}
/-- the first of two functions that answers -/
def orD (g g' : D → D → Option D) : D → D → Option D := fun a b => (g a b).or (g' a b)
theorem OpOk.or {f : Value → Value → Sem Value} {g g' : D → D → Option D} (h : OpOk X f g) (h' : OpOk X f g') : OpOk X f (orD g g') := by
  obtain ⟨r, hr, k⟩ := h
  obtain ⟨r', hr', k'⟩ := h'
  refine ⟨_, hr.or hr', fun rho H x y a b d st Q si ra rb e q => ?_⟩
  unfold orD at e
  cases z : g a b with
  | some c =>
    rw [z] at e
    cases e
    exact .inl (k rho H x y a b _ st Q si ra rb z q)
  | none =>
    rw [z] at e
    exact .inr (k' rho H x y a b d st Q si ra rb e q)
/-- two ints, under a condition -/
def onI (c : Int → Int → Prop) [∀ i j, Decidable (c i j)] (g : Int → Int → D) : D → D → Option D := fun a b => match a, b with
  | .int i, .int j => if c i j then some (g i j) else none
  | _, _ => none
theorem onI_some {c : Int → Int → Prop} [∀ i j, Decidable (c i j)] {g : Int → Int → D} {a b d : D} (h : onI c g a b = some d) : ∃ i j, a = .int i ∧ b = .int j ∧ c i j ∧ d = g i j := by
  cases a <;> cases b <;> first
    | cases h; done
    | skip
  rename_i i j
  have h' : (if c i j then some (g i j) else none) = some d := h
  by_cases z : c i j
  · rw [if_pos z] at h'
    cases h'
    exact ⟨i, j, rfl, rfl, z, rfl⟩
  · rw [if_neg z] at h'
    cases h'
theorem ok_int {f : Value → Value → Sem Value} {c C : Int → Int → Prop} [∀ i j, Decidable (c i j)] {g : Int → Int → Int} (h : OpR X f (rI C fun i j => .int (g i j))) (hc : ∀ i j, c i j → C i j) : OpOk X f (onI c fun i j => .int (g i j)) :=
  ⟨_, h, fun rho H x y a b d st Q si ra rb e q => by
    obtain ⟨i, j, rfl, rfl, z, rfl⟩ := onI_some e
    cases ra
    cases rb
    exact ⟨i, j, rfl, rfl, hc i j z, q _ H (fun _ _ h => h) (.int _)⟩⟩
theorem ok_int0 {f : Value → Value → Sem Value} {g : Int → Int → Int} (h : OpR X f (rI0 fun i j => .int (g i j))) : OpOk X f (onI (fun _ _ => True) fun i j => .int (g i j)) :=
  ⟨_, h, fun rho H x y a b d st Q si ra rb e q => by
    obtain ⟨i, j, rfl, rfl, z, rfl⟩ := onI_some e
    cases ra
    cases rb
    exact ⟨i, j, rfl, rfl, q _ H (fun _ _ h => h) (.int _)⟩⟩
theorem ok_intB {f : Value → Value → Sem Value} {g : Int → Int → Bool} (h : OpR X f (rI0 fun i j => .bl (g i j))) : OpOk X f (onI (fun _ _ => True) fun i j => .bl (g i j)) :=
  ⟨_, h, fun rho H x y a b d st Q si ra rb e q => by
    obtain ⟨i, j, rfl, rfl, z, rfl⟩ := onI_some e
    cases ra
    cases rb
    exact ⟨i, j, rfl, rfl, q _ H (fun _ _ h => h) (.bl _)⟩⟩
/-- two texts -/
def onS (c : Str → Str → Prop) [∀ i j, Decidable (c i j)] (g : Str → Str → D) : D → D → Option D := fun a b => match a, b with
  | .str i, .str j => if c i j then some (g i j) else none
  | _, _ => none
theorem onS_some {c : Str → Str → Prop} [∀ i j, Decidable (c i j)] {g : Str → Str → D} {a b d : D} (h : onS c g a b = some d) : ∃ i j, a = .str i ∧ b = .str j ∧ c i j ∧ d = g i j := by
  cases a <;> cases b <;> first
    | cases h; done
    | skip
  rename_i i j
  have h' : (if c i j then some (g i j) else none) = some d := h
  by_cases z : c i j
  · rw [if_pos z] at h'
    cases h'
    exact ⟨i, j, rfl, rfl, z, rfl⟩
  · rw [if_neg z] at h'
    cases h'
/-! ### + - * // % ** -/
def addI : D → D → Option D := onI (fun _ _ => True) fun i j => .int (i + j)
theorem ok_addI : OpOk X (binaryOp .Add) addI := ok_int0 op_add
def subI : D → D → Option D := onI (fun _ _ => True) fun i j => .int (i - j)
theorem ok_subI : OpOk X (binaryOp .Sub) subI := ok_int0 op_sub
def mulI : D → D → Option D := onI (fun i j => intBits i + intBits j ≤ 134217728) fun i j => .int (i * j)
theorem op_mulL : OpR X (binaryOp .Mult) (rI IntMulOk fun i j => .int (i * j)) := opI fun _ _ _ _ _ _ _ hc q => mul_int q hc
theorem ok_mulI : OpOk X (binaryOp .Mult) mulI := ok_int op_mulL fun i j h => IntMulOk.of_le (Nat.le_refl _) (Nat.le_refl _) h
def fdivI : D → D → Option D := onI (fun _ j => 0 < j ∧ j < 1073741824) fun i j => .int (i / j)
theorem ok_fdivI : OpOk X (binaryOp .FloorDiv) fdivI := ok_int op_fdiv fun i j h => h
def modI : D → D → Option D := onI (fun _ j => 0 < j) fun i j => .int (i % j)
theorem ok_modI : OpOk X (binaryOp .Mod) modI := ok_int op_mod fun i j h => h
def powI : D → D → Option D := onI (fun i j => 0 ≤ j ∧ (intBits i : Int) * j ≤ 2 ^ 27) fun i j => .int (i ^ j.toNat)
theorem op_powL : OpR X (binaryOp .Pow) (rI (fun i j => 0 ≤ j ∧ (intBits i : Int) * j ≤ 2 ^ 27) fun i j => .int (i ^ j.toNat)) := opI fun _ _ _ _ _ _ _ hc q => pow_int hc.1 hc.2 q
theorem ok_powI : OpOk X (binaryOp .Pow) powI := ok_int op_powL fun i j h => h
def addS : D → D → Option D := onS (fun i j => i.length + j.length ≤ sizeLine) fun i j => .str (i ++ j)
theorem ok_addS : OpOk X (binaryOp .Add) addS := ⟨_, op_add_str, fun rho H x y a b d st Q si ra rb e q => by
  obtain ⟨i, j, rfl, rfl, z, rfl⟩ := onS_some e
  cases ra
  cases rb
  exact ⟨i, j, rfl, rfl, z, q _ H (fun _ _ h => h) (.str _)⟩⟩
def addL : D → D → Option D := fun a b => match a, b with
  | .lst xs, .lst ys => if xs.length + ys.length ≤ sizeLine then some (.lst (xs ++ ys)) else none
  | _, _ => none
theorem ok_addL : OpOk X (binaryOp .Add) addL := ⟨_, op_cat, fun rho H x y a b d st Q si ra rb e q => by
  cases a <;> cases b <;> first
    | cases e; done
    | skip
  rename_i xs ys
  have e' : (if xs.length + ys.length ≤ sizeLine then some (D.lst (xs ++ ys)) else none) = some d := e
  by_cases z : xs.length + ys.length ≤ sizeLine
  · rw [if_pos z] at e'
    cases e'
    cases ra with
    | lst a1 a2 a3 =>
      cases rb with
      | lst b1 b2 b3 =>
        refine ⟨_, _, _, _, rfl, rfl, a1, b1, by rw [a3.len, b3.len]; exact z, fun p hp => ?_⟩
        exact q _ _ (same_alloc hp) (.lst upd_same (si.free hp) ((a3.append b3).ex (Ex.same rho (same_alloc hp))))
  · rw [if_neg z] at e'
    cases e'⟩
/-- t + u -/
def addT : D → D → Option D := fun a b => match a, b with
  | .tup xs, .tup ys => if xs.length + ys.length ≤ sizeLine then some (.tup (xs ++ ys)) else none
  | _, _ => none
theorem ok_addT : OpOk X (binaryOp .Add) addT := ⟨_, op_catF, fun rho H x y a b d st Q si ra rb e q => by
  cases a <;> cases b <;> first
    | cases e; done
    | skip
  rename_i xs ys
  have e' : (if xs.length + ys.length ≤ sizeLine then some (D.tup (xs ++ ys)) else none) = some d := e
  by_cases z : xs.length + ys.length ≤ sizeLine
  · rw [if_pos z] at e'
    cases e'
    obtain ⟨pa, us, rfl, sa, la⟩ := ra.sqT
    obtain ⟨pb, vs, rfl, sb, lb⟩ := rb.sqT
    refine ⟨pa, pb, us, vs, rfl, rfl, sa, sb, by rw [la.len, lb.len]; exact z, fun h => ?_, fun _ h2 => ?_, fun p o hp hz => ?_⟩
    · subst h
      cases la
      exact q _ H (fun _ _ h => h) rb
    · subst h2
      cases lb
      rw [List.append_nil] at q
      exact q _ H (fun _ _ h => h) ra
    · exact q _ _ (same_alloc hp) (.tup upd_same hz (si.free hp) ((la.append lb).ex (Ex.same rho (same_alloc hp))))
  · rw [if_neg z] at e'
    cases e'⟩
/-- x * n of a text -/
def mulS : D → D → Option D := fun a b => match a, b with
  | .str x, .int n => if 0 ≤ n ∧ n ≤ 1000 ∧ x.length ≤ 1000 then some (.str (Txt.mul x n)) else none
  | _, _ => none
theorem mulOk_small {x : Str} {n : Int} (h0 : 0 ≤ n) (h1 : n ≤ 1000) (h2 : x.length ≤ 1000) : MulOk x n := by
  refine ⟨?_, fun h _ => ?_, fun _ _ => ?_⟩
  · have a : ¬ n < -(2 ^ 63 : Int) := by omega
    have b : ¬ n ≥ 2 ^ 63 := by omega
    rw [decide_eq_false a, decide_eq_false b]; rfl
  · have hn : 0 < n := by omega
    intro z
    have : (2 ^ 63 - 1 : Int) / 1000 ≤ (2 ^ 63 - 1) / n := by
      refine Int.le_ediv_of_mul_le hn ?_
      omega
    omega
  · unfold Builtin.Str.tooLong
    have : x.length * n.toNat ≤ 1000 * 1000 := Nat.mul_le_mul h2 (by omega)
    have hs := sizeLine_eq
    rw [hs]
    exact decide_eq_false (by omega)
theorem op_mulS : OpR X (binaryOp .Mult) (fun x y H Q => ∃ i n, x = .str i ∧ y = .int n ∧ MulOk i n ∧ Q (.str (Txt.mul i n)) H) := by
  intro pins s σ H x y v u Q I rx ry h
  obtain ⟨i, n, rfl, rfl, hz, q⟩ := h
  obtain ⟨t, rfl⟩ := rx
  obtain ⟨t', rfl⟩ := ry
  exact SB.mul hz fun t' k => ⟨.str _, H, I.tok _, ⟨_, rfl⟩, q⟩
theorem ok_mulS : OpOk X (binaryOp .Mult) mulS := ⟨_, op_mulS, fun rho H x y a b d st Q si ra rb e q => by
  cases a <;> cases b <;> first
    | cases e; done
    | skip
  rename_i xs n
  have e' : (if 0 ≤ n ∧ n ≤ 1000 ∧ xs.length ≤ 1000 then some (D.str (Txt.mul xs n)) else none) = some d := e
  by_cases z : 0 ≤ n ∧ n ≤ 1000 ∧ xs.length ≤ 1000
  · rw [if_pos z] at e'
    cases e'
    cases ra
    cases rb
    exact ⟨xs, n, rfl, rfl, mulOk_small z.1 z.2.1 z.2.2, q _ H (fun _ _ h => h) (.str _)⟩
  · rw [if_neg z] at e'
    cases e'⟩
def opAdd : D → D → Option D := orD addI (orD addS (orD addL addT))
theorem ok_add : OpOk X (binaryOp .Add) opAdd := ok_addI.or (ok_addS.or (ok_addL.or ok_addT))
def opMul : D → D → Option D := orD mulI mulS
theorem ok_mul : OpOk X (binaryOp .Mult) opMul := ok_mulI.or ok_mulS
/-! ### comparisons -/
mutual
def toPy : D → Option PyData
  | .non => some .none
  | .bl b => some (.bool b)
  | .int i => some (.int i)
  | .str x => some (.str x)
  | .tup ds => (toPyL ds).map .tuple
  | .lst ds => (toPyL ds).map .list
  | .dct _ => none
  | .scr _ => none
  | .ref _ => none
def toPyL : List D → Option (List PyData)
  | [] => some []
  | d :: ds => (toPy d).bind fun p => (toPyL ds).map fun q => p :: q
end
mutual
theorem Rep.dp {r : Rf} {H : Hp} : ∀ {d : D} {v : V} {p : PyData}, Rep K r H v d → toPy d = some p → Dp K H v p
  | .non, _, _, .non, h => by cases h; exact .non
  | .bl _, _, _, .bl _, h => by cases h; exact .bl _
  | .int _, _, _, .int _, h => by cases h; exact .int _
  | .str _, _, _, .str _, h => by cases h; exact .str _
  | .tup ds, _, p, h, e => by
    obtain ⟨q, h1, h2⟩ := Option.map_eq_some_iff.mp (show (toPyL ds).map PyData.tuple = some p from e)
    subst h2
    obtain ⟨a, xs, rfl, s, l⟩ := h.sqT
    exact .tup s (RepL.dp l h1)
  | .lst ds, _, p, .lst a b c, e => by
    obtain ⟨q, h1, h2⟩ := Option.map_eq_some_iff.mp (show (toPyL ds).map PyData.list = some p from e)
    subst h2
    exact .lst (.of a) (RepL.dp c h1)
  | .dct _, _, _, _, e => by cases e
  | .scr _, _, _, _, e => by cases e
  | .ref _, _, _, _, e => by cases e
theorem RepL.dp {r : Rf} {H : Hp} : ∀ {ds : List D} {vs : List V} {ps : List PyData}, RepL K r H vs ds → toPyL ds = some ps → DpAll K H vs ps
  | [], _, _, .nil, h => by cases h; exact .nil
  | d :: ds, _, ps, .cons a b, h => by
    obtain ⟨p, h1, h2⟩ := Option.bind_eq_some_iff.mp (show ((toPy d).bind fun p => (toPyL ds).map fun q => p :: q) = some ps from h)
    obtain ⟨q, h3, h4⟩ := Option.map_eq_some_iff.mp h2
    subst h4
    exact .cons (Rep.dp a h1) (RepL.dp b h3)
end
def opEq : D → D → Option D := fun a b => (toPy a).bind fun p => (toPy b).bind fun q => if SeqAt.shaped p = true ∧ SeqAt.shaped q = true then some (.bl (PyData.eqv p q)) else none
def opNe : D → D → Option D := fun a b => (toPy a).bind fun p => (toPy b).bind fun q => if SeqAt.shaped p = true ∧ SeqAt.shaped q = true then some (.bl (!PyData.eqv p q)) else none
theorem ok_eq {k : Nat} (g : GX X k) : OpOk X (compareOp .Eq) opEq := ⟨_, op_eqD g.room.units, fun rho H x y a b d st Q si ra rb e q => by
  obtain ⟨p, h1, h2⟩ := Option.bind_eq_some_iff.mp e
  obtain ⟨p2, h3, h4⟩ := Option.bind_eq_some_iff.mp h2
  by_cases z : SeqAt.shaped p = true ∧ SeqAt.shaped p2 = true
  · rw [if_pos z] at h4
    cases h4
    exact ⟨p, p2, ra.dp h1, rb.dp h3, z.1, z.2, q _ H (fun _ _ h => h) (.bl _)⟩
  · rw [if_neg z] at h4
    cases h4⟩
theorem ok_ne {k : Nat} (g : GX X k) : OpOk X (compareOp .NotEq) opNe := ⟨_, op_neD g.room.units, fun rho H x y a b d st Q si ra rb e q => by
  obtain ⟨p, h1, h2⟩ := Option.bind_eq_some_iff.mp e
  obtain ⟨p2, h3, h4⟩ := Option.bind_eq_some_iff.mp h2
  by_cases z : SeqAt.shaped p = true ∧ SeqAt.shaped p2 = true
  · rw [if_pos z] at h4
    cases h4
    exact ⟨p, p2, ra.dp h1, rb.dp h3, z.1, z.2, q _ H (fun _ _ h => h) (.bl _)⟩
  · rw [if_neg z] at h4
    cases h4⟩
def ltI : D → D → Option D := onI (fun _ _ => True) fun i j => .bl (decide (i < j))
def leI : D → D → Option D := onI (fun _ _ => True) fun i j => .bl (decide (i ≤ j))
def gtI : D → D → Option D := onI (fun _ _ => True) fun i j => .bl (decide (j < i))
def geI : D → D → Option D := onI (fun _ _ => True) fun i j => .bl (decide (j ≤ i))
theorem op_gt_str : OpR X (compareOp .Gt) (fun x y H Q => ∃ i j, x = .str i ∧ y = .str j ∧ Q (.bl (decide (j.cps.toList < i.cps.toList))) H) := by
  intro pins s σ H x y v u Q I rx ry h
  obtain ⟨i, j, rfl, rfl, q⟩ := h
  obtain ⟨t, rfl⟩ := rx
  obtain ⟨t', rfl⟩ := ry
  exact PySem.P.gt_str (fin_bl I q rfl)
theorem op_ge_str : OpR X (compareOp .GtE) (fun x y H Q => ∃ i j, x = .str i ∧ y = .str j ∧ Q (.bl (!decide (i.cps.toList < j.cps.toList))) H) := by
  intro pins s σ H x y v u Q I rx ry h
  obtain ⟨i, j, rfl, rfl, q⟩ := h
  obtain ⟨t, rfl⟩ := rx
  obtain ⟨t', rfl⟩ := ry
  exact PySem.P.ge_str (fin_bl I q rfl)
def ltS : D → D → Option D := onS (fun _ _ => True) fun i j => .bl (decide (i.cps.toList < j.cps.toList))
def leS : D → D → Option D := onS (fun _ _ => True) fun i j => .bl (!decide (j.cps.toList < i.cps.toList))
def gtS : D → D → Option D := onS (fun _ _ => True) fun i j => .bl (decide (j.cps.toList < i.cps.toList))
def geS : D → D → Option D := onS (fun _ _ => True) fun i j => .bl (!decide (i.cps.toList < j.cps.toList))
theorem ok_strB {f : Value → Value → Sem Value} {g : Str → Str → Bool} (h : OpR X f (fun x y H Q => ∃ i j, x = .str i ∧ y = .str j ∧ Q (.bl (g i j)) H)) : OpOk X f (onS (fun _ _ => True) fun i j => .bl (g i j)) :=
  ⟨_, h, fun rho H x y a b d st Q si ra rb e q => by
    obtain ⟨i, j, rfl, rfl, z, rfl⟩ := onS_some e
    cases ra
    cases rb
    exact ⟨i, j, rfl, rfl, q _ H (fun _ _ h => h) (.bl _)⟩⟩
def opLt : D → D → Option D := orD ltI ltS
def opLe : D → D → Option D := orD leI leS
def opGt : D → D → Option D := orD gtI gtS
def opGe : D → D → Option D := orD geI geS
theorem ok_lt : OpOk X (compareOp .Lt) opLt := (ok_intB op_lt).or (ok_strB op_lt_str)
theorem ok_le : OpOk X (compareOp .LtE) opLe := (ok_intB op_le).or (ok_strB op_le_str)
theorem ok_gt : OpOk X (compareOp .Gt) opGt := (ok_intB op_gt).or (ok_strB op_gt_str)
theorem ok_ge : OpOk X (compareOp .GtE) opGe := (ok_intB op_ge).or (ok_strB op_ge_str)
/-- is None -/
def isNon : D → Bool | .non => true | _ => false
def isN : D → D → Option D := fun a b => match b with | .non => some (.bl (isNon a)) | _ => none
theorem rep_non {r : Rf} {H : Hp} {v : V} {a : D} (h : Rep K r H v a) : decide (v = .non) = isNon a := by cases h <;> rfl
theorem ok_isN : OpOk X (compareOp .Is) isN := ⟨_, op_isN, fun rho H x y a b d st Q si ra rb e q => by
  cases b with
  | non =>
    cases e
    cases rb
    exact ⟨rfl, by rw [rep_non ra]; exact q _ H (fun _ _ h => h) (.bl _)⟩
  | _ => cases e⟩
def isB : D → D → Option D := fun a b => match a, b with | .bl x, .bl y => some (.bl (decide (x = y))) | _, _ => none
theorem ok_isB : OpOk X (compareOp .Is) isB := ⟨_, op_isBl, fun rho H x y a b d st Q si ra rb e q => by
  cases a <;> cases b <;> first
    | cases e; done
    | skip
  cases ra
  cases rb
  cases e
  exact ⟨_, _, rfl, rfl, q _ H (fun _ _ h => h) (.bl _)⟩⟩
def opIs : D → D → Option D := orD isN isB
theorem ok_is : OpOk X (compareOp .Is) opIs := ok_isN.or ok_isB
end
end DL
namespace DL
open PySem PySem.Spec PyProof.Rows L2
variable {K : PySem.W.Frag}
theorem orE {X : Cx} {e : Expr} {t t' : TE} (h : PE X e t) (h' : PE X e t') : PE X e (fun σ H Q => t σ H Q ∨ t' σ H Q) := ⟨fun pins s σ H Q I q => q.elim (h.run pins s σ H Q I) (h'.run pins s σ H Q I)⟩
/-! ### a[b] -/
def asKey : D → Option Key | .int i => some (.inl i) | .str x => some (.inr x) | _ => none
def valD (kvs : List (Key × D)) (k : Key) : Option D := (kvs.find? fun kv => decide (kv.1 = k)).map (·.2)
def ixD : D → D → Store → Option D := fun a b st => match a, b with
  | .lst ds, .int i => atI ds i
  | .tup ds, .int i => atI ds i
  | .str x, .int i => if x.length ≤ sizeLine then (atI x.cps.toList i).map fun c => .str ⟨#[c]⟩ else none
  | .scr ns, .int i => (atI ns i).map .int
  | .dct kvs, k => (asKey k).bind fun k => valD kvs k
  | .ref n, k => match st[n]? with
    | some (.lst ds) => (match k with | .int i => atI ds i | _ => none)
    | some (.dct kvs) => (asKey k).bind fun k => valD kvs k
    | some (.ldc kvs) => (asKey k).bind fun k => valD kvs k
    | _ => none
  | _, _ => none
def fSub (fa fb : F) : F := fun env st => (fa env st).bind fun p => (fb env p.2).bind fun q => (ixD p.1 q.1 q.2).map fun d => (d, q.2)
theorem RepL.atI {r : Rf} {H : Hp} {vs : List V} {ds : List D} (l : RepL K r H vs ds) {i : Int} {d : D} (h : L2.atI ds i = some d) : ∃ v, L2.atI vs i = some v ∧ Rep K r H v d := by
  unfold L2.atI at h ⊢
  obtain ⟨j, h1, h2⟩ := Option.bind_eq_some_iff.mp h
  obtain ⟨v, h3, h4⟩ := l.get h2
  exact ⟨v, by rw [l.len, h1]; exact h3, h4⟩
theorem atI_map {α β : Type} (f : α → β) (xs : List α) (i : Int) : L2.atI (xs.map f) i = (L2.atI xs i).map f := by
  unfold L2.atI
  rw [List.length_map]
  cases ixN xs.length i with
  | none => rfl
  | some j => simp
theorem RepK.val {r : Rf} {H : Hp} {k : Key} : ∀ {vs : List (Key × V)} {ds : List (Key × D)}, RepK K r H vs ds → ∀ {d : D}, valD ds k = some d → ∃ v, valV vs k = some v ∧ Rep K r H v d
  | _, _, .nil, d, h => by cases h
  | _, _, .cons (k := k0) (vs := vs) (ds := ds) a b, d, h => by
    unfold valD at h
    unfold valV
    rw [List.find?_cons] at h ⊢
    by_cases z : k0 = k
    · simp only [z, decide_true] at h ⊢
      cases h
      exact ⟨_, rfl, a⟩
    · simp only [z, decide_false] at h ⊢
      exact RepK.val b h
theorem asKey_rep {r : Rf} {H : Hp} {v : V} {d : D} {k : Key} (h : Rep K r H v d) (e : asKey d = some k) : v = kV k := by
  cases d <;> first
    | cases e; done
    | skip
  · cases h; cases e; rfl
  · cases h; cases e; rfl
theorem Rep.scrL {r : Rf} {H : Hp} {v : V} {ns : List Int} (h : Rep K r H v (.scr ns)) : ∃ a, v = .ref a ∧ SqL K H a (ns.map V.int) := by
  cases h with
  | scr a b => exact ⟨_, rfl, .inl (.inr ⟨_, a⟩)⟩
  | scrK a b c d e f => exact ⟨_, rfl, .inr ⟨_, _, _, a, b, c, d, e, f⟩⟩
theorem Rep.refI {r : Rf} {H : Hp} {v : V} {n : Nat} (h : Rep K r H v (.ref n)) : ∃ a, v = .ref a ∧ r.adr[n]? = some a := by
  cases h with
  | ref h => exact ⟨_, rfl, h⟩
section
variable {X : Cx} {W : WXd}
def isD : D → Store → Bool := fun a st => match a with
  | .dct _ => true
  | .ref n => (match st[n]? with | some (.dct _) => true | some (.ldc _) => true | _ => false)
  | _ => false
theorem ixReadsS {rho : Rf} {H : Hp} {x y : V} {a b d : D} {st : Store} (si : Sim K rho H st) (ra : Rep K rho H x a) (rb : Rep K rho H y b) (e : ixD a b st = some d) (nd : isD a st = false) :
    ∃ v, Rep K rho H v d ∧ ∀ Q : VK, Q v H → rIx K x y H Q := by
  unfold ixD at e
  split at e
  · rename_i ds i
    cases rb
    cases ra with
    | lst h1 h2 h3 =>
      obtain ⟨v, hv, rv⟩ := h3.atI e
      exact ⟨v, rv, fun Q q => .inl ⟨_, _, i, v, rfl, rfl, .of h1, hv, q⟩⟩
  · rename_i ds i
    cases rb
    obtain ⟨p, us, rfl, s, l⟩ := ra.sqT
    obtain ⟨v, hv, rv⟩ := l.atI e
    exact ⟨v, rv, fun Q q => .inr (.inl ⟨_, _, i, v, rfl, rfl, s, hv, q⟩)⟩
  · rename_i z i
    cases rb
    cases ra
    split at e
    · rename_i hz
      obtain ⟨c, hc, e2⟩ := Option.map_eq_some_iff.mp e
      subst e2
      exact ⟨_, .str _, fun Q q => .inr (.inr ⟨z, i, c, rfl, rfl, hz, hc, q⟩)⟩
    · cases e
  · rename_i ns i
    cases rb
    obtain ⟨p, rfl, s⟩ := ra.scrL
    obtain ⟨c, hc, e2⟩ := Option.map_eq_some_iff.mp e
    subst e2
    refine ⟨_, .int c, fun Q q => .inl ⟨_, _, i, .int c, rfl, rfl, s, ?_, q⟩⟩
    rw [atI_map, hc]; rfl
  · cases nd
  · rename_i n
    obtain ⟨p, rfl, hp⟩ := ra.refI
    split at e
    · rename_i ds hst
      split at e
      · rename_i i
        cases rb
        obtain ⟨av, xs, hx, l⟩ := si.ob n p _ hp hst
        obtain ⟨v, hv, rv⟩ := l.atI e
        exact ⟨v, rv, fun Q q => .inl ⟨_, _, i, v, rfl, rfl, .of hx, hv, q⟩⟩
      · cases e
    · rename_i kvs hst
      unfold isD at nd
      simp only [hst] at nd
      cases nd
    · rename_i kvs hst
      unfold isD at nd
      simp only [hst] at nd
      cases nd
    · cases e
  · cases e
theorem dget_rd {H : Hp} {a : Addr} {kvs : List (Key × V)} {k : Key} (e : Rd H a (.dK kvs)) : DGet H a (kV k) (valV kvs k) := .inl ⟨kvs, k, e, rfl, rfl⟩
theorem ixReadsD {rho : Rf} {H : Hp} {x y : V} {a b d : D} {st : Store} (si : Sim K rho H st) (ra : Rep K rho H x a) (rb : Rep K rho H y b) (e : ixD a b st = some d) (nd : isD a st = true) :
    ∃ p v, x = .ref p ∧ DGet H p y (some v) ∧ Rep K rho H v d := by
  cases a with
  | dct kvs =>
    obtain ⟨k, hk, h2⟩ := Option.bind_eq_some_iff.mp (show ((asKey b).bind fun k => valD kvs k) = some d from e)
    have ey := asKey_rep rb hk
    subst ey
    cases ra with
    | dct h1 n1 l1 =>
      obtain ⟨v, hv, rv⟩ := l1.val h2
      exact ⟨_, v, rfl, by rw [← hv]; exact dget_rd (.inr ⟨_, h1⟩), rv⟩
  | ref n =>
    have nd' : (match st[n]? with | some (.dct _) => true | some (.ldc _) => true | _ => false) = true := nd
    · split at nd'
      · rename_i kvs hst
        have e' : ((asKey b).bind fun k => valD kvs k) = some d := by
          unfold ixD at e
          simp only [hst] at e
          exact e
        obtain ⟨k, hk, h2⟩ := Option.bind_eq_some_iff.mp e'
        have ey := asKey_rep rb hk
        subst ey
        obtain ⟨p, rfl, hp⟩ := ra.refI
        obtain ⟨av, xs, hx, l⟩ := si.ob _ p _ hp hst
        obtain ⟨v, hv, rv⟩ := l.val h2
        exact ⟨_, v, rfl, by rw [← hv]; exact .k hx, rv⟩
      · rename_i kvs hst
        have e' : ((asKey b).bind fun k => valD kvs k) = some d := by
          unfold ixD at e
          simp only [hst] at e
          exact e
        obtain ⟨k, hk, h2⟩ := Option.bind_eq_some_iff.mp e'
        have ey := asKey_rep rb hk
        subst ey
        obtain ⟨p, rfl, hp⟩ := ra.refI
        obtain ⟨av, lk, o, xs, hx, l⟩ := si.ob _ p _ hp hst
        obtain ⟨v, hv, rv⟩ := l.val h2
        exact ⟨_, v, rfl, by rw [← hv]; exact dget_rd (.inr ⟨_, hx⟩), rv⟩
      · cases nd'
  | _ => cases nd
theorem de_sub {a b : Expr} {fa fb : F} {pos : Pos} {k : Nat} (g : GX X k) (ha : DE X a fa) (hb : DE X b fb) (hs : PlainIx b := by intro _ _; rfl) : DE X (.Subscript a b pos) (fSub fa fb) :=
  weakE (orE (pe_ix ix_seq ha hb hs) (pe_dget (hu_of g.room) ha hb hs)) fun σ H Q hh => by
  obtain ⟨r, env, st, d, st', he, hs, hf, q⟩ := hh
  obtain ⟨⟨x, s1⟩, h1, hf1⟩ := Option.bind_eq_some_iff.mp hf
  obtain ⟨⟨y, s2⟩, h2, hf2⟩ := Option.bind_eq_some_iff.mp hf1
  obtain ⟨d', h3, hf3⟩ := Option.map_eq_some_iff.mp hf2
  cases hf3
  cases z : isD x s2 with
  | true =>
    refine .inr (two he hs h1 h2 fun u v r' H' e1 q1 pu pv => ?_)
    obtain ⟨p, w, ep, dg, rw'⟩ := ixReadsD q1 pu pv h3 z
    exact ⟨p, w, ep, dg, q w r' H' e1 q1 rw'⟩
  | false =>
    refine .inl (two he hs h1 h2 fun u v r' H' e1 q1 pu pv => ?_)
    obtain ⟨w, rw', k'⟩ := ixReadsS q1 pu pv h3 z
    exact k' Q (q w r' H' e1 q1 rw')
/-! ### a[lo:hi] -/
abbrev FO := Lo → Store → Option (Option Int × Store)
def oNone : FO := fun _ st => some (none, st)
def oSome (f : F) : FO := fun env st => (f env st).bind fun p => match p.1 with | .int i => some (some i, p.2) | _ => none
def tO (K : PySem.W.Frag) (f : FO) : TO := fun σ H Q => ∃ r env st o st', EnvR K r H env σ ∧ Sim K r H st ∧ f env st = some (o, st') ∧ ∀ r' H', Ext r H r' H' → Sim K r' H' st' → Q o H'
abbrev DO' (X : Cx) (e : Option Expr) (f : FO) : Prop := PO X e (tO X.K f)
theorem weakO {e : Option Expr} {t t' : TO} (h : PO X e t) (i : ∀ σ H Q, t' σ H Q → t σ H Q) : PO X e t' := ⟨fun pins s σ H Q I q => h.run pins s σ H Q I (i σ H Q q)⟩
theorem do_some {e : Expr} {f : F} (h : DE X e f) : DO' X (some e) (oSome f) := weakO (po_some h) fun σ H Q hh => by
  obtain ⟨r, env, st, o, st', he, hs, hf, q⟩ := hh
  obtain ⟨⟨x, s1⟩, h1, hf1⟩ := Option.bind_eq_some_iff.mp hf
  cases x with
  | int i =>
    cases hf1
    exact ⟨r, env, st, _, _, he, hs, h1, fun v r1 H1 e1 q1 p1 => by
      cases p1
      exact ⟨i, rfl, q r1 H1 e1 q1⟩⟩
  | _ => cases hf1
def cutD {α : Type} (xs : List α) (lo hi : Option Int) : List α := (xs.drop (HT.sIx xs.length 0 lo)).take (HT.sIx xs.length xs.length hi - HT.sIx xs.length 0 lo)
def slD : D → Option Int → Option Int → Option D := fun a lo hi => match a with
  | .lst ds => some (.lst (cutD ds lo hi))
  | .tup ds => some (.tup (cutD ds lo hi))
  | _ => none
theorem RepL.cut {r : Rf} {H : Hp} {vs : List V} {ds : List D} (l : RepL K r H vs ds) (lo hi : Option Int) : RepL K r H (cutV vs lo hi) (cutD ds lo hi) := by
  unfold cutV cutD
  rw [l.len]
  exact (l.drop _).take _
def fSlice (fa : F) (lo hi : FO) : F := fun env st => (fa env st).bind fun p => (lo env p.2).bind fun q => (hi env q.2).bind fun w => (slD p.1 q.1 w.1).map fun d => (d, w.2)
/-! ### what is written: an object of the store -/
theorem Sim.set {r : Rf} {H : Hp} {st : Store} (s : Sim K r H st) {n : Nat} {a : Addr} {o : HO} {ob : Ob} (ha : r.adr[n]? = some a) (hav : r.av a) (hob : ObR K r (upd H a o) a ob) (nl : ∀ o u, H a ≠ some (.frz o u)) : Ext r H r (upd H a o) ∧ Sim K r (upd H a o) (st.set n ob) := by
  have hm : a ∈ r.adr := List.mem_of_getElem? ha
  have nlk : ∀ q, r.lk q → q ≠ a := fun q z y => by
    obtain ⟨o, u, h⟩ := s.lkd q z
    exact nl o u (by rw [← y]; exact h)
  have ex : Ext r H r (upd H a o) := ⟨⟨⟨[], by simp⟩, fun q x z m => by rw [upd_ne (fun y => m (by rw [y]; exact hav))]; exact z, fun q z m => absurd z m⟩,
    fun q v m => ⟨by rw [upd_ne (fun y => m (by rw [y]; exact hm))], v, m⟩, fun _ => Iff.rfl, fun q v => by rw [upd_ne (nlk q v)]⟩
  refine ⟨ex, by rw [List.length_set]; exact s.len, s.nd, fun m b x h1 h2 => ?_, fun q v => ?_, fun q v => ?_, fun q v => by rw [upd_ne (nlk q v)]; exact s.lkd q v⟩
  · by_cases z : n = m
    · subst z
      rw [ha] at h1
      cases h1
      by_cases hl : n < st.length
      · rw [List.getElem?_set_self hl] at h2
        cases h2
        exact hob
      · rw [List.getElem?_eq_none (by rw [List.length_set]; omega)] at h2
        cases h2
    · rw [List.getElem?_set_ne z] at h2
      have nb : b ≠ a := fun y => z (by
        subst y
        obtain ⟨l1, e1⟩ := List.getElem?_eq_some_iff.mp ha
        obtain ⟨l2, e2⟩ := List.getElem?_eq_some_iff.mp h1
        exact (List.getElem_inj s.nd).mp (e1.trans e2.symm))
      exact (s.ob m b x h1 h2).ex ex.toEx fun v => ⟨by rw [upd_ne nb], v⟩
  · by_cases z : q = a
    · exact ⟨_, by rw [z]; exact upd_same⟩
    · rw [upd_ne z]; exact s.there q v
  · by_cases z : q = a
    · exact ⟨_, by rw [z]; exact upd_same⟩
    · rw [upd_ne z]; exact s.old q v
def putD (kvs : List (Key × D)) (k : Key) (v : D) : List (Key × D) := if kvs.any (fun kv => decide (kv.1 = k)) then kvs.map fun kv => if kv.1 = k then (kv.1, v) else kv else kvs ++ [(k, v)]
theorem RepK.len {r : Rf} {H : Hp} : ∀ {vs : List (Key × V)} {ds : List (Key × D)}, RepK K r H vs ds → vs.length = ds.length
  | _, _, .nil => rfl
  | _, _, .cons _ b => by rw [List.length_cons, List.length_cons, RepK.len b]
theorem RepK.any {r : Rf} {H : Hp} {k : Key} : ∀ {vs : List (Key × V)} {ds : List (Key × D)}, RepK K r H vs ds → (vs.any fun kv => decide (kv.1 = k)) = ds.any fun kv => decide (kv.1 = k)
  | _, _, .nil => rfl
  | _, _, .cons _ b => by rw [List.any_cons, List.any_cons, RepK.any b]
theorem RepK.repl {r : Rf} {H : Hp} {k : Key} {v : V} {d : D} (q : Rep K r H v d) : ∀ {vs : List (Key × V)} {ds : List (Key × D)}, RepK K r H vs ds → RepK K r H (vs.map fun kv => if kv.1 = k then (kv.1, v) else kv) (ds.map fun kv => if kv.1 = k then (kv.1, d) else kv)
  | _, _, .nil => .nil
  | _, _, .cons (k := k0) a b => by
    rw [List.map_cons, List.map_cons]
    by_cases z : k0 = k
    · rw [if_pos z, if_pos z]
      exact .cons q (RepK.repl q b)
    · rw [if_neg z, if_neg z]
      exact .cons a (RepK.repl q b)
theorem RepK.snoc {r : Rf} {H : Hp} {k : Key} {v : V} {d : D} (q : Rep K r H v d) : ∀ {vs : List (Key × V)} {ds : List (Key × D)}, RepK K r H vs ds → RepK K r H (vs ++ [(k, v)]) (ds ++ [(k, d)])
  | _, _, .nil => .cons q .nil
  | _, _, .cons a b => .cons a (RepK.snoc q b)
theorem RepK.put {r : Rf} {H : Hp} {k : Key} {v : V} {d : D} (q : Rep K r H v d) {vs : List (Key × V)} {ds : List (Key × D)} (l : RepK K r H vs ds) : RepK K r H (putK vs k v) (putD ds k d) := by
  unfold putK putD
  rw [l.any]
  split
  · exact l.repl q
  · exact l.snoc q
/-- o[k] = v, o a dict of the store -/
def sPut (fo fk fv : F) : FS := fun env st => (fv env st).bind fun p => (fo env p.2).bind fun q => (fk env q.2).bind fun w => match q.1 with
  | .ref n => (match w.2[n]? with
    | some (.dct kvs) => (asKey w.1).bind fun k => if kvs.length < sizeLine then some (.nx, env, w.2.set n (.dct (putD kvs k p.1))) else none
    | _ => none)
  | _ => none
theorem ds_put {o i value : Expr} {fo fk fv : F} {pos pos' : Pos} {k : Nat} (g : GX X k) (ho : DE X o fo) (hi : DE X i fk) (hv : DE X value fv) (hs : swapsWith value (some (.Subscript o i pos')) pos.line X.env = pure false := by rfl) :
    DS X W (.Assign [.Subscript o i pos'] value pos) (sPut fo fk fv) := weakS (ps_dput (hu_of g.room) ho hi hv hs) fun D' σ H hh => by
  obtain ⟨r, env, st, out, env', st', he, hs, hf, q⟩ := hh
  obtain ⟨⟨x, s1⟩, h1, hf1⟩ := Option.bind_eq_some_iff.mp hf
  obtain ⟨⟨y, s2⟩, h2, hf2⟩ := Option.bind_eq_some_iff.mp hf1
  obtain ⟨⟨z, s3⟩, h3, hf3⟩ := Option.bind_eq_some_iff.mp hf2
  cases y with
  | ref n =>
    simp only at hf3
    split at hf3
    · rename_i kvs hst
      obtain ⟨kk, hk, hf4⟩ := Option.bind_eq_some_iff.mp hf3
      split at hf4
      · rename_i hl
        cases hf4
        refine ⟨r, env, st, x, s1, he, hs, h1, fun xv r1 H1 e1 q1 p1 => ⟨r1, env, s1, _, s2, he.ext e1, q1, h2, fun yv r2 H2 e2 q2 p2 => ⟨r2, env, s2, z, s3, (he.ext e1).ext e2, q2, h3, fun zv r3 H3 e3 q3 p3 => ?_⟩⟩⟩
        have ez := asKey_rep p3 hk
        subst ez
        obtain ⟨p, rfl, hp⟩ := (p2.ext e3).refI
        obtain ⟨av, xs, hx, l⟩ := q3.ob _ p _ hp hst
        have px : Rep X.K r3 H3 xv x := (p1.ext e2).ext e3
        refine ⟨p, _, rfl, .k hx (by rw [l.len]; exact hl), ?_⟩
        have ee : Ex r3 H3 r3 (upd H3 p (.dK (putK xs kk xv))) := ⟨⟨[], by simp⟩, fun a o w m => by rw [upd_ne (fun y => m (by rw [y]; exact av))]; exact w, fun a w m => absurd w m⟩
        obtain ⟨w1, w2⟩ := q3.set (o := .dK (putK xs kk xv)) (ob := .dct (putD kvs kk x)) hp av ⟨av, _, upd_same, (l.put px).ex ee⟩ (fun _ _ z => by rw [hx] at z; cases z)
        exact q σ r3 _ (((e1.trans e2).trans e3).trans w1) ((((he.ext e1).ext e2).ext e3).ext w1) w2
      · cases hf4
    · cases hf3
  | _ => cases hf3
/-- {k: v, ..}, into the store -/
def evP : List (F × F) → Lo → Store → Option (List (Key × D) × Store)
  | [], _, st => some ([], st)
  | (fk, fv) :: r, env, st => (fk env st).bind fun p => (asKey p.1).bind fun k => (fv env p.2).bind fun q => (evP r env q.2).map fun z => ((k, q.1) :: z.1, z.2)
def mergeD (kvs more : List (Key × D)) : List (Key × D) := more.foldl (fun acc kv => putD acc kv.1 kv.2) kvs
def fDict (ps : List (F × F)) : F := fun env st => (evP ps env st).bind fun q => if q.1.length ≤ 15 then some (.ref q.2.length, q.2 ++ [.dct (mergeD [] q.1)]) else none
inductive DPs (X : Cx) (pos : Pos) : List (Option Expr) → List Expr → List (F × F) → Prop
  | nil : DPs X pos [] [] []
  | cons {k v : Expr} {ks : List (Option Expr)} {vs : List Expr} {fk fv : F} {ps : List (F × F)} : DE X k fk → DE X v fv → DPs X pos ks vs ps → DPs X pos (some k :: ks) (v :: vs) ((fk, fv) :: ps)
theorem DPs.pps {pos : Pos} : ∀ {ks : List (Option Expr)} {vs : List Expr} {ps : List (F × F)}, DPs X pos ks vs ps → PPs X pos ks vs (ps.map fun p => (tD X.K p.1, tD X.K p.2))
  | _, _, _, .nil => pps_nil
  | _, _, _, .cons a b c => pps_cons a b (DPs.pps c)
theorem RepK.merge {r : Rf} {H : Hp} : ∀ {more : List (Key × V)} {md : List (Key × D)} {kvs : List (Key × V)} {ds : List (Key × D)}, RepK K r H more md → RepK K r H kvs ds → RepK K r H (mergeK kvs more) (mergeD ds md)
  | _, _, _, _, .nil, q => q
  | _, _, kvs, ds, .cons (k := k) (v := v) (vs := more) (d := d) (ds := md) a b, q => by
    have := RepK.merge b (q.put (k := k) a)
    exact this
theorem pairsRead : ∀ {ps : List (F × F)} {r : Rf} {env : Lo} {st st' : Store} {σ : L2.St} {H : Hp} {kds : List (Key × D)} {Q : List (V × V) → Hp → Prop}, EnvR K r H env σ → Sim K r H st → evP ps env st = some (kds, st') →
    (∀ r' H' (kvs : List (Key × V)), Ext r H r' H' → Sim K r' H' st' → RepK K r' H' kvs kds → Q (kvs.map fun kv => (kV kv.1, kv.2)) H') → tPairs (ps.map fun p => (tD K p.1, tD K p.2)) σ H Q
  | [], r, env, st, st', σ, H, kds, Q, he, hs, hf, q => by
    cases hf
    exact q r H [] (.refl r H) hs .nil
  | (fk, fv) :: ps, r, env, st, st', σ, H, kds, Q, he, hs, hf, q => by
    obtain ⟨⟨x, s1⟩, h1, hf1⟩ := Option.bind_eq_some_iff.mp hf
    obtain ⟨k, hk, hf2⟩ := Option.bind_eq_some_iff.mp hf1
    obtain ⟨⟨y, s2⟩, h2, hf3⟩ := Option.bind_eq_some_iff.mp hf2
    obtain ⟨⟨zs, s3⟩, h3, hf4⟩ := Option.map_eq_some_iff.mp hf3
    cases hf4
    refine ⟨r, env, st, x, s1, he, hs, h1, fun xv r1 H1 e1 q1 p1 => ⟨r1, env, s1, y, s2, he.ext e1, q1, h2, fun yv r2 H2 e2 q2 p2 => ?_⟩⟩
    have ex := asKey_rep p1 hk
    subst ex
    refine pairsRead (ps := ps) ((he.ext e1).ext e2) q2 h3 fun r3 H3 kvs e3 q3 l3 => ?_
    exact q r3 H3 ((k, yv) :: kvs) ((e1.trans e2).trans e3) q3 (.cons (p2.ext e3) l3)
theorem de_dict {pos : Pos} {keys : List (Option Expr)} {values : List Expr} {ps : List (F × F)} (h : DPs X pos keys values ps) (hall : keys.all (·.isSome) = true := by rfl) (hl : keys.length = values.length := by rfl) (h0 : keys ≠ [] := by (intro z; cases z)) (h15 : keys.length ≤ 15 := by decide) :
    DE X (.Dict keys values pos) (fDict ps) := weakE (pe_disp h.pps hall hl h0 h15) fun σ H Q hh => by
  obtain ⟨r, env, st, d, st', he, hs, hf, q⟩ := hh
  obtain ⟨⟨kds, s1⟩, h1, hf1⟩ := Option.bind_eq_some_iff.mp hf
  by_cases hz : kds.length ≤ 15
  case neg => rw [if_neg hz] at hf1; cases hf1
  rw [if_pos hz] at hf1
  cases hf1
  intro p hp
  obtain ⟨e0, hd0⟩ := hideNew (o := .dK []) hs hp
  refine pairsRead (he.ext e0) hd0.sim h1 fun r' H' kvs e1 q1 l1 => ?_
  obtain ⟨hd1, hk⟩ := hd0.ext e1 q1
  refine ⟨hk.trans upd_same, kvs, rfl, by rw [l1.len]; exact hz, ?_⟩
  have ee : Ex r' H' (r'.add p) (upd H' p (.dK (mergeK [] kvs))) := ⟨⟨[p], rfl⟩, fun a o w m => by rw [upd_ne (fun y => m (by rw [y]; exact hd1.av))]; exact w, fun a w m => absurd w m⟩
  obtain ⟨w1, w2, w3⟩ := hd1.add (o := .dK (mergeK [] kvs)) (ob := .dct (mergeD [] kds)) (e0.trans e1) hs hp ⟨hd1.av, _, upd_same, (RepK.merge l1 .nil).ex ee⟩
  exact q _ _ _ w1 w2 (w3 _ rfl)
/-- {} as a value -/
theorem de_dict0 {pos : Pos} : DE X (.Dict [] [] pos) (fC (.dct [])) := weakE (pe_frz pe_dnewK) fun σ H Q hh => by
  obtain ⟨r, env, st, d, st', he, hs, hf, q⟩ := hh
  cases hf
  refine fun p hp => ⟨p, _, rfl, upd_same, trivial, fun o => ?_⟩
  rw [upd_upd]
  exact q _ r _ (hs.ext (same_alloc hp)) (hs.same (same_alloc hp)) (.dct upd_same (hs.free hp) .nil)
/-- a list display, into the store -/
def fNewL (fa : FA) : F := fun env st => (fa env st).bind fun p => if p.1.length ≤ sizeLine then some (.ref p.2.length, p.2 ++ [.lst p.1]) else none
theorem de_newL {es : List Expr} {fa : FA} {pos : Pos} (h : DA X es fa) : DE X (.List es pos) (fNewL fa) := weakE (pe_lst h) fun σ H Q hh => by
  obtain ⟨r, env, st, d, st', he, hs, hf, q⟩ := hh
  obtain ⟨⟨ds, s1⟩, h1, hf1⟩ := Option.bind_eq_some_iff.mp hf
  by_cases hz : ds.length ≤ sizeLine
  case neg => rw [if_neg hz] at hf1; cases hf1
  rw [if_pos hz] at hf1
  cases hf1
  refine ⟨r, env, st, ds, s1, he, hs, h1, fun vs r1 H1 e1 q1 l1 => ⟨by rw [l1.len]; exact hz, fun p hp => ?_⟩⟩
  obtain ⟨e0, hd0⟩ := hideNew (o := .lst vs) q1 hp
  have ee : Ex r1 H1 ((r1.hide p).add p) (upd (upd H1 p (.lst vs)) p (.lst vs)) := by
    rw [upd_upd]
    refine ⟨⟨[p], rfl⟩, fun a o w m => same_alloc hp a o w, fun a w m => ?_⟩
    rcases w with w | w
    · exact absurd w m
    · rw [w]; exact hp
  obtain ⟨w1, w2, w3⟩ := hd0.add (o := .lst vs) (ob := .lst ds) e0 q1 hp ⟨hd0.av, _, upd_same, l1.ex ee⟩
  have key := q (.ref p) _ _ (e1.trans w1) w2 (w3 _ rfl)
  rw [upd_upd] at key
  exact key
/-- xs.append(e), xs of the store -/
def isLs : Option Ob → Bool | some (.lst _) => true | _ => false
def appAt (n : Nat) (d : D) (st : Store) : Option (D × Store) := match st[n]? with
  | some (.lst ds) => if ds.length < sizeLine then some (.non, st.set n (.lst (ds ++ [d]))) else none
  | _ => none
def fApp (fo fe : F) : F := fun env st => (fo env st).bind fun p => match p.1 with
  | .ref n => if isLs p.2[n]? = true then (fe env p.2).bind fun q => appAt n q.1 q.2 else none
  | _ => none
theorem de_append {o e : Expr} {fo fe : F} {apos cpos : Pos} (ho : DE X o fo) (hv : DE X e fe) (hbase : attributeBase o "append" X.env (eval o X.env) = eval o X.env := by rfl)
    (hfew : ((backTo cpos (starEach [e] X.env)).all (fun x => !x.1) && (backToKw cpos (keywordEach [] X.env)).all (fun x => x.1.isSome)
      && decide (([e] : List Expr).length + ([] : List Keyword).length + (if ([] : List Keyword).isEmpty then 0 else 1) < 30)) = true := by rfl)
    (hline : (apos.endLine == cpos.line) = true := by rfl) (hs : starEach [e] X.env = [(false, eval e X.env)] := by rfl) :
    DE X (.Call (.Attribute o "append" apos) [e] [] cpos) (fApp fo fe) :=
  weakE (pe_bm PySem.F.plainAttrs_list PySem.F.slot_list_append PySem.F.type_list_append mt_append ho (pa_cons hv pa_nil hs) hbase hfew hline hs rfl) fun σ H Q hh => by
  obtain ⟨r, env, st, d, st', he, hs, hf, q⟩ := hh
  obtain ⟨⟨x, s1⟩, h1, hf1⟩ := Option.bind_eq_some_iff.mp hf
  cases x with
  | ref n =>
    have hf1' : (if isLs s1[n]? = true then (fe env s1).bind fun q => appAt n q.1 q.2 else none) = some (d, st') := hf1
    by_cases hl1 : isLs s1[n]? = true
    case neg => rw [if_neg hl1] at hf1'; cases hf1'
    rw [if_pos hl1] at hf1'
    obtain ⟨⟨y, s2⟩, h2, hf2⟩ := Option.bind_eq_some_iff.mp hf1'
    have hf3 : appAt n y s2 = some (d, st') := hf2
    unfold appAt at hf3
    split at hf3
    · rename_i ds hst
      split at hf3
      · rename_i hl
        cases hf3
        refine ⟨r, env, st, _, s1, he, hs, h1, fun xv r1 H1 e1 q1 p1 => ?_⟩
        obtain ⟨p, rfl, hp⟩ := p1.refI
        refine ⟨.inl ⟨rfl, ?_⟩, r1, env, s1, y, s2, he.ext e1, q1, h2, fun yv r2 H2 e2 q2 p2 => ?_⟩
        · unfold isLs at hl1
          split at hl1
          · rename_i es hes
            obtain ⟨av, xs, hx, l⟩ := q1.ob n p _ hp hes
            exact ⟨xs, .of hx⟩
          · cases hl1
        · have hp2 := e2.get hp
          obtain ⟨av, xs, hx, l⟩ := q2.ob n p _ hp2 hst
          refine ⟨p, xs, yv, rfl, rfl, hx, by rw [l.len]; exact hl, ?_⟩
          have ee : Ex r2 H2 r2 (upd H2 p (.lst (xs ++ [yv]))) := ⟨⟨[], by simp⟩, fun a o w m => by rw [upd_ne (fun y => m (by rw [y]; exact av))]; exact w, fun a w m => absurd w m⟩
          obtain ⟨w1, w2⟩ := q2.set (o := .lst (xs ++ [yv])) (ob := .lst (ds ++ [y])) hp2 av ⟨av, _, upd_same, (l.append (.cons p2 .nil)).ex ee⟩ (fun _ _ z => by rw [hx] at z; cases z)
          exact q _ _ _ ((e1.trans e2).trans w1) w2 .non
      · cases hf3
    · cases hf3
  | _ => cases hf1
end
end DL
namespace DL
open PySem PySem.Spec PyProof.Rows L2
variable {K : PySem.W.Frag}
/-! ### a def -/
abbrev FM := List D → Store → Option (D × Store)
/-- a def computes m (nothing is raised) -/
structure FnD (P : Program) (w : World) (K : PySem.W.Frag) (mg : Str → Option Value) (base : Heap) (k : Nat) (f : Addr) (fd : FuncData) (ps : List Str) (m : FM) : Prop where
  run : ∀ (A : Around) (outer : List Env) (s : Shared) (H : Hp) (args : Args) (us : List Value) (vs : List V) (Q : VK) (rho : Rf) (ds : List D) (st st' : Store) (d : D),
    A.guards = some [] → Room k A → Env0 P w K mg base A outer s H → BindsTo s fd args (ps.zip us) → Vals vs us → vs.length = ps.length → RepL K rho H vs ds → Sim K rho H st → m ds st = some (d, st') →
    (∀ v rho' H', Ext rho H rho' H' → Sim K rho' H' st' → Rep K rho' H' v d → Q v H') → codeAny (model P w) A (.call (.ref f) args) (CR CX0 outer P w H s Q E0) s
theorem FnD.up {P : Program} {w : World} {mg : Str → Option Value} {base : Heap} {j k : Nat} {f : Addr} {fd : FuncData} {ps : List Str} {m : FM} (h : FnD P w K mg base j f fd ps m) (l : j ≤ k) : FnD P w K mg base k f fd ps m :=
  ⟨fun A outer s H args us vs Q rho ds st st' d hg hr => h.run A outer s H args us vs Q rho ds st st' d hg (hr.mono l)⟩
/-- a body's context -/
abbrev cxD (P : Program) (w : World) (K : PySem.W.Frag) (mg : Str → Option Value) (base : Heap) (N : List Str) (qual : Str) (sc : Scope) (f : Addr) (cd : Value) (A : Around) (outer : List Env) (s : Shared) (H : Hp) : Cx :=
  (cxOf CX0 P w K mg base N qual sc f cd A outer s H E0).nox
def startD (n : Nat) (ds : List D) : Lo := ds.map some ++ List.replicate (n - ds.length) none
def outM : Option (Out × Lo × Store) → Option (D × Store)
  | some (.rt d, _, s) => some (d, s)
  | some (.nx, _, s) => some (.non, s)
  | _ => none
def mOf (n : Nat) (g : FS) : FM := fun ds st => outM (g (startD n ds) st)
theorem start_env {r : Rf} {H : Hp} {vs : List V} {ds : List D} {N : List Str} (l : RepL K r H vs ds) (hn : vs.length ≤ N.length) : EnvR K r H (startD N.length ds) (L2.start N vs) := by
  refine ⟨?_, fun i d h => ?_⟩
  · unfold startD L2.start
    rw [List.length_append, List.length_append, List.length_map, List.length_map, List.length_replicate, List.length_replicate, l.len]
  · unfold startD at h
    unfold L2.start
    by_cases hi : i < ds.length
    · rw [List.getElem?_append_left (by rw [List.length_map]; exact hi), List.getElem?_map] at h
      obtain ⟨d', h1, h2⟩ := Option.map_eq_some_iff.mp h
      cases h2
      obtain ⟨v, h3, h4⟩ := l.get h1
      refine ⟨v, ?_, h4⟩
      rw [List.getElem?_append_left (by rw [List.length_map, l.len]; exact hi), List.getElem?_map, h3]; rfl
    · rw [List.getElem?_append_right (by rw [List.length_map]; omega), List.getElem?_replicate] at h
      split at h <;> cases h
theorem FnD.of {P : Program} {w : World} {mg : Str → Option Value} {base : Heap} {x qual : Str} {sd : Stmt} {f : Addr} {fd : FuncData} {N ps : List Str} {k : Nat} {g : FS} (F : Fun K x qual sd f fd) (S : FnScope N ps (defScope sd))
    (hb : ∀ (cd : Value) (A : Around) (outer : List Env) (s : Shared) (H : Hp), GX (cxD P w K mg base N qual (defScope sd) f cd A outer s H) k → DSs (cxD P w K mg base N qual (defScope sd) f cd A outer s H) (fun _ _ _ _ => False) (defBody sd) g) :
    FnD P w K mg base (k + 1) f fd ps (mOf N.length g) := by
  obtain ⟨oc, od, kV, doc, pm, an, cd, ct, osl, rfl, lk, hcd⟩ := F.ex
  refine ⟨fun A outer s H args us vs Q rho ds st st' d hgd hr e0 hbind rv hlen rds hs hm hq => ?_⟩
  have hps : ps.length ≤ N.length := by
    have := congrArg List.length S.pre
    rw [List.length_take] at this
    omega
  have KX : K.In s.heap := e0.mod.kin.keeps fun b o e => (e0.bs b o e).1
  have lim : s.heap.NoLimit := e0.mod.nolimit.keeps fun b o e => (e0.bs b o e).1
  have kinds : ∀ y ∈ ps.zip us, (defScope sd).names.lookup y.1 = some .local ∨ ((defScope sd).names.lookup y.1 = some .cell ∧ ((cellsFrom (s.heap.objs.size + 1) (defScope sd).names []).lookup y.1).isSome = true) := fun ⟨n, v⟩ hy =>
    (S.par n (List.of_mem_zip hy).1).elim .inl fun q => .inr ⟨q, PySem.W.cellsFrom_some _ _ _ (.inl q)⟩
  refine codeAny_call_function hr.depth (KX _ _ lk) rfl S.co S.gen rfl (PySem.W.codeRec_of KX hcd) (hbind _ _ _ _ (wpAny_newFunctionEnv_cells S.kind kinds fun env he s1 x => ?_))
  subst he
  refine ⟨lim.keeps x.toInCall.keep, codeAny_func ?_⟩
  have gx : GX (cxD P w K mg base N qual (defScope sd) f cd A outer s H) k := ⟨rfl, S.nd, hr.deeper _, hgd⟩
  have I0 : Inv (cxOf CX0 P w K mg base N qual (defScope sd) f cd A outer s H E0) [] (L2.start N vs) H s1 := inv_start S hr.hd e0 hlen rv x
  -- what the body does
  obtain ⟨o, env', h1, h2⟩ : ∃ o env', g (startD N.length ds) st = some (o, env', st') ∧ (o = .rt d ∨ (o = .nx ∧ d = .non)) := by
    unfold mOf at hm
    cases z : g (startD N.length ds) st with
    | none => rw [z] at hm; cases hm
    | some q =>
      obtain ⟨o, e, s2⟩ := q
      rw [z] at hm
      cases o with
      | rt d' => cases hm; exact ⟨_, _, rfl, .inl rfl⟩
      | nx => cases hm; exact ⟨_, _, rfl, .inr ⟨rfl, rfl⟩⟩
      | bk => cases hm
      | ct => cases hm
      | er _ _ _ => cases hm
  have run := (hb cd A outer s H gx).run [] s1 (L2.start N vs) H { nx := fun _ H' => Q .non H', rt := Q } (I0.wish _) ⟨rho, _, st, o, env', st', start_env rds (by omega), hs, h1, by
    rcases h2 with e | ⟨e, e2⟩
    · subst e
      exact hq
    · subst e e2
      exact fun σ' r' H' ex _ hs' => hq .non r' H' ex hs' .non⟩
  refine wpAny_mono run (fun fl s' q => ?_) fun _ _ z => False.elim z
  have back : ∀ {σ' : L2.St} {H' : Hp} {v : V} {u : Value}, Inv (cxD P w K mg base N qual (defScope sd) f cd A outer s H) [] σ' H' s' → RelV v u → Q v H' → CE outer P w H s Q u s' := fun {σ' H' v u} J r z => ⟨v, H', J.os, J.bare, J.base, J.hok, r, z⟩
  cases fl with
  | ret u =>
    obtain ⟨v, σ', H', J, r, z⟩ := q
    exact back J r z
  | next =>
    obtain ⟨σ', H', J, z⟩ := q
    exact back (v := V.non) (u := Value.none) J rfl z
  | brk => obtain ⟨_, _, _, z⟩ := q; exact z.elim
  | cont => obtain ⟨_, _, _, z⟩ := q; exact z.elim
/-! ### a call -/
def fCall (m : FM) (fa : FA) : F := fun env st => (fa env st).bind fun p => m p.1 p.2
section
variable {X : Cx} {W : WXd} {k : Nat} {f : Addr} {fd : FuncData} {ps : List Str} {m : FM} {x : Str} {p pos : Pos} {e : Expr} {es : List Expr}
theorem runD {pins : List (Addr × Obj)} {σ : L2.St} {H : Hp} {s : Shared} {Q : VK} {us : List Value} {vs : List V} {rho : Rf} {ds : List D} {st st' : Store} {d : D} (Fd : FnD X.prog X.w X.K X.mg X.base k f fd ps m) (gx : GX X k) (hb : Binds X.K fd ps [])
    (I : Inv X pins σ H s) (r : Vals vs us) (hl : vs.length = ps.length) (rd : RepL X.K rho H vs ds) (hs : Sim X.K rho H st) (hm : m ds st = some (d, st')) (hq : ∀ v rho' H', Ext rho H rho' H' → Sim X.K rho' H' st' → Rep X.K rho' H' v d → Q v H') :
    wpAny (model X.prog X.w) X.A (call (.ref f) us) (EP X pins σ Q) X.xe s := by
  have hu : us.length = ps.length := by rw [← r.length]; exact hl
  have hbt : BindsTo s fd ⟨us, []⟩ (ps.zip us) := by
    have := hb s us I.kIn (by rw [List.append_nil]; exact hu)
    rwa [List.append_nil] at this
  refine wpAny_call (codeAny_mono (Fd.run X.A X.stack s H ⟨us, []⟩ us vs Q rho ds st st' d gx.gd gx.room I.env0 hbt r hl rd hs hm hq) fun z s' hz => ?_)
  cases z with
  | error e => exact False.elim hz
  | ok fl =>
    cases fl with
    | ret u => exact I.after hz
    | next => exact False.elim hz
    | brk => exact False.elim hz
    | cont => exact False.elim hz
/-- f(e, ..), every parameter given by place -/
theorem de_call (Fd : FnD X.prog X.w X.K X.mg X.base k f fd ps m) (gx : GX X k) (hg : Gl X x) (hm : X.mg x = some (.ref f)) (hk : PySem.W.keepIn X.K (.ref f) = true) (hb : Binds X.K fd ps []) {fa : FA}
    (ha : DA X (e :: es) fa) (hl : (e :: es).length = ps.length := by rfl) (hdb : (x == ("__debug__" : Str)) = false := by decide) (he : starEach (e :: es) X.env = (false, eval e X.env) :: starEach es X.env := by rfl) (hpl : (backTo pos (starEach es X.env)).any (·.1) = false := by rfl)
    (hn : ∀ env st ds st', fa env st = some (ds, st') → ds.length = (e :: es).length) :
    DE X (.Call (.Name x p) (e :: es) [] pos) (fCall m fa) := by
  refine ⟨fun pins s σ H Q I h => wpAny_Call_Name_kw (ld_glob I hg hm ?_ hdb)⟩
  obtain ⟨r, env, st, d, st', he', hs, hf, q⟩ := h
  obtain ⟨⟨ds, s1⟩, h1, h2⟩ := Option.bind_eq_some_iff.mp hf
  refine PySem.W.callWith_K (h₀ := X.base) I.ok.mod.kin hk (thn (ha.run pos pins s σ H (fun vs H1 => ∃ r1, Ext r H r1 H1 ∧ Sim X.K r1 H1 s1 ∧ RepL X.K r1 H1 vs ds) I ⟨r, env, st, ds, s1, he', hs, h1, fun vs r1 H1 e1 q1 l1 => ⟨r1, e1, q1, l1⟩⟩) fun us sa hz => ?_) he hpl
  obtain ⟨vs, H1, I1, rv, r1, e1, q1, l1⟩ := hz
  exact ⟨I1.kIn, runD Fd gx hb I1 rv (by rw [l1.len, hn _ _ _ _ h1]; exact hl) l1 q1 h2 fun v r2 H2 e2 q2 p2 => q v r2 H2 (e1.trans e2) q2 p2⟩
end
theorem aNil_n : ∀ (env : Lo) (st : Store) (ds : List D) (st' : Store), aNil env st = some (ds, st') → ds.length = 0 := fun _ _ _ _ h => by cases h; rfl
theorem aCons_n {f : F} {g : FA} {n : Nat} (h : ∀ (env : Lo) (st : Store) (ds : List D) (st' : Store), g env st = some (ds, st') → ds.length = n) :
    ∀ (env : Lo) (st : Store) (ds : List D) (st' : Store), aCons f g env st = some (ds, st') → ds.length = n + 1 := fun env st ds st' hh => by
  obtain ⟨x, s1, ys, s2, h1, h2, e⟩ := aCons_some hh
  cases e
  rw [List.length_cons, h _ _ _ _ h2]
/-! ### the law's end -/
theorem law_end {P : Program} {w : World} {mg mb : Str → Option Value} {k : Nat} {fa a : Addr} {fd : FuncData} {x : Str} {m : FM} {s1 : Shared} {vs : List Value} {ns : List Int}
    (KX : K.In s1.heap) (hns : s1.heap.Ns mainGlobals mg) (hb : s1.heap.Ns builtinsNs mb) (hbb : ∀ x : Str, x ≠ "__name__" → mb x = bootBuiltins x) (hlim : s1.heap.NoLimit) (hg : s1.gens = #[])
    (ha : s1.heap.get? a = some { cls := .type "list", data := .seq vs.toArray }) (hi : IntsAre vs ns) (hl : ns.length ≤ sizeLine) (hr : Room k callerA)
    (Fd : ∀ base : Heap, K.In base → base.Ns mainGlobals mg → FnD P w K mg base k fa fd [x] m) (hbind : ∀ (s : Shared) (u : Value), BindsTo s fd ⟨[u], []⟩ [(x, u)])
    (hm : ∃ st', m [.scr ns] [] = some (.bl true, st')) :
    codeAny (model P w) callerA (.call (.ref fa) ⟨[.ref a], []⟩) (fun r s' => r = .ok (.ret (.bool true)) ∧ OldK s1.heap s'.heap ∧ s'.os = s1.os ∧ AllBare s'.gens) s1 := by
  obtain ⟨st', hm⟩ := hm
  have rv := vals_ints hi
  have lenV := hi.length
  let ob : Obj := { cls := .type "list", data := .seq vs.toArray }
  let emp : Rf := ⟨[], fun _ => False, fun _ => False⟩
  -- what is tracked: nothing, or the script alone
  have go : ∀ H : Hp, (∀ b u, H b = some u → b = a ∧ u = .frz ob (.lst (ns.map V.int))) → (H a ≠ none → K.lookup a = none) → Rep K emp H (.ref a) (.scr ns) →
      codeAny (model P w) callerA (.call (.ref fa) ⟨[.ref a], []⟩) (fun r s' => r = .ok (.ret (.bool true)) ∧ OldK s1.heap s'.heap ∧ s'.os = s1.os ∧ AllBare s'.gens) s1 := by
    intro H hH hK hrep
    have hok : HOk P w H s1.heap := fun b u e => by
      obtain ⟨rfl, rfl⟩ := hH b u e
      exact ⟨ha, by rw [List.length_map]; exact hl, vs, _, rv, ha⟩
    have keepNs : ∀ {b : Addr} {m : Str → Option Value}, s1.heap.Ns b m → (hidT s1.heap H).Ns b m := fun {b m} ⟨o, es, ep, e, d, r⟩ => by
      refine ⟨o, es, ep, hidT_get e ?_, d, r⟩
      cases q : H b with
      | none => rfl
      | some u =>
        obtain ⟨rfl, _⟩ := hH b u q
        rw [ha] at e
        cases e
        cases (show Data.seq vs.toArray _ = Data.dict es ep from d)
    have KB : K.In (hidT s1.heap H) := fun b o e => hidT_get (KX b o e) (by
      cases q : H b with
      | none => rfl
      | some u =>
        obtain ⟨rfl, _⟩ := hH b u q
        rw [hK (by rw [q]; simp)] at e
        cases e)
    have e0 : Env0 P w K mg (hidT s1.heap H) callerA [] s1 H :=
      ⟨rfl, ⟨KB, keepNs hns, ⟨mb, keepNs hb, hbb⟩, let ⟨mc, h1, h2⟩ := hlim; ⟨mc, keepNs h1, h2⟩⟩, fun b o e => of_hidT e, Nat.le_of_eq (hidT_size _ _), trivial, fun b hb => absurd (show b ∈ ([] : List Addr) from hb) (by simp), hok, .of_eq hg⟩
    have sim : Sim K emp H [] := ⟨rfl, List.nodup_nil, fun n a o h => by simp [emp] at h, fun p h => h.elim, fun p h => (by cases h), fun p h => h.elim⟩
    refine codeAny_mono ((Fd _ KB (keepNs hns)).run callerA [] s1 H ⟨[.ref a], []⟩ [.ref a] [.ref a] (fun v _ => v = .bl true) emp [.scr ns] [] st' (.bl true) rfl hr e0 (hbind s1 (.ref a)) (.cons rfl .nil) rfl (.cons hrep .nil) sim hm (fun v _ _ _ _ h => by cases h; rfl)) fun r s' h => ?_
    cases r with
    | error e => exact False.elim h
    | ok fl =>
      cases fl with
      | next => exact False.elim h
      | brk => exact False.elim h
      | cont => exact False.elim h
      | ret u =>
        obtain ⟨v, H', os, bare, un, hok', r', q⟩ := h
        subst q
        obtain rfl : u = Value.bool true := r'
        refine ⟨rfl, OldK.of_keep fun b o e => ?_, os, bare⟩
        cases q : H b with
        | none => exact un.keep b o e q (fun z => absurd (show b ∈ ([] : List Addr) from z) (by simp)) (by simp)
        | some u =>
          obtain ⟨rfl, rfl⟩ := hH b u q
          obtain ⟨e2, _⟩ := hok' b _ (un.frzs b _ _ q)
          rw [ha] at e
          cases e
          exact e2
  cases hk : K.lookup a with
  | some o =>
    have e := KX a o hk
    rw [ha] at e
    cases e
    exact go (fun _ => none) (fun _ _ h => by cases h) (fun h => absurd rfl h) (.scrK hk rfl rfl rfl (by rw [List.size_toArray, lenV]; exact hl) (by simpa using rv))
  | none =>
    refine go (fun b => if b = a then some (.frz ob (.lst (ns.map V.int))) else none) (fun b u h => ?_) (fun _ => hk) (.scr (if_pos rfl) fun h => h)
    by_cases z : b = a
    · have := (if_pos z).symm.trans h
      cases this
      exact ⟨z, rfl⟩
    · have := (if_neg z).symm.trans h
      cases this
/-- the goal that k_head leaves -/
theorem walkD {l : PySem.W.OpenLaw} {n k : Nat} {q : Program} {loose : List Str} {XP : (Str → Option Value) → Heap → Prop} {YP : World → Heap → Prop} {d : DefRec} {KK : Params → PySem.W.Frag} {x : Str} {m : FM}
    (hn : l.most = some n) (hn2 : n ≤ sizeLine) (hdf : d.params.defaults = []) (hr : Room k callerA) (hY : ∀ (w : World) (h : Heap), YP w h → (KK w.params).In h)
    (Fd : ∀ (w : World) (mg : Str → Option Value) (fa : Addr) (h : Heap), (KK w.params).In h → h.Ns mainGlobals mg → mg d.name = some (.ref fa) →
      ∃ fd : FuncData, (∀ (s : Shared) (u : Value), BindsTo s fd ⟨[u], []⟩ [(x, u)]) ∧ ∀ base : Heap, (KK w.params).In base → base.Ns mainGlobals mg → FnD l.prog w (KK w.params) mg base k fa fd [x] m)
    (hm : ∀ ns : List Int, ns.length ≤ n → (∀ z ∈ ns, Builtin.Int.intBits z ≤ 1048576) → ∃ st', m [.scr ns] [] = some (.bl true, st')) :
    PySem.W.WalkO q loose XP YP l.row.toRowW d [] (fun f vs => PySem.call f vs) := by
  refine Att.attach_callB hn hdf fun w s0 s1 mg mb fa o pm cd doc a vs ns G Y ho hd hcd hmg hobj hints hlen hbits hg => ?_
  obtain ⟨fd, hb, hF⟩ := Fd w mg fa _ (hY w _ Y) G.T.g hmg
  exact law_end (hY w _ Y) G.T.g G.T.b G.T.builtins G.T.nolimit hg hobj hints (Nat.le_trans hlen hn2) hr hF hb (hm ns hlen hbits)
end DL
namespace DL
open PySem PySem.Spec PyProof.Rows L2
variable {K : PySem.W.Frag}
/-! ### built-ins -/
section
variable {X : Cx} {W : WXd}
theorem CallOk.or {f : Value} {g g' : List D → Store → Option D} (h : CallOk X f g) (h' : CallOk X f g') : CallOk X f (fun ds st => (g ds st).or (g' ds st)) := by
  obtain ⟨r, hr, k⟩ := h
  obtain ⟨r', hr', k'⟩ := h'
  refine ⟨_, hr.or hr', fun rho H xs ds d st Q rl si e q => ?_⟩
  cases z : g ds st with
  | some c =>
    simp only [z, Option.some_or] at e
    cases e
    exact .inl (k rho H xs ds _ st Q rl si z q)
  | none =>
    simp only [z, Option.none_or] at e
    exact .inr (k' rho H xs ds d st Q rl si e q)
/-- len -/
def lenL : List D → Store → Option D := fun ds st => match ds with
  | [.str x] => if x.length ≤ sizeLine then some (.int x.length) else none
  | [.lst xs] => some (.int xs.length)
  | [.tup xs] => some (.int xs.length)
  | [.scr ns] => some (.int ns.length)
  | [.ref n] => (match st[n]? with | some (.lst xs) => some (.int xs.length) | _ => none)
  | _ => none
theorem lst1 {r : Rf} {H : Hp} {vs : List V} {d : D} (l : RepL K r H vs [d]) : ∃ v, vs = [v] ∧ Rep K r H v d := by
  cases l with
  | cons a b => cases b; exact ⟨_, rfl, a⟩
theorem lst2 {r : Rf} {H : Hp} {vs : List V} {d e : D} (l : RepL K r H vs [d, e]) : ∃ v u, vs = [v, u] ∧ Rep K r H v d ∧ Rep K r H u e := by
  cases l with
  | cons a b =>
    obtain ⟨u, rfl, c⟩ := lst1 b
    exact ⟨_, u, rfl, a, c⟩
theorem ok_lenL : CallOk X (.builtin "len") lenL := ⟨_, call_len, fun rho H xs ds d st Q rl si e q => by
  unfold lenL at e
  split at e
  · obtain ⟨v, rfl, p⟩ := lst1 rl
    cases p
    split at e
    · rename_i hl
      cases e
      exact ⟨_, _, rfl, ⟨hl, rfl⟩, q _ H (fun _ _ h => h) (.int _)⟩
    · cases e
  · obtain ⟨v, rfl, p⟩ := lst1 rl
    cases e
    cases p with
    | lst a b c => exact ⟨_, _, rfl, .inl ⟨_, .of a, rfl⟩, by rw [c.len]; exact q _ H (fun _ _ h => h) (.int _)⟩
  · obtain ⟨v, rfl, p⟩ := lst1 rl
    cases e
    obtain ⟨a, us, rfl, s, l⟩ := p.sqT
    exact ⟨_, _, rfl, .inr ⟨_, s, rfl⟩, by rw [l.len]; exact q _ H (fun _ _ h => h) (.int _)⟩
  · rename_i ns
    obtain ⟨v, rfl, p⟩ := lst1 rl
    cases e
    obtain ⟨a, rfl, s⟩ := p.scrL
    exact ⟨_, _, rfl, .inl ⟨_, s, rfl⟩, by rw [List.length_map]; exact q _ H (fun _ _ h => h) (.int _)⟩
  · obtain ⟨v, rfl, p⟩ := lst1 rl
    obtain ⟨a, rfl, hp⟩ := p.refI
    split at e
    · rename_i xs hst
      cases e
      obtain ⟨av, us, hx, l⟩ := si.ob _ a _ hp hst
      exact ⟨_, _, rfl, .inl ⟨_, .of hx, rfl⟩, by rw [l.len]; exact q _ H (fun _ _ h => h) (.int _)⟩
    · cases e
  · cases e⟩
theorem call_lenK : CallR X (.builtin "len") (fun xs H Q => ∃ p kvs, xs = [.ref p] ∧ Rd H p (.dK kvs) ∧ Q (.int kvs.length) H) := by
  intro pins s σ H xs us Q I r h
  obtain ⟨p, kvs, rfl, hp, q⟩ := h
  obtain ⟨u, rfl, rx⟩ := vals1 r
  cases rx
  exact d_len I hp fun t s' I' => ⟨.int kvs.length, H, I', ⟨t, rfl⟩, q⟩
def lenK : List D → Store → Option D := fun ds st => match ds with
  | [.dct kvs] => some (.int kvs.length)
  | [.ref n] => (match st[n]? with | some (.dct kvs) => some (.int kvs.length) | some (.ldc kvs) => some (.int kvs.length) | _ => none)
  | _ => none
theorem ok_lenK : CallOk X (.builtin "len") lenK := ⟨_, call_lenK, fun rho H xs ds d st Q rl si e q => by
  unfold lenK at e
  split at e
  · obtain ⟨v, rfl, p⟩ := lst1 rl
    cases e
    cases p with
    | dct a b c => exact ⟨_, _, rfl, .inr ⟨_, a⟩, by rw [c.len]; exact q _ H (fun _ _ h => h) (.int _)⟩
  · obtain ⟨v, rfl, p⟩ := lst1 rl
    obtain ⟨a, rfl, hp⟩ := p.refI
    split at e
    · rename_i xs hst
      cases e
      obtain ⟨av, us, hx, l⟩ := si.ob _ a _ hp hst
      exact ⟨_, _, rfl, .inl hx, by rw [l.len]; exact q _ H (fun _ _ h => h) (.int _)⟩
    · rename_i xs hst
      cases e
      obtain ⟨av, lk, o, us, hx, l⟩ := si.ob _ a _ hp hst
      exact ⟨_, _, rfl, .inr ⟨_, hx⟩, by rw [l.len]; exact q _ H (fun _ _ h => h) (.int _)⟩
    · cases e
  · cases e⟩
def bLen : List D → Store → Option D := fun ds st => (lenL ds st).or (lenK ds st)
theorem ok_len : CallOk X (.builtin "len") bLen := ok_lenL.or ok_lenK
/-- list(x) -/
def listSeq : List D → Store → Option D := fun ds st => match ds with
  | [.lst xs] => some (.lst xs)
  | [.tup xs] => some (.lst xs)
  | [.scr ns] => some (.lst (ns.map .int))
  | [.ref n] => (match st[n]? with | some (.lst xs) => some (.lst xs) | _ => none)
  | _ => none
theorem fresh_lst {r : Rf} {H : Hp} {st : Store} {p : Addr} {vs : List V} {ds : List D} (si : Sim K r H st) (hp : H p = none) (l : RepL K r H vs ds) : Rep K r (upd H p (.lst vs)) (.ref p) (.lst ds) := .lst upd_same (si.free hp) (l.ex (Ex.same r (same_alloc hp)))
theorem fresh_tup {r : Rf} {H : Hp} {st : Store} {p : Addr} {o : Obj} {vs : List V} {ds : List D} (si : Sim K r H st) (hp : H p = none) (hz : o.dict = none) (l : RepL K r H vs ds) : Rep K r (upd H p (.frz o (.tup vs))) (.ref p) (.tup ds) := .tup upd_same hz (si.free hp) (l.ex (Ex.same r (same_alloc hp)))
theorem ok_listSeq : CallOk X (.type "list") listSeq := ⟨_, call_list_of, fun rho H xs ds d st Q rl si e q => by
  unfold listSeq at e
  split at e
  · obtain ⟨v, rfl, p⟩ := lst1 rl
    cases e
    cases p with
    | lst a b c => exact ⟨_, _, rfl, .inl (.of a), fun l hl => q _ _ (same_alloc hl) (fresh_lst si hl c)⟩
  · obtain ⟨v, rfl, p⟩ := lst1 rl
    cases e
    obtain ⟨a, us, rfl, s, l⟩ := p.sqT
    exact ⟨_, _, rfl, .inr s, fun p hl => q _ _ (same_alloc hl) (fresh_lst si hl l)⟩
  · obtain ⟨v, rfl, p⟩ := lst1 rl
    cases e
    obtain ⟨a, rfl, s⟩ := p.scrL
    exact ⟨_, _, rfl, .inl s, fun p hl => q _ _ (same_alloc hl) (fresh_lst si hl (RepL.ofInts _))⟩
  · obtain ⟨v, rfl, p⟩ := lst1 rl
    obtain ⟨a, rfl, hp⟩ := p.refI
    split at e
    · rename_i xs hst
      cases e
      obtain ⟨av, us, hx, l⟩ := si.ob _ a _ hp hst
      exact ⟨_, _, rfl, .inl (.of hx), fun p hl => q _ _ (same_alloc hl) (fresh_lst si hl l)⟩
    · cases e
  · cases e⟩
theorem call_list_txt (hc : X.calm = true) : CallR X (.type "list") (fun xs H Q => ∃ x, xs = [.str x] ∧ x.length ≤ sizeLine ∧ ∀ p, H p = none → Q (.ref p) (upd H p (.lst (x.cps.toList.map fun c => V.str ⟨#[c]⟩)))) := by
  intro pins s σ H xs us Q I r h
  obtain ⟨x, rfl, hz, q⟩ := h
  obtain ⟨u, rfl, t, rfl⟩ := vals1 r
  refine call_list_str (I.ok.hd hc) x t (fun h' tk acc c' hk hS hacc => ?_) hz
  refine ⟨.ref s.heap.objs.size, _, I.laid (t' := tk) hk (Nat.le_refl _) ?_, rfl, q _ (I.hok.fresh (Nat.le_refl _))⟩
  refine ⟨by rw [List.length_map, Array.length_toList]; exact hz, acc.toList, c', ?_, by simpa using hS⟩
  refine vals_of_at ?_ fun j v w hv hw => ?_
  · rw [List.length_map, Array.length_toList, Array.length_toList, hacc.1]
  · obtain ⟨c, t2, h1, h2⟩ := hacc.2 j w (by simpa using hw)
    rw [List.getElem?_map] at hv
    have : x.cps.toList[j]? = some c := by simpa using h1
    rw [this] at hv
    cases hv
    exact ⟨t2, h2⟩
def listTxt : List D → Store → Option D := fun ds _ => match ds with
  | [.str x] => if x.length ≤ sizeLine then some (.lst (x.cps.toList.map fun c => .str ⟨#[c]⟩)) else none
  | _ => none
theorem RepL.signs {r : Rf} {H : Hp} : ∀ l : List Nat, RepL K r H (l.map fun c => V.str ⟨#[c]⟩) (l.map fun c => D.str ⟨#[c]⟩)
  | [] => .nil
  | c :: l => .cons (.str _) (RepL.signs l)
theorem ok_listTxt {k : Nat} (g : GX X k) : CallOk X (.type "list") listTxt := ⟨_, call_list_txt g.calm, fun rho H xs ds d st Q rl si e q => by
  unfold listTxt at e
  split at e
  · obtain ⟨v, rfl, p⟩ := lst1 rl
    cases p
    split at e
    · rename_i hl
      cases e
      exact ⟨_, rfl, hl, fun p hp => q _ _ (same_alloc hp) (fresh_lst si hp (RepL.signs _))⟩
    · cases e
  · cases e⟩
def bList : List D → Store → Option D := fun ds st => (listSeq ds st).or (listTxt ds st)
theorem ok_list {k : Nat} (g : GX X k) : CallOk X (.type "list") bList := ok_listSeq.or (ok_listTxt g)
/-- tuple(x) -/
def bTuple : List D → Store → Option D := fun ds st => match ds with
  | [.lst xs] => some (.tup xs)
  | [.tup xs] => some (.tup xs)
  | [.ref n] => (match st[n]? with | some (.lst xs) => some (.tup xs) | _ => none)
  | _ => none
theorem ok_tuple : CallOk X (.type "tuple") bTuple := ⟨_, call_tupF, fun rho H xs ds d st Q rl si e q => by
  unfold bTuple at e
  split at e
  · obtain ⟨v, rfl, p⟩ := lst1 rl
    cases e
    cases p with
    | lst a b c => exact ⟨_, _, rfl, .inl ⟨.of a, fun l o hl hz => q _ _ (same_alloc hl) (fresh_tup si hl hz c)⟩⟩
  · obtain ⟨v, rfl, p⟩ := lst1 rl
    cases e
    obtain ⟨a, us, rfl, s, l⟩ := p.sqT
    exact ⟨_, _, rfl, .inr ⟨s, q _ H (fun _ _ h => h) p⟩⟩
  · obtain ⟨v, rfl, p⟩ := lst1 rl
    obtain ⟨a, rfl, hp⟩ := p.refI
    split at e
    · rename_i xs hst
      cases e
      obtain ⟨av, us, hx, l⟩ := si.ob _ a _ hp hst
      exact ⟨_, _, rfl, .inl ⟨.of hx, fun p o hl hz => q _ _ (same_alloc hl) (fresh_tup si hl hz l)⟩⟩
    · cases e
  · cases e⟩
def bMax : List D → Store → Option D := fun ds _ => match ds with | [.int i, .int j] => some (.int (if j > i then j else i)) | _ => none
theorem ok_max {k : Nat} (g : GX X k) : CallOk X (.builtin "max") bMax := ⟨_, call_max2 g.calm, fun rho H xs ds d st Q rl si e q => by
  unfold bMax at e
  split at e
  · obtain ⟨v, u, rfl, p1, p2⟩ := lst2 rl
    cases p1
    cases p2
    cases e
    exact ⟨_, _, rfl, q _ H (fun _ _ h => h) (.int _)⟩
  · cases e⟩
/-- all, any of bools -/
def bools : List D → Option (List Bool)
  | [] => some []
  | .bl b :: ds => (bools ds).map (b :: ·)
  | _ :: _ => none
theorem RepL.bools {r : Rf} {H : Hp} : ∀ {ds : List D} {vs : List V} {bs : List Bool}, RepL K r H vs ds → DL.bools ds = some bs → vs = bs.map V.bl
  | [], _, _, .nil, h => by cases h; rfl
  | .bl b :: ds, _, _, .cons (.bl _) l, h => by
    obtain ⟨c, h1, h2⟩ := Option.map_eq_some_iff.mp (show (DL.bools ds).map (b :: ·) = _ from h)
    subst h2
    rw [List.map_cons, RepL.bools l h1]
  | .non :: _, _, _, _, h => by cases h
  | .int _ :: _, _, _, _, h => by cases h
  | .str _ :: _, _, _, _, h => by cases h
  | .tup _ :: _, _, _, _, h => by cases h
  | .lst _ :: _, _, _, _, h => by cases h
  | .dct _ :: _, _, _, _, h => by cases h
  | .scr _ :: _, _, _, _, h => by cases h
  | .ref _ :: _, _, _, _, h => by cases h
def bAll : List D → Store → Option D := fun ds _ => match ds with | [.lst xs] => (bools xs).map fun bs => .bl (bs.all id) | _ => none
theorem ok_all {k : Nat} (g : GX X k) : CallOk X (.builtin "all") bAll := ⟨_, cr_all g.calm, fun rho H xs ds d st Q rl si e q => by
  unfold bAll at e
  split at e
  · obtain ⟨v, rfl, p⟩ := lst1 rl
    obtain ⟨bs, h1, h2⟩ := Option.map_eq_some_iff.mp e
    subst h2
    cases p with
    | lst a b c =>
      have := c.bools h1
      subst this
      exact ⟨_, bs, rfl, .of a, q _ H (fun _ _ h => h) (.bl _)⟩
  · cases e⟩
/-- sep.join(texts) -/
def strsD : List D → Option (List Str)
  | [] => some []
  | .str x :: ds => (strsD ds).map (x :: ·)
  | _ :: _ => none
theorem RepL.strs' {r : Rf} {H : Hp} : ∀ {ds : List D} {vs : List V} {ys : List Str}, RepL K r H vs ds → strsD ds = some ys → vs = ys.map V.str
  | [], _, _, .nil, h => by cases h; rfl
  | .str b :: ds, _, _, .cons (.str _) l, h => by
    obtain ⟨c, h1, h2⟩ := Option.map_eq_some_iff.mp (show (strsD ds).map (b :: ·) = _ from h)
    subst h2
    rw [List.map_cons, RepL.strs' l h1]
  | .non :: _, _, _, _, h => by cases h
  | .int _ :: _, _, _, _, h => by cases h
  | .bl _ :: _, _, _, _, h => by cases h
  | .tup _ :: _, _, _, _, h => by cases h
  | .lst _ :: _, _, _, _, h => by cases h
  | .dct _ :: _, _, _, _, h => by cases h
  | .scr _ :: _, _, _, _, h => by cases h
  | .ref _ :: _, _, _, _, h => by cases h
def fMt (g : D → List D → Option D) (fo : F) (fa : FA) : F := fun env st => (fo env st).bind fun p => (fa env p.2).bind fun q => (g p.1 q.1).map fun d => (d, q.2)
/-- one argument; the receiver keeps its type -/
theorem de_mt {T id : String} {name : Str} {g : D → List D → Option D} {r : V → List V → Hp → VK → Prop} {o e : Expr} {es : List Expr} {fo : F} {fa : FA} {apos cpos : Pos}
    (hm : MtR X id r) (ty : ∀ (rho : Rf) (H : Hp) (x : V) (a : D) ds d, Rep X.K rho H x a → g a ds = some d → tyV X.K T x H)
    (ok : ∀ (rho : Rf) (H : Hp) (x : V) (xs : List V) (a : D) (ds : List D) (d : D) (st : Store) (Q : VK), Rep X.K rho H x a → RepL X.K rho H xs ds → Sim X.K rho H st → g a ds = some d → (∀ v H', Same H H' → Rep X.K rho H' v d → Q v H') → r x xs H Q)
    (pa : PlainAttrs T) (slot : Slot T name id) (hty : typeOf (.builtin id) = pure (.type "method_descriptor")) (ho : DE X o fo) (ha : DA X (e :: es) fa)
    (hbase : attributeBase o name X.env (eval o X.env) = eval o X.env := by rfl)
    (hfew : ((backTo cpos (starEach (e :: es) X.env)).all (fun x => !x.1) && (backToKw cpos (keywordEach [] X.env)).all (fun x => x.1.isSome)
      && decide ((e :: es).length + ([] : List Keyword).length + (if ([] : List Keyword).isEmpty then 0 else 1) < 30)) = true := by rfl)
    (hline : (apos.endLine == cpos.line) = true := by rfl) (hs : starEach (e :: es) X.env = (false, eval e X.env) :: starEach es X.env := by rfl) (hplain : (backTo cpos (starEach es X.env)).any (·.1) = false := by rfl) :
    DE X (.Call (.Attribute o name apos) (e :: es) [] cpos) (fMt g fo fa) :=
  weakE (pe_bm pa slot hty hm ho ha hbase hfew hline hs hplain) fun σ H Q hh => by
  obtain ⟨r', env, st, d, st', he, hs, hf, q⟩ := hh
  obtain ⟨⟨x, s1⟩, h1, hf1⟩ := Option.bind_eq_some_iff.mp hf
  obtain ⟨⟨ys, s2⟩, h2, hf2⟩ := Option.bind_eq_some_iff.mp hf1
  obtain ⟨d', h3, hf3⟩ := Option.map_eq_some_iff.mp hf2
  cases hf3
  exact ⟨r', env, st, x, s1, he, hs, h1, fun u r1 H1 e1 q1 p1 => ⟨ty r1 H1 u x ys d p1 h3, r1, env, s1, ys, _, he.ext e1, q1, h2, fun us r2 H2 e2 q2 l2 =>
    ok r2 H2 u us x ys d _ Q (p1.ext e2) l2 q2 h3 fun w H3 sm pw => q w r2 H3 ((e1.trans e2).trans (q2.ext sm)) (q2.same sm) pw⟩⟩
def joinD : D → List D → Option D := fun a ds => match a, ds with
  | .str x, [.lst xs] => (strsD xs).bind fun ys => if (ys.map (·.length)).sum + ys.length * x.length ≤ 16777216 then some (.str (Txt.join x ys)) else none
  | _, _ => none
theorem strTy {g : D → List D → Option D} (h : ∀ a ds d, g a ds = some d → ∃ x, a = .str x) : ∀ (rho : Rf) (H : Hp) (x : V) (a : D) ds d, Rep X.K rho H x a → g a ds = some d → tyV X.K "str" x H := fun rho H x a ds d ra e => by
  obtain ⟨z, rfl⟩ := h a ds d e
  cases ra
  exact rfl
theorem joinOk : ∀ (rho : Rf) (H : Hp) (x : V) (xs : List V) (a : D) (ds : List D) (d : D) (st : Store) (Q : VK), Rep X.K rho H x a → RepL X.K rho H xs ds → Sim X.K rho H st → joinD a ds = some d → (∀ v H', Same H H' → Rep X.K rho H' v d → Q v H') →
    ∃ a p, ∃ ys : List Str, x = .str a ∧ xs = [.ref p] ∧ (SqL X.K H p (ys.map V.str) ∨ SqT X.K H p (ys.map V.str)) ∧ (ys.map (·.length)).sum + ys.length * a.length ≤ 16777216 ∧ Q (.str (Txt.join a ys)) H := by
  intro rho H x xs a ds d st Q ra rl si e q
  unfold joinD at e
  split at e
  · rename_i z zs
    obtain ⟨ys, h1, h2⟩ := Option.bind_eq_some_iff.mp e
    split at h2
    · rename_i hl
      cases h2
      cases ra
      obtain ⟨v, rfl, p⟩ := lst1 rl
      cases p with
      | lst g1 g2 g3 =>
        have := g3.strs' h1
        subst this
        exact ⟨z, _, ys, rfl, rfl, .inl (.of g1), hl, q _ H (fun _ _ h => h) (.str _)⟩
    · cases h2
  · cases e
theorem joinTy : ∀ (rho : Rf) (H : Hp) (x : V) (a : D) ds d, Rep X.K rho H x a → joinD a ds = some d → tyV X.K "str" x H := strTy fun a ds d e => by
  unfold joinD at e
  split at e
  · exact ⟨_, rfl⟩
  · cases e
def startsD : D → List D → Option D := fun a ds => match a, ds with
  | .str x, [.str y] => some (.bl (Txt.startswith x y))
  | _, _ => none
theorem startsOk : ∀ (rho : Rf) (H : Hp) (x : V) (xs : List V) (a : D) (ds : List D) (d : D) (st : Store) (Q : VK), Rep X.K rho H x a → RepL X.K rho H xs ds → Sim X.K rho H st → startsD a ds = some d → (∀ v H', Same H H' → Rep X.K rho H' v d → Q v H') →
    ∃ a b, x = .str a ∧ xs = [.str b] ∧ Q (.bl (Txt.startswith a b)) H := by
  intro rho H x xs a ds d st Q ra rl si e q
  unfold startsD at e
  split at e
  · cases ra
    obtain ⟨v, rfl, p⟩ := lst1 rl
    cases p
    cases e
    exact ⟨_, _, rfl, rfl, q _ H (fun _ _ h => h) (.bl _)⟩
  · cases e
theorem startsTy : ∀ (rho : Rf) (H : Hp) (x : V) (a : D) ds d, Rep X.K rho H x a → startsD a ds = some d → tyV X.K "str" x H := strTy fun a ds d e => by
  unfold startsD at e
  split at e
  · exact ⟨_, rfl⟩
  · cases e
/-! ### one value -/
def fUn (g : D → Option D) (fa : F) : F := fun env st => (fa env st).bind fun p => (g p.1).map fun d => (d, p.2)
def negI : D → Option D | .int i => some (.int (-i)) | _ => none
theorem de_neg {a : Expr} {fa : F} {pos : Pos} (ha : DE X a fa) : DE X (.UnaryOp .USub a pos) (fUn negI fa) := weakE (pe_un un_neg ha) fun σ H Q hh => by
  obtain ⟨r', env, st, d, st', he, hs, hf, q⟩ := hh
  obtain ⟨⟨x, s1⟩, h1, hf1⟩ := Option.bind_eq_some_iff.mp hf
  obtain ⟨d', h2, hf2⟩ := Option.map_eq_some_iff.mp hf1
  cases hf2
  refine ⟨r', env, st, x, _, he, hs, h1, fun u r1 H1 e1 q1 p1 => ?_⟩
  cases x with
  | int i =>
    cases h2
    cases p1
    exact ⟨i, rfl, q _ r1 H1 e1 q1 (.int _)⟩
  | _ => cases h2
/-- isinstance(x, T), T a built-in type -/
def tyOb : Option Ob → Option String | some (.lst _) => some "list" | some (.dct _) => some "dict" | some (.ldc _) => some "dict" | _ => none
def tyD : D → Store → Option String := fun d st => match d with
  | .non => some "NoneType" | .bl _ => some "bool" | .int _ => some "int" | .str _ => some "str" | .tup _ => some "tuple" | .lst _ => some "list" | .dct _ => some "dict" | .scr _ => some "list"
  | .ref n => tyOb st[n]?
def isiB (a T : String) : Bool := a == T || (a == "bool" && T == "int")
def fIsi (T : String) (f : F) : F := fun env st => (f env st).bind fun p => (tyD p.1 p.2).map fun a => (.bl (isiB a T), p.2)
theorem tyX_of {r : Rf} {H : Hp} {v : V} {d : D} {st : Store} {t : String} (h : Rep K r H v d) (si : Sim K r H st) (e : tyD d st = some t) : TyX K H v (.type t) := by
  cases d with
  | non => cases h; cases e; exact .base .non
  | bl b => cases h; cases e; exact .base (.bl b)
  | int b => cases h; cases e; exact .base (.int b)
  | str b => cases h; cases e; exact .base (.str b)
  | tup ds =>
    cases e
    cases h with
    | tup a z b c => exact .fTuple a
    | tupP a b c => exact .base (.tup a)
    | tupK a b z c d f l => exact .kTuple a b
  | lst ds =>
    cases e
    cases h with
    | lst a b c => exact .base (.lst a)
  | dct ds =>
    cases e
    cases h with
    | dct a b c => exact .fDict a
  | scr ns =>
    cases e
    cases h with
    | scr a b => exact .base (.frz a)
    | scrK a b c d e f => exact .kList a b
  | ref n =>
    obtain ⟨a, rfl, hp⟩ := h.refI
    have e' : tyOb st[n]? = some t := e
    unfold tyOb at e'
    split at e'
    · rename_i xs hst
      cases e'
      obtain ⟨av, us, hx, l⟩ := si.ob n a _ hp hst
      exact .base (.lst hx)
    · rename_i xs hst
      cases e'
      obtain ⟨av, us, hx, l⟩ := si.ob n a _ hp hst
      exact .base (.dK hx)
    · rename_i xs hst
      cases e'
      obtain ⟨av, lk, o, us, hx, l⟩ := si.ob n a _ hp hst
      exact .fDict hx
    · cases e'
def tyNames : List String := ["NoneType", "bool", "int", "str", "tuple", "list", "dict"]
theorem kit_all : ∀ a ∈ tyNames, ∀ T ∈ tyNames, kitB a T = some (isiB a T) := by decide +kernel
theorem tyD_mem {d : D} {st : Store} {t : String} (e : tyD d st = some t) : t ∈ tyNames := by
  cases d with
  | ref n =>
    have e' : tyOb st[n]? = some t := e
    unfold tyOb at e'
    split at e' <;> cases e' <;> decide
  | _ => cases e; decide
theorem de_isi {a : Expr} {fa : F} {T : String} {x : Str} {p p2 pos : Pos} (ha : DE X a fa) (hT : T ∈ tyNames) (hg : Gl X "isinstance") (hm : X.mg "isinstance" = none) (hg2 : Gl X x) (hm2 : X.mg x = none) (hv : bootBuiltins x = some (.type T)) (hn : x ≠ "__name__" := by decide) (hdb : (x == ("__debug__" : Str)) = false := by decide)
    (hs : starEach [a, .Name x p2] X.env = (false, eval a X.env) :: starEach [.Name x p2] X.env := by rfl) (hs2 : starEach [.Name x p2] X.env = [(false, eval (.Name x p2) X.env)] := by rfl) (hpl : (backTo pos (starEach [.Name x p2] X.env)).any (·.1) = false := by rfl) :
    DE X (.Call (.Name "isinstance" p) [a, .Name x p2] [] pos) (fIsi T fa) :=
  weakE (pe_callB call_isi hg hm PyProof.Rows.boot_isinstance (pa_cons ha (pa_cons (pe_bltn (v := .ty T) hg2 hm2 hv rfl hn hdb) pa_nil hs2) hs) (by decide) (by decide) hs hpl) fun σ H Q hh => by
  obtain ⟨r', env, st, d, st', he, hs, hf, q⟩ := hh
  obtain ⟨⟨y, s1⟩, h1, hf1⟩ := Option.bind_eq_some_iff.mp hf
  obtain ⟨t, h2, hf2⟩ := Option.map_eq_some_iff.mp hf1
  cases hf2
  refine ⟨r', env, st, y, _, he, hs, h1, fun u r1 H1 e1 q1 p1 => ?_⟩
  exact ⟨u, .ty T, .type t, .type T, isiB t T, rfl, .ty T, tyX_of p1 q1 h2, kit_ty (kit_all t (tyD_mem h2) T hT), q _ r1 H1 e1 q1 (.bl _)⟩
/-! ### in, not in: flat items -/
def eqF : D → D → Option Bool
  | .non, .non => some true | .non, .bl _ => some false | .non, .int _ => some false | .non, .str _ => some false
  | .bl _, .non => some false | .bl a, .bl b => some (a == b) | .bl a, .int b => some ((if a then 1 else 0) == b) | .bl _, .str _ => some false
  | .int _, .non => some false | .int a, .bl b => some (a == (if b then 1 else 0)) | .int a, .int b => some (a == b) | .int _, .str _ => some false
  | .str _, .non => some false | .str _, .bl _ => some false | .str _, .int _ => some false | .str a, .str b => some (a == b)
  | _, _ => none
/-- is x among the items -/
def anyF (x : D) : List D → Option Bool
  | [] => some false
  | y :: ys => (eqF y x).bind fun b => (anyF x ys).map fun c => b || c
def flatD : D → Bool | .non => true | .bl _ => true | .int _ => true | .str _ => true | _ => false
def inSeq (neg : Bool) : D → D → Option D := fun x y => match y with
  | .lst ds => if flatD x then (anyF x ds).map fun b => .bl (if neg then !b else b) else none
  | .tup ds => if flatD x then (anyF x ds).map fun b => .bl (if neg then !b else b) else none
  | _ => none
theorem eqF_rep {r : Rf} {H : Hp} {v u : V} {a b : D} {k : Bool} (ra : Rep K r H v a) (rb : Rep K r H u b) (e : eqF a b = some k) : eqV v u = k ∧ flatV v = true ∧ flatV u = true := by
  cases a <;> cases b <;> first
    | cases e; done
    | (cases ra; cases rb; cases e; exact ⟨rfl, rfl, rfl⟩)
theorem anyF_rep {r : Rf} {H : Hp} {x : V} {a : D} (ra : Rep K r H x a) : ∀ {ds : List D} {vs : List V} {k : Bool}, RepL K r H vs ds → anyF a ds = some k → inV x vs = k ∧ vs.all flatV = true
  | [], _, _, .nil, e => by cases e; exact ⟨rfl, rfl⟩
  | d :: ds, _, k, .cons p l, e => by
    obtain ⟨b, h1, h2⟩ := Option.bind_eq_some_iff.mp (show ((eqF d a).bind fun b => (anyF a ds).map fun c => b || c) = some k from e)
    obtain ⟨c, h3, h4⟩ := Option.map_eq_some_iff.mp h2
    obtain ⟨g1, g2⟩ := anyF_rep ra l h3
    obtain ⟨g3, g4, _⟩ := eqF_rep p ra h1
    refine ⟨?_, by rw [List.all_cons, g4, g2]; rfl⟩
    unfold inV at g1 ⊢
    rw [List.any_cons, g3, g1]; exact h4
theorem flat_rep {r : Rf} {H : Hp} {x : V} {a : D} (ra : Rep K r H x a) (h : flatD a = true) : flatV x = true := by
  cases a <;> first
    | cases h; done
    | (cases ra; rfl)
theorem inSeq_ok (neg : Bool) {rho : Rf} {H : Hp} {x y : V} {a b d : D} {Q : VK} (ra : Rep K rho H x a) (rb : Rep K rho H y b) (e : inSeq neg a b = some d) (q : ∀ v H', Same H H' → Rep K rho H' v d → Q v H') : rIn K neg x y H Q := by
  cases b with
  | lst ds =>
    have e' : (if flatD a then (anyF a ds).map fun b => D.bl (if neg then !b else b) else none) = some d := e
    by_cases fl : flatD a = true
    case neg => rw [if_neg fl] at e'; cases e'
    rw [if_pos fl] at e'
    obtain ⟨k, h1, h2⟩ := Option.map_eq_some_iff.mp e'
    subst h2
    cases rb with
    | lst g1 g2 g3 =>
      obtain ⟨z1, z2⟩ := anyF_rep ra g3 h1
      refine ⟨_, _, rfl, .inl (.of g1), flat_rep ra fl, z2, ?_⟩
      rw [z1]; exact q _ H (fun _ _ h => h) (.bl _)
  | tup ds =>
    have e' : (if flatD a then (anyF a ds).map fun b => D.bl (if neg then !b else b) else none) = some d := e
    by_cases fl : flatD a = true
    case neg => rw [if_neg fl] at e'; cases e'
    rw [if_pos fl] at e'
    obtain ⟨k, h1, h2⟩ := Option.map_eq_some_iff.mp e'
    subst h2
    obtain ⟨p, us, rfl, s, l⟩ := rb.sqT
    obtain ⟨z1, z2⟩ := anyF_rep ra l h1
    refine ⟨_, _, rfl, .inr s, flat_rep ra fl, z2, ?_⟩
    rw [z1]; exact q _ H (fun _ _ h => h) (.bl _)
  | _ => cases e
theorem ok_in : OpOk X (compareOp .In) (inSeq false) := ⟨_, op_in_seq, fun rho H x y a b d st Q si ra rb e q => inSeq_ok false ra rb e q⟩
theorem ok_notin : OpOk X (compareOp .NotIn) (inSeq true) := ⟨_, op_notIn_seq, fun rho H x y a b d st Q si ra rb e q => inSeq_ok true ra rb e q⟩
end
end DL
namespace DL
open PySem PySem.Spec PyProof.Rows L2
variable {K : PySem.W.Frag}
section
variable {X : Cx} {W : WXd}
theorem GX.blk {k : Nat} (g : GX X k) {s : Shared} {H : Hp} {sc : Scope} {ce : Env} {fp : List Addr} : GX (X.blk s H sc ce fp) k := ⟨g.calm, g.nd, g.room, g.gd⟩
/-- a, b = x, y -/
def par2 (i j : Nat) (ds : List D) (env : Lo) : Option Lo := match ds with | [x, y] => some ((env.set i (some x)).set j (some y)) | _ => none
def par3 (i j l : Nat) (ds : List D) (env : Lo) : Option Lo := match ds with | [x, y, z] => some (((env.set i (some x)).set j (some y)).set l (some z)) | _ => none
theorem par2_some {i j : Nat} {ds : List D} {env e : Lo} (h : par2 i j ds env = some e) : ∃ x y, ds = [x, y] ∧ e = (env.set i (some x)).set j (some y) := by
  unfold par2 at h
  split at h
  · cases h; exact ⟨_, _, rfl, rfl⟩
  · cases h
def sPar (f : List D → Lo → Option Lo) (fa : FA) : FS := fun env st => (fa env st).bind fun p => (f p.1 env).map fun e => (.nx, e, p.2)
theorem ds_par2 (i j : Nat) {x y : Str} {a b : Expr} {fa : FA} {px py pt pos : Pos} {kt k2 : Nat} {pt2 : Pos} {k : Nat} (g : GX X k) (hi : X.N[i]? = some x) (hj : X.N[j]? = some y) (hij : i ≠ j)
    (hx : X.env.scope.names.lookup x = some .local) (hy : X.env.scope.names.lookup y = some .local) (ha : DA X [a, b] fa)
    (hw : swappedStores [.Tuple [.Name x px, .Name y py] kt pt] (.Tuple [a, b] k2 pt2) X.env = pure (some [x, y]) := by rfl)
    (hs : swapsWithSole [.Tuple [.Name x px, .Name y py] kt pt] (.Tuple [a, b] k2 pt2) pos.line X.env = pure false := by rfl) :
    DS X W (.Assign [.Tuple [.Name x px, .Name y py] kt pt] (.Tuple [a, b] k2 pt2) pos) (sPar (par2 i j) fa) := weakS (ps_par g.calm g.nd hi hj hij hx hy ha hw hs) fun D' σ H hh => by
  obtain ⟨r, env, st, o, env', st', he, hs, hf, q⟩ := hh
  obtain ⟨⟨ds, s1⟩, h1, h2⟩ := Option.bind_eq_some_iff.mp hf
  obtain ⟨e1, h3, h4⟩ := Option.map_eq_some_iff.mp h2
  cases h4
  obtain ⟨a, b, rfl, rfl⟩ := par2_some h3
  refine ⟨r, env, st, _, _, he, hs, h1, fun vs r1 H1 x1 q1 l1 => ?_⟩
  obtain ⟨v, u, rfl, p1, p2⟩ := lst2 l1
  exact ⟨v, u, rfl, q _ r1 H1 x1 (((he.ext x1).set p1 i).set p2 j) q1⟩
theorem RepL.ofStrs {r : Rf} {H : Hp} : ∀ ys : List Str, RepL K r H (ys.map V.str) (ys.map D.str)
  | [] => .nil
  | y :: ys => .cons (.str y) (RepL.ofStrs ys)
/-- a constant of the module: a tuple of texts -/
theorem de_gtupS {x : Str} {a : Addr} {o : Obj} {its : Array Value} {n : Nat} {ys : List Str} {pos : Pos} (hg : Gl X x) (hm : X.mg x = some (.ref a)) (hl : X.K.lookup a = some o) (hc : o.cls = .type "tuple") (hx : o.dict = none) (hd : o.data = .seq its n) (hz : its.size ≤ sizeLine) (hv : Vals (ys.map V.str) its.toList)
    (hdb : (x == ("__debug__" : Str)) = false := by decide) : DE X (.Name x pos) (fC (.tup (ys.map .str))) :=
  de_c (pe_glob (v := .ref a) hg hm rfl hdb) fun r H => .tupK hl hc hx hd hz hv (RepL.ofStrs ys)
end
end DL
/-! The laws' tape of draws, once for all laws. -/
namespace DL
open PySem PySem.Spec PyProof.Rows L2
open Builtin.Int (intBits)
def gTape : FS := (sSeq (sAsg (fOp opAdd (fC (.int 97)) (fOp opMul (fVar 1) (fC (.int 31)))) (gN 2)) (sSeq (sFor (iOf asScr (fVar 0)) (gN 3) (sAsg (fOp opAdd (fOp modI (fOp powI (fOp opAdd (fOp opAdd (fOp opMul (fVar 2) (fC (.int 30011))) (fOp opMul (fVar 3) (fVar 3))) (fC (.int 7))) (fC (.int 2))) (fC (.int 2147483563))) (fC (.int 2))) (gN 2))) (sSeq (sAsg (fIfE (fAndT (fTest (fOp opLt (fVar 1) (fMk bLen (aCons (fVar 0) aNil)))) (fTest (fOp opGe (fSub (fVar 0) (fVar 1)) (fOp powI (fC (.int 10)) (fC (.int 18)))))) (fOp subI (fSub (fVar 0) (fVar 1)) (fOp powI (fC (.int 10)) (fC (.int 18)))) (fC (.int 0))) (gN 4)) (sRet (fDict (((fC (.str (Str.ofString "digits"))), (fVar 4)) :: (((fC (.str (Str.ofString "mixed"))), (fVar 2)) :: [])))))))
def gPick : FS := (sSeq (sIf (fTest (fOp opGe (fSub (fVar 0) (fC (.str (Str.ofString "digits")))) (fVar 1))) (sSeq (sAsg (fOp modI (fSub (fVar 0) (fC (.str (Str.ofString "digits")))) (fVar 1)) (gN 2)) (sSeq (sPut (fVar 0) (fC (.str (Str.ofString "digits"))) (fOp fdivI (fSub (fVar 0) (fC (.str (Str.ofString "digits")))) (fVar 1))) (sRet (fVar 2)))) sNil) (sSeq (sPut (fVar 0) (fC (.str (Str.ofString "mixed"))) (fOp modI (fOp opAdd (fOp opMul (fSub (fVar 0) (fC (.str (Str.ofString "mixed")))) (fC (.int 40014))) (fC (.int 1013))) (fC (.int 2147483563)))) (sRet (fOp modI (fOp fdivI (fOp modI (fOp powI (fOp modI (fOp powI (fSub (fVar 0) (fC (.str (Str.ofString "mixed")))) (fC (.int 2))) (fC (.int 2147483399))) (fC (.int 3))) (fC (.int 998244353))) (fC (.int 5))) (fVar 1)))))
def mTape : FM := mOf 5 gTape
def mPick : FM := mOf 3 gPick
def gOne : FS := (sRet (fSub (fVar 1) (fCall mPick (aCons (fVar 0) (aCons (fMk bLen (aCons (fVar 1) aNil)) aNil)))))
def mOne : FM := mOf 2 gOne
abbrev kD : Key := .inr (Str.ofString "digits")
abbrev kM : Key := .inr (Str.ofString "mixed")
theorem kDM : ¬ Str.ofString "digits" = Str.ofString "mixed" := by decide
theorem kMD : ¬ Str.ofString "mixed" = Str.ofString "digits" := by decide
/-- the tape's pairs -/
def tapeKV (a b : Int) : List (Key × D) := [(kD, .int a), (kM, .int b)]
theorem tape_valD (a b : Int) : valD (tapeKV a b) kD = some (.int a) := by simp [valD, tapeKV]
theorem tape_valM (a b : Int) : valD (tapeKV a b) kM = some (.int b) := by simp [valD, tapeKV, kDM]
theorem tape_putD (a b c : Int) : putD (tapeKV a b) kD (.int c) = tapeKV c b := by simp [putD, tapeKV, kDM, kMD]
theorem tape_putM (a b c : Int) : putD (tapeKV a b) kM (.int c) = tapeKV a c := by simp [putD, tapeKV, kDM, kMD]
/-- the tape at n -/
structure Tp (st : Store) (n : Nat) : Prop where
  at_ : ∃ a b : Int, st[n]? = some (.dct (tapeKV a b)) ∧ 0 ≤ a ∧ 0 ≤ b ∧ b < 4294967296
/-- nothing else has changed -/
structure Fr (n : Nat) (st st' : Store) : Prop where
  len : st.length ≤ st'.length
  at_ : ∀ m, m ≠ n → m < st.length → st'[m]? = st[m]?
theorem Fr.refl (n : Nat) (st : Store) : Fr n st st := ⟨Nat.le_refl _, fun _ _ _ => rfl⟩
theorem Fr.trans {n : Nat} {a b c : Store} (x : Fr n a b) (y : Fr n b c) : Fr n a c := ⟨Nat.le_trans x.len y.len, fun m h1 h2 => (y.at_ m h1 (Nat.lt_of_lt_of_le h2 x.len)).trans (x.at_ m h1 h2)⟩
theorem Fr.set {n : Nat} {st : Store} (o : Ob) : Fr n st (st.set n o) := ⟨by rw [List.length_set]; exact Nat.le_refl _, fun m h _ => by rw [List.getElem?_set_ne (Ne.symm h)]⟩
theorem Tp.lt {st : Store} {n : Nat} (h : Tp st n) : n < st.length := let ⟨_, _, e, _⟩ := h.at_; (List.getElem?_eq_some_iff.mp e).1
theorem bits32 {x : Int} (h0 : 0 ≤ x) (h1 : x < 4294967296) : intBits x ≤ 32 := intBits_le_iff.mpr (by omega)
theorem opAdd_int (a b : Int) : opAdd (.int a) (.int b) = some (.int (a + b)) := by simp [opAdd, orD, addI, onI]
theorem opMul_int {a b : Int} {m n : Nat} (ha : intBits a ≤ m) (hb : intBits b ≤ n) (h : m + n ≤ 134217728) : opMul (.int a) (.int b) = some (.int (a * b)) := by
  have : intBits a + intBits b ≤ 134217728 := by omega
  simp [opMul, orD, mulI, onI, this]
theorem modI_int {a b : Int} (h : 0 < b) : modI (.int a) (.int b) = some (.int (a % b)) := by simp [modI, onI, h]
theorem fdivI_int {a b : Int} (h : 0 < b) (h2 : b < 1073741824) : fdivI (.int a) (.int b) = some (.int (a / b)) := by simp [fdivI, onI, h, h2]
theorem powI_int {a b : Int} {m : Nat} (h0 : 0 ≤ b) (ha : intBits a ≤ m) (h : (m : Int) * b ≤ 134217728) : powI (.int a) (.int b) = some (.int (a ^ b.toNat)) := by
  have : (intBits a : Int) * b ≤ 134217728 := Int.le_trans (Int.mul_le_mul_of_nonneg_right (Int.ofNat_le.mpr ha) h0) h
  simp [powI, onI, h0, this]
theorem opGe_int (a b : Int) : opGe (.int a) (.int b) = some (.bl (decide (b ≤ a))) := by simp [opGe, orD, geI, onI]
theorem opLt_int (a b : Int) : opLt (.int a) (.int b) = some (.bl (decide (a < b))) := by simp [opLt, orD, ltI, onI]
theorem opLe_int (a b : Int) : opLe (.int a) (.int b) = some (.bl (decide (a ≤ b))) := by simp [opLe, orD, leI, onI]
theorem opGt_int (a b : Int) : opGt (.int a) (.int b) = some (.bl (decide (b < a))) := by simp [opGt, orD, gtI, onI]
theorem subI_int (a b : Int) : subI (.int a) (.int b) = some (.int (a - b)) := by simp [subI, onI]
theorem subTape {st : Store} {n : Nat} {a b : Int} (h : st[n]? = some (.dct (tapeKV a b))) : ixD (.ref n) (.str (Str.ofString "digits")) st = some (.int a) ∧ ixD (.ref n) (.str (Str.ofString "mixed")) st = some (.int b) := by
  constructor
  · unfold ixD
    simp only [h, asKey, Option.bind_some]
    exact tape_valD a b
  · unfold ixD
    simp only [h, asKey, Option.bind_some]
    exact tape_valM a b
theorem put_ref {env : Lo} {st s1 s2 s3 : Store} {fo fk fv : F} {d : D} {n : Nat} {kd : D} {k : Key} {kvs : List (Key × D)} (h1 : fv env st = some (d, s1)) (h2 : fo env s1 = some (.ref n, s2)) (h3 : fk env s2 = some (kd, s3)) (hk : asKey kd = some k)
    (hs : s3[n]? = some (.dct kvs)) (hl : kvs.length < 1000) : sPut fo fk fv env st = some (.nx, env, s3.set n (.dct (putD kvs k d))) := by
  have : kvs.length < sizeLine := Nat.lt_of_lt_of_le hl (by decide)
  simp [sPut, h1, h2, h3, hs, hk, this]
theorem pick_ok {st : Store} {n : Nat} {s : Int} (t : Tp st n) (h0 : 0 < s) (h1 : s < 1073741824) : ∃ r st', mPick [.ref n, .int s] st = some (.int r, st') ∧ 0 ≤ r ∧ r < s ∧ Tp st' n ∧ Fr n st st' ∧ st'.length = st.length := by
  obtain ⟨a, b, e, ha, hb, hb2⟩ := t.at_
  have hn := t.lt
  obtain ⟨g1, g2⟩ := subTape e
  by_cases c : s ≤ a
  · refine ⟨a % s, st.set n (.dct (tapeKV (a / s) b)), ?_, Int.emod_nonneg _ (by omega), Int.emod_lt_of_pos _ h0, ⟨a / s, b, by rw [List.getElem?_set_self hn], Int.ediv_nonneg ha (by omega), hb, hb2⟩, .set _, by rw [List.length_set]⟩
    have p : ∀ env : Lo, env[0]? = some (some (.ref n)) → env[1]? = some (some (.int s)) → sPut (fVar 0) (fC (.str (Str.ofString "digits"))) (fOp fdivI (fSub (fVar 0) (fC (.str (Str.ofString "digits")))) (fVar 1)) env st = some (.nx, env, st.set n (.dct (tapeKV (a / s) b))) := fun env x y => by
      rw [← tape_putD a b]
      refine put_ref (s1 := st) (s2 := st) (s3 := st) (kd := .str (Str.ofString "digits")) ?_ ?_ rfl rfl e (by simp [tapeKV])
      · simp [fOp, fSub, fVar, fC, x, y, g1, fdivI_int h0 h1]
      · simp [fVar, x]
    simp [mPick, mOf, gPick, outM, startD, sSeq, sIf, fTest, asB, fOp, fSub, fVar, fC, g1, opGe_int, c, sAsg, modI_int h0, gN]
    rw [p _ rfl rfl]
    simp [sRet, fVar]
  · have hm : 0 ≤ (b * 40014 + 1013) % 2147483563 := Int.emod_nonneg _ (by decide)
    have hm2 : (b * 40014 + 1013) % 2147483563 < 2147483563 := Int.emod_lt_of_pos _ (by decide)
    have gset : (st.set n (.dct (tapeKV a ((b * 40014 + 1013) % 2147483563))))[n]? = some (.dct (tapeKV a ((b * 40014 + 1013) % 2147483563))) := by rw [List.getElem?_set_self hn]
    obtain ⟨_, g3⟩ := subTape gset
    have p : ∀ env : Lo, env[0]? = some (some (.ref n)) → sPut (fVar 0) (fC (.str (Str.ofString "mixed"))) (fOp modI (fOp opAdd (fOp opMul (fSub (fVar 0) (fC (.str (Str.ofString "mixed")))) (fC (.int 40014))) (fC (.int 1013))) (fC (.int 2147483563))) env st = some (.nx, env, st.set n (.dct (tapeKV a ((b * 40014 + 1013) % 2147483563)))) := fun env x => by
      rw [← tape_putM a b]
      refine put_ref (s1 := st) (s2 := st) (s3 := st) (kd := .str (Str.ofString "mixed")) ?_ ?_ rfl rfl e (by simp [tapeKV])
      · simp [fOp, fSub, fVar, fC, x, g2, opMul_int (bits32 hb hb2) (bits32 (x := 40014) (by decide) (by decide)) (by decide), opAdd_int, modI_int (b := 2147483563) (by decide)]
      · simp [fVar, x]
    generalize hw : (b * 40014 + 1013) % 2147483563 = w at *
    have b1 : intBits w ≤ 32 := bits32 hm (by omega)
    have h5 : 0 ≤ w ^ 2 % 2147483399 := Int.emod_nonneg _ (by decide)
    have h6 : w ^ 2 % 2147483399 < 2147483399 := Int.emod_lt_of_pos _ (by decide)
    have b2 : intBits (w ^ 2 % 2147483399) ≤ 32 := bits32 h5 (by omega)
    refine ⟨(w ^ 2 % 2147483399) ^ 3 % 998244353 / 5 % s, st.set n (.dct (tapeKV a w)), ?_, Int.emod_nonneg _ (by omega), Int.emod_lt_of_pos _ h0, ⟨a, w, gset, ha, hm, by omega⟩, .set _, by rw [List.length_set]⟩
    simp [mPick, mOf, gPick, outM, startD, sSeq, sIf, fTest, asB, fOp, fSub, fVar, fC, g1, opGe_int, c, sNil]
    rw [p _ rfl]
    have q1 := powI_int (a := w) (b := 2) (by decide) b1 (by decide)
    have q2 := powI_int (a := w ^ 2 % 2147483399) (b := 3) (by decide) b2 (by decide)
    simp only [show (2 : Int).toNat = 2 from rfl, show (3 : Int).toNat = 3 from rfl] at q1 q2
    simp [sRet, fOp, fSub, fVar, fC, g3, q1, modI_int (b := 2147483399) (by decide), q2, modI_int (b := 998244353) (by decide), fdivI_int (b := 5) (by decide) (by decide), modI_int h0]
theorem atI_lt {α : Type} {xs : List α} {i : Int} (h0 : 0 ≤ i) (h1 : i < xs.length) : ∃ d, L2.atI xs i = some d ∧ d ∈ xs := by
  have hi : i.toNat < xs.length := by omega
  refine ⟨xs[i.toNat], ?_, List.getElem_mem hi⟩
  have := atI_nat (xs := xs) (j := i.toNat) (List.getElem?_eq_getElem hi)
  rwa [Int.toNat_of_nonneg h0] at this
theorem one_ok {st : Store} {n : Nat} {xs : List D} (t : Tp st n) (h0 : 0 < xs.length) (h1 : xs.length < 1073741824) : ∃ d st', mOne [.ref n, .lst xs] st = some (d, st') ∧ d ∈ xs ∧ Tp st' n ∧ Fr n st st' ∧ st'.length = st.length := by
  obtain ⟨r, st', h, hr0, hr1, t', f, l⟩ := pick_ok t (s := (xs.length : Int)) (by omega) (by omega)
  obtain ⟨d, hd, hm⟩ := atI_lt hr0 hr1
  refine ⟨d, st', ?_, hm, t', f, l⟩
  simp [mOne, mOf, gOne, outM, startD, sRet, fSub, fVar, fCall, aCons, aNil, fMk, bLen, lenL, h, ixD, hd]
abbrev bTape : FS := (sAsg (fOp opAdd (fOp modI (fOp powI (fOp opAdd (fOp opAdd (fOp opMul (fVar 2) (fC (.int 30011))) (fOp opMul (fVar 3) (fVar 3))) (fC (.int 7))) (fC (.int 2))) (fC (.int 2147483563))) (fC (.int 2))) (gN 2))
theorem tape_loop {s t y : Option D} {st : Store} : ∀ (ns : List Int), (∀ z ∈ ns, intBits z ≤ 1048576) → ∀ (m : Int) (x : Option D), 0 ≤ m → m < 4294967296 →
    ∃ m' x', loopS (gN 3) bTape (ns.map .int) [s, t, some (.int m), x, y] st = some (.nx, [s, t, some (.int m'), x', y], st) ∧ 0 ≤ m' ∧ m' < 4294967296
  | [], _, m, x, h0, h1 => ⟨m, x, rfl, h0, h1⟩
  | z :: ns, hb, m, x, h0, h1 => by
    have hz := hb z List.mem_cons_self
    have b1 : intBits (m * 30011) ≤ 32 + 32 := intBits_mul_le (bits32 h0 h1) (bits32 (x := 30011) (by decide) (by decide))
    have b2 : intBits (z * z) ≤ 1048576 + 1048576 := intBits_mul_le hz hz
    have b3 : intBits (m * 30011 + z * z) ≤ 2097152 + 1 := Nat.le_trans (intBits_add_le b1 b2) (by decide)
    have b4 : intBits (m * 30011 + z * z + 7) ≤ 2097153 + 1 := Nat.le_trans (intBits_add_le b3 (bits32 (x := 7) (by decide) (by decide))) (by decide)
    have q := powI_int (a := m * 30011 + z * z + 7) (b := 2) (by decide) b4 (by decide)
    have h2 : 0 ≤ (m * 30011 + z * z + 7) ^ (2 : Int).toNat % 2147483563 := Int.emod_nonneg _ (by decide)
    have h3 : (m * 30011 + z * z + 7) ^ (2 : Int).toNat % 2147483563 < 2147483563 := Int.emod_lt_of_pos _ (by decide)
    obtain ⟨m', x', e, g0, g1⟩ := tape_loop (s := s) (t := t) (y := y) (st := st) ns (fun w hw => hb w (List.mem_cons_of_mem _ hw)) ((m * 30011 + z * z + 7) ^ (2 : Int).toNat % 2147483563 + 2) (some (.int z)) (by omega) (by omega)
    refine ⟨m', x', ?_, g0, g1⟩
    rw [← e, List.map_cons]
    generalize (m * 30011 + z * z + 7) ^ (2 : Int).toNat = w at *
    simp [loopS, gN, bTape, sAsg, fOp, fVar, fC, opMul_int (bits32 h0 h1) (bits32 (x := 30011) (by decide) (by decide)) (by decide), opMul_int hz hz (by decide), opAdd_int, q, modI_int (b := 2147483563) (by decide)]
theorem tape_ok {st : Store} {ns : List Int} {s : Int} (hb : ∀ z ∈ ns, intBits z ≤ 1048576) (h0 : 0 ≤ s) (h1 : s < 1000) : ∃ st', mTape [.scr ns, .int s] st = some (.ref st.length, st') ∧ st'.length = st.length + 1 ∧ Tp st' st.length ∧ ∀ m, m < st.length → st'[m]? = st[m]? := by
  obtain ⟨m', x', e, g0, g1⟩ := tape_loop (s := some (.scr ns)) (t := some (.int s)) (y := none) (st := st) ns hb (97 + s * 31) none (by omega) (by omega)
  have q := powI_int (a := 10) (b := 18) (by decide) (bits32 (by decide) (by decide)) (by decide)
  have b1 : intBits s ≤ 32 := bits32 h0 (by omega)
  -- the digits
  obtain ⟨d, hd, hd0⟩ : ∃ d : Int, (fIfE (fAndT (fTest (fOp opLt (fVar 1) (fMk bLen (aCons (fVar 0) aNil)))) (fTest (fOp opGe (fSub (fVar 0) (fVar 1)) (fOp powI (fC (.int 10)) (fC (.int 18)))))) (fOp subI (fSub (fVar 0) (fVar 1)) (fOp powI (fC (.int 10)) (fC (.int 18)))) (fC (.int 0)))
      [some (.scr ns), some (.int s), some (.int m'), x', none] st = some (.int d, st) ∧ 0 ≤ d := by
    by_cases c : s < ns.length
    · obtain ⟨z, hz, _⟩ := atI_lt h0 c
      by_cases c2 : (1000000000000000000 : Int) ≤ z
      · exact ⟨z - 1000000000000000000, by simp [fIfE, fAndT, fTest, fOp, fVar, fMk, aCons, aNil, bLen, lenL, opLt_int, asB, c, fSub, ixD, hz, fC, q, opGe_int, c2, subI_int], by omega⟩
      · exact ⟨0, by simp [fIfE, fAndT, fTest, fOp, fVar, fMk, aCons, aNil, bLen, lenL, opLt_int, asB, c, fSub, ixD, hz, fC, q, opGe_int, c2], by omega⟩
    · exact ⟨0, by simp [fIfE, fAndT, fTest, fOp, fVar, fMk, aCons, aNil, bLen, lenL, opLt_int, asB, c, fC], by omega⟩
  refine ⟨st ++ [.dct (tapeKV d m')], ?_, by simp, ⟨d, m', by simp, hd0, g0, g1⟩, fun m hm => by rw [List.getElem?_append_left hm]⟩
  have e' : loopS (gN 3) bTape (ns.map D.int) [some (.scr ns), some (.int s), some (.int (97 + s * 31)), none, none] st = some (.nx, [some (.scr ns), some (.int s), some (.int m'), x', none], st) := e
  simp only [bTape] at e'
  simp [mTape, mOf, gTape, outM, startD, sSeq, sAsg, fOp, fVar, fC, opMul_int b1 (bits32 (x := 31) (by decide) (by decide)) (by decide), opAdd_int, gN, sFor, iOf, asScr, e', hd]
  simp [sRet, fDict, evP, fC, fVar, asKey, mergeD, putD, kDM, tapeKV]
end DL
/-! Plain texts, flat values, loops with an invariant. -/
namespace DL
open PySem PySem.Spec PyProof.Rows L2 TL
open Builtin.Int (intBits)
/-- at most n signs, all of ASCII -/
def GS (n : Nat) (x : Str) : Prop := x.length ≤ n ∧ ∀ c ∈ tl x, c < 128
theorem GS.mono {m n : Nat} {x : Str} (h : GS m x) (l : m ≤ n) : GS n x := ⟨Nat.le_trans h.1 l, h.2⟩
theorem GS.append {m n : Nat} {x y : Str} (a : GS m x) (b : GS n y) : GS (m + n) (x ++ y) := by
  refine ⟨?_, fun c hc => ?_⟩
  · rw [len_tl, tl_append, List.length_append, ← len_tl, ← len_tl]
    have := a.1
    have := b.1
    omega
  · rw [tl_append] at hc
    rcases List.mem_append.mp hc with h | h
    · exact a.2 c h
    · exact b.2 c h
theorem joinL_nil : ∀ ps : List (List Nat), joinL [] ps = ps.flatten
  | [] => rfl
  | [p] => by simp [joinL]
  | p :: q :: r => by
    have := joinL_nil (q :: r)
    simp only [joinL] at this ⊢
    rw [this]
    simp
theorem tl_join0 (ps : List Str) : tl (Txt.join (Str.ofString "") ps) = (ps.map tl).flatten := by
  rw [join_eq, tl_join, show tl (Str.ofString "") = [] from rfl, joinL_nil]
theorem GS.join {m : Nat} : ∀ {ps : List Str}, (∀ p ∈ ps, GS m p) → GS (ps.length * m) (Txt.join (Str.ofString "") ps) := fun {ps} h => by
  unfold GS
  rw [len_tl, tl_join0]
  induction ps with
  | nil => exact ⟨Nat.zero_le _, fun c hc => by cases hc⟩
  | cons p ps ih =>
    obtain ⟨i1, i2⟩ := ih fun q hq => h q (List.mem_cons_of_mem _ hq)
    obtain ⟨j1, j2⟩ := h p List.mem_cons_self
    rw [len_tl] at j1
    refine ⟨?_, fun c hc => ?_⟩
    · rw [List.map_cons, List.flatten_cons, List.length_append, List.length_cons, Nat.succ_mul]
      omega
    · rw [List.map_cons, List.flatten_cons] at hc
      rcases List.mem_append.mp hc with z | z
      · exact j2 c z
      · exact i2 c z
theorem GS.ok {n : Nat} {x : Str} (h : GS n x) : SeqAt.shaped (.str x) = true := by
  have : PyData.canLay0 (.str x) = true := by
    unfold PyData.canLay0
    unfold PyData.strOk
    rw [Array.all_eq_true]
    intro i hi
    have := h.2 x.cps[i] (by unfold tl; simp)
    exact decide_eq_true (by omega)
  unfold SeqAt.shaped
  rw [this]
  simp [PyData.depth]
/-- a flat value: None, an int, a text of at most n signs -/
def FV (n : Nat) : D → Prop | .non => True | .int _ => True | .str x => GS n x | _ => False
theorem FV.mono {m n : Nat} (l : m ≤ n) : ∀ {d : D}, FV m d → FV n d
  | .non, _ => trivial
  | .int _, _ => trivial
  | .str _, h => GS.mono h l
  | .bl _, h => h.elim
  | .tup _, h => h.elim
  | .lst _, h => h.elim
  | .dct _, h => h.elim
  | .scr _, h => h.elim
  | .ref _, h => h.elim
def vEq : D → D → Bool | .non, .non => true | .int a, .int b => a == b | .str a, .str b => a == b | _, _ => false
theorem opEq_fv {m n : Nat} {a b : D} (ha : FV m a) (hb : FV n b) : opEq a b = some (.bl (vEq a b)) := by
  cases a <;> cases b <;> first
    | exact ha.elim
    | exact hb.elim
    | skip
  all_goals simp only [opEq, toPy, Option.bind_some]
  all_goals first
    | rfl
    | (rw [if_pos ⟨rfl, GS.ok hb⟩]; rfl)
    | (rw [if_pos ⟨GS.ok ha, rfl⟩]; rfl)
    | (rw [if_pos ⟨GS.ok ha, GS.ok hb⟩]; rfl)
theorem opNe_fv {m n : Nat} {a b : D} (ha : FV m a) (hb : FV n b) : opNe a b = some (.bl (!vEq a b)) := by
  cases a <;> cases b <;> first
    | exact ha.elim
    | exact hb.elim
    | skip
  all_goals simp only [opNe, toPy, Option.bind_some]
  all_goals first
    | rfl
    | (rw [if_pos ⟨rfl, GS.ok hb⟩]; rfl)
    | (rw [if_pos ⟨GS.ok ha, rfl⟩]; rfl)
    | (rw [if_pos ⟨GS.ok ha, GS.ok hb⟩]; rfl)
theorem opEq_int (a b : Int) : opEq (.int a) (.int b) = some (.bl (a == b)) := opEq_fv (m := 0) (n := 0) (a := .int a) (b := .int b) trivial trivial
theorem opNe_int (a b : Int) : opNe (.int a) (.int b) = some (.bl (!(a == b))) := opNe_fv (m := 0) (n := 0) (a := .int a) (b := .int b) trivial trivial
theorem opLt_str (a b : Str) : opLt (.str a) (.str b) = some (.bl (decide (tl a < tl b))) := by simp [opLt, orD, ltI, ltS, onI, onS]
theorem opAdd_str {a b : Str} (h : a.length + b.length ≤ 16777216) : opAdd (.str a) (.str b) = some (.str (a ++ b)) := by
  have : a.length + b.length ≤ sizeLine := by rw [sizeLine_eq]; exact h
  simp [opAdd, orD, addI, addS, onI, onS, this]
/-! ### loops -/
/-- a for that runs through, by what holds between the turns -/
theorem loopS_inv {tg : FG} {body : FS} (I : Lo → Store → Prop) : ∀ {ds : List D}, (∀ d ∈ ds, ∀ env st, I env st → ∃ e1, tg d env = some e1 ∧ ∃ o e2 s2, body e1 st = some (o, e2, s2) ∧ (o = .nx ∨ o = .ct) ∧ I e2 s2) →
    ∀ {env : Lo} {st : Store}, I env st → ∃ e2 s2, loopS tg body ds env st = some (.nx, e2, s2) ∧ I e2 s2
  | [], _, env, st, i => ⟨env, st, rfl, i⟩
  | d :: ds, h, env, st, i => by
    obtain ⟨e1, h1, o, e2, s2, h2, ho, i2⟩ := h d List.mem_cons_self env st i
    obtain ⟨e3, s3, h3, i3⟩ := loopS_inv I (fun d hd => h d (List.mem_cons_of_mem _ hd)) i2
    refine ⟨e3, s3, ?_, i3⟩
    rcases ho with rfl | rfl
    · simp [loopS, h1, h2, h3]
    · simp [loopS, h1, h2, h3]
theorem rg_len (lo hi : Int) : (rg lo hi).length = (hi - lo).toNat := by simp [rg]
theorem rg_mem {lo hi : Int} {d : D} (h : d ∈ rg lo hi) : ∃ i : Int, d = .int i ∧ lo ≤ i ∧ i < hi := by
  unfold rg at h
  obtain ⟨k, hk, e⟩ := List.mem_map.mp h
  subst e
  have := List.mem_range.mp hk
  exact ⟨_, rfl, by omega, by omega⟩
theorem asR1_ok {n : Int} (h0 : 0 ≤ n) (h1 : n < 1000000) : asR1 [.int n] = some (rg 0 n) := by
  have : -(2 ^ 62) ≤ n ∧ n < 2 ^ 62 := by omega
  simp only [asR1, if_pos this]
end DL
namespace DL
open PySem PySem.Spec PyProof.Rows L2 TL
/-- .. that lay nothing -/
theorem loopC_draw2 {is : List Nat} {bd : FB} {f : F} {n : Nat} {P : D → Prop} {env : Lo} : ∀ {ds : List D}, (∀ d ∈ ds, ∃ vs, bd d = some vs ∧ ∀ st, Tp st n → ∃ v st', f (setL is vs env) st = some (v, st') ∧ P v ∧ Tp st' n ∧ Fr n st st' ∧ st'.length = st.length) →
    ∀ {st : Store}, Tp st n → ∃ vs st', loopC is bd tTrue f ds env st = some (vs, st') ∧ vs.length = ds.length ∧ (∀ v ∈ vs, P v) ∧ Tp st' n ∧ Fr n st st' ∧ st'.length = st.length
  | [], _, st, t => ⟨[], st, rfl, rfl, fun _ h => (by cases h), t, .refl _ _, rfl⟩
  | d :: ds, h, st, t => by
    obtain ⟨ws, hb, hf⟩ := h d List.mem_cons_self
    obtain ⟨v, s1, h1, pv, t1, f1, l1⟩ := hf st t
    obtain ⟨vs, s2, h2, l2, p2, t2, f2, g2⟩ := loopC_draw2 (fun d hd => h d (List.mem_cons_of_mem _ hd)) t1
    refine ⟨v :: vs, s2, by simp [loopC, hb, tTrue, h1, h2], by simp [l2], fun w hw => ?_, t2, f1.trans f2, by rw [g2, l1]⟩
    rcases List.mem_cons.mp hw with rfl | hw
    · exact pv
    · exact p2 w hw
/-- a comprehension that changes nothing -/
theorem loopC_map {is : List Nat} {bd : FB} {f : F} {g : D → D} {env : Lo} {st : Store} : ∀ {ds : List D}, (∀ d ∈ ds, ∃ vs, bd d = some vs ∧ f (setL is vs env) st = some (g d, st)) → loopC is bd tTrue f ds env st = some (ds.map g, st)
  | [], _ => rfl
  | d :: ds, h => by
    obtain ⟨ws, hb, hf⟩ := h d List.mem_cons_self
    have := loopC_map (ds := ds) fun d hd => h d (List.mem_cons_of_mem _ hd)
    simp [loopC, hb, tTrue, hf, this]
end DL
/-! More operations: nested data in a list or tuple, pairs in order, slices of texts, repr, a def that answers nothing. -/
namespace DL
open PySem PySem.Spec PyProof.Rows L2 TL
variable {K : PySem.W.Frag}
/-- at fuel 0 -/
theorem FnD.nil {P : Program} {w : World} {mg : Str → Option Value} {base : Heap} {k : Nat} {f : Addr} {fd : FuncData} {ps : List Str} : FnD P w K mg base k f fd ps (fun _ _ => none) :=
  ⟨fun _ _ _ _ _ _ _ _ _ _ _ _ _ _ _ _ _ _ _ _ _ h => by cases h⟩
section
variable {X : Cx} {W : WXd}
/-! ### in, nested data -/
/-! ### (a, b) < (c, d), flat -/
/-! ### z[lo:hi] of a text -/
/-! ### repr -/
/-- what repr shows of x, if it is no more than may be shown -/
def shownD (d : PyData) : Option D := if d.hasDict = false ∧ d.showable = true ∧ d.depth ≤ 64 ∧ d.shown.length ≤ sizeLine then some (.str d.shown) else none
end
end DL
/-! Small data: what may be compared and shown. -/
namespace DL
open PySem PySem.Spec PyProof.Rows L2 TL
variable {K : PySem.W.Frag}
section
variable {X : Cx} {W : WXd}
def opNeS : D → D → Option D := onS (fun _ _ => True) fun i j => .bl (!decide (i = j))
theorem ok_neS : OpOk X (compareOp .NotEq) opNeS := ⟨_, op_ne, fun rho H x y a b d st Q si ra rb e q => by
  obtain ⟨i, j, rfl, rfl, z, rfl⟩ := onS_some e
  cases ra
  cases rb
  refine ⟨rfl, ?_⟩
  have : decide (V.str i = V.str j) = decide (i = j) := by by_cases h : i = j <;> simp [h]
  rw [this]
  exact q _ H (fun _ _ h => h) (.bl _)⟩
theorem opNeS_same (x : Str) : opNeS (.str x) (.str x) = some (.bl false) := by simp [opNeS, onS]
end
/-- small data: of depth dp at most, of weight wt at most -/
def Sm (dp wt : Nat) (d : D) : Prop := ∃ p, toPy d = some p ∧ p.canLay0 = true ∧ p.depth ≤ dp ∧ p.weight ≤ wt ∧ p.intsShort 13 = true ∧ p.showable = true
def SmL (dp wt : Nat) (ds : List D) : Prop := ∃ ps, toPyL ds = some ps ∧ PyData.canLayAll0 ps = true ∧ PyData.depthAll ps ≤ dp ∧ PyData.weightAll ps ≤ wt ∧ PyData.intsShortAll 13 ps = true ∧ PyData.showableAll ps = true
theorem Sm.mono {dp wt dp' wt' : Nat} {d : D} (h : Sm dp wt d) (a : dp ≤ dp') (b : wt ≤ wt') : Sm dp' wt' d := let ⟨p, h1, h2, h3, h4, h5⟩ := h; ⟨p, h1, h2, Nat.le_trans h3 a, Nat.le_trans h4 b, h5⟩
theorem SmL.mono {dp wt dp' wt' : Nat} {d : List D} (h : SmL dp wt d) (a : dp ≤ dp') (b : wt ≤ wt') : SmL dp' wt' d := let ⟨p, h1, h2, h3, h4, h5⟩ := h; ⟨p, h1, h2, Nat.le_trans h3 a, Nat.le_trans h4 b, h5⟩
theorem SmL.nil : SmL 0 0 [] := ⟨[], rfl, rfl, Nat.le_refl _, Nat.le_refl _, rfl, rfl⟩
theorem SmL.cons {dp wt wt' : Nat} {d : D} {ds : List D} (h : Sm dp wt d) (t : SmL dp wt' ds) : SmL dp (wt + 1 + wt') (d :: ds) := by
  obtain ⟨p, h1, h2, h3, h4, h5, h6⟩ := h
  obtain ⟨ps, t1, t2, t3, t4, t5, t6⟩ := t
  refine ⟨p :: ps, by simp [toPyL, h1, t1], by simp [PyData.canLayAll0, h2, t2], ?_, ?_, by simp [PyData.intsShortAll, h5, t5], by simp [PyData.showableAll, h6, t6]⟩
  · rw [PyData.depthAll]
    exact Nat.max_le.mpr ⟨h3, t3⟩
  · rw [PyData.weightAll]
    omega
theorem SmL.all {dp wt : Nat} : ∀ {ds : List D}, (∀ d ∈ ds, Sm dp wt d) → SmL dp (ds.length * (wt + 1)) ds
  | [], _ => SmL.nil.mono (Nat.zero_le _) (Nat.zero_le _)
  | d :: ds, h => (SmL.cons (h d List.mem_cons_self) (SmL.all fun x hx => h x (List.mem_cons_of_mem _ hx))).mono (Nat.le_refl _) (by rw [List.length_cons, Nat.succ_mul]; omega)
theorem Sm.tup {dp wt : Nat} {ds : List D} (h : SmL dp wt ds) : Sm (dp + 1) wt (.tup ds) := by
  obtain ⟨ps, t1, t2, t3, t4, t5, t6⟩ := h
  exact ⟨.tuple ps, by simp [toPy, t1], by simpa [PyData.canLay0] using t2, by simpa [PyData.depth] using t3, by simpa [PyData.weight] using t4, by simpa [PyData.intsShort] using t5, by simpa [PyData.showable] using t6⟩
theorem Sm.lst {dp wt : Nat} {ds : List D} (h : SmL dp wt ds) : Sm (dp + 1) wt (.lst ds) := by
  obtain ⟨ps, t1, t2, t3, t4, t5, t6⟩ := h
  exact ⟨.list ps, by simp [toPy, t1], by simpa [PyData.canLay0] using t2, by simpa [PyData.depth] using t3, by simpa [PyData.weight] using t4, by simpa [PyData.intsShort] using t5, by simpa [PyData.showable] using t6⟩
theorem Sm.non : Sm 0 0 .non := ⟨.none, rfl, rfl, Nat.le_refl _, Nat.le_refl _, rfl, rfl⟩
theorem Sm.bl (b : Bool) : Sm 0 0 (.bl b) := ⟨.bool b, rfl, rfl, Nat.le_refl _, Nat.le_refl _, rfl, rfl⟩
theorem Sm.int {i : Int} (h : -1000000000000 < i ∧ i < 1000000000000) : Sm 0 40 (.int i) := by
  have hn : i.natAbs < 10 ^ 12 := by omega
  have hl : i.natAbs.log2 < 40 := by
    by_cases z : i.natAbs = 0
    · rw [z]; decide
    · exact (Nat.log2_lt z).mpr (by omega)
  refine ⟨.int i, rfl, rfl, Nat.le_refl _, ?_, ?_, ?_⟩
  · rw [PyData.weight]
    split
    · exact Nat.zero_le _
    · omega
  · rw [PyData.intsShort, PyData.shown]
    have h0 := int_text_length_le10 (a := i) (k := 12) (by decide) hn
    refine decide_eq_true ?_
    rw [PySem.ofString_length]
    exact h0
  · rw [PyData.showable]
    exact decide_eq_true (by omega)
theorem Sm.str {n : Nat} {x : Str} (h : GS n x) : Sm 0 n (.str x) := by
  refine ⟨.str x, rfl, ?_, Nat.le_refl _, ?_, rfl, rfl⟩
  · have := h.ok
    unfold SeqAt.shaped at this
    exact (Bool.and_eq_true_iff.mp this).1
  · rw [PyData.weight]
    exact h.1
theorem Sm.shaped {dp wt : Nat} {d : D} (h : Sm dp wt d) (l : dp ≤ 64) : ∃ p, toPy d = some p ∧ SeqAt.shaped p = true := by
  obtain ⟨p, h1, h2, h3, h4, h5, h6⟩ := h
  refine ⟨p, h1, ?_⟩
  unfold SeqAt.shaped
  rw [h2, decide_eq_true (Nat.le_trans h3 l)]
  rfl
theorem Sm.shown {dp wt : Nat} {d : D} (h : Sm dp wt d) (l : dp ≤ 64) (m : wt ≤ 1048576) : ∃ x, (toPy d).bind shownD = some (.str x) := by
  obtain ⟨p, h1, h2, h3, h4, h5, h6⟩ := h
  have hl : PyData.layable0 p = true := by
    unfold PyData.layable0
    rw [h2, decide_eq_true (Nat.le_trans h3 l), decide_eq_true (show p.weight ≤ 2 ^ 20 from Nat.le_trans h4 m)]
    rfl
  have hs : p.shown.length ≤ sizeLine := Nat.le_trans (shown_le13 hl h5) (by rw [sizeLine_eq]; decide)
  have hd := PyData.hasDict_of_layable hl
  exact ⟨p.shown, by rw [h1, Option.bind_some]; unfold shownD; rw [if_pos ⟨hd, h6, Nat.le_trans h3 l, hs⟩]⟩
end DL
/-! == of anything and a text; a tuple and (). -/
namespace DL
open PySem PySem.Spec PyProof.Rows L2 TL
end DL
/-! repr of anything. -/
namespace DL
open PySem PySem.Spec PyProof.Rows L2 TL
variable {K : PySem.W.Frag}
mutual
def toPyR : D → Option PyData
  | .non => some .none
  | .bl b => some (.bool b)
  | .int i => some (.int i)
  | .str x => some (.str x)
  | .tup ds => (toPyRL ds).map .tuple
  | .lst ds => (toPyRL ds).map .list
  | .dct [] => some (.dict [])
  | .dct (_ :: _) => none
  | .scr _ => none
  | .ref _ => none
def toPyRL : List D → Option (List PyData)
  | [] => some []
  | d :: ds => (toPyR d).bind fun p => (toPyRL ds).map fun q => p :: q
end
section
variable {X : Cx} {W : WXd} {pins : List (Addr × Obj)} {σ : L2.St} {H : Hp} {s : Shared} {rho : Rf}
theorem dict_nil (I : Inv X pins σ H s) {a : Addr} {xs : List (Key × V)} (h : Rd H a (.dK xs)) (e : xs = []) : ∃ o es ep, s.heap.get? a = some o ∧ o.cls = .type "dict" ∧ o.data = .dict es ep ∧ es.toList = [] ∧ (a == sysModules) = false := by
  subst e
  obtain ⟨_, ns, vs, kv, ⟨o, es, ep, ho, ⟨hc, _, _⟩, hd, _, hp, _⟩⟩ := (show ObjOk X.prog X.w H s.heap a (.dK []) from h.ok I.hok)
  unfold KV at kv
  cases kv
  refine ⟨o, es, ep, ho, hc, hd, ?_, ns⟩
  generalize es.toList = l at *
  cases hp
  rfl
/-- what can be read back, with what shows it -/
def Shows (X : Cx) (s : Shared) (u : Value) (p : PyData) : Prop := (∃ as, Reads s.heap u p as) ∧ ∃ bs, ReadAtMost s.heap p.depth bs ∧ ReprK X.prog X.w bs s.heap p.depth u p.shown
def ShowsL (X : Cx) (s : Shared) (us : List Value) (ps : List PyData) : Prop := (∃ as, ReadsAll s.heap us ps as) ∧ ∃ bs, ReadAtMost s.heap (PyData.depthAll ps) bs ∧ ReprAllK X.prog X.w bs s.heap (PyData.depthAll ps) us (PyData.shownAll ps)
theorem shows_flat {u : Value} {p : PyData} (r : Reads s.heap u p []) (h : ReprIs X.prog X.w u p.shown) : Shows X s u p := ⟨⟨[], r⟩, [], (fun _ z => nomatch z), .of_is h _ _ _⟩
mutual
theorem shows_of (I : Inv X pins σ H s) : ∀ (d : D) {v : V} {u : Value} {p : PyData}, Rep X.K rho H v d → RelV v u → toPyR d = some p → p.showable = true → p.shown.length ≤ sizeLine → Shows X s u p
  | .non, _, _, _, r, rv, e, _, _ => by
    cases r
    cases rv
    cases e
    exact shows_flat .none .none
  | .bl b, _, _, _, r, rv, e, _, _ => by
    cases r
    cases rv
    cases e
    exact shows_flat (.bool b) (.bool b)
  | .int i, _, _, _, r, rv, e, sh, _ => by
    cases r
    obtain ⟨t, rfl⟩ := rv
    cases e
    exact shows_flat (.int i t) (.int t (of_decide_eq_true (show decide (i.natAbs.log2 < 1920) = true from sh)))
  | .str x, _, _, _, r, rv, e, _, z => by
    cases r
    obtain ⟨t, rfl⟩ := rv
    cases e
    exact shows_flat (.str x t) (.str x t z)
  | .scr _, _, _, _, _, _, e, _, _ => by cases e
  | .ref _, _, _, _, _, _, e, _, _ => by cases e
  | .dct (_ :: _), _, _, _, _, _, e, _, _ => by cases e
  | .dct [], _, _, _, r, rv, e, _, _ => by
    cases e
    cases r with
    | dct g1 g2 g3 =>
      cases g3
      cases rv
      obtain ⟨o, es, ep, ho, hc, hd, hn, hs⟩ := dict_nil I (.inr ⟨_, g1⟩) rfl
      have rd : Reads s.heap (.ref _) (.dict []) _ := .dict (as := []) (bs := []) ho hc hd (by rw [hn]; exact .nil) (by rw [hn]; exact .nil)
      exact ⟨⟨_, rd⟩, [_], fun b hb => by
        rw [List.mem_singleton.mp hb]
        exact ⟨_, _, rd, Nat.le_refl _⟩, ReprK.dict (d := 0) ho hc hd hs (by simp) (by rw [hn]; exact .nil)⟩
  | .tup ds, _, _, _, r, rv, e, sh, z => by
    obtain ⟨ps, e1, e2⟩ := Option.map_eq_some_iff.mp (show (toPyRL ds).map PyData.tuple = some _ from e)
    subst e2
    obtain ⟨a, us, rfl, sq, l⟩ := r.sqT
    cases rv
    obtain ⟨its, r1, ⟨o, ho, hc, n, hd⟩, _⟩ := I.tuple sq
    obtain ⟨⟨as, ra⟩, bs, hb, hk⟩ := showsL_of I ds l r1 e1 sh fun t ht => Nat.le_trans (tupleText_mem_le ht) z
    have rd : Reads s.heap (.ref a) (.tuple ps) as := .tuple ho hc hd ra
    have na : a ∉ bs := not_mem_of_deeper rd (Nat.lt_succ_self _) hb
    exact ⟨⟨as, rd⟩, a :: bs, ReadAtMost.cons rd (Nat.le_succ _) hb, ReprK.tuple ho hc hd na hk⟩
  | .lst ds, _, _, _, r, rv, e, sh, z => by
    obtain ⟨ps, e1, e2⟩ := Option.map_eq_some_iff.mp (show (toPyRL ds).map PyData.list = some _ from e)
    subst e2
    cases r with
    | lst g1 g2 g3 =>
      rename_i a us
      cases rv
      obtain ⟨its, r1, ⟨⟨o, n, ho, hc, hx, hd⟩, hz⟩⟩ := I.list (.of g1)
      obtain ⟨⟨as, ra⟩, bs, hb, hk⟩ := showsL_of I ds g3 r1 e1 sh fun t ht => Nat.le_trans (listText_mem_le ht) z
      have rd : Reads s.heap (.ref a) (.list ps) (a :: as) := .list ho hc hd ra
      have na : a ∉ bs := not_mem_of_deeper rd (Nat.lt_succ_self _) hb
      refine ⟨⟨_, rd⟩, a :: bs, ReadAtMost.cons rd (Nat.le_succ _) hb, ?_⟩
      cases its with
      | nil =>
        cases ra
        exact ReprK.listEmpty ho hc hd
      | cons w ws => exact ReprK.list ho hc hd na (by simpa using hk.length_eq) fun i y q => hk.item i y (by simpa using q)
theorem showsL_of (I : Inv X pins σ H s) : ∀ (ds : List D) {vs : List V} {us : List Value} {ps : List PyData}, RepL X.K rho H vs ds → Vals vs us → toPyRL ds = some ps → PyData.showableAll ps = true → (∀ t ∈ PyData.shownAll ps, t.length ≤ sizeLine) → ShowsL X s us ps
  | [], _, _, _, .nil, .nil, e, _, _ => by
    cases e
    exact ⟨⟨[], .nil⟩, [], (fun _ z => nomatch z), .nil⟩
  | d :: ds, _, _, ps, .cons r l, .cons rv rt, e, sh, z => by
    obtain ⟨p, e1, e2⟩ := Option.bind_eq_some_iff.mp (show ((toPyR d).bind fun p => (toPyRL ds).map fun q => p :: q) = some ps from e)
    obtain ⟨qs, e3, e4⟩ := Option.map_eq_some_iff.mp e2
    subst e4
    have sh2 : p.showable = true ∧ PyData.showableAll qs = true := Bool.and_eq_true_iff.mp (show (p.showable && PyData.showableAll qs) = true from sh)
    obtain ⟨⟨as, ra⟩, b1, hb1, k1⟩ := shows_of I d r rv e1 sh2.1 (z _ (List.mem_cons_self (a := p.shown) (l := PyData.shownAll qs)))
    obtain ⟨⟨as2, ra2⟩, b2, hb2, k2⟩ := showsL_of I ds l rt e3 sh2.2 fun t ht => z t (List.mem_cons_of_mem _ ht)
    refine ⟨⟨as ++ as2, .cons ra ra2⟩, b1 ++ b2, ReadAtMost.append (hb1.mono (Nat.le_max_left _ _)) (hb2.mono (Nat.le_max_right _ _)), ?_⟩
    exact .cons ((k1.more fun b h => List.mem_append_left _ h).level_le (Nat.le_max_left _ _)) (k2.more_le (fun b h => List.mem_append_right _ h) (Nat.le_max_right _ _))
end
end
section
variable {X : Cx} {W : WXd}
def rRepr (K : PySem.W.Frag) : List V → Hp → VK → Prop := fun xs H Q => ∃ rho v d p, xs = [v] ∧ Rep K rho H v d ∧ toPyR d = some p ∧ p.showable = true ∧ p.depth ≤ 64 ∧ p.shown.length ≤ sizeLine ∧ Q (.str p.shown) H
theorem call_reprA {k : Nat} (g : GX X k) : CallR X (.builtin "repr") (rRepr X.K) := by
  intro pins s σ H xs us Q I r h
  obtain ⟨rho, v, d, p, rfl, rp, e, sh, dp, z, q⟩ := h
  obtain ⟨u, rfl, rv⟩ := vals1 r
  have hu := g.room.un
  have fin : ∀ h' (w : Tok) (tk : Nat), (∀ b o, s.heap.get? b = some o → h'.get? b = some o) → EP X pins σ Q (.str p.shown w) { s with heap := h', toks := tk } := fun h' w tk hk => ⟨.str p.shown, H, I.kept hk, ⟨_, rfl⟩, q⟩
  cases d with
  | non =>
    cases rp
    cases rv
    cases e
    exact PySem.P.repr_of_none ⟨.str _, H, I.tok _, ⟨_, rfl⟩, q⟩
  | bl b =>
    cases rp
    cases rv
    cases e
    exact PySem.P.repr_of_bool ⟨.str _, H, I.tok _, ⟨_, rfl⟩, q⟩
  | int i =>
    cases rp
    obtain ⟨t, rfl⟩ := rv
    cases e
    exact PySem.P.repr_of_int (of_decide_eq_true (show decide (i.natAbs.log2 < 1920) = true from sh)) ⟨.str _, H, I.tok _, ⟨_, rfl⟩, q⟩
  | str x =>
    cases rp
    obtain ⟨t, rfl⟩ := rv
    cases e
    exact PySem.P.repr_of_str ⟨.str _, H, I.tok _, ⟨_, rfl⟩, q⟩ z
  | scr ns => cases e
  | ref n => cases e
  | dct kvs =>
    cases kvs with
    | cons _ _ => cases e
    | nil =>
      cases e
      cases rp with
      | dct g1 g2 g3 =>
        cases g3
        cases rv
        obtain ⟨o, es, ep, ho, hc, hd, hn, hs⟩ := dict_nil I (.inr ⟨_, g1⟩) rfl
        exact call_repr_slot (by omega) ⟨o, ho, hc⟩ PySem.F.slot_dict_repr (call_dict_reprK (as := []) (d := 0) (ps := []) ho hc hd hs (by simp) (by rw [hn]; exact .nil) g.gd (fun b _ => Clear.nil b) (by show X.A.units + 1 + 1 < cLine; omega) (fun _ _ e => e) (fun h' u tk hk => ⟨_, _, rfl, fin h' u tk hk⟩) z)
  | tup ds =>
    obtain ⟨ps, e1, e2⟩ := Option.map_eq_some_iff.mp (show (toPyRL ds).map PyData.tuple = some _ from e)
    subst e2
    obtain ⟨a, us, rfl, sq, l⟩ := rp.sqT
    cases rv
    obtain ⟨its, r1, ⟨o, ho, hc, n, hd⟩, _⟩ := I.tuple sq
    obtain ⟨⟨as, ra⟩, bs, hb, hk⟩ := showsL_of I ds l r1 e1 sh fun t ht => Nat.le_trans (tupleText_mem_le ht) z
    have rd : Reads s.heap (.ref a) (.tuple ps) as := .tuple ho hc hd ra
    have na : a ∉ bs := not_mem_of_deeper rd (Nat.lt_succ_self _) hb
    have dd : PyData.depthAll ps + 1 ≤ 64 := dp
    exact call_repr_slot (by omega) ⟨o, ho, hc⟩ PySem.F.slot_tuple_repr (call_tuple_reprK ho hc hd na hk g.gd (fun b _ => Clear.nil b) (by show X.A.units + 1 + (PyData.depthAll ps + 1) < cLine; omega) (fun _ _ e => e) (fun h' u tk hk => ⟨_, _, rfl, fin h' u tk hk⟩) z)
  | lst ds =>
    obtain ⟨ps, e1, e2⟩ := Option.map_eq_some_iff.mp (show (toPyRL ds).map PyData.list = some _ from e)
    subst e2
    cases rp with
    | lst g1 g2 g3 =>
      rename_i a us
      cases rv
      obtain ⟨its, r1, ⟨⟨o, n, ho, hc, hx, hd⟩, hz⟩⟩ := I.list (.of g1)
      obtain ⟨⟨as, ra⟩, bs, hb, hk⟩ := showsL_of I ds g3 r1 e1 sh fun t ht => Nat.le_trans (listText_mem_le ht) z
      have rd : Reads s.heap (.ref a) (.list ps) (a :: as) := .list ho hc hd ra
      have na : a ∉ bs := not_mem_of_deeper rd (Nat.lt_succ_self _) hb
      have dd : PyData.depthAll ps + 1 ≤ 64 := dp
      refine call_repr_slot (by omega) ⟨o, ho, hc⟩ PySem.F.slot_list_repr.toG ?_
      cases its with
      | nil =>
        cases ra
        exact call_list_repr_empty ⟨o, ho, hc⟩ ho hd ⟨_, _, rfl, fin s.heap _ _ fun _ _ e => e⟩
      | cons w ws => exact call_list_reprK ho hc hd na (by simpa using hk.length_eq) (fun i y q => hk.item i y (by simpa using q)) g.gd (fun b _ => Clear.nil b) (by show X.A.units + 1 + (PyData.depthAll ps + 1) < cLine; omega) (fun _ _ e => e) (fun h' u tk hk => ⟨_, _, rfl, fin h' u tk hk⟩) z
/-- repr(d), of anything -/
def bReprA : List D → Store → Option D := fun ds _ => match ds with
  | [d] => (toPyR d).bind fun p => if p.showable = true ∧ p.depth ≤ 64 ∧ p.shown.length ≤ sizeLine then some (.str p.shown) else none
  | _ => none
theorem ok_reprA {k : Nat} (g : GX X k) : CallOk X (.builtin "repr") bReprA := ⟨_, call_reprA g, fun rho H xs ds d st Q rl si e q => by
  unfold bReprA at e
  split at e
  · rename_i y
    obtain ⟨v, rfl, p⟩ := lst1 rl
    obtain ⟨z, h1, h2⟩ := Option.bind_eq_some_iff.mp e
    by_cases c : z.showable = true ∧ z.depth ≤ 64 ∧ z.shown.length ≤ sizeLine
    · rw [if_pos c] at h2
      cases h2
      exact ⟨rho, v, y, z, rfl, p, h1, c.1, c.2.1, c.2.2, q _ H (fun _ _ h => h) (.str _)⟩
    · rw [if_neg c] at h2
      cases h2
  · cases e⟩
end
/-! ### measures -/
mutual
/-- what may be shown: no great ints, texts of ASCII -/
def okD : D → Bool
  | .non => true
  | .bl _ => true
  | .int i => decide (i.natAbs < 10 ^ 62)
  | .str x => (tl x).all fun c => decide (c < 128)
  | .tup ds => okL ds
  | .lst ds => okL ds
  | .dct [] => true
  | .dct (_ :: _) => false
  | .scr _ => false
  | .ref _ => false
def okL : List D → Bool
  | [] => true
  | d :: ds => okD d && okL ds
end
mutual
def wD : D → Nat
  | .int _ => 210
  | .str x => x.length
  | .tup ds => wL ds
  | .lst ds => wL ds
  | _ => 0
def wL : List D → Nat
  | [] => 0
  | d :: ds => wD d + 1 + wL ds
end
mutual
def hD : D → Nat
  | .tup ds => hL ds + 1
  | .lst ds => hL ds + 1
  | .dct _ => 1
  | _ => 0
def hL : List D → Nat
  | [] => 0
  | d :: ds => max (hD d) (hL ds)
end
mutual
theorem ok_pyR : ∀ (d : D), okD d = true → ∃ p, toPyR d = some p ∧ p.showable = true ∧ p.leavesShort 70 = true ∧ p.depth ≤ hD d ∧ p.weight ≤ wD d
  | .non, _ => ⟨_, rfl, rfl, rfl, Nat.le_refl _, Nat.le_refl _⟩
  | .bl b, _ => ⟨_, rfl, rfl, rfl, Nat.le_refl _, Nat.le_refl _⟩
  | .int i, h => by
    have hn : i.natAbs < 10 ^ 62 := of_decide_eq_true h
    have hl : i.natAbs.log2 < 207 := by
      by_cases z : i.natAbs = 0
      · rw [z]; decide
      · exact (Nat.log2_lt z).mpr (Nat.lt_trans hn (by decide))
    refine ⟨.int i, rfl, ?_, ?_, Nat.le_refl _, ?_⟩
    · rw [PyData.showable]
      exact decide_eq_true (by omega)
    · rw [PyData.leavesShort, PyData.shown]
      have h0 := int_text_length_le10 (a := i) (k := 62) (by decide) hn
      refine decide_eq_true ?_
      rw [PySem.ofString_length]
      omega
    · rw [PyData.weight, wD]
      split
      · exact Nat.zero_le _
      · omega
  | .str x, h => by
    refine ⟨.str x, rfl, rfl, ?_, Nat.le_refl _, ?_⟩
    · rw [PyData.leavesShort]
      exact List.all_eq_true.mpr fun c hc => decide_eq_true (Nat.lt_trans (of_decide_eq_true (List.all_eq_true.mp h c hc)) (by decide))
    · rw [PyData.weight, wD]
      exact Nat.le_refl _
  | .dct [], _ => ⟨.dict [], rfl, rfl, rfl, Nat.le_refl _, Nat.le_refl _⟩
  | .dct (_ :: _), h => by cases h
  | .scr _, h => by cases h
  | .ref _, h => by cases h
  | .tup ds, h => by
    obtain ⟨ps, h1, h2, h3, h4, h5⟩ := ok_pyRL ds h
    exact ⟨.tuple ps, by show (toPyRL ds).map _ = _; rw [h1]; rfl, h2, h3, Nat.succ_le_succ h4, h5⟩
  | .lst ds, h => by
    obtain ⟨ps, h1, h2, h3, h4, h5⟩ := ok_pyRL ds h
    exact ⟨.list ps, by show (toPyRL ds).map _ = _; rw [h1]; rfl, h2, h3, Nat.succ_le_succ h4, h5⟩
theorem ok_pyRL : ∀ (ds : List D), okL ds = true → ∃ ps, toPyRL ds = some ps ∧ PyData.showableAll ps = true ∧ PyData.leavesShortAll 70 ps = true ∧ PyData.depthAll ps ≤ hL ds ∧ PyData.weightAll ps ≤ wL ds
  | [], _ => ⟨[], rfl, rfl, rfl, Nat.le_refl _, Nat.le_refl _⟩
  | d :: ds, h => by
    obtain ⟨a, b⟩ := Bool.and_eq_true_iff.mp (show (okD d && okL ds) = true from h)
    obtain ⟨p, h1, h2, h3, h4, h5⟩ := ok_pyR d a
    obtain ⟨ps, g1, g2, g3, g4, g5⟩ := ok_pyRL ds b
    refine ⟨p :: ps, by show (toPyR d).bind _ = _; rw [h1, g1]; rfl, by rw [PyData.showableAll, h2, g2]; rfl, by rw [PyData.leavesShortAll, h3, g3]; rfl, ?_, ?_⟩
    · rw [PyData.depthAll, hL]
      exact Nat.max_le.mpr ⟨Nat.le_trans h4 (Nat.le_max_left _ _), Nat.le_trans g4 (Nat.le_max_right _ _)⟩
    · rw [PyData.weightAll, wL]
      omega
end
theorem repr_any {d : D} (h : okD d = true) (l : hD d ≤ 64) (m : wD d ≤ 200000) : ∃ x, ∀ st, bReprA [d] st = some (.str x) := by
  obtain ⟨p, h1, h2, h3, h4, h5⟩ := ok_pyR d h
  have hs : p.shown.length ≤ sizeLine := by
    have := PyData.shown_le 70 (by decide) p h3
    have h6 : (70 + 2) * p.weight ≤ 72 * 200000 := Nat.mul_le_mul_left 72 (Nat.le_trans h5 m)
    rw [sizeLine_eq]
    omega
  exact ⟨p.shown, fun st => by show (toPyR d).bind _ = _; rw [h1, Option.bind_some, if_pos ⟨h2, Nat.le_trans h4 l, hs⟩]⟩
theorem okL_mem {ds : List D} : okL ds = true ↔ ∀ d ∈ ds, okD d = true := by
  induction ds with
  | nil => exact ⟨fun _ _ h => (by cases h), fun _ => rfl⟩
  | cons d ds ih =>
    show (okD d && okL ds) = true ↔ _
    rw [Bool.and_eq_true, ih]
    simp
theorem wL_mem {ds : List D} {d : D} (h : d ∈ ds) : wD d + 1 ≤ wL ds := by
  induction ds with
  | nil => cases h
  | cons e es ih =>
    rw [wL]
    rcases List.mem_cons.mp h with rfl | h
    · omega
    · have := ih h
      omega
end DL
/-! A list of the store: an item replaced; walked for good; tuples times an int. -/
namespace DL
open PySem PySem.Spec PyProof.Rows L2 TL
variable {K : PySem.W.Frag}
section
variable {X : Cx} {W : WXd} {tg iter : Expr}
def Rf.drop (r : Rf) (a : Addr) : Rf := ⟨r.adr, fun p => r.av p ∧ p ≠ a, r.lk⟩
theorem RepL.set {r : Rf} {H : Hp} {v : V} {d : D} (q : Rep K r H v d) : ∀ {vs : List V} {ds : List D} (j : Nat), RepL K r H vs ds → RepL K r H (vs.set j v) (ds.set j d)
  | _, _, _, .nil => .nil
  | _, _, 0, .cons a b => .cons q b
  | _, _, j + 1, .cons a b => .cons a (RepL.set q j b)
/-- o[i] = v, o a list of the store -/
def sPutL (fo fk fv : F) : FS := fun env st => (fv env st).bind fun p => (fo env p.2).bind fun q => (fk env q.2).bind fun w => match q.1, w.1 with
  | .ref n, .int i => (match w.2[n]? with
    | some (.lst ds) => (ixN ds.length i).bind fun j => some (.nx, env, w.2.set n (.lst (ds.set j p.1)))
    | _ => none)
  | _, _ => none
theorem ds_putL {o i value : Expr} {fo fk fv : F} {pos pos' : Pos} (ho : DE X o fo) (hi : DE X i fk) (hv : DE X value fv) (hs : swapsWithSole [.Subscript o i pos'] value pos.line X.env = pure false := by rfl) (hw : swappedStores [.Subscript o i pos'] value X.env = pure none := by rfl)
    (h1 : (assignEach [.Subscript o i pos'] X.env).map (·.2) = [assign (.Subscript o i pos') X.env] := by rfl)
    (ha : ∀ v, assign (.Subscript o i pos') X.env v = (do let ov ← holding [v] (eval o X.env); let iv ← holding [v, ov] (eval i X.env); standAt pos'; holding [v, ov, iv] (setItem ov iv v); release [v, ov, iv] []) := by intro _; rfl) :
    DS X W (.Assign [.Subscript o i pos'] value pos) (sPutL fo fk fv) := weakS (ps_asg hv (pg_sub ho hi set_list ha) hs hw h1) fun D' σ H hh => by
  obtain ⟨r, env, st, out, env', st', he, hs, hf, q⟩ := hh
  obtain ⟨⟨x, s1⟩, h1, hf1⟩ := Option.bind_eq_some_iff.mp hf
  obtain ⟨⟨y, s2⟩, h2, hf2⟩ := Option.bind_eq_some_iff.mp hf1
  obtain ⟨⟨z, s3⟩, h3, hf3⟩ := Option.bind_eq_some_iff.mp hf2
  cases y with
  | ref n =>
    cases z with
    | int k =>
      simp only at hf3
      split at hf3
      · rename_i ds hst
        obtain ⟨j, hj, hf4⟩ := Option.bind_eq_some_iff.mp hf3
        cases hf4
        refine ⟨r, env, st, x, s1, he, hs, h1, fun xv r1 H1 e1 q1 p1 => ⟨r1, env, s1, _, s2, he.ext e1, q1, h2, fun yv r2 H2 e2 q2 p2 => ⟨r2, env, s2, _, s3, (he.ext e1).ext e2, q2, h3, fun zv r3 H3 e3 q3 p3 => ?_⟩⟩⟩
        cases p3
        obtain ⟨p, rfl, hp⟩ := (p2.ext e3).refI
        obtain ⟨av, xs, hx, l⟩ := q3.ob _ p _ hp hst
        have px : Rep X.K r3 H3 xv x := (p1.ext e2).ext e3
        refine ⟨p, xs, k, j, rfl, rfl, hx, by rw [l.len]; exact hj, ?_⟩
        have ee : Ex r3 H3 r3 (upd H3 p (.lst (xs.set j xv))) := ⟨⟨[], by simp⟩, fun a o w m => by rw [upd_ne (fun y => m (by rw [y]; exact av))]; exact w, fun a w m => absurd w m⟩
        obtain ⟨w1, w2⟩ := q3.set (o := .lst (xs.set j xv)) (ob := .lst (ds.set j x)) hp av ⟨av, _, upd_same, (RepL.set px j l).ex ee⟩ (fun _ _ z => by rw [hx] at z; cases z)
        exact q σ r3 _ (((e1.trans e2).trans e3).trans w1) ((((he.ext e1).ext e2).ext e3).ext w1) w2
      · cases hf3
    | _ => cases hf3
  | _ => cases hf3
end
end DL
/-! Instances of own classes: objects of the store. -/
namespace DL
open PySem PySem.Spec PyProof.Rows L2 TL
variable {K : PySem.W.Frag}
/-- the class c, at C -/
structure ClsAt (K : PySem.W.Frag) (c : Str) (C : Addr) : Prop where
  at_ : PySem.W.nsIn K mainGlobals c = some (some (.ref C))
  cls : Cls K C
/-- the instance at n, of class c -/
def insAt (c : Str) (n : Nat) (st : Store) : Option (List (Str × D)) := match st[n]? with
  | some (.ins c' fs) => if c' = c then some fs else none
  | _ => none
theorem insAt_some {c : Str} {n : Nat} {st : Store} {fs : List (Str × D)} (h : insAt c n st = some fs) : st[n]? = some (.ins c fs) := by
  unfold insAt at h
  split at h
  · rename_i c' gs e
    by_cases z : c' = c
    · rw [if_pos z] at h
      cases h
      rw [← z]
      exact e
    · rw [if_neg z] at h
      cases h
  · cases h
theorem fields_get {r : Rf} {H : Hp} {f : Str} : ∀ {vs : List (Str × V)} {fs : List (Str × D)} {d : D}, vs.map (·.1) = fs.map (·.1) → RepL K r H (vs.map (·.2)) (fs.map (·.2)) → fs.lookup f = some d → ∃ v, vs.lookup f = some v ∧ Rep K r H v d
  | [], [], d, _, _, h => by cases h
  | (g, v) :: vs, (g', e) :: fs, d, n, l, h => by
    injection n with n1 n2
    have n1' : g = g' := n1
    subst n1'
    cases l with
    | cons a b =>
      rw [List.lookup_cons] at h ⊢
      cases z : f == g with
      | true =>
        rw [z] at h
        cases h
        exact ⟨v, rfl, a⟩
      | false =>
        rw [z] at h
        exact fields_get n2 b h
theorem fields_none {f : Str} : ∀ {vs : List (Str × V)} {fs : List (Str × D)}, vs.map (·.1) = fs.map (·.1) → fs.lookup f = none → vs.lookup f = none
  | [], [], _, _ => rfl
  | (g, v) :: vs, (g', e) :: fs, n, h => by
    injection n with n1 n2
    have n1' : g = g' := n1
    subst n1'
    rw [List.lookup_cons] at h ⊢
    cases z : f == g with
    | true =>
      rw [z] at h
      cases h
    | false =>
      rw [z] at h
      exact fields_none n2 h
/-- a field set -/
def putFD (f : Str) (d : D) : List (Str × D) → List (Str × D)
  | [] => [(f, d)]
  | (g, x) :: r => if g = f then (g, d) :: r else (g, x) :: putFD f d r
theorem fields_put {r : Rf} {H : Hp} {f : Str} {v : V} {d : D} (q : Rep K r H v d) : ∀ {vs : List (Str × V)} {fs : List (Str × D)}, vs.map (·.1) = fs.map (·.1) → RepL K r H (vs.map (·.2)) (fs.map (·.2)) →
    (putF f v vs).map (·.1) = (putFD f d fs).map (·.1) ∧ RepL K r H ((putF f v vs).map (·.2)) ((putFD f d fs).map (·.2))
  | [], [], _, _ => ⟨rfl, .cons q .nil⟩
  | (g, x) :: vs, (g', e) :: fs, n, l => by
    injection n with n1 n2
    have n1' : g = g' := n1
    subst n1'
    cases l with
    | cons a b =>
      unfold putF putFD
      by_cases z : g = f
      · rw [if_pos z, if_pos z]
        exact ⟨by rw [List.map_cons, List.map_cons, n2], .cons q b⟩
      · rw [if_neg z, if_neg z]
        obtain ⟨h1, h2⟩ := fields_put q n2 b
        exact ⟨by rw [List.map_cons, List.map_cons, h1], .cons a h2⟩
section
variable {X : Cx} {W : WXd}
/-- o.f -/
def fFld (c f : Str) (fo : F) : F := fun env st => (fo env st).bind fun p => match p.1 with
  | .ref n => (insAt c n p.2).bind fun fs => (fs.lookup f).map fun d => (d, p.2)
  | _ => none
theorem de_fld {c f : Str} {C : Addr} {e : Expr} {fo : F} {pos : Pos} (hc : ClsAt X.K c C) (na : NoAttr X.K C f) (he : DE X e fo) (hb : attributeBase e f X.env (eval e X.env) = eval e X.env := by rfl) : DE X (.Attribute e f pos) (fFld c f fo) :=
  weakE (pe_fld he hb) fun σ H Q hh => by
  obtain ⟨r, env, st, d, st', he, hs, hf, q⟩ := hh
  obtain ⟨⟨x, s1⟩, h1, h2⟩ := Option.bind_eq_some_iff.mp hf
  cases x with
  | ref n =>
    obtain ⟨fs, h3, h4⟩ := Option.bind_eq_some_iff.mp (show ((insAt c n s1).bind fun fs => (fs.lookup f).map fun d => (d, s1)) = some (d, st') from h2)
    obtain ⟨d', h5, h6⟩ := Option.map_eq_some_iff.mp h4
    cases h6
    refine ⟨r, env, st, _, _, he, hs, h1, fun v r1 H1 e1 q1 p1 => ?_⟩
    obtain ⟨a, rfl, ha⟩ := p1.refI
    obtain ⟨av, C', dx, vs, hn, hx, nm, l⟩ := q1.ob _ a _ ha (insAt_some h3)
    rw [hc.at_] at hn
    cases hn
    obtain ⟨w, hw, rw'⟩ := fields_get nm l h5
    exact ⟨a, C, dx, vs, w, rfl, hx, hc.cls, na, hw, q w r1 H1 e1 q1 rw'⟩
  | _ => cases h2
/-- o.f = e -/
def sFldD (c f : Str) (fo fv : F) : FS := fun env st => (fv env st).bind fun p => (fo env p.2).bind fun q => match q.1 with
  | .ref n => (insAt c n q.2).bind fun fs => if fs.length < 1000 then some (.nx, env, q.2.set n (.ins c (putFD f p.1 fs))) else none
  | _ => none
theorem ds_fld {c f : Str} {C : Addr} {o value : Expr} {fo fv : F} {pos pos' : Pos} (hc : ClsAt X.K c C) (na : NoAttr X.K C f) (ho : DE X o fo) (hv : DE X value fv) (hs : swapsWith value (some (.Attribute o f pos')) pos.line X.env = pure false := by rfl) :
    DS X W (.Assign [.Attribute o f pos'] value pos) (sFldD c f fo fv) := weakS (ps_fld ho hv hs) fun D' σ H hh => by
  obtain ⟨r, env, st, out, env', st', he, hs, hf, q⟩ := hh
  obtain ⟨⟨x, s1⟩, h1, hf1⟩ := Option.bind_eq_some_iff.mp hf
  obtain ⟨⟨y, s2⟩, h2, hf2⟩ := Option.bind_eq_some_iff.mp hf1
  cases y with
  | ref n =>
    obtain ⟨fs, h3, h4⟩ := Option.bind_eq_some_iff.mp (show ((insAt c n s2).bind fun fs => if fs.length < 1000 then some (Out.nx, env, s2.set n (.ins c (putFD f x fs))) else none) = some (out, env', st') from hf2)
    by_cases hl : fs.length < 1000
    case neg => rw [if_neg hl] at h4; cases h4
    rw [if_pos hl] at h4
    cases h4
    refine ⟨r, env, st, x, s1, he, hs, h1, fun xv r1 H1 e1 q1 p1 => ⟨r1, env, s1, _, s2, he.ext e1, q1, h2, fun yv r2 H2 e2 q2 p2 => ?_⟩⟩
    obtain ⟨a, rfl, ha⟩ := p2.refI
    obtain ⟨av, C', dx, vs, hn, hx, nm, l⟩ := q2.ob _ a _ ha (insAt_some h3)
    have hn0 := hn
    rw [hc.at_] at hn
    cases hn
    have px : Rep X.K r2 H2 xv x := p1.ext e2
    have lv : vs.length = fs.length := by
      have := congrArg List.length nm
      rwa [List.length_map, List.length_map] at this
    obtain ⟨g1, g2⟩ := fields_put (f := f) px nm l
    refine ⟨a, C, dx, vs, rfl, hx, hc.cls, na, by rw [lv]; exact hl, ?_⟩
    have ee : Ex r2 H2 r2 (upd H2 a (.ins C dx (putF f xv vs))) := ⟨⟨[], by simp⟩, fun b o w m => by rw [upd_ne (fun y => m (by rw [y]; exact av))]; exact w, fun b w m => absurd w m⟩
    obtain ⟨w1, w2⟩ := q2.set (o := .ins C dx (putF f xv vs)) (ob := .ins c (putFD f x fs)) ha av ⟨av, C, dx, _, hn0, upd_same, g1, g2.ex ee⟩ (fun _ _ z => by rw [hx] at z; cases z)
    exact q σ r2 _ ((e1.trans e2).trans w1) (((he.ext e1).ext e2).ext w1) w2
  | _ => cases hf2
/-- o.m(e, ..) -/
def noF (m : Str) (o : Option (List (Str × D))) : Bool := match o with | some fs => (fs.lookup m).isNone | none => false
def fMeth (c m : Str) (mm : FM) (fo : F) (fa : FA) : F := fun env st => (fo env st).bind fun p => match p.1 with
  | .ref n => if noF m (insAt c n p.2) = true then (fa env p.2).bind fun q => mm (.ref n :: q.1) q.2 else none
  | _ => none
variable {k : Nat} {f C : Addr} {fd : FuncData} {ps : List Str} {mm : FM} {c m : Str} {apos pos : Pos} {o e : Expr} {es : List Expr}
theorem de_meth {pl : Sem Bool} (hc : ClsAt X.K c C) (hm : Meth X.K C m f) (Fd : FnD X.prog X.w X.K X.mg X.base k f fd ps mm) (gx : GX X k) (hb : Binds X.K fd ps []) {fo : F} {fa : FA} (ho : DE X o fo) (ha : DA X (e :: es) fa) (hl : (e :: es).length + 1 = ps.length := by rfl)
    (hst : starEach (e :: es) X.env = (false, eval e X.env) :: starEach es X.env := by rfl) (hpl : (backTo pos (starEach es X.env)).any (·.1) = false := by rfl)
    (ht : eval (.Call (.Attribute o m apos) (e :: es) [] pos) X.env = (do let ov ← eval o X.env; standAt apos.atName; let (f, first) ← holding [ov] (getMethod ov m pl); callWith pos f first (backTo pos (starEach (e :: es) X.env)) (backToKw pos (keywordEach [] X.env))) := by rfl)
    (hn : ∀ env st ds st', fa env st = some (ds, st') → ds.length = (e :: es).length) :
    DE X (.Call (.Attribute o m apos) (e :: es) [] pos) (fMeth c m mm fo fa) := by
  refine ⟨fun pins s σ H Q I h => ?_⟩
  obtain ⟨r, env, st, d, st', he', hs, hf, q⟩ := h
  obtain ⟨⟨x, s1⟩, h1, h2⟩ := Option.bind_eq_some_iff.mp hf
  cases x with
  | ref n =>
    have h2' : (if noF m (insAt c n s1) = true then (fa env s1).bind fun q => mm (.ref n :: q.1) q.2 else none) = some (d, st') := h2
    by_cases hz : noF m (insAt c n s1) = true
    case neg => rw [if_neg hz] at h2'; cases h2'
    rw [if_pos hz] at h2'
    obtain ⟨⟨ds, s2⟩, h3, h4⟩ := Option.bind_eq_some_iff.mp h2'
    refine PySem.W.methodCall_KW (pl := pl) (thn (ho.run pins s σ H (fun v H1 => ∃ a r1 C' dx vs, v = .ref a ∧ r1.adr[n]? = some a ∧ H1 a = some (.ins C' dx vs) ∧ C' = C ∧ vs.lookup m = none ∧ Ext r H r1 H1 ∧ Sim X.K r1 H1 s1) I ⟨r, env, st, _, s1, he', hs, h1, fun v r1 H1 e1 q1 p1 => ?_⟩) fun u sa hq => ?_) ht
    · obtain ⟨a, rfl, hadr⟩ := p1.refI
      cases hi : insAt c n s1 with
      | none => rw [hi] at hz; cases hz
      | some fs =>
        rw [hi] at hz
        obtain ⟨av, C', dx, vs, hn', hx, nm, l⟩ := q1.ob _ a _ hadr (insAt_some hi)
        rw [hc.at_] at hn'
        cases hn'
        exact ⟨a, r1, C, dx, vs, rfl, hadr, hx, rfl, fields_none nm (Option.isNone_iff_eq_none.mp hz), e1, q1⟩
    · obtain ⟨x, H1, I1, rx, a, r1, C', dx, vs, rfl, hadr, hx, rfl, hno, e1, q1⟩ := hq
      cases rx
      refine getmeth_ok I1 hx hc.cls hm hno ?_
      refine PySem.W.callWith_K (first := [.ref a]) (h₀ := X.base) I.ok.mod.kin hm.kp (thn (ha.run pos pins sa σ H1 (fun vs H2 => ∃ r2, Ext r1 H1 r2 H2 ∧ Sim X.K r2 H2 s2 ∧ RepL X.K r2 H2 vs ds) I1 ⟨r1, env, s1, ds, s2, he'.ext e1, q1, h3, fun vs r2 H2 e2 q2 l2 => ⟨r2, e2, q2, l2⟩⟩) fun us sb hz => ?_) hst hpl
      obtain ⟨vs2, H2, I2, rv, r2, e2, q2, l2⟩ := hz
      exact ⟨I2.kIn, runD (us := .ref a :: us) (vs := .ref a :: vs2) Fd gx hb I2 (.cons rfl rv) (by rw [List.length_cons, l2.len, hn _ _ _ _ h3]; exact hl) (.cons (.ref (e2.get hadr)) l2) q2 h4 fun v r3 H3 e3 q3 p3 => q v r3 H3 ((e1.trans e2).trans e3) q3 p3⟩
  | _ => cases h2
/-- C(e, ..) -/
theorem make_guards {A : Around} {C : Addr} {us : List Value} {kw : List (Str × Value)} : (A.under (.builtin "type.__call__" ⟨.ref C :: us, kw⟩)).guards = A.guards := by
  first
    | rfl
    | simp [Around.under, Code.weight, Code.isCreation, Code.isGuard, Code.isCaller, Code.frames, Code.isFrame, guardIds]
/-- the new instance, on both levels -/
theorem made_sim {r : Rf} {H : Hp} {st : Store} {x dx : Addr} (hs : Sim X.K r H st) (hc : PySem.W.nsIn X.K mainGlobals c = some (some (.ref C))) (nx : H x = none) (nd : H dx = none) (ne : dx ≠ x) :
    ∃ r1, Ext r H r1 (upd (upd H dx (.own x)) x (.ins C dx [])) ∧ Sim X.K r1 (upd (upd H dx (.own x)) x (.ins C dx [])) (st ++ [.ins c []]) ∧ Rep X.K r1 (upd (upd H dx (.own x)) x (.ins C dx [])) (.ref x) (.ref st.length) := by
  have a1 : Same H (upd H dx (.own x)) := same_alloc nd
  have nx1 : upd H dx (.own x) x = none := by rw [upd_ne (Ne.symm ne)]; exact nx
  have q1 := hs.same a1
  obtain ⟨e0, hd0⟩ := hideNew (o := .ins C dx []) q1 nx1
  obtain ⟨w1, w2, w3⟩ := hd0.add (o := .ins C dx []) (ob := .ins c []) e0 q1 nx1 ⟨hd0.av, C, dx, [], hc, upd_same, rfl, .nil⟩
  rw [upd_upd] at w1 w2 w3
  exact ⟨_, (hs.ext a1).trans w1, w2, w3 _ rfl⟩
theorem runMake {pins : List (Addr × Obj)} {σ : L2.St} {H : Hp} {s : Shared} {Q : VK} {us : List Value} {vs : List V} {rho : Rf} {ds : List D} {st st' : Store} (M : Mk X.K C f) (hc : PySem.W.nsIn X.K mainGlobals c = some (some (.ref C)))
    (Fd : FnD X.prog X.w X.K X.mg X.base k f fd ps mm) (gx : GX X (k + 1)) (hb : Binds X.K fd ps []) (I : Inv X pins σ H s) (r : Vals vs us) (hl : vs.length + 1 = ps.length) (rd : RepL X.K rho H vs ds) (hs : Sim X.K rho H st)
    (hm : mm (.ref st.length :: ds) (st ++ [.ins c []]) = some (.non, st')) (hq : ∀ v rho' H', Ext rho H rho' H' → Sim X.K rho' H' st' → Rep X.K rho' H' v (.ref st.length) → Q v H') :
    wpAny (model X.prog X.w) X.A (call (.ref C) us) (EP X pins σ Q) X.xe s := by
  obtain ⟨r1, e1, s1, p1⟩ := made_sim (c := c) (C := C) hs hc (I.hok.fresh (Nat.le_succ s.heap.objs.size)) (I.hok.fresh (Nat.le_refl s.heap.objs.size)) (Nat.ne_of_lt (Nat.lt_succ_self s.heap.objs.size))
  have I2 := Inv.made (C := C) I
  have r2 : Vals (V.ref (s.heap.objs.size + 1) :: vs) (Value.ref (s.heap.objs.size + 1) :: us) := .cons rfl r
  have hu : (Value.ref (s.heap.objs.size + 1) :: us).length = ps.length := by rw [List.length_cons, ← r.length]; exact hl
  have hbt := hb { s with heap := (s.heap.push PySem.W.emptyDict).push (PySem.W.instObj C s.heap.objs.size) } (Value.ref (s.heap.objs.size + 1) :: us) I2.kIn (by rw [List.append_nil]; exact hu)
  rw [List.append_nil] at hbt
  refine wpAny_call (make_map (f := f) I.kIn M.makes M.init (beq_iff_eq.mp M.fn) (codeAny_mono (Fd.run _ X.stack _ _ ⟨Value.ref (s.heap.objs.size + 1) :: us, []⟩ (Value.ref (s.heap.objs.size + 1) :: us) _ (fun v H2 => v = .non ∧ Q (.ref (s.heap.objs.size + 1)) H2) r1 (.ref st.length :: ds) _ st' .non (make_guards.trans gx.gd) (gx.room.make C us [])
    (I2.env0.make C us []) hbt r2 (by rw [List.length_cons]; exact hl) (.cons p1 (rd.ext e1)) s1 hm fun v r3 H3 e3 q3 p3 => ?_) fun z s' hz => ?_))
  · cases p3
    exact ⟨rfl, hq _ r3 H3 (e1.trans e3) q3 (p1.ext e3)⟩
  · cases z with
    | error e => exact False.elim hz
    | ok fl =>
      cases fl with
      | ret u =>
        obtain ⟨v, H', I3, rv, ev, q3⟩ := I2.after hz
        subst ev
        exact ⟨rv, ⟨V.ref (s.heap.objs.size + 1), H', I3, rfl, q3⟩⟩
      | next => exact False.elim hz
      | brk => exact False.elim hz
      | cont => exact False.elim hz
def fMake (c : Str) (mi : FM) (fa : FA) : F := fun env st => (fa env st).bind fun q => (mi (.ref q.2.length :: q.1) (q.2 ++ [.ins c []])).bind fun z => match z.1 with | .non => some (.ref q.2.length, z.2) | _ => none
theorem de_make {x : Str} {p : Pos} (M : Mk X.K C f) (hc : PySem.W.nsIn X.K mainGlobals c = some (some (.ref C))) (Fd : FnD X.prog X.w X.K X.mg X.base k f fd ps mm) (gx : GX X (k + 1)) (hg : Gl X x) (hm : X.mg x = some (.ref C)) (hb : Binds X.K fd ps []) {fa : FA} (ha : DA X (e :: es) fa) (hl : (e :: es).length + 1 = ps.length := by rfl)
    (hdb : (x == ("__debug__" : Str)) = false := by decide) (he : starEach (e :: es) X.env = (false, eval e X.env) :: starEach es X.env := by rfl) (hpl : (backTo pos (starEach es X.env)).any (·.1) = false := by rfl)
    (hn : ∀ env st ds st', fa env st = some (ds, st') → ds.length = (e :: es).length) :
    DE X (.Call (.Name x p) (e :: es) [] pos) (fMake c mm fa) := by
  refine ⟨fun pins s σ H Q I h => wpAny_Call_Name_kw (ld_glob I hg hm ?_ hdb)⟩
  obtain ⟨r, env, st, d, st', he', hs, hf, q⟩ := h
  obtain ⟨⟨ds, s1⟩, h1, h2⟩ := Option.bind_eq_some_iff.mp hf
  obtain ⟨⟨z, s2⟩, h3, h4⟩ := Option.bind_eq_some_iff.mp h2
  have ez : z = .non ∧ d = .ref s1.length ∧ st' = s2 := by
    cases z with
    | non => cases h4; exact ⟨rfl, rfl, rfl⟩
    | _ => cases h4
  obtain ⟨rfl, rfl, rfl⟩ := ez
  refine PySem.W.callWith_K (h₀ := X.base) I.ok.mod.kin M.kp (thn (ha.run pos pins s σ H (fun vs H1 => ∃ r1, Ext r H r1 H1 ∧ Sim X.K r1 H1 s1 ∧ RepL X.K r1 H1 vs ds) I ⟨r, env, st, ds, s1, he', hs, h1, fun vs r1 H1 e1 q1 l1 => ⟨r1, e1, q1, l1⟩⟩) fun us sa hz => ?_) he hpl
  obtain ⟨vs, H1, I1, rv, r1, e1, q1, l1⟩ := hz
  exact ⟨I1.kIn, runMake M hc Fd gx hb I1 rv (by rw [l1.len, hn _ _ _ _ h1]; exact hl) l1 q1 h3 fun v r2 H2 e2 q2 p2 => q v r2 H2 (e1.trans e2) q2 p2⟩
end
end DL
/-! Defs that may raise an own error with one field. -/
namespace DL
open PySem PySem.Spec PyProof.Rows L2 TL
variable {K : PySem.W.Frag}
inductive Rs | val (d : D) | er (c f : Str) (d : D)
abbrev FMX := List D → Store → Option (Rs × Store)
def outX : Option (Out × Lo × Store) → Option (Rs × Store)
  | some (.rt d, _, s) => some (.val d, s)
  | some (.nx, _, s) => some (.val .non, s)
  | some (.er c f d, _, s) => some (.er c f d, s)
  | _ => none
def mOfX (n : Nat) (g : FS) : FMX := fun ds st => outX (g (startD n ds) st)
/-- both ways out -/
def RsOk (K : PySem.W.Frag) (rho : Rf) (H : Hp) (st' : Store) (Q : VK) (E : XK) : Rs → Prop
  | .val d => ∀ v rho' H', Ext rho H rho' H' → Sim K rho' H' st' → Rep K rho' H' v d → Q v H'
  | .er c f d => ∀ rho' H' C dd, Ext rho H rho' H' → Sim K rho' H' st' → ErrAt K rho' H' c f d C dd → E (.ref C) (some dd) H'
structure FnX (P : Program) (w : World) (K : PySem.W.Frag) (mg : Str → Option Value) (base : Heap) (k : Nat) (f : Addr) (fd : FuncData) (ps : List Str) (m : FMX) : Prop where
  run : ∀ (A : Around) (outer : List Env) (s : Shared) (H : Hp) (args : Args) (us : List Value) (vs : List V) (Q : VK) (E : XK) (rho : Rf) (ds : List D) (st st' : Store) (z : Rs),
    A.guards = some [] → Room k A → Env0 P w K mg base A outer s H → BindsTo s fd args (ps.zip us) → Vals vs us → vs.length = ps.length → RepL K rho H vs ds → Sim K rho H st → m ds st = some (z, st') →
    RsOk K rho H st' Q E z → codeAny (model P w) A (.call (.ref f) args) (CR (L2.CX P w) outer P w H s Q E) s
theorem FnX.up {P : Program} {w : World} {mg : Str → Option Value} {base : Heap} {j k : Nat} {f : Addr} {fd : FuncData} {ps : List Str} {m : FMX} (h : FnX P w K mg base j f fd ps m) (l : j ≤ k) : FnX P w K mg base k f fd ps m :=
  ⟨fun A outer s H args us vs Q E rho ds st st' z hg hr => h.run A outer s H args us vs Q E rho ds st st' z hg (hr.mono l)⟩
abbrev cxX (P : Program) (w : World) (K : PySem.W.Frag) (mg : Str → Option Value) (base : Heap) (N : List Str) (qual : Str) (sc : Scope) (f : Addr) (cd : Value) (A : Around) (outer : List Env) (s : Shared) (H : Hp) (E : XK) : Cx :=
  cxOf (L2.CX P w) P w K mg base N qual sc f cd A outer s H E
/-- where the errors of a body go -/
abbrev wE (E : XK) : WXd := fun cls d _ H => E cls d H
theorem FnX.of {P : Program} {w : World} {mg : Str → Option Value} {base : Heap} {x qual : Str} {sd : Stmt} {f : Addr} {fd : FuncData} {N ps : List Str} {k : Nat} {g : FS} (F : Fun K x qual sd f fd) (S : FnScope N ps (defScope sd))
    (hb : ∀ (cd : Value) (A : Around) (outer : List Env) (s : Shared) (H : Hp) (E : XK), GX (cxX P w K mg base N qual (defScope sd) f cd A outer s H E) k → DSs (cxX P w K mg base N qual (defScope sd) f cd A outer s H E) (wE E) (defBody sd) g) :
    FnX P w K mg base (k + 1) f fd ps (mOfX N.length g) := by
  obtain ⟨oc, od, kV, doc, pm, an, cd, ct, osl, rfl, lk, hcd⟩ := F.ex
  refine ⟨fun A outer s H args us vs Q E rho ds st st' z hgd hr e0 hbind rv hlen rds hs hm hq => ?_⟩
  have hps : ps.length ≤ N.length := by
    have := congrArg List.length S.pre
    rw [List.length_take] at this
    omega
  have KX : K.In s.heap := e0.mod.kin.keeps fun b o e => (e0.bs b o e).1
  have lim : s.heap.NoLimit := e0.mod.nolimit.keeps fun b o e => (e0.bs b o e).1
  have kinds : ∀ y ∈ ps.zip us, (defScope sd).names.lookup y.1 = some .local ∨ ((defScope sd).names.lookup y.1 = some .cell ∧ ((cellsFrom (s.heap.objs.size + 1) (defScope sd).names []).lookup y.1).isSome = true) := fun ⟨n, v⟩ hy =>
    (S.par n (List.of_mem_zip hy).1).elim .inl fun q => .inr ⟨q, PySem.W.cellsFrom_some _ _ _ (.inl q)⟩
  refine codeAny_call_function hr.depth (KX _ _ lk) rfl S.co S.gen rfl (PySem.W.codeRec_of KX hcd) (hbind _ _ _ _ (wpAny_newFunctionEnv_cells S.kind kinds fun env he s1 x => ?_))
  subst he
  refine ⟨lim.keeps x.toInCall.keep, codeAny_func ?_⟩
  have gx : GX (cxX P w K mg base N qual (defScope sd) f cd A outer s H E) k := ⟨rfl, S.nd, hr.deeper _, hgd⟩
  have I0 : Inv (cxX P w K mg base N qual (defScope sd) f cd A outer s H E) [] (L2.start N vs) H s1 := inv_start S hr.hd e0 hlen rv x
  obtain ⟨o, env', h1, h2⟩ : ∃ o env', g (startD N.length ds) st = some (o, env', st') ∧ OutOk K (wE E) rho H { nx := fun _ H' => Q .non H', rt := Q } env' st' o := by
    unfold mOfX at hm
    cases q0 : g (startD N.length ds) st with
    | none => rw [q0] at hm; cases hm
    | some q =>
      obtain ⟨o, e, s2⟩ := q
      rw [q0] at hm
      cases o with
      | rt d' => cases hm; exact ⟨_, _, rfl, hq⟩
      | nx => cases hm; exact ⟨_, _, rfl, fun σ' r' H' ex _ hs' => hq .non r' H' ex hs' .non⟩
      | er c f d => cases hm; exact ⟨_, _, rfl, fun σ' r' H' C dd ex _ hs' er => hq r' H' C dd ex hs' er⟩
      | bk => cases hm
      | ct => cases hm
  have run := (hb cd A outer s H E gx).run [] s1 (L2.start N vs) H { nx := fun _ H' => Q .non H', rt := Q } I0 ⟨rho, _, st, o, env', st', start_env rds (by omega), hs, h1, h2⟩
  have back : ∀ {σ' : L2.St} {H' : Hp} {v : V} {u : Value} {s' : Shared}, Inv (cxX P w K mg base N qual (defScope sd) f cd A outer s H E) [] σ' H' s' → RelV v u → Q v H' → CE outer P w H s Q u s' := fun {σ' H' v u s'} J r z => ⟨v, H', J.os, J.bare, J.base, J.hok, r, z⟩
  refine wpAny_mono run (fun fl s' q => ?_) fun _ _ z => z
  cases fl with
  | ret u =>
    obtain ⟨v, σ', H', J, r, z⟩ := q
    exact back J r z
  | next =>
    obtain ⟨σ', H', J, z⟩ := q
    exact back (v := V.non) (u := Value.none) J rfl z
  | brk => obtain ⟨_, _, _, z⟩ := q; exact z.elim
  | cont => obtain ⟨_, _, _, z⟩ := q; exact z.elim
/-! ### what is called may raise -/
def fCallX (m : FMX) (fa : FA) : Lo → Store → Option (Rs × Store) := fun env st => (fa env st).bind fun p => m p.1 p.2
/-- an expression that may raise -/
abbrev FX := Lo → Store → Option (Rs × Store)
section
variable {X : Cx} {W : WXd} {k : Nat} {f : Addr} {fd : FuncData} {ps : List Str} {m : FMX} {x : Str} {p pos : Pos} {e : Expr} {es : List Expr}
theorem RsOk.ext {rho rho1 : Rf} {H H1 : Hp} {st' : Store} {Q : VK} {E : XK} (e : Ext rho H rho1 H1) : ∀ {z : Rs}, RsOk K rho H st' Q E z → RsOk K rho1 H1 st' Q E z
  | .val _, h => fun v r' H' e' a b => h v r' H' (e.trans e') a b
  | .er _ _ _, h => fun r' H' C dd e' a b => h r' H' C dd (e.trans e') a b
/-- return f(e, ..); f(e, ..); x = f(e, ..) -/
def sRetX (f : FX) : FS := fun env st => (f env st).map fun p => match p.1 with | .val d => (.rt d, env, p.2) | .er c fl d => (.er c fl d, env, p.2)
def sDropX (f : FX) : FS := fun env st => (f env st).map fun p => match p.1 with | .val _ => (.nx, env, p.2) | .er c fl d => (.er c fl d, env, p.2)
end
end DL
/-! Targets that are tuples, zip, starred displays, ord, what is never run. -/
namespace DL
open PySem PySem.Spec PyProof.Rows L2 TL
variable {K : PySem.W.Frag}
/-! ### targets -/
def TgsOk (K : PySem.W.Frag) (g : TGs) (is : List Nat) (bd : List D → Option (List D)) : Prop := ∀ r H xs ds σ (Q : L2.St → Hp → Prop) vals, RepL K r H xs ds → bd ds = some vals → (∀ vs, RepL K r H vs vals → Q (setL is vs σ) H) → g xs σ H Q
def bNil : List D → Option (List D) := fun ds => match ds with | [] => some [] | _ => none
def bCons (b : FB) (c : List D → Option (List D)) : List D → Option (List D) := fun ds => match ds with | d :: r => (b d).bind fun x => (c r).map fun y => x ++ y | [] => none
def bTup (n : Nat) (c : List D → Option (List D)) : FB := fun d => match d with | .tup ds => if ds.length = n then c ds else none | _ => none
theorem tgs_nil : TgsOk K gNil [] bNil := fun r H xs ds σ Q vals hr hb q => by
  cases ds with
  | nil =>
    cases hr
    cases hb
    exact ⟨rfl, q [] .nil⟩
  | cons _ _ => cases hb
/-- as many slots as values -/
def BdN (n : Nat) (b : FB) : Prop := ∀ d v, b d = some v → v.length = n
theorem b1_n : BdN 1 b1 := fun d v h => by cases h; rfl
theorem setL_app {α : Type} : ∀ (is js : List Nat) (vs us : List α) (σ : List (Option α)), is.length = vs.length → setL (is ++ js) (vs ++ us) σ = setL js us (setL is vs σ)
  | [], js, [], us, σ, _ => rfl
  | i :: is, js, v :: vs, us, σ, h => by
    show setL (is ++ js) (vs ++ us) (σ.set i (some v)) = setL js us (setL is vs (σ.set i (some v)))
    exact setL_app is js vs us _ (Nat.succ.inj h)
  | [], js, v :: vs, us, σ, h => by cases h
  | i :: is, js, [], us, σ, h => by cases h
theorem tgs_cons {g : TG} {gs : TGs} {is js : List Nat} {b : FB} {c : List D → Option (List D)} (h1 : TgOk K g is b) (hn : BdN is.length b) (h2 : TgsOk K gs js c) : TgsOk K (gCons g gs) (is ++ js) (bCons b c) := fun r H xs ds σ Q vals hr hb q => by
  cases ds with
  | nil => cases hb
  | cons d ds =>
    cases hr with
    | cons ra rb =>
      obtain ⟨x, hx, hb2⟩ := Option.bind_eq_some_iff.mp (show ((b d).bind fun x => (c ds).map fun y => x ++ y) = some vals from hb)
      obtain ⟨y, hy, e⟩ := Option.map_eq_some_iff.mp hb2
      subst e
      refine ⟨_, _, rfl, h1 r H _ d σ _ x ra hx fun vs rv => h2 r H _ ds _ Q y rb hy fun us ru => ?_⟩
      have hl : is.length = vs.length := by rw [rv.len, hn d x hx]
      rw [← setL_app is js vs us σ hl]
      exact q _ (rv.append ru)
theorem tg_tup {gs : TGs} {is : List Nat} {n : Nat} {c : List D → Option (List D)} (h : TgsOk K gs is c) : TgOkR K (RepI K) (gTup K n gs) is (bTup n c) := fun r H x d σ Q vals hr hb q => by
  obtain ⟨a, xs, ds, e, ed, s, l⟩ := hr
  subst ed
  have hb' : (if ds.length = n then c ds else none) = some vals := hb
  by_cases hl : ds.length = n
  · rw [if_pos hl] at hb'
    exact ⟨a, xs, e, s, by rw [l.len]; exact hl, h r H xs ds σ Q vals l hb' q⟩
  · rw [if_neg hl] at hb'
    cases hb'
theorem Rep.repI {r : Rf} {H : Hp} {v : V} {ds : List D} (h : Rep K r H v (.tup ds)) : RepI K r H v (.tup ds) := by
  obtain ⟨a, xs, e, s, l⟩ := h.sqT
  exact ⟨a, xs, ds, e, rfl, s, l⟩
theorem tg_tupR {gs : TGs} {is : List Nat} {n : Nat} {c : List D → Option (List D)} (h : TgsOk K gs is c) : TgOk K (gTup K n gs) is (bTup n c) := fun r H x d σ Q vals hr hb q => by
  cases d with
  | tup ds => exact tg_tup h r H x _ σ Q vals hr.repI hb q
  | _ => cases hb
theorem bTup_n {n m : Nat} {c : List D → Option (List D)} (h : ∀ ds v, c ds = some v → v.length = m) : BdN m (bTup n c) := fun d v e => by
  cases d with
  | tup ds =>
    have e' : (if ds.length = n then c ds else none) = some v := e
    by_cases hl : ds.length = n
    · rw [if_pos hl] at e'
      exact h ds v e'
    · rw [if_neg hl] at e'
      cases e'
  | _ => cases e
theorem bNil_n : ∀ ds v, bNil ds = some v → v.length = 0 := fun ds v e => by
  cases ds with
  | nil => cases e; rfl
  | cons _ _ => cases e
theorem bCons_n {k m : Nat} {b : FB} {c : List D → Option (List D)} (h1 : BdN k b) (h : ∀ ds v, c ds = some v → v.length = m) : ∀ ds v, bCons b c ds = some v → v.length = k + m := fun ds v e => by
  cases ds with
  | nil => cases e
  | cons d ds =>
    obtain ⟨x, hx, hb2⟩ := Option.bind_eq_some_iff.mp (show ((b d).bind fun x => (c ds).map fun y => x ++ y) = some v from e)
    obtain ⟨y, hy, e⟩ := Option.map_eq_some_iff.mp hb2
    subst e
    rw [List.length_append, h1 d x hx, h ds y hy]
section
variable {X : Cx} {W : WXd} {tg iter : Expr}
/-! ### zip -/
def pairs2 : List D → List D → List D
  | a :: as, b :: bs => .tup [a, b] :: pairs2 as bs
  | _, _ => []
theorem pairs2_len : ∀ as bs : List D, (pairs2 as bs).length = min as.length bs.length
  | [], _ => by simp [pairs2]
  | _ :: _, [] => by simp [pairs2]
  | a :: as, b :: bs => by
    show (pairs2 as bs).length + 1 = _
    rw [pairs2_len as bs, List.length_cons, List.length_cons]
    omega
theorem pairs2_get : ∀ {as bs : List D} {i : Nat} {d : D}, (pairs2 as bs)[i]? = some d → ∃ a b, as[i]? = some a ∧ bs[i]? = some b ∧ d = .tup [a, b]
  | [], _, i, d, h => by simp [pairs2] at h
  | _ :: _, [], i, d, h => by simp [pairs2] at h
  | a :: as, b :: bs, 0, d, h => by
    have e := Option.some.inj (show some (D.tup [a, b]) = some d from h)
    exact ⟨a, b, rfl, rfl, e.symm⟩
  | a :: as, b :: bs, i + 1, d, h => pairs2_get (as := as) (bs := bs) (i := i) (show (pairs2 as bs)[i]? = some d from h)
def asZip : List D → Option (List D) | [.tup as, .tup bs] => some (pairs2 as bs) | _ => none
theorem di_zip {a b : Expr} {fa : FA} {elts : List Expr} {kk : Nat} {tpos p pos : Pos} (hg : Gl X "zip") (hm : X.mg "zip" = none) (ha : DA X [a, b] fa)
    (hs : starEach [a, b] X.env = (false, eval a X.env) :: starEach [b] X.env := by rfl) (hpl : (backTo pos (starEach [b] X.env)).any (·.1) = false := by rfl) :
    DIR X (RepI X.K) (.Tuple elts kk tpos) (.Call (.Name "zip" p) [a, b] [] pos) (iOfA asZip fa) := weakI (RZ.pi_zipA hg hm ha hs hpl) fun σ H R hh => by
  obtain ⟨r, env, st, ds, st', he, hs, hf, q⟩ := hh
  obtain ⟨xs, h1, h2⟩ := iOfA_some hf
  refine ⟨r, env, st, xs, st', he, hs, h1, fun v r1 H1 e1 q1 p1 => ?_⟩
  unfold asZip at h2
  split at h2
  · rename_i as bs
    cases h2
    obtain ⟨u, w, rfl, pa, pb⟩ := lst2 p1
    obtain ⟨a', us, rfl, sa, la⟩ := pa.sqT
    obtain ⟨b', ws, rfl, sb, lb⟩ := pb.sqT
    have pa1 := pa
    have pb1 := pb
    refine ⟨a', b', us, ws, rfl, .inr ⟨sa, sb, q _ r1 H1 e1 q1 fun r2 H2 st2 e2 s2 => ?_⟩⟩
    -- the tuples stand as they stood
    have hk : ∀ {c : Addr} {ys : List V} {es : List D}, SqT X.K H1 c ys → RepL X.K r1 H1 ys es → Rep X.K r1 H1 (.ref c) (.tup es) → ∃ zs, SqT X.K H2 c zs ∧ RepL X.K r2 H2 zs es := fun {c ys es} _ _ p => by
      obtain ⟨c', zs, e', s', l'⟩ := (p.ext e2).sqT
      cases e'
      exact ⟨zs, s', l'⟩
    obtain ⟨us2, sa2, la2⟩ := hk sa la pa1
    obtain ⟨ws2, sb2, lb2⟩ := hk sb lb pb1
    refine ⟨fun i hi => ⟨us2, ws2, sa2, sb2, ?_⟩, fun i d hd => ?_⟩
    · rw [pairs2_len] at hi
      rw [la2.len, lb2.len]
      omega
    · obtain ⟨x, y, hx, hy, ed⟩ := pairs2_get hd
      obtain ⟨vx, hvx, rx⟩ := la2.get hx
      obtain ⟨vy, hvy, ry⟩ := lb2.get hy
      refine ⟨⟨us2, ws2, vx, vy, sa2, sb2, hvx, hvy⟩, fun v H3 ⟨T, x', y', ev, hT, eH, w1, w2⟩ => ?_⟩
      subst ev
      subst eH
      have ex : x' = vx := by
        have := w1 us2 sa2
        rw [hvx] at this
        exact (Option.some.inj this).symm
      have ey : y' = vy := by
        have := w2 ws2 sb2
        rw [hvy] at this
        exact (Option.some.inj this).symm
      subst ex ey
      have sm : Same H2 (upd H2 T (.tup [x', y'])) := same_alloc hT
      exact ⟨r2, s2.ext sm, s2.same sm, T, [x', y'], [x, y], rfl, ed, .inl (.inl upd_same), .cons (rx.ext (s2.ext sm)) (.cons (ry.ext (s2.ext sm)) .nil)⟩
  · cases h2
/-! ### (*xs, a) -/
def asSeq : D → Store → Option (List D) := fun d st => match d with
  | .lst ds => some ds
  | .tup ds => some ds
  | .ref n => (match st[n]? with | some (.lst ds) => some ds | _ => none)
  | _ => none
def aStar (f : F) (g : FA) : FA := fun env st => (f env st).bind fun p => (asSeq p.1 p.2).bind fun ds => (g env p.2).map fun q => (ds ++ q.1, q.2)
theorem asSeq_rep {r : Rf} {H : Hp} {v : V} {d : D} {st : Store} {ds : List D} (h : Rep K r H v d) (si : Sim K r H st) (e : asSeq d st = some ds) : ∃ p xs, v = .ref p ∧ (SqT K H p xs ∨ SqL K H p xs) ∧ RepL K r H xs ds := by
  unfold asSeq at e
  split at e
  · cases e
    cases h with
    | lst a b c => exact ⟨_, _, rfl, .inr (.of a), c⟩
  · cases e
    obtain ⟨a, xs, e, s, l⟩ := h.sqT
    exact ⟨a, xs, e, .inl s, l⟩
  · rename_i n
    obtain ⟨a, rfl, ha⟩ := h.refI
    split at e
    · rename_i es hst
      cases e
      obtain ⟨av, xs, hx, l⟩ := si.ob _ a _ ha hst
      exact ⟨a, xs, rfl, .inr (.of hx), l⟩
    · cases e
  · cases e
theorem da_star {e : Expr} {p : Pos} {es : List Expr} {f : F} {g : FA} (h : DE X e f) (t : DA X es g) (hs : starEach (.Starred e p :: es) X.env = (true, eval e X.env) :: starEach es X.env := by rfl) : DA X (.Starred e p :: es) (aStar f g) :=
  weakA (StX.pa_star h t hs) fun σ H Q hh => by
  obtain ⟨r, env, st, ds, st', he, hs, hf, q⟩ := hh
  obtain ⟨⟨x, s1⟩, h1, hf1⟩ := Option.bind_eq_some_iff.mp hf
  obtain ⟨xs, h2, hf2⟩ := Option.bind_eq_some_iff.mp hf1
  obtain ⟨⟨ys, s2⟩, h3, hf3⟩ := Option.map_eq_some_iff.mp hf2
  cases hf3
  refine ⟨r, env, st, x, s1, he, hs, h1, fun u r1 H1 e1 q1 p1 => ?_⟩
  obtain ⟨p, us, eu, sq, l⟩ := asSeq_rep p1 q1 h2
  exact ⟨p, us, eu, sq, r1, env, s1, ys, _, he.ext e1, q1, h3, fun ws r2 H2 e2 q2 l2 => q (us ++ ws) r2 H2 (e1.trans e2) q2 ((l.ext e2).append l2)⟩
/-! ### ord -/
def bOrd : List D → Store → Option D := fun ds _ => match ds with | [.str x] => if x.length = 1 then some (.int (x.cps.getD 0 0 : Nat)) else none | _ => none
theorem ok_ord : CallOk X (.builtin "ord") bOrd := ⟨_, call_ord, fun rho H xs ds d st Q rl si e q => by
  unfold bOrd at e
  split at e
  · split at e
    · rename_i z hz
      cases e
      obtain ⟨v, rfl, p⟩ := lst1 rl
      cases p
      exact ⟨_, rfl, hz, q _ H (fun _ _ h => h) (.int _)⟩
    · cases e
  · cases e⟩
/-! ### what is never run -/
def sNever : FS := fun _ _ => none
theorem ds_never {s : Stmt} : DS X W s sNever := ⟨fun pins s σ H D I h => by
  obtain ⟨r, env, st, o, env', st', _, _, hf, _⟩ := h
  cases hf⟩
end
end DL
/-! A list of the store is walked (as long as it stands as it stood); a dict is locked and walked. -/
namespace DL
open PySem PySem.Spec PyProof.Rows L2 TL
/-- the walk goes on while the store is as P says -/
noncomputable def okP (P : Store → Prop) (st : Store) : Bool := @decide (P st) (Classical.propDecidable _)
theorem okP_t {P : Store → Prop} {st : Store} (h : P st) : okP P st = true := @decide_eq_true _ (Classical.propDecidable _) h
theorem okP_p {P : Store → Prop} {st : Store} (h : okP P st = true) : P st := @of_decide_eq_true _ (Classical.propDecidable _) h
variable {K : PySem.W.Frag}
abbrev FIg := Lo → Store → Option (List D × (Store → Prop) × Store)
def ItOkG (K : PySem.W.Frag) (R : RD) (P : Store → Prop) (J : It) (r : Rf) (H : Hp) (ds : List D) : Prop :=
  ∀ r1 H1 st1, Ext r H r1 H1 → Sim K r1 H1 st1 → P st1 → (∀ i, ds.length ≤ i → J.stop i H1) ∧
    ∀ (i : Nat) d, ds[i]? = some d → J.go i H1 ∧ ∀ x H2, J.yld i H1 x H2 → ∃ r2, Ext r1 H1 r2 H2 ∧ Sim K r2 H2 st1 ∧ R r2 H2 x d
def tIG (K : PySem.W.Frag) (RR : RD) (f : FIg) : TI := fun σ H R => ∃ r env st ds P st', EnvR K r H env σ ∧ Sim K r H st ∧ f env st = some (ds, P, st') ∧ ∀ J r' H', Ext r H r' H' → Sim K r' H' st' → ItOkG K RR P J r' H' ds → R J H'
abbrev DIG (X : Cx) (RR : RD) (tg iter : Expr) (f : FIg) : Prop := PI X tg iter (tIG X.K RR f)
noncomputable def loopSG (P : Store → Prop) (tg : FG) (body : FS) : List D → Lo → Store → Option (Out × Lo × Store)
  | [], env, st => if okP P st = true then some (.nx, env, st) else none
  | d :: ds, env, st => if okP P st = true then (tg d env).bind fun e1 => (body e1 st).bind fun p => match p with
    | (.nx, e2, s2) => loopSG P tg body ds e2 s2
    | (.ct, e2, s2) => loopSG P tg body ds e2 s2
    | (.bk, e2, s2) => some (.nx, e2, s2)
    | (.rt v, e2, s2) => some (.rt v, e2, s2)
    | (.er c f v, e2, s2) => some (.er c f v, e2, s2) else none
noncomputable def sForG (fi : FIg) (tg : FG) (body : FS) : FS := fun env st => (fi env st).bind fun p => loopSG p.2.1 tg body p.1 env p.2.2
noncomputable def loopCG (P : Store → Prop) (is : List Nat) (bd : FB) (t : FT) (f : F) : List D → Lo → Store → Option (List D × Store)
  | [], _, st => if okP P st = true then some ([], st) else none
  | d :: ds, env, st => if okP P st = true then (bd d).bind fun vs => (t (setL is vs env) st).bind fun p => if p.1 = true then (f (setL is vs env) p.2).bind fun q => (loopCG P is bd t f ds env q.2).map fun z => (q.1 :: z.1, z.2) else loopCG P is bd t f ds env p.2 else none
noncomputable def fCompG (fi : FIg) (is : List Nat) (bd : FB) (t : FT) (f : F) : F := fun env st => (fi env st).bind fun p => (loopCG p.2.1 is bd t f p.1 (wipeL env is) p.2.2).bind fun q => if q.1.length ≤ sizeLine then some (.lst q.1, q.2) else none
theorem compReadsG {RR : RD} {fi : FIg} {is : List Nat} {bd : FB} {g : TG} {t : FT} {f : F} (hg : TgOkR K RR g is bd) (σ : L2.St) (H : Hp) (Q : VK) (hh : tD K (fCompG fi is bd t f) σ H Q) : tLc (tIG K RR fi) g (tT K t) (tD K f) is σ H Q := by
  obtain ⟨r, env, st, d, st', he, hs, hf, q⟩ := hh
  obtain ⟨⟨ds, P, s1⟩, h1, h2⟩ := Option.bind_eq_some_iff.mp hf
  obtain ⟨⟨zs, s2⟩, h3, h4⟩ := Option.bind_eq_some_iff.mp h2
  by_cases hz : zs.length ≤ sizeLine
  case neg => rw [if_neg hz] at h4; cases h4
  rw [if_pos hz] at h4
  cases h4
  refine ⟨r, env, st, ds, P, s1, he, hs, h1, fun J r1 H1 e1 q1 j1 Dl hD => ?_⟩
  have m0 := Mkg.start (o := .lst []) q1 hD
  refine ⟨fun k m H2 => m = ds.length - k ∧ k ≤ ds.length ∧ ∃ r2 st2 acc us ys, Mkg K r1 H1 Dl r2 H2 st2 ∧ EnvR K r2 H2 (DL.wipeL env is) (wipe σ is) ∧ H2 Dl = some (.lst us) ∧ RepL K r2 H2 us acc ∧
    loopCG P is bd t f (ds.drop k) (DL.wipeL env is) st2 = some (ys, s2) ∧ acc ++ ys = zs, ⟨_, rfl, Nat.zero_le _, r1.hide Dl, s1, [], [], zs, m0, ((he.ext e1).ext m0.ex).wipeL is, upd_same, .nil, h3, rfl⟩, ?_⟩
  rintro k m H2 ⟨rfl, hk, r2, st2, acc, us, ys, mk, wp, hus, racc, hl, hcat⟩
  by_cases hlt : k < ds.length
  case neg =>
    have e : k = ds.length := by omega
    subst e
    rw [List.drop_length] at hl
    unfold loopCG at hl
    by_cases hP : okP P st2 = true
    case neg => rw [if_neg hP] at hl; cases hl
    rw [if_pos hP] at hl
    obtain ⟨jst, jgo⟩ := j1 r2 H2 st2 mk.ex mk.sim (okP_p hP)
    cases hl
    rw [List.append_nil] at hcat
    subst hcat
    obtain ⟨w1, w2, w3⟩ := mk.show q1 hD
    exact .inl ⟨jst _ (Nat.le_refl _), q (.ref Dl) (r2.shown Dl) H2 (e1.trans w1) w2 (.lst hus (fun z => z.2 rfl) (racc.ex w3))⟩
  case pos =>
    have hd : ds[k]? = some ds[k] := List.getElem?_eq_getElem hlt
    rw [List.drop_eq_getElem_cons hlt] at hl
    unfold loopCG at hl
    by_cases hP : okP P st2 = true
    case neg => rw [if_neg hP] at hl; cases hl
    rw [if_pos hP] at hl
    obtain ⟨jst, jgo⟩ := j1 r2 H2 st2 mk.ex mk.sim (okP_p hP)
    obtain ⟨vals, hv, hl1⟩ := Option.bind_eq_some_iff.mp hl
    obtain ⟨⟨b, st3⟩, hb, hl2⟩ := Option.bind_eq_some_iff.mp hl1
    obtain ⟨j2, j3⟩ := jgo k _ hd
    refine .inr ⟨j2, fun H' => k + 1 ≤ ds.length ∧ ∃ r2 st2 acc us ys, Mkg K r1 H1 Dl r2 H' st2 ∧ EnvR K r2 H' (DL.wipeL env is) (wipe σ is) ∧ H' Dl = some (.lst us) ∧ RepL K r2 H' us acc ∧
      loopCG P is bd t f (ds.drop (k + 1)) (DL.wipeL env is) st2 = some (ys, s2) ∧ acc ++ ys = zs, fun H' ⟨hk', w⟩ => ⟨ds.length - (k + 1), by omega, rfl, hk', w⟩, fun x H3 y => ?_⟩
    obtain ⟨r3, e3, s3, rx⟩ := j3 x H3 y
    have wp3 := wp.ext e3
    refine hg r3 H3 x _ _ _ vals rx hv fun vs rvs => ⟨wipe_setL σ is vs, ?_⟩
    · have he3 : EnvR K r3 H3 (DL.setL is vals (DL.wipeL env is)) (DL.setL is vs (wipe σ is)) := wp3.setL rvs
      refine ⟨r3, _, st2, b, st3, he3, s3, hb, fun r4 H4 e4 s4 => ?_⟩
      cases b with
      | false =>
        rw [if_neg Bool.false_ne_true] at hl2 ⊢
        obtain ⟨m4, k4⟩ := mk.step (e3.trans e4) s4
        exact ⟨hlt, r4, st3, acc, us, ys, m4, wp3.ext e4, k4.trans hus, racc.ext (e3.trans e4), hl2, hcat⟩
      | true =>
        rw [if_pos rfl] at hl2 ⊢
        obtain ⟨⟨yd, st4⟩, hy, hl3⟩ := Option.bind_eq_some_iff.mp hl2
        obtain ⟨⟨ys', st5⟩, hl4, hl5⟩ := Option.map_eq_some_iff.mp hl3
        cases hl5
        refine ⟨r4, _, st3, yd, st4, he3.ext e4, s4, hy, fun yv r5 H5 e5 s5 ry => ?_⟩
        have e25 : Ext r2 H2 r5 H5 := (e3.trans e4).trans e5
        obtain ⟨m5, k5⟩ := mk.step e25 s5
        obtain ⟨m6, g1⟩ := m5.put q1 hD (.lst (us ++ [yv]))
        refine ⟨us, k5.trans hus, ?_, hlt, r5, st4, acc ++ [yd], us ++ [yv], ys', m6, ((wp3.ext e4).ext e5).exx g1, upd_same, ((racc.ext e25).ex g1).append (.cons (ry.ex g1) .nil), hl4, by rw [← hcat, List.append_assoc]; rfl⟩
        rw [racc.len]
        have : (acc ++ yd :: ys').length ≤ sizeLine := by rw [hcat]; exact hz
        rw [List.length_append, List.length_cons] at this
        omega
section
variable {X : Cx} {W : WXd} {tg iter : Expr}
theorem de_lcG {RR : RD} {elt : Expr} {ifs : List Expr} {scope : Scope} {own : List (Str × Nat)} {pos : Pos} {fi : FIg} {bd : FB} {g : TG} {t : FT} {f : F} (hc : X.calm = true) (hN : X.N.Nodup) (hi : DIG X RR tg iter fi) (ok : BlkOk X.N X.env.scope scope own)
    (tk : TgOkR X.K RR g (own.map (·.2)) bd)
    (hg : ∀ (s : Shared) (H : Hp) (C : Addr) (cl : List (Str × Addr)) (fp : List Addr), PG (X.blk s H scope (compEnvC scope cl C X.env) fp) tg g) (ht : ∀ (s : Shared) (H : Hp) (C : Addr) (cl : List (Str × Addr)) (fp : List Addr), DTs (X.blk s H scope (compEnvC scope cl C X.env) fp) ifs t)
    (he : ∀ (s : Shared) (H : Hp) (C : Addr) (cl : List (Str × Addr)) (fp : List Addr), DE (X.blk s H scope (compEnvC scope cl C X.env) fp) elt f) (hs : ∀ x, foldedSetIterable iter X.env x = pure x := by intro _; rfl) :
    DE X (.ListComp elt [⟨tg, iter, ifs, 0⟩] scope pos) (fCompG fi (own.map (·.2)) bd t f) := weakE (pe_lc hc hN hi ok hg ht he hs) fun σ H Q hh => compReadsG tk σ H Q hh
/-- a list of the store, as long as it stands as it stood -/
def iRefL (f : F) : FIg := fun env st => (f env st).bind fun p => match p.1 with
  | .ref n => (match p.2[n]? with | some (.lst ds) => some (ds, (fun s => s[n]? = some (.lst ds)), p.2) | _ => none)
  | _ => none
theorem di_refL {f : F} (h : DE X iter f) : DIG X (Rep X.K) tg iter (iRefL f) := weakI (pi_list h) fun σ H R hh => by
  obtain ⟨r, env, st, ds, P, st', he, hs, hf, q⟩ := hh
  obtain ⟨⟨d, s1⟩, h1, h2⟩ := Option.bind_eq_some_iff.mp hf
  cases d with
  | ref n =>
    have h2' : (match s1[n]? with | some (.lst ds) => some (ds, (fun s : Store => s[n]? = some (.lst ds)), s1) | _ => none) = some (ds, P, st') := h2
    split at h2'
    · rename_i es hst
      cases h2'
      refine ⟨r, env, st, _, _, he, hs, h1, fun v r1 H1 e1 q1 p1 => ?_⟩
      obtain ⟨a, rfl, ha⟩ := p1.refI
      obtain ⟨av, xs, hx, l⟩ := q1.ob _ a _ ha hst
      refine ⟨a, rfl, ⟨xs, .of hx⟩, q _ r1 H1 e1 q1 fun r2 H2 st2 e2 s2 hP => ?_⟩
      obtain ⟨av2, ys, hy, l2⟩ := s2.ob _ a _ (e2.get ha) hP
      have sq : SqL X.K H2 a ys := .of hy
      refine ⟨fun i hi => ⟨ys, sq, by rw [l2.len]; exact hi⟩, fun i d hd => ?_⟩
      obtain ⟨v, hv, rv⟩ := l2.get hd
      exact ⟨⟨ys, v, sq, hv⟩, fun x H3 ⟨e, y⟩ => by
        subst e
        have := y ys sq
        rw [hv] at this
        cases this
        exact ⟨r2, .refl _ _, s2, rv⟩⟩
    · cases h2'
  | _ => cases h2
end
/-! the walk of a list that stands: as of any other -/
theorem loopCG_map {P : Store → Prop} {is : List Nat} {bd : FB} {f : F} {g : D → D} {env : Lo} {st : Store} (hP : P st) : ∀ {ds : List D}, (∀ d ∈ ds, ∃ vs, bd d = some vs ∧ f (setL is vs env) st = some (g d, st)) → loopCG P is bd tTrue f ds env st = some (ds.map g, st)
  | [], _ => by unfold loopCG; rw [if_pos (okP_t hP)]; rfl
  | d :: ds, h => by
    obtain ⟨ws, hb, hf⟩ := h d List.mem_cons_self
    have := loopCG_map hP (ds := ds) fun d hd => h d (List.mem_cons_of_mem _ hd)
    simp [loopCG, hb, tTrue, hf, this, okP_t hP]
end DL
/-! enumerate over a tuple, over a list. -/
namespace DL
open PySem PySem.Spec PyProof.Rows L2 TL
end DL
/-! The order of nested tuples: the first place that differs decides, none behind it is asked. -/
namespace DL
open PySem PySem.Spec PyProof.Rows L2 TL
section
open PySem.AutoSeq1 (wpAny_loadPart')
open PySem.MeetsSeq PySem.MeetsSeq2 PySem.MeetsSeq3 PySem.SeqAt
/-- two rows in order, place by place -/
inductive LexAt (A : Around) (s : Shared) : List Value → List Value → Bool → Prop
  | nil2 : LexAt A s [] [] false
  | nilL {u : Value} {us : List Value} : LexAt A s [] (u :: us) true
  | nilR {v : Value} {vs : List Value} : LexAt A s (v :: vs) [] false
  | diff {v u : Value} {vs us : List Value} {k : Bool} : EqAt A s v u false → RcLt A s v u k → LexAt A s (v :: vs) (u :: us) k
  | same {v u : Value} {vs us : List Value} {k : Bool} : EqAt A s v u true → LexAt A s vs us k → LexAt A s (v :: vs) (u :: us) k
theorem tup_lex {p q : Addr} {xs ys : Array Value} {n1 n2 : Nat} {d1 d2 : Option Addr} {t1 t2 : Array (Option Value)} {k : Bool} : Meets (Builtin.«tuple.__lt__» ⟨[.ref p, .ref q], []⟩) (fun A R s =>
    s.heap.get? p = some ⟨.type "tuple", d1, .seq xs n1, t1⟩ ∧ s.heap.get? q = some ⟨.type "tuple", d2, .seq ys n2, t2⟩ ∧ LexAt A.in1 s xs.toList ys.toList k ∧ R (.ok (.ret (.bool k))) s) := .of_wp fun P w A R s hh => by
  obtain ⟨hp, g, d, tk, os⟩ := s
  obtain ⟨g1, g2, lex, done⟩ := hh
  have sub := AutoSeq1.sub_tuple_tuple
  wp_walk using wpAny_loadPart' g1, wpAny_loadPart' g2, wpAny_forIn_list _ (fun todo acc now => acc.1 = none ∧ now = ⟨hp, g, d, tk, os⟩ ∧ ∃ (i : Nat) (vs us : List Value), todo = vs.zip us ∧ xs.size = i + vs.length ∧ ys.size = i + us.length ∧ LexAt A.in1 ⟨hp, g, d, tk, os⟩ vs us k) _
  case turn =>
    rintro ⟨y, x⟩ todo acc now ⟨e1, rfl, i, vs, us, hz, l1, l2, lx⟩
    cases lx with
    | nil2 => cases hz
    | nilL => cases hz
    | nilR => cases hz
    | diff de dr =>
      injection hz with h1 h2
      injection h1 with h3 h4
      subst h3 h4
      refine wpAny_bind (de P w _ _ ?_)
      have ask := dr P w
      wp_walk using ask
      exact ⟨_, rfl, done⟩
    | same se lr =>
      injection hz with h1 h2
      injection h1 with h3 h4
      subst h3 h4
      refine wpAny_bind (se P w _ _ ?_)
      wp_walk
      exact ⟨rfl, rfl, i + 1, _, _, h2, by rw [l1, List.length_cons]; omega, by rw [l2, List.length_cons]; omega, lr⟩
  case fin =>
    rintro ⟨b1, b2⟩ now ⟨e1, rfl, i, vs, us, hz, l1, l2, lx⟩
    simp only at e1
    subst e1
    have hk : k = decide (xs.size < ys.size) := by
      cases lx with
      | nil2 => simp only [List.length_nil] at l1 l2; rw [l1, l2]; simp
      | nilL => simp only [List.length_nil, List.length_cons] at l1 l2; rw [l1, l2]; simp
      | nilR => simp only [List.length_nil, List.length_cons] at l1 l2; rw [l1, l2]; simp
      | diff de dr => cases hz
      | same se lr => cases hz
    wp_walk
    exact ⟨_, rfl, by simpa [Builtin.Tuple.tupleCompareSizes, ← hk] using done⟩
  case h =>
    exact ⟨rfl, rfl, 0, xs.toList, ys.toList, rfl, by simp, by simp, lex⟩
end
/-! the order of data -/
mutual
def pyLt : PyData → PyData → Option Bool
  | .int a, .int b => some (decide (a < b))
  | .str a, .str b => some (decide (a.cps.toList < b.cps.toList))
  | .tuple xs, .tuple ys => pyLtL xs ys
  | _, _ => none
def pyLtL : List PyData → List PyData → Option Bool
  | [], [] => some false
  | [], _ :: _ => some true
  | _ :: _, [] => some false
  | x :: xs, y :: ys => if PyData.eqv x y = true then pyLtL xs ys else pyLt x y
end
theorem pyLt_tup (xs ys : List PyData) : pyLt (.tuple xs) (.tuple ys) = pyLtL xs ys := by rw [pyLt]
theorem pyLtL_cons (x y : PyData) (xs ys : List PyData) : pyLtL (x :: xs) (y :: ys) = if PyData.eqv x y = true then pyLtL xs ys else pyLt x y := by rw [pyLtL]
/-- what may be compared -/
inductive PyLt : PyData → PyData → Bool → Prop
  | int (a b : Int) : PyLt (.int a) (.int b) (decide (a < b))
  | str (a b : Str) : PyLt (.str a) (.str b) (decide (a.cps.toList < b.cps.toList))
  | tup {xs ys : List PyData} {k : Bool} : pyLtL xs ys = some k → PyLt (.tuple xs) (.tuple ys) k
theorem pyLt_inv {dx dy : PyData} {k : Bool} (e : pyLt dx dy = some k) : PyLt dx dy k := by
  unfold pyLt at e
  split at e
  · cases e; exact .int _ _
  · cases e; exact .str _ _
  · exact .tup e
  · cases e
theorem lex_of (A : Around) (s : Shared) (ok : PyData → PyData → Prop) (hlt : ∀ (x y : PyData) (v u : Value) (as bs : List Addr) (k : Bool), ok x y → Reads s.heap v x as → Reads s.heap u y bs → pyLt x y = some k → SeqAt.RcLt A s v u k)
    (heq : ∀ (x y : PyData) (v u : Value) (as bs : List Addr), ok x y → Reads s.heap v x as → Reads s.heap u y bs → SeqAt.EqAt A s v u (PyData.eqv x y)) :
    ∀ (xs ys : List PyData) (vs us : List Value) (as bs : List Addr) (k : Bool), (∀ x ∈ xs, ∀ y ∈ ys, ok x y) → ReadsAll s.heap vs xs as → ReadsAll s.heap us ys bs → pyLtL xs ys = some k → LexAt A s vs us k := by
  intro xs
  induction xs with
  | nil =>
    intro ys vs us as bs k _ r1 r2 e
    cases r1
    cases ys with
    | nil =>
      cases r2
      rw [pyLtL] at e
      cases e
      exact .nil2
    | cons y ys =>
      cases r2
      rw [pyLtL] at e
      cases e
      exact .nilL
  | cons x xs ih =>
    intro ys vs us as bs k o r1 r2 e
    cases r1 with
    | cons a1 b1 =>
    cases ys with
    | nil =>
      cases r2
      rw [pyLtL] at e
      cases e
      exact .nilR
    | cons y ys =>
      cases r2 with
      | cons a2 b2 =>
      rw [pyLtL_cons] at e
      have oxy := o x List.mem_cons_self y List.mem_cons_self
      have eq := heq x y _ _ _ _ oxy a1 a2
      by_cases z : PyData.eqv x y = true
      · rw [if_pos z] at e
        rw [z] at eq
        exact .same eq (ih ys _ _ _ _ k (fun x hx y hy => o x (List.mem_cons_of_mem _ hx) y (List.mem_cons_of_mem _ hy)) b1 b2 e)
      · rw [if_neg z] at e
        simp only [Bool.not_eq_true] at z
        rw [z] at eq
        exact .diff eq (hlt x y _ _ _ _ k oxy a1 a2 e)
theorem canLay_mem : ∀ {xs : List PyData}, PyData.canLayAll0 xs = true → ∀ x ∈ xs, x.canLay0 = true
  | [], _, x, h => by cases h
  | y :: ys, c, x, h => by
    rw [PyData.canLayAll0] at c
    obtain ⟨c1, c2⟩ := Bool.and_eq_true_iff.mp c
    rcases List.mem_cons.mp h with e | h
    · rw [e]; exact c1
    · exact canLay_mem c2 x h
theorem depth_mem : ∀ {xs : List PyData}, ∀ x ∈ xs, x.depth ≤ PyData.depthAll xs
  | [], x, h => by cases h
  | y :: ys, x, h => by
    rw [PyData.depthAll]
    rcases List.mem_cons.mp h with e | h
    · rw [e]; exact Nat.le_max_left _ _
    · exact Nat.le_trans (depth_mem x h) (Nat.le_max_right _ _)
theorem rcLt_n : ∀ (n : Nat) (dx dy : PyData) (A : Around) (s : Shared) (v u : Value) (as bs : List Addr) (k : Bool), dx.depth ≤ n → Reads s.heap v dx as → Reads s.heap u dy bs → dx.canLay0 = true → dy.canLay0 = true → A.units + n < cLine → pyLt dx dy = some k → SeqAt.RcLt A s v u k := by
  intro n
  induction n with
  | zero =>
    intro dx dy A s v u as bs k hd r1 r2 c1 c2 hu e
    cases pyLt_inv e with
    | int a b =>
      cases r1
      cases r2
      exact fun _ _ _ _ h => PyProof.Rows.lt_int h
    | str a b =>
      cases r1
      cases r2
      exact fun _ _ _ _ h => PySem.P.lt_str h
    | tup e2 =>
      rw [PyData.depth] at hd
      exact absurd hd (by omega)
  | succ n ih =>
    intro dx dy A s v u as bs k hd r1 r2 c1 c2 hu e
    cases pyLt_inv e with
    | int a b =>
      cases r1
      cases r2
      exact fun _ _ _ _ h => PyProof.Rows.lt_int h
    | str a b =>
      cases r1
      cases r2
      exact fun _ _ _ _ h => PySem.P.lt_str h
    | tup e2 =>
      rename_i xs ys
      rw [PyData.depth] at hd
      rw [PyData.canLay0] at c1 c2
      cases r1 with
      | tuple ho hc hdd ra =>
      cases r2 with
      | tuple ho2 hc2 hd2 rb =>
      rename_i p o vv n1 q o2 vv2 n2
      obtain ⟨cls, dd, data, sl⟩ := o
      obtain ⟨cls2, dd2, data2, sl2⟩ := o2
      simp only at hc hdd hc2 hd2
      subst hc hdd hc2 hd2
      have hu' : A.in1.units + n < cLine := by
        show A.units + 1 + n < cLine
        omega
      have lx := lex_of A.in1 s (fun x y => x ∈ xs ∧ y ∈ ys) (fun x y v u as bs k o a1 a2 e => ih x y A.in1 s v u as bs k (Nat.le_trans (depth_mem x o.1) (by omega)) a1 a2 (canLay_mem c1 x o.1) (canLay_mem c2 y o.2) hu' e)
        (fun x y v u as bs o a1 a2 => SeqAt.eqAt_reads x y A.in1 s v u as bs a1 a2 (canLay_mem c1 x o.1) (canLay_mem c2 y o.2) (by
          have h1 := depth_mem x o.1
          have h2 := Nat.min_le_left x.depth y.depth
          omega)) xs ys _ _ _ _ k (fun x hx y hy => ⟨hx, hy⟩) ra rb e2
      exact fun P w E Q h => richCompare_meets_room (op := .Lt) ⟨_, ho, rfl⟩ ⟨_, ho2, rfl⟩ PySem.F.slot_tuple_lt PySem.F.entry_tuple_lt (PySem.F.args_tuple_lt_2 _ _) tup_lex ⟨ho, ho2, lx, ⟨(fun x => nomatch x), h⟩⟩ (by omega)
theorem rcLt_py (dx dy : PyData) (A : Around) (s : Shared) (v u : Value) (as bs : List Addr) (k : Bool) (r1 : Reads s.heap v dx as) (r2 : Reads s.heap u dy bs) (c1 : dx.canLay0 = true) (c2 : dy.canLay0 = true) (hu : A.units + dx.depth < cLine) (e : pyLt dx dy = some k) : SeqAt.RcLt A s v u k :=
  rcLt_n dx.depth dx dy A s v u as bs k (Nat.le_refl _) r1 r2 c1 c2 hu e
section
variable {X : Cx}
/-- a < b of nested data -/
def ltN : D → D → Option D := fun a b => (toPy a).bind fun p => (toPy b).bind fun q => if SeqAt.shaped p = true ∧ SeqAt.shaped q = true then (pyLt p q).map .bl else none
theorem op_ltN (hu : X.A.units + 64 < cLine) : OpR X (compareOp .Lt) (fun x y H Q => ∃ p q k, Dp X.K H x p ∧ Dp X.K H y q ∧ SeqAt.shaped p = true ∧ SeqAt.shaped q = true ∧ pyLt p q = some k ∧ Q (.bl k) H) := by
  intro pins s σ H x y v u Q I rx ry h
  obtain ⟨p, q, k, hp, hq, sp, sq, hk, hQ⟩ := h
  obtain ⟨as, r1⟩ := Dp.reads I p x v hp rx
  obtain ⟨bs, r2⟩ := Dp.reads I q y u hq ry
  have dp := SeqAt.depth_of_shaped sp
  exact rcLt_py p q X.A s v u as bs k r1 r2 (SeqAt.canLay_of_shaped sp) (SeqAt.canLay_of_shaped sq) (by omega) hk X.prog X.w _ _ ⟨.bl k, H, I, rfl, hQ⟩
theorem ok_ltN {k : Nat} (g : GX X k) : OpOk X (compareOp .Lt) ltN := ⟨_, op_ltN (by have := g.room.un; omega), fun rho H x y a b d st Q si ra rb e q => by
  obtain ⟨p, h1, h2⟩ := Option.bind_eq_some_iff.mp e
  obtain ⟨p2, h3, h4⟩ := Option.bind_eq_some_iff.mp h2
  by_cases z : SeqAt.shaped p = true ∧ SeqAt.shaped p2 = true
  · rw [if_pos z] at h4
    obtain ⟨k, h5, h6⟩ := Option.map_eq_some_iff.mp h4
    subst h6
    exact ⟨p, p2, k, ra.dp h1, rb.dp h3, z.1, z.2, h5, q _ H (fun _ _ h => h) (.bl k)⟩
  · rw [if_neg z] at h4
    cases h4⟩
/-! bool - bool -/
/-! ==, != where a list of the store stands on a side -/
end
end DL
/-! Lists that are written no more become values; zip of such lists. -/
namespace DL
open PySem PySem.Spec PyProof.Rows L2
section
variable {X : Cx} {W : WXd} {tg iter : Expr}
theorem Rep.sqLv {K : PySem.W.Frag} {r : Rf} {H : Hp} {v : V} {ds : List D} (h : Rep K r H v (.lst ds)) : ∃ a xs, v = .ref a ∧ SqL K H a xs ∧ RepL K r H xs ds := by
  cases h with
  | lst a b c => exact ⟨_, _, rfl, .of a, c⟩
end
end DL
/-! Sets of ints that live for one expression: how many they are, in order. -/
namespace DL
open PySem PySem.Spec PyProof.Rows L2
section
variable {X : Cx}
/-! ### ints -/
/-! ### sorted(set(t)), t a tuple of ints -/
def ins (k : Int) : List Int → List Int
  | [] => [k]
  | a :: l => if k < a then k :: a :: l else if k = a then a :: l else a :: ins k l
def srt (ks : List Int) : List Int := ks.foldr ins []
theorem ins_mem {k j : Int} : ∀ {l : List Int}, j ∈ ins k l ↔ j = k ∨ j ∈ l
  | [] => by simp [ins]
  | a :: l => by
    unfold ins
    split
    · simp
    · split
      · rename_i e
        subst e
        simp
      · rw [List.mem_cons, ins_mem, List.mem_cons]
        exact ⟨fun h => h.elim (fun e => .inr (.inl e)) fun h => h.elim .inl fun h => .inr (.inr h), fun h => h.elim (fun e => .inr (.inl e)) fun h => h.elim .inl fun h => .inr (.inr h)⟩
theorem ins_pw {k : Int} : ∀ {l : List Int}, l.Pairwise (· < ·) → (ins k l).Pairwise (· < ·)
  | [], _ => by simp [ins]
  | a :: l, h => by
    obtain ⟨h1, h2⟩ := List.pairwise_cons.mp h
    unfold ins
    split
    · rename_i lt
      exact List.pairwise_cons.mpr ⟨fun x hx => (List.mem_cons.mp hx).elim (fun e => e ▸ lt) fun hx => Int.lt_trans lt (h1 x hx), h⟩
    · split
      · exact h
      · refine List.pairwise_cons.mpr ⟨fun x hx => ?_, ins_pw h2⟩
        rcases ins_mem.mp hx with e | hx
        · omega
        · exact h1 x hx
theorem srt_mem {j : Int} : ∀ {ks : List Int}, j ∈ srt ks ↔ j ∈ ks
  | [] => by simp [srt]
  | k :: ks => by
    show j ∈ ins k (srt ks) ↔ _
    rw [ins_mem, srt_mem, List.mem_cons]
theorem srt_pw : ∀ ks : List Int, (srt ks).Pairwise (· < ·)
  | [] => .nil
  | k :: ks => ins_pw (srt_pw ks)
theorem pw_eq : ∀ {xs ys : List Int}, xs.Pairwise (· < ·) → ys.Pairwise (· < ·) → (∀ j, j ∈ xs ↔ j ∈ ys) → xs = ys
  | [], [], _, _, _ => rfl
  | [], y :: _, _, _, h => absurd ((h y).mpr List.mem_cons_self) (by simp)
  | x :: _, [], _, _, h => absurd ((h x).mp List.mem_cons_self) (by simp)
  | x :: xs, y :: ys, hx, hy, h => by
    obtain ⟨x1, x2⟩ := List.pairwise_cons.mp hx
    obtain ⟨y1, y2⟩ := List.pairwise_cons.mp hy
    have e : x = y := by
      rcases List.mem_cons.mp ((h x).mp List.mem_cons_self) with e | m
      · exact e
      · rcases List.mem_cons.mp ((h y).mpr List.mem_cons_self) with e | m2
        · exact e.symm
        · have := y1 x m
          have := x1 y m2
          omega
    subst e
    rw [pw_eq x2 y2 fun j => ⟨fun m => ?_, fun m => ?_⟩]
    · rcases List.mem_cons.mp ((h j).mp (List.mem_cons_of_mem _ m)) with e | q
      · subst e
        exact absurd (x1 j m) (Int.lt_irrefl _)
      · exact q
    · rcases List.mem_cons.mp ((h j).mpr (List.mem_cons_of_mem _ m)) with e | q
      · subst e
        exact absurd (y1 j m) (Int.lt_irrefl _)
      · exact q
/-! ### tuple(range(n)) -/
/-! ### x in xs, xs a list of the store -/
end
end DL
/-! Dicts: frozen, read, walked, locked and walked, comprehended, copied, sorted. -/
namespace DL
open PySem PySem.Spec PyProof.Rows L2 TL
variable {K : PySem.W.Frag}
/-! ### what a dict holds -/
def dctAt : D → Store → Option (List (Key × D)) := fun d st => match d with
  | .dct kvs => some kvs
  | .ref n => (match st[n]? with | some (.dct kvs) => some kvs | some (.ldc kvs) => some kvs | _ => none)
  | _ => none
theorem dctRd {r : Rf} {H : Hp} {v : V} {d : D} {st : Store} {kvs : List (Key × D)} (h : Rep K r H v d) (si : Sim K r H st) (e : dctAt d st = some kvs) : ∃ a xs, v = .ref a ∧ Rd H a (.dK xs) ∧ RepK K r H xs kvs := by
  cases d with
  | dct ks =>
    cases e
    cases h with
    | dct a b c => exact ⟨_, _, rfl, .inr ⟨_, a⟩, c⟩
  | ref n =>
    obtain ⟨a, rfl, ha⟩ := h.refI
    have e' : (match st[n]? with | some (.dct kvs) => some kvs | some (.ldc kvs) => some kvs | _ => none) = some kvs := e
    split at e'
    · rename_i ks hst
      cases e'
      obtain ⟨av, xs, hx, l⟩ := si.ob _ a _ ha hst
      exact ⟨a, xs, rfl, .inl hx, l⟩
    · rename_i ks hst
      cases e'
      obtain ⟨av, lk, o, xs, hx, l⟩ := si.ob _ a _ ha hst
      exact ⟨a, xs, rfl, .inr ⟨o, hx⟩, l⟩
    · cases e'
  | _ => cases e
theorem RepK.valN {r : Rf} {H : Hp} {k : Key} : ∀ {vs : List (Key × V)} {ds : List (Key × D)}, RepK K r H vs ds → valD ds k = none → valV vs k = none
  | _, _, .nil, _ => rfl
  | _, _, .cons (k := k0) a b, h => by
    unfold valD at h
    unfold valV
    rw [List.find?_cons] at h ⊢
    by_cases z : k0 = k
    · simp [z] at h
    · have zz : decide (k0 = k) = false := decide_eq_false z
      simp only [zz] at h ⊢
      exact RepK.valN b h
/-- the value at a key, or none, on both levels -/
theorem RepK.opt {r : Rf} {H : Hp} {k : Key} {vs : List (Key × V)} {ds : List (Key × D)} (l : RepK K r H vs ds) : (valD ds k = none ∧ valV vs k = none) ∨ ∃ d v, valD ds k = some d ∧ valV vs k = some v ∧ Rep K r H v d := by
  cases e : valD ds k with
  | none => exact .inl ⟨rfl, l.valN e⟩
  | some d =>
    obtain ⟨v, hv, rv⟩ := l.val e
    exact .inr ⟨d, v, rfl, hv, rv⟩
def dropD (kvs : List (Key × D)) (k : Key) : List (Key × D) := kvs.filter fun kv => decide (kv.1 ≠ k)
theorem RepK.drop {r : Rf} {H : Hp} {k : Key} : ∀ {vs : List (Key × V)} {ds : List (Key × D)}, RepK K r H vs ds → RepK K r H (dropK vs k) (dropD ds k)
  | _, _, .nil => .nil
  | _, _, .cons (k := k0) a b => by
    unfold dropK dropD
    rw [List.filter_cons, List.filter_cons]
    by_cases z : k0 = k
    · have : decide (k0 ≠ k) = false := decide_eq_false (fun q => q z)
      simp only [this]
      exact RepK.drop b
    · have : decide (k0 ≠ k) = true := decide_eq_true z
      simp only [this, if_true]
      exact .cons a (RepK.drop b)
theorem RepK.keys {r : Rf} {H : Hp} : ∀ {vs : List (Key × V)} {ds : List (Key × D)}, RepK K r H vs ds → vs.map (·.1) = ds.map (·.1)
  | _, _, .nil => rfl
  | _, _, .cons a b => by rw [List.map_cons, List.map_cons, RepK.keys b]
theorem RepK.get {r : Rf} {H : Hp} : ∀ {vs : List (Key × V)} {ds : List (Key × D)}, RepK K r H vs ds → ∀ {i : Nat} {k : Key} {d : D}, ds[i]? = some (k, d) → ∃ v, vs[i]? = some (k, v) ∧ Rep K r H v d
  | _, _, .nil, i, k, d, h => by simp at h
  | _, _, .cons a b, 0, k, d, h => by
    have e := Option.some.inj h
    cases e
    exact ⟨_, rfl, a⟩
  | _, _, .cons a b, i + 1, k, d, h => RepK.get b (i := i) h
def keyD : Key → D | .inl i => .int i | .inr x => .str x
theorem keyD_rep {r : Rf} {H : Hp} (k : Key) : Rep K r H (kV k) (keyD k) := by cases k with | inl i => exact .int i | inr x => exact .str x
section
variable {X : Cx} {W : WXd} {tg iter : Expr}
/-! ### d.get(k), d.get(k, x), k in d -/
def fGet1 (fo fk : F) : F := fun env st => (fo env st).bind fun p => (dctAt p.1 p.2).bind fun _ => (fk env p.2).bind fun q => (asKey q.1).bind fun k => (dctAt p.1 q.2).map fun kvs => ((valD kvs k).getD .non, q.2)
theorem de_get1 {o e : Expr} {fo fk : F} {apos cpos : Pos} {k : Nat} (g : GX X k) (ho : DE X o fo) (he : DE X e fk) (m : M1 X o "get" apos e cpos) : DE X (.Call (.Attribute o "get" apos) [e] [] cpos) (fGet1 fo fk) :=
  weakE (pe_dget1 (hu_of g.room) ho he m) fun σ H Q hh => by
  obtain ⟨r, env, st, d, st', he, hs, hf, q⟩ := hh
  obtain ⟨⟨x, s1⟩, h1, hf1⟩ := Option.bind_eq_some_iff.mp hf
  obtain ⟨ks, h2, hf2⟩ := Option.bind_eq_some_iff.mp hf1
  obtain ⟨⟨y, s2⟩, h3, hf3⟩ := Option.bind_eq_some_iff.mp hf2
  obtain ⟨kk, h4, hf4⟩ := Option.bind_eq_some_iff.mp hf3
  obtain ⟨kvs, h5, hf5⟩ := Option.map_eq_some_iff.mp hf4
  cases hf5
  refine ⟨r, env, st, x, s1, he, hs, h1, fun u r1 H1 e1 q1 p1 => ?_⟩
  obtain ⟨a, xs, rfl, rd, l⟩ := dctRd p1 q1 h2
  refine ⟨a, rfl, .inl ⟨xs, rd⟩, r1, env, s1, y, _, he.ext e1, q1, h3, fun v r2 H2 e2 q2 p2 => ?_⟩
  obtain ⟨a', ys, ea, rd2, l2⟩ := dctRd (p1.ext e2) q2 h5
  cases ea
  have ev := asKey_rep p2 h4
  subst ev
  refine ⟨_, dget_rd rd2, ?_⟩
  rcases l2.opt (k := kk) with ⟨n1, n2⟩ | ⟨d, v, n1, n2, rv⟩
  · rw [n2]
    rw [n1] at q
    exact q .non r2 H2 (e1.trans e2) q2 .non
  · rw [n2]
    rw [n1] at q
    exact q v r2 H2 (e1.trans e2) q2 rv
def fInD (neg : Bool) (fk fo : F) : F := fun env st => (fk env st).bind fun q => (asKey q.1).bind fun k => (fo env q.2).bind fun p => (dctAt p.1 p.2).map fun kvs => (.bl (if neg = true then !(valD kvs k).isSome else (valD kvs k).isSome), p.2)
theorem inD_reads {neg : Bool} {fk fo : F} {R : VK → Option V → Hp → Prop} (hR : ∀ Q o H, Q (.bl (if neg = true then !o.isSome else o.isSome)) H → R Q o H) (σ : L2.St) (H : Hp) (Q : VK) (h : tD K (fInD neg fk fo) σ H Q) :
    tD K fk σ H fun y H1 => tD K fo σ H1 fun x H2 => ∃ a o, x = .ref a ∧ DGet H2 a y o ∧ R Q o H2 := by
  obtain ⟨r, env, st, d, st', he, hs, hf, q⟩ := h
  obtain ⟨⟨y, s1⟩, h1, hf1⟩ := Option.bind_eq_some_iff.mp hf
  obtain ⟨kk, h4, hf4⟩ := Option.bind_eq_some_iff.mp hf1
  obtain ⟨⟨x, s2⟩, h3, hf3⟩ := Option.bind_eq_some_iff.mp hf4
  obtain ⟨kvs, h5, hf5⟩ := Option.map_eq_some_iff.mp hf3
  cases hf5
  refine two he hs h1 h3 fun u v r' H' e1 q1 pu pv => ?_
  obtain ⟨a, xs, rfl, rd, l⟩ := dctRd pv q1 h5
  have ev := asKey_rep pu h4
  subst ev
  refine ⟨a, _, rfl, dget_rd rd, hR _ _ _ ?_⟩
  have same : (valV xs kk).isSome = (valD kvs kk).isSome := by
    rcases l.opt (k := kk) with ⟨n1, n2⟩ | ⟨d, v, n1, n2, rv⟩
    · rw [n1, n2]; rfl
    · rw [n1, n2]; rfl
  rw [same]
  exact q _ r' H' e1 q1 (.bl _)
theorem dt_notinD {a b : Expr} {fa fb : F} {pos : Pos} {k : Nat} (g : GX X k) (ha : DE X a fa) (hb : DE X b fb) (hm : behindInMarks .NotIn b = false := by with_unfolding_all rfl) : DT X (.Compare a [.NotIn] [b] pos) (fTest (fInD true fa fb)) :=
  weakT (pt_cmp (pc_dnotin (hu_of g.room) ha hb) hm) fun σ H Q h => inD_reads (fun Q o H h => h) σ H (fun x H1 => ∃ c, x = .bl c ∧ Q c H1) (testReads σ H Q h)
/-! ### {} into the store -/
def fNewD : F := fun _ st => some (.ref st.length, st ++ [.dct []])
theorem de_newD {pos : Pos} : DE X (.Dict [] [] pos) fNewD := weakE pe_dnewK fun σ H Q hh => by
  obtain ⟨r, env, st, d, st', he, hs, hf, q⟩ := hh
  cases hf
  intro p hp
  obtain ⟨e0, hd0⟩ := hideNew (o := .dK []) hs hp
  have ee : ObR X.K ((r.hide p).add p) (upd (upd H p (.dK [])) p (.dK [])) p (.dct []) := ⟨hd0.av, [], upd_same, .nil⟩
  obtain ⟨w1, w2, w3⟩ := hd0.add (o := .dK []) (ob := .dct []) e0 hs hp ee
  have key := q (.ref p) _ _ w1 w2 (w3 _ rfl)
  rw [upd_upd] at key
  exact key
/-! ### d.pop(k, x) -/
def fPop2 (fo fk fx : F) : F := fun env st => (fo env st).bind fun p => (dctAt p.1 p.2).bind fun _ => (fk env p.2).bind fun q => (asKey q.1).bind fun k => (fx env q.2).bind fun w => match p.1 with
  | .ref n => (match w.2[n]? with
    | some (.dct kvs) => (match valD kvs k with | some d => some (d, w.2.set n (.dct (dropD kvs k))) | none => some (w.1, w.2))
    | _ => none)
  | _ => none
theorem de_pop2 {o e f : Expr} {fo fk fx : F} {apos cpos : Pos} (ho : DE X o fo) (he : DE X e fk) (hx : DE X f fx) (m : M2 X o "pop" apos e f cpos) : DE X (.Call (.Attribute o "pop" apos) [e, f] [] cpos) (fPop2 fo fk fx) :=
  weakE (pe_dpop2 ho he hx m) fun σ H Q hh => by
  obtain ⟨r, env, st, d, st', he, hs, hf, q⟩ := hh
  obtain ⟨⟨x, s1⟩, h1, hf1⟩ := Option.bind_eq_some_iff.mp hf
  obtain ⟨ks, h2, hf2⟩ := Option.bind_eq_some_iff.mp hf1
  obtain ⟨⟨y, s2⟩, h3, hf3⟩ := Option.bind_eq_some_iff.mp hf2
  obtain ⟨kk, h4, hf4⟩ := Option.bind_eq_some_iff.mp hf3
  obtain ⟨⟨z, s3⟩, h6, hf6⟩ := Option.bind_eq_some_iff.mp hf4
  cases x with
  | ref n =>
    have hf7 : (match s3[n]? with | some (.dct kvs) => (match valD kvs kk with | some d => some (d, s3.set n (.dct (dropD kvs kk))) | none => some (z, s3)) | _ => none) = some (d, st') := hf6
    split at hf7
    · rename_i kvs hst
      refine ⟨r, env, st, _, s1, he, hs, h1, fun u r1 H1 e1 q1 p1 => ?_⟩
      obtain ⟨a, xs, rfl, rd, l⟩ := dctRd p1 q1 h2
      refine ⟨a, rfl, .inl ⟨xs, rd⟩, r1, env, s1, y, s2, he.ext e1, q1, h3, fun v r2 H2 e2 q2 p2 => ⟨r2, env, s2, z, s3, (he.ext e1).ext e2, q2, h6, fun w r3 H3 e3 q3 p3 => ?_⟩⟩
      obtain ⟨a', ea, ha⟩ := ((p1.ext e2).ext e3).refI
      cases ea
      obtain ⟨av, ys, hx, l2⟩ := q3.ob _ a _ ha hst
      have ev := asKey_rep p2 h4
      subst ev
      refine ⟨ys, kk, hx, rfl, fun v hv => ?_, fun hv => ?_⟩
      · rcases l2.opt (k := kk) with ⟨n1, n2⟩ | ⟨d', v', n1, n2, rv⟩
        · rw [n2] at hv; cases hv
        · rw [n2] at hv
          cases hv
          rw [n1] at hf7
          cases hf7
          have ee : Ex r3 H3 r3 (upd H3 a (.dK (dropK ys kk))) := ⟨⟨[], by simp⟩, fun b o w m => by rw [upd_ne (fun y => m (by rw [y]; exact av))]; exact w, fun b w m => absurd w m⟩
          obtain ⟨w1, w2⟩ := q3.set (o := .dK (dropK ys kk)) (ob := .dct (dropD kvs kk)) ha av ⟨av, _, upd_same, (l2.drop).ex ee⟩ (fun _ _ z => by rw [hx] at z; cases z)
          exact q v r3 _ (((e1.trans e2).trans e3).trans w1) w2 (rv.ext w1)
      · rcases l2.opt (k := kk) with ⟨n1, n2⟩ | ⟨d', v', n1, n2, rv⟩
        · rw [n1] at hf7
          cases hf7
          exact q w r3 H3 ((e1.trans e2).trans e3) q3 p3
        · rw [n2] at hv; cases hv
    · cases hf7
  | _ => cases hf6
/-! ### a dict of the store becomes a value, for good -/
theorem frz_sim {r : Rf} {H : Hp} {st : Store} (s : Sim K r H st) {n : Nat} {a : Addr} {xs : List (Key × V)} {kvs : List (Key × D)} (o : Obj) (ha : r.adr[n]? = some a) (hx : H a = some (.dK xs)) (l : RepK K r H xs kvs) (av : r.av a) :
    Ext r H (r.drop a) (upd H a (.frz o (.dK xs))) ∧ Sim K (r.drop a) (upd H a (.frz o (.dK xs))) (st.set n .dead) ∧ Rep K (r.drop a) (upd H a (.frz o (.dK xs))) (.ref a) (.dct kvs) := by
  have hm := List.mem_of_getElem? ha
  have nlk : ∀ q, r.lk q → q ≠ a := fun q z y => by
    obtain ⟨o, u, h⟩ := s.lkd q z
    rw [y, hx] at h
    cases h
  have e : Ext r H (r.drop a) (upd H a (.frz o (.dK xs))) := ⟨⟨⟨[], by simp [Rf.drop]⟩, fun b u h n => by rw [upd_ne (fun y => n (by rw [y]; exact av))]; exact h, fun b h n => absurd h.1 n⟩, fun b v n => ⟨by rw [upd_ne (fun y => n (by rw [y]; exact hm))], ⟨v, fun y => n (by rw [y]; exact hm)⟩, n⟩, fun _ => Iff.rfl, fun b z => by rw [upd_ne (nlk b z)]⟩
  refine ⟨e, ⟨by rw [List.length_set]; exact s.len, s.nd, fun m b x h1 h2 => ?_, fun b v => ?_, fun b v => ?_, fun b v => by rw [upd_ne (nlk b v)]; exact s.lkd b v⟩, .dct upd_same (fun z => z.2 rfl) (l.ext e)⟩
  · by_cases z : n = m
    · subst z
      by_cases hl : n < st.length
      · rw [List.getElem?_set_self hl] at h2
        cases h2
        trivial
      · rw [List.getElem?_eq_none (by rw [List.length_set]; omega)] at h2
        cases h2
    · rw [List.getElem?_set_ne z] at h2
      have nb : b ≠ a := fun y => z (by
        subst y
        obtain ⟨l1, e1⟩ := List.getElem?_eq_some_iff.mp ha
        obtain ⟨l2, e2⟩ := List.getElem?_eq_some_iff.mp h1
        exact (List.getElem_inj s.nd).mp (e1.trans e2.symm))
      exact (s.ob m b x h1 h2).ex e.toEx fun v => ⟨by rw [upd_ne nb], v, nb⟩
  · by_cases z : b = a
    · exact ⟨_, by rw [z]; exact upd_same⟩
    · rw [upd_ne z]; exact s.there b v.1
  · by_cases z : b = a
    · exact ⟨_, by rw [z]; exact upd_same⟩
    · rw [upd_ne z]; exact s.old b v
def fFrz (f : F) : F := fun env st => (f env st).bind fun p => match p.1 with
  | .ref n => (match p.2[n]? with | some (.dct kvs) => some (.dct kvs, p.2.set n .dead) | _ => none)
  | _ => none
theorem de_frz {e : Expr} {f : F} (h : DE X e f) : DE X e (fFrz f) := weakE (pe_frz h) fun σ H Q hh => by
  obtain ⟨r, env, st, d, st', he, hs, hf, q⟩ := hh
  obtain ⟨⟨x, s1⟩, h1, h2⟩ := Option.bind_eq_some_iff.mp hf
  cases x with
  | ref n =>
    have h2' : (match s1[n]? with | some (.dct kvs) => some (D.dct kvs, s1.set n .dead) | _ => none) = some (d, st') := h2
    split at h2'
    · rename_i kvs hst
      cases h2'
      refine ⟨r, env, st, _, s1, he, hs, h1, fun v r1 H1 e1 q1 p1 => ?_⟩
      obtain ⟨a, rfl, ha⟩ := p1.refI
      obtain ⟨av, xs, hx, l⟩ := q1.ob _ a _ ha hst
      refine ⟨a, _, rfl, hx, trivial, fun o => ?_⟩
      obtain ⟨w1, w2, w3⟩ := frz_sim q1 o ha hx l av
      exact q _ _ _ (e1.trans w1) w2 w3
    · cases h2'
  | _ => cases h2
/-- the dict in slot i, ahead of a statement -/
theorem ps_frz {s : Stmt} {t : TS} (h : PS X s t) : PS X s (fun D σ H => ∃ d u, H d = some u ∧ Mut (some u) ∧ ∀ o, t D σ (upd H d (.frz o u))) := by
  refine ⟨fun pins s σ H D I hw => ?_⟩
  obtain ⟨d, u, hd, mu, q⟩ := hw
  obtain ⟨od, I2⟩ := I.lock hd mu
  exact h.run pins s σ _ D I2 (q od)
def sFrzV (i : Nat) : FS := fun env st => match env[i]? with
  | some (some (.ref n)) => (match st[n]? with | some (.dct kvs) => some (.nx, env.set i (some (.dct kvs)), st.set n .dead) | _ => none)
  | _ => none
theorem ds_frzV (i : Nat) {s : Stmt} {g : FS} (h : DS X W s g) : DS X W s (sSeq (sFrzV i) g) := weakS (ps_frz h) fun D' σ H hh => by
  obtain ⟨r, env, st, o, env', st', he, hs, hf, q⟩ := hh
  obtain ⟨⟨o1, e1, s1⟩, h1, h2⟩ := Option.bind_eq_some_iff.mp hf
  unfold sFrzV at h1
  split at h1
  · rename_i n hn
    split at h1
    · rename_i kvs hst
      cases h1
      obtain ⟨v, hv, rv⟩ := he.at_ i _ hn
      obtain ⟨a, rfl, ha⟩ := rv.refI
      obtain ⟨av, xs, hx, l⟩ := hs.ob _ a _ ha hst
      refine ⟨a, _, hx, trivial, fun ob => ?_⟩
      obtain ⟨w1, w2, w3⟩ := frz_sim hs ob ha hx l av
      have he2 := (he.ext w1).set w3 i
      have es : σ.set i (some (V.ref a)) = σ := by
        refine List.ext_getElem? fun j => ?_
        by_cases z : i = j
        · subst z
          rw [List.getElem?_set_self (List.getElem?_eq_some_iff.mp hv).1, hv]
        · rw [List.getElem?_set_ne z]
      rw [es] at he2
      exact ⟨_, _, _, o, env', st', he2, w2, h2, q.ext w1⟩
    · cases h1
  · cases h1
/-! ### for k in d, for k, v in d.items(), d a value -/
end
end DL
/-! t[::-1], xs[::-1]. -/
namespace DL
open PySem PySem.Spec PyProof.Rows L2 HT
section
variable {X : Cx}
theorem RepL.reverse {r : Rf} {H : Hp} {K : PySem.W.Frag} : ∀ {vs : List V} {ds : List D}, RepL K r H vs ds → RepL K r H vs.reverse ds.reverse
  | _, _, .nil => .nil
  | _, _, .cons a b => by rw [List.reverse_cons, List.reverse_cons]; exact (RepL.reverse b).append (.cons a .nil)
/-- xs[::-1] of a list by value or of the store: a new list by value -/
def lstAt : D → Store → Option (List D) := fun d st => match d with
  | .lst ds => some ds
  | .scr ns => some (ns.map D.int)
  | .ref n => (match st[n]? with | some (.lst ds) => some ds | _ => none)
  | _ => none
theorem lstRd {r : Rf} {H : Hp} {v : V} {d : D} {st : Store} {ds : List D} {K : PySem.W.Frag} (h : Rep K r H v d) (si : Sim K r H st) (e : lstAt d st = some ds) : ∃ a xs, v = .ref a ∧ SqL K H a xs ∧ RepL K r H xs ds := by
  unfold lstAt at e
  split at e
  · cases e
    exact h.sqLv
  · cases e
    obtain ⟨a, rfl, h2⟩ := h.scrL
    exact ⟨a, _, rfl, h2, .ofInts _⟩
  · rename_i n
    split at e
    · rename_i es hst
      cases e
      obtain ⟨a, rfl, ha⟩ := h.refI
      obtain ⟨av, xs, hx, l⟩ := si.ob _ a _ ha hst
      exact ⟨a, xs, rfl, .of hx, l⟩
    · cases e
  · cases e
def fRevL (f : F) : F := fun env st => (f env st).bind fun p => (lstAt p.1 p.2).map fun ds => (.lst ds.reverse, p.2)
theorem de_revL {e : Expr} {f : F} {k : Nat} {p1 p2 p3 pos : Pos} (he : DE X e f) : DE X (.Subscript e (.Slice none none (some (.UnaryOp .USub (.Constant (.int 1) k p1) p2)) p3) pos) (fRevL f) := weakE (pe_revL he) fun σ H Q hh => by
  obtain ⟨r, env, st, d, st', he, hs, hf, q⟩ := hh
  obtain ⟨⟨x, s1⟩, h1, h2⟩ := Option.bind_eq_some_iff.mp hf
  obtain ⟨ds, h3, h4⟩ := Option.map_eq_some_iff.mp h2
  cases h4
  refine ⟨r, env, st, _, _, he, hs, h1, fun v r1 H1 e1 q1 p1 => ?_⟩
  obtain ⟨a, xs, rfl, sq, l⟩ := lstRd p1 q1 h3
  exact ⟨a, xs, rfl, sq, fun p hp => q _ r1 _ (e1.trans (q1.ext (same_alloc hp))) (q1.same (same_alloc hp)) (fresh_lst q1 hp l.reverse)⟩
end
end DL
/-! o.m(), len(o) by an own __len__. -/
namespace DL
open PySem PySem.Spec PyProof.Rows L2 TL
end DL
/-! sorted(d.items()), d's keys ints. -/
namespace DL
open PySem PySem.Spec PyProof.Rows L2 Srt SrtO L2.DX
/-! the order -/
/-! tuples (int, thing), by the int -/
section
variable {prog : Program} {w : World} {A : Around} {E : Value → Shared → Prop} {s : Shared}
def IsIt (h : Heap) (v : Value) (x : Int) (z : Value) : Prop := ∃ a o t n, v = .ref a ∧ h.get? a = some o ∧ o.cls = .type "tuple" ∧ o.data = .seq #[.int x t, z] n
theorem IsIt.keeps {h h' : Heap} {v z : Value} {x : Int} (p : IsIt h v x z) (k : ∀ b o, h.get? b = some o → o.cls = .type "tuple" → h'.get? b = some o) : IsIt h' v x z := by
  obtain ⟨a, o, t, n, e, ho, hc, hd⟩ := p
  exact ⟨a, o, t, n, e, k _ _ ho hc, hc, hd⟩
end
end DL
/-! Dicts and lists of the store: copies, keys, sorted, clear, insert. -/
namespace DL
open PySem PySem.Spec PyProof.Rows L2 L2.DX
variable {K : PySem.W.Frag}
section
variable {X : Cx} {W : WXd}
/-! ### dict(d) -/
/-! ### list(d): the keys -/
/-! ### sorted(d), the keys ints -/
def intKs : List (Key × D) → Option (List Int)
  | [] => some []
  | (.inl i, _) :: l => (intKs l).map (i :: ·)
  | _ :: _ => none
theorem intKs_keys : ∀ {kvs : List (Key × D)} {ks : List Int}, intKs kvs = some ks → kvs.map (·.1) = ks.map Sum.inl
  | [], _, h => by cases h; rfl
  | (.inl i, _) :: l, _, h => by
    obtain ⟨ks, h1, h2⟩ := Option.map_eq_some_iff.mp (show (intKs l).map (i :: ·) = _ from h)
    subst h2
    rw [List.map_cons, List.map_cons, intKs_keys h1]
  | (.inr x, _) :: l, _, h => by cases h
def sortedKs (kvs : List (Key × D)) : Option (List Int) := (intKs kvs).bind fun ks => if ks.length < 64 ∧ ks.Nodup then some (srt ks) else none
theorem sorted_srt {ys ks : List Int} (p : ys.Perm ks) (s : ys.Pairwise (· ≤ ·)) (n : ks.Nodup) : ys = srt ks := by
  have ny : ys.Nodup := p.symm.nodup n
  refine pw_eq ((s.and ny).imp fun h => by omega) (srt_pw ks) fun j => by rw [srt_mem]; exact p.mem_iff
def fSortKs (fo : F) : F := fun env st => (fo env st).bind fun p => (dctAt p.1 p.2).bind fun kvs => (sortedKs kvs).map fun ks => (.lst (ks.map .int), p.2)
theorem sortedKs_some {kvs : List (Key × D)} {zs : List Int} (h : sortedKs kvs = some zs) : ∃ ks, kvs.map (·.1) = ks.map Sum.inl ∧ ks.length < 64 ∧ ks.Nodup ∧ zs = srt ks := by
  obtain ⟨ks, h1, h2⟩ := Option.bind_eq_some_iff.mp h
  by_cases c : ks.length < 64 ∧ ks.Nodup
  · rw [if_pos c] at h2
    cases h2
    exact ⟨ks, intKs_keys h1, c.1, c.2, rfl⟩
  · rw [if_neg c] at h2
    cases h2
theorem de_sortKs {e : Expr} {fo : F} {p pos : Pos} {k : Nat} (g : GX X k) (ho : DE X e fo) (hg : Gl X "sorted") (hm : X.mg "sorted" = none) (hs : starEach [e] X.env = (false, eval e X.env) :: starEach [] X.env := by rfl) (hpl : (backTo pos (starEach [] X.env)).any (·.1) = false := by rfl) :
    DE X (.Call (.Name "sorted" p) [e] [] pos) (fSortKs fo) := weakE (pe_callB (p := p) (pos := pos) (call_sortedDI g.calm) hg hm (by decide +kernel) (pa_cons ho pa_nil hs) (he := hs) (hpl := hpl)) fun σ H Q hh => by
  obtain ⟨r, env, st, d, st', he, hs, hf, q⟩ := hh
  obtain ⟨⟨x, s1⟩, h1, h2⟩ := Option.bind_eq_some_iff.mp hf
  obtain ⟨kvs, h3, h4⟩ := Option.bind_eq_some_iff.mp h2
  obtain ⟨zs, h5, h6⟩ := Option.map_eq_some_iff.mp h4
  cases h6
  obtain ⟨ks, k1, k2, k3, rfl⟩ := sortedKs_some h5
  refine ⟨r, env, st, _, _, he, hs, h1, fun v r1 H1 e1 q1 p1 => ?_⟩
  obtain ⟨a, xs, rfl, rd, l⟩ := dctRd p1 q1 h3
  refine ⟨a, xs, ks, rfl, rd, by rw [l.keys]; exact k1, k2, fun ys p pm pw hp => ?_⟩
  rw [sorted_srt pm pw k3]
  exact q _ r1 _ (e1.trans (q1.ext (same_alloc hp))) (q1.same (same_alloc hp)) (fresh_lst q1 hp (RepL.ofInts _))
/-! ### sorted(d.items()) -/
/-! ### d.clear() -/
/-! ### xs.insert(i, x) -/
def insAtL (xs : List D) (i : Int) (d : D) : List D := xs.take i.toNat ++ [d] ++ xs.drop i.toNat
def fIns (fo fi fe : F) : F := fun env st => (fo env st).bind fun p => match p.1 with
  | .ref n => if isLs p.2[n]? = true then (fi env p.2).bind fun q => (fe env q.2).bind fun w => match q.1, w.2[n]? with
    | .int i, some (.lst xs) => if xs.length < sizeLine ∧ 0 ≤ i ∧ i < 2 ^ 62 then some (.non, w.2.set n (.lst (insAtL xs i w.1))) else none
    | _, _ => none else none
  | _ => none
theorem RepL.insAt {r : Rf} {H : Hp} {vs : List V} {ds : List D} {v : V} {d : D} (l : RepL K r H vs ds) (q : Rep K r H v d) (i : Nat) : RepL K r H (vs.take i ++ [v] ++ vs.drop i) (ds.take i ++ [d] ++ ds.drop i) := ((l.take i).append (.cons q .nil)).append (l.drop i)
theorem de_insert {o i e : Expr} {fo fi fe : F} {apos cpos : Pos} (ho : DE X o fo) (hi : DE X i fi) (hv : DE X e fe) (hbase : attributeBase o "insert" X.env (eval o X.env) = eval o X.env := by rfl)
    (hfew : ((backTo cpos (starEach [i, e] X.env)).all (fun x => !x.1) && (backToKw cpos (keywordEach [] X.env)).all (fun x => x.1.isSome)
      && decide (([i, e] : List Expr).length + ([] : List Keyword).length + (if ([] : List Keyword).isEmpty then 0 else 1) < 30)) = true := by rfl)
    (hline : (apos.endLine == cpos.line) = true := by rfl) (hs : starEach [i, e] X.env = (false, eval i X.env) :: starEach [e] X.env := by rfl) (hs2 : starEach [e] X.env = (false, eval e X.env) :: starEach [] X.env := by rfl) (hpl : (backTo cpos (starEach [e] X.env)).any (·.1) = false := by rfl) :
    DE X (.Call (.Attribute o "insert" apos) [i, e] [] cpos) (fIns fo fi fe) :=
  weakE (pe_bm PySem.F.plainAttrs_list PySem.F.slot_list_insert PySem.F.type_list_insert mt_insert ho (pa_cons hi (pa_cons hv pa_nil hs2) hs) hbase hfew hline hs hpl) fun σ H Q hh => by
  obtain ⟨r, env, st, d, st', he, hs, hf, q⟩ := hh
  obtain ⟨⟨x, s1⟩, h1, hf1⟩ := Option.bind_eq_some_iff.mp hf
  cases x with
  | ref n =>
    have hf1' : (if isLs s1[n]? = true then (fi env s1).bind fun q => (fe env q.2).bind fun w => match q.1, w.2[n]? with
      | .int i, some (.lst xs) => if xs.length < sizeLine ∧ 0 ≤ i ∧ i < 2 ^ 62 then some (D.non, w.2.set n (.lst (insAtL xs i w.1))) else none
      | _, _ => none else none) = some (d, st') := hf1
    by_cases hl1 : isLs s1[n]? = true
    case neg => rw [if_neg hl1] at hf1'; cases hf1'
    rw [if_pos hl1] at hf1'
    obtain ⟨⟨y, s2⟩, h2, hf2⟩ := Option.bind_eq_some_iff.mp hf1'
    obtain ⟨⟨z, s3⟩, h3, hf3⟩ := Option.bind_eq_some_iff.mp hf2
    dsimp only at hf3
    split at hf3
    · rename_i iv xs hst
      by_cases hc : xs.length < sizeLine ∧ 0 ≤ iv ∧ iv < 2 ^ 62
      case neg => rw [if_neg hc] at hf3; cases hf3
      rw [if_pos hc] at hf3
      cases hf3
      refine ⟨r, env, st, _, s1, he, hs, h1, fun v r1 H1 e1 q1 p1 => ?_⟩
      obtain ⟨a, rfl, ha⟩ := p1.refI
      refine ⟨?_, r1, env, s1, _, s2, he.ext e1, q1, h2, fun v2 r2 H2 e2 q2 p2 => ⟨r2, env, s2, z, s3, (he.ext e1).ext e2, q2, h3, fun v3 r3 H3 e3 q3 p3 => ?_⟩⟩
      · cases hq : s1[n]? with
        | none => rw [hq] at hl1; cases hl1
        | some ob =>
          rw [hq] at hl1
          cases ob with
          | lst us =>
            obtain ⟨av, ys, hx, l⟩ := q1.ob _ a _ ha hq
            exact .inl ⟨rfl, ys, .of hx⟩
          | _ => cases hl1
      · cases p2
        have ha3 := (e2.toEx.trans e3.toEx).get ha
        obtain ⟨av, ys, hx, l⟩ := q3.ob _ a _ ha3 hst
        refine ⟨a, ys, iv, v3, rfl, rfl, hx, by rw [l.len]; exact hc.1, hc.2.1, Int.lt_trans hc.2.2 (by decide), ?_⟩
        have ee : Ex r3 H3 r3 (upd H3 a (.lst (ys.take iv.toNat ++ [v3] ++ ys.drop iv.toNat))) := ⟨⟨[], by simp⟩, fun b o w m => by rw [upd_ne (fun y => m (by rw [y]; exact av))]; exact w, fun b w m => absurd w m⟩
        obtain ⟨w1, w2⟩ := q3.set (o := .lst (ys.take iv.toNat ++ [v3] ++ ys.drop iv.toNat)) (ob := .lst (insAtL xs iv z)) ha3 av ⟨av, _, upd_same, (l.insAt p3 _).ex ee⟩ (fun _ _ z => by rw [hx] at z; cases z)
        exact q _ r3 _ (((e1.trans e2).trans e3).trans w1) w2 .non
    · cases hf3
  | _ => cases hf1
end
end DL
/-! A dict of the store is locked while a statement or an expression runs. -/
namespace DL
open PySem PySem.Spec PyProof.Rows L2
variable {K : PySem.W.Frag}
def Rf.lock (r : Rf) (a : Addr) : Rf := ⟨r.adr, r.av, fun p => r.lk p ∨ p = a⟩
theorem lock_ex {r : Rf} {H : Hp} {a : Addr} {o : HO} (av : r.av a) : Ex r H (r.lock a) (upd H a o) := ⟨⟨[], by simp [Rf.lock]⟩, fun b u h n => by rw [upd_ne (fun y => n (by rw [y]; exact av))]; exact h, fun b h n => absurd h n⟩
theorem lock_sim {r : Rf} {H : Hp} {st : Store} (s : Sim K r H st) {n : Nat} {a : Addr} {xs : List (Key × V)} {kvs : List (Key × D)} (o : Obj) (ha : r.adr[n]? = some a) (hx : H a = some (.dK xs)) (l : RepK K r H xs kvs) (av : r.av a) :
    Sim K (r.lock a) (upd H a (.frz o (.dK xs))) (st.set n (.ldc kvs)) := by
  have e := lock_ex (H := H) (o := .frz o (.dK xs)) av
  have nlk : ∀ q, r.lk q → q ≠ a := fun q z y => by
    obtain ⟨o, u, h⟩ := s.lkd q z
    rw [y, hx] at h
    cases h
  refine ⟨by rw [List.length_set]; exact s.len, s.nd, fun m b x h1 h2 => ?_, fun b v => ?_, fun b v => ?_, fun b v => ?_⟩
  · by_cases z : n = m
    · subst z
      have h1' : r.adr[n]? = some b := h1
      rw [ha] at h1'
      cases h1'
      by_cases hl : n < st.length
      · rw [List.getElem?_set_self hl] at h2
        cases h2
        exact ⟨av, .inr rfl, o, xs, upd_same, l.ex e⟩
      · rw [List.getElem?_eq_none (by rw [List.length_set]; omega)] at h2
        cases h2
    · rw [List.getElem?_set_ne z] at h2
      have nb : b ≠ a := fun y => z (by
        subst y
        obtain ⟨l1, e1⟩ := List.getElem?_eq_some_iff.mp ha
        obtain ⟨l2, e2⟩ := List.getElem?_eq_some_iff.mp h1
        exact (List.getElem_inj s.nd).mp (e1.trans e2.symm))
      exact (s.ob m b x h1 h2).ex e (fun v => ⟨by rw [upd_ne nb], v⟩) (fun v => .inl v)
  · by_cases z : b = a
    · exact ⟨_, by rw [z]; exact upd_same⟩
    · rw [upd_ne z]; exact s.there b v
  · by_cases z : b = a
    · exact ⟨_, by rw [z]; exact upd_same⟩
    · rw [upd_ne z]; exact s.old b v
  · by_cases z : b = a
    · exact ⟨_, _, by rw [z]; exact upd_same⟩
    · rw [upd_ne z]
      rcases v with v | v
      · exact s.lkd b v
      · exact absurd v z
/-- .. and opened again -/
theorem unlock_sim {r r2 : Rf} {H H2 : Hp} {st st2 : Store} (s : Sim K r H st) {n : Nat} {a : Addr} {xs : List (Key × V)} {k2 : List (Key × D)} {o : Obj} (ha : r.adr[n]? = some a) (hx : H a = some (.dK xs)) (av : r.av a)
    (e : Ext (r.lock a) (upd H a (.frz o (.dK xs))) r2 H2) (s2 : Sim K r2 H2 st2) (h2 : st2[n]? = some (.ldc k2)) :
    H2 a = some (.frz o (.dK xs)) ∧ Ext r H ⟨r2.adr, r2.av, r.lk⟩ (upd H2 a (.dK xs)) ∧ Sim K ⟨r2.adr, r2.av, r.lk⟩ (upd H2 a (.dK xs)) (st2.set n (.dct k2)) ∧ Ex r2 H2 ⟨r2.adr, r2.av, r.lk⟩ (upd H2 a (.dK xs)) := by
  have hm := List.mem_of_getElem? ha
  have ha2 : r2.adr[n]? = some a := e.toEx.get ha
  have h2a : H2 a = some (.frz o (.dK xs)) := by rw [e.hd.lks a (.inr rfl)]; exact upd_same
  have nla : ¬ r.lk a := fun z => by
    obtain ⟨o, u, h⟩ := s.lkd a z
    rw [hx] at h
    cases h
  obtain ⟨av2, lk2, o2, xs2, hx2, l2⟩ := s2.ob n a _ ha2 h2
  rw [h2a] at hx2
  cases hx2
  have ex : Ex r2 H2 ⟨r2.adr, r2.av, r.lk⟩ (upd H2 a (.dK xs)) := ⟨⟨[], by simp⟩, fun b u h n => by rw [upd_ne (fun y => n (by rw [y]; exact av2))]; exact h, fun b h n => absurd h n⟩
  have lke : ∀ p, r2.lk p ↔ r.lk p ∨ p = a := fun p => e.hd.lke p
  refine ⟨h2a, ⟨⟨e.toEx.pre, fun b u h nn => ?_, fun b h nn => ?_⟩, fun b v nn => ?_, fun _ => Iff.rfl, fun b v => ?_⟩, ⟨by rw [List.length_set]; exact s2.len, s2.nd, fun m b x h1 h3 => ?_, fun b v => ?_, fun b v => ?_, fun b v => ?_⟩, ex⟩
  · have ne : b ≠ a := fun y => nn (by rw [y]; exact av)
    rw [upd_ne ne]
    exact e.toEx.keep b u (by rw [upd_ne ne]; exact h) nn
  · have := e.toEx.new b h nn
    have ne : b ≠ a := fun y => nn (by rw [y]; exact av)
    rwa [upd_ne ne] at this
  · have ne : b ≠ a := fun y => nn (by rw [y]; exact hm)
    obtain ⟨z1, z2, z3⟩ := e.hd.hid b v nn
    rw [upd_ne ne] at z1
    exact ⟨by rw [upd_ne ne]; exact z1, z2, z3⟩
  · have ne : b ≠ a := fun y => nla (by rw [← y]; exact v)
    have := e.hd.lks b (.inl v)
    rw [upd_ne ne] at this
    rw [upd_ne ne]
    exact this
  · by_cases z : n = m
    · subst z
      have h1' : r2.adr[n]? = some b := h1
      rw [ha2] at h1'
      cases h1'
      have hl := (List.getElem?_eq_some_iff.mp h2).1
      rw [List.getElem?_set_self hl] at h3
      cases h3
      exact ⟨av2, xs, upd_same, l2.ex ex⟩
    · rw [List.getElem?_set_ne z] at h3
      have nb : b ≠ a := fun y => z (by
        subst y
        obtain ⟨l1, e1⟩ := List.getElem?_eq_some_iff.mp ha2
        obtain ⟨l2, e2⟩ := List.getElem?_eq_some_iff.mp h1
        exact (List.getElem_inj s2.nd).mp (e1.trans e2.symm))
      exact (s2.ob m b x h1 h3).ex ex (fun v => ⟨by rw [upd_ne nb], v⟩) (fun v => ((lke b).mp v).resolve_right nb)
  · by_cases z : b = a
    · exact ⟨_, by rw [z]; exact upd_same⟩
    · rw [upd_ne z]; exact s2.there b v
  · by_cases z : b = a
    · exact ⟨_, by rw [z]; exact upd_same⟩
    · rw [upd_ne z]; exact s2.old b v
  · have ne : b ≠ a := fun y => nla (by rw [← y]; exact v)
    rw [upd_ne ne]
    exact s2.lkd b ((lke b).mpr (.inl v))
section
variable {X : Cx} {W : WXd}
/-- which object is locked: what an expression says -/
def whichR (f : F) : Lo → Store → Option Nat := fun env st => match f env st with | some (.ref n, _) => some n | _ => none
def ldcAt (n : Nat) (st : Store) : Option (List (Key × D)) := match st[n]? with | some (.ldc k) => some k | _ => none
def dctIn (n : Nat) (st : Store) : Option (List (Key × D)) := match st[n]? with | some (.dct k) => some k | _ => none
theorem ldcAt_some {n : Nat} {st : Store} {k : List (Key × D)} (h : ldcAt n st = some k) : st[n]? = some (.ldc k) := by
  unfold ldcAt at h
  split at h
  · rename_i q; cases h; exact q
  · cases h
theorem dctIn_some {n : Nat} {st : Store} {k : List (Key × D)} (h : dctIn n st = some k) : st[n]? = some (.dct k) := by
  unfold dctIn at h
  split at h
  · rename_i q; cases h; exact q
  · cases h
def sLock (w : Lo → Store → Option Nat) (g : FS) : FS := fun env st => (w env st).bind fun n => (dctIn n st).bind fun kvs => (g env (st.set n (.ldc kvs))).bind fun p => match p.1 with
  | .er _ _ _ => none
  | o => (ldcAt n p.2.2).map fun k2 => (o, p.2.1, p.2.2.set n (.dct k2))
theorem ds_lock (w : Lo → Store → Option Nat) {s : Stmt} {g : FS} (h : DS X W s g) : DS X W s (sLock w g) := weakS (ps_lock h) fun D' σ H hh => by
  obtain ⟨r, env, st, o, env', st', he, hs, hf, q⟩ := hh
  obtain ⟨n, h1, hf1⟩ := Option.bind_eq_some_iff.mp hf
  obtain ⟨kvs, h2, hf2⟩ := Option.bind_eq_some_iff.mp hf1
  obtain ⟨⟨o1, e1, s1⟩, h3, hf3⟩ := Option.bind_eq_some_iff.mp hf2
  have hst := dctIn_some h2
  have hlt := (List.getElem?_eq_some_iff.mp hst).1
  obtain ⟨a, ha⟩ : ∃ a, r.adr[n]? = some a := ⟨r.adr[n]'(by rw [hs.len]; exact hlt), List.getElem?_eq_getElem (by rw [hs.len]; exact hlt)⟩
  obtain ⟨av, xs, hx, l⟩ := hs.ob n a _ ha hst
  refine ⟨a, _, hx, trivial, fun od => ?_⟩
  have ls := lock_sim hs od ha hx l av
  have lex := lock_ex (r := r) (H := H) (o := .frz od (.dK xs)) av
  -- what is left once it runs through
  have fin : (∃ k2, ldcAt n s1 = some k2 ∧ (∃ o2, o2 = o1 ∧ o = o2 ∧ env' = e1 ∧ st' = s1.set n (.dct k2))) → OutOk X.K W (r.lock a) (upd H a (.frz od (.dK xs))) ⟨fun σ' H' => H' a = some (.frz od (.dK xs)) ∧ D'.nx σ' (upd H' a (.dK xs)), fun v H' => H' a = some (.frz od (.dK xs)) ∧ D'.rt v (upd H' a (.dK xs)), fun σ' H' => H' a = some (.frz od (.dK xs)) ∧ D'.bk σ' (upd H' a (.dK xs)), fun σ' H' => H' a = some (.frz od (.dK xs)) ∧ D'.ct σ' (upd H' a (.dK xs))⟩ e1 s1 o1 ∨ ∃ c f d, o1 = .er c f d := by
    rintro ⟨k2, h4, o2, rfl, rfl, rfl, rfl⟩
    have h4' := ldcAt_some h4
    cases o with
    | nx =>
      exact .inl fun σ' r' H' ex he' hs' => by
        obtain ⟨u1, u2, u3, u4⟩ := unlock_sim hs ha hx av ex hs' h4'
        exact ⟨u1, q σ' _ _ u2 (he'.exx u4) u3⟩
    | bk =>
      exact .inl fun σ' r' H' ex he' hs' => by
        obtain ⟨u1, u2, u3, u4⟩ := unlock_sim hs ha hx av ex hs' h4'
        exact ⟨u1, q σ' _ _ u2 (he'.exx u4) u3⟩
    | ct =>
      exact .inl fun σ' r' H' ex he' hs' => by
        obtain ⟨u1, u2, u3, u4⟩ := unlock_sim hs ha hx av ex hs' h4'
        exact ⟨u1, q σ' _ _ u2 (he'.exx u4) u3⟩
    | rt d =>
      exact .inl fun v r' H' ex hs' rv => by
        obtain ⟨u1, u2, u3, u4⟩ := unlock_sim hs ha hx av ex hs' h4'
        exact ⟨u1, q v _ _ u2 u3 (rv.ex u4)⟩
    | er c f d => exact .inr ⟨c, f, d, rfl⟩
  have key : OutOk X.K W (r.lock a) (upd H a (.frz od (.dK xs))) ⟨fun σ' H' => H' a = some (.frz od (.dK xs)) ∧ D'.nx σ' (upd H' a (.dK xs)), fun v H' => H' a = some (.frz od (.dK xs)) ∧ D'.rt v (upd H' a (.dK xs)), fun σ' H' => H' a = some (.frz od (.dK xs)) ∧ D'.bk σ' (upd H' a (.dK xs)), fun σ' H' => H' a = some (.frz od (.dK xs)) ∧ D'.ct σ' (upd H' a (.dK xs))⟩ e1 s1 o1 := by
    cases o1 with
    | er c f d => cases hf3
    | nx =>
      obtain ⟨k2, h4, h5⟩ := Option.map_eq_some_iff.mp (show ((ldcAt n s1).map fun k2 => (Out.nx, e1, s1.set n (.dct k2))) = some (o, env', st') from hf3)
      cases h5
      exact (fin ⟨k2, h4, _, rfl, rfl, rfl, rfl⟩).resolve_right (fun ⟨c, f, d, z⟩ => by cases z)
    | bk =>
      obtain ⟨k2, h4, h5⟩ := Option.map_eq_some_iff.mp (show ((ldcAt n s1).map fun k2 => (Out.bk, e1, s1.set n (.dct k2))) = some (o, env', st') from hf3)
      cases h5
      exact (fin ⟨k2, h4, _, rfl, rfl, rfl, rfl⟩).resolve_right (fun ⟨c, f, d, z⟩ => by cases z)
    | ct =>
      obtain ⟨k2, h4, h5⟩ := Option.map_eq_some_iff.mp (show ((ldcAt n s1).map fun k2 => (Out.ct, e1, s1.set n (.dct k2))) = some (o, env', st') from hf3)
      cases h5
      exact (fin ⟨k2, h4, _, rfl, rfl, rfl, rfl⟩).resolve_right (fun ⟨c, f, d, z⟩ => by cases z)
    | rt v =>
      obtain ⟨k2, h4, h5⟩ := Option.map_eq_some_iff.mp (show ((ldcAt n s1).map fun k2 => (Out.rt v, e1, s1.set n (.dct k2))) = some (o, env', st') from hf3)
      cases h5
      exact (fin ⟨k2, h4, _, rfl, rfl, rfl, rfl⟩).resolve_right (fun ⟨c, f, d, z⟩ => by cases z)
  exact ⟨r.lock a, env, _, o1, e1, s1, he.exx lex, ls, h3, key⟩
/-! ### the walk of a dict that is a value or locked -/
def frzAt : D → Store → Option (List (Key × D)) := fun d st => match d with
  | .dct kvs => some kvs
  | .ref n => ldcAt n st
  | _ => none
def kKeys (kvs : List (Key × D)) : List D := kvs.map fun kv => keyD kv.1
def kItems (kvs : List (Key × D)) : List D := kvs.map fun kv => .tup [keyD kv.1, kv.2]
def iFrz (a : List (Key × D) → List D) (f : F) : FI := fun env st => (f env st).bind fun p => (frzAt p.1 p.2).map fun kvs => (a kvs, p.2)
/-- it stays -/
theorem frzRd {r : Rf} {H : Hp} {v : V} {d : D} {st : Store} {kvs : List (Key × D)} (h : Rep K r H v d) (si : Sim K r H st) (e : frzAt d st = some kvs) : ∃ a o xs, v = .ref a ∧ RepK K r H xs kvs ∧ H a = some (.frz o (.dK xs)) ∧ ∀ r' H', Ext r H r' H' → H' a = some (.frz o (.dK xs)) := by
  unfold frzAt at e
  split at e
  · cases e
    cases h with
    | dct a b c => exact ⟨_, _, _, rfl, c, a, fun r' H' x => x.keep _ _ a b⟩
  · rename_i n
    obtain ⟨a, rfl, ha⟩ := h.refI
    obtain ⟨av, lk, o, xs, hx, l⟩ := si.ob n a _ ha (ldcAt_some e)
    exact ⟨a, o, xs, rfl, l, hx, fun r' H' x => by rw [x.hd.lks a lk]; exact hx⟩
  · cases e
theorem di_keysF {tg iter : Expr} {f : F} (h : DE X iter f) : DI X tg iter (iFrz kKeys f) := weakI (pi_keys h) fun σ H R hh => by
  obtain ⟨r, env, st, ds, st', he, hs, hf, q⟩ := hh
  obtain ⟨⟨d, s1⟩, h1, h2⟩ := Option.bind_eq_some_iff.mp hf
  obtain ⟨kvs, h3, h4⟩ := Option.map_eq_some_iff.mp h2
  cases h4
  refine ⟨r, env, st, d, _, he, hs, h1, fun v r1 H1 e1 q1 p1 => ?_⟩
  obtain ⟨a, o, xs, rfl, c, hx, stay⟩ := frzRd p1 q1 h3
  refine ⟨a, o, rfl, .inl ⟨xs, hx, q _ r1 H1 e1 q1 fun r2 H2 st2 e2 s2 => ?_⟩⟩
  have a2 := stay r2 H2 e2
  refine ⟨fun i hi => ⟨a2, by rw [c.len]; simpa [kKeys] using hi⟩, fun i d hd => ?_⟩
  unfold kKeys at hd
  rw [List.getElem?_map] at hd
  obtain ⟨⟨k, e⟩, hk, rfl⟩ := Option.map_eq_some_iff.mp hd
  obtain ⟨v, hv, rv⟩ := c.get hk
  refine ⟨⟨a2, (List.getElem?_eq_some_iff.mp hv).1⟩, fun x H3 ⟨eH, k', v', hk', ex⟩ => ?_⟩
  subst eH
  rw [hv] at hk'
  cases hk'
  subst ex
  exact ⟨r2, .refl _ _, s2, keyD_rep k⟩
theorem di_itemsF {e : Expr} {f : F} {elts : List Expr} {kk : Nat} {tpos apos cpos : Pos} (h : DE X e f) (hbase : attributeBase e "items" X.env (eval e X.env) = eval e X.env := by rfl) (hline : (apos.endLine == cpos.line) = true := by rfl) :
    DIR X (RepI X.K) (.Tuple elts kk tpos) (.Call (.Attribute e "items" apos) [] [] cpos) (iFrz kItems f) := weakI (pi_items h hbase hline) fun σ H R hh => by
  obtain ⟨r, env, st, ds, st', he, hs, hf, q⟩ := hh
  obtain ⟨⟨d, s1⟩, h1, h2⟩ := Option.bind_eq_some_iff.mp hf
  obtain ⟨kvs, h3, h4⟩ := Option.map_eq_some_iff.mp h2
  cases h4
  refine ⟨r, env, st, d, _, he, hs, h1, fun v r1 H1 e1 q1 p1 => ?_⟩
  obtain ⟨a, o, xs, rfl, c, hx, stay⟩ := frzRd p1 q1 h3
  refine ⟨a, o, xs, rfl, hx, q _ r1 H1 e1 q1 fun r2 H2 st2 e2 s2 => ?_⟩
  have a2 := stay r2 H2 e2
  have c2 := c.ext e2
  refine ⟨fun i hi => ⟨a2, by rw [c.len]; simpa [kItems] using hi⟩, fun i d hd => ?_⟩
  unfold kItems at hd
  rw [List.getElem?_map] at hd
  obtain ⟨⟨k, e⟩, hk, rfl⟩ := Option.map_eq_some_iff.mp hd
  obtain ⟨v, hv, rv⟩ := c2.get hk
  refine ⟨⟨a2, (List.getElem?_eq_some_iff.mp hv).1⟩, fun x H3 ⟨T, k', v', hk', ex, hT, eH⟩ => ?_⟩
  subst eH
  rw [hv] at hk'
  cases hk'
  subst ex
  have sm : Same H2 (upd H2 T (.tup [kV k, v])) := same_alloc hT
  exact ⟨r2, s2.ext sm, s2.same sm, T, _, _, rfl, rfl, .inl (.inl upd_same), .cons (keyD_rep k) (.cons (rv.ext (s2.ext sm)) .nil)⟩
end
end DL
/-! {k: v for x in xs if ..}: a new dict of the store. -/
namespace DL
open PySem PySem.Spec PyProof.Rows L2
variable {K : PySem.W.Frag}
def loopD (is : List Nat) (bd : FB) (t : FT) (fk fv : F) : List D → List (Key × D) → Lo → Store → Option (List (Key × D) × Store)
  | [], acc, _, st => some (acc, st)
  | d :: ds, acc, env, st => (bd d).bind fun vs => (t (setL is vs env) st).bind fun p => if p.1 = true then (fk (setL is vs env) p.2).bind fun k => (asKey k.1).bind fun kk => (fv (setL is vs env) k.2).bind fun v =>
      if acc.length < sizeLine then loopD is bd t fk fv ds (putD acc kk v.1) env v.2 else none
    else loopD is bd t fk fv ds acc env p.2
def fDComp (fi : FI) (is : List Nat) (bd : FB) (t : FT) (fk fv : F) : F := fun env st => (fi env st).bind fun p => (loopD is bd t fk fv p.1 [] (wipeL env is) p.2).map fun q => (.ref q.2.length, q.2 ++ [.dct q.1])
theorem upd_self {H : Hp} {p : Addr} {o : HO} (h : H p = some o) : upd H p o = H := by
  funext b
  by_cases z : b = p
  · rw [z, upd_same, h]
  · rw [upd_ne z]
theorem dcompReads {RR : RD} {fi : FI} {is : List Nat} {bd : FB} {g : TG} {t : FT} {fk fv : F} (hg : TgOkR K RR g is bd) (σ : L2.St) (H : Hp) (Q : VK) (hh : tD K (fDComp fi is bd t fk fv) σ H Q) : tDc (tIR K RR fi) g (tT K t) (tD K fk) (tD K fv) is σ H Q := by
  obtain ⟨r, env, st, d, st', he, hs, hf, q⟩ := hh
  obtain ⟨⟨ds, s1⟩, h1, h2⟩ := Option.bind_eq_some_iff.mp hf
  obtain ⟨⟨zs, s2⟩, h3, h4⟩ := Option.map_eq_some_iff.mp h2
  cases h4
  refine ⟨r, env, st, ds, s1, he, hs, h1, fun J r1 H1 e1 q1 j1 Dl hD => ?_⟩
  have m0 := Mkg.start (o := .dK []) q1 hD
  refine ⟨fun k m H2 => m = ds.length - k ∧ k ≤ ds.length ∧ ∃ r2 st2 acc us, Mkg K r1 H1 Dl r2 H2 st2 ∧ EnvR K r2 H2 (DL.wipeL env is) (wipe σ is) ∧ H2 Dl = some (.dK us) ∧ RepK K r2 H2 us acc ∧
    loopD is bd t fk fv (ds.drop k) acc (DL.wipeL env is) st2 = some (zs, s2), ⟨_, rfl, Nat.zero_le _, r1.hide Dl, s1, [], [], m0, ((he.ext e1).ext m0.ex).wipeL is, upd_same, .nil, h3⟩, ?_⟩
  rintro k m H2 ⟨rfl, hk, r2, st2, acc, us, mk, wp, hus, racc, hl⟩
  obtain ⟨jst, jgo⟩ := j1 r2 H2 st2 mk.ex mk.sim
  by_cases hlt : k < ds.length
  case neg =>
    have e : k = ds.length := by omega
    subst e
    rw [List.drop_length] at hl
    cases hl
    have hid : Hid K r2 H2 s2 Dl := ⟨mk.av, mk.na, mk.nl, mk.sim⟩
    have us2 := upd_self hus
    have exa : Ex r2 H2 (r2.add Dl) (upd H2 Dl (.dK us)) := ⟨⟨[Dl], rfl⟩, fun q x z n => by rw [us2]; exact z, fun q z n => absurd z n⟩
    obtain ⟨w1, w2, w3⟩ := hid.add (o := .dK us) (ob := .dct zs) mk.ex q1 hD ⟨hid.av, us, upd_same, racc.ex exa⟩
    rw [us2] at w1 w2 w3
    exact .inl ⟨jst _ (Nat.le_refl _), q (.ref Dl) _ H2 (e1.trans w1) w2 (w3 _ rfl)⟩
  case pos =>
    have hd : ds[k]? = some ds[k] := List.getElem?_eq_getElem hlt
    rw [List.drop_eq_getElem_cons hlt] at hl
    obtain ⟨vals, hv, hl1⟩ := Option.bind_eq_some_iff.mp hl
    obtain ⟨⟨b, st3⟩, hb, hl2⟩ := Option.bind_eq_some_iff.mp hl1
    obtain ⟨j2, j3⟩ := jgo k _ hd
    refine .inr ⟨j2, fun H' => k + 1 ≤ ds.length ∧ ∃ r2 st2 acc us, Mkg K r1 H1 Dl r2 H' st2 ∧ EnvR K r2 H' (DL.wipeL env is) (wipe σ is) ∧ H' Dl = some (.dK us) ∧ RepK K r2 H' us acc ∧
      loopD is bd t fk fv (ds.drop (k + 1)) acc (DL.wipeL env is) st2 = some (zs, s2), fun H' ⟨hk', w⟩ => ⟨ds.length - (k + 1), by omega, rfl, hk', w⟩, fun x H3 y => ?_⟩
    obtain ⟨r3, e3, s3, rx⟩ := j3 x H3 y
    have wp3 := wp.ext e3
    refine hg r3 H3 x _ _ _ vals rx hv fun vs rvs => ⟨wipe_setL σ is vs, ?_⟩
    have he3 : EnvR K r3 H3 (DL.setL is vals (DL.wipeL env is)) (DL.setL is vs (wipe σ is)) := wp3.setL rvs
    refine ⟨r3, _, st2, b, st3, he3, s3, hb, fun r4 H4 e4 s4 => ?_⟩
    cases b with
    | false =>
      rw [if_neg Bool.false_ne_true] at hl2 ⊢
      obtain ⟨m4, k4⟩ := mk.step (e3.trans e4) s4
      exact ⟨hlt, r4, st3, acc, us, m4, wp3.ext e4, k4.trans hus, racc.ext (e3.trans e4), hl2⟩
    | true =>
      rw [if_pos rfl] at hl2 ⊢
      obtain ⟨⟨kd, st4⟩, hkd, hl3⟩ := Option.bind_eq_some_iff.mp hl2
      obtain ⟨kk, hkk, hl4⟩ := Option.bind_eq_some_iff.mp hl3
      obtain ⟨⟨vd, st5⟩, hvd, hl5⟩ := Option.bind_eq_some_iff.mp hl4
      by_cases hz : acc.length < sizeLine
      case neg => rw [if_neg hz] at hl5; cases hl5
      rw [if_pos hz] at hl5
      refine ⟨r4, _, st3, kd, st4, he3.ext e4, s4, hkd, fun kv r5 H5 e5 s5 rk => ⟨r5, _, st4, vd, st5, (he3.ext e4).ext e5, s5, hvd, fun vv r6 H6 e6 s6 rv => ?_⟩⟩
      have e26 : Ext r2 H2 r6 H6 := ((e3.trans e4).trans e5).trans e6
      obtain ⟨m6, k6⟩ := mk.step e26 s6
      obtain ⟨m7, g1⟩ := m6.put q1 hD (.dK (putK us kk vv))
      refine ⟨us, kk, asKey_rep rk hkk, k6.trans hus, by rw [racc.len]; exact hz, hlt, r6, st5, putD acc kk vd, putK us kk vv, m7, (((wp3.ext e4).ext e5).ext e6).exx g1, upd_same, ((racc.ext e26).ex g1).put (rv.ex g1), hl5⟩
section
variable {X : Cx} {W : WXd} {tg iter : Expr}
theorem de_dc {RR : RD} {kx vx : Expr} {ifs : List Expr} {scope : Scope} {own : List (Str × Nat)} {pos : Pos} {fi : FI} {bd : FB} {g : TG} {t : FT} {fk fv : F} (hc : X.calm = true) (hN : X.N.Nodup) (hi : DIR X RR tg iter fi) (ok : BlkOk X.N X.env.scope scope own)
    (tk : TgOkR X.K RR g (own.map (·.2)) bd)
    (hg : ∀ (s : Shared) (H : Hp) (C : Addr) (cl : List (Str × Addr)) (fp : List Addr), PG (X.blk s H scope (compEnvC scope cl C X.env) fp) tg g) (ht : ∀ (s : Shared) (H : Hp) (C : Addr) (cl : List (Str × Addr)) (fp : List Addr), DTs (X.blk s H scope (compEnvC scope cl C X.env) fp) ifs t)
    (hk : ∀ (s : Shared) (H : Hp) (C : Addr) (cl : List (Str × Addr)) (fp : List Addr), DE (X.blk s H scope (compEnvC scope cl C X.env) fp) kx fk)
    (he : ∀ (s : Shared) (H : Hp) (C : Addr) (cl : List (Str × Addr)) (fp : List Addr), DE (X.blk s H scope (compEnvC scope cl C X.env) fp) vx fv) (hs : ∀ x, foldedSetIterable iter X.env x = pure x := by intro _; rfl) :
    DE X (.DictComp kx vx [⟨tg, iter, ifs, 0⟩] scope pos) (fDComp fi (own.map (·.2)) bd t fk fv) := weakE (pe_dc hc hN hi ok hg ht hk he hs) fun σ H Q hh => dcompReads tk σ H Q hh
end
end DL
/-! len(set(t)) of a tuple of texts. -/
namespace DL
open PySem PySem.Spec PyProof.Rows L2
/-- how many different ones stand before place i -/
def cntS (xs : List Str) : Nat → Nat
  | 0 => 0
  | i + 1 => if xs.getD i Str.empty ∈ xs.take i then cntS xs i else cntS xs i + 1
theorem cntS_le (xs : List Str) : ∀ i, cntS xs i ≤ i
  | 0 => Nat.le_refl _
  | i + 1 => by
    have := cntS_le xs i
    unfold cntS
    split <;> omega
theorem cntS_all {xs : List Str} : ∀ {i : Nat}, i ≤ xs.length → (cntS xs i = i ↔ (xs.take i).Nodup)
  | 0, _ => by simp [cntS]
  | i + 1, h => by
    have hi : i < xs.length := h
    have ih := cntS_all (xs := xs) (i := i) (Nat.le_of_lt hi)
    have le := cntS_le xs i
    have e : xs.getD i Str.empty = xs[i] := by rw [List.getD_eq_getElem?_getD, List.getElem?_eq_getElem hi]; rfl
    rw [List.take_add_one, List.getElem?_eq_getElem hi]
    unfold cntS
    rw [e]
    by_cases m : xs[i] ∈ xs.take i
    · rw [if_pos m]
      refine ⟨fun h => by omega, fun h => ?_⟩
      exact absurd rfl ((List.nodup_append.mp h).2.2 _ m _ (by simp))
    · rw [if_neg m]
      refine ⟨fun h => ?_, fun h => ?_⟩
      · refine List.nodup_append.mpr ⟨ih.mp (by omega), by simp, fun a ha b hb => ?_⟩
        simp at hb
        subst hb
        exact fun e => m (e ▸ ha)
      · have := ih.mpr (List.nodup_append.mp h).1
        omega
theorem cntS_nodup (xs : List Str) : cntS xs xs.length = xs.length ↔ xs.Nodup := by
  have := cntS_all (xs := xs) (Nat.le_refl _)
  rwa [List.take_length] at this
section
variable {prog : Program} {w : World} {A : Around} {R : Result → Shared → Prop} {I : Addr} {fp wr : List Addr} {G : Array GenState → Array GenState → Prop} {n : Nat} {P : Nat → Value → Prop} {St : Nat → Shared → Prop}
theorem loopSt (W : WalksS prog w A.in1 I fp wr G n P St) (S : Addr) (hSf : S ∉ fp) (xs : List Str) (hsz : xs.length = n) (hb : xs.length + 1 < scanBound)
    (hval : ∀ i v, P i v → ∃ t, v = .str (xs.getD i Str.empty) t) :
    ∀ (k i : Nat) (s : Shared), n - i = k → i ≤ n → St i s →
      s.heap.SetOf (PySem.strKind prog w) S (fun j => decide (j ∈ xs.take i)) (cntS xs i) →
      (∀ s', Moved (S :: wr) G s s' → s'.heap.SetOf (PySem.strKind prog w) S (fun j => decide (j ∈ xs)) (cntS xs n) → R (.ok (.ret .none)) s') →
      codeAny (model prog w) A (.builtin "set.update.loop" ⟨[.ref S, .ref I], []⟩) R s := by
  have hSw : S ∉ wr := fun h => hSf (W.sub _ h)
  have hsub : ∀ b ∈ wr, b ∈ S :: wr := fun b hb => List.mem_cons_of_mem _ hb
  intro k
  induction k with
  | zero =>
    intro i s hk hi hst hS hR
    have hin : i = n := by omega
    subst hin
    refine codeAny_builtin PyProof.Rows.F.entry_set_update_loop ?_
    rw [Around.under_plainId PyProof.Rows.F.plain_set_update_loop _]
    show wpAny _ A.in1 (pyNext (.ref I) >>= _) _ _ s
    refine wpAny_bind (W.done s _ _ hst fun s' hm => ?_)
    show wpAny _ A.in1 (ret Value.none) _ _ s'
    have e : xs.take i = xs := List.take_of_length_le (by omega)
    rw [e] at hS
    exact wpAny_pure (hR s' (hm.mono hsub) (by
      obtain ⟨o, es, ep, t, ho, rest⟩ := hS
      exact ⟨o, es, ep, t, hm.heap S _ hSw ho, rest⟩))
  | succ k ih =>
    intro i s hk hi hst hS hR
    have hlt : i < n := by omega
    refine codeAny_builtin PyProof.Rows.F.entry_set_update_loop ?_
    rw [Around.under_plainId PyProof.Rows.F.plain_set_update_loop _]
    show wpAny _ A.in1 (pyNext (.ref I) >>= _) _ _ s
    refine wpAny_bind (W.item i s _ _ hlt hst fun v s' hP hst' hm => ?_)
    obtain ⟨t, rfl⟩ := hval i v hP
    have hS' : s'.heap.SetOf (PySem.strKind prog w) S (fun j => decide (j ∈ xs.take i)) (cntS xs i) := by
      obtain ⟨o, es, ep, tb, ho, rest⟩ := hS
      exact ⟨o, es, ep, tb, hm.heap S _ hSw ho, rest⟩
    show wpAny _ A.in1 (holding [Value.str (xs.getD i Str.empty) t] (setAdd S (.str (xs.getD i Str.empty) t)) >>= _) _ _ s'
    refine wpAny_bind (wpAny_holding ?_)
    unfold setAdd
    refine wpAny_holding ?_
    have hle := cntS_le xs i
    refine wpAny_bind ((PySem.strKind prog w).pyHash (k := xs.getD i Str.empty) (strKind_is _ _ _ _) ?_)
    refine wpAny_setAddHashed_of (knd := PySem.strKind prog w) (s := { s' with toks := s'.toks + 1 }) (strKind_is _ _ _ _) rfl hS' (by omega) fun h' hsb hS2 => ?_
    have hSi : h'.SetOf (PySem.strKind prog w) S (fun j => decide (j ∈ xs.take (i + 1))) (cntS xs (i + 1)) := by
      refine SetOf_congr hS2 (fun j => ?_) ?_
      · have hil : i < xs.length := by omega
        have e : xs.getD i Str.empty = xs[i] := by rw [List.getD_eq_getElem?_getD, List.getElem?_eq_getElem hil]; rfl
        have m : j ∈ xs.take (i + 1) ↔ (j ∈ xs.take i ∨ j = xs[i]) := by
          rw [List.take_add_one, List.getElem?_eq_getElem hil, List.mem_append]
          simp
        rw [e, decide_eq_decide.mpr m, Bool.decide_or]
      · show (if decide (xs.getD i Str.empty ∈ xs.take i) = true then cntS xs i else cntS xs i + 1) = cntS xs (i + 1)
        simp [cntS]
    refine wpAny_pure ⟨plainId_quiet PyProof.Rows.F.plain_set_update_loop _, ih (i + 1) _ (by omega) hlt (W.frame _ s' _ _ hst' (Nat.le_succ _) fun b hb o e => ?_) hSi fun s'' hm'' hS'' => ?_⟩
    · rw [hsb.2 b (fun h : b = S => hSf (by rw [← h]; exact hb))]; exact e
    · refine hR s'' (Moved.trans W.gtrans ((hm.mono hsub).then_heap (Nat.le_succ _) fun b o hb e => ?_) hm'') hS''
      rw [hsb.2 b (fun h : b = S => hb (by rw [h]; exact List.mem_cons_self))]; exact e
end
section
variable {prog : Program} {w : World} {A : Around} {E : Value → Shared → Prop} {s : Shared}
set_option maxHeartbeats 3200000 in
theorem call_set_tupSt {l : Addr} {items : Array Value} {xs : List Str} {Q : Value → Shared → Prop}
    (hh : A.handled = none) (hl : s.heap.IsTuple l items) (hi : PyProof.Rows.StrsAre items.toList xs) (hn1 : xs.length + 1 < scanBound)
    (h : ∀ (h' : Heap) (tk : Nat), h'.SetOf (PySem.strKind prog w) s.heap.objs.size (fun j => decide (j ∈ xs)) (cntS xs xs.length) →
      (∀ b o, b < s.heap.objs.size → s.heap.get? b = some o → h'.get? b = some o) → Q (.ref s.heap.objs.size) { s with heap := h', toks := tk }) :
    wpAny (model prog w) A (call (.type "set") [.ref l]) Q E s := by
  obtain ⟨c, tl, hmro⟩ := PySem.F.called_set.mro
  have hmade := PySem.F.called_set.made
  have hsub := PySem.F.called_set.sub
  refine wpAny_call (codeAny_of_tree ?_)
  show wpAny _ _ (callAny (.type "set") _) _ _ _
  refine wpAny_pure ⟨Code.quiet_builtin _ (by decide +kernel), codeAny_builtin PySem.F.entry_type_call ?_⟩
  rw [Around.under_plain (weight_type_call_type "set" [.ref l] []) rfl]
  have h1 := PySem.F.called_set.notType
  have h2 := PySem.F.called_set.canCreate
  have hct := PySem.F.typeCall_set_1 (.ref l)
  repeat (any_goals (first | assumption | wp_step))

  refine codeAny_mono (code_set_new_1 (.ref l) (E := E) (Q₁ := fun obj s₁ => ∃ led : Bool, obj = .ref s.heap.objs.size ∧ s₁ = { s with heap := s.heap.push { cls := .type "set", dict := none, data := .set #[] 0 (.fresh 0 0 led) } }) fun led => ⟨led, rfl, rfl⟩) fun r s₁ hr => ?_
  cases r with
  | error e => exact hr
  | ok fl =>
    cases fl with
    | ret obj =>
      obtain ⟨led, rfl, rfl⟩ := hr
      have hS : (s.heap.push { cls := .type "set", dict := none, data := .set #[] 0 (.fresh 0 0 led) }).get? s.heap.objs.size = some { cls := .type "set", dict := none, data := .set #[] 0 (.fresh 0 0 led) } := Heap.get?_push_size _ rfl
      have hT : Shared.TypeIs { s with heap := s.heap.push { cls := .type "set", dict := none, data := .set #[] 0 (.fresh 0 0 led) } } (.ref s.heap.objs.size) "set" := ⟨_, hS, rfl⟩
      have hli := PySem.F.called_set.init.lookup
      have hbi := PySem.F.called_set.init.bind (.ref s.heap.objs.size)
      repeat (any_goals (first | assumption | wp_step))

      refine codeAny_mono (codeAny_call_builtin (R := wants (fun r s₂ => r = .none ∧ ∃ h' tk, s₂ = { s with heap := h', toks := tk } ∧
          h'.SetOf (PySem.strKind prog w) s.heap.objs.size (fun j => decide (j ∈ xs)) (cntS xs xs.length) ∧
          (∀ b o, b < s.heap.objs.size → s.heap.get? b = some o → h'.get? b = some o)) E) PySem.F.called_set.init.plain PySem.F.entry_set_init (check_set_init_1 hT ?_)) fun r₂ s₂ hr₂ => ?_
      · obtain ⟨ol, hol, hcl, nl, hdl⟩ := hl
        obtain ⟨ocls, odict, odata, oslots⟩ := ol
        simp only at hcl hdl
        subst hcl; subst hdl
        have hol' : (s.heap.push { cls := .type "set", dict := none, data := .set #[] 0 (.fresh 0 0 led) }).get? l = some { cls := .type "tuple", dict := odict, data := .seq items nl, slots := oslots } := Heap.get?_push_of_some _ hol
        have hsls := PySem.F.sub_tuple_set
        have hslf := PySem.F.sub_tuple_frozenset
        have hne : (Value.type "tuple" == Value.type "dict") = false := by decide
        have hl1 : (s.heap.push { cls := .type "set", dict := none, data := .set #[] 0 (.fresh 0 0 led) }).IsTuple l items := ⟨_, hol', rfl, nl, rfl⟩
        unfold Builtin.«set.__init__» noKeywords Builtin.Frozenset.updateFrom
        generalize hPI : pyIter = PI
        wp_walk
        subst hPI

        refine wpAny_pyIter_tuple hl1 ?_
        refine wpAny_bind (wpAny_runValue ?_)
        have hlS : l < s.heap.objs.size := Heap.lt_size hol
        have hh3 : A.in1.in1.in1.handled = none := by simp [hh]
        have hneI : l ≠ (s.heap.push { cls := .type "set", dict := none, data := .set #[] 0 (.fresh 0 0 led) }).objs.size := by
          rw [Heap.size_push]; exact Nat.ne_of_lt (Nat.lt_succ_of_lt hlS)
        have hSf : s.heap.objs.size ∉ [(s.heap.push { cls := .type "set", dict := none, data := .set #[] 0 (.fresh 0 0 led) }).objs.size, l] := by
          rw [Heap.size_push]; simp only [List.mem_cons, List.mem_singleton, List.not_mem_nil, or_false, not_or]
          exact ⟨Nat.ne_of_lt (Nat.lt_succ_self _), Nat.ne_of_gt hlS⟩
        have hsz : xs.length = items.size := by rw [← StrsAre.len_eq hi, Array.length_toList]
        have hval : ∀ (i : Nat) (v : Value), items[i]? = some v → ∃ t, v = .str (xs.getD i Str.empty) t := fun i v hv => SS.strs_at hi i v (by rw [Array.getElem?_toList]; exact hv)
        refine loopSt ((Walks.tuple hh3 _ l hneI items).toS) s.heap.objs.size
          hSf xs hsz hn1 hval (items.size - 0) 0 _ (by omega) (Nat.zero_le _)
          ⟨⟨_, Heap.get?_push_size _ rfl, rfl, rfl⟩, (hl1.push _)⟩ ?hS0 ?hR
        case hS0 =>
          have hget : ((s.heap.push { cls := .type "set", dict := none, data := .set #[] 0 (.fresh 0 0 led) }).push { cls := .type "tuple_iterator", data := .fields #[.ref l, .int 0 0] }).get? s.heap.objs.size
              = some { cls := .type "set", dict := none, data := .set #[] 0 (.fresh 0 0 led) } := Heap.get?_push_of_some _ hS
          exact PyProof.Rows.SetOf_congr ((PyProof.Rows.setObjOf_fresh (knd := PySem.strKind prog w) led).setOf hget (by unfold scanBound; omega)) (fun _ => by simp) rfl
        case hR =>
          intro s' hm hS'
          rw [← hsz] at hS'
          obtain ⟨h', g', d', tk', os'⟩ := s'
          have eg : g' = s.gens := hm.gens
          have ed : d' = s.drawn := hm.drawn
          have eo : os' = s.os := hm.os
          subst eg; subst ed; subst eo
          show wpAny _ _ _ _ _ _
          refine wpAny_pure ?_
          show wpAny _ _ (ret Value.none) _ _ _
          refine wpAny_pure ⟨rfl, h', tk', rfl, hS', fun b o hb e => ?_⟩
          have hb1 : b ≠ s.heap.objs.size := Nat.ne_of_lt hb
          have hb2 : b ≠ (s.heap.push { cls := .type "set", dict := none, data := .set #[] 0 (.fresh 0 0 led) }).objs.size := by
            rw [Heap.size_push]; exact Nat.ne_of_lt (Nat.lt_succ_of_lt hb)
          exact hm.heap b o (by simp only [List.mem_cons, List.mem_singleton, List.not_mem_nil, or_false, not_or]; exact ⟨hb1, hb2⟩) (Heap.get?_push_of_some _ (Heap.get?_push_of_some _ e))

      · cases r₂ with
        | error e => exact hr₂
        | ok fl₂ =>
          cases fl₂ with
          | ret r =>
            obtain ⟨rfl, h', tk, rfl, hS', hk'⟩ := hr₂
            repeat (any_goals (first | assumption | wp_step))
            exact h _ _ hS' hk'
          | _ => exact hr₂.elim
    | _ => exact hr.elim
end
section
variable {X : Cx}
def tLenSt (K : PySem.W.Frag) (ta : TE) : TE := fun σ H Q => ta σ H fun x H1 => ∃ l, ∃ xs : List Str, x = .ref l ∧ SqT K H1 l (xs.map V.str) ∧ xs.length < 1000 ∧ Q (.int (cntS xs xs.length)) H1
theorem pe_lenSt {a : Expr} {ta : TE} {p p2 q pos : Pos} (hc : X.calm = true) (hg : Gl X "len") (hm : X.mg "len" = none) (hg2 : Gl X "set") (hm2 : X.mg "set" = none) (ha : PE X a ta)
    (na : starEach [a] X.env = (false, eval a X.env) :: starEach [] X.env := by rfl) : PE X (.Call (.Name "len" p) [.Call (.Name "set" p2) [a] [] q] [] pos) (tLenSt X.K ta) := by
  refine ⟨fun pins s σ H Q I h => ?_⟩
  refine Call_ (ld_blt I hg hm boot_len ?_)
  refine PyProof.Rows.callWith_builtin1 (PyProof.Rows.args_cons ?_ rfl) rfl rfl
  refine Call_ (ld_blt I hg2 hm2 boot_set ?_)
  refine PyProof.Rows.callWith_type1 (PyProof.Rows.args_cons (thn (ha.run pins s σ H _ I h) fun v s1 ⟨x, H1, I1, r1, q1⟩ => PyProof.Rows.args_nil ?_) na) na rfl
  obtain ⟨l, xs, rfl, hq, h1, q1⟩ := q1
  cases r1
  obtain ⟨its, r, pl, hz⟩ := I1.tuple hq
  have hl : its.toArray.size = xs.length := by rw [List.size_toArray, ← r.length, List.length_map]
  have hle := cntS_le xs xs.length
  refine call_set_tupSt (I1.ok.hd hc) pl (xs := xs) (by simpa using strsAre_of r) (by unfold scanBound; omega) fun h' tk hS hk => ?_
  refine PyProof.Rows.args_nil ?_
  obtain ⟨o, es, ep, t, ho, hex, hd, _, _, _, hf, hn⟩ := hS
  have I2 : Inv X pins σ H1 { s1 with heap := h', toks := tk } := I1.kept fun b o e => hk b o (Heap.lt_size e) e
  refine call_len_set ho hex hd hf (by rw [hn]; omega) ⟨.int (cntS xs xs.length), H1, I2.tok _, ⟨_, by rw [hn]⟩, q1⟩
theorem strsD_eq' : ∀ {ds : List D} {ks : List Str}, strsD ds = some ks → ds = ks.map D.str
  | [], _, h => by cases h; rfl
  | .str k :: ds, _, h => by
    obtain ⟨l, h1, h2⟩ := Option.map_eq_some_iff.mp h
    subst h2
    rw [List.map_cons, ← strsD_eq' h1]
  | .non :: _, _, h => by cases h
  | .bl _ :: _, _, h => by cases h
  | .int _ :: _, _, h => by cases h
  | .tup _ :: _, _, h => by cases h
  | .lst _ :: _, _, h => by cases h
  | .dct _ :: _, _, h => by cases h
  | .scr _ :: _, _, h => by cases h
  | .ref _ :: _, _, h => by cases h
theorem RepL.strsV {r : Rf} {H : Hp} : ∀ {vs : List V} {ks : List Str}, RepL X.K r H vs (ks.map D.str) → vs = ks.map V.str
  | _, [], h => by cases h; rfl
  | _, k :: ks, h => by
    cases h with
    | cons a b =>
      cases a
      rw [RepL.strsV b]; rfl
def fLenSt (f : F) : F := fun env st => (f env st).bind fun p => match p.1 with
  | .tup ds => (strsD ds).bind fun xs => if xs.length < 1000 then some (.int (cntS xs xs.length), p.2) else none
  | _ => none
theorem de_lenSt {e : Expr} {f : F} {p p2 q pos : Pos} (hc : X.calm = true) (h : DE X e f) (hg : Gl X "len") (hm : X.mg "len" = none) (hg2 : Gl X "set") (hm2 : X.mg "set" = none)
    (na : starEach [e] X.env = (false, eval e X.env) :: starEach [] X.env := by rfl) : DE X (.Call (.Name "len" p) [.Call (.Name "set" p2) [e] [] q] [] pos) (fLenSt f) :=
  weakE (pe_lenSt hc hg hm hg2 hm2 h na) fun σ H Q hh => by
    obtain ⟨r, env, st, d, st', he, hs, hf, q⟩ := hh
    obtain ⟨⟨x, s1⟩, e1, e2⟩ := Option.bind_eq_some_iff.mp hf
    cases x with
    | tup ds =>
      obtain ⟨ks, e3, e4⟩ := Option.bind_eq_some_iff.mp (show ((strsD ds).bind fun xs => if xs.length < 1000 then some (D.int (cntS xs xs.length), s1) else none) = some (d, st') from e2)
      by_cases hz : ks.length < 1000
      case neg => rw [if_neg hz] at e4; cases e4
      rw [if_pos hz] at e4
      cases e4
      have ed := strsD_eq' e3
      subst ed
      refine ⟨r, env, st, .tup (ks.map .str), st', he, hs, e1, fun v r1 H1 x1 q1 p1 => ?_⟩
      obtain ⟨a, xs, rfl, sq, rl⟩ := p1.sqT
      rw [RepL.strsV rl] at sq
      exact ⟨a, ks, rfl, sq, hz, q _ r1 _ x1 q1 (.int _)⟩
    | _ => cases e2
end
end DL
/-! == and != of dicts, list(range(n)), sorted(set(xs)) of a list of ints, d.update(e). -/
namespace DL
open PySem PySem.Spec PyProof.Rows L2 L2.DX
variable {K : PySem.W.Frag}
def shB (p : PyData) : Bool := p.canLay0 && decide (p.depth ≤ 60)
def eqFl (a b : D) : Option Bool := (toPy a).bind fun p => (toPy b).bind fun q => if shB p = true ∧ shB q = true then some (PyData.eqv p q) else none
end DL
/-! sorted(set(xs)) of a list of ints, list(range(n)). -/
namespace DL
open PySem PySem.Spec PyProof.Rows L2 L2.DX
end DL
/-! d.update(e). -/
namespace DL
open PySem PySem.Spec PyProof.Rows L2 L2.DX
end DL
/-! a, b = xs, xs a list by value. -/
namespace DL
open PySem PySem.Spec PyProof.Rows L2
end DL
/-! Sets of ints that are kept in the store: set(xs), k in s. -/
namespace DL
open PySem PySem.Spec PyProof.Rows L2
end DL
/-! xs.extend(e), min(d). -/
namespace DL
open PySem PySem.Spec PyProof.Rows L2
end DL
/-! Dicts with int keys as maps: lookups after writes, equal maps have equal items. -/
namespace DL
open PySem PySem.Spec PyProof.Rows L2
abbrev KL := List (Key × D)
def gt (l : KL) (i : Int) : Option D := valD l (.inl i)
theorem valD_nil (k : Key) : valD [] k = none := rfl
theorem valD_cons (k j : Key) (v : D) (l : KL) : valD ((k, v) :: l) j = if k = j then some v else valD l j := by
  unfold valD
  by_cases h : k = j <;> simp [List.find?_cons, h]
theorem valD_app (l m : KL) (j : Key) : valD (l ++ m) j = (valD l j).or (valD m j) := by
  induction l with
  | nil => simp [valD_nil]
  | cons p l ih =>
    obtain ⟨k, v⟩ := p
    rw [List.cons_append, valD_cons, valD_cons, ih]
    by_cases h : k = j <;> simp [h]
theorem valD_none {l : KL} {k : Key} : valD l k = none ↔ k ∉ l.map (·.1) := by
  induction l with
  | nil => simp [valD_nil]
  | cons p l ih =>
    obtain ⟨j, v⟩ := p
    rw [valD_cons]
    by_cases h : j = k
    · simp [h]
    · have h' : ¬ k = j := fun e => h e.symm
      simp only [h, if_false, ih, List.map_cons, List.mem_cons, h', false_or]
theorem valD_some {l : KL} {k : Key} {v : D} : (l.map (·.1)).Nodup → (valD l k = some v ↔ (k, v) ∈ l) := by
  induction l with
  | nil => simp [valD_nil]
  | cons p l ih =>
    obtain ⟨j, u⟩ := p
    intro nd
    have nd' := List.nodup_cons.mp (show (j :: l.map (·.1)).Nodup from nd)
    rw [valD_cons, List.mem_cons]
    by_cases h : j = k
    · subst h
      have : (j, v) ∉ l := fun m => nd'.1 (List.mem_map.mpr ⟨_, m, rfl⟩)
      simp [this, eq_comm]
    · have : (k, v) ≠ (j, u) := fun e => h (by injection e with a b; exact a.symm)
      simp [h, ih nd'.2, this]
theorem valD_map (k : Key) (v : D) (l : KL) (j : Key) : valD (l.map fun kv => if kv.1 = k then (kv.1, v) else kv) j = if k = j then (valD l j).map (fun _ => v) else valD l j := by
  induction l with
  | nil => simp [valD_nil]
  | cons p l ih =>
    obtain ⟨i, u⟩ := p
    rw [List.map_cons]
    by_cases h : i = k
    · subst h
      simp only [if_true, valD_cons, ih]
      by_cases h2 : i = j <;> simp [h2]
    · simp only [h, if_false, valD_cons, ih]
      by_cases h2 : i = j
      · subst h2
        have : ¬ k = i := fun e => h e.symm
        simp [this]
      · simp [h2]
theorem any_key {l : KL} {k : Key} : (l.any fun kv => decide (kv.1 = k)) = (valD l k).isSome := by
  induction l with
  | nil => rfl
  | cons p l ih =>
    obtain ⟨i, u⟩ := p
    rw [List.any_cons, ih, valD_cons]
    by_cases h : i = k <;> simp [h]
theorem valD_put (l : KL) (k j : Key) (v : D) : valD (putD l k v) j = if k = j then some v else valD l j := by
  unfold putD
  rw [any_key]
  cases hs : valD l k with
  | some u =>
    simp only [Option.isSome_some, if_true]
    rw [valD_map]
    by_cases h : k = j
    · subst h; simp [hs]
    · simp [h]
  | none =>
    simp only [Option.isSome_none, Bool.false_eq_true, if_false]
    rw [valD_app, valD_cons, valD_nil]
    by_cases h : k = j
    · subst h; simp [hs]
    · simp [h]
theorem valD_drop (l : KL) (k j : Key) : valD (dropD l k) j = if k = j then none else valD l j := by
  unfold dropD
  induction l with
  | nil => simp [valD_nil]
  | cons p l ih =>
    obtain ⟨i, u⟩ := p
    rw [List.filter_cons]
    by_cases h : i = k
    · subst h
      simp only [ne_eq, not_true_eq_false, decide_false, Bool.false_eq_true, if_false, ih, valD_cons]
      by_cases h2 : i = j <;> simp [h2]
    · simp only [ne_eq, h, not_false_eq_true, decide_true, if_true, valD_cons, ih]
      by_cases h2 : i = j
      · subst h2
        have : ¬ k = i := fun e => h e.symm
        simp [this]
      · simp [h2]
theorem keys_put (l : KL) (k : Key) (v : D) : (putD l k v).map (·.1) = if (valD l k).isSome = true then l.map (·.1) else l.map (·.1) ++ [k] := by
  unfold putD
  rw [any_key]
  cases valD l k with
  | some u =>
    simp only [Option.isSome_some, if_true, List.map_map]
    refine List.map_congr_left fun p _ => ?_
    by_cases h : p.1 = k <;> simp [h]
  | none => simp
/-- int keys of U, each once -/
structure okK (U : List Int) (l : KL) : Prop where
  mem : ∀ p ∈ l, ∃ i ∈ U, p.1 = .inl i
  nd : (l.map (·.1)).Nodup
theorem okK.nil {U : List Int} : okK U [] := ⟨fun _ h => (by cases h), .nil⟩
theorem okK.put {U : List Int} {l : KL} (h : okK U l) {i : Int} (hi : i ∈ U) (v : D) : okK U (putD l (.inl i) v) := by
  refine ⟨fun p hp => ?_, ?_⟩
  · have hm : p.1 ∈ (putD l (.inl i) v).map (·.1) := List.mem_map.mpr ⟨p, hp, rfl⟩
    rw [keys_put] at hm
    have key : p.1 ∈ l.map (·.1) → ∃ j ∈ U, p.1 = .inl j := fun m => by
      obtain ⟨q, hq, e⟩ := List.mem_map.mp m
      obtain ⟨j, hj, e2⟩ := h.mem q hq
      exact ⟨j, hj, e.symm.trans e2⟩
    split at hm
    · exact key hm
    · rcases List.mem_append.mp hm with m | m
      · exact key m
      · exact ⟨i, hi, List.mem_singleton.mp m⟩
  · rw [keys_put]
    split
    · exact h.nd
    · rename_i hs
      have : valD l (.inl i) = none := by
        cases q : valD l (.inl i) with
        | none => rfl
        | some _ => rw [q] at hs; exact absurd rfl hs
      exact List.nodup_append.mpr ⟨h.nd, by simp, fun a ha b hb e => by
        rw [List.mem_singleton.mp hb] at e
        exact valD_none.mp this (e ▸ ha)⟩
theorem okK.drop {U : List Int} {l : KL} (h : okK U l) (k : Key) : okK U (dropD l k) :=
  ⟨fun p hp => h.mem p (List.mem_filter.mp hp).1, List.Sublist.nodup (List.Sublist.map (fun p : Key × D => p.1) List.filter_sublist) h.nd⟩
theorem okK.cons {U : List Int} {l : KL} {p : Key × D} (h : okK U (p :: l)) : okK U l := ⟨fun q hq => h.mem q (List.mem_cons_of_mem _ hq), (List.nodup_cons.mp (show (p.1 :: l.map (·.1)).Nodup from h.nd)).2⟩
theorem nodup_sub {α : Type} [DecidableEq α] : ∀ {l u : List α}, l.Nodup → (∀ x ∈ l, x ∈ u) → l.length ≤ u.length
  | [], _, _, _ => Nat.zero_le _
  | a :: l, u, nd, h => by
    have nd' := List.nodup_cons.mp nd
    have ha := h a List.mem_cons_self
    have := nodup_sub (u := u.erase a) nd'.2 fun x hx => (List.mem_erase_of_ne (fun e : x = a => nd'.1 (by rw [← e]; exact hx))).mpr (h x (List.mem_cons_of_mem _ hx))
    rw [List.length_erase_of_mem ha] at this
    have hp : 0 < u.length := List.length_pos_of_mem ha
    rw [List.length_cons]
    omega
theorem okK.ints {U : List Int} : ∀ {l : KL}, okK U l → ∃ ks, intKs l = some ks ∧ l.map (·.1) = ks.map Sum.inl ∧ ks.Nodup ∧ (∀ i ∈ ks, i ∈ U) ∧ ks.length = l.length
  | [], _ => ⟨[], rfl, rfl, .nil, fun _ h => (by cases h), rfl⟩
  | (k, v) :: l, h => by
    obtain ⟨ks, h1, h2, h3, h4, h5⟩ := okK.ints h.cons
    obtain ⟨i, hi, e⟩ := h.mem _ List.mem_cons_self
    have e' : k = .inl i := e
    subst e'
    refine ⟨i :: ks, by show (intKs l).map (i :: ·) = _; rw [h1]; rfl, by rw [List.map_cons, List.map_cons, h2], List.nodup_cons.mpr ⟨fun m => ?_, h3⟩, fun j hj => ?_, by simp [h5]⟩
    · have nd := List.nodup_cons.mp (show (Sum.inl i :: l.map (·.1)).Nodup from h.nd)
      exact nd.1 (by rw [h2]; exact List.mem_map.mpr ⟨i, m, rfl⟩)
    · rcases List.mem_cons.mp hj with rfl | hj
      · exact hi
      · exact h4 j hj
theorem okK.len {U : List Int} {l : KL} (h : okK U l) : l.length ≤ U.length := by
  obtain ⟨ks, _, _, nd, m, e⟩ := h.ints
  rw [← e]
  exact nodup_sub nd m
/-- equal maps -/
theorem okK.perm {U : List Int} {l m : KL} (h : okK U l) (g : okK U m) (e : ∀ i, gt l i = gt m i) : l.Perm m := by
  have nd : ∀ {z : KL}, okK U z → z.Nodup := fun {z} o => List.Pairwise.imp (fun {a b} (h : a.1 ≠ b.1) e => h (by rw [e])) (List.pairwise_map.mp o.nd)
  refine (List.perm_ext_iff_of_nodup (nd h) (nd g)).mpr fun p => ?_
  have key : ∀ {a b : KL}, okK U a → okK U b → (∀ i, gt a i = gt b i) → p ∈ a → p ∈ b := fun {a b} oa ob e hp => by
    obtain ⟨i, _, ei⟩ := oa.mem p hp
    obtain ⟨k, v⟩ := p
    have ek : k = .inl i := ei
    subst ek
    have := (valD_some oa.nd).mpr hp
    exact (valD_some ob.nd).mp ((e i).symm.trans this)
  exact ⟨key h g e, key g h fun i => (e i).symm⟩
theorem okK.sortedKs {U : List Int} {l : KL} (h : okK U l) (hu : U.length < 64) : ∃ ks, sortedKs l = some (srt ks) ∧ l.map (·.1) = ks.map Sum.inl ∧ ks.Nodup ∧ (∀ i, i ∈ srt ks ↔ (gt l i).isSome = true) ∧ (∀ i ∈ ks, i ∈ U) ∧ ks.length = l.length := by
  obtain ⟨ks, h1, h2, h3, h4, h5⟩ := h.ints
  have hl := nodup_sub h3 h4
  refine ⟨ks, by simp [DL.sortedKs, h1, h3, show ks.length < 64 by omega], h2, h3, fun i => ?_, h4, h5⟩
  rw [srt_mem]
  unfold gt
  cases q : valD l (.inl i) with
  | none =>
    have := valD_none.mp q
    rw [h2] at this
    simp only [Option.isSome_none, Bool.false_eq_true, iff_false]
    exact fun m => this (List.mem_map.mpr ⟨i, m, rfl⟩)
  | some v =>
    simp only [Option.isSome_some, iff_true]
    have m : (Sum.inl i : Key) ∈ l.map (·.1) := List.mem_map.mpr ⟨_, (valD_some h.nd).mp q, rfl⟩
    rw [h2] at m
    obtain ⟨j, hj, e⟩ := List.mem_map.mp m
    injection e with e
    exact e ▸ hj
end DL
namespace DL
open PySem PySem.Spec PyProof.Rows L2
/-- what the store begins with stays there -/
def FXat (X st : Store) : Prop := ∀ (m : Nat) (o : Ob), X[m]? = some o → st[m]? = some o
theorem FXat.len {X st : Store} (h : FXat X st) {m : Nat} (hm : m < X.length) : m < st.length := by
  have := h m _ (List.getElem?_eq_getElem hm)
  exact (List.getElem?_eq_some_iff.mp this).1
theorem FXat.of {X a b : Store} (h : FXat X a) (g : ∀ m, m < X.length → m < a.length → b[m]? = a[m]?) : FXat X b := fun m o e => by
  have hm := (List.getElem?_eq_some_iff.mp e).1
  rw [g m hm (h.len hm)]
  exact h m o e
theorem FXat.le {X st : Store} (h : FXat X st) : X.length ≤ st.length := by
  rcases Nat.eq_zero_or_pos X.length with z | z
  · omega
  · have := h.len (m := X.length - 1) (by omega)
    omega
theorem FXat.refl (X : Store) : FXat X X := fun _ _ e => e
theorem FXat.app {X a : Store} (h : FXat X a) (l : Store) : FXat X (a ++ l) := h.of fun m _ hl => List.getElem?_append_left hl
end DL
namespace DL
open PySem PySem.Spec PyProof.Rows L2
/-- objects that are to stay as they are -/
abbrev KX := Nat → Option Ob
def KXat (X : KX) (st : Store) : Prop := ∀ (m : Nat) (o : Ob), X m = some o → st[m]? = some o
theorem KXat.lt {X : KX} {st : Store} (h : KXat X st) {m : Nat} {o : Ob} (e : X m = some o) : m < st.length := (List.getElem?_eq_some_iff.mp (h m o e)).1
theorem KXat.of {X : KX} {a b : Store} (h : KXat X a) (g : ∀ m o, X m = some o → m < a.length → b[m]? = a[m]?) : KXat X b := fun m o e => by
  rw [g m o e (h.lt e)]
  exact h m o e
theorem KXat.app {X : KX} {a : Store} (h : KXat X a) (l : Store) : KXat X (a ++ l) := h.of fun m _ _ hl => List.getElem?_append_left hl
theorem KXat.new {X : KX} {st : Store} (h : KXat X st) {m : Nat} (hm : st.length ≤ m) : X m = none := by
  cases e : X m with
  | none => rfl
  | some o => have := h.lt e; omega
theorem KXat.ne {X : KX} {m n : Nat} {o : Ob} (e : X m = some o) (z : X n = none) : m ≠ n := fun y => by rw [y, z] at e; cases e
theorem KXat.set {X : KX} {a : Store} (h : KXat X a) {m : Nat} (hm : X m = none) (o : Ob) : KXat X (a.set m o) := h.of fun k o e _ => List.getElem?_set_ne (Ne.symm (KXat.ne e hm))
end DL
/-! Own errors with one field: made, raised. -/
namespace DL
open PySem PySem.W PySem.Calls PyProof.Rows PySem.HandSPX
end DL
/-! raise C(e); methods that may raise; for in such defs; try .. except C as n. -/
namespace DL
open PySem PySem.Spec PyProof.Rows L2 TL
end DL
/-! try: .. except C as n: .. -/
namespace DL
open PySem PySem.Spec PyProof.Rows L2 TL
end DL
/-! Arguments by name. -/
namespace DL
open PySem PySem.Spec PyProof.Rows L2 TL
variable {K : PySem.W.Frag}
def pickL {α : Type} (is : List Nat) (xs : List α) : List α := is.filterMap fun i => xs[i]?
theorem vals_pick {vs : List V} {us : List PySem.Value} (h : Vals vs us) : ∀ is : List Nat, Vals (pickL is vs) (pickL is us)
  | [] => .nil
  | i :: is => by
    have ih := vals_pick h is
    unfold pickL at ih ⊢
    rw [List.filterMap_cons, List.filterMap_cons]
    have key : ∀ {vs : List V} {us : List PySem.Value}, Vals vs us → ∀ i : Nat, (vs[i]? = none ∧ us[i]? = none) ∨ ∃ v u, vs[i]? = some v ∧ us[i]? = some u ∧ RelV v u := by
      intro vs us h
      induction h with
      | nil => intro i; exact .inl ⟨rfl, rfl⟩
      | cons a b ih =>
        intro i
        cases i with
        | zero => exact .inr ⟨_, _, rfl, rfl, a⟩
        | succ i => simpa using ih i
    rcases key h i with ⟨e1, e2⟩ | ⟨v, u, e1, e2, r⟩
    · rw [e1, e2]; exact ih
    · rw [e1, e2]; exact .cons r ih
theorem repL_pick {r : Rf} {H : Hp} {vs : List V} {ds : List D} (h : RepL K r H vs ds) : ∀ is : List Nat, RepL K r H (pickL is vs) (pickL is ds)
  | [] => .nil
  | i :: is => by
    have ih := repL_pick h is
    unfold pickL at ih ⊢
    rw [List.filterMap_cons, List.filterMap_cons]
    cases e : ds[i]? with
    | none =>
      have : vs[i]? = none := by
        rw [List.getElem?_eq_none_iff] at e ⊢
        rw [h.len]; exact e
      rw [this]; exact ih
    | some d =>
      obtain ⟨v, hv, rv⟩ := h.get e
      rw [hv]; exact .cons rv ih
/-- how a call with n values by place and the names ks binds -/
structure KB (K : PySem.W.Frag) (fd : FuncData) (ps ks : List Str) (n : Nat) (is : List Nat) : Prop where
  to : ∀ (s : Shared) (us ws : List PySem.Value), K.In s.heap → us.length = n → ws.length = ks.length → BindsTo s fd ⟨us, ks.zip ws⟩ (ps.zip (pickL is (us ++ ws)))
  len : ∀ xs : List D, xs.length = n + ks.length → (pickL is xs).length = ps.length
theorem kb_of {x qual : Str} {st : Stmt} {f : Addr} {fd : FuncData} {ps ks : List Str} {n : Nat} {is : List Nat} (F : Fun K x qual st f fd) (h2 : is.all (fun i => decide (i < n + ks.length)) = true) (h3 : is.length = ps.length)
    (h : ∀ (kV doc pm : PySem.Value) (an : Option Addr) (cdv ct : PySem.Value) (us ws : List PySem.Value), us.length = n → ws.length = ks.length → bindArgs (PySem.W.fnOf x qual (defArgs st) (defBody st) (defScope st) .none kV doc pm an cdv ct) ⟨us, ks.zip ws⟩ = pure (ps.zip (pickL is (us ++ ws)))) : KB K fd ps ks n is := by
  obtain ⟨oc, od, kV, doc, pm, an, cdv, ct, osl, rfl, lk, hcd⟩ := F.ex
  refine ⟨fun s us ws _ l1 l2 => BindsTo.of_eq (h kV doc pm an cdv ct us ws l1 l2), fun xs hx => ?_⟩
  rw [← hx] at h2
  rw [← h3]
  clear h h3
  induction is with
  | nil => rfl
  | cons i is ih =>
    rw [List.all_cons, Bool.and_eq_true, decide_eq_true_eq] at h2
    unfold pickL at ih ⊢
    rw [List.filterMap_cons, List.getElem?_eq_getElem h2.1]
    simp only [List.length_cons]
    rw [ih h2.2]
section
variable {X : Cx} {W : WXd} {k n : Nat} {f C : Addr} {fd : FuncData} {ps ks : List Str} {is : List Nat} {m : FM} {x : Str} {p pos apos : Pos} {o e : Expr} {es : List Expr} {kws : List Keyword}
abbrev DK (X : Cx) (kws : List Keyword) (f : FA) : Prop := PK X kws (tA X.K f)
theorem dk_nil : DK X [] aNil := by
  refine ⟨fun pos pins s σ H Q I h => (pk_nil (X := X)).run pos pins s σ H Q I ?_⟩
  obtain ⟨r, env, st, ds, st', he, hs, hf, q⟩ := h
  cases hf
  exact q [] r H (.refl r H) hs .nil
theorem dk_cons {nm : Option Str} {kpos : Pos} {f : F} {g : FA} (h : DE X e f) (t : DK X kws g) : DK X (⟨nm, e, kpos⟩ :: kws) (aCons f g) := by
  refine ⟨fun pos pins s σ H Q I hh => (pk_cons h t).run pos pins s σ H Q I ?_⟩
  obtain ⟨r, env, st, ds, st', he, hs, hf, q⟩ := hh
  obtain ⟨x, s1, ys, s2, h1, h2, e⟩ := aCons_some hf
  cases e
  exact ⟨r, env, st, x, s1, he, hs, h1, fun u r1 H1 e1 q1 p1 => ⟨r1, env, s1, ys, _, he.ext e1, q1, h2, fun us r2 H2 e2 q2 p2 => q (u :: us) r2 H2 (e1.trans e2) q2 (.cons (p1.ext e2) p2)⟩⟩
theorem runK {pins : List (Addr × Obj)} {σ : L2.St} {H : Hp} {s : Shared} {Q : VK} {us ws : List PySem.Value} {vs zs : List V} {rho : Rf} {ds es : List D} {st st' : Store} {d : D} (Fd : FnD X.prog X.w X.K X.mg X.base k f fd ps m) (gx : GX X k) (hb : KB X.K fd ps ks n is)
    (I : Inv X pins σ H s) (r : Vals vs us) (rz : Vals zs ws) (l1 : ds.length = n) (l2 : es.length = ks.length) (rd : RepL X.K rho H vs ds) (re : RepL X.K rho H zs es) (hs : Sim X.K rho H st) (hm : m (pickL is (ds ++ es)) st = some (d, st')) (hq : ∀ v rho' H', Ext rho H rho' H' → Sim X.K rho' H' st' → Rep X.K rho' H' v d → Q v H') :
    wpAny (model X.prog X.w) X.A (call (.ref f) us (ks.zip ws)) (EP X pins σ Q) X.xe s := by
  have u1 : us.length = n := by rw [← r.length, rd.len, l1]
  have u2 : ws.length = ks.length := by rw [← rz.length, re.len, l2]
  have hv : Vals (vs ++ zs) (us ++ ws) := by
    clear hm hq rd re u1 u2 l1 l2
    induction r with
    | nil => exact rz
    | cons a b ih => exact .cons a ih
  have rp := repL_pick (rd.append re) is
  refine wpAny_call (codeAny_mono (Fd.run X.A X.stack s H ⟨us, ks.zip ws⟩ (pickL is (us ++ ws)) (pickL is (vs ++ zs)) Q rho (pickL is (ds ++ es)) st st' d gx.gd gx.room I.env0 (hb.to s us ws I.kIn u1 u2) (vals_pick hv is) (by rw [rp.len]; exact hb.len _ (by rw [List.length_append, l1, l2])) rp hs hm hq) fun z s' hz => ?_)
  cases z with
  | error e => exact False.elim hz
  | ok fl =>
    cases fl with
    | ret u => exact I.after hz
    | next => exact False.elim hz
    | brk => exact False.elim hz
    | cont => exact False.elim hz
/-- f(e, .., k = v, ..) -/
def fCallK (m : FM) (is : List Nat) (fa fk : FA) : F := fun env st => (fa env st).bind fun p => (fk env p.2).bind fun q => m (pickL is (p.1 ++ q.1)) q.2
/-- f(k = v, ..) -/
theorem de_callK0 (Fd : FnD X.prog X.w X.K X.mg X.base k f fd ps m) (gx : GX X k) (hg : Gl X x) (hm : X.mg x = some (.ref f)) (hk : PySem.W.keepIn X.K (.ref f) = true) (hb : KB X.K fd ps ks 0 is) {fk : FA}
    (hkw : DK X kws fk) (hks : (backToKw pos (keywordEach kws X.env)).filterMap (·.1) = ks := by rfl) (hall : (backToKw pos (keywordEach kws X.env)).all (·.1.isSome) = true := by rfl) (hdb : (x == ("__debug__" : Str)) = false := by decide)
    (hpl : ((backTo pos (starEach [] X.env)).any (·.1) || (backToKw pos (keywordEach kws X.env)).any (·.1.isNone)) = false := by rfl) (hn2 : ∀ env st ds st', fk env st = some (ds, st') → ds.length = ks.length) :
    DE X (.Call (.Name x p) [] kws pos) (fCallK m is aNil fk) := by
  refine ⟨fun pins s σ H Q I h => wpAny_Call_Name_kw (ld_glob I hg hm ?_ hdb)⟩
  obtain ⟨r, env, st, d, st', he', hs, hf, q⟩ := h
  obtain ⟨⟨es', s2⟩, h3, h4⟩ := Option.bind_eq_some_iff.mp (show ((fk env st).bind fun q => m (pickL is ([] ++ q.1)) q.2) = some (d, st') from hf)
  refine PySem.W.callWith_KW0 (h₀ := X.base) I.ok.mod.kin hk hall ?_ hpl
  refine thn (hkw.run pos pins s σ H (fun zs H2 => ∃ r2, Ext r H r2 H2 ∧ Sim X.K r2 H2 s2 ∧ RepL X.K r2 H2 zs es') I ⟨r, env, st, es', s2, he', hs, h3, fun zs r2 H2 e2 q2 l2 => ⟨r2, e2, q2, l2⟩⟩) fun ws sb hz => ?_
  obtain ⟨zs, H2, I2, rz, r2, e2, q2, l2⟩ := hz
  refine ⟨I2.kIn, ?_⟩
  rw [hks]
  exact runK (us := []) (vs := []) (ds := []) Fd gx hb I2 .nil rz rfl (hn2 _ _ _ _ h3) .nil l2 q2 h4 fun v r3 H3 e3 q3 p3 => q v r3 H3 (e2.trans e3) q3 p3
/-- o.m(.., k = v, ..) -/
def fMethK (c mn : Str) (mm : FM) (is : List Nat) (fo : F) (fa fk : FA) : F := fun env st => (fo env st).bind fun p => match p.1 with
  | .ref n => if noF mn (insAt c n p.2) = true then (fa env p.2).bind fun q => (fk env q.2).bind fun z => mm (pickL is (.ref n :: q.1 ++ z.1)) z.2 else none
  | _ => none
variable {mm : FM} {c mn : Str}
theorem meth_start {fo : F} {Q : PySem.Value → Shared → Prop} (hc : ClsAt X.K c C) (hm : Meth X.K C mn f) {args : List Expr} {pl : Sem Bool} (ho : DE X o fo) {pins : List (Addr × Obj)} {s : Shared} {σ : L2.St} {H : Hp} (I : Inv X pins σ H s) {r : Rf} {env : Lo} {st s1 : Store} {nn : Nat} (he' : EnvR X.K r H env σ) (hs : Sim X.K r H st) (h1 : fo env st = some (.ref nn, s1)) (hz : noF mn (insAt c nn s1) = true)
    (ht : eval (.Call (.Attribute o mn apos) args kws pos) X.env = (do let ov ← eval o X.env; standAt apos.atName; let (f, first) ← holding [ov] (getMethod ov mn pl); callWith pos f first (backTo pos (starEach args X.env)) (backToKw pos (keywordEach kws X.env))))
    (k : ∀ (a : Addr) (r1 : Rf) (sa : Shared) (H1 : Hp), Inv X pins σ H1 sa → Ext r H r1 H1 → Sim X.K r1 H1 s1 → r1.adr[nn]? = some a → wpAny (model X.prog X.w) X.A (callWith pos (.ref f) [.ref a] (backTo pos (starEach args X.env)) (backToKw pos (keywordEach kws X.env))) Q X.xe sa) :
    wpAny (model X.prog X.w) X.A (eval (.Call (.Attribute o mn apos) args kws pos) X.env) Q X.xe s := by
  refine PySem.W.methodCall_KW (pl := pl) (thn (ho.run pins s σ H (fun v H1 => ∃ a r1 C' dx vs, v = .ref a ∧ r1.adr[nn]? = some a ∧ H1 a = some (.ins C' dx vs) ∧ C' = C ∧ vs.lookup mn = none ∧ Ext r H r1 H1 ∧ Sim X.K r1 H1 s1) I ⟨r, env, st, _, s1, he', hs, h1, fun v r1 H1 e1 q1 p1 => ?_⟩) fun u sa hq => ?_) ht
  · obtain ⟨a, rfl, hadr⟩ := p1.refI
    cases hi : insAt c nn s1 with
    | none => rw [hi] at hz; cases hz
    | some fs =>
      rw [hi] at hz
      obtain ⟨av, C', dx, vs, hn', hx, nm, l⟩ := q1.ob _ a _ hadr (insAt_some hi)
      rw [hc.at_] at hn'
      cases hn'
      exact ⟨a, r1, C, dx, vs, rfl, hadr, hx, rfl, fields_none nm (Option.isNone_iff_eq_none.mp hz), e1, q1⟩
  · obtain ⟨x, H1, I1, rx, a, r1, C', dx, vs, rfl, hadr, hx, rfl, hno, e1, q1⟩ := hq
    cases rx
    exact getmeth_ok I1 hx hc.cls hm hno (k a r1 sa H1 I1 e1 q1 hadr)
theorem de_methK0 {pl : Sem Bool} (hc : ClsAt X.K c C) (hm : Meth X.K C mn f) (Fd : FnD X.prog X.w X.K X.mg X.base k f fd ps mm) (gx : GX X k) (hb : KB X.K fd ps ks 1 is) {fo : F} {fk : FA} (ho : DE X o fo) (hkw : DK X kws fk)
    (hks : (backToKw pos (keywordEach kws X.env)).filterMap (·.1) = ks := by rfl) (hall : (backToKw pos (keywordEach kws X.env)).all (·.1.isSome) = true := by rfl)
    (hpl : ((backTo pos (starEach [] X.env)).any (·.1) || (backToKw pos (keywordEach kws X.env)).any (·.1.isNone)) = false := by rfl)
    (ht : eval (.Call (.Attribute o mn apos) [] kws pos) X.env = (do let ov ← eval o X.env; standAt apos.atName; let (f, first) ← holding [ov] (getMethod ov mn pl); callWith pos f first (backTo pos (starEach [] X.env)) (backToKw pos (keywordEach kws X.env))) := by rfl)
    (hn2 : ∀ env st ds st', fk env st = some (ds, st') → ds.length = ks.length) :
    DE X (.Call (.Attribute o mn apos) [] kws pos) (fMethK c mn mm is fo aNil fk) := by
  refine ⟨fun pins s σ H Q I h => ?_⟩
  obtain ⟨r, env, st, d, st', he', hs, hf, q⟩ := h
  obtain ⟨⟨x, s1⟩, h1, h2⟩ := Option.bind_eq_some_iff.mp hf
  cases x with
  | ref nn =>
    have h2' : (if noF mn (insAt c nn s1) = true then (fk env s1).bind fun z => mm (pickL is ([.ref nn] ++ z.1)) z.2 else none) = some (d, st') := h2
    by_cases hz : noF mn (insAt c nn s1) = true
    case neg => rw [if_neg hz] at h2'; cases h2'
    rw [if_pos hz] at h2'
    obtain ⟨⟨es', s3⟩, h5, h6⟩ := Option.bind_eq_some_iff.mp h2'
    refine meth_start hc hm ho I he' hs h1 hz ht fun a r1 sa H1 I1 e1 q1 hadr => ?_
    refine PySem.W.callWith_KW0 (first := [.ref a]) (h₀ := X.base) I.ok.mod.kin hm.kp hall ?_ hpl
    refine thn (hkw.run pos pins sa σ H1 (fun zs H3 => ∃ r3, Ext r1 H1 r3 H3 ∧ Sim X.K r3 H3 s3 ∧ RepL X.K r3 H3 zs es') I1 ⟨r1, env, s1, es', s3, he'.ext e1, q1, h5, fun zs r3 H3 e3 q3 l3 => ⟨r3, e3, q3, l3⟩⟩) fun ws sc hz => ?_
    obtain ⟨zs, H3, I3, rz, r3, e3, q3, l3⟩ := hz
    refine ⟨I3.kIn, ?_⟩
    rw [hks]
    exact runK (us := [.ref a]) (vs := [.ref a]) (ds := [.ref nn]) Fd gx hb I3 (.cons rfl .nil) rz rfl (hn2 _ _ _ _ h5) (.cons (.ref (e3.get hadr)) .nil) l3 q3 h6 fun v r4 H4 e4 q4 p4 => q v r4 H4 ((e1.trans e3).trans e4) q4 p4
  | _ => cases h2
end
end DL
/-! A list by value or of the store walked; list(x) into the store; xs.clear(). -/
namespace DL
open PySem PySem.Spec PyProof.Rows L2 TL
end DL
/-! t * 1. -/
namespace DL
open PySem PySem.Spec PyProof.Rows L2 TL
end DL
/-! == and != of instances by an own __eq__; isinstance of an own class; C(k = v). -/
namespace DL
open PySem PySem.Spec PyProof.Rows L2 TL
end DL
/-! == and != of lists, tuples and dicts that hold lists, tuples and dicts: by value or of the store. -/
namespace DL
open PySem PySem.Spec PyProof.Rows L2 TL PySem.SeqAt MeetsSeq MeetsSeq2 MeetsSeq3 SeqRoads2
end DL
namespace DL
open PySem PySem.Spec PyProof.Rows L2 TL
end DL
namespace DL
open PySem PySem.Spec PyProof.Rows L2 TL L2.DX
end DL
namespace DL
open PySem PySem.Spec PyProof.Rows L2 TL L2.DX
section
variable {X : Cx} {pins : List (Addr × Obj)} {σ : L2.St} {H : Hp} {s : Shared} {rho : Rf} {st : Store}
theorem RepK.mem {kv : List (Key × V)} {ks : List (Key × D)} (h : RepK X.K rho H kv ks) {k : Key} {d : D} (m : (k, d) ∈ ks) : ∃ v, (k, v) ∈ kv ∧ Rep X.K rho H v d := by
  induction kv generalizing ks with
  | nil => cases h; cases m
  | cons p kv ih =>
    cases h with
    | cons a b =>
      rcases List.mem_cons.mp m with e | m
      · cases e; exact ⟨_, List.mem_cons_self, a⟩
      · obtain ⟨v, h1, h2⟩ := ih b m
        exact ⟨v, List.mem_cons_of_mem _ h1, h2⟩
end
end DL
/-! C(k = v, ..) -/
namespace DL
open PySem PySem.Spec PyProof.Rows L2 TL
section
variable {X : Cx} {k n : Nat} {f C : Addr} {fd : FuncData} {ps ks : List Str} {is : List Nat} {mm : FM} {c x : Str} {p pos : Pos} {e : Expr} {es : List Expr} {kws : List Keyword}
theorem runMakeK {pins : List (Addr × Obj)} {σ : L2.St} {H : Hp} {s : Shared} {Q : VK} {us ws : List Value} {vs zs : List V} {rho : Rf} {ds es : List D} {st st' : Store} (M : Mk X.K C f) (hc : PySem.W.nsIn X.K mainGlobals c = some (some (.ref C)))
    (Fd : FnD X.prog X.w X.K X.mg X.base k f fd ps mm) (gx : GX X (k + 1)) (hb : KB X.K fd ps ks (n + 1) is) (I : Inv X pins σ H s) (r : Vals vs us) (rz : Vals zs ws) (l1 : ds.length = n) (l2 : es.length = ks.length) (rd : RepL X.K rho H vs ds) (re : RepL X.K rho H zs es) (hs : Sim X.K rho H st)
    (hm : mm (pickL is (.ref st.length :: ds ++ es)) (st ++ [.ins c []]) = some (.non, st')) (hq : ∀ v rho' H', Ext rho H rho' H' → Sim X.K rho' H' st' → Rep X.K rho' H' v (.ref st.length) → Q v H') :
    wpAny (model X.prog X.w) X.A (call (.ref C) us (ks.zip ws)) (EP X pins σ Q) X.xe s := by
  obtain ⟨r1, e1, s1, p1⟩ := made_sim (c := c) (C := C) hs hc (I.hok.fresh (Nat.le_succ s.heap.objs.size)) (I.hok.fresh (Nat.le_refl s.heap.objs.size)) (Nat.ne_of_lt (Nat.lt_succ_self s.heap.objs.size))
  have I2 := Inv.made (C := C) I
  have u1 : (Value.ref (s.heap.objs.size + 1) :: us).length = n + 1 := by rw [List.length_cons, ← r.length, rd.len, l1]
  have u2 : ws.length = ks.length := by rw [← rz.length, re.len, l2]
  have hv : Vals (V.ref (s.heap.objs.size + 1) :: vs ++ zs) (Value.ref (s.heap.objs.size + 1) :: us ++ ws) := by
    refine .cons rfl ?_
    clear hm hq rd re u1 u2 l1 l2
    induction r with
    | nil => exact rz
    | cons a b ih => exact .cons a ih
  have rp := repL_pick (.cons p1 ((rd.append re).ext e1)) is
  have hbt := hb.to { s with heap := (s.heap.push PySem.W.emptyDict).push (PySem.W.instObj C s.heap.objs.size) } (Value.ref (s.heap.objs.size + 1) :: us) ws I2.kIn u1 u2
  refine wpAny_call (make_map (f := f) I.kIn M.makes M.init (beq_iff_eq.mp M.fn) (codeAny_mono (Fd.run _ X.stack _ _ ⟨Value.ref (s.heap.objs.size + 1) :: us, ks.zip ws⟩ (pickL is (Value.ref (s.heap.objs.size + 1) :: us ++ ws)) _ (fun v H2 => v = .non ∧ Q (.ref (s.heap.objs.size + 1)) H2) r1 (pickL is (.ref st.length :: (ds ++ es))) _ st' .non (make_guards.trans gx.gd) (gx.room.make C us _)
    (I2.env0.make C us _) hbt (vals_pick hv is) (by rw [List.cons_append, rp.len]; exact hb.len _ (by rw [List.length_cons, List.length_append, l1, l2]; omega)) rp s1 hm fun v r3 H3 e3 q3 p3 => ?_) fun z s' hz => ?_))
  · cases p3
    exact ⟨rfl, hq _ r3 H3 (e1.trans e3) q3 (p1.ext e3)⟩
  · cases z with
    | error e => exact False.elim hz
    | ok fl =>
      cases fl with
      | ret u =>
        obtain ⟨v, H', I3, rv, ev, q3⟩ := I2.after hz
        subst ev
        exact ⟨rv, ⟨V.ref (s.heap.objs.size + 1), H', I3, rfl, q3⟩⟩
      | next => exact False.elim hz
      | brk => exact False.elim hz
      | cont => exact False.elim hz
def fMakeK (c : Str) (mi : FM) (is : List Nat) (fa fk : FA) : F := fun env st => (fa env st).bind fun p => (fk env p.2).bind fun q => (mi (pickL is (.ref q.2.length :: p.1 ++ q.1)) (q.2 ++ [.ins c []])).bind fun z => match z.1 with | .non => some (.ref q.2.length, z.2) | _ => none
/-- C(k = v, ..) -/
theorem de_makeK0 (M : Mk X.K C f) (hc : PySem.W.nsIn X.K mainGlobals c = some (some (.ref C))) (Fd : FnD X.prog X.w X.K X.mg X.base k f fd ps mm) (gx : GX X (k + 1)) (hg : Gl X x) (hm : X.mg x = some (.ref C)) (hb : KB X.K fd ps ks 1 is) {fk : FA}
    (hkw : DK X kws fk) (hks : (backToKw pos (keywordEach kws X.env)).filterMap (·.1) = ks := by rfl) (hall : (backToKw pos (keywordEach kws X.env)).all (·.1.isSome) = true := by rfl) (hdb : (x == ("__debug__" : Str)) = false := by decide)
    (hpl : ((backTo pos (starEach [] X.env)).any (·.1) || (backToKw pos (keywordEach kws X.env)).any (·.1.isNone)) = false := by rfl) (hn2 : ∀ env st ds st', fk env st = some (ds, st') → ds.length = ks.length) :
    DE X (.Call (.Name x p) [] kws pos) (fMakeK c mm is aNil fk) := by
  refine ⟨fun pins s σ H Q I h => wpAny_Call_Name_kw (ld_glob I hg hm ?_ hdb)⟩
  obtain ⟨r, env, st, d, st', he', hs, hf, q⟩ := h
  obtain ⟨⟨es', s2⟩, h3, h4⟩ := Option.bind_eq_some_iff.mp (show ((fk env st).bind fun q => (mm (pickL is (.ref q.2.length :: [] ++ q.1)) (q.2 ++ [.ins c []])).bind fun z => match z.1 with | .non => some (D.ref q.2.length, z.2) | _ => none) = some (d, st') from hf)
  obtain ⟨⟨z, s3⟩, h5, h6⟩ := Option.bind_eq_some_iff.mp h4
  have ez : z = .non ∧ d = .ref s2.length ∧ st' = s3 := by
    cases z with
    | non => cases h6; exact ⟨rfl, rfl, rfl⟩
    | _ => cases h6
  obtain ⟨rfl, rfl, rfl⟩ := ez
  refine PySem.W.callWith_KW0 (h₀ := X.base) I.ok.mod.kin M.kp hall ?_ hpl
  refine thn (hkw.run pos pins s σ H (fun zs H2 => ∃ r2, Ext r H r2 H2 ∧ Sim X.K r2 H2 s2 ∧ RepL X.K r2 H2 zs es') I ⟨r, env, st, es', s2, he', hs, h3, fun zs r2 H2 e2 q2 l2 => ⟨r2, e2, q2, l2⟩⟩) fun ws sb hz => ?_
  obtain ⟨zs, H2, I2, rz, r2, e2, q2, l2⟩ := hz
  refine ⟨I2.kIn, ?_⟩
  rw [hks]
  exact runMakeK (us := []) (vs := []) (ds := []) M hc Fd gx hb I2 .nil rz rfl (hn2 _ _ _ _ h3) .nil l2 q2 h5 fun v r3 H3 e3 q3 p3 => q v r3 H3 (e2.trans e3) q3 p3
end
end DL
/-! walking a body statement by statement; what has changed in the store. -/
namespace DL
open PySem PySem.Spec PyProof.Rows L2 TL
theorem at_some {α : Type} {l : List α} {n : Nat} {x : α} (h : l[n]? = some x) : n < l.length := (List.getElem?_eq_some_iff.mp h).1
theorem app_at {α : Type} {l : List α} {n : Nat} {x : α} (h : l[n]? = some x) (m : List α) : (l ++ m)[n]? = some x := by
  rw [List.getElem?_append_left (at_some h)]; exact h
theorem Tp.of {a b : Store} {n : Nat} (h : Tp a n) (e : b[n]? = a[n]?) : Tp b n := by
  obtain ⟨x, y, k1, k2, k3, k4⟩ := h.at_
  exact ⟨x, y, by rw [e]; exact k1, k2, k3, k4⟩
theorem seq_nx {f g : FS} {e e2 : Lo} {s s2 : Store} (h : f e s = some (.nx, e2, s2)) : sSeq f g e s = g e2 s2 := by
  rw [sSeq, h]; rfl
/-- what is there stays, but for the cells named; the store grows -/
structure Fm (ex : List Nat) (st st' : Store) : Prop where
  le : st.length ≤ st'.length
  at_ : ∀ m, m < st.length → m ∉ ex → st'[m]? = st[m]?
theorem Fm.refl (ex : List Nat) (st : Store) : Fm ex st st := ⟨Nat.le_refl _, fun _ _ _ => rfl⟩
theorem Fm.trans {ex : List Nat} {a b c : Store} (h : Fm ex a b) (g : Fm ex b c) : Fm ex a c := ⟨Nat.le_trans h.le g.le, fun m hm hn => (g.at_ m (Nat.lt_of_lt_of_le hm h.le) hn).trans (h.at_ m hm hn)⟩
theorem Fm.mono {ex ey : List Nat} {a b : Store} (h : Fm ex a b) (s : ∀ m ∈ ex, m ∈ ey) : Fm ey a b := ⟨h.le, fun m hm hn => h.at_ m hm fun z => hn (s m z)⟩
theorem Fm.app (ex : List Nat) (st l : Store) : Fm ex st (st ++ l) := ⟨by simp, fun m hm _ => List.getElem?_append_left hm⟩
theorem Fm.set {ex : List Nat} {st s : Store} (f : Fm ex st s) {n : Nat} (h : n ∈ ex ∨ st.length ≤ n) (o : Ob) : Fm ex st (s.set n o) := ⟨by rw [List.length_set]; exact f.le, fun m hm hn => by
  rw [List.getElem?_set_ne]
  · exact f.at_ m hm hn
  intro e
  subst e
  rcases h with h | h
  · exact hn h
  · omega⟩
theorem Fm.get {ex : List Nat} {st st' : Store} (f : Fm ex st st') {m : Nat} {o : Ob} (h : st[m]? = some o) (hn : m ∉ ex) : st'[m]? = some o := by rw [f.at_ m (at_some h) hn]; exact h
theorem for_nx {fi : FI} {g : FG} {b : FS} {ds : List D} {e e2 : Lo} {s s1 s2 : Store} (h : fi e s = some (ds, s1)) (k : loopS g b ds e s1 = some (.nx, e2, s2)) : sFor fi g b e s = some (.nx, e2, s2) := by
  rw [sFor, h]
  exact k
end DL
namespace DL
open PySem PySem.Spec PyProof.Rows L2
/-! where the plain def answers, the one that may raise answers the same -/
def LeS (f fx : FS) : Prop := ∀ e s z, f e s = some z → fx e s = some z
def LeM (m : FM) (mx : FMX) : Prop := ∀ ds s d s', m ds s = some (d, s') → mx ds s = some (.val d, s')
theorem LeS.refl (f : FS) : LeS f f := fun _ _ _ h => h
theorem LeS.never (g : FS) : LeS sNever g := fun e s z h => by cases h
theorem LeS.seq {f fx g gx : FS} (h : LeS f fx) (k : LeS g gx) : LeS (sSeq f g) (sSeq fx gx) := fun e s z hz => by
  obtain ⟨⟨o, e1, s1⟩, h1, h2⟩ := Option.bind_eq_some_iff.mp hz
  rw [sSeq, h _ _ _ h1]
  cases o with
  | nx => exact k _ _ _ h2
  | bk => exact h2
  | ct => exact h2
  | rt d => exact h2
  | er c f d => exact h2
theorem LeM.call {m : FM} {mx : FMX} (h : LeM m mx) {fa : FA} {e : Lo} {s : Store} {d : D} {s' : Store} (hz : fCall m fa e s = some (d, s')) : fCallX mx fa e s = some (.val d, s') := by
  obtain ⟨⟨xs, s1⟩, h1, h2⟩ := Option.bind_eq_some_iff.mp hz
  rw [fCallX, h1]
  exact h _ _ _ _ h2
/-- an expression and the one that may raise -/
def LeE (f : F) (fx : FX) : Prop := ∀ e s d s', f e s = some (d, s') → fx e s = some (.val d, s')
theorem LeE.drop {f : F} {fx : FX} (h : LeE f fx) : LeS (sDrop f) (sDropX fx) := fun e s z hz => by
  obtain ⟨⟨d, s1⟩, h1, h2⟩ := Option.map_eq_some_iff.mp hz
  subst h2
  rw [sDropX, h _ _ _ _ h1]; rfl
theorem LeE.ret {f : F} {fx : FX} (h : LeE f fx) : LeS (sRet f) (sRetX fx) := fun e s z hz => by
  obtain ⟨⟨d, s1⟩, h1, h2⟩ := Option.map_eq_some_iff.mp hz
  subst h2
  rw [sRetX, h _ _ _ _ h1]; rfl
end DL
/-! arguments that may raise -/
namespace DL
open PySem PySem.Spec PyProof.Rows L2
end DL
/-! d.pop(k) of a dict of the store -/
namespace DL
open PySem PySem.Spec PyProof.Rows L2
end DL
/-! where the def that may raise raises nothing, the plain one answers the same -/
namespace DL
open PySem PySem.Spec PyProof.Rows L2
def isEr : Out → Bool | .er _ _ _ => true | _ => false
def GeS (f fx : FS) : Prop := ∀ e s o e' s', fx e s = some (o, e', s') → isEr o = false → f e s = some (o, e', s')
def GeM (m : FM) (mx : FMX) : Prop := ∀ ds s d s', mx ds s = some (.val d, s') → m ds s = some (d, s')
theorem GeS.refl (f : FS) : GeS f f := fun _ _ _ _ _ h _ => h
theorem GeS.seq {f fx g gx : FS} (h : GeS f fx) (k : GeS g gx) : GeS (sSeq f g) (sSeq fx gx) := fun e s o e' s' hz n => by
  obtain ⟨⟨o1, e1, s1⟩, h1, h2⟩ := Option.bind_eq_some_iff.mp hz
  cases o1 with
  | nx =>
    rw [sSeq, h _ _ _ _ _ h1 rfl]
    exact k _ _ _ _ _ h2 n
  | bk => rw [sSeq, h _ _ _ _ _ h1 rfl]; exact h2
  | ct => rw [sSeq, h _ _ _ _ _ h1 rfl]; exact h2
  | rt d => rw [sSeq, h _ _ _ _ _ h1 rfl]; exact h2
  | er c f d => cases h2; cases n
theorem GeM.call {m : FM} {mx : FMX} (h : GeM m mx) {fa : FA} {e : Lo} {s : Store} {d : D} {s' : Store} (hz : fCallX mx fa e s = some (.val d, s')) : fCall m fa e s = some (d, s') := by
  obtain ⟨⟨xs, s1⟩, h1, h2⟩ := Option.bind_eq_some_iff.mp hz
  rw [fCall, h1]
  exact h _ _ _ _ h2
/-- an expression and the one that may raise -/
def GeE (f : F) (fx : DL.FX) : Prop := ∀ e s d s', fx e s = some (.val d, s') → f e s = some (d, s')
theorem GeE.drop {f : F} {fx : DL.FX} (h : GeE f fx) : GeS (sDrop f) (sDropX fx) := fun e s o e' s' hz n => by
  obtain ⟨⟨z, s1⟩, h1, h2⟩ := Option.map_eq_some_iff.mp hz
  cases z with
  | val d => cases h2; rw [sDrop, h _ _ _ _ h1]; rfl
  | er c fl d => cases h2; cases n
theorem GeE.ret {f : F} {fx : DL.FX} (h : GeE f fx) : GeS (sRet f) (sRetX fx) := fun e s o e' s' hz n => by
  obtain ⟨⟨z, s1⟩, h1, h2⟩ := Option.map_eq_some_iff.mp hz
  cases z with
  | val d => cases h2; rw [sRet, h _ _ _ _ h1]; rfl
  | er c fl d => cases h2; cases n
end DL
/-! lists of comprehensions and slices, into the store; starred targets; defs with keyword-only defaults -/
namespace DL
open PySem PySem.Spec PyProof.Rows L2
/-! ### a[lo:hi] of a list by value, into the store -/
end DL
/-! keyword-only parameters with defaults; a starred target at the end -/
namespace DL
open PySem PySem.Spec PyProof.Rows L2
/-! ### defaults -/
/-! the same of a def that may raise -/
end DL
/-! a, b, *rest = t -/
namespace DL
open PySem PySem.Spec PyProof.Rows L2
/-! ### the target -/
end DL
/-! is anything in a list of ints. -/
namespace DL
open PySem PySem.Spec PyProof.Rows L2 TL
end DL
/-! [x, ..] * n -/
namespace DL
open PySem PySem.Spec PyProof.Rows L2 TL
end DL
/-! while; del xs[i]; xs.pop() -/
namespace DL
open PySem PySem.Spec PyProof.Rows L2 TL
def loopW (t : FT) (b : FS) : Nat → Lo → Store → Option (Out × Lo × Store)
  | 0, _, _ => none
  | n + 1, env, st => (t env st).bind fun p => if p.1 = true then (b env p.2).bind fun q => match q with
    | (.nx, e2, s2) => loopW t b n e2 s2
    | (.ct, e2, s2) => loopW t b n e2 s2
    | (.bk, e2, s2) => some (.nx, e2, s2)
    | (.rt v, e2, s2) => some (.rt v, e2, s2)
    | (.er c f v, e2, s2) => some (.er c f v, e2, s2) else some (.nx, env, p.2)
open Classical in
noncomputable def sWhile (t : FT) (b : FS) : FS := fun env st => if h : ∃ n, (loopW t b n env st).isSome = true then loopW t b h.choose env st else none
theorem loopW_mono {t : FT} {b : FS} : ∀ {n m : Nat} {env : Lo} {st : Store} {z : Out × Lo × Store}, n ≤ m → loopW t b n env st = some z → loopW t b m env st = some z
  | 0, _, _, _, _, _, h => by cases h
  | n + 1, 0, _, _, _, hm, _ => by omega
  | n + 1, m + 1, env, st, z, hm, h => by
    rw [loopW] at h ⊢
    obtain ⟨⟨c, s1⟩, h1, h2⟩ := Option.bind_eq_some_iff.mp h
    rw [h1]
    simp only [Option.bind_some] at h2 ⊢
    by_cases hc : c = true
    · rw [if_pos hc] at h2 ⊢
      obtain ⟨⟨o, e2, s2⟩, h3, h4⟩ := Option.bind_eq_some_iff.mp h2
      rw [h3]
      simp only [Option.bind_some]
      cases o with
      | nx => exact loopW_mono (by omega) h4
      | ct => exact loopW_mono (by omega) h4
      | bk => exact h4
      | rt v => exact h4
      | er c f v => exact h4
    · rw [if_neg hc] at h2 ⊢
      exact h2
theorem while_of {t : FT} {b : FS} {n : Nat} {env : Lo} {st : Store} {z : Out × Lo × Store} (h : loopW t b n env st = some z) : sWhile t b env st = some z := by
  have ex : ∃ n, (loopW t b n env st).isSome = true := ⟨n, by rw [h]; rfl⟩
  rw [sWhile, dif_pos ex]
  obtain ⟨z', hz⟩ := Option.isSome_iff_exists.mp ex.choose_spec
  rw [hz]
  rcases Nat.le_total n ex.choose with l | l
  · have := loopW_mono l h
    rw [hz] at this
    exact this
  · have := loopW_mono l hz
    rw [h] at this
    exact this.symm
theorem while_some {t : FT} {b : FS} {env : Lo} {st : Store} {z : Out × Lo × Store} (h : sWhile t b env st = some z) : ∃ n, loopW t b n env st = some z := by
  unfold sWhile at h
  split at h
  · exact ⟨_, h⟩
  · cases h
section
variable {X : Cx} {W : WXd}
theorem ds_while {c : Expr} {body : List Stmt} {t : FT} {b : FS} {pos : Pos} (hp : PassesOwn (model X.prog X.w) X.A X.env X.xe) (hc : DT X c t) (hb : DSs X W body b) : DS X W (.While c body [] pos) (sWhile t b) := weakS (ps_while hp hc hb) fun D' σ H hh => by
  obtain ⟨r, env, st, o, env', st', he, hs, hf, q⟩ := hh
  obtain ⟨n, hn⟩ := while_some hf
  refine ⟨fun m σ2 H2 => ∃ r2 env2 st2, Ext r H r2 H2 ∧ EnvR X.K r2 H2 env2 σ2 ∧ Sim X.K r2 H2 st2 ∧ loopW t b m env2 st2 = some (o, env', st'), ⟨n, r, env, st, .refl _ _, he, hs, hn⟩, ?_⟩
  rintro m σ2 H2 ⟨r2, env2, st2, e2, he2, hs2, h3⟩
  cases m with
  | zero => cases h3
  | succ m =>
    rw [loopW] at h3
    obtain ⟨⟨k, s3⟩, h4, h5⟩ := Option.bind_eq_some_iff.mp h3
    refine ⟨r2, env2, st2, k, s3, he2, hs2, h4, fun r3 H3 e3 hs3 => ?_⟩
    simp only at h5
    cases k with
    | false =>
      rw [if_neg (by decide)] at h5 ⊢
      cases h5
      exact q σ2 r3 H3 (e2.trans e3) (he2.ext e3) hs3
    | true =>
      rw [if_pos rfl] at h5 ⊢
      obtain ⟨⟨o4, env4, st4⟩, g2, h6⟩ := Option.bind_eq_some_iff.mp h5
      refine ⟨fun σ' H' => ∃ r2 env2 st2, Ext r H r2 H' ∧ EnvR X.K r2 H' env2 σ' ∧ Sim X.K r2 H' st2 ∧ loopW t b m env2 st2 = some (o, env', st'), fun σ' H' w => ⟨m, Nat.lt_succ_self _, w⟩, ?_⟩
      refine ⟨r3, env2, s3, o4, env4, st4, he2.ext e3, hs3, g2, ?_⟩
      cases o4 with
      | nx => exact fun σ' r' H' e' a c => ⟨r', env4, st4, (e2.trans e3).trans e', a, c, h6⟩
      | ct => exact fun σ' r' H' e' a c => ⟨r', env4, st4, (e2.trans e3).trans e', a, c, h6⟩
      | bk =>
        cases h6
        exact fun σ' r' H' e' a c => q σ' r' H' ((e2.trans e3).trans e') a c
      | rt v =>
        cases h6
        exact fun v r' H' e' a c => q v r' H' ((e2.trans e3).trans e') a c
      | er c' f' v =>
        cases h6
        exact fun σ' r' H' C dd e' a c z => q σ' r' H' C dd ((e2.trans e3).trans e') a c z
end
end DL
/-! sorted(xs, key=f), the keys nested tuples of any shapes that Python can order; f may change what it owns. -/
namespace DL
open PySem PySem.Spec PyProof.Rows L2 TL
end DL
/-! the keys asked one by one: what holds between two calls is one's own word J -/
namespace DL
open PySem PySem.Spec PyProof.Rows L2 TL
end DL
/-! a lambda of one parameter: made, and called -/
namespace DL
open PySem PySem.Spec PyProof.Rows L2 TL LamX
end DL
/-! sorted(e, key=lambda p: body) -/
namespace DL
open PySem PySem.Spec PyProof.Rows L2 TL LamX
end DL
/-! sorted(e, key=lambda p: body): the rule -/
namespace DL
open PySem PySem.Spec PyProof.Rows L2 TL LamX
end DL
/-! the end of a law whose program holds lambdas; a def's own code object -/
namespace DL
open PySem PySem.Spec PyProof.Rows L2 TL LamX
end DL
/-! code objects and tables read off the written part -/
namespace DL
open PySem PySem.Spec PyProof.Rows L2 TL LamX
end DL
/-! Dicts of the store: their items, their values as lists; a dict of a list of pairs; a walk of a dict that may be a value. -/
namespace DL
open PySem PySem.Spec PyProof.Rows L2 L2.DX
end DL
/-! repr of dicts whose values hold no list and no dict, and of tuples of such dicts. -/
namespace DL
open PySem PySem.Spec PyProof.Rows L2 TL
variable {K : PySem.W.Frag}
mutual
/-- no list, no dict inside -/
def noL : D → Bool
  | .tup ds => noLL ds
  | .lst _ => false
  | .dct _ => false
  | _ => true
def noLL : List D → Bool
  | [] => true
  | d :: ds => noL d && noLL ds
end
theorem noLL_iff {ds : List D} : noLL ds = true ↔ ∀ d ∈ ds, noL d = true := by
  induction ds with
  | nil => exact ⟨fun _ _ h => (by cases h), fun _ => rfl⟩
  | cons d ds ih =>
    show (noL d && noLL ds) = true ↔ _
    rw [Bool.and_eq_true, ih]
    simp
/-! ### measures -/
structure OkV (m : Nat) (d : D) : Prop where
  ok : okD d = true
  nl : noL d = true
  hd : hD d ≤ 20
  wd : wD d ≤ m
end DL
/-! {**a, **b}. -/
namespace DL
open PySem PySem.Spec PyProof.Rows L2 L2.DX
end DL
/-! {**a, **b} as an expression. -/
namespace DL
open PySem PySem.Spec PyProof.Rows L2 L2.DX
end DL
/-! xs.pop(i) of a list of the store. -/
namespace DL
open PySem PySem.Spec PyProof.Rows L2 L2.DX
variable {K : PySem.W.Frag}
section
variable {X : Cx} {W : WXd}
theorem RepL.erase {r : Rf} {H : Hp} : ∀ {vs : List V} {ds : List D}, RepL K r H vs ds → ∀ k, RepL K r H (vs.eraseIdx k) (ds.eraseIdx k)
  | _, _, .nil, _ => .nil
  | _, _, .cons a b, 0 => b
  | _, _, .cons a b, k + 1 => .cons a (b.erase k)
end
end DL
/-! repr of a tuple that may hold lists of the store. -/
namespace DL
open PySem PySem.Spec PyProof.Rows L2 TL
end DL
namespace DL
open PySem PySem.Spec PyProof.Rows L2 TL
/-! what is shown and holds no list and no dict may be compared -/
end DL
/-! xs.pop() of a list of the store -/
namespace DL
open PySem PySem.Spec PyProof.Rows L2 L2.DX
end DL
/-! a dict comprehension over a list of the store -/
namespace DL
open PySem PySem.Spec PyProof.Rows L2
end DL
/-! a slice of what may raise -/
namespace DL
open PySem PySem.Spec PyProof.Rows L2
end DL
/-! xs.index(y), xs a list of ints -/
namespace DL
open PySem PySem.Spec PyProof.Rows L2 L2.DX
end DL
/-! sorted(xs) of a list of ints by value; del xs[i] of a list of the store; a slice of a list of the store, by value. -/
namespace DL
open PySem PySem.Spec PyProof.Rows L2 L2.DX
variable {K : PySem.W.Frag}
section
variable {X : Cx} {W : WXd}
def sDelI (fo fi : F) : FS := fun env st => (fo env st).bind fun p => (fi env p.2).bind fun q => match p.1, q.1 with
  | .ref n, .int i => (match q.2[n]? with
    | some (.lst xs) => if 0 ≤ i ∧ i < 1000000 ∧ i.toNat < xs.length then some (.nx, env, q.2.set n (.lst (xs.eraseIdx i.toNat))) else none
    | _ => none)
  | _, _ => none
theorem ds_delI {o i : Expr} {fo fi : F} {tpos pos : Pos} (ho : DE X o fo) (hi : DE X i fi) : DS X W (.Delete [.Subscript o i tpos] pos) (sDelI fo fi) := weakS (ps_delL ho hi) fun D' σ H hh => by
  obtain ⟨r, env, st, out, env', st', he, hs, hf, q⟩ := hh
  obtain ⟨⟨x, s1⟩, h1, hf1⟩ := Option.bind_eq_some_iff.mp hf
  obtain ⟨⟨y, s2⟩, h2, hf2⟩ := Option.bind_eq_some_iff.mp hf1
  cases x with
  | ref n =>
    cases y with
    | int iv =>
      simp only at hf2
      split at hf2
      · rename_i xs hst
        by_cases hc : 0 ≤ iv ∧ iv < 1000000 ∧ iv.toNat < xs.length
        case neg => rw [if_neg hc] at hf2; cases hf2
        rw [if_pos hc] at hf2
        cases hf2
        refine ⟨r, env, st, _, s1, he, hs, h1, fun v r1 H1 e1 q1 p1 => ⟨r1, env, s1, _, s2, he.ext e1, q1, h2, fun v2 r2 H2 e2 q2 p2 => ?_⟩⟩
        obtain ⟨a, rfl, ha⟩ := (p1.ext e2).refI
        cases p2
        obtain ⟨av, ys, hx, l⟩ := q2.ob _ a _ ha hst
        have si : seqIndex? iv ys.length = some iv.toNat := by
          rw [l.len]
          unfold seqIndex?
          have n0 : ¬ iv < 0 := by omega
          have n1 : iv < xs.length := by omega
          simp [n0]
          omega
        refine ⟨a, ys, iv, iv.toNat, rfl, rfl, hx, by omega, by omega, si, ?_⟩
        have ee : Ex r2 H2 r2 (upd H2 a (.lst (ys.eraseIdx iv.toNat))) := ⟨⟨[], by simp⟩, fun b o w m => by rw [upd_ne (fun y => m (by rw [y]; exact av))]; exact w, fun b w m => absurd w m⟩
        obtain ⟨w1, w2⟩ := q2.set (o := .lst (ys.eraseIdx iv.toNat)) (ob := .lst (xs.eraseIdx iv.toNat)) ha av ⟨av, _, upd_same, (l.erase _).ex ee⟩ (fun _ _ z => by rw [hx] at z; cases z)
        exact q σ r2 _ ((e1.trans e2).trans w1) (((he.ext e1).ext e2).ext w1) w2
      · cases hf2
    | _ => cases hf2
  | _ => cases hf2
/-- xs[lo:hi] of a list of the store -/
def fSliceO (fa : F) (lo hi : FO) : F := fun env st => (fa env st).bind fun p => (lo env p.2).bind fun q => (hi env q.2).bind fun w => match p.1 with
  | .ref n => (match w.2[n]? with | some (.lst ds) => some (.lst (cutD ds q.1 w.1), w.2) | _ => none)
  | _ => none
theorem de_sliceO {a : Expr} {lo hi : Option Expr} {fa : F} {fl fh : FO} {p2 pos : Pos} (ha : DE X a fa) (hl : DO' X lo fl) (hh : DO' X hi fh) : DE X (.Subscript a (.Slice lo hi none p2) pos) (fSliceO fa fl fh) :=
  weakE (pe_slice sl_list ha hl hh) fun σ H Q hh => by
  obtain ⟨r, env, st, d, st', he, hs, hf, q⟩ := hh
  obtain ⟨⟨x, s1⟩, h1, hf1⟩ := Option.bind_eq_some_iff.mp hf
  obtain ⟨⟨i, s2⟩, h2, hf2⟩ := Option.bind_eq_some_iff.mp hf1
  obtain ⟨⟨j, s3⟩, h3, hf3⟩ := Option.bind_eq_some_iff.mp hf2
  cases x with
  | ref n =>
    simp only at hf3
    split at hf3
    · rename_i ds hst
      cases hf3
      refine ⟨r, env, st, _, s1, he, hs, h1, fun u r1 H1 e1 q1 p1 => ⟨r1, env, s1, i, s2, he.ext e1, q1, h2, fun r2 H2 e2 q2 => ⟨r2, env, s2, j, _, (he.ext e1).ext e2, q2, h3, fun r3 H3 e3 q3 => ?_⟩⟩⟩
      have p3 := (p1.ext e2).ext e3
      have e13 := (e1.trans e2).trans e3
      obtain ⟨a, rfl, ha⟩ := p3.refI
      obtain ⟨av, ys, hx, l⟩ := q3.ob _ a _ ha hst
      exact ⟨_, _, rfl, .of hx, fun p hp => q _ _ _ (e13.trans (q3.ext (same_alloc hp))) (q3.same (same_alloc hp)) (.lst upd_same (q3.free hp) ((l.cut i j).ex (Ex.same r3 (same_alloc hp))))⟩
    · cases hf3
  | _ => cases hf3
end
end DL
/-! enumerate over a list by value -/
namespace DL
open PySem PySem.Spec PyProof.Rows L2 L2.DX
end DL
/-! xs[lo:hi] of a list of the store, xs[::-1] of a list by value: both into the store -/
namespace DL
open PySem PySem.Spec PyProof.Rows L2 L2.DX
end DL
/-! sorted by key into the store; defs with lambdas that may raise; a pair whose second may raise. -/
namespace DL
open PySem PySem.Spec PyProof.Rows L2 TL LamX
end DL
namespace LW
open PySem PySem.Spec PyProof.Rows L2 DL
def topS (i : Nat) : Stmt := PySem.Challenge.pw_steadypages_k28_listings_by_name.main.body.getD i (.Pass ⟨0, 0, 0, 0⟩)
abbrev s_is_integer : Stmt := topS 8
abbrev N_is_integer : List Str := ["value"]
theorem sc_is_integer : FnScope N_is_integer ["value"] (defScope s_is_integer) := ⟨rfl, rfl, rfl, by decide +kernel, rfl, by decide +kernel, by decide +kernel⟩
abbrev s_is_string : Stmt := topS 9
abbrev N_is_string : List Str := ["value", "sign"]
theorem sc_is_string : FnScope N_is_string ["value"] (defScope s_is_string) := ⟨rfl, rfl, rfl, by decide +kernel, rfl, by decide +kernel, by decide +kernel⟩
abbrev s_is_value : Stmt := topS 10
abbrev N_is_value : List Str := ["value"]
theorem sc_is_value : FnScope N_is_value ["value"] (defScope s_is_value) := ⟨rfl, rfl, rfl, by decide +kernel, rfl, by decide +kernel, by decide +kernel⟩
abbrev s_kind_place : Stmt := topS 11
abbrev N_kind_place : List Str := ["value"]
theorem sc_kind_place : FnScope N_kind_place ["value"] (defScope s_kind_place) := ⟨rfl, rfl, rfl, by decide +kernel, rfl, by decide +kernel, by decide +kernel⟩
abbrev s_compare_values : Stmt := topS 12
abbrev N_compare_values : List Str := ["first", "second", "first_place", "second_place"]
theorem sc_compare_values : FnScope N_compare_values ["first", "second"] (defScope s_compare_values) := ⟨rfl, rfl, rfl, by decide +kernel, rfl, by decide +kernel, by decide +kernel⟩
abbrev s_is_name : Stmt := topS 13
abbrev N_is_name : List Str := ["value", "sign"]
theorem sc_is_name : FnScope N_is_name ["value"] (defScope s_is_name) := ⟨rfl, rfl, rfl, by decide +kernel, rfl, by decide +kernel, by decide +kernel⟩
abbrev s_is_column_name : Stmt := topS 14
abbrev N_is_column_name : List Str := ["value"]
theorem sc_is_column_name : FnScope N_is_column_name ["value"] (defScope s_is_column_name) := ⟨rfl, rfl, rfl, by decide +kernel, rfl, by decide +kernel, by decide +kernel⟩
abbrev s_is_columns : Stmt := topS 15
abbrev N_is_columns : List Str := ["value", "name"]
theorem sc_is_columns : FnScope N_is_columns ["value"] (defScope s_is_columns) := ⟨rfl, rfl, rfl, by decide +kernel, rfl, by decide +kernel, by decide +kernel⟩
abbrev s_is_row_id : Stmt := topS 16
abbrev N_is_row_id : List Str := ["value"]
theorem sc_is_row_id : FnScope N_is_row_id ["value"] (defScope s_is_row_id) := ⟨rfl, rfl, rfl, by decide +kernel, rfl, by decide +kernel, by decide +kernel⟩
abbrev s_is_row : Stmt := topS 17
abbrev N_is_row : List Str := ["columns", "value", "row_id", "values", "item"]
theorem sc_is_row : FnScope N_is_row ["columns", "value"] (defScope s_is_row) := ⟨rfl, rfl, rfl, by decide +kernel, rfl, by decide +kernel, by decide +kernel⟩
abbrev s_passes : Stmt := topS 20
abbrev N_passes : List Str := ["kind", "value", "operand"]
theorem sc_passes : FnScope N_passes ["kind", "value", "operand"] (defScope s_passes) := ⟨rfl, rfl, rfl, by decide +kernel, rfl, by decide +kernel, by decide +kernel⟩
abbrev s_matches : Stmt := topS 19
abbrev N_matches : List Str := ["condition", "values", "kind"]
theorem sc_matches : FnScope N_matches ["condition", "values"] (defScope s_matches) := ⟨rfl, rfl, rfl, by decide +kernel, rfl, by decide +kernel, by decide +kernel⟩
abbrev s_key_of : Stmt := topS 28
abbrev N_key_of : List Str := ["view", "row_id", "values", "ordered", "column", "descending"]
theorem sc_key_of : FnScope N_key_of ["view", "row_id", "values"] (defScope s_key_of) := ⟨rfl, rfl, rfl, by decide +kernel, rfl, by decide +kernel, by decide +kernel⟩
abbrev s_value_place : Stmt := topS 30
abbrev N_value_place : List Str := ["value", "descending", "kind", "codes", "sign"]
theorem sc_value_place : FnScope N_value_place ["value", "descending"] (defScope s_value_place) := ⟨rfl, rfl, rfl, by decide +kernel, rfl, by decide +kernel, by decide +kernel⟩
abbrev s_key_place : Stmt := topS 29
abbrev N_key_place : List Str := ["view", "key", "places", "value", "column", "descending"]
theorem sc_key_place : FnScope N_key_place ["view", "key"] (defScope s_key_place) := ⟨rfl, rfl, rfl, by decide +kernel, rfl, by decide +kernel, by decide +kernel⟩
abbrev s_first_from : Stmt := topS 33
abbrev N_first_from : List Str := ["places", "place", "low", "high", "middle"]
theorem sc_first_from : FnScope N_first_from ["places", "place"] (defScope s_first_from) := ⟨rfl, rfl, rfl, by decide +kernel, rfl, by decide +kernel, by decide +kernel⟩
abbrev s_Table__check_known : Stmt := inClass (topS 36) 14
abbrev N_Table__check_known : List Str := ["self", "version"]
theorem sc_Table__check_known : FnScope N_Table__check_known ["self", "version"] (defScope s_Table__check_known) := ⟨rfl, rfl, rfl, by decide +kernel, rfl, by decide +kernel, by decide +kernel⟩
abbrev s_take_step : Stmt := topS 38
abbrev N_take_step : List Str := ["states", "step", "row_id"]
theorem sc_take_step : FnScope N_take_step ["states", "step"] (defScope s_take_step) := ⟨rfl, rfl, rfl, by decide +kernel, rfl, by decide +kernel, by decide +kernel⟩
abbrev s_Table__states_at : Stmt := inClass (topS 36) 13
abbrev N_Table__states_at : List Str := ["self", "version", "states", "known", "step"]
theorem sc_Table__states_at : FnScope N_Table__states_at ["self", "version"] (defScope s_Table__states_at) := ⟨rfl, rfl, rfl, by decide +kernel, rfl, by decide +kernel, by decide +kernel⟩
abbrev s_Table_rows_at : Stmt := inClass (topS 36) 11
abbrev N_Table_rows_at : List Str := ["self", "version", "states", "row_id"]
theorem sc_Table_rows_at : FnScope N_Table_rows_at ["self", "version"] (defScope s_Table_rows_at) := ⟨rfl, rfl, rfl, by decide +kernel, rfl, by decide +kernel, by decide +kernel⟩
abbrev s_Table_changes_at : Stmt := inClass (topS 36) 12
abbrev N_Table_changes_at : List Str := ["self", "version", "states", "row_id"]
theorem sc_Table_changes_at : FnScope N_Table_changes_at ["self", "version"] (defScope s_Table_changes_at) := ⟨rfl, rfl, rfl, by decide +kernel, rfl, by decide +kernel, by decide +kernel⟩
abbrev s_Listing___init__ : Stmt := inClass (topS 32) 0
abbrev N_Listing___init__ : List Str := ["self", "view"]
theorem sc_Listing___init__ : FnScope N_Listing___init__ ["self", "view"] (defScope s_Listing___init__) := ⟨rfl, rfl, rfl, by decide +kernel, rfl, by decide +kernel, by decide +kernel⟩
abbrev s_Listing__holds : Stmt := inClass (topS 32) 4
abbrev N_Listing__holds : List Str := ["self", "rank", "place"]
theorem sc_Listing__holds : FnScope N_Listing__holds ["self", "rank", "place"] (defScope s_Listing__holds) := ⟨rfl, rfl, rfl, by decide +kernel, rfl, by decide +kernel, by decide +kernel⟩
abbrev s_Listing_add_key : Stmt := inClass (topS 32) 2
abbrev N_Listing_add_key : List Str := ["self", "key", "changed", "place", "rank"]
theorem sc_Listing_add_key : FnScope N_Listing_add_key ["self", "key", "changed"] (defScope s_Listing_add_key) := ⟨rfl, rfl, rfl, by decide +kernel, rfl, by decide +kernel, by decide +kernel⟩
abbrev s_listing_of : Stmt := topS 34
abbrev N_listing_of : List Str := ["table", "view", "version", "rows", "changes", "listing", "row_id"]
theorem sc_listing_of : FnScope N_listing_of ["table", "view", "version"] (defScope s_listing_of) := ⟨rfl, rfl, rfl, by decide +kernel, rfl, by decide +kernel, by decide +kernel⟩
abbrev s_values_of : Stmt := topS 37
abbrev N_values_of : List Str := ["state"]
theorem sc_values_of : FnScope N_values_of ["state"] (defScope s_values_of) := ⟨rfl, rfl, rfl, by decide +kernel, rfl, by decide +kernel, by decide +kernel⟩
abbrev s__law_tape : Stmt := topS 40
abbrev N__law_tape : List Str := ["script", "start", "mixed", "cell", "digits"]
theorem sc__law_tape : FnScope N__law_tape ["script", "start"] (defScope s__law_tape) := ⟨rfl, rfl, rfl, by decide +kernel, rfl, by decide +kernel, by decide +kernel⟩
abbrev s__law_pick : Stmt := topS 41
abbrev N__law_pick : List Str := ["tape", "size", "found"]
theorem sc__law_pick : FnScope N__law_pick ["tape", "size"] (defScope s__law_pick) := ⟨rfl, rfl, rfl, by decide +kernel, rfl, by decide +kernel, by decide +kernel⟩
abbrev s__law_one_of : Stmt := topS 42
abbrev N__law_one_of : List Str := ["tape", "items"]
theorem sc__law_one_of : FnScope N__law_one_of ["tape", "items"] (defScope s__law_one_of) := ⟨rfl, rfl, rfl, by decide +kernel, rfl, by decide +kernel, by decide +kernel⟩
abbrev s__law_value : Stmt := topS 43
abbrev N__law_value : List Str := ["tape", "signs", "some", "turn"]
theorem sc__law_value : FnScope N__law_value ["tape"] (defScope s__law_value) := ⟨rfl, rfl, rfl, by decide +kernel, rfl, by decide +kernel, by decide +kernel⟩
abbrev s__law_values : Stmt := topS 44
abbrev N__law_values : List Str := ["tape", "width", "column"]
theorem sc__law_values : FnScope N__law_values ["tape", "width"] (defScope s__law_values) := ⟨rfl, rfl, rfl, by decide +kernel, rfl, by decide +kernel, by decide +kernel⟩
abbrev s__law_test : Stmt := topS 45
abbrev N__law_test : List Str := ["tape", "width", "column", "kind", "many", "turn"]
theorem sc__law_test : FnScope N__law_test ["tape", "width"] (defScope s__law_test) := ⟨rfl, rfl, rfl, by decide +kernel, rfl, by decide +kernel, by decide +kernel⟩
abbrev s__law_condition : Stmt := topS 46
abbrev N__law_condition : List Str := ["tape", "width", "depth", "kind", "parts"]
theorem sc__law_condition : FnScope N__law_condition ["tape", "width", "depth"] (defScope s__law_condition) := ⟨rfl, rfl, rfl, by decide +kernel, rfl, by decide +kernel, by decide +kernel⟩
abbrev s__law_view : Stmt := topS 47
abbrev N__law_view : List Str := ["tape", "width", "condition", "order", "turn", "column", "shown", "pair"]
theorem sc__law_view : FnScope N__law_view ["tape", "width"] (defScope s__law_view) := ⟨rfl, rfl, rfl, by decide +kernel, rfl, by decide +kernel, by decide +kernel⟩
abbrev s_Table___init__ : Stmt := inClass (topS 36) 0
abbrev N_Table___init__ : List Str := ["self", "columns"]
theorem sc_Table___init__ : FnScope N_Table___init__ ["self", "columns"] (defScope s_Table___init__) := ⟨rfl, rfl, rfl, by decide +kernel, rfl, by decide +kernel, by decide +kernel⟩
abbrev s_Table__change : Stmt := inClass (topS 36) 8
abbrev N_Table__change : List Str := ["self", "rows", "version", "step", "row_id", "values"]
theorem sc_Table__change : FnScope N_Table__change ["self", "rows"] (defScope s_Table__change) := ⟨rfl, rfl, rfl, by decide +kernel, rfl, by decide +kernel, by decide +kernel⟩
abbrev s_Table_put_row : Stmt := inClass (topS 36) 4
abbrev N_Table_put_row : List Str := ["self", "row_id", "values", "row"]
theorem sc_Table_put_row : FnScope N_Table_put_row ["self", "row_id", "values"] (defScope s_Table_put_row) := ⟨rfl, rfl, rfl, by decide +kernel, rfl, by decide +kernel, by decide +kernel⟩
abbrev s_Listing_drop_key : Stmt := inClass (topS 32) 3
abbrev N_Listing_drop_key : List Str := ["self", "key", "place", "rank"]
theorem sc_Listing_drop_key : FnScope N_Listing_drop_key ["self", "key"] (defScope s_Listing_drop_key) := ⟨rfl, rfl, rfl, by decide +kernel, rfl, by decide +kernel, by decide +kernel⟩
abbrev s_Listing_key_at : Stmt := inClass (topS 32) 6
abbrev N_Listing_key_at : List Str := ["self", "place"]
theorem sc_Listing_key_at : FnScope N_Listing_key_at ["self", "place"] (defScope s_Listing_key_at) := ⟨rfl, rfl, rfl, by decide +kernel, rfl, by decide +kernel, by decide +kernel⟩
abbrev s_Listing_rank_of : Stmt := inClass (topS 32) 5
abbrev N_Listing_rank_of : List Str := ["self", "mark", "place", "rank"]
theorem sc_Listing_rank_of : FnScope N_Listing_rank_of ["self", "mark"] (defScope s_Listing_rank_of) := ⟨rfl, rfl, rfl, by decide +kernel, rfl, by decide +kernel, by decide +kernel⟩
abbrev s_Listing__versions_between : Stmt := inClass (topS 32) 9
abbrev N_Listing__versions_between : List Str := ["self", "low", "high"]
theorem sc_Listing__versions_between : FnScope N_Listing__versions_between ["self", "low", "high"] (defScope s_Listing__versions_between) := ⟨rfl, rfl, rfl, by decide +kernel, rfl, by decide +kernel, by decide +kernel⟩
abbrev s_Listing_count_between : Stmt := inClass (topS 32) 7
abbrev N_Listing_count_between : List Str := ["self", "low", "high"]
theorem sc_Listing_count_between : FnScope N_Listing_count_between ["self", "low", "high"] (defScope s_Listing_count_between) := ⟨rfl, rfl, rfl, by decide +kernel, rfl, by decide +kernel, by decide +kernel⟩
abbrev s_Listing_unchanged_between : Stmt := inClass (topS 32) 8
abbrev N_Listing_unchanged_between : List Str := ["self", "low", "high", "version", "changed"]
theorem sc_Listing_unchanged_between : FnScope N_Listing_unchanged_between ["self", "low", "high", "version"] (defScope s_Listing_unchanged_between) := ⟨rfl, rfl, rfl, by decide +kernel, rfl, by decide +kernel, by decide +kernel⟩
abbrev s_Listing_keys_after : Stmt := inClass (topS 32) 10
abbrev N_Listing_keys_after : List Str := ["self", "mark", "limit", "rank"]
theorem sc_Listing_keys_after : FnScope N_Listing_keys_after ["self", "mark", "limit"] (defScope s_Listing_keys_after) := ⟨rfl, rfl, rfl, by decide +kernel, rfl, by decide +kernel, by decide +kernel⟩
abbrev s_Listing_keys_before : Stmt := inClass (topS 32) 11
abbrev N_Listing_keys_before : List Str := ["self", "mark", "limit", "rank"]
theorem sc_Listing_keys_before : FnScope N_Listing_keys_before ["self", "mark", "limit"] (defScope s_Listing_keys_before) := ⟨rfl, rfl, rfl, by decide +kernel, rfl, by decide +kernel, by decide +kernel⟩
abbrev s_law : Stmt := topS 48
abbrev N_law : List Str := ["script", "tape", "layout", "first", "second", "stock", "spots", "turn", "cells", "lower", "upper", "found", "every", "pair"]
theorem sc_law : FnScope N_law ["script"] (defScope s_law) := ⟨rfl, rfl, rfl, by decide +kernel, rfl, by decide +kernel, by decide +kernel⟩
/-- what the top has left -/
structure Txt (K : PySem.W.Frag) (mg : Str → Option Value) where
  a_is_integer : Addr
  f_is_integer : FuncData
  F_is_integer : Fun K "is_integer" "is_integer" s_is_integer a_is_integer f_is_integer
  b_is_integer : Binds K f_is_integer ["value"] []
  g_is_integer : mg "is_integer" = some (.ref a_is_integer)
  a_is_string : Addr
  f_is_string : FuncData
  F_is_string : Fun K "is_string" "is_string" s_is_string a_is_string f_is_string
  b_is_string : Binds K f_is_string ["value"] []
  g_is_string : mg "is_string" = some (.ref a_is_string)
  a_is_value : Addr
  f_is_value : FuncData
  F_is_value : Fun K "is_value" "is_value" s_is_value a_is_value f_is_value
  b_is_value : Binds K f_is_value ["value"] []
  g_is_value : mg "is_value" = some (.ref a_is_value)
  a_kind_place : Addr
  f_kind_place : FuncData
  F_kind_place : Fun K "kind_place" "kind_place" s_kind_place a_kind_place f_kind_place
  b_kind_place : Binds K f_kind_place ["value"] []
  g_kind_place : mg "kind_place" = some (.ref a_kind_place)
  a_compare_values : Addr
  f_compare_values : FuncData
  F_compare_values : Fun K "compare_values" "compare_values" s_compare_values a_compare_values f_compare_values
  b_compare_values : Binds K f_compare_values ["first", "second"] []
  g_compare_values : mg "compare_values" = some (.ref a_compare_values)
  a_is_name : Addr
  f_is_name : FuncData
  F_is_name : Fun K "is_name" "is_name" s_is_name a_is_name f_is_name
  b_is_name : Binds K f_is_name ["value"] []
  g_is_name : mg "is_name" = some (.ref a_is_name)
  a_is_column_name : Addr
  f_is_column_name : FuncData
  F_is_column_name : Fun K "is_column_name" "is_column_name" s_is_column_name a_is_column_name f_is_column_name
  b_is_column_name : Binds K f_is_column_name ["value"] []
  g_is_column_name : mg "is_column_name" = some (.ref a_is_column_name)
  a_is_columns : Addr
  f_is_columns : FuncData
  F_is_columns : Fun K "is_columns" "is_columns" s_is_columns a_is_columns f_is_columns
  b_is_columns : Binds K f_is_columns ["value"] []
  g_is_columns : mg "is_columns" = some (.ref a_is_columns)
  a_is_row_id : Addr
  f_is_row_id : FuncData
  F_is_row_id : Fun K "is_row_id" "is_row_id" s_is_row_id a_is_row_id f_is_row_id
  b_is_row_id : Binds K f_is_row_id ["value"] []
  g_is_row_id : mg "is_row_id" = some (.ref a_is_row_id)
  a_is_row : Addr
  f_is_row : FuncData
  F_is_row : Fun K "is_row" "is_row" s_is_row a_is_row f_is_row
  b_is_row : Binds K f_is_row ["columns", "value"] []
  g_is_row : mg "is_row" = some (.ref a_is_row)
  a_passes : Addr
  f_passes : FuncData
  F_passes : Fun K "passes" "passes" s_passes a_passes f_passes
  b_passes : Binds K f_passes ["kind", "value", "operand"] []
  g_passes : mg "passes" = some (.ref a_passes)
  a_matches : Addr
  f_matches : FuncData
  F_matches : Fun K "matches" "matches" s_matches a_matches f_matches
  b_matches : Binds K f_matches ["condition", "values"] []
  g_matches : mg "matches" = some (.ref a_matches)
  a_key_of : Addr
  f_key_of : FuncData
  F_key_of : Fun K "key_of" "key_of" s_key_of a_key_of f_key_of
  b_key_of : Binds K f_key_of ["view", "row_id", "values"] []
  g_key_of : mg "key_of" = some (.ref a_key_of)
  a_value_place : Addr
  f_value_place : FuncData
  F_value_place : Fun K "value_place" "value_place" s_value_place a_value_place f_value_place
  b_value_place : Binds K f_value_place ["value", "descending"] []
  g_value_place : mg "value_place" = some (.ref a_value_place)
  a_key_place : Addr
  f_key_place : FuncData
  F_key_place : Fun K "key_place" "key_place" s_key_place a_key_place f_key_place
  b_key_place : Binds K f_key_place ["view", "key"] []
  g_key_place : mg "key_place" = some (.ref a_key_place)
  a_first_from : Addr
  f_first_from : FuncData
  F_first_from : Fun K "first_from" "first_from" s_first_from a_first_from f_first_from
  b_first_from : Binds K f_first_from ["places", "place"] []
  g_first_from : mg "first_from" = some (.ref a_first_from)
  a_Table__check_known : Addr
  f_Table__check_known : FuncData
  F_Table__check_known : Fun K "_check_known" "Table._check_known" s_Table__check_known a_Table__check_known f_Table__check_known
  b_Table__check_known : Binds K f_Table__check_known ["self", "version"] []
  a_take_step : Addr
  f_take_step : FuncData
  F_take_step : Fun K "take_step" "take_step" s_take_step a_take_step f_take_step
  b_take_step : Binds K f_take_step ["states", "step"] []
  g_take_step : mg "take_step" = some (.ref a_take_step)
  a_Table__states_at : Addr
  f_Table__states_at : FuncData
  F_Table__states_at : Fun K "_states_at" "Table._states_at" s_Table__states_at a_Table__states_at f_Table__states_at
  b_Table__states_at : Binds K f_Table__states_at ["self", "version"] []
  a_Table_rows_at : Addr
  f_Table_rows_at : FuncData
  F_Table_rows_at : Fun K "rows_at" "Table.rows_at" s_Table_rows_at a_Table_rows_at f_Table_rows_at
  b_Table_rows_at : Binds K f_Table_rows_at ["self", "version"] []
  a_Table_changes_at : Addr
  f_Table_changes_at : FuncData
  F_Table_changes_at : Fun K "changes_at" "Table.changes_at" s_Table_changes_at a_Table_changes_at f_Table_changes_at
  b_Table_changes_at : Binds K f_Table_changes_at ["self", "version"] []
  a_Listing___init__ : Addr
  f_Listing___init__ : FuncData
  F_Listing___init__ : Fun K "__init__" "Listing.__init__" s_Listing___init__ a_Listing___init__ f_Listing___init__
  b_Listing___init__ : Binds K f_Listing___init__ ["self", "view"] []
  a_Listing__holds : Addr
  f_Listing__holds : FuncData
  F_Listing__holds : Fun K "_holds" "Listing._holds" s_Listing__holds a_Listing__holds f_Listing__holds
  b_Listing__holds : Binds K f_Listing__holds ["self", "rank", "place"] []
  a_Listing_add_key : Addr
  f_Listing_add_key : FuncData
  F_Listing_add_key : Fun K "add_key" "Listing.add_key" s_Listing_add_key a_Listing_add_key f_Listing_add_key
  b_Listing_add_key : Binds K f_Listing_add_key ["self", "key", "changed"] []
  a_listing_of : Addr
  f_listing_of : FuncData
  F_listing_of : Fun K "listing_of" "listing_of" s_listing_of a_listing_of f_listing_of
  b_listing_of : Binds K f_listing_of ["table", "view", "version"] []
  g_listing_of : mg "listing_of" = some (.ref a_listing_of)
  a_values_of : Addr
  f_values_of : FuncData
  F_values_of : Fun K "values_of" "values_of" s_values_of a_values_of f_values_of
  b_values_of : Binds K f_values_of ["state"] []
  g_values_of : mg "values_of" = some (.ref a_values_of)
  a__law_tape : Addr
  f__law_tape : FuncData
  F__law_tape : Fun K "_law_tape" "_law_tape" s__law_tape a__law_tape f__law_tape
  b__law_tape : Binds K f__law_tape ["script", "start"] []
  g__law_tape : mg "_law_tape" = some (.ref a__law_tape)
  a__law_pick : Addr
  f__law_pick : FuncData
  F__law_pick : Fun K "_law_pick" "_law_pick" s__law_pick a__law_pick f__law_pick
  b__law_pick : Binds K f__law_pick ["tape", "size"] []
  g__law_pick : mg "_law_pick" = some (.ref a__law_pick)
  a__law_one_of : Addr
  f__law_one_of : FuncData
  F__law_one_of : Fun K "_law_one_of" "_law_one_of" s__law_one_of a__law_one_of f__law_one_of
  b__law_one_of : Binds K f__law_one_of ["tape", "items"] []
  g__law_one_of : mg "_law_one_of" = some (.ref a__law_one_of)
  a__law_value : Addr
  f__law_value : FuncData
  F__law_value : Fun K "_law_value" "_law_value" s__law_value a__law_value f__law_value
  b__law_value : Binds K f__law_value ["tape"] []
  g__law_value : mg "_law_value" = some (.ref a__law_value)
  a__law_values : Addr
  f__law_values : FuncData
  F__law_values : Fun K "_law_values" "_law_values" s__law_values a__law_values f__law_values
  b__law_values : Binds K f__law_values ["tape", "width"] []
  g__law_values : mg "_law_values" = some (.ref a__law_values)
  a__law_test : Addr
  f__law_test : FuncData
  F__law_test : Fun K "_law_test" "_law_test" s__law_test a__law_test f__law_test
  b__law_test : Binds K f__law_test ["tape", "width"] []
  g__law_test : mg "_law_test" = some (.ref a__law_test)
  a__law_condition : Addr
  f__law_condition : FuncData
  F__law_condition : Fun K "_law_condition" "_law_condition" s__law_condition a__law_condition f__law_condition
  b__law_condition : Binds K f__law_condition ["tape", "width", "depth"] []
  g__law_condition : mg "_law_condition" = some (.ref a__law_condition)
  a__law_view : Addr
  f__law_view : FuncData
  F__law_view : Fun K "_law_view" "_law_view" s__law_view a__law_view f__law_view
  b__law_view : Binds K f__law_view ["tape", "width"] []
  g__law_view : mg "_law_view" = some (.ref a__law_view)
  a_Table___init__ : Addr
  f_Table___init__ : FuncData
  F_Table___init__ : Fun K "__init__" "Table.__init__" s_Table___init__ a_Table___init__ f_Table___init__
  b_Table___init__ : Binds K f_Table___init__ ["self", "columns"] []
  a_Table__change : Addr
  f_Table__change : FuncData
  F_Table__change : Fun K "_change" "Table._change" s_Table__change a_Table__change f_Table__change
  b_Table__change : Binds K f_Table__change ["self", "rows"] []
  a_Table_put_row : Addr
  f_Table_put_row : FuncData
  F_Table_put_row : Fun K "put_row" "Table.put_row" s_Table_put_row a_Table_put_row f_Table_put_row
  b_Table_put_row : Binds K f_Table_put_row ["self", "row_id", "values"] []
  a_Listing_drop_key : Addr
  f_Listing_drop_key : FuncData
  F_Listing_drop_key : Fun K "drop_key" "Listing.drop_key" s_Listing_drop_key a_Listing_drop_key f_Listing_drop_key
  b_Listing_drop_key : Binds K f_Listing_drop_key ["self", "key"] []
  a_Listing_key_at : Addr
  f_Listing_key_at : FuncData
  F_Listing_key_at : Fun K "key_at" "Listing.key_at" s_Listing_key_at a_Listing_key_at f_Listing_key_at
  b_Listing_key_at : Binds K f_Listing_key_at ["self", "place"] []
  a_Listing_rank_of : Addr
  f_Listing_rank_of : FuncData
  F_Listing_rank_of : Fun K "rank_of" "Listing.rank_of" s_Listing_rank_of a_Listing_rank_of f_Listing_rank_of
  b_Listing_rank_of : Binds K f_Listing_rank_of ["self", "mark"] []
  a_Listing__versions_between : Addr
  f_Listing__versions_between : FuncData
  F_Listing__versions_between : Fun K "_versions_between" "Listing._versions_between" s_Listing__versions_between a_Listing__versions_between f_Listing__versions_between
  b_Listing__versions_between : Binds K f_Listing__versions_between ["self", "low", "high"] []
  a_Listing_count_between : Addr
  f_Listing_count_between : FuncData
  F_Listing_count_between : Fun K "count_between" "Listing.count_between" s_Listing_count_between a_Listing_count_between f_Listing_count_between
  b_Listing_count_between : Binds K f_Listing_count_between ["self", "low", "high"] []
  a_Listing_unchanged_between : Addr
  f_Listing_unchanged_between : FuncData
  F_Listing_unchanged_between : Fun K "unchanged_between" "Listing.unchanged_between" s_Listing_unchanged_between a_Listing_unchanged_between f_Listing_unchanged_between
  b_Listing_unchanged_between : Binds K f_Listing_unchanged_between ["self", "low", "high", "version"] []
  a_Listing_keys_after : Addr
  f_Listing_keys_after : FuncData
  F_Listing_keys_after : Fun K "keys_after" "Listing.keys_after" s_Listing_keys_after a_Listing_keys_after f_Listing_keys_after
  b_Listing_keys_after : Binds K f_Listing_keys_after ["self", "mark", "limit"] []
  a_Listing_keys_before : Addr
  f_Listing_keys_before : FuncData
  F_Listing_keys_before : Fun K "keys_before" "Listing.keys_before" s_Listing_keys_before a_Listing_keys_before f_Listing_keys_before
  b_Listing_keys_before : Binds K f_Listing_keys_before ["self", "mark", "limit"] []
  a_law : Addr
  f_law : FuncData
  F_law : Fun K "law" "law" s_law a_law f_law
  b_law : Binds K f_law ["script"] []
  g_law : mg "law" = some (.ref a_law)
  C_Listing : Addr
  K_Listing : ClsAt K "Listing" C_Listing
  g_Listing : mg "Listing" = some (.ref C_Listing)
  na_Listing__keys : NoAttr K C_Listing "_keys"
  na_Listing__places : NoAttr K C_Listing "_places"
  na_Listing__versions : NoAttr K C_Listing "_versions"
  na_Listing__view : NoAttr K C_Listing "_view"
  M_Listing__holds : Meth K C_Listing "_holds" a_Listing__holds
  M_Listing__versions_between : Meth K C_Listing "_versions_between" a_Listing__versions_between
  M_Listing_add_key : Meth K C_Listing "add_key" a_Listing_add_key
  M_Listing_count_between : Meth K C_Listing "count_between" a_Listing_count_between
  M_Listing_drop_key : Meth K C_Listing "drop_key" a_Listing_drop_key
  M_Listing_key_at : Meth K C_Listing "key_at" a_Listing_key_at
  M_Listing_keys_after : Meth K C_Listing "keys_after" a_Listing_keys_after
  M_Listing_keys_before : Meth K C_Listing "keys_before" a_Listing_keys_before
  M_Listing_rank_of : Meth K C_Listing "rank_of" a_Listing_rank_of
  M_Listing_unchanged_between : Meth K C_Listing "unchanged_between" a_Listing_unchanged_between
  mk_Listing : Mk K C_Listing a_Listing___init__
  C_Table : Addr
  K_Table : ClsAt K "Table" C_Table
  g_Table : mg "Table" = some (.ref C_Table)
  na_Table__columns : NoAttr K C_Table "_columns"
  na_Table__present : NoAttr K C_Table "_present"
  na_Table__states : NoAttr K C_Table "_states"
  na_Table__steps : NoAttr K C_Table "_steps"
  M_Table__change : Meth K C_Table "_change" a_Table__change
  M_Table__check_known : Meth K C_Table "_check_known" a_Table__check_known
  M_Table__states_at : Meth K C_Table "_states_at" a_Table__states_at
  M_Table_changes_at : Meth K C_Table "changes_at" a_Table_changes_at
  M_Table_put_row : Meth K C_Table "put_row" a_Table_put_row
  M_Table_rows_at : Meth K C_Table "rows_at" a_Table_rows_at
  mk_Table : Mk K C_Table a_Table___init__
  n_all : mg "all" = none
  n_bool : mg "bool" = none
  n_int : mg "int" = none
  n_isinstance : mg "isinstance" = none
  n_len : mg "len" = none
  n_list : mg "list" = none
  n_max : mg "max" = none
  n_ord : mg "ord" = none
  n_range : mg "range" = none
  n_repr : mg "repr" = none
  n_set : mg "set" = none
  n_sorted : mg "sorted" = none
  n_str : mg "str" = none
  n_tuple : mg "tuple" = none
  n_zip : mg "zip" = none
  a_BARRED_NAMES : Addr
  o_BARRED_NAMES : Obj
  i_BARRED_NAMES : Array Value
  z_BARRED_NAMES : Nat
  c_BARRED_NAMES : mg "BARRED_NAMES" = some (.ref a_BARRED_NAMES)
  l_BARRED_NAMES : K.lookup a_BARRED_NAMES = some o_BARRED_NAMES
  h_BARRED_NAMES : o_BARRED_NAMES.cls = .type "tuple"
  x_BARRED_NAMES : o_BARRED_NAMES.dict = none
  d_BARRED_NAMES : o_BARRED_NAMES.data = .seq i_BARRED_NAMES z_BARRED_NAMES
  y_BARRED_NAMES : i_BARRED_NAMES.size ≤ sizeLine
  v_BARRED_NAMES : Vals (([Str.ofString "all", Str.ofString "and", Str.ofString "in", Str.ofString "none", Str.ofString "not", Str.ofString "or", Str.ofString "starts"] : List Str).map V.str) i_BARRED_NAMES.toList
  t_GREATEST_ID : Tok
  c_GREATEST_ID : mg "GREATEST_ID" = some (.int 1000000 t_GREATEST_ID)
  t_GREATEST_INTEGER : Tok
  c_GREATEST_INTEGER : mg "GREATEST_INTEGER" = some (.int 1000000000 t_GREATEST_INTEGER)
  t_LONGEST_NAME : Tok
  c_LONGEST_NAME : mg "LONGEST_NAME" = some (.int 8 t_LONGEST_NAME)
  t_LONGEST_STRING : Tok
  c_LONGEST_STRING : mg "LONGEST_STRING" = some (.int 20 t_LONGEST_STRING)
  t_MOST_COLUMNS : Tok
  c_MOST_COLUMNS : mg "MOST_COLUMNS" = some (.int 6 t_MOST_COLUMNS)
variable {P : Program} {w : World} {K : PySem.W.Frag} {mg : Str → Option Value} {base : Heap}
noncomputable abbrev q_is_integer_0 : FS := (sRet (fAnd (fIsi "int" (fVar 0)) (fNot (fIsi "bool" (fVar 0)))))
noncomputable def g_is_integer : FS := q_is_integer_0
noncomputable def m_is_integer : FM := mOf N_is_integer.length g_is_integer
theorem d_is_integer (T : Txt K mg) : FnD P w K mg base 1 T.a_is_integer T.f_is_integer ["value"] m_is_integer := FnD.of T.F_is_integer sc_is_integer fun cd A outer s H gx => (ds_one (ds_ret (de_and (de_isi (T := "int") (de_var 0) (by decide) (by rfl) T.n_isinstance (by rfl) T.n_int (by decide +kernel)) (de_one (de_not (de_isi (T := "bool") (de_var 0) (by decide) (by rfl) T.n_isinstance (by rfl) T.n_bool (by decide +kernel)))))))
noncomputable abbrev q_is_string_0t_0 : FS := (sRet (fC (.bl false)))
noncomputable abbrev q_is_string_0 : FS := (sIf (fOrT (fNotT (fTest (fIsi "str" (fVar 0)))) (fTest (fOp opGt (fMk bLen (aCons (fVar 0) aNil)) (fC (.int 20))))) q_is_string_0t_0 sNil)
noncomputable abbrev q_is_string_1 : FS := (sRet (fMk bAll (aCons (fComp (iOf asStr (fVar 0)) [1] b1 tTrue (fChain opLe opLe (fC (.str (Str.ofString " "))) (fVar 1) (fC (.str (Str.ofString "~"))))) aNil)))
noncomputable def g_is_string : FS := (sSeq q_is_string_0 q_is_string_1)
noncomputable def m_is_string : FM := mOf N_is_string.length g_is_string
theorem d_is_string (T : Txt K mg) : FnD P w K mg base 1 T.a_is_string T.f_is_string ["value"] m_is_string := FnD.of T.F_is_string sc_is_string fun cd A outer s H gx => (ds_cons (ds_if (dt_w (dw_or (dt_not (dt_val (de_isi (T := "str") (de_var 0) (by decide) (by rfl) T.n_isinstance (by rfl) T.n_str (by decide +kernel)))) (dw_or1 (dt_cmp ok_gt (de_callB (id := "len") ok_len (by rfl) T.n_len (by decide +kernel) (da_cons (de_var 0) da_nil)) (de_gint (by rfl) T.c_LONGEST_STRING))))) (ds_one (ds_ret de_bl)) ds_nil) (ds_one (ds_ret (de_callB (id := "all") (ok_all gx) (by rfl) T.n_all (by decide +kernel) (da_cons (de_lc (own := [("sign", 1)]) gx.calm gx.nd (di_str (de_var 0)) (blkOk_by (N := N_is_string) (sc := defScope s_is_string) (by decide +kernel)) (tg1 1) (fun _ _ _ _ _ => (pg_name (i := 1) gx.nd rfl (.inl rfl))) (fun _ _ _ _ _ => dts_nil) (fun _ _ _ _ _ => (de_chain ok_le ok_le de_str (de_var 1) de_str))) da_nil)))))
noncomputable abbrev q_is_value_0t_0 : FS := (sRet (fChain opLe opLe (fUn negI (fC (.int 1000000000))) (fVar 0) (fC (.int 1000000000))))
noncomputable abbrev q_is_value_0 : FS := (sIf (fTest (fCall m_is_integer (aCons (fVar 0) aNil))) q_is_value_0t_0 sNil)
noncomputable abbrev q_is_value_1 : FS := (sRet (fOr (fOp opIs (fVar 0) (fC .non)) (fCall m_is_string (aCons (fVar 0) aNil))))
noncomputable def g_is_value : FS := (sSeq q_is_value_0 q_is_value_1)
noncomputable def m_is_value : FM := mOf N_is_value.length g_is_value
theorem d_is_value (T : Txt K mg) : FnD P w K mg base 2 T.a_is_value T.f_is_value ["value"] m_is_value := FnD.of T.F_is_value sc_is_value fun cd A outer s H gx => (ds_cons (ds_if (dt_val (de_call ((d_is_integer T).up (by decide)) gx (by rfl) T.g_is_integer T.F_is_integer.kp T.b_is_integer (da_cons (de_var 0) da_nil) (hn := (aCons_n aNil_n)))) (ds_one (ds_ret (de_chain ok_le ok_le (de_neg (de_gint (by rfl) T.c_GREATEST_INTEGER)) (de_var 0) (de_gint (by rfl) T.c_GREATEST_INTEGER)))) ds_nil) (ds_one (ds_ret (de_or (de_cmp ok_is (de_var 0) de_non) (de_one (de_call ((d_is_string T).up (by decide)) gx (by rfl) T.g_is_string T.F_is_string.kp T.b_is_string (da_cons (de_var 0) da_nil) (hn := (aCons_n aNil_n))))))))
noncomputable abbrev q_kind_place_0t_0 : FS := (sRet (fC (.int 0)))
noncomputable abbrev q_kind_place_0 : FS := (sIf (fTest (fOp opIs (fVar 0) (fC .non))) q_kind_place_0t_0 sNil)
noncomputable abbrev q_kind_place_1t_0 : FS := (sRet (fC (.int 2)))
noncomputable abbrev q_kind_place_1 : FS := (sIf (fTest (fIsi "str" (fVar 0))) q_kind_place_1t_0 sNil)
noncomputable abbrev q_kind_place_2 : FS := (sRet (fC (.int 1)))
noncomputable def g_kind_place : FS := (sSeq q_kind_place_0 (sSeq q_kind_place_1 q_kind_place_2))
noncomputable def m_kind_place : FM := mOf N_kind_place.length g_kind_place
theorem d_kind_place (T : Txt K mg) : FnD P w K mg base 1 T.a_kind_place T.f_kind_place ["value"] m_kind_place := FnD.of T.F_kind_place sc_kind_place fun cd A outer s H gx => (ds_cons (ds_if (dt_cmp ok_is (de_var 0) de_non) (ds_one (ds_ret de_int)) ds_nil) (ds_cons (ds_if (dt_val (de_isi (T := "str") (de_var 0) (by decide) (by rfl) T.n_isinstance (by rfl) T.n_str (by decide +kernel))) (ds_one (ds_ret de_int)) ds_nil) (ds_one (ds_ret de_int))))
noncomputable abbrev q_compare_values_0t_0 : FS := (sRet (fC (.int 0)))
noncomputable abbrev q_compare_values_0 : FS := (sIf (fTest (fOp opEq (fVar 0) (fVar 1))) q_compare_values_0t_0 sNil)
noncomputable abbrev q_compare_values_1 : FS := (sAsg (fCall m_kind_place (aCons (fVar 0) aNil)) (gN 2))
noncomputable abbrev q_compare_values_2 : FS := (sAsg (fCall m_kind_place (aCons (fVar 1) aNil)) (gN 3))
noncomputable abbrev q_compare_values_3t_0 : FS := (sRet (fIfE (fTest (fOp opLt (fVar 0) (fVar 1))) (fUn negI (fC (.int 1))) (fC (.int 1))))
noncomputable abbrev q_compare_values_3 : FS := (sIf (fTest (fOp opEq (fVar 2) (fVar 3))) q_compare_values_3t_0 sNil)
noncomputable abbrev q_compare_values_4 : FS := (sRet (fIfE (fTest (fOp opLt (fVar 2) (fVar 3))) (fUn negI (fC (.int 1))) (fC (.int 1))))
noncomputable def g_compare_values : FS := (sSeq q_compare_values_0 (sSeq q_compare_values_1 (sSeq q_compare_values_2 (sSeq q_compare_values_3 q_compare_values_4))))
noncomputable def m_compare_values : FM := mOf N_compare_values.length g_compare_values
theorem d_compare_values (T : Txt K mg) : FnD P w K mg base 2 T.a_compare_values T.f_compare_values ["first", "second"] m_compare_values := FnD.of T.F_compare_values sc_compare_values fun cd A outer s H gx => (ds_cons (ds_if (dt_cmp (ok_eq gx) (de_var 0) (de_var 1)) (ds_one (ds_ret de_int)) ds_nil) (ds_cons (ds_asg (de_call ((d_kind_place T).up (by decide)) gx (by rfl) T.g_kind_place T.F_kind_place.kp T.b_kind_place (da_cons (de_var 0) da_nil) (hn := (aCons_n aNil_n))) (dg_name 2 gx.nd)) (ds_cons (ds_asg (de_call ((d_kind_place T).up (by decide)) gx (by rfl) T.g_kind_place T.F_kind_place.kp T.b_kind_place (da_cons (de_var 1) da_nil) (hn := (aCons_n aNil_n))) (dg_name 3 gx.nd)) (ds_cons (ds_if (dt_cmp (ok_eq gx) (de_var 2) (de_var 3)) (ds_one (ds_ret (de_if (dt_cmp ok_lt (de_var 0) (de_var 1)) (de_neg de_int) de_int))) ds_nil) (ds_one (ds_ret (de_if (dt_cmp ok_lt (de_var 2) (de_var 3)) (de_neg de_int) de_int)))))))
noncomputable abbrev q_is_name_0t_0 : FS := (sRet (fC (.bl false)))
noncomputable abbrev q_is_name_0 : FS := (sIf (fOrT (fNotT (fTest (fIsi "str" (fVar 0)))) (fNotT (fTest (fChain opLe opLe (fC (.int 1)) (fMk bLen (aCons (fVar 0) aNil)) (fC (.int 8)))))) q_is_name_0t_0 sNil)
noncomputable abbrev q_is_name_1 : FS := (sRet (fMk bAll (aCons (fComp (iOf asStr (fVar 0)) [1] b1 tTrue (fChain opLe opLe (fC (.str (Str.ofString "a"))) (fVar 1) (fC (.str (Str.ofString "z"))))) aNil)))
noncomputable def g_is_name : FS := (sSeq q_is_name_0 q_is_name_1)
noncomputable def m_is_name : FM := mOf N_is_name.length g_is_name
theorem d_is_name (T : Txt K mg) : FnD P w K mg base 1 T.a_is_name T.f_is_name ["value"] m_is_name := FnD.of T.F_is_name sc_is_name fun cd A outer s H gx => (ds_cons (ds_if (dt_w (dw_or (dt_not (dt_val (de_isi (T := "str") (de_var 0) (by decide) (by rfl) T.n_isinstance (by rfl) T.n_str (by decide +kernel)))) (dw_or1 (dt_not (dt_chain ok_le ok_le de_int (de_callB (id := "len") ok_len (by rfl) T.n_len (by decide +kernel) (da_cons (de_var 0) da_nil)) (de_gint (by rfl) T.c_LONGEST_NAME)))))) (ds_one (ds_ret de_bl)) ds_nil) (ds_one (ds_ret (de_callB (id := "all") (ok_all gx) (by rfl) T.n_all (by decide +kernel) (da_cons (de_lc (own := [("sign", 1)]) gx.calm gx.nd (di_str (de_var 0)) (blkOk_by (N := N_is_name) (sc := defScope s_is_name) (by decide +kernel)) (tg1 1) (fun _ _ _ _ _ => (pg_name (i := 1) gx.nd rfl (.inl rfl))) (fun _ _ _ _ _ => dts_nil) (fun _ _ _ _ _ => (de_chain ok_le ok_le de_str (de_var 1) de_str))) da_nil)))))
noncomputable abbrev q_is_column_name_0 : FS := (sRet (fAnd (fCall m_is_name (aCons (fVar 0) aNil)) (fOp (inSeq true) (fVar 0) (fC (.tup (([Str.ofString "all", Str.ofString "and", Str.ofString "in", Str.ofString "none", Str.ofString "not", Str.ofString "or", Str.ofString "starts"] : List Str).map .str))))))
noncomputable def g_is_column_name : FS := q_is_column_name_0
noncomputable def m_is_column_name : FM := mOf N_is_column_name.length g_is_column_name
theorem d_is_column_name (T : Txt K mg) : FnD P w K mg base 2 T.a_is_column_name T.f_is_column_name ["value"] m_is_column_name := FnD.of T.F_is_column_name sc_is_column_name fun cd A outer s H gx => (ds_one (ds_ret (de_and (de_call ((d_is_name T).up (by decide)) gx (by rfl) T.g_is_name T.F_is_name.kp T.b_is_name (da_cons (de_var 0) da_nil) (hn := (aCons_n aNil_n))) (de_one (de_cmp ok_notin (de_var 0) (de_gtupS (by rfl) T.c_BARRED_NAMES T.l_BARRED_NAMES T.h_BARRED_NAMES T.x_BARRED_NAMES T.d_BARRED_NAMES T.y_BARRED_NAMES T.v_BARRED_NAMES))))))
noncomputable abbrev q_is_columns_0t_0 : FS := (sRet (fC (.bl false)))
noncomputable abbrev q_is_columns_0 : FS := (sIf (fOrT (fNotT (fTest (fIsi "tuple" (fVar 0)))) (fNotT (fTest (fChain opLe opLe (fC (.int 1)) (fMk bLen (aCons (fVar 0) aNil)) (fC (.int 6)))))) q_is_columns_0t_0 sNil)
noncomputable abbrev q_is_columns_1t_0 : FS := (sRet (fC (.bl false)))
noncomputable abbrev q_is_columns_1 : FS := (sIf (fNotT (fTest (fMk bAll (aCons (fComp (iOf asT (fVar 0)) [1] b1 tTrue (fCall m_is_column_name (aCons (fVar 1) aNil))) aNil)))) q_is_columns_1t_0 sNil)
noncomputable abbrev q_is_columns_2 : FS := (sRet (fOp opEq (fLenSt (fVar 0)) (fMk bLen (aCons (fVar 0) aNil))))
noncomputable def g_is_columns : FS := (sSeq q_is_columns_0 (sSeq q_is_columns_1 q_is_columns_2))
noncomputable def m_is_columns : FM := mOf N_is_columns.length g_is_columns
theorem d_is_columns (T : Txt K mg) : FnD P w K mg base 3 T.a_is_columns T.f_is_columns ["value"] m_is_columns := FnD.of T.F_is_columns sc_is_columns fun cd A outer s H gx => (ds_cons (ds_if (dt_w (dw_or (dt_not (dt_val (de_isi (T := "tuple") (de_var 0) (by decide) (by rfl) T.n_isinstance (by rfl) T.n_tuple (by decide +kernel)))) (dw_or1 (dt_not (dt_chain ok_le ok_le de_int (de_callB (id := "len") ok_len (by rfl) T.n_len (by decide +kernel) (da_cons (de_var 0) da_nil)) (de_gint (by rfl) T.c_MOST_COLUMNS)))))) (ds_one (ds_ret de_bl)) ds_nil) (ds_cons (ds_if (dt_not (dt_val (de_callB (id := "all") (ok_all gx) (by rfl) T.n_all (by decide +kernel) (da_cons (de_lc (own := [("name", 1)]) gx.calm gx.nd (di_tup (de_var 0)) (blkOk_by (N := N_is_columns) (sc := defScope s_is_columns) (by decide +kernel)) (tg1 1) (fun _ _ _ _ _ => (pg_name (i := 1) gx.nd rfl (.inl rfl))) (fun _ _ _ _ _ => dts_nil) (fun _ _ _ _ _ => (de_call ((d_is_column_name T).up (by decide)) gx.blk (by rfl) T.g_is_column_name T.F_is_column_name.kp T.b_is_column_name (da_cons (de_var 1) da_nil) (hn := (aCons_n aNil_n))))) da_nil)))) (ds_one (ds_ret de_bl)) ds_nil) (ds_one (ds_ret (de_cmp (ok_eq gx) (de_lenSt gx.calm (de_var 0) (by rfl) T.n_len (by rfl) T.n_set) (de_callB (id := "len") ok_len (by rfl) T.n_len (by decide +kernel) (da_cons (de_var 0) da_nil)))))))
noncomputable abbrev q_is_row_id_0 : FS := (sRet (fAnd (fCall m_is_integer (aCons (fVar 0) aNil)) (fChain opLe opLe (fC (.int 1)) (fVar 0) (fC (.int 1000000)))))
noncomputable def g_is_row_id : FS := q_is_row_id_0
noncomputable def m_is_row_id : FM := mOf N_is_row_id.length g_is_row_id
theorem d_is_row_id (T : Txt K mg) : FnD P w K mg base 2 T.a_is_row_id T.f_is_row_id ["value"] m_is_row_id := FnD.of T.F_is_row_id sc_is_row_id fun cd A outer s H gx => (ds_one (ds_ret (de_and (de_call ((d_is_integer T).up (by decide)) gx (by rfl) T.g_is_integer T.F_is_integer.kp T.b_is_integer (da_cons (de_var 0) da_nil) (hn := (aCons_n aNil_n))) (de_one (de_chain ok_le ok_le de_int (de_var 0) (de_gint (by rfl) T.c_GREATEST_ID))))))
noncomputable abbrev q_is_row_0t_0 : FS := (sRet (fC (.bl false)))
noncomputable abbrev q_is_row_0 : FS := (sIf (fOrT (fNotT (fTest (fIsi "tuple" (fVar 1)))) (fTest (fOp opNe (fMk bLen (aCons (fVar 1) aNil)) (fC (.int 2))))) q_is_row_0t_0 sNil)
noncomputable abbrev q_is_row_1 : FS := (sAsg (fVar 1) (gT 2 (gCons' (gN 2) (gCons' (gN 3) gNil'))))
noncomputable abbrev q_is_row_2t_0 : FS := (sRet (fC (.bl false)))
noncomputable abbrev q_is_row_2 : FS := (sIf (fOrT (fNotT (fTest (fCall m_is_row_id (aCons (fVar 2) aNil)))) (fNotT (fTest (fIsi "tuple" (fVar 3))))) q_is_row_2t_0 sNil)
noncomputable abbrev q_is_row_3 : FS := (sRet (fAnd (fOp opEq (fMk bLen (aCons (fVar 3) aNil)) (fMk bLen (aCons (fVar 0) aNil))) (fMk bAll (aCons (fComp (iOf asT (fVar 3)) [4] b1 tTrue (fCall m_is_value (aCons (fVar 4) aNil))) aNil))))
noncomputable def g_is_row : FS := (sSeq q_is_row_0 (sSeq q_is_row_1 (sSeq q_is_row_2 q_is_row_3)))
noncomputable def m_is_row : FM := mOf N_is_row.length g_is_row
theorem d_is_row (T : Txt K mg) : FnD P w K mg base 3 T.a_is_row T.f_is_row ["columns", "value"] m_is_row := FnD.of T.F_is_row sc_is_row fun cd A outer s H gx => (ds_cons (ds_if (dt_w (dw_or (dt_not (dt_val (de_isi (T := "tuple") (de_var 1) (by decide) (by rfl) T.n_isinstance (by rfl) T.n_tuple (by decide +kernel)))) (dw_or1 (dt_cmp (ok_ne gx) (de_callB (id := "len") ok_len (by rfl) T.n_len (by decide +kernel) (da_cons (de_var 1) da_nil)) de_int)))) (ds_one (ds_ret de_bl)) ds_nil) (ds_cons (ds_asg (de_var 1) (dg_tup gx.calm (dgs_cons (dg_name 2 gx.nd) (dgs_cons (dg_name 3 gx.nd) dgs_nil)))) (ds_cons (ds_if (dt_w (dw_or (dt_not (dt_val (de_call ((d_is_row_id T).up (by decide)) gx (by rfl) T.g_is_row_id T.F_is_row_id.kp T.b_is_row_id (da_cons (de_var 2) da_nil) (hn := (aCons_n aNil_n))))) (dw_or1 (dt_not (dt_val (de_isi (T := "tuple") (de_var 3) (by decide) (by rfl) T.n_isinstance (by rfl) T.n_tuple (by decide +kernel))))))) (ds_one (ds_ret de_bl)) ds_nil) (ds_one (ds_ret (de_and (de_cmp (ok_eq gx) (de_callB (id := "len") ok_len (by rfl) T.n_len (by decide +kernel) (da_cons (de_var 3) da_nil)) (de_callB (id := "len") ok_len (by rfl) T.n_len (by decide +kernel) (da_cons (de_var 0) da_nil))) (de_one (de_callB (id := "all") (ok_all gx) (by rfl) T.n_all (by decide +kernel) (da_cons (de_lc (own := [("item", 4)]) gx.calm gx.nd (di_tup (de_var 3)) (blkOk_by (N := N_is_row) (sc := defScope s_is_row) (by decide +kernel)) (tg1 4) (fun _ _ _ _ _ => (pg_name (i := 4) gx.nd rfl (.inl rfl))) (fun _ _ _ _ _ => dts_nil) (fun _ _ _ _ _ => (de_call ((d_is_value T).up (by decide)) gx.blk (by rfl) T.g_is_value T.F_is_value.kp T.b_is_value (da_cons (de_var 4) da_nil) (hn := (aCons_n aNil_n))))) da_nil)))))))))
noncomputable abbrev q_passes_0t_0 : FS := (sRet (fOp opEq (fVar 1) (fVar 2)))
noncomputable abbrev q_passes_0 : FS := (sIf (fTest (fOp opEq (fVar 0) (fC (.str (Str.ofString "equal"))))) q_passes_0t_0 sNil)
noncomputable abbrev q_passes_1t_0 : FS := (sRet (fOp opLt (fCall m_compare_values (aCons (fVar 1) (aCons (fVar 2) aNil))) (fC (.int 0))))
noncomputable abbrev q_passes_1 : FS := (sIf (fTest (fOp opEq (fVar 0) (fC (.str (Str.ofString "less"))))) q_passes_1t_0 sNil)
noncomputable abbrev q_passes_2t_0 : FS := (sRet (fAnd (fIsi "str" (fVar 1)) (fMt startsD (fVar 1) (aCons (fVar 2) aNil))))
noncomputable abbrev q_passes_2 : FS := (sIf (fTest (fOp opEq (fVar 0) (fC (.str (Str.ofString "starts"))))) q_passes_2t_0 sNil)
noncomputable abbrev q_passes_3 : FS := (sRet (fOp (inSeq false) (fVar 1) (fVar 2)))
noncomputable def g_passes : FS := (sSeq q_passes_0 (sSeq q_passes_1 (sSeq q_passes_2 q_passes_3)))
noncomputable def m_passes : FM := mOf N_passes.length g_passes
theorem d_passes (T : Txt K mg) : FnD P w K mg base 3 T.a_passes T.f_passes ["kind", "value", "operand"] m_passes := FnD.of T.F_passes sc_passes fun cd A outer s H gx => (ds_cons (ds_if (dt_cmp (ok_eq gx) (de_var 0) de_str) (ds_one (ds_ret (de_cmp (ok_eq gx) (de_var 1) (de_var 2)))) ds_nil) (ds_cons (ds_if (dt_cmp (ok_eq gx) (de_var 0) de_str) (ds_one (ds_ret (de_cmp ok_lt (de_call ((d_compare_values T).up (by decide)) gx (by rfl) T.g_compare_values T.F_compare_values.kp T.b_compare_values (da_cons (de_var 1) (da_cons (de_var 2) da_nil)) (hn := (aCons_n (aCons_n aNil_n)))) de_int))) ds_nil) (ds_cons (ds_if (dt_cmp (ok_eq gx) (de_var 0) de_str) (ds_one (ds_ret (de_and (de_isi (T := "str") (de_var 1) (by decide) (by rfl) T.n_isinstance (by rfl) T.n_str (by decide +kernel)) (de_one (de_mt mt_startswith startsTy startsOk PySem.F.plainAttrs_str PySem.F.slot_str_startswith PySem.F.type_str_startswith (de_var 1) (da_cons (de_var 2) da_nil)))))) ds_nil) (ds_one (ds_ret (de_cmp ok_in (de_var 1) (de_var 2)))))))
noncomputable def g_matches (rec_ : FM) : FS := (sSeq (sAsg (fSub (fVar 0) (fC (.int 0))) (gN 2)) (sSeq (sIf (fTest (fOp opEq (fVar 2) (fC (.str (Str.ofString "all"))))) (sRet (fC (.bl true))) sNil) (sSeq (sIf (fTest (fOp opEq (fVar 2) (fC (.str (Str.ofString "not"))))) (sRet (fNot (fCall rec_ (aCons (fSub (fVar 0) (fC (.int 1))) (aCons (fVar 1) aNil))))) sNil) (sSeq (sIf (fTest (fOp opEq (fVar 2) (fC (.str (Str.ofString "and"))))) (sRet (fAnd (fCall rec_ (aCons (fSub (fVar 0) (fC (.int 1))) (aCons (fVar 1) aNil))) (fCall rec_ (aCons (fSub (fVar 0) (fC (.int 2))) (aCons (fVar 1) aNil))))) sNil) (sSeq (sIf (fTest (fOp opEq (fVar 2) (fC (.str (Str.ofString "or"))))) (sRet (fOr (fCall rec_ (aCons (fSub (fVar 0) (fC (.int 1))) (aCons (fVar 1) aNil))) (fCall rec_ (aCons (fSub (fVar 0) (fC (.int 2))) (aCons (fVar 1) aNil))))) sNil) (sRet (fCall m_passes (aCons (fVar 2) (aCons (fSub (fVar 1) (fSub (fVar 0) (fC (.int 1)))) (aCons (fSub (fVar 0) (fC (.int 2))) aNil))))))))))
noncomputable def m_matches : Nat → FM
  | 0 => fun _ _ => none
  | n + 1 => mOf N_matches.length (g_matches (m_matches n))
theorem d_matches (T : Txt K mg) : ∀ n : Nat, FnD P w K mg base (3 + n) T.a_matches T.f_matches ["condition", "values"] (m_matches n)
  | 0 => FnD.nil
  | n + 1 => by
    have ih : FnD P w K mg base (3 + n) T.a_matches T.f_matches ["condition", "values"] (m_matches n) := d_matches T n
    exact FnD.of (k := 3 + n) T.F_matches sc_matches fun cd A outer s H gx => (ds_cons (ds_asg (de_sub gx (de_var 0) de_int) (dg_name 2 gx.nd)) (ds_cons (ds_if (dt_cmp (ok_eq gx) (de_var 2) de_str) (ds_one (ds_ret de_bl)) ds_nil) (ds_cons (ds_if (dt_cmp (ok_eq gx) (de_var 2) de_str) (ds_one (ds_ret (de_not (de_call ih gx (by rfl) T.g_matches T.F_matches.kp T.b_matches (da_cons (de_sub gx (de_var 0) de_int) (da_cons (de_var 1) da_nil)) (hn := (aCons_n (aCons_n aNil_n))))))) ds_nil) (ds_cons (ds_if (dt_cmp (ok_eq gx) (de_var 2) de_str) (ds_one (ds_ret (de_and (de_call ih gx (by rfl) T.g_matches T.F_matches.kp T.b_matches (da_cons (de_sub gx (de_var 0) de_int) (da_cons (de_var 1) da_nil)) (hn := (aCons_n (aCons_n aNil_n)))) (de_one (de_call ih gx (by rfl) T.g_matches T.F_matches.kp T.b_matches (da_cons (de_sub gx (de_var 0) de_int) (da_cons (de_var 1) da_nil)) (hn := (aCons_n (aCons_n aNil_n)))))))) ds_nil) (ds_cons (ds_if (dt_cmp (ok_eq gx) (de_var 2) de_str) (ds_one (ds_ret (de_or (de_call ih gx (by rfl) T.g_matches T.F_matches.kp T.b_matches (da_cons (de_sub gx (de_var 0) de_int) (da_cons (de_var 1) da_nil)) (hn := (aCons_n (aCons_n aNil_n)))) (de_one (de_call ih gx (by rfl) T.g_matches T.F_matches.kp T.b_matches (da_cons (de_sub gx (de_var 0) de_int) (da_cons (de_var 1) da_nil)) (hn := (aCons_n (aCons_n aNil_n)))))))) ds_nil) (ds_one (ds_ret (de_call ((d_passes T).up (by omega)) gx (by rfl) T.g_passes T.F_passes.kp T.b_passes (da_cons (de_var 2) (da_cons (de_sub gx (de_var 1) (de_sub gx (de_var 0) de_int)) (da_cons (de_sub gx (de_var 0) de_int) da_nil))) (hn := (aCons_n (aCons_n (aCons_n aNil_n))))))))))))
noncomputable abbrev q_key_of_0 : FS := (sAsg (fComp (iOf asT (fSub (fVar 0) (fC (.int 1)))) [4, 5] (bTup 2 (bCons b1 (bCons b1 bNil))) tTrue (fSub (fVar 2) (fVar 4))) (gN 3))
noncomputable abbrev q_key_of_1 : FS := (sRet (fMk mkTup (aStar (fVar 3) (aCons (fVar 1) aNil))))
noncomputable def g_key_of : FS := (sSeq q_key_of_0 q_key_of_1)
noncomputable def m_key_of : FM := mOf N_key_of.length g_key_of
theorem d_key_of (T : Txt K mg) : FnD P w K mg base 1 T.a_key_of T.f_key_of ["view", "row_id", "values"] m_key_of := FnD.of T.F_key_of sc_key_of fun cd A outer s H gx => (ds_cons (ds_setLc (own := [("column", 4), ("descending", 5)]) (i := 3) gx.calm gx.nd rfl rfl (sw_true rfl rfl rfl (by decide +kernel)) (di_tup (de_sub gx (de_var 0) de_int)) (blkOk_by (N := N_key_of) (sc := defScope s_key_of) (by decide +kernel)) (tg_tupR (n := 2) (tgs_cons (tg1 4) b1_n (tgs_cons (tg1 5) b1_n tgs_nil))) (fun _ _ _ _ _ => (pg_tup (n := 2) gx.calm (pgs_cons (pg_name (i := 4) gx.nd rfl (.inl rfl)) (pgs_cons (pg_name (i := 5) gx.nd rfl (.inl rfl)) pgs_nil)))) (fun _ _ _ _ _ => dts_nil) (fun _ _ _ _ _ => (de_sub gx.blk (de_var 2) (de_var 4)))) (ds_one (ds_ret (de_tup (da_star (de_var 3) (da_cons (de_var 1) da_nil))))))
noncomputable abbrev q_value_place_0 : FS := (sAsg (fCall m_kind_place (aCons (fVar 0) aNil)) (gN 2))
noncomputable abbrev q_value_place_1t_0 : FS := (sRet (fMk mkTup (aCons (fVar 2) aNil)))
noncomputable abbrev q_value_place_1 : FS := (sIf (fTest (fOp opIs (fVar 0) (fC .non))) q_value_place_1t_0 sNil)
noncomputable abbrev q_value_place_2t_0 : FS := (sRet (fMk mkTup (aCons (fVar 2) (aCons (fVar 0) aNil))))
noncomputable abbrev q_value_place_2 : FS := (sIf (fNotT (fTest (fVar 1))) q_value_place_2t_0 sNil)
noncomputable abbrev q_value_place_3t_0 : FS := (sAsg (fComp (iOf asStr (fVar 0)) [4] b1 tTrue (fUn negI (fMk bOrd (aCons (fVar 4) aNil)))) (gN 3))
noncomputable abbrev q_value_place_3t_1 : FS := (sRet (fMk mkTup (aCons (fUn negI (fVar 2)) (aCons (fMk mkTup (aStar (fVar 3) (aCons (fC (.int 1)) aNil))) aNil))))
noncomputable abbrev q_value_place_3 : FS := (sIf (fTest (fIsi "str" (fVar 0))) (sSeq q_value_place_3t_0 q_value_place_3t_1) sNil)
noncomputable abbrev q_value_place_4 : FS := (sRet (fMk mkTup (aCons (fUn negI (fVar 2)) (aCons (fUn negI (fVar 0)) aNil))))
noncomputable def g_value_place : FS := (sSeq q_value_place_0 (sSeq q_value_place_1 (sSeq q_value_place_2 (sSeq q_value_place_3 q_value_place_4))))
noncomputable def m_value_place : FM := mOf N_value_place.length g_value_place
theorem d_value_place (T : Txt K mg) : FnD P w K mg base 2 T.a_value_place T.f_value_place ["value", "descending"] m_value_place := FnD.of T.F_value_place sc_value_place fun cd A outer s H gx => (ds_cons (ds_asg (de_call ((d_kind_place T).up (by decide)) gx (by rfl) T.g_kind_place T.F_kind_place.kp T.b_kind_place (da_cons (de_var 0) da_nil) (hn := (aCons_n aNil_n))) (dg_name 2 gx.nd)) (ds_cons (ds_if (dt_cmp ok_is (de_var 0) de_non) (ds_one (ds_ret (de_tup (da_cons (de_var 2) da_nil)))) ds_nil) (ds_cons (ds_if (dt_not (dt_val (de_var 1))) (ds_one (ds_ret (de_tup (da_cons (de_var 2) (da_cons (de_var 0) da_nil))))) ds_nil) (ds_cons (ds_if (dt_val (de_isi (T := "str") (de_var 0) (by decide) (by rfl) T.n_isinstance (by rfl) T.n_str (by decide +kernel))) (ds_cons (ds_setLc (own := [("sign", 4)]) (i := 3) gx.calm gx.nd rfl rfl (sw_true rfl rfl rfl (by decide +kernel)) (di_str (de_var 0)) (blkOk_by (N := N_value_place) (sc := defScope s_value_place) (by decide +kernel)) (tg1 4) (fun _ _ _ _ _ => (pg_name (i := 4) gx.nd rfl (.inl rfl))) (fun _ _ _ _ _ => dts_nil) (fun _ _ _ _ _ => (de_neg (de_callB (id := "ord") ok_ord (by rfl) T.n_ord (by decide +kernel) (da_cons (de_var 4) da_nil))))) (ds_one (ds_ret (de_tup (da_cons (de_neg (de_var 2)) (da_cons (de_tup (da_star (de_var 3) (da_cons de_int da_nil))) da_nil)))))) ds_nil) (ds_one (ds_ret (de_tup (da_cons (de_neg (de_var 2)) (da_cons (de_neg (de_var 0)) da_nil)))))))))
noncomputable abbrev q_key_place_0 : FS := (sAsg (fComp (iOfA asZip (aCons (fVar 1) (aCons (fSub (fVar 0) (fC (.int 1))) aNil))) [3, 4, 5] (bTup 2 (bCons b1 (bCons (bTup 2 (bCons b1 (bCons b1 bNil))) bNil))) tTrue (fCall m_value_place (aCons (fVar 3) (aCons (fVar 5) aNil)))) (gN 2))
noncomputable abbrev q_key_place_1 : FS := (sRet (fMk mkTup (aStar (fVar 2) (aCons (fSub (fVar 1) (fUn negI (fC (.int 1)))) aNil))))
noncomputable def g_key_place : FS := (sSeq q_key_place_0 q_key_place_1)
noncomputable def m_key_place : FM := mOf N_key_place.length g_key_place
theorem d_key_place (T : Txt K mg) : FnD P w K mg base 3 T.a_key_place T.f_key_place ["view", "key"] m_key_place := FnD.of T.F_key_place sc_key_place fun cd A outer s H gx => (ds_cons (ds_setLc (own := [("value", 3), ("column", 4), ("descending", 5)]) (i := 2) gx.calm gx.nd rfl rfl (sw_true rfl rfl rfl (by decide +kernel)) (di_zip (by rfl) T.n_zip (da_cons (de_var 1) (da_cons (de_sub gx (de_var 0) de_int) da_nil))) (blkOk_by (N := N_key_place) (sc := defScope s_key_place) (by decide +kernel)) (tg_tup (n := 2) (tgs_cons (tg1 3) b1_n (tgs_cons (tg_tupR (n := 2) (tgs_cons (tg1 4) b1_n (tgs_cons (tg1 5) b1_n tgs_nil))) (bTup_n (bCons_n b1_n (bCons_n b1_n bNil_n))) tgs_nil))) (fun _ _ _ _ _ => (pg_tup (n := 2) gx.calm (pgs_cons (pg_name (i := 3) gx.nd rfl (.inl rfl)) (pgs_cons (pg_tup (n := 2) gx.calm (pgs_cons (pg_name (i := 4) gx.nd rfl (.inl rfl)) (pgs_cons (pg_name (i := 5) gx.nd rfl (.inl rfl)) pgs_nil))) pgs_nil)))) (fun _ _ _ _ _ => dts_nil) (fun _ _ _ _ _ => (de_call ((d_value_place T).up (by decide)) gx.blk (by rfl) T.g_value_place T.F_value_place.kp T.b_value_place (da_cons (de_var 3) (da_cons (de_var 5) da_nil)) (hn := (aCons_n (aCons_n aNil_n)))))) (ds_one (ds_ret (de_tup (da_star (de_var 2) (da_cons (de_sub gx (de_var 1) (de_neg de_int)) da_nil))))))
noncomputable abbrev q_first_from_0 : FS := (sAsg (fC (.int 0)) (gN 2))
noncomputable abbrev q_first_from_1 : FS := (sAsg (fMk bLen (aCons (fVar 0) aNil)) (gN 3))
noncomputable abbrev q_first_from_2w_0 : FS := (sAsg (fOp fdivI (fOp opAdd (fVar 2) (fVar 3)) (fC (.int 2))) (gN 4))
noncomputable abbrev q_first_from_2w_1t_0 : FS := (sAsg (fOp opAdd (fVar 4) (fC (.int 1))) (gN 2))
noncomputable abbrev q_first_from_2w_1e_0 : FS := (sAsg (fVar 4) (gN 3))
noncomputable abbrev q_first_from_2w_1 : FS := (sIf (fTest (fOp ltN (fSub (fVar 0) (fVar 4)) (fVar 1))) q_first_from_2w_1t_0 q_first_from_2w_1e_0)
noncomputable abbrev q_first_from_2 : FS := (sWhile (fTest (fOp opLt (fVar 2) (fVar 3))) (sSeq q_first_from_2w_0 q_first_from_2w_1))
noncomputable abbrev q_first_from_3 : FS := (sRet (fVar 2))
noncomputable def g_first_from : FS := (sSeq q_first_from_0 (sSeq q_first_from_1 (sSeq q_first_from_2 q_first_from_3)))
noncomputable def m_first_from : FM := mOf N_first_from.length g_first_from
theorem d_first_from (T : Txt K mg) : FnD P w K mg base 1 T.a_first_from T.f_first_from ["places", "place"] m_first_from := FnD.of T.F_first_from sc_first_from fun cd A outer s H gx => (ds_cons (ds_asg de_int (dg_name 2 gx.nd)) (ds_cons (ds_asg (de_callB (id := "len") ok_len (by rfl) T.n_len (by decide +kernel) (da_cons (de_var 0) da_nil)) (dg_name 3 gx.nd)) (ds_cons (ds_while PassesOwn.never (dt_cmp ok_lt (de_var 2) (de_var 3)) (ds_cons (ds_asg (de_op ok_fdivI (de_op ok_add (de_var 2) (de_var 3)) de_int) (dg_name 4 gx.nd)) (ds_one (ds_if (dt_cmp (ok_ltN gx) (de_sub gx (de_var 0) (de_var 4)) (de_var 1)) (ds_one (ds_asg (de_op ok_add (de_var 4) de_int) (dg_name 2 gx.nd))) (ds_one (ds_asg (de_var 4) (dg_name 3 gx.nd))))))) (ds_one (ds_ret (de_var 2))))))
noncomputable abbrev q_Table__check_known_0t_0 : FS := sNever
noncomputable abbrev q_Table__check_known_0 : FS := (sIf (fOrT (fNotT (fTest (fCall m_is_integer (aCons (fVar 1) aNil)))) (fTest (fInD true (fVar 1) (fFld "Table" "_steps" (fVar 0))))) q_Table__check_known_0t_0 sNil)
noncomputable def g_Table__check_known : FS := q_Table__check_known_0
noncomputable def m_Table__check_known : FM := mOf N_Table__check_known.length g_Table__check_known
theorem d_Table__check_known (T : Txt K mg) : FnD P w K mg base 2 T.a_Table__check_known T.f_Table__check_known ["self", "version"] m_Table__check_known := FnD.of T.F_Table__check_known sc_Table__check_known fun cd A outer s H gx => (ds_one (ds_if (dt_w (dw_or (dt_not (dt_val (de_call ((d_is_integer T).up (by decide)) gx (by rfl) T.g_is_integer T.F_is_integer.kp T.b_is_integer (da_cons (de_var 1) da_nil) (hn := (aCons_n aNil_n))))) (dw_or1 (dt_notinD gx (de_var 1) (de_fld T.K_Table T.na_Table__steps (de_var 0)))))) (ds_one ds_never) ds_nil))
noncomputable abbrev q_take_step_0l_0t_0 : FS := (sDrop (fPop2 (fVar 0) (fVar 2) (fC .non)))
noncomputable abbrev q_take_step_0l_0e_0 : FS := (sPut (fVar 0) (fVar 2) (fSub (fVar 1) (fVar 2)))
noncomputable abbrev q_take_step_0l_0 : FS := (sIf (fTest (fOp opIs (fSub (fVar 1) (fVar 2)) (fC .non))) q_take_step_0l_0t_0 q_take_step_0l_0e_0)
noncomputable abbrev q_take_step_0 : FS := (sFor (iFrz kKeys (fVar 1)) (gN 2) q_take_step_0l_0)
noncomputable def g_take_step : FS := q_take_step_0
noncomputable def m_take_step : FM := mOf N_take_step.length g_take_step
theorem d_take_step (T : Txt K mg) : FnD P w K mg base 1 T.a_take_step T.f_take_step ["states", "step"] m_take_step := FnD.of T.F_take_step sc_take_step fun cd A outer s H gx => (ds_one (ds_forR PassesOwn.never gx.calm (di_keysF (de_var 1)) (dg_name 2 gx.nd) (ds_one (ds_if (dt_cmp ok_is (de_sub gx (de_var 1) (de_var 2)) de_non) (ds_one (ds_expr (de_pop2 (de_var 0) (de_var 2) de_non ⟨rfl, rfl, rfl, rfl⟩))) (ds_one (ds_put gx (de_var 0) (de_var 2) (de_sub gx (de_var 1) (de_var 2))))))))
noncomputable abbrev q_Table__states_at_0 : FS := (sDrop (fMeth "Table" "_check_known" m_Table__check_known (fVar 0) (aCons (fVar 1) aNil)))
noncomputable abbrev q_Table__states_at_1 : FS := (sAsg fNewD (gN 2))
noncomputable abbrev q_Table__states_at_2l_0t_0 : FS := (sDrop (fCall m_take_step (aCons (fVar 2) (aCons (fVar 4) aNil))))
noncomputable abbrev q_Table__states_at_2l_0 : FS := (sIf (fTest (fOp opLe (fVar 3) (fVar 1))) q_Table__states_at_2l_0t_0 sNil)
noncomputable abbrev q_Table__states_at_2 : FS := (sLock (whichR (fFld "Table" "_steps" (fVar 0))) (sFor (iFrz kItems (fFld "Table" "_steps" (fVar 0))) (gT 2 (gCons' (gN 3) (gCons' (gN 4) gNil'))) q_Table__states_at_2l_0))
noncomputable abbrev q_Table__states_at_3 : FS := (sRet (fVar 2))
noncomputable def g_Table__states_at : FS := (sSeq q_Table__states_at_0 (sSeq q_Table__states_at_1 (sSeq q_Table__states_at_2 q_Table__states_at_3)))
noncomputable def m_Table__states_at : FM := mOf N_Table__states_at.length g_Table__states_at
theorem d_Table__states_at (T : Txt K mg) : FnD P w K mg base 3 T.a_Table__states_at T.f_Table__states_at ["self", "version"] m_Table__states_at := FnD.of T.F_Table__states_at sc_Table__states_at fun cd A outer s H gx => (ds_cons (ds_expr (de_meth T.K_Table T.M_Table__check_known ((d_Table__check_known T).up (by decide)) gx T.b_Table__check_known (de_var 0) (da_cons (de_var 1) da_nil) (hn := (aCons_n aNil_n)))) (ds_cons (ds_asg de_newD (dg_name 2 gx.nd)) (ds_cons (ds_lock (whichR (fFld "Table" "_steps" (fVar 0))) (ds_forR PassesOwn.never gx.calm (di_itemsF (de_fld T.K_Table T.na_Table__steps (de_var 0))) (dg_tupI gx.calm (dgs_cons (dg_name 3 gx.nd) (dgs_cons (dg_name 4 gx.nd) dgs_nil))) (ds_one (ds_if (dt_cmp ok_le (de_var 3) (de_var 1)) (ds_one (ds_expr (de_call ((d_take_step T).up (by decide)) gx (by rfl) T.g_take_step T.F_take_step.kp T.b_take_step (da_cons (de_var 2) (da_cons (de_var 4) da_nil)) (hn := (aCons_n (aCons_n aNil_n)))))) ds_nil)))) (ds_one (ds_ret (de_var 2))))))
noncomputable abbrev q_Table_rows_at_0 : FS := (sAsg (fMeth "Table" "_states_at" m_Table__states_at (fVar 0) (aCons (fVar 1) aNil)) (gN 2))
noncomputable abbrev q_Table_rows_at_1 : FS := (sRet (fDComp (iOf asL (fSortKs (fVar 2))) [3] b1 tTrue (fVar 3) (fSub (fSub (fVar 2) (fVar 3)) (fC (.int 1)))))
noncomputable def g_Table_rows_at : FS := (sSeq q_Table_rows_at_0 q_Table_rows_at_1)
noncomputable def m_Table_rows_at : FM := mOf N_Table_rows_at.length g_Table_rows_at
theorem d_Table_rows_at (T : Txt K mg) : FnD P w K mg base 4 T.a_Table_rows_at T.f_Table_rows_at ["self", "version"] m_Table_rows_at := FnD.of T.F_Table_rows_at sc_Table_rows_at fun cd A outer s H gx => (ds_cons (ds_asg (de_meth T.K_Table T.M_Table__states_at ((d_Table__states_at T).up (by decide)) gx T.b_Table__states_at (de_var 0) (da_cons (de_var 1) da_nil) (hn := (aCons_n aNil_n))) (dg_name 2 gx.nd)) (ds_one (ds_ret (de_dc (own := [("row_id", 3)]) gx.calm gx.nd (di_lst (de_sortKs gx (de_var 2) (by rfl) T.n_sorted)) (blkOk_by (N := N_Table_rows_at) (sc := defScope s_Table_rows_at) (by decide +kernel)) (tg1 3) (fun _ _ _ _ _ => (pg_name (i := 3) gx.nd rfl (.inl rfl))) (fun _ _ _ _ _ => dts_nil) (fun _ _ _ _ _ => (de_var 3)) (fun _ _ _ _ _ => (de_sub gx.blk (de_sub gx.blk (de_var 2) (de_var 3)) de_int))))))
noncomputable abbrev q_Table_changes_at_0 : FS := (sAsg (fMeth "Table" "_states_at" m_Table__states_at (fVar 0) (aCons (fVar 1) aNil)) (gN 2))
noncomputable abbrev q_Table_changes_at_1 : FS := (sRet (fDComp (iOf asL (fSortKs (fVar 2))) [3] b1 tTrue (fVar 3) (fSub (fSub (fVar 2) (fVar 3)) (fC (.int 0)))))
noncomputable def g_Table_changes_at : FS := (sSeq q_Table_changes_at_0 q_Table_changes_at_1)
noncomputable def m_Table_changes_at : FM := mOf N_Table_changes_at.length g_Table_changes_at
theorem d_Table_changes_at (T : Txt K mg) : FnD P w K mg base 4 T.a_Table_changes_at T.f_Table_changes_at ["self", "version"] m_Table_changes_at := FnD.of T.F_Table_changes_at sc_Table_changes_at fun cd A outer s H gx => (ds_cons (ds_asg (de_meth T.K_Table T.M_Table__states_at ((d_Table__states_at T).up (by decide)) gx T.b_Table__states_at (de_var 0) (da_cons (de_var 1) da_nil) (hn := (aCons_n aNil_n))) (dg_name 2 gx.nd)) (ds_one (ds_ret (de_dc (own := [("row_id", 3)]) gx.calm gx.nd (di_lst (de_sortKs gx (de_var 2) (by rfl) T.n_sorted)) (blkOk_by (N := N_Table_changes_at) (sc := defScope s_Table_changes_at) (by decide +kernel)) (tg1 3) (fun _ _ _ _ _ => (pg_name (i := 3) gx.nd rfl (.inl rfl))) (fun _ _ _ _ _ => dts_nil) (fun _ _ _ _ _ => (de_var 3)) (fun _ _ _ _ _ => (de_sub gx.blk (de_sub gx.blk (de_var 2) (de_var 3)) de_int))))))
noncomputable abbrev q_Listing___init___0 : FS := (sFldD "Listing" "_view" (fVar 0) (fVar 1))
noncomputable abbrev q_Listing___init___1 : FS := (sFldD "Listing" "_places" (fVar 0) (fNewL aNil))
noncomputable abbrev q_Listing___init___2 : FS := (sFldD "Listing" "_keys" (fVar 0) (fNewL aNil))
noncomputable abbrev q_Listing___init___3 : FS := (sFldD "Listing" "_versions" (fVar 0) (fNewL aNil))
noncomputable def g_Listing___init__ : FS := (sSeq q_Listing___init___0 (sSeq q_Listing___init___1 (sSeq q_Listing___init___2 q_Listing___init___3)))
noncomputable def m_Listing___init__ : FM := mOf N_Listing___init__.length g_Listing___init__
theorem d_Listing___init__ (T : Txt K mg) : FnD P w K mg base 1 T.a_Listing___init__ T.f_Listing___init__ ["self", "view"] m_Listing___init__ := FnD.of T.F_Listing___init__ sc_Listing___init__ fun cd A outer s H gx => (ds_cons (ds_fld T.K_Listing T.na_Listing__view (de_var 0) (de_var 1)) (ds_cons (ds_fld T.K_Listing T.na_Listing__places (de_var 0) (de_newL da_nil)) (ds_cons (ds_fld T.K_Listing T.na_Listing__keys (de_var 0) (de_newL da_nil)) (ds_one (ds_fld T.K_Listing T.na_Listing__versions (de_var 0) (de_newL da_nil))))))
noncomputable abbrev q_Listing__holds_0 : FS := (sRet (fAnd (fOp opLt (fVar 1) (fMk bLen (aCons (fFld "Listing" "_places" (fVar 0)) aNil))) (fOp opEq (fSub (fFld "Listing" "_places" (fVar 0)) (fVar 1)) (fVar 2))))
noncomputable def g_Listing__holds : FS := q_Listing__holds_0
noncomputable def m_Listing__holds : FM := mOf N_Listing__holds.length g_Listing__holds
theorem d_Listing__holds (T : Txt K mg) : FnD P w K mg base 1 T.a_Listing__holds T.f_Listing__holds ["self", "rank", "place"] m_Listing__holds := FnD.of T.F_Listing__holds sc_Listing__holds fun cd A outer s H gx => (ds_one (ds_ret (de_and (de_cmp ok_lt (de_var 1) (de_callB (id := "len") ok_len (by rfl) T.n_len (by decide +kernel) (da_cons (de_fld T.K_Listing T.na_Listing__places (de_var 0)) da_nil))) (de_one (de_cmp (ok_eq gx) (de_sub gx (de_fld T.K_Listing T.na_Listing__places (de_var 0)) (de_var 1)) (de_var 2))))))
noncomputable abbrev q_Listing_add_key_0 : FS := (sAsg (fCall m_key_place (aCons (fFld "Listing" "_view" (fVar 0)) (aCons (fVar 1) aNil))) (gN 3))
noncomputable abbrev q_Listing_add_key_1 : FS := (sAsg (fCall m_first_from (aCons (fFld "Listing" "_places" (fVar 0)) (aCons (fVar 3) aNil))) (gN 4))
noncomputable abbrev q_Listing_add_key_2t_0 : FS := (sPutL (fFld "Listing" "_versions" (fVar 0)) (fVar 4) (fVar 2))
noncomputable abbrev q_Listing_add_key_2e_0 : FS := (sDrop (fIns (fFld "Listing" "_places" (fVar 0)) (fVar 4) (fVar 3)))
noncomputable abbrev q_Listing_add_key_2e_1 : FS := (sDrop (fIns (fFld "Listing" "_keys" (fVar 0)) (fVar 4) (fVar 1)))
noncomputable abbrev q_Listing_add_key_2e_2 : FS := (sDrop (fIns (fFld "Listing" "_versions" (fVar 0)) (fVar 4) (fVar 2)))
noncomputable abbrev q_Listing_add_key_2 : FS := (sIf (fTest (fMeth "Listing" "_holds" m_Listing__holds (fVar 0) (aCons (fVar 4) (aCons (fVar 3) aNil)))) q_Listing_add_key_2t_0 (sSeq q_Listing_add_key_2e_0 (sSeq q_Listing_add_key_2e_1 q_Listing_add_key_2e_2)))
noncomputable def g_Listing_add_key : FS := (sSeq q_Listing_add_key_0 (sSeq q_Listing_add_key_1 q_Listing_add_key_2))
noncomputable def m_Listing_add_key : FM := mOf N_Listing_add_key.length g_Listing_add_key
theorem d_Listing_add_key (T : Txt K mg) : FnD P w K mg base 4 T.a_Listing_add_key T.f_Listing_add_key ["self", "key", "changed"] m_Listing_add_key := FnD.of T.F_Listing_add_key sc_Listing_add_key fun cd A outer s H gx => (ds_cons (ds_asg (de_call ((d_key_place T).up (by decide)) gx (by rfl) T.g_key_place T.F_key_place.kp T.b_key_place (da_cons (de_fld T.K_Listing T.na_Listing__view (de_var 0)) (da_cons (de_var 1) da_nil)) (hn := (aCons_n (aCons_n aNil_n)))) (dg_name 3 gx.nd)) (ds_cons (ds_asg (de_call ((d_first_from T).up (by decide)) gx (by rfl) T.g_first_from T.F_first_from.kp T.b_first_from (da_cons (de_fld T.K_Listing T.na_Listing__places (de_var 0)) (da_cons (de_var 3) da_nil)) (hn := (aCons_n (aCons_n aNil_n)))) (dg_name 4 gx.nd)) (ds_one (ds_if (dt_val (de_meth T.K_Listing T.M_Listing__holds ((d_Listing__holds T).up (by decide)) gx T.b_Listing__holds (de_var 0) (da_cons (de_var 4) (da_cons (de_var 3) da_nil)) (hn := (aCons_n (aCons_n aNil_n))))) (ds_one (ds_putL (de_fld T.K_Listing T.na_Listing__versions (de_var 0)) (de_var 4) (de_var 2))) (ds_cons (ds_expr (de_insert (de_fld T.K_Listing T.na_Listing__places (de_var 0)) (de_var 4) (de_var 3))) (ds_cons (ds_expr (de_insert (de_fld T.K_Listing T.na_Listing__keys (de_var 0)) (de_var 4) (de_var 1))) (ds_one (ds_expr (de_insert (de_fld T.K_Listing T.na_Listing__versions (de_var 0)) (de_var 4) (de_var 2))))))))))
noncomputable abbrev q_listing_of_0 : FS := (sAsg (fMeth "Table" "rows_at" m_Table_rows_at (fVar 0) (aCons (fVar 2) aNil)) (gN 3))
noncomputable abbrev q_listing_of_1 : FS := (sAsg (fMeth "Table" "changes_at" m_Table_changes_at (fVar 0) (aCons (fVar 2) aNil)) (gN 4))
noncomputable abbrev q_listing_of_2 : FS := (sAsg (fMake "Listing" m_Listing___init__ (aCons (fVar 1) aNil)) (gN 5))
noncomputable abbrev q_listing_of_3l_0t_0 : FS := (sDrop (fMeth "Listing" "add_key" m_Listing_add_key (fVar 5) (aCons (fCall m_key_of (aCons (fVar 1) (aCons (fVar 6) (aCons (fSub (fVar 3) (fVar 6)) aNil)))) (aCons (fSub (fVar 4) (fVar 6)) aNil))))
noncomputable abbrev q_listing_of_3l_0 : FS := (sIf (fTest (fCall (m_matches 5) (aCons (fSub (fVar 1) (fC (.int 0))) (aCons (fSub (fVar 3) (fVar 6)) aNil)))) q_listing_of_3l_0t_0 sNil)
noncomputable abbrev q_listing_of_3 : FS := (sLock (whichR (fVar 3)) (sFor (iFrz kKeys (fVar 3)) (gN 6) q_listing_of_3l_0))
noncomputable abbrev q_listing_of_4 : FS := (sRet (fVar 5))
noncomputable def g_listing_of : FS := (sSeq q_listing_of_0 (sSeq q_listing_of_1 (sSeq q_listing_of_2 (sSeq q_listing_of_3 q_listing_of_4))))
noncomputable def m_listing_of : FM := mOf N_listing_of.length g_listing_of
theorem d_listing_of (T : Txt K mg) : FnD P w K mg base 9 T.a_listing_of T.f_listing_of ["table", "view", "version"] m_listing_of := FnD.of T.F_listing_of sc_listing_of fun cd A outer s H gx => (ds_cons (ds_asg (de_meth T.K_Table T.M_Table_rows_at ((d_Table_rows_at T).up (by decide)) gx T.b_Table_rows_at (de_var 0) (da_cons (de_var 2) da_nil) (hn := (aCons_n aNil_n))) (dg_name 3 gx.nd)) (ds_cons (ds_asg (de_meth T.K_Table T.M_Table_changes_at ((d_Table_changes_at T).up (by decide)) gx T.b_Table_changes_at (de_var 0) (da_cons (de_var 2) da_nil) (hn := (aCons_n aNil_n))) (dg_name 4 gx.nd)) (ds_cons (ds_asg (de_make T.mk_Listing T.K_Listing.at_ ((d_Listing___init__ T).up (by decide)) gx (by rfl) T.g_Listing T.b_Listing___init__ (da_cons (de_var 1) da_nil) (hn := (aCons_n aNil_n))) (dg_name 5 gx.nd)) (ds_cons (ds_lock (whichR (fVar 3)) (ds_forR PassesOwn.never gx.calm (di_keysF (de_var 3)) (dg_name 6 gx.nd) (ds_one (ds_if (dt_val (de_call ((d_matches T 5).up (by decide)) gx (by rfl) T.g_matches T.F_matches.kp T.b_matches (da_cons (de_sub gx (de_var 1) de_int) (da_cons (de_sub gx (de_var 3) (de_var 6)) da_nil)) (hn := (aCons_n (aCons_n aNil_n))))) (ds_one (ds_expr (de_meth T.K_Listing T.M_Listing_add_key ((d_Listing_add_key T).up (by decide)) gx T.b_Listing_add_key (de_var 5) (da_cons (de_call ((d_key_of T).up (by decide)) gx (by rfl) T.g_key_of T.F_key_of.kp T.b_key_of (da_cons (de_var 1) (da_cons (de_var 6) (da_cons (de_sub gx (de_var 3) (de_var 6)) da_nil))) (hn := (aCons_n (aCons_n (aCons_n aNil_n))))) (da_cons (de_sub gx (de_var 4) (de_var 6)) da_nil)) (hn := (aCons_n (aCons_n aNil_n)))))) ds_nil)))) (ds_one (ds_ret (de_var 5)))))))
noncomputable abbrev q_values_of_0t_0 : FS := (sRet (fC .non))
noncomputable abbrev q_values_of_0 : FS := (sIf (fTest (fOp opIs (fVar 0) (fC .non))) q_values_of_0t_0 sNil)
noncomputable abbrev q_values_of_1 : FS := (sRet (fSub (fVar 0) (fC (.int 1))))
noncomputable def g_values_of : FS := (sSeq q_values_of_0 q_values_of_1)
noncomputable def m_values_of : FM := mOf N_values_of.length g_values_of
theorem d_values_of (T : Txt K mg) : FnD P w K mg base 1 T.a_values_of T.f_values_of ["state"] m_values_of := FnD.of T.F_values_of sc_values_of fun cd A outer s H gx => (ds_cons (ds_if (dt_cmp ok_is (de_var 0) de_non) (ds_one (ds_ret de_non)) ds_nil) (ds_one (ds_ret (de_sub gx (de_var 0) de_int))))
noncomputable abbrev q__law_tape_0 : FS := (sAsg (fOp opAdd (fC (.int 97)) (fOp opMul (fVar 1) (fC (.int 31)))) (gN 2))
noncomputable abbrev q__law_tape_1l_0 : FS := (sAsg (fOp opAdd (fOp modI (fOp powI (fOp opAdd (fOp opAdd (fOp opMul (fVar 2) (fC (.int 30011))) (fOp opMul (fVar 3) (fVar 3))) (fC (.int 7))) (fC (.int 2))) (fC (.int 2147483563))) (fC (.int 2))) (gN 2))
noncomputable abbrev q__law_tape_1 : FS := (sFor (iOf asScr (fVar 0)) (gN 3) q__law_tape_1l_0)
noncomputable abbrev q__law_tape_2 : FS := (sAsg (fIfE (fAndT (fTest (fOp opLt (fVar 1) (fMk bLen (aCons (fVar 0) aNil)))) (fTest (fOp opGe (fSub (fVar 0) (fVar 1)) (fOp powI (fC (.int 10)) (fC (.int 18)))))) (fOp subI (fSub (fVar 0) (fVar 1)) (fOp powI (fC (.int 10)) (fC (.int 18)))) (fC (.int 0))) (gN 4))
noncomputable abbrev q__law_tape_3 : FS := (sRet (fDict (((fC (.str (Str.ofString "digits"))), (fVar 4)) :: (((fC (.str (Str.ofString "mixed"))), (fVar 2)) :: []))))
noncomputable def g__law_tape : FS := (sSeq q__law_tape_0 (sSeq q__law_tape_1 (sSeq q__law_tape_2 q__law_tape_3)))
noncomputable def m__law_tape : FM := mOf N__law_tape.length g__law_tape
theorem d__law_tape (T : Txt K mg) : FnD P w K mg base 1 T.a__law_tape T.f__law_tape ["script", "start"] m__law_tape := FnD.of T.F__law_tape sc__law_tape fun cd A outer s H gx => (ds_cons (ds_asg (de_op ok_add de_int (de_op ok_mul (de_var 1) de_int)) (dg_name 2 gx.nd)) (ds_cons (ds_forR PassesOwn.never gx.calm (di_scr (de_var 0)) (dg_name 3 gx.nd) (ds_one (ds_asg (de_op ok_add (de_op ok_modI (de_op ok_powI (de_op ok_add (de_op ok_add (de_op ok_mul (de_var 2) de_int) (de_op ok_mul (de_var 3) (de_var 3))) de_int) de_int) de_int) de_int) (dg_name 2 gx.nd)))) (ds_cons (ds_asg (de_if (dt_w (dw_and (dt_cmp ok_lt (de_var 1) (de_callB (id := "len") ok_len (by rfl) T.n_len (by decide +kernel) (da_cons (de_var 0) da_nil))) (dw_and1 (dt_cmp ok_ge (de_sub gx (de_var 0) (de_var 1)) (de_op ok_powI de_int de_int))))) (de_op ok_subI (de_sub gx (de_var 0) (de_var 1)) (de_op ok_powI de_int de_int)) de_int) (dg_name 4 gx.nd)) (ds_one (ds_ret (de_dict (.cons de_str (de_var 4) (.cons de_str (de_var 2) .nil))))))))
noncomputable abbrev q__law_pick_0t_0 : FS := (sAsg (fOp modI (fSub (fVar 0) (fC (.str (Str.ofString "digits")))) (fVar 1)) (gN 2))
noncomputable abbrev q__law_pick_0t_1 : FS := (sPut (fVar 0) (fC (.str (Str.ofString "digits"))) (fOp fdivI (fSub (fVar 0) (fC (.str (Str.ofString "digits")))) (fVar 1)))
noncomputable abbrev q__law_pick_0t_2 : FS := (sRet (fVar 2))
noncomputable abbrev q__law_pick_0 : FS := (sIf (fTest (fOp opGe (fSub (fVar 0) (fC (.str (Str.ofString "digits")))) (fVar 1))) (sSeq q__law_pick_0t_0 (sSeq q__law_pick_0t_1 q__law_pick_0t_2)) sNil)
noncomputable abbrev q__law_pick_1 : FS := (sPut (fVar 0) (fC (.str (Str.ofString "mixed"))) (fOp modI (fOp opAdd (fOp opMul (fSub (fVar 0) (fC (.str (Str.ofString "mixed")))) (fC (.int 40014))) (fC (.int 1013))) (fC (.int 2147483563))))
noncomputable abbrev q__law_pick_2 : FS := (sRet (fOp modI (fOp fdivI (fOp modI (fOp powI (fOp modI (fOp powI (fSub (fVar 0) (fC (.str (Str.ofString "mixed")))) (fC (.int 2))) (fC (.int 2147483399))) (fC (.int 3))) (fC (.int 998244353))) (fC (.int 5))) (fVar 1)))
noncomputable def g__law_pick : FS := (sSeq q__law_pick_0 (sSeq q__law_pick_1 q__law_pick_2))
noncomputable def m__law_pick : FM := mOf N__law_pick.length g__law_pick
theorem d__law_pick (T : Txt K mg) : FnD P w K mg base 1 T.a__law_pick T.f__law_pick ["tape", "size"] m__law_pick := FnD.of T.F__law_pick sc__law_pick fun cd A outer s H gx => (ds_cons (ds_if (dt_cmp ok_ge (de_sub gx (de_var 0) de_str) (de_var 1)) (ds_cons (ds_asg (de_op ok_modI (de_sub gx (de_var 0) de_str) (de_var 1)) (dg_name 2 gx.nd)) (ds_cons (ds_put gx (de_var 0) de_str (de_op ok_fdivI (de_sub gx (de_var 0) de_str) (de_var 1))) (ds_one (ds_ret (de_var 2))))) ds_nil) (ds_cons (ds_put gx (de_var 0) de_str (de_op ok_modI (de_op ok_add (de_op ok_mul (de_sub gx (de_var 0) de_str) de_int) de_int) de_int)) (ds_one (ds_ret (de_op ok_modI (de_op ok_fdivI (de_op ok_modI (de_op ok_powI (de_op ok_modI (de_op ok_powI (de_sub gx (de_var 0) de_str) de_int) de_int) de_int) de_int) de_int) (de_var 1))))))
noncomputable abbrev q__law_one_of_0 : FS := (sRet (fSub (fVar 1) (fCall m__law_pick (aCons (fVar 0) (aCons (fMk bLen (aCons (fVar 1) aNil)) aNil)))))
noncomputable def g__law_one_of : FS := q__law_one_of_0
noncomputable def m__law_one_of : FM := mOf N__law_one_of.length g__law_one_of
theorem d__law_one_of (T : Txt K mg) : FnD P w K mg base 2 T.a__law_one_of T.f__law_one_of ["tape", "items"] m__law_one_of := FnD.of T.F__law_one_of sc__law_one_of fun cd A outer s H gx => (ds_one (ds_ret (de_sub gx (de_var 1) (de_call ((d__law_pick T).up (by decide)) gx (by rfl) T.g__law_pick T.F__law_pick.kp T.b__law_pick (da_cons (de_var 0) (da_cons (de_callB (id := "len") ok_len (by rfl) T.n_len (by decide +kernel) (da_cons (de_var 1) da_nil)) da_nil)) (hn := (aCons_n (aCons_n aNil_n)))))))
noncomputable abbrev q__law_value_0t_0 : FS := (sAsg (fC (.str (Str.ofString " !#$&'()*+,-./0123456789:;<=>?@ABCDEFGHIJKLMNOPQRSTUVWXYZ[]^_{|}~"))) (gN 1))
noncomputable abbrev q__law_value_0t_1 : FS := (sAsg (fMk bList (aCons (fOp opAdd (fVar 1) (fC (.str (Str.ofString "abcdefghijklmnopqrstuvwxyz")))) aNil)) (gN 1))
noncomputable abbrev q__law_value_0t_2 : FS := (sRet (fMt joinD (fC (.str (Str.ofString ""))) (aCons (fComp (iOfA asR1 (aCons (fOp opAdd (fC (.int 1)) (fCall m__law_pick (aCons (fVar 0) (aCons (fC (.int 20)) aNil)))) aNil)) [3] b1 tTrue (fCall m__law_one_of (aCons (fVar 0) (aCons (fVar 1) aNil)))) aNil)))
noncomputable abbrev q__law_value_0 : FS := (sIf (fTest (fOp opEq (fCall m__law_pick (aCons (fVar 0) (aCons (fC (.int 24)) aNil))) (fC (.int 0)))) (sSeq q__law_value_0t_0 (sSeq q__law_value_0t_1 q__law_value_0t_2)) sNil)
noncomputable abbrev q__law_value_1 : FS := (sAsg (fMk mkLst (aCons (fC .non) (aCons (fC (.int 0)) (aCons (fC (.int 1)) (aCons (fC (.int 2)) (aCons (fOp subI (fC (.int 0)) (fC (.int 1))) (aCons (fC (.int 1)) (aCons (fC (.int 2)) (aCons (fOp powI (fC (.int 10)) (fC (.int 9))) (aCons (fOp subI (fC (.int 0)) (fOp powI (fC (.int 10)) (fC (.int 9)))) (aCons (fC (.str (Str.ofString ""))) (aCons (fC (.str (Str.ofString "a"))) (aCons (fC (.str (Str.ofString "ab"))) (aCons (fC (.str (Str.ofString "b"))) (aCons (fC (.str (Str.ofString "a b"))) (aCons (fC (.str (Str.ofString "A"))) (aCons (fC (.str (Str.ofString "~"))) (aCons (fOp opMul (fC (.str (Str.ofString "z"))) (fC (.int 20))) aNil)))))))))))))))))) (gN 2))
noncomputable abbrev q__law_value_2 : FS := (sAsg (fOp opAdd (fVar 2) (fMk mkLst (aCons (fOp opMul (fC (.str (Str.ofString "z"))) (fC (.int 19))) (aCons (fC (.str (Str.ofString "customer one"))) (aCons (fC (.str (Str.ofString "customer two"))) (aCons (fC (.str (Str.ofString "1"))) (aCons (fC (.str (Str.ofString "-1"))) (aCons (fC (.int 2)) (aCons (fC (.str (Str.ofString "abc"))) (aCons (fC (.str (Str.ofString "abd"))) aNil)))))))))) (gN 2))
noncomputable abbrev q__law_value_3 : FS := (sRet (fCall m__law_one_of (aCons (fVar 0) (aCons (fVar 2) aNil))))
noncomputable def g__law_value : FS := (sSeq q__law_value_0 (sSeq q__law_value_1 (sSeq q__law_value_2 q__law_value_3)))
noncomputable def m__law_value : FM := mOf N__law_value.length g__law_value
theorem d__law_value (T : Txt K mg) : FnD P w K mg base 3 T.a__law_value T.f__law_value ["tape"] m__law_value := FnD.of T.F__law_value sc__law_value fun cd A outer s H gx => (ds_cons (ds_if (dt_cmp (ok_eq gx) (de_call ((d__law_pick T).up (by decide)) gx (by rfl) T.g__law_pick T.F__law_pick.kp T.b__law_pick (da_cons (de_var 0) (da_cons de_int da_nil)) (hn := (aCons_n (aCons_n aNil_n)))) de_int) (ds_cons (ds_asg de_str (dg_name 1 gx.nd)) (ds_cons (ds_asg (de_callTy (T := "list") (ok_list gx) (by rfl) T.n_list (by decide +kernel) (da_cons (de_op ok_add (de_var 1) de_str) da_nil)) (dg_name 1 gx.nd)) (ds_one (ds_ret (de_mt mt_join joinTy joinOk PySem.F.plainAttrs_str PySem.F.slot_str_join PySem.F.type_str_join de_str (da_cons (de_lc (own := [("turn", 3)]) gx.calm gx.nd (di_range1 (by rfl) T.n_range (da_cons (de_op ok_add de_int (de_call ((d__law_pick T).up (by decide)) gx (by rfl) T.g__law_pick T.F__law_pick.kp T.b__law_pick (da_cons (de_var 0) (da_cons de_int da_nil)) (hn := (aCons_n (aCons_n aNil_n))))) da_nil)) (blkOk_by (N := N__law_value) (sc := defScope s__law_value) (by decide +kernel)) (tg1 3) (fun _ _ _ _ _ => (pg_name (i := 3) gx.nd rfl (.inl rfl))) (fun _ _ _ _ _ => dts_nil) (fun _ _ _ _ _ => (de_call ((d__law_one_of T).up (by decide)) gx.blk (by rfl) T.g__law_one_of T.F__law_one_of.kp T.b__law_one_of (da_cons (de_var 0) (da_cons (de_var 1) da_nil)) (hn := (aCons_n (aCons_n aNil_n)))))) da_nil)))))) ds_nil) (ds_cons (ds_asg (de_lst (da_cons de_non (da_cons de_int (da_cons de_int (da_cons de_int (da_cons (de_op ok_subI de_int de_int) (da_cons de_int (da_cons de_int (da_cons (de_op ok_powI de_int de_int) (da_cons (de_op ok_subI de_int (de_op ok_powI de_int de_int)) (da_cons de_str (da_cons de_str (da_cons de_str (da_cons de_str (da_cons de_str (da_cons de_str (da_cons de_str (da_cons (de_op ok_mul de_str de_int) da_nil)))))))))))))))))) (dg_name 2 gx.nd)) (ds_cons (ds_asg (de_op ok_add (de_var 2) (de_lst (da_cons (de_op ok_mul de_str de_int) (da_cons de_str (da_cons de_str (da_cons de_str (da_cons de_str (da_cons de_int (da_cons de_str (da_cons de_str da_nil)))))))))) (dg_name 2 gx.nd)) (ds_one (ds_ret (de_call ((d__law_one_of T).up (by decide)) gx (by rfl) T.g__law_one_of T.F__law_one_of.kp T.b__law_one_of (da_cons (de_var 0) (da_cons (de_var 2) da_nil)) (hn := (aCons_n (aCons_n aNil_n)))))))))
noncomputable abbrev q__law_values_0 : FS := (sRet (fMk bTuple (aCons (fComp (iOfA asR1 (aCons (fVar 1) aNil)) [2] b1 tTrue (fCall m__law_value (aCons (fVar 0) aNil))) aNil)))
noncomputable def g__law_values : FS := q__law_values_0
noncomputable def m__law_values : FM := mOf N__law_values.length g__law_values
theorem d__law_values (T : Txt K mg) : FnD P w K mg base 4 T.a__law_values T.f__law_values ["tape", "width"] m__law_values := FnD.of T.F__law_values sc__law_values fun cd A outer s H gx => (ds_one (ds_ret (de_callTy (T := "tuple") ok_tuple (by rfl) T.n_tuple (by decide +kernel) (da_cons (de_lc (own := [("column", 2)]) gx.calm gx.nd (di_range1 (by rfl) T.n_range (da_cons (de_var 1) da_nil)) (blkOk_by (N := N__law_values) (sc := defScope s__law_values) (by decide +kernel)) (tg1 2) (fun _ _ _ _ _ => (pg_name (i := 2) gx.nd rfl (.inl rfl))) (fun _ _ _ _ _ => dts_nil) (fun _ _ _ _ _ => (de_call ((d__law_value T).up (by decide)) gx.blk (by rfl) T.g__law_value T.F__law_value.kp T.b__law_value (da_cons (de_var 0) da_nil) (hn := (aCons_n aNil_n))))) da_nil))))
noncomputable abbrev q__law_test_0 : FS := (sPar (par2 2 3) (aCons (fCall m__law_pick (aCons (fVar 0) (aCons (fVar 1) aNil))) (aCons (fCall m__law_pick (aCons (fVar 0) (aCons (fC (.int 6)) aNil))) aNil)))
noncomputable abbrev q__law_test_1t_0 : FS := (sRet (fMk mkTup (aCons (fC (.str (Str.ofString "all"))) aNil)))
noncomputable abbrev q__law_test_1 : FS := (sIf (fTest (fOp opEq (fVar 3) (fC (.int 0)))) q__law_test_1t_0 sNil)
noncomputable abbrev q__law_test_2t_0 : FS := (sRet (fMk mkTup (aCons (fC (.str (Str.ofString "equal"))) (aCons (fVar 2) (aCons (fCall m__law_value (aCons (fVar 0) aNil)) aNil)))))
noncomputable abbrev q__law_test_2 : FS := (sIf (fTest (fOp opEq (fVar 3) (fC (.int 1)))) q__law_test_2t_0 sNil)
noncomputable abbrev q__law_test_3t_0 : FS := (sRet (fMk mkTup (aCons (fC (.str (Str.ofString "less"))) (aCons (fVar 2) (aCons (fCall m__law_value (aCons (fVar 0) aNil)) aNil)))))
noncomputable abbrev q__law_test_3 : FS := (sIf (fTest (fOp opLt (fVar 3) (fC (.int 4)))) q__law_test_3t_0 sNil)
noncomputable abbrev q__law_test_4t_0 : FS := (sRet (fMk mkTup (aCons (fC (.str (Str.ofString "starts"))) (aCons (fVar 2) (aCons (fCall m__law_one_of (aCons (fVar 0) (aCons (fMk mkLst (aCons (fC (.str (Str.ofString "a"))) (aCons (fC (.str (Str.ofString "ab"))) (aCons (fC (.str (Str.ofString "b"))) (aCons (fC (.str (Str.ofString "A"))) (aCons (fC (.str (Str.ofString " "))) (aCons (fC (.str (Str.ofString "1"))) (aCons (fC (.str (Str.ofString "-"))) (aCons (fC (.str (Str.ofString "N"))) (aCons (fC (.str (Str.ofString "customer"))) (aCons (fC (.str (Str.ofString "abc"))) aNil))))))))))) aNil))) aNil)))))
noncomputable abbrev q__law_test_4 : FS := (sIf (fTest (fOp opEq (fVar 3) (fC (.int 4)))) q__law_test_4t_0 sNil)
noncomputable abbrev q__law_test_5 : FS := (sAsg (fOp opAdd (fC (.int 1)) (fCall m__law_one_of (aCons (fVar 0) (aCons (fMk mkLst (aCons (fCall m__law_pick (aCons (fVar 0) (aCons (fC (.int 4)) aNil))) (aCons (fOp opAdd (fC (.int 4)) (fCall m__law_pick (aCons (fVar 0) (aCons (fC (.int 4)) aNil)))) aNil))) aNil)))) (gN 4))
noncomputable abbrev q__law_test_6 : FS := (sRet (fMk mkTup (aCons (fC (.str (Str.ofString "one_of"))) (aCons (fVar 2) (aCons (fMk bTuple (aCons (fComp (iOfA asR1 (aCons (fVar 4) aNil)) [5] b1 tTrue (fCall m__law_value (aCons (fVar 0) aNil))) aNil)) aNil)))))
noncomputable def g__law_test : FS := (sSeq q__law_test_0 (sSeq q__law_test_1 (sSeq q__law_test_2 (sSeq q__law_test_3 (sSeq q__law_test_4 (sSeq q__law_test_5 q__law_test_6))))))
noncomputable def m__law_test : FM := mOf N__law_test.length g__law_test
theorem d__law_test (T : Txt K mg) : FnD P w K mg base 4 T.a__law_test T.f__law_test ["tape", "width"] m__law_test := FnD.of T.F__law_test sc__law_test fun cd A outer s H gx => (ds_cons (ds_par2 2 3 gx rfl rfl (by decide) rfl rfl (da_cons (de_call ((d__law_pick T).up (by decide)) gx (by rfl) T.g__law_pick T.F__law_pick.kp T.b__law_pick (da_cons (de_var 0) (da_cons (de_var 1) da_nil)) (hn := (aCons_n (aCons_n aNil_n)))) (da_cons (de_call ((d__law_pick T).up (by decide)) gx (by rfl) T.g__law_pick T.F__law_pick.kp T.b__law_pick (da_cons (de_var 0) (da_cons de_int da_nil)) (hn := (aCons_n (aCons_n aNil_n)))) da_nil))) (ds_cons (ds_if (dt_cmp (ok_eq gx) (de_var 3) de_int) (ds_one (ds_ret (de_tup (da_cons de_str da_nil)))) ds_nil) (ds_cons (ds_if (dt_cmp (ok_eq gx) (de_var 3) de_int) (ds_one (ds_ret (de_tup (da_cons de_str (da_cons (de_var 2) (da_cons (de_call ((d__law_value T).up (by decide)) gx (by rfl) T.g__law_value T.F__law_value.kp T.b__law_value (da_cons (de_var 0) da_nil) (hn := (aCons_n aNil_n))) da_nil)))))) ds_nil) (ds_cons (ds_if (dt_cmp ok_lt (de_var 3) de_int) (ds_one (ds_ret (de_tup (da_cons de_str (da_cons (de_var 2) (da_cons (de_call ((d__law_value T).up (by decide)) gx (by rfl) T.g__law_value T.F__law_value.kp T.b__law_value (da_cons (de_var 0) da_nil) (hn := (aCons_n aNil_n))) da_nil)))))) ds_nil) (ds_cons (ds_if (dt_cmp (ok_eq gx) (de_var 3) de_int) (ds_one (ds_ret (de_tup (da_cons de_str (da_cons (de_var 2) (da_cons (de_call ((d__law_one_of T).up (by decide)) gx (by rfl) T.g__law_one_of T.F__law_one_of.kp T.b__law_one_of (da_cons (de_var 0) (da_cons (de_lst (da_cons de_str (da_cons de_str (da_cons de_str (da_cons de_str (da_cons de_str (da_cons de_str (da_cons de_str (da_cons de_str (da_cons de_str (da_cons de_str da_nil))))))))))) da_nil)) (hn := (aCons_n (aCons_n aNil_n)))) da_nil)))))) ds_nil) (ds_cons (ds_asg (de_op ok_add de_int (de_call ((d__law_one_of T).up (by decide)) gx (by rfl) T.g__law_one_of T.F__law_one_of.kp T.b__law_one_of (da_cons (de_var 0) (da_cons (de_lst (da_cons (de_call ((d__law_pick T).up (by decide)) gx (by rfl) T.g__law_pick T.F__law_pick.kp T.b__law_pick (da_cons (de_var 0) (da_cons de_int da_nil)) (hn := (aCons_n (aCons_n aNil_n)))) (da_cons (de_op ok_add de_int (de_call ((d__law_pick T).up (by decide)) gx (by rfl) T.g__law_pick T.F__law_pick.kp T.b__law_pick (da_cons (de_var 0) (da_cons de_int da_nil)) (hn := (aCons_n (aCons_n aNil_n))))) da_nil))) da_nil)) (hn := (aCons_n (aCons_n aNil_n))))) (dg_name 4 gx.nd)) (ds_one (ds_ret (de_tup (da_cons de_str (da_cons (de_var 2) (da_cons (de_callTy (T := "tuple") ok_tuple (by rfl) T.n_tuple (by decide +kernel) (da_cons (de_lc (own := [("turn", 5)]) gx.calm gx.nd (di_range1 (by rfl) T.n_range (da_cons (de_var 4) da_nil)) (blkOk_by (N := N__law_test) (sc := defScope s__law_test) (by decide +kernel)) (tg1 5) (fun _ _ _ _ _ => (pg_name (i := 5) gx.nd rfl (.inl rfl))) (fun _ _ _ _ _ => dts_nil) (fun _ _ _ _ _ => (de_call ((d__law_value T).up (by decide)) gx.blk (by rfl) T.g__law_value T.F__law_value.kp T.b__law_value (da_cons (de_var 0) da_nil) (hn := (aCons_n aNil_n))))) da_nil)) da_nil))))))))))))
noncomputable def g__law_condition (rec_ : FM) : FS := (sSeq (sAsg (fCall m__law_pick (aCons (fVar 0) (aCons (fC (.int 6)) aNil))) (gN 3)) (sSeq (sIf (fOrT (fTest (fOp opEq (fVar 2) (fC (.int 0)))) (fTest (fOp opLt (fVar 3) (fC (.int 2))))) (sRet (fCall m__law_test (aCons (fVar 0) (aCons (fVar 1) aNil)))) sNil) (sSeq (sIf (fTest (fOp opEq (fVar 3) (fC (.int 2)))) (sRet (fMk mkTup (aCons (fC (.str (Str.ofString "not"))) (aCons (fCall rec_ (aCons (fVar 0) (aCons (fVar 1) (aCons (fOp subI (fVar 2) (fC (.int 1))) aNil)))) aNil)))) sNil) (sSeq (sAsg (fMk mkTup (aCons (fCall rec_ (aCons (fVar 0) (aCons (fVar 1) (aCons (fOp subI (fVar 2) (fC (.int 1))) aNil)))) (aCons (fCall rec_ (aCons (fVar 0) (aCons (fVar 1) (aCons (fOp subI (fVar 2) (fC (.int 1))) aNil)))) aNil))) (gN 4)) (sRet (fOp opAdd (fMk mkTup (aCons (fCall m__law_one_of (aCons (fVar 0) (aCons (fMk mkLst (aCons (fC (.str (Str.ofString "and"))) (aCons (fC (.str (Str.ofString "or"))) aNil))) aNil))) aNil)) (fVar 4)))))))
noncomputable def m__law_condition : Nat → FM
  | 0 => fun _ _ => none
  | n + 1 => mOf N__law_condition.length (g__law_condition (m__law_condition n))
theorem d__law_condition (T : Txt K mg) : ∀ n : Nat, FnD P w K mg base (4 + n) T.a__law_condition T.f__law_condition ["tape", "width", "depth"] (m__law_condition n)
  | 0 => FnD.nil
  | n + 1 => by
    have ih : FnD P w K mg base (4 + n) T.a__law_condition T.f__law_condition ["tape", "width", "depth"] (m__law_condition n) := d__law_condition T n
    exact FnD.of (k := 4 + n) T.F__law_condition sc__law_condition fun cd A outer s H gx => (ds_cons (ds_asg (de_call ((d__law_pick T).up (by omega)) gx (by rfl) T.g__law_pick T.F__law_pick.kp T.b__law_pick (da_cons (de_var 0) (da_cons de_int da_nil)) (hn := (aCons_n (aCons_n aNil_n)))) (dg_name 3 gx.nd)) (ds_cons (ds_if (dt_w (dw_or (dt_cmp (ok_eq gx) (de_var 2) de_int) (dw_or1 (dt_cmp ok_lt (de_var 3) de_int)))) (ds_one (ds_ret (de_call ((d__law_test T).up (by omega)) gx (by rfl) T.g__law_test T.F__law_test.kp T.b__law_test (da_cons (de_var 0) (da_cons (de_var 1) da_nil)) (hn := (aCons_n (aCons_n aNil_n)))))) ds_nil) (ds_cons (ds_if (dt_cmp (ok_eq gx) (de_var 3) de_int) (ds_one (ds_ret (de_tup (da_cons de_str (da_cons (de_call ih gx (by rfl) T.g__law_condition T.F__law_condition.kp T.b__law_condition (da_cons (de_var 0) (da_cons (de_var 1) (da_cons (de_op ok_subI (de_var 2) de_int) da_nil))) (hn := (aCons_n (aCons_n (aCons_n aNil_n))))) da_nil))))) ds_nil) (ds_cons (ds_asg (de_tup (da_cons (de_call ih gx (by rfl) T.g__law_condition T.F__law_condition.kp T.b__law_condition (da_cons (de_var 0) (da_cons (de_var 1) (da_cons (de_op ok_subI (de_var 2) de_int) da_nil))) (hn := (aCons_n (aCons_n (aCons_n aNil_n))))) (da_cons (de_call ih gx (by rfl) T.g__law_condition T.F__law_condition.kp T.b__law_condition (da_cons (de_var 0) (da_cons (de_var 1) (da_cons (de_op ok_subI (de_var 2) de_int) da_nil))) (hn := (aCons_n (aCons_n (aCons_n aNil_n))))) da_nil))) (dg_name 4 gx.nd)) (ds_one (ds_ret (de_op ok_add (de_tup (da_cons (de_call ((d__law_one_of T).up (by omega)) gx (by rfl) T.g__law_one_of T.F__law_one_of.kp T.b__law_one_of (da_cons (de_var 0) (da_cons (de_lst (da_cons de_str (da_cons de_str da_nil))) da_nil)) (hn := (aCons_n (aCons_n aNil_n)))) da_nil)) (de_var 4))))))))
noncomputable abbrev q__law_view_0 : FS := (sAsg (fMk mkTup (aCons (fC (.str (Str.ofString "all"))) aNil)) (gN 2))
noncomputable abbrev q__law_view_1t_0 : FS := (sAsg (fCall (m__law_condition 5) (aCons (fVar 0) (aCons (fVar 1) (aCons (fC (.int 2)) aNil)))) (gN 2))
noncomputable abbrev q__law_view_1 : FS := (sIf (fTest (fOp opEq (fCall m__law_pick (aCons (fVar 0) (aCons (fC (.int 2)) aNil))) (fC (.int 0)))) q__law_view_1t_0 sNil)
noncomputable abbrev q__law_view_2 : FS := (sAsg (fNewL aNil) (gN 3))
noncomputable abbrev q__law_view_3l_0 : FS := (sAsg (fCall m__law_pick (aCons (fVar 0) (aCons (fVar 1) aNil))) (gN 5))
noncomputable abbrev q__law_view_3l_1t_0 : FS := (sDrop (fApp (fVar 3) (fMk mkTup (aCons (fVar 5) (aCons (fOp opEq (fCall m__law_pick (aCons (fVar 0) (aCons (fC (.int 2)) aNil))) (fC (.int 0))) aNil)))))
noncomputable abbrev q__law_view_3l_1 : FS := (sIf (fAndT (fTest (fOp opLt (fMk bLen (aCons (fVar 3) aNil)) (fC (.int 4)))) (fTest (fOp (inSeq true) (fVar 5) (fCompG (iRefL (fVar 3)) [7] b1 tTrue (fSub (fVar 7) (fC (.int 0))))))) q__law_view_3l_1t_0 sNil)
noncomputable abbrev q__law_view_3 : FS := (sFor (iOfA asR1 (aCons (fCall m__law_pick (aCons (fVar 0) (aCons (fC (.int 7)) aNil))) aNil)) (gN 4) (sSeq q__law_view_3l_0 q__law_view_3l_1))
noncomputable abbrev q__law_view_4 : FS := (sAsg (fMk bTuple (aCons (fComp (iOfA asR1 (aCons (fVar 1) aNil)) [5] b1 (fTest (fOp opGt (fCall m__law_pick (aCons (fVar 0) (aCons (fC (.int 3)) aNil))) (fC (.int 0)))) (fVar 5)) aNil)) (gN 6))
noncomputable abbrev q__law_view_5 : FS := (sRet (fMk mkTup (aCons (fVar 2) (aCons (fMk bTuple (aCons (fVar 3) aNil)) (aCons (fVar 6) aNil)))))
noncomputable def g__law_view : FS := (sSeq q__law_view_0 (sSeq q__law_view_1 (sSeq q__law_view_2 (sSeq q__law_view_3 (sSeq q__law_view_4 q__law_view_5)))))
noncomputable def m__law_view : FM := mOf N__law_view.length g__law_view
theorem d__law_view (T : Txt K mg) : FnD P w K mg base 10 T.a__law_view T.f__law_view ["tape", "width"] m__law_view := FnD.of T.F__law_view sc__law_view fun cd A outer s H gx => (ds_cons (ds_asg (de_tup (da_cons de_str da_nil)) (dg_name 2 gx.nd)) (ds_cons (ds_if (dt_cmp (ok_eq gx) (de_call ((d__law_pick T).up (by decide)) gx (by rfl) T.g__law_pick T.F__law_pick.kp T.b__law_pick (da_cons (de_var 0) (da_cons de_int da_nil)) (hn := (aCons_n (aCons_n aNil_n)))) de_int) (ds_one (ds_asg (de_call ((d__law_condition T 5).up (by decide)) gx (by rfl) T.g__law_condition T.F__law_condition.kp T.b__law_condition (da_cons (de_var 0) (da_cons (de_var 1) (da_cons de_int da_nil))) (hn := (aCons_n (aCons_n (aCons_n aNil_n))))) (dg_name 2 gx.nd))) ds_nil) (ds_cons (ds_asg (de_newL da_nil) (dg_name 3 gx.nd)) (ds_cons (ds_forR PassesOwn.never gx.calm (di_range1 (by rfl) T.n_range (da_cons (de_call ((d__law_pick T).up (by decide)) gx (by rfl) T.g__law_pick T.F__law_pick.kp T.b__law_pick (da_cons (de_var 0) (da_cons de_int da_nil)) (hn := (aCons_n (aCons_n aNil_n)))) da_nil)) (dg_name 4 gx.nd) (ds_cons (ds_asg (de_call ((d__law_pick T).up (by decide)) gx (by rfl) T.g__law_pick T.F__law_pick.kp T.b__law_pick (da_cons (de_var 0) (da_cons (de_var 1) da_nil)) (hn := (aCons_n (aCons_n aNil_n)))) (dg_name 5 gx.nd)) (ds_one (ds_if (dt_w (dw_and (dt_cmp ok_lt (de_callB (id := "len") ok_len (by rfl) T.n_len (by decide +kernel) (da_cons (de_var 3) da_nil)) de_int) (dw_and1 (dt_cmp ok_notin (de_var 5) (de_lcG (own := [("pair", 7)]) gx.calm gx.nd (di_refL (de_var 3)) (blkOk_by (N := N__law_view) (sc := defScope s__law_view) (by decide +kernel)) (tg1 7) (fun _ _ _ _ _ => (pg_name (i := 7) gx.nd rfl (.inl rfl))) (fun _ _ _ _ _ => dts_nil) (fun _ _ _ _ _ => (de_sub gx.blk (de_var 7) de_int))))))) (ds_one (ds_expr (de_append (de_var 3) (de_tup (da_cons (de_var 5) (da_cons (de_cmp (ok_eq gx) (de_call ((d__law_pick T).up (by decide)) gx (by rfl) T.g__law_pick T.F__law_pick.kp T.b__law_pick (da_cons (de_var 0) (da_cons de_int da_nil)) (hn := (aCons_n (aCons_n aNil_n)))) de_int) da_nil)))))) ds_nil)))) (ds_cons (ds_asg (de_callTy (T := "tuple") ok_tuple (by rfl) T.n_tuple (by decide +kernel) (da_cons (de_lc (own := [("column", 5)]) gx.calm gx.nd (di_range1 (by rfl) T.n_range (da_cons (de_var 1) da_nil)) (blkOk_by (N := N__law_view) (sc := defScope s__law_view) (by decide +kernel)) (tg1 5) (fun _ _ _ _ _ => (pg_name (i := 5) gx.nd rfl (.inl rfl))) (fun _ _ _ _ _ => (dts_one (dt_cmp ok_gt (de_call ((d__law_pick T).up (by decide)) gx.blk (by rfl) T.g__law_pick T.F__law_pick.kp T.b__law_pick (da_cons (de_var 0) (da_cons de_int da_nil)) (hn := (aCons_n (aCons_n aNil_n)))) de_int))) (fun _ _ _ _ _ => (de_var 5))) da_nil)) (dg_name 6 gx.nd)) (ds_one (ds_ret (de_tup (da_cons (de_var 2) (da_cons (de_callTy (T := "tuple") ok_tuple (by rfl) T.n_tuple (by decide +kernel) (da_cons (de_var 3) da_nil)) (da_cons (de_var 6) da_nil)))))))))))
noncomputable abbrev q_Table___init___0t_0 : FS := sNever
noncomputable abbrev q_Table___init___0 : FS := (sIf (fNotT (fTest (fCall m_is_columns (aCons (fVar 1) aNil)))) q_Table___init___0t_0 sNil)
noncomputable abbrev q_Table___init___1 : FS := (sFldD "Table" "_columns" (fVar 0) (fVar 1))
noncomputable abbrev q_Table___init___2 : FS := (sFldD "Table" "_present" (fVar 0) (fC (.int 0)))
noncomputable abbrev q_Table___init___3 : FS := (sFldD "Table" "_steps" (fVar 0) (fDict (((fC (.int 0)), (fC (.dct []))) :: [])))
noncomputable abbrev q_Table___init___4 : FS := (sFldD "Table" "_states" (fVar 0) fNewD)
noncomputable def g_Table___init__ : FS := (sSeq q_Table___init___0 (sSeq q_Table___init___1 (sSeq q_Table___init___2 (sSeq q_Table___init___3 q_Table___init___4))))
noncomputable def m_Table___init__ : FM := mOf N_Table___init__.length g_Table___init__
theorem d_Table___init__ (T : Txt K mg) : FnD P w K mg base 4 T.a_Table___init__ T.f_Table___init__ ["self", "columns"] m_Table___init__ := FnD.of T.F_Table___init__ sc_Table___init__ fun cd A outer s H gx => (ds_cons (ds_if (dt_not (dt_val (de_call ((d_is_columns T).up (by decide)) gx (by rfl) T.g_is_columns T.F_is_columns.kp T.b_is_columns (da_cons (de_var 1) da_nil) (hn := (aCons_n aNil_n))))) (ds_one ds_never) ds_nil) (ds_cons (ds_fld T.K_Table T.na_Table__columns (de_var 0) (de_var 1)) (ds_cons (ds_fld T.K_Table T.na_Table__present (de_var 0) de_int) (ds_cons (ds_fld T.K_Table T.na_Table__steps (de_var 0) (de_dict (.cons de_int de_dict0 .nil))) (ds_one (ds_fld T.K_Table T.na_Table__states (de_var 0) de_newD))))))
noncomputable abbrev q_Table__change_0 : FS := (sAsg (fOp opAdd (fFld "Table" "_present" (fVar 0)) (fC (.int 1))) (gN 2))
noncomputable abbrev q_Table__change_1 : FS := (sAsg fNewD (gN 3))
noncomputable abbrev q_Table__change_2l_0 : FS := (sAsg (fSub (fVar 1) (fVar 4)) (gN 5))
noncomputable abbrev q_Table__change_2l_1t_0 : FS := (sPut (fVar 3) (fVar 4) (fIfE (fTest (fOp opIs (fVar 5) (fC .non))) (fC .non) (fMk mkTup (aCons (fVar 2) (aCons (fVar 5) aNil)))))
noncomputable abbrev q_Table__change_2l_1 : FS := (sIf (fTest (fOp opNe (fVar 5) (fCall m_values_of (aCons (fGet1 (fFld "Table" "_states" (fVar 0)) (fVar 4)) aNil)))) q_Table__change_2l_1t_0 sNil)
noncomputable abbrev q_Table__change_2 : FS := (sFor (iFrz kKeys (fVar 1)) (gN 4) (sSeq q_Table__change_2l_0 q_Table__change_2l_1))
noncomputable abbrev q_Table__change_3t_0 : FS := (sDrop (fCall m_take_step (aCons (fFld "Table" "_states" (fVar 0)) (aCons (fVar 3) aNil))))
noncomputable abbrev q_Table__change_3t_1 : FS := (sPut (fFld "Table" "_steps" (fVar 0)) (fVar 2) (fVar 3))
noncomputable abbrev q_Table__change_3t_2 : FS := (sFldD "Table" "_present" (fVar 0) (fVar 2))
noncomputable abbrev q_Table__change_3 : FS := (sSeq (sFrzV 3) (sIf (fTest (fOp opGt (fMk bLen (aCons (fVar 3) aNil)) (fC (.int 0)))) (sSeq q_Table__change_3t_0 (sSeq q_Table__change_3t_1 q_Table__change_3t_2)) sNil))
noncomputable abbrev q_Table__change_4 : FS := (sRet (fFld "Table" "_present" (fVar 0)))
noncomputable def g_Table__change : FS := (sSeq q_Table__change_0 (sSeq q_Table__change_1 (sSeq q_Table__change_2 (sSeq q_Table__change_3 q_Table__change_4))))
noncomputable def m_Table__change : FM := mOf N_Table__change.length g_Table__change
theorem d_Table__change (T : Txt K mg) : FnD P w K mg base 2 T.a_Table__change T.f_Table__change ["self", "rows"] m_Table__change := FnD.of T.F_Table__change sc_Table__change fun cd A outer s H gx => (ds_cons (ds_asg (de_op ok_add (de_fld T.K_Table T.na_Table__present (de_var 0)) de_int) (dg_name 2 gx.nd)) (ds_cons (ds_asg de_newD (dg_name 3 gx.nd)) (ds_cons (ds_forR PassesOwn.never gx.calm (di_keysF (de_var 1)) (dg_name 4 gx.nd) (ds_cons (ds_asg (de_sub gx (de_var 1) (de_var 4)) (dg_name 5 gx.nd)) (ds_one (ds_if (dt_cmp (ok_ne gx) (de_var 5) (de_call ((d_values_of T).up (by decide)) gx (by rfl) T.g_values_of T.F_values_of.kp T.b_values_of (da_cons (de_get1 gx (de_fld T.K_Table T.na_Table__states (de_var 0)) (de_var 4) ⟨rfl, rfl, rfl, rfl⟩) da_nil) (hn := (aCons_n aNil_n)))) (ds_one (ds_put gx (de_var 3) (de_var 4) (de_if (dt_cmp ok_is (de_var 5) de_non) de_non (de_tup (da_cons (de_var 2) (da_cons (de_var 5) da_nil)))))) ds_nil)))) (ds_cons (ds_frzV 3 (ds_if (dt_cmp ok_gt (de_callB (id := "len") ok_len (by rfl) T.n_len (by decide +kernel) (da_cons (de_var 3) da_nil)) de_int) (ds_cons (ds_expr (de_call ((d_take_step T).up (by decide)) gx (by rfl) T.g_take_step T.F_take_step.kp T.b_take_step (da_cons (de_fld T.K_Table T.na_Table__states (de_var 0)) (da_cons (de_var 3) da_nil)) (hn := (aCons_n (aCons_n aNil_n))))) (ds_cons (ds_put gx (de_fld T.K_Table T.na_Table__steps (de_var 0)) (de_var 2) (de_var 3)) (ds_one (ds_fld T.K_Table T.na_Table__present (de_var 0) (de_var 2))))) ds_nil)) (ds_one (ds_ret (de_fld T.K_Table T.na_Table__present (de_var 0))))))))
noncomputable abbrev q_Table_put_row_0 : FS := (sAsg (fMk mkTup (aCons (fVar 1) (aCons (fVar 2) aNil))) (gN 3))
noncomputable abbrev q_Table_put_row_1t_0 : FS := sNever
noncomputable abbrev q_Table_put_row_1 : FS := (sIf (fNotT (fTest (fCall m_is_row (aCons (fFld "Table" "_columns" (fVar 0)) (aCons (fVar 3) aNil))))) q_Table_put_row_1t_0 sNil)
noncomputable abbrev q_Table_put_row_2 : FS := (sRet (fMeth "Table" "_change" m_Table__change (fVar 0) (aCons (fFrz (fDict (((fVar 1), (fVar 2)) :: []))) aNil)))
noncomputable def g_Table_put_row : FS := (sSeq q_Table_put_row_0 (sSeq q_Table_put_row_1 q_Table_put_row_2))
noncomputable def m_Table_put_row : FM := mOf N_Table_put_row.length g_Table_put_row
theorem d_Table_put_row (T : Txt K mg) : FnD P w K mg base 4 T.a_Table_put_row T.f_Table_put_row ["self", "row_id", "values"] m_Table_put_row := FnD.of T.F_Table_put_row sc_Table_put_row fun cd A outer s H gx => (ds_cons (ds_asg (de_tup (da_cons (de_var 1) (da_cons (de_var 2) da_nil))) (dg_name 3 gx.nd)) (ds_cons (ds_if (dt_not (dt_val (de_call ((d_is_row T).up (by decide)) gx (by rfl) T.g_is_row T.F_is_row.kp T.b_is_row (da_cons (de_fld T.K_Table T.na_Table__columns (de_var 0)) (da_cons (de_var 3) da_nil)) (hn := (aCons_n (aCons_n aNil_n)))))) (ds_one ds_never) ds_nil) (ds_one (ds_ret (de_meth T.K_Table T.M_Table__change ((d_Table__change T).up (by decide)) gx T.b_Table__change (de_var 0) (da_cons (de_frz (de_dict (.cons (de_var 1) (de_var 2) .nil))) da_nil) (hn := (aCons_n aNil_n)))))))
noncomputable abbrev q_Listing_drop_key_0 : FS := (sAsg (fCall m_key_place (aCons (fFld "Listing" "_view" (fVar 0)) (aCons (fVar 1) aNil))) (gN 2))
noncomputable abbrev q_Listing_drop_key_1 : FS := (sAsg (fCall m_first_from (aCons (fFld "Listing" "_places" (fVar 0)) (aCons (fVar 2) aNil))) (gN 3))
noncomputable abbrev q_Listing_drop_key_2t_0 : FS := (sRet (fC (.bl false)))
noncomputable abbrev q_Listing_drop_key_2 : FS := (sIf (fNotT (fTest (fMeth "Listing" "_holds" m_Listing__holds (fVar 0) (aCons (fVar 3) (aCons (fVar 2) aNil))))) q_Listing_drop_key_2t_0 sNil)
noncomputable abbrev q_Listing_drop_key_3 : FS := (sDelI (fFld "Listing" "_places" (fVar 0)) (fVar 3))
noncomputable abbrev q_Listing_drop_key_4 : FS := (sDelI (fFld "Listing" "_keys" (fVar 0)) (fVar 3))
noncomputable abbrev q_Listing_drop_key_5 : FS := (sDelI (fFld "Listing" "_versions" (fVar 0)) (fVar 3))
noncomputable abbrev q_Listing_drop_key_6 : FS := (sRet (fC (.bl true)))
noncomputable def g_Listing_drop_key : FS := (sSeq q_Listing_drop_key_0 (sSeq q_Listing_drop_key_1 (sSeq q_Listing_drop_key_2 (sSeq q_Listing_drop_key_3 (sSeq q_Listing_drop_key_4 (sSeq q_Listing_drop_key_5 q_Listing_drop_key_6))))))
noncomputable def m_Listing_drop_key : FM := mOf N_Listing_drop_key.length g_Listing_drop_key
theorem d_Listing_drop_key (T : Txt K mg) : FnD P w K mg base 4 T.a_Listing_drop_key T.f_Listing_drop_key ["self", "key"] m_Listing_drop_key := FnD.of T.F_Listing_drop_key sc_Listing_drop_key fun cd A outer s H gx => (ds_cons (ds_asg (de_call ((d_key_place T).up (by decide)) gx (by rfl) T.g_key_place T.F_key_place.kp T.b_key_place (da_cons (de_fld T.K_Listing T.na_Listing__view (de_var 0)) (da_cons (de_var 1) da_nil)) (hn := (aCons_n (aCons_n aNil_n)))) (dg_name 2 gx.nd)) (ds_cons (ds_asg (de_call ((d_first_from T).up (by decide)) gx (by rfl) T.g_first_from T.F_first_from.kp T.b_first_from (da_cons (de_fld T.K_Listing T.na_Listing__places (de_var 0)) (da_cons (de_var 2) da_nil)) (hn := (aCons_n (aCons_n aNil_n)))) (dg_name 3 gx.nd)) (ds_cons (ds_if (dt_not (dt_val (de_meth T.K_Listing T.M_Listing__holds ((d_Listing__holds T).up (by decide)) gx T.b_Listing__holds (de_var 0) (da_cons (de_var 3) (da_cons (de_var 2) da_nil)) (hn := (aCons_n (aCons_n aNil_n)))))) (ds_one (ds_ret de_bl)) ds_nil) (ds_cons (ds_delI (de_fld T.K_Listing T.na_Listing__places (de_var 0)) (de_var 3)) (ds_cons (ds_delI (de_fld T.K_Listing T.na_Listing__keys (de_var 0)) (de_var 3)) (ds_cons (ds_delI (de_fld T.K_Listing T.na_Listing__versions (de_var 0)) (de_var 3)) (ds_one (ds_ret de_bl))))))))
noncomputable abbrev q_Listing_key_at_0t_0 : FS := sNever
noncomputable abbrev q_Listing_key_at_0 : FS := (sIf (fNotT (fTest (fChain opLe opLt (fC (.int 0)) (fVar 1) (fMk bLen (aCons (fFld "Listing" "_keys" (fVar 0)) aNil))))) q_Listing_key_at_0t_0 sNil)
noncomputable abbrev q_Listing_key_at_1 : FS := (sRet (fMk bTuple (aCons (fMk bList (aCons (fSub (fFld "Listing" "_keys" (fVar 0)) (fVar 1)) aNil)) aNil)))
noncomputable def g_Listing_key_at : FS := (sSeq q_Listing_key_at_0 q_Listing_key_at_1)
noncomputable def m_Listing_key_at : FM := mOf N_Listing_key_at.length g_Listing_key_at
theorem d_Listing_key_at (T : Txt K mg) : FnD P w K mg base 1 T.a_Listing_key_at T.f_Listing_key_at ["self", "place"] m_Listing_key_at := FnD.of T.F_Listing_key_at sc_Listing_key_at fun cd A outer s H gx => (ds_cons (ds_if (dt_not (dt_chain ok_le ok_lt de_int (de_var 1) (de_callB (id := "len") ok_len (by rfl) T.n_len (by decide +kernel) (da_cons (de_fld T.K_Listing T.na_Listing__keys (de_var 0)) da_nil)))) (ds_one ds_never) ds_nil) (ds_one (ds_ret (de_callTy (T := "tuple") ok_tuple (by rfl) T.n_tuple (by decide +kernel) (da_cons (de_callTy (T := "list") (ok_list gx) (by rfl) T.n_list (by decide +kernel) (da_cons (de_sub gx (de_fld T.K_Listing T.na_Listing__keys (de_var 0)) (de_var 1)) da_nil)) da_nil)))))
noncomputable abbrev q_Listing_rank_of_0t_0 : FS := (sRet (fC (.int 0)))
noncomputable abbrev q_Listing_rank_of_0 : FS := (sIf (fTest (fOp opEq (fSub (fVar 1) (fC (.int 0))) (fC (.str (Str.ofString "start"))))) q_Listing_rank_of_0t_0 sNil)
noncomputable abbrev q_Listing_rank_of_1t_0 : FS := (sRet (fMk bLen (aCons (fFld "Listing" "_keys" (fVar 0)) aNil)))
noncomputable abbrev q_Listing_rank_of_1 : FS := (sIf (fTest (fOp opEq (fSub (fVar 1) (fC (.int 0))) (fC (.str (Str.ofString "end"))))) q_Listing_rank_of_1t_0 sNil)
noncomputable abbrev q_Listing_rank_of_2 : FS := (sAsg (fCall m_key_place (aCons (fFld "Listing" "_view" (fVar 0)) (aCons (fSub (fVar 1) (fC (.int 1))) aNil))) (gN 2))
noncomputable abbrev q_Listing_rank_of_3 : FS := (sAsg (fCall m_first_from (aCons (fFld "Listing" "_places" (fVar 0)) (aCons (fVar 2) aNil))) (gN 3))
noncomputable abbrev q_Listing_rank_of_4t_0 : FS := (sRet (fOp opAdd (fVar 3) (fC (.int 1))))
noncomputable abbrev q_Listing_rank_of_4 : FS := (sIf (fAndT (fTest (fOp opEq (fSub (fVar 1) (fC (.int 0))) (fC (.str (Str.ofString "after"))))) (fTest (fMeth "Listing" "_holds" m_Listing__holds (fVar 0) (aCons (fVar 3) (aCons (fVar 2) aNil))))) q_Listing_rank_of_4t_0 sNil)
noncomputable abbrev q_Listing_rank_of_5 : FS := (sRet (fVar 3))
noncomputable def g_Listing_rank_of : FS := (sSeq q_Listing_rank_of_0 (sSeq q_Listing_rank_of_1 (sSeq q_Listing_rank_of_2 (sSeq q_Listing_rank_of_3 (sSeq q_Listing_rank_of_4 q_Listing_rank_of_5)))))
noncomputable def m_Listing_rank_of : FM := mOf N_Listing_rank_of.length g_Listing_rank_of
theorem d_Listing_rank_of (T : Txt K mg) : FnD P w K mg base 4 T.a_Listing_rank_of T.f_Listing_rank_of ["self", "mark"] m_Listing_rank_of := FnD.of T.F_Listing_rank_of sc_Listing_rank_of fun cd A outer s H gx => (ds_cons (ds_if (dt_cmp (ok_eq gx) (de_sub gx (de_var 1) de_int) de_str) (ds_one (ds_ret de_int)) ds_nil) (ds_cons (ds_if (dt_cmp (ok_eq gx) (de_sub gx (de_var 1) de_int) de_str) (ds_one (ds_ret (de_callB (id := "len") ok_len (by rfl) T.n_len (by decide +kernel) (da_cons (de_fld T.K_Listing T.na_Listing__keys (de_var 0)) da_nil)))) ds_nil) (ds_cons (ds_asg (de_call ((d_key_place T).up (by decide)) gx (by rfl) T.g_key_place T.F_key_place.kp T.b_key_place (da_cons (de_fld T.K_Listing T.na_Listing__view (de_var 0)) (da_cons (de_sub gx (de_var 1) de_int) da_nil)) (hn := (aCons_n (aCons_n aNil_n)))) (dg_name 2 gx.nd)) (ds_cons (ds_asg (de_call ((d_first_from T).up (by decide)) gx (by rfl) T.g_first_from T.F_first_from.kp T.b_first_from (da_cons (de_fld T.K_Listing T.na_Listing__places (de_var 0)) (da_cons (de_var 2) da_nil)) (hn := (aCons_n (aCons_n aNil_n)))) (dg_name 3 gx.nd)) (ds_cons (ds_if (dt_w (dw_and (dt_cmp (ok_eq gx) (de_sub gx (de_var 1) de_int) de_str) (dw_and1 (dt_val (de_meth T.K_Listing T.M_Listing__holds ((d_Listing__holds T).up (by decide)) gx T.b_Listing__holds (de_var 0) (da_cons (de_var 3) (da_cons (de_var 2) da_nil)) (hn := (aCons_n (aCons_n aNil_n)))))))) (ds_one (ds_ret (de_op ok_add (de_var 3) de_int))) ds_nil) (ds_one (ds_ret (de_var 3))))))))
noncomputable abbrev q_Listing__versions_between_0 : FS := (sRet (fSliceO (fFld "Listing" "_versions" (fVar 0)) (oSome (fMeth "Listing" "rank_of" m_Listing_rank_of (fVar 0) (aCons (fVar 1) aNil))) (oSome (fMeth "Listing" "rank_of" m_Listing_rank_of (fVar 0) (aCons (fVar 2) aNil)))))
noncomputable def g_Listing__versions_between : FS := q_Listing__versions_between_0
noncomputable def m_Listing__versions_between : FM := mOf N_Listing__versions_between.length g_Listing__versions_between
theorem d_Listing__versions_between (T : Txt K mg) : FnD P w K mg base 5 T.a_Listing__versions_between T.f_Listing__versions_between ["self", "low", "high"] m_Listing__versions_between := FnD.of T.F_Listing__versions_between sc_Listing__versions_between fun cd A outer s H gx => (ds_one (ds_ret (de_sliceO (de_fld T.K_Listing T.na_Listing__versions (de_var 0)) (do_some (de_meth T.K_Listing T.M_Listing_rank_of ((d_Listing_rank_of T).up (by decide)) gx T.b_Listing_rank_of (de_var 0) (da_cons (de_var 1) da_nil) (hn := (aCons_n aNil_n)))) (do_some (de_meth T.K_Listing T.M_Listing_rank_of ((d_Listing_rank_of T).up (by decide)) gx T.b_Listing_rank_of (de_var 0) (da_cons (de_var 2) da_nil) (hn := (aCons_n aNil_n)))))))
noncomputable abbrev q_Listing_count_between_0 : FS := (sRet (fMk bLen (aCons (fMeth "Listing" "_versions_between" m_Listing__versions_between (fVar 0) (aCons (fVar 1) (aCons (fVar 2) aNil))) aNil)))
noncomputable def g_Listing_count_between : FS := q_Listing_count_between_0
noncomputable def m_Listing_count_between : FM := mOf N_Listing_count_between.length g_Listing_count_between
theorem d_Listing_count_between (T : Txt K mg) : FnD P w K mg base 6 T.a_Listing_count_between T.f_Listing_count_between ["self", "low", "high"] m_Listing_count_between := FnD.of T.F_Listing_count_between sc_Listing_count_between fun cd A outer s H gx => (ds_one (ds_ret (de_callB (id := "len") ok_len (by rfl) T.n_len (by decide +kernel) (da_cons (de_meth T.K_Listing T.M_Listing__versions_between ((d_Listing__versions_between T).up (by decide)) gx T.b_Listing__versions_between (de_var 0) (da_cons (de_var 1) (da_cons (de_var 2) da_nil)) (hn := (aCons_n (aCons_n aNil_n)))) da_nil))))
noncomputable abbrev q_Listing_unchanged_between_0 : FS := (sRet (fMk bLen (aCons (fComp (iOf asL (fMeth "Listing" "_versions_between" m_Listing__versions_between (fVar 0) (aCons (fVar 1) (aCons (fVar 2) aNil)))) [4] b1 (fTest (fOp opLe (fVar 4) (fVar 3))) (fVar 4)) aNil)))
noncomputable def g_Listing_unchanged_between : FS := q_Listing_unchanged_between_0
noncomputable def m_Listing_unchanged_between : FM := mOf N_Listing_unchanged_between.length g_Listing_unchanged_between
theorem d_Listing_unchanged_between (T : Txt K mg) : FnD P w K mg base 6 T.a_Listing_unchanged_between T.f_Listing_unchanged_between ["self", "low", "high", "version"] m_Listing_unchanged_between := FnD.of T.F_Listing_unchanged_between sc_Listing_unchanged_between fun cd A outer s H gx => (ds_one (ds_ret (de_callB (id := "len") ok_len (by rfl) T.n_len (by decide +kernel) (da_cons (de_lc (own := [("changed", 4)]) gx.calm gx.nd (di_lst (de_meth T.K_Listing T.M_Listing__versions_between ((d_Listing__versions_between T).up (by decide)) gx T.b_Listing__versions_between (de_var 0) (da_cons (de_var 1) (da_cons (de_var 2) da_nil)) (hn := (aCons_n (aCons_n aNil_n))))) (blkOk_by (N := N_Listing_unchanged_between) (sc := defScope s_Listing_unchanged_between) (by decide +kernel)) (tg1 4) (fun _ _ _ _ _ => (pg_name (i := 4) gx.nd rfl (.inl rfl))) (fun _ _ _ _ _ => (dts_one (dt_cmp ok_le (de_var 4) (de_var 3)))) (fun _ _ _ _ _ => (de_var 4))) da_nil))))
noncomputable abbrev q_Listing_keys_after_0 : FS := (sAsg (fMeth "Listing" "rank_of" m_Listing_rank_of (fVar 0) (aCons (fVar 1) aNil)) (gN 3))
noncomputable abbrev q_Listing_keys_after_1 : FS := (sRet (fSliceO (fFld "Listing" "_keys" (fVar 0)) (oSome (fVar 3)) (oSome (fOp opAdd (fVar 3) (fVar 2)))))
noncomputable def g_Listing_keys_after : FS := (sSeq q_Listing_keys_after_0 q_Listing_keys_after_1)
noncomputable def m_Listing_keys_after : FM := mOf N_Listing_keys_after.length g_Listing_keys_after
theorem d_Listing_keys_after (T : Txt K mg) : FnD P w K mg base 5 T.a_Listing_keys_after T.f_Listing_keys_after ["self", "mark", "limit"] m_Listing_keys_after := FnD.of T.F_Listing_keys_after sc_Listing_keys_after fun cd A outer s H gx => (ds_cons (ds_asg (de_meth T.K_Listing T.M_Listing_rank_of ((d_Listing_rank_of T).up (by decide)) gx T.b_Listing_rank_of (de_var 0) (da_cons (de_var 1) da_nil) (hn := (aCons_n aNil_n))) (dg_name 3 gx.nd)) (ds_one (ds_ret (de_sliceO (de_fld T.K_Listing T.na_Listing__keys (de_var 0)) (do_some (de_var 3)) (do_some (de_op ok_add (de_var 3) (de_var 2)))))))
noncomputable abbrev q_Listing_keys_before_0 : FS := (sAsg (fMeth "Listing" "rank_of" m_Listing_rank_of (fVar 0) (aCons (fVar 1) aNil)) (gN 3))
noncomputable abbrev q_Listing_keys_before_1 : FS := (sRet (fRevL (fSliceO (fFld "Listing" "_keys" (fVar 0)) (oSome (fMk bMax (aCons (fC (.int 0)) (aCons (fOp subI (fVar 3) (fVar 2)) aNil)))) (oSome (fVar 3)))))
noncomputable def g_Listing_keys_before : FS := (sSeq q_Listing_keys_before_0 q_Listing_keys_before_1)
noncomputable def m_Listing_keys_before : FM := mOf N_Listing_keys_before.length g_Listing_keys_before
theorem d_Listing_keys_before (T : Txt K mg) : FnD P w K mg base 5 T.a_Listing_keys_before T.f_Listing_keys_before ["self", "mark", "limit"] m_Listing_keys_before := FnD.of T.F_Listing_keys_before sc_Listing_keys_before fun cd A outer s H gx => (ds_cons (ds_asg (de_meth T.K_Listing T.M_Listing_rank_of ((d_Listing_rank_of T).up (by decide)) gx T.b_Listing_rank_of (de_var 0) (da_cons (de_var 1) da_nil) (hn := (aCons_n aNil_n))) (dg_name 3 gx.nd)) (ds_one (ds_ret (de_revL (de_sliceO (de_fld T.K_Listing T.na_Listing__keys (de_var 0)) (do_some (de_callB (id := "max") (ok_max gx) (by rfl) T.n_max (by decide +kernel) (da_cons de_int (da_cons (de_op ok_subI (de_var 3) (de_var 2)) da_nil)))) (do_some (de_var 3)))))))
noncomputable abbrev q_law_0 : FS := (sAsg (fCall m__law_tape (aCons (fVar 0) (aCons (fC (.int 0)) aNil))) (gN 1))
noncomputable abbrev q_law_1 : FS := (sAsg (fCall m__law_view (aCons (fVar 1) (aCons (fC (.int 2)) aNil))) (gN 2))
noncomputable abbrev q_law_2 : FS := (sPar (par2 3 4) (aCons (fMake "Listing" m_Listing___init__ (aCons (fVar 2) aNil)) (aCons (fMakeK "Listing" m_Listing___init__ [0, 1] aNil (aCons (fVar 2) aNil)) aNil)))
noncomputable abbrev q_law_3 : FS := (sAsg (fMake "Table" m_Table___init__ (aCons (fMk mkTup (aCons (fC (.str (Str.ofString "a"))) (aCons (fC (.str (Str.ofString "b"))) aNil))) aNil)) (gN 5))
noncomputable abbrev q_law_4 : FS := (sAsg (fNewL aNil) (gN 6))
noncomputable abbrev q_law_5l_0 : FS := (sAsg (fCall m__law_values (aCons (fVar 1) (aCons (fC (.int 2)) aNil))) (gN 8))
noncomputable abbrev q_law_5l_1 : FS := (sDrop (fApp (fVar 6) (fOp opAdd (fMk bTuple (aCons (fComp (iOf asT (fSub (fVar 2) (fC (.int 1)))) [13] b1 tTrue (fSub (fVar 8) (fSub (fVar 13) (fC (.int 0))))) aNil)) (fMk mkTup (aCons (fOp opAdd (fVar 7) (fC (.int 1))) aNil)))))
noncomputable abbrev q_law_5l_2 : FS := (sDrop (fMeth "Listing" "add_key" m_Listing_add_key (fVar 3) (aCons (fSub (fVar 6) (fVar 7)) (aCons (fVar 7) aNil))))
noncomputable abbrev q_law_5l_3 : FS := (sDrop (fMethK "Listing" "add_key" m_Listing_add_key [0, 2, 1] (fVar 4) aNil (aCons (fVar 7) (aCons (fSub (fVar 6) (fVar 7)) aNil))))
noncomputable abbrev q_law_5l_4 : FS := (sDrop (fMeth "Table" "put_row" m_Table_put_row (fVar 5) (aCons (fOp opAdd (fVar 7) (fC (.int 1))) (aCons (fVar 8) aNil))))
noncomputable abbrev q_law_5 : FS := (sFor (iOfA asR1 (aCons (fC (.int 8)) aNil)) (gN 7) (sSeq q_law_5l_0 (sSeq q_law_5l_1 (sSeq q_law_5l_2 (sSeq q_law_5l_3 q_law_5l_4)))))
noncomputable abbrev q_law_6t_0 : FS := (sRet (fC (.bl false)))
noncomputable abbrev q_law_6 : FS := (sIf (fTest (fOp opNeS (fMk bReprA (aCons (fMeth "Listing" "drop_key" m_Listing_drop_key (fVar 3) (aCons (fSub (fVar 6) (fC (.int 7))) aNil)) aNil)) (fMk bReprA (aCons (fMethK "Listing" "drop_key" m_Listing_drop_key [0, 1] (fVar 4) aNil (aCons (fSub (fVar 6) (fC (.int 7))) aNil)) aNil)))) q_law_6t_0 sNil)
noncomputable abbrev q_law_7 : FS := (sPar (par2 9 10) (aCons (fMk mkTup (aCons (fC (.str (Str.ofString "start"))) aNil)) (aCons (fMk mkTup (aCons (fC (.str (Str.ofString "after"))) (aCons (fCall m__law_one_of (aCons (fVar 1) (aCons (fVar 6) aNil))) aNil))) aNil)))
noncomputable abbrev q_law_8 : FS := (sAsg (fNewL (aCons (fMk mkTup (aCons (fMeth "Listing" "rank_of" m_Listing_rank_of (fVar 3) (aCons (fVar 10) aNil)) (aCons (fMethK "Listing" "rank_of" m_Listing_rank_of [0, 1] (fVar 4) aNil (aCons (fVar 10) aNil)) aNil))) (aCons (fMk mkTup (aCons (fMeth "Listing" "key_at" m_Listing_key_at (fVar 3) (aCons (fC (.int 3)) aNil)) (aCons (fMethK "Listing" "key_at" m_Listing_key_at [0, 1] (fVar 4) aNil (aCons (fC (.int 3)) aNil)) aNil))) aNil))) (gN 11))
noncomputable abbrev q_law_9 : FS := (sDrop (fApp (fVar 11) (fMk mkTup (aCons (fMeth "Listing" "count_between" m_Listing_count_between (fVar 3) (aCons (fVar 9) (aCons (fVar 10) aNil))) (aCons (fMethK "Listing" "count_between" m_Listing_count_between [0, 2, 1] (fVar 4) aNil (aCons (fVar 10) (aCons (fVar 9) aNil))) aNil)))))
noncomputable abbrev q_law_10 : FS := (sDrop (fApp (fVar 11) (fMk mkTup (aCons (fMeth "Listing" "unchanged_between" m_Listing_unchanged_between (fVar 3) (aCons (fVar 9) (aCons (fVar 10) (aCons (fC (.int 4)) aNil)))) (aCons (fMethK "Listing" "unchanged_between" m_Listing_unchanged_between [0, 3, 2, 1] (fVar 4) aNil (aCons (fC (.int 4)) (aCons (fVar 10) (aCons (fVar 9) aNil)))) aNil)))))
noncomputable abbrev q_law_11 : FS := (sDrop (fApp (fVar 11) (fMk mkTup (aCons (fMeth "Listing" "keys_after" m_Listing_keys_after (fVar 3) (aCons (fVar 10) (aCons (fC (.int 3)) aNil))) (aCons (fMethK "Listing" "keys_after" m_Listing_keys_after [0, 2, 1] (fVar 4) aNil (aCons (fC (.int 3)) (aCons (fVar 10) aNil))) aNil)))))
noncomputable abbrev q_law_12 : FS := (sDrop (fApp (fVar 11) (fMk mkTup (aCons (fMeth "Listing" "keys_before" m_Listing_keys_before (fVar 3) (aCons (fVar 10) (aCons (fC (.int 3)) aNil))) (aCons (fMethK "Listing" "keys_before" m_Listing_keys_before [0, 2, 1] (fVar 4) aNil (aCons (fC (.int 3)) (aCons (fVar 10) aNil))) aNil)))))
noncomputable abbrev q_law_13 : FS := (sAsg (fCallK m_listing_of [2, 1, 0] aNil (aCons (fC (.int 8)) (aCons (fVar 2) (aCons (fVar 5) aNil)))) (gN 12))
noncomputable abbrev q_law_14 : FS := (sDrop (fApp (fVar 11) (fMk mkTup (aCons (fMeth "Listing" "keys_after" m_Listing_keys_after (fCall m_listing_of (aCons (fVar 5) (aCons (fVar 2) (aCons (fC (.int 8)) aNil)))) (aCons (fVar 9) (aCons (fC (.int 9)) aNil))) (aCons (fMeth "Listing" "keys_after" m_Listing_keys_after (fVar 12) (aCons (fVar 9) (aCons (fC (.int 9)) aNil))) aNil)))))
noncomputable abbrev q_law_15 : FS := (sRet (fOp opEq (fCompG (iRefL (fVar 11)) [13] b1 (fTest (fOp opNeS (fMk bReprA (aCons (fSub (fVar 13) (fC (.int 0))) aNil)) (fMk bReprA (aCons (fSub (fVar 13) (fC (.int 1))) aNil)))) (fVar 13)) (fMk mkLst aNil)))
noncomputable def g_law : FS := (sSeq q_law_0 (sSeq q_law_1 (sSeq q_law_2 (sSeq q_law_3 (sSeq q_law_4 (sSeq q_law_5 (sSeq q_law_6 (sSeq q_law_7 (sSeq q_law_8 (sSeq q_law_9 (sSeq q_law_10 (sSeq q_law_11 (sSeq q_law_12 (sSeq q_law_13 (sSeq q_law_14 q_law_15)))))))))))))))
noncomputable def m_law : FM := mOf N_law.length g_law
theorem d_law (T : Txt K mg) : FnD P w K mg base 11 T.a_law T.f_law ["script"] m_law := FnD.of T.F_law sc_law fun cd A outer s H gx => (ds_cons (ds_asg (de_call ((d__law_tape T).up (by decide)) gx (by rfl) T.g__law_tape T.F__law_tape.kp T.b__law_tape (da_cons (de_var 0) (da_cons de_int da_nil)) (hn := (aCons_n (aCons_n aNil_n)))) (dg_name 1 gx.nd)) (ds_cons (ds_asg (de_call ((d__law_view T).up (by decide)) gx (by rfl) T.g__law_view T.F__law_view.kp T.b__law_view (da_cons (de_var 1) (da_cons de_int da_nil)) (hn := (aCons_n (aCons_n aNil_n)))) (dg_name 2 gx.nd)) (ds_cons (ds_par2 3 4 gx rfl rfl (by decide) rfl rfl (da_cons (de_make T.mk_Listing T.K_Listing.at_ ((d_Listing___init__ T).up (by decide)) gx (by rfl) T.g_Listing T.b_Listing___init__ (da_cons (de_var 2) da_nil) (hn := (aCons_n aNil_n))) (da_cons (de_makeK0 T.mk_Listing T.K_Listing.at_ ((d_Listing___init__ T).up (by decide)) gx (by rfl) T.g_Listing (kb_of T.F_Listing___init__ (n := 1) (ks := ["view"]) (is := [0, 1]) (by decide) rfl (fun _ _ _ _ _ _ us ws h1 h2 => match us, h1, ws, h2 with | [_], _, [_], _ => rfl)) (dk_cons (de_var 2) dk_nil) (hn2 := (aCons_n aNil_n))) da_nil))) (ds_cons (ds_asg (de_make T.mk_Table T.K_Table.at_ ((d_Table___init__ T).up (by decide)) gx (by rfl) T.g_Table T.b_Table___init__ (da_cons (de_tup (da_cons de_str (da_cons de_str da_nil))) da_nil) (hn := (aCons_n aNil_n))) (dg_name 5 gx.nd)) (ds_cons (ds_asg (de_newL da_nil) (dg_name 6 gx.nd)) (ds_cons (ds_forR PassesOwn.never gx.calm (di_range1 (by rfl) T.n_range (da_cons de_int da_nil)) (dg_name 7 gx.nd) (ds_cons (ds_asg (de_call ((d__law_values T).up (by decide)) gx (by rfl) T.g__law_values T.F__law_values.kp T.b__law_values (da_cons (de_var 1) (da_cons de_int da_nil)) (hn := (aCons_n (aCons_n aNil_n)))) (dg_name 8 gx.nd)) (ds_cons (ds_expr (de_append (de_var 6) (de_op ok_add (de_callTy (T := "tuple") ok_tuple (by rfl) T.n_tuple (by decide +kernel) (da_cons (de_lc (own := [("pair", 13)]) gx.calm gx.nd (di_tup (de_sub gx (de_var 2) de_int)) (blkOk_by (N := N_law) (sc := defScope s_law) (by decide +kernel)) (tg1 13) (fun _ _ _ _ _ => (pg_name (i := 13) gx.nd rfl (.inl rfl))) (fun _ _ _ _ _ => dts_nil) (fun _ _ _ _ _ => (de_sub gx.blk (de_var 8) (de_sub gx.blk (de_var 13) de_int)))) da_nil)) (de_tup (da_cons (de_op ok_add (de_var 7) de_int) da_nil))))) (ds_cons (ds_expr (de_meth T.K_Listing T.M_Listing_add_key ((d_Listing_add_key T).up (by decide)) gx T.b_Listing_add_key (de_var 3) (da_cons (de_sub gx (de_var 6) (de_var 7)) (da_cons (de_var 7) da_nil)) (hn := (aCons_n (aCons_n aNil_n))))) (ds_cons (ds_expr (de_methK0 T.K_Listing T.M_Listing_add_key ((d_Listing_add_key T).up (by decide)) gx (kb_of T.F_Listing_add_key (n := 1) (ks := ["changed", "key"]) (is := [0, 2, 1]) (by decide) rfl (fun _ _ _ _ _ _ us ws h1 h2 => match us, h1, ws, h2 with | [_], _, [_, _], _ => rfl)) (de_var 4) (dk_cons (de_var 7) (dk_cons (de_sub gx (de_var 6) (de_var 7)) dk_nil)) (hn2 := (aCons_n (aCons_n aNil_n))))) (ds_one (ds_expr (de_meth T.K_Table T.M_Table_put_row ((d_Table_put_row T).up (by decide)) gx T.b_Table_put_row (de_var 5) (da_cons (de_op ok_add (de_var 7) de_int) (da_cons (de_var 8) da_nil)) (hn := (aCons_n (aCons_n aNil_n))))))))))) (ds_cons (ds_if (dt_cmp ok_neS (de_callB (id := "repr") (ok_reprA gx) (by rfl) T.n_repr (by decide +kernel) (da_cons (de_meth T.K_Listing T.M_Listing_drop_key ((d_Listing_drop_key T).up (by decide)) gx T.b_Listing_drop_key (de_var 3) (da_cons (de_sub gx (de_var 6) de_int) da_nil) (hn := (aCons_n aNil_n))) da_nil)) (de_callB (id := "repr") (ok_reprA gx) (by rfl) T.n_repr (by decide +kernel) (da_cons (de_methK0 T.K_Listing T.M_Listing_drop_key ((d_Listing_drop_key T).up (by decide)) gx (kb_of T.F_Listing_drop_key (n := 1) (ks := ["key"]) (is := [0, 1]) (by decide) rfl (fun _ _ _ _ _ _ us ws h1 h2 => match us, h1, ws, h2 with | [_], _, [_], _ => rfl)) (de_var 4) (dk_cons (de_sub gx (de_var 6) de_int) dk_nil) (hn2 := (aCons_n aNil_n))) da_nil))) (ds_one (ds_ret de_bl)) ds_nil) (ds_cons (ds_par2 9 10 gx rfl rfl (by decide) rfl rfl (da_cons (de_tup (da_cons de_str da_nil)) (da_cons (de_tup (da_cons de_str (da_cons (de_call ((d__law_one_of T).up (by decide)) gx (by rfl) T.g__law_one_of T.F__law_one_of.kp T.b__law_one_of (da_cons (de_var 1) (da_cons (de_var 6) da_nil)) (hn := (aCons_n (aCons_n aNil_n)))) da_nil))) da_nil))) (ds_cons (ds_asg (de_newL (da_cons (de_tup (da_cons (de_meth T.K_Listing T.M_Listing_rank_of ((d_Listing_rank_of T).up (by decide)) gx T.b_Listing_rank_of (de_var 3) (da_cons (de_var 10) da_nil) (hn := (aCons_n aNil_n))) (da_cons (de_methK0 T.K_Listing T.M_Listing_rank_of ((d_Listing_rank_of T).up (by decide)) gx (kb_of T.F_Listing_rank_of (n := 1) (ks := ["mark"]) (is := [0, 1]) (by decide) rfl (fun _ _ _ _ _ _ us ws h1 h2 => match us, h1, ws, h2 with | [_], _, [_], _ => rfl)) (de_var 4) (dk_cons (de_var 10) dk_nil) (hn2 := (aCons_n aNil_n))) da_nil))) (da_cons (de_tup (da_cons (de_meth T.K_Listing T.M_Listing_key_at ((d_Listing_key_at T).up (by decide)) gx T.b_Listing_key_at (de_var 3) (da_cons de_int da_nil) (hn := (aCons_n aNil_n))) (da_cons (de_methK0 T.K_Listing T.M_Listing_key_at ((d_Listing_key_at T).up (by decide)) gx (kb_of T.F_Listing_key_at (n := 1) (ks := ["place"]) (is := [0, 1]) (by decide) rfl (fun _ _ _ _ _ _ us ws h1 h2 => match us, h1, ws, h2 with | [_], _, [_], _ => rfl)) (de_var 4) (dk_cons de_int dk_nil) (hn2 := (aCons_n aNil_n))) da_nil))) da_nil))) (dg_name 11 gx.nd)) (ds_cons (ds_expr (de_append (de_var 11) (de_tup (da_cons (de_meth T.K_Listing T.M_Listing_count_between ((d_Listing_count_between T).up (by decide)) gx T.b_Listing_count_between (de_var 3) (da_cons (de_var 9) (da_cons (de_var 10) da_nil)) (hn := (aCons_n (aCons_n aNil_n)))) (da_cons (de_methK0 T.K_Listing T.M_Listing_count_between ((d_Listing_count_between T).up (by decide)) gx (kb_of T.F_Listing_count_between (n := 1) (ks := ["high", "low"]) (is := [0, 2, 1]) (by decide) rfl (fun _ _ _ _ _ _ us ws h1 h2 => match us, h1, ws, h2 with | [_], _, [_, _], _ => rfl)) (de_var 4) (dk_cons (de_var 10) (dk_cons (de_var 9) dk_nil)) (hn2 := (aCons_n (aCons_n aNil_n)))) da_nil))))) (ds_cons (ds_expr (de_append (de_var 11) (de_tup (da_cons (de_meth T.K_Listing T.M_Listing_unchanged_between ((d_Listing_unchanged_between T).up (by decide)) gx T.b_Listing_unchanged_between (de_var 3) (da_cons (de_var 9) (da_cons (de_var 10) (da_cons de_int da_nil))) (hn := (aCons_n (aCons_n (aCons_n aNil_n))))) (da_cons (de_methK0 T.K_Listing T.M_Listing_unchanged_between ((d_Listing_unchanged_between T).up (by decide)) gx (kb_of T.F_Listing_unchanged_between (n := 1) (ks := ["version", "high", "low"]) (is := [0, 3, 2, 1]) (by decide) rfl (fun _ _ _ _ _ _ us ws h1 h2 => match us, h1, ws, h2 with | [_], _, [_, _, _], _ => rfl)) (de_var 4) (dk_cons de_int (dk_cons (de_var 10) (dk_cons (de_var 9) dk_nil))) (hn2 := (aCons_n (aCons_n (aCons_n aNil_n))))) da_nil))))) (ds_cons (ds_expr (de_append (de_var 11) (de_tup (da_cons (de_meth T.K_Listing T.M_Listing_keys_after ((d_Listing_keys_after T).up (by decide)) gx T.b_Listing_keys_after (de_var 3) (da_cons (de_var 10) (da_cons de_int da_nil)) (hn := (aCons_n (aCons_n aNil_n)))) (da_cons (de_methK0 T.K_Listing T.M_Listing_keys_after ((d_Listing_keys_after T).up (by decide)) gx (kb_of T.F_Listing_keys_after (n := 1) (ks := ["limit", "mark"]) (is := [0, 2, 1]) (by decide) rfl (fun _ _ _ _ _ _ us ws h1 h2 => match us, h1, ws, h2 with | [_], _, [_, _], _ => rfl)) (de_var 4) (dk_cons de_int (dk_cons (de_var 10) dk_nil)) (hn2 := (aCons_n (aCons_n aNil_n)))) da_nil))))) (ds_cons (ds_expr (de_append (de_var 11) (de_tup (da_cons (de_meth T.K_Listing T.M_Listing_keys_before ((d_Listing_keys_before T).up (by decide)) gx T.b_Listing_keys_before (de_var 3) (da_cons (de_var 10) (da_cons de_int da_nil)) (hn := (aCons_n (aCons_n aNil_n)))) (da_cons (de_methK0 T.K_Listing T.M_Listing_keys_before ((d_Listing_keys_before T).up (by decide)) gx (kb_of T.F_Listing_keys_before (n := 1) (ks := ["limit", "mark"]) (is := [0, 2, 1]) (by decide) rfl (fun _ _ _ _ _ _ us ws h1 h2 => match us, h1, ws, h2 with | [_], _, [_, _], _ => rfl)) (de_var 4) (dk_cons de_int (dk_cons (de_var 10) dk_nil)) (hn2 := (aCons_n (aCons_n aNil_n)))) da_nil))))) (ds_cons (ds_asg (de_callK0 ((d_listing_of T).up (by decide)) gx (by rfl) T.g_listing_of T.F_listing_of.kp (kb_of T.F_listing_of (n := 0) (ks := ["version", "view", "table"]) (is := [2, 1, 0]) (by decide) rfl (fun _ _ _ _ _ _ us ws h1 h2 => match us, h1, ws, h2 with | [], _, [_, _, _], _ => rfl)) (dk_cons de_int (dk_cons (de_var 2) (dk_cons (de_var 5) dk_nil))) (hn2 := (aCons_n (aCons_n (aCons_n aNil_n))))) (dg_name 12 gx.nd)) (ds_cons (ds_expr (de_append (de_var 11) (de_tup (da_cons (de_meth T.K_Listing T.M_Listing_keys_after ((d_Listing_keys_after T).up (by decide)) gx T.b_Listing_keys_after (de_call ((d_listing_of T).up (by decide)) gx (by rfl) T.g_listing_of T.F_listing_of.kp T.b_listing_of (da_cons (de_var 5) (da_cons (de_var 2) (da_cons de_int da_nil))) (hn := (aCons_n (aCons_n (aCons_n aNil_n))))) (da_cons (de_var 9) (da_cons de_int da_nil)) (hn := (aCons_n (aCons_n aNil_n)))) (da_cons (de_meth T.K_Listing T.M_Listing_keys_after ((d_Listing_keys_after T).up (by decide)) gx T.b_Listing_keys_after (de_var 12) (da_cons (de_var 9) (da_cons de_int da_nil)) (hn := (aCons_n (aCons_n aNil_n)))) da_nil))))) (ds_one (ds_ret (de_cmp (ok_eq gx) (de_lcG (own := [("pair", 13)]) gx.calm gx.nd (di_refL (de_var 11)) (blkOk_by (N := N_law) (sc := defScope s_law) (by decide +kernel)) (tg1 13) (fun _ _ _ _ _ => (pg_name (i := 13) gx.nd rfl (.inl rfl))) (fun _ _ _ _ _ => (dts_one (dt_cmp ok_neS (de_callB (id := "repr") (ok_reprA gx.blk) (by rfl) T.n_repr (by decide +kernel) (da_cons (de_sub gx.blk (de_var 13) de_int) da_nil)) (de_callB (id := "repr") (ok_reprA gx.blk) (by rfl) T.n_repr (by decide +kernel) (da_cons (de_sub gx.blk (de_var 13) de_int) da_nil))))) (fun _ _ _ _ _ => (de_var 13))) (de_lst da_nil)))))))))))))))))))
end LW
namespace LW
open PySem PySem.Spec PyProof.Rows L2 DL TL
theorem e_pick : m__law_pick = mPick := rfl
theorem e_one : m__law_one_of = mOne := rfl
def asc (n : Nat) (x : Str) : Bool := decide (x.length ≤ n) && (tl x).all fun c => decide (c < 128)
theorem asc_gs {n : Nat} {x : Str} (h : asc n x = true) : GS n x := by
  unfold asc at h
  rw [Bool.and_eq_true] at h
  exact ⟨of_decide_eq_true h.1, fun c hc => of_decide_eq_true (List.all_eq_true.mp h.2 c hc)⟩
theorem gs_asc {n : Nat} {x : Str} (h : GS n x) : asc n x = true := by
  unfold asc
  rw [Bool.and_eq_true]
  exact ⟨decide_eq_true h.1, List.all_eq_true.mpr fun c hc => decide_eq_true (h.2 c hc)⟩
theorem eqL {a b : Str} {c : Bool} (ha : asc 16 a = true) (hb : asc 16 b = true) (h : (a == b) = c) : opEq (.str a) (.str b) = some (.bl c) := by
  rw [← h]
  exact opEq_fv (m := 16) (n := 16) (a := .str a) (b := .str b) (asc_gs ha) (asc_gs hb)
theorem qs : opEq (.str (Str.ofString "all")) (.str (Str.ofString "all")) = some (.bl true) ∧
  opEq (.str (Str.ofString "all")) (.str (Str.ofString "not")) = some (.bl false) ∧
  opEq (.str (Str.ofString "all")) (.str (Str.ofString "and")) = some (.bl false) ∧
  opEq (.str (Str.ofString "all")) (.str (Str.ofString "or")) = some (.bl false) ∧
  opEq (.str (Str.ofString "all")) (.str (Str.ofString "equal")) = some (.bl false) ∧
  opEq (.str (Str.ofString "all")) (.str (Str.ofString "less")) = some (.bl false) ∧
  opEq (.str (Str.ofString "all")) (.str (Str.ofString "starts")) = some (.bl false) ∧
  opEq (.str (Str.ofString "equal")) (.str (Str.ofString "all")) = some (.bl false) ∧
  opEq (.str (Str.ofString "equal")) (.str (Str.ofString "not")) = some (.bl false) ∧
  opEq (.str (Str.ofString "equal")) (.str (Str.ofString "and")) = some (.bl false) ∧
  opEq (.str (Str.ofString "equal")) (.str (Str.ofString "or")) = some (.bl false) ∧
  opEq (.str (Str.ofString "equal")) (.str (Str.ofString "equal")) = some (.bl true) ∧
  opEq (.str (Str.ofString "equal")) (.str (Str.ofString "less")) = some (.bl false) ∧
  opEq (.str (Str.ofString "equal")) (.str (Str.ofString "starts")) = some (.bl false) ∧
  opEq (.str (Str.ofString "less")) (.str (Str.ofString "all")) = some (.bl false) ∧
  opEq (.str (Str.ofString "less")) (.str (Str.ofString "not")) = some (.bl false) ∧
  opEq (.str (Str.ofString "less")) (.str (Str.ofString "and")) = some (.bl false) ∧
  opEq (.str (Str.ofString "less")) (.str (Str.ofString "or")) = some (.bl false) ∧
  opEq (.str (Str.ofString "less")) (.str (Str.ofString "equal")) = some (.bl false) ∧
  opEq (.str (Str.ofString "less")) (.str (Str.ofString "less")) = some (.bl true) ∧
  opEq (.str (Str.ofString "less")) (.str (Str.ofString "starts")) = some (.bl false) ∧
  opEq (.str (Str.ofString "starts")) (.str (Str.ofString "all")) = some (.bl false) ∧
  opEq (.str (Str.ofString "starts")) (.str (Str.ofString "not")) = some (.bl false) ∧
  opEq (.str (Str.ofString "starts")) (.str (Str.ofString "and")) = some (.bl false) ∧
  opEq (.str (Str.ofString "starts")) (.str (Str.ofString "or")) = some (.bl false) ∧
  opEq (.str (Str.ofString "starts")) (.str (Str.ofString "equal")) = some (.bl false) ∧
  opEq (.str (Str.ofString "starts")) (.str (Str.ofString "less")) = some (.bl false) ∧
  opEq (.str (Str.ofString "starts")) (.str (Str.ofString "starts")) = some (.bl true) ∧
  opEq (.str (Str.ofString "one_of")) (.str (Str.ofString "all")) = some (.bl false) ∧
  opEq (.str (Str.ofString "one_of")) (.str (Str.ofString "not")) = some (.bl false) ∧
  opEq (.str (Str.ofString "one_of")) (.str (Str.ofString "and")) = some (.bl false) ∧
  opEq (.str (Str.ofString "one_of")) (.str (Str.ofString "or")) = some (.bl false) ∧
  opEq (.str (Str.ofString "one_of")) (.str (Str.ofString "equal")) = some (.bl false) ∧
  opEq (.str (Str.ofString "one_of")) (.str (Str.ofString "less")) = some (.bl false) ∧
  opEq (.str (Str.ofString "one_of")) (.str (Str.ofString "starts")) = some (.bl false) ∧
  opEq (.str (Str.ofString "not")) (.str (Str.ofString "all")) = some (.bl false) ∧
  opEq (.str (Str.ofString "not")) (.str (Str.ofString "not")) = some (.bl true) ∧
  opEq (.str (Str.ofString "not")) (.str (Str.ofString "and")) = some (.bl false) ∧
  opEq (.str (Str.ofString "not")) (.str (Str.ofString "or")) = some (.bl false) ∧
  opEq (.str (Str.ofString "not")) (.str (Str.ofString "equal")) = some (.bl false) ∧
  opEq (.str (Str.ofString "not")) (.str (Str.ofString "less")) = some (.bl false) ∧
  opEq (.str (Str.ofString "not")) (.str (Str.ofString "starts")) = some (.bl false) ∧
  opEq (.str (Str.ofString "and")) (.str (Str.ofString "all")) = some (.bl false) ∧
  opEq (.str (Str.ofString "and")) (.str (Str.ofString "not")) = some (.bl false) ∧
  opEq (.str (Str.ofString "and")) (.str (Str.ofString "and")) = some (.bl true) ∧
  opEq (.str (Str.ofString "and")) (.str (Str.ofString "or")) = some (.bl false) ∧
  opEq (.str (Str.ofString "and")) (.str (Str.ofString "equal")) = some (.bl false) ∧
  opEq (.str (Str.ofString "and")) (.str (Str.ofString "less")) = some (.bl false) ∧
  opEq (.str (Str.ofString "and")) (.str (Str.ofString "starts")) = some (.bl false) ∧
  opEq (.str (Str.ofString "or")) (.str (Str.ofString "all")) = some (.bl false) ∧
  opEq (.str (Str.ofString "or")) (.str (Str.ofString "not")) = some (.bl false) ∧
  opEq (.str (Str.ofString "or")) (.str (Str.ofString "and")) = some (.bl false) ∧
  opEq (.str (Str.ofString "or")) (.str (Str.ofString "or")) = some (.bl true) ∧
  opEq (.str (Str.ofString "or")) (.str (Str.ofString "equal")) = some (.bl false) ∧
  opEq (.str (Str.ofString "or")) (.str (Str.ofString "less")) = some (.bl false) ∧
  opEq (.str (Str.ofString "or")) (.str (Str.ofString "starts")) = some (.bl false) :=
  ⟨eqL (by decide +kernel) (by decide +kernel) (by decide +kernel), eqL (by decide +kernel) (by decide +kernel) (by decide +kernel), eqL (by decide +kernel) (by decide +kernel) (by decide +kernel), eqL (by decide +kernel) (by decide +kernel) (by decide +kernel), eqL (by decide +kernel) (by decide +kernel) (by decide +kernel), eqL (by decide +kernel) (by decide +kernel) (by decide +kernel), eqL (by decide +kernel) (by decide +kernel) (by decide +kernel), eqL (by decide +kernel) (by decide +kernel) (by decide +kernel), eqL (by decide +kernel) (by decide +kernel) (by decide +kernel), eqL (by decide +kernel) (by decide +kernel) (by decide +kernel), eqL (by decide +kernel) (by decide +kernel) (by decide +kernel), eqL (by decide +kernel) (by decide +kernel) (by decide +kernel), eqL (by decide +kernel) (by decide +kernel) (by decide +kernel), eqL (by decide +kernel) (by decide +kernel) (by decide +kernel), eqL (by decide +kernel) (by decide +kernel) (by decide +kernel), eqL (by decide +kernel) (by decide +kernel) (by decide +kernel), eqL (by decide +kernel) (by decide +kernel) (by decide +kernel), eqL (by decide +kernel) (by decide +kernel) (by decide +kernel), eqL (by decide +kernel) (by decide +kernel) (by decide +kernel), eqL (by decide +kernel) (by decide +kernel) (by decide +kernel), eqL (by decide +kernel) (by decide +kernel) (by decide +kernel), eqL (by decide +kernel) (by decide +kernel) (by decide +kernel), eqL (by decide +kernel) (by decide +kernel) (by decide +kernel), eqL (by decide +kernel) (by decide +kernel) (by decide +kernel), eqL (by decide +kernel) (by decide +kernel) (by decide +kernel), eqL (by decide +kernel) (by decide +kernel) (by decide +kernel), eqL (by decide +kernel) (by decide +kernel) (by decide +kernel), eqL (by decide +kernel) (by decide +kernel) (by decide +kernel), eqL (by decide +kernel) (by decide +kernel) (by decide +kernel), eqL (by decide +kernel) (by decide +kernel) (by decide +kernel), eqL (by decide +kernel) (by decide +kernel) (by decide +kernel), eqL (by decide +kernel) (by decide +kernel) (by decide +kernel), eqL (by decide +kernel) (by decide +kernel) (by decide +kernel), eqL (by decide +kernel) (by decide +kernel) (by decide +kernel), eqL (by decide +kernel) (by decide +kernel) (by decide +kernel), eqL (by decide +kernel) (by decide +kernel) (by decide +kernel), eqL (by decide +kernel) (by decide +kernel) (by decide +kernel), eqL (by decide +kernel) (by decide +kernel) (by decide +kernel), eqL (by decide +kernel) (by decide +kernel) (by decide +kernel), eqL (by decide +kernel) (by decide +kernel) (by decide +kernel), eqL (by decide +kernel) (by decide +kernel) (by decide +kernel), eqL (by decide +kernel) (by decide +kernel) (by decide +kernel), eqL (by decide +kernel) (by decide +kernel) (by decide +kernel), eqL (by decide +kernel) (by decide +kernel) (by decide +kernel), eqL (by decide +kernel) (by decide +kernel) (by decide +kernel), eqL (by decide +kernel) (by decide +kernel) (by decide +kernel), eqL (by decide +kernel) (by decide +kernel) (by decide +kernel), eqL (by decide +kernel) (by decide +kernel) (by decide +kernel), eqL (by decide +kernel) (by decide +kernel) (by decide +kernel), eqL (by decide +kernel) (by decide +kernel) (by decide +kernel), eqL (by decide +kernel) (by decide +kernel) (by decide +kernel), eqL (by decide +kernel) (by decide +kernel) (by decide +kernel), eqL (by decide +kernel) (by decide +kernel) (by decide +kernel), eqL (by decide +kernel) (by decide +kernel) (by decide +kernel), eqL (by decide +kernel) (by decide +kernel) (by decide +kernel), eqL (by decide +kernel) (by decide +kernel) (by decide +kernel)⟩
/-- plain values -/
def pvB : D → Bool | .non => true | .int i => decide (-1000000000 ≤ i ∧ i ≤ 1000000000) | .str x => asc 40 x | _ => false
theorem pv_fv : ∀ {d : D}, pvB d = true → FV 40 d
  | .non, _ => trivial
  | .int _, _ => trivial
  | .str x, h => asc_gs h
  | .bl _, h => by cases h
  | .tup _, h => by cases h
  | .lst _, h => by cases h
  | .dct _, h => by cases h
  | .scr _, h => by cases h
  | .ref _, h => by cases h
theorem pv_sm : ∀ {d : D}, pvB d = true → Sm 0 40 d
  | .non, _ => Sm.non.mono (Nat.le_refl _) (Nat.zero_le _)
  | .int i, h => Sm.int (by have := of_decide_eq_true (show decide (-1000000000 ≤ i ∧ i ≤ 1000000000) = true from h); omega)
  | .str x, h => Sm.str (asc_gs h)
  | .bl _, h => by cases h
  | .tup _, h => by cases h
  | .lst _, h => by cases h
  | .dct _, h => by cases h
  | .scr _, h => by cases h
  | .ref _, h => by cases h
def kindP : D → Int | .non => 0 | .str _ => 2 | _ => 1
def vLt : D → D → Bool | .int a, .int b => decide (a < b) | .str a, .str b => decide (tl a < tl b) | _, _ => false
def cmpV (a b : D) : Int := if vEq a b = true then 0 else if kindP a = kindP b then (if vLt a b = true then -1 else 1) else if kindP a < kindP b then -1 else 1
theorem kp {m : Nat} {d : D} (h : FV m d) (st : Store) : m_kind_place [d] st = some (.int (kindP d), st) := by
  cases d <;> first
    | exact h.elim
    | (simp [m_kind_place, g_kind_place, mOf, outM, startD, sSeq, sIf, sRet, sNil, fVar, fC, fOp, fTest, asB, fIsi, tyD, isiB, orD, opIs, isN, isB, DL.isNon]; rfl)
theorem cmp_ok {m n : Nat} {a b : D} (ha : FV m a) (hb : FV n b) (st : Store) : m_compare_values [a, b] st = some (.int (cmpV a b), st) := by
  have k1 := kp ha st
  have k2 := kp hb st
  by_cases e : vEq a b = true
  · simp [m_compare_values, g_compare_values, mOf, outM, startD, sSeq, sIf, sRet, sNil, fVar, fC, fOp, fTest, asB, opEq_fv ha hb, e, cmpV]
  · simp only [Bool.not_eq_true] at e
    have ne : ¬ (vEq a b = true) := by rw [e]; exact Bool.false_ne_true
    by_cases k : kindP a = kindP b
    · obtain ⟨c, hl, hc⟩ : ∃ c, opLt a b = some (.bl c) ∧ c = vLt a b := by
        cases a <;> cases b <;> first
          | exact ha.elim
          | exact hb.elim
          | (cases e; done)
          | (exfalso; revert k; decide; done)
          | exact ⟨_, opLt_int _ _, rfl⟩
          | exact ⟨_, opLt_str _ _, rfl⟩
          | (exfalso; simp [kindP] at k; done)
      subst hc
      cases hv : vLt a b with
      | true => simp [m_compare_values, g_compare_values, mOf, outM, startD, sSeq, sIf, sRet, sNil, sAsg, gN, fVar, fC, fOp, fTest, asB, opEq_fv ha hb, e, cmpV, fCall, aCons, aNil, k1, k2, opEq_int, k, fIfE, hl, hv, fUn, negI]
      | false => simp [m_compare_values, g_compare_values, mOf, outM, startD, sSeq, sIf, sRet, sNil, sAsg, gN, fVar, fC, fOp, fTest, asB, opEq_fv ha hb, e, cmpV, fCall, aCons, aNil, k1, k2, opEq_int, k, fIfE, hl, hv, fUn, negI]
    · by_cases l : kindP a < kindP b
      · simp [m_compare_values, g_compare_values, mOf, outM, startD, sSeq, sIf, sRet, sNil, sAsg, gN, fVar, fC, fOp, fTest, asB, opEq_fv ha hb, e, cmpV, fCall, aCons, aNil, k1, k2, opEq_int, k, fIfE, opLt_int, l, fUn, negI]
      · simp [m_compare_values, g_compare_values, mOf, outM, startD, sSeq, sIf, sRet, sNil, sAsg, gN, fVar, fC, fOp, fTest, asB, opEq_fv ha hb, e, cmpV, fCall, aCons, aNil, k1, k2, opEq_int, k, fIfE, opLt_int, l, fUn, negI]
theorem strsD_of : ∀ {vs : List D}, (∀ v ∈ vs, ∃ x, v = .str x ∧ GS 1 x) → ∃ ys, strsD vs = some ys ∧ ys.length = vs.length ∧ ∀ y ∈ ys, GS 1 y
  | [], _ => ⟨[], rfl, rfl, fun _ h => by cases h⟩
  | v :: vs, h => by
    obtain ⟨x, rfl, g⟩ := h v List.mem_cons_self
    obtain ⟨ys, h1, h2, h3⟩ := strsD_of fun w hw => h w (List.mem_cons_of_mem _ hw)
    refine ⟨x :: ys, by simp [strsD, h1], by simp [h2], fun y hy => ?_⟩
    rcases List.mem_cons.mp hy with rfl | hy
    · exact g
    · exact h3 y hy
theorem sum_le {m : Nat} : ∀ {ys : List Str}, (∀ y ∈ ys, GS m y) → (ys.map (·.length)).sum ≤ ys.length * m
  | [], _ => Nat.zero_le _
  | y :: ys, h => by
    have h1 := sum_le fun z hz => h z (List.mem_cons_of_mem _ hz)
    have h2 := (h y List.mem_cons_self).1
    rw [List.map_cons, List.sum_cons, List.length_cons, Nat.succ_mul]
    omega
theorem join_ok {m k : Nat} {vs : List D} (h : ∀ v ∈ vs, ∃ x, v = .str x ∧ GS 1 x) (hl : vs.length ≤ k) (hk : k ≤ 1000) : ∃ z, joinD (.str (Str.ofString "")) [.lst vs] = some (.str z) ∧ GS k z := by
  obtain ⟨ys, h1, h2, h3⟩ := strsD_of h
  have hs := sum_le h3
  have : (ys.map (·.length)).sum + ys.length * (Str.ofString "").length ≤ 16777216 := by
    rw [show (Str.ofString "").length = 0 from rfl]
    omega
  refine ⟨_, by simp only [joinD, h1, Option.bind_some]; rw [if_pos this], ?_⟩
  exact (GS.join h3).mono (by omega)
end LW
namespace LW
open PySem PySem.Spec PyProof.Rows L2 DL TL
theorem pv_str {x : Str} (h : GS 40 x) : pvB (.str x) = true := gs_asc h
theorem bits10 : Builtin.Int.intBits 10 ≤ 32 := bits32 (by decide) (by decide)
theorem pow109 : powI (.int 10) (.int 9) = some (.int 1000000000) := by
  have p := powI_int (a := 10) (b := 9) (by decide) bits10 (by decide)
  simpa using p
theorem mulz (k : Int) (h : 0 ≤ k ∧ k ≤ 1000) : opMul (.str (Str.ofString "z")) (.int k) = some (.str (Txt.mul (Str.ofString "z") k)) := by
  have : (Str.ofString "z").length ≤ 1000 := by decide
  simp [opMul, orD, mulI, onI, mulS, this, h.1, h.2]
theorem addL_ok {xs ys : List D} (h : xs.length + ys.length ≤ 1000) : opAdd (.lst xs) (.lst ys) = some (.lst (xs ++ ys)) := by
  have : xs.length + ys.length ≤ sizeLine := Nat.le_trans h (by decide)
  simp [opAdd, orD, addI, addS, addL, onI, onS, this]
theorem addT_ok {xs ys : List D} (h : xs.length + ys.length ≤ 1000) : opAdd (.tup xs) (.tup ys) = some (.tup (xs ++ ys)) := by
  have : xs.length + ys.length ≤ sizeLine := Nat.le_trans h (by decide)
  simp [opAdd, orD, addI, addS, addL, addT, onI, onS, this]
def someV : List D := [.non, .int 0, .int 1, .int 2, .int (-1), .int 1, .int 2, .int 1000000000, .int (-1000000000), .str (Str.ofString ""), .str (Str.ofString "a"), .str (Str.ofString "ab"), .str (Str.ofString "b"), .str (Str.ofString "a b"), .str (Str.ofString "A"), .str (Str.ofString "~"), .str (Txt.mul (Str.ofString "z") 20)]
def moreV : List D := [.str (Txt.mul (Str.ofString "z") 19), .str (Str.ofString "customer one"), .str (Str.ofString "customer two"), .str (Str.ofString "1"), .str (Str.ofString "-1"), .int 2, .str (Str.ofString "abc"), .str (Str.ofString "abd")]
theorem allV : (someV ++ moreV).all pvB = true := by decide +kernel
abbrev sgn1 : String := " !#$&'()*+,-./0123456789:;<=>?@ABCDEFGHIJKLMNOPQRSTUVWXYZ[]^_{|}~"
abbrev sgn2 : String := "abcdefghijklmnopqrstuvwxyz"
theorem value_ok {st : Store} {n : Nat} (t : Tp st n) : ∃ d st', m__law_value [.ref n] st = some (d, st') ∧ pvB d = true ∧ Tp st' n ∧ Fr n st st' ∧ st'.length = st.length := by
  obtain ⟨r, s1, h1, r0, r8, t1, f1, l1⟩ := pick_ok t (s := 24) (by decide) (by decide)
  by_cases c0 : r = 0
  · subst c0
    let sg : List D := (Str.ofString sgn1 ++ Str.ofString sgn2).cps.toList.map fun c => D.str ⟨#[c]⟩
    have hsg : ∀ v ∈ sg, ∃ x, v = .str x ∧ GS 1 x := fun v hv => by
      obtain ⟨c, hc, rfl⟩ := List.mem_map.mp hv
      refine ⟨_, rfl, Nat.le_refl _, fun y hy => ?_⟩
      have : y = c := by simpa using hy
      subst this
      have := List.all_eq_true.mp (show ((Str.ofString sgn1 ++ Str.ofString sgn2).cps.toList.all fun c => decide (c < 128)) = true by decide +kernel) y hc
      exact of_decide_eq_true this
    have ad : opAdd (.str (Str.ofString sgn1)) (.str (Str.ofString sgn2)) = some (.str (Str.ofString sgn1 ++ Str.ofString sgn2)) := opAdd_str (by decide +kernel)
    have bl : bList [.str (Str.ofString sgn1 ++ Str.ofString sgn2)] = fun _ => some (.lst sg) := by
      funext s
      have : (Str.ofString sgn1 ++ Str.ofString sgn2).length ≤ sizeLine := Nat.le_trans (show _ ≤ 1000 by decide +kernel) (by decide)
      simp [bList, listSeq, listTxt, this, sg]
    obtain ⟨r2, s2, h2, r20, r24, t2, f2, l2⟩ := pick_ok t1 (s := 20) (by decide) (by decide)
    obtain ⟨vs, s3, h3, l3, p3, t3, f3, q3⟩ := loopC_draw2 (is := [3]) (bd := b1) (f := fCall m__law_one_of (aCons (fVar 0) (aCons (fVar 1) aNil))) (n := n) (P := fun v => ∃ x, v = .str x ∧ GS 1 x)
      (env := [some (.ref n), some (.lst sg), none, none]) (ds := rg 0 (1 + r2)) (fun d hd => ⟨[d], rfl, fun s t => by
        obtain ⟨v, s', g1, g2, g3, g4, g5⟩ := one_ok (xs := sg) t (by decide +kernel) (by decide +kernel)
        exact ⟨v, s', by simp [fCall, aCons, aNil, fVar, setL, e_one, g1], hsg v g2, g3, g4, g5⟩⟩) t2
    obtain ⟨w, hw, gw⟩ := join_ok (m := 1) (k := 20) p3 (by rw [l3, rg_len]; omega) (by decide)
    have zc : vs.length ≤ sizeLine := Nat.le_trans (by rw [l3, rg_len]; omega) (show 20 ≤ sizeLine by decide)
    have ra := asR1_ok (n := 1 + r2) (by omega) (by omega)
    refine ⟨.str w, s3, ?_, pv_str (gw.mono (by decide)), t3, (f1.trans f2).trans f3, by rw [q3, l2, l1]⟩
    rw [e_one] at h3
    simp [m__law_value, g__law_value, mOf, outM, startD, sSeq, sAsg, gN, sIf, sRet, sNil, fCall, aCons, aNil, fVar, fC, fTest, fOp, e_pick, h1, opEq_int, asB, ad, fMk, bl, fMt, fComp, iOfA, h2, opAdd_int, ra, wipeL, e_one, h3, zc, hw]
  · have q0 : (r == 0) = false := by simp [c0]
    obtain ⟨d, s2, h2, m2, t2, f2, l2⟩ := one_ok (xs := someV ++ moreV) t1 (by decide) (by decide)
    refine ⟨d, s2, ?_, List.all_eq_true.mp allV d m2, t2, f1.trans f2, by rw [l2, l1]⟩
    have z1 : 17 ≤ sizeLine := by decide
    have z2 : 8 ≤ sizeLine := by decide
    have ad : opAdd (.lst someV) (.lst moreV) = some (.lst (someV ++ moreV)) := addL_ok (by decide)
    simp only [someV, moreV] at ad h2
    simp [m__law_value, g__law_value, mOf, outM, startD, sSeq, sAsg, gN, sIf, sRet, sNil, fCall, aCons, aNil, fVar, fC, fTest, fOp, e_pick, h1, opEq_int, asB, q0, fMk, mkLst, subI_int, pow109, mulz, z1, z2]
    simp at ad h2
    simp [ad, e_one, h2]
end LW
namespace LW
open PySem PySem.Spec PyProof.Rows L2 DL TL
inductive C where
  | all | eq (c : Nat) (v : D) | lt (c : Nat) (v : D) | st (c : Nat) (x : Str) | one (c : Nat) (us : List D) | not (p : C) | and (p q : C) | or (p q : C)
def nm (s : String) : D := .str (Str.ofString s)
def C.d : C → D
  | .all => .tup [.str (Str.ofString "all")]
  | .eq c v => .tup [.str (Str.ofString "equal"), .int c, v]
  | .lt c v => .tup [.str (Str.ofString "less"), .int c, v]
  | .st c x => .tup [.str (Str.ofString "starts"), .int c, .str x]
  | .one c us => .tup [.str (Str.ofString "one_of"), .int c, .tup us]
  | .not p => .tup [.str (Str.ofString "not"), p.d]
  | .and p q => .tup [.str (Str.ofString "and"), p.d, q.d]
  | .or p q => .tup [.str (Str.ofString "or"), p.d, q.d]
def C.ok (w : Nat) : C → Prop
  | .all => True
  | .eq c v => c < w ∧ pvB v = true
  | .lt c v => c < w ∧ pvB v = true
  | .st c x => c < w ∧ GS 10 x ∧ 0 < x.length
  | .one c us => c < w ∧ us.length ≤ 8 ∧ 0 < us.length ∧ ∀ u ∈ us, pvB u = true
  | .not p => p.ok w
  | .and p q => p.ok w ∧ q.ok w
  | .or p q => p.ok w ∧ q.ok w
def C.ht : C → Nat
  | .not p => p.ht + 1
  | .and p q => max p.ht q.ht + 1
  | .or p q => max p.ht q.ht + 1
  | _ => 1
theorem C.ht_pos : ∀ c : C, 1 ≤ c.ht
  | .all => Nat.le_refl _
  | .eq _ _ => Nat.le_refl _
  | .lt _ _ => Nat.le_refl _
  | .st _ _ => Nat.le_refl _
  | .one _ _ => Nat.le_refl _
  | .not _ => Nat.le_add_left _ _
  | .and _ _ => Nat.le_add_left _ _
  | .or _ _ => Nat.le_add_left _ _
def startsV : List D := [.str (Str.ofString "a"), .str (Str.ofString "ab"), .str (Str.ofString "b"), .str (Str.ofString "A"), .str (Str.ofString " "), .str (Str.ofString "1"), .str (Str.ofString "-"), .str (Str.ofString "N"), .str (Str.ofString "customer"), .str (Str.ofString "abc")]
def stB : D → Bool | .str x => asc 10 x && decide (0 < x.length) | _ => false
theorem allSt : startsV.all stB = true := by decide +kernel
theorem test_ok {st : Store} {n : Nat} {w : Int} (t : Tp st n) (h0 : 0 < w) (h1 : w ≤ 10) : ∃ c st', m__law_test [.ref n, .int w] st = some (C.d c, st') ∧ c.ok w.toNat ∧ c.ht = 1 ∧ Tp st' n ∧ Fr n st st' ∧ st'.length = st.length := by
  obtain ⟨co, s1, g1, c0, c1, t1, f1, l1⟩ := pick_ok t (s := w) h0 (by omega)
  obtain ⟨r, s2, g2, r0, r6, t2, f2, l2⟩ := pick_ok t1 (s := 6) (by decide) (by decide)
  have hc : ((co.toNat : Nat) : Int) = co := Int.toNat_of_nonneg c0
  have hlt : co.toNat < w.toNat := by omega
  have z1 : 1 ≤ sizeLine := by decide
  have z3 : 3 ≤ sizeLine := by decide
  have f12 := f1.trans f2
  have l12 : s2.length = st.length := by rw [l2, l1]
  by_cases k0 : r = 0
  · subst k0
    exact ⟨.all, s2, by simp [m__law_test, g__law_test, mOf, outM, startD, sSeq, sPar, par2, fCall, aCons, aNil, fVar, fC, e_pick, g1, g2, sIf, fTest, fOp, opEq_int, asB, sRet, fMk, mkTup, z1, C.d], trivial, rfl, t2, f12, l12⟩
  · have q0 : (r == 0) = false := by simp [k0]
    by_cases k1 : r = 1
    · subst k1
      obtain ⟨v, s3, g3, pv, t3, f3, l3⟩ := value_ok t2
      exact ⟨.eq co.toNat v, s3, by simp [m__law_test, g__law_test, mOf, outM, startD, sSeq, sPar, par2, fCall, aCons, aNil, fVar, fC, e_pick, g1, g2, sIf, sNil, fTest, fOp, opEq_int, asB, sRet, fMk, mkTup, z3, C.d, g3, hc], ⟨hlt, pv⟩, rfl, t3, f12.trans f3, by rw [l3, l12]⟩
    · have q1 : (r == 1) = false := by simp [k1]
      by_cases k4 : r < 4
      · obtain ⟨v, s3, g3, pv, t3, f3, l3⟩ := value_ok t2
        exact ⟨.lt co.toNat v, s3, by simp [m__law_test, g__law_test, mOf, outM, startD, sSeq, sPar, par2, fCall, aCons, aNil, fVar, fC, e_pick, g1, g2, sIf, sNil, fTest, fOp, opEq_int, opLt_int, asB, q0, q1, k4, sRet, fMk, mkTup, z3, C.d, g3, hc], ⟨hlt, pv⟩, rfl, t3, f12.trans f3, by rw [l3, l12]⟩
      · by_cases k5 : r = 4
        · subst k5
          obtain ⟨d, s3, g3, md, t3, f3, l3⟩ := one_ok (xs := startsV) t2 (by decide) (by decide)
          have hs := List.all_eq_true.mp allSt d md
          obtain ⟨x, rfl, gx⟩ : ∃ x, d = .str x ∧ (asc 10 x && decide (0 < x.length)) = true := by
            cases d <;> first
              | exact ⟨_, rfl, hs⟩
              | cases hs
          rw [Bool.and_eq_true] at gx
          have z10 : 10 ≤ sizeLine := by decide
          simp only [startsV] at g3
          exact ⟨.st co.toNat x, s3, by simp [m__law_test, g__law_test, mOf, outM, startD, sSeq, sPar, par2, fCall, aCons, aNil, fVar, fC, e_pick, e_one, g1, g2, sIf, sNil, fTest, fOp, opEq_int, opLt_int, asB, sRet, fMk, mkTup, mkLst, z3, z10, C.d, g3, hc], ⟨hlt, asc_gs gx.1, of_decide_eq_true gx.2⟩, rfl, t3, f12.trans f3, by rw [l3, l12]⟩
        · have q4 : (r == 4) = false := by simp [k5]
          obtain ⟨a, s3, g3, a0, a4, t3, f3, l3⟩ := pick_ok t2 (s := 4) (by decide) (by decide)
          obtain ⟨b, s4, g4, b0, b4, t4, f4, l4⟩ := pick_ok t3 (s := 4) (by decide) (by decide)
          obtain ⟨d, s5, g5, md, t5, f5, l5⟩ := one_ok (xs := [.int a, .int (4 + b)]) t4 (by simp) (by simp)
          obtain ⟨m, rfl, m0, m8⟩ : ∃ m : Int, d = .int m ∧ 0 ≤ m ∧ m < 8 := by
            simp only [List.mem_cons, List.not_mem_nil, or_false] at md
            rcases md with rfl | rfl
            · exact ⟨_, rfl, by omega, by omega⟩
            · exact ⟨_, rfl, by omega, by omega⟩
          obtain ⟨vs, s6, g6, l6, p6, t6, f6, q6⟩ := loopC_draw2 (is := [5]) (bd := b1) (f := fCall m__law_value (aCons (fVar 0) aNil)) (n := n) (P := fun v => pvB v = true)
            (env := [some (.ref n), some (.int w), some (.int co), some (.int r), some (.int (1 + m)), none]) (ds := rg 0 (1 + m)) (fun d hd => ⟨[d], rfl, fun s t => by
              obtain ⟨v, s', x1, x2, x3, x4, x5⟩ := value_ok t
              exact ⟨v, s', by simp [fCall, aCons, aNil, fVar, setL, x1], x2, x3, x4, x5⟩⟩) t5
          rw [rg_len] at l6
          have ra := asR1_ok (n := 1 + m) (by omega) (by omega)
          have z2 : 2 ≤ sizeLine := by decide
          have zc : vs.length ≤ sizeLine := Nat.le_trans (by rw [l6]; omega) (show 10 ≤ sizeLine by decide)
          refine ⟨.one co.toNat vs, s6, ?_, ⟨hlt, by omega, by omega, p6⟩, rfl, t6, (((f12.trans f3).trans f4).trans f5).trans f6, by rw [q6, l5, l4, l3, l12]⟩
          simp [m__law_test, g__law_test, mOf, outM, startD, sSeq, sPar, par2, fCall, aCons, aNil, fVar, fC, e_pick, e_one, g1, g2, g3, g4, sIf, sNil, sAsg, gN, fTest, fOp, opEq_int, opLt_int, opAdd_int, asB, q0, q1, k4, q4, sRet, fMk, mkTup, mkLst, z2, z3, C.d, hc, g5, fComp, iOfA, ra, wipeL]
          simp [g6, zc, bTuple, z3]
theorem cond_ok : ∀ (k : Nat) {st : Store} {n : Nat} {w dp : Int}, Tp st n → 0 < w → w ≤ 10 → 0 ≤ dp → dp < k → ∃ c st', m__law_condition k [.ref n, .int w, .int dp] st = some (C.d c, st') ∧ c.ok w.toNat ∧ c.ht ≤ k ∧ Tp st' n ∧ Fr n st st' ∧ st'.length = st.length
  | 0, _, _, _, _, _, _, _, h, h2 => by omega
  | k + 1, st, n, w, dp, t, h0, h1, h2, h3 => by
    obtain ⟨r, s1, g1, r0, r6, t1, f1, l1⟩ := pick_ok t (s := 6) (by decide) (by decide)
    by_cases c1 : dp = 0 ∨ r < 2
    · obtain ⟨c, s2, g2, ok, hh, t2, f2, l2⟩ := test_ok t1 h0 h1
      refine ⟨c, s2, ?_, ok, by omega, t2, f1.trans f2, by rw [l2, l1]⟩
      rcases c1 with rfl | c1
      · simp [m__law_condition, g__law_condition, mOf, outM, startD, sSeq, sAsg, gN, sIf, sRet, fCall, aCons, aNil, fVar, fC, e_pick, g1, fOrT, fTest, fOp, opEq_int, asB, g2]
      · by_cases z : dp = 0
        · subst z
          simp [m__law_condition, g__law_condition, mOf, outM, startD, sSeq, sAsg, gN, sIf, sRet, fCall, aCons, aNil, fVar, fC, e_pick, g1, fOrT, fTest, fOp, opEq_int, asB, g2]
        · have z' : (dp == 0) = false := by simp [z]
          simp [m__law_condition, g__law_condition, mOf, outM, startD, sSeq, sAsg, gN, sIf, sRet, fCall, aCons, aNil, fVar, fC, e_pick, g1, fOrT, fTest, fOp, opEq_int, opLt_int, c1, z', asB, g2]
    · have c2 : ¬ dp = 0 := fun z => c1 (.inl z)
      have c3 : ¬ r < 2 := fun z => c1 (.inr z)
      have q0 : (dp == 0) = false := by simp [c2]
      have z1 : 1 ≤ sizeLine := by decide
      have z2 : 2 ≤ sizeLine := by decide
      by_cases c4 : r = 2
      · subst c4
        obtain ⟨c, s2, g2, ok, hh, t2, f2, l2⟩ := cond_ok k t1 h0 h1 (show 0 ≤ dp - 1 by omega) (by omega)
        refine ⟨.not c, s2, ?_, ok, Nat.succ_le_succ hh, t2, f1.trans f2, by rw [l2, l1]⟩
        simp [m__law_condition, g__law_condition, mOf, outM, startD, sSeq, sAsg, gN, sIf, sNil, sRet, fCall, aCons, aNil, fVar, fC, e_pick, g1, fOrT, fTest, fOp, opEq_int, opLt_int, subI_int, asB, q0, g2, fMk, mkTup, z2, C.d]
      · have q2 : (r == 2) = false := by simp [c4]
        obtain ⟨c, s2, g2, ok2, hh2, t2, f2, l2⟩ := cond_ok k t1 h0 h1 (show 0 ≤ dp - 1 by omega) (by omega)
        obtain ⟨e, s3, g3, ok3, hh3, t3, f3, l3⟩ := cond_ok k t2 h0 h1 (show 0 ≤ dp - 1 by omega) (by omega)
        obtain ⟨d, s4, g4, md, t4, f4, l4⟩ := one_ok (xs := [.str (Str.ofString "and"), .str (Str.ofString "or")]) t3 (by simp) (by simp)
        have fin : ∀ x : Str, d = .str x → m__law_condition (k + 1) [.ref n, .int w, .int dp] st = some (.tup [.str x, c.d, e.d], s4) := fun x hx => by
          subst hx
          have ad : opAdd (.tup [.str x]) (.tup [c.d, e.d]) = some (.tup [.str x, c.d, e.d]) := addT_ok (by simp)
          simp [m__law_condition, g__law_condition, mOf, outM, startD, sSeq, sAsg, gN, sIf, sNil, sRet, fCall, aCons, aNil, fVar, fC, e_pick, e_one, g1, fOrT, fTest, fOp, opEq_int, opLt_int, subI_int, asB, q0, c3, q2, g2, g3, g4, fMk, mkTup, mkLst, z1, z2, ad]
        have fr := ((f1.trans f2).trans f3).trans f4
        have ln : s4.length = st.length := by rw [l4, l3, l2, l1]
        simp only [List.mem_cons, List.not_mem_nil, or_false] at md
        rcases md with hd | hd
        · exact ⟨.and c e, s4, fin _ hd, ⟨ok2, ok3⟩, Nat.succ_le_succ (Nat.max_le.mpr ⟨hh2, hh3⟩), t4, fr, ln⟩
        · exact ⟨.or c e, s4, fin _ hd, ⟨ok2, ok3⟩, Nat.succ_le_succ (Nat.max_le.mpr ⟨hh2, hh3⟩), t4, fr, ln⟩
end LW
namespace LW
open PySem PySem.Spec PyProof.Rows L2 DL TL
def atV (vs : List D) (c : Nat) : D := (vs[c]?).getD .non
theorem ix0 {a : D} {r : List D} : L2.atI (a :: r) 0 = some a := atI_nat (j := 0) rfl
theorem ix1 {a b : D} {r : List D} : L2.atI (a :: b :: r) 1 = some b := atI_nat (j := 1) rfl
theorem ix2 {a b c : D} {r : List D} : L2.atI (a :: b :: c :: r) 2 = some c := atI_nat (j := 2) rfl
/-- a text that starts so -/
def stV (x : Str) : D → Bool | .str z => Txt.startswith z x | _ => false
/-- what a condition means -/
def sat (vs : List D) : C → Bool
  | .all => true
  | .eq c v => vEq (atV vs c) v
  | .lt c v => decide (cmpV (atV vs c) v < 0)
  | .st c x => stV x (atV vs c)
  | .one c us => us.any fun u => vEq u (atV vs c)
  | .not p => !sat vs p
  | .and p q => sat vs p && sat vs q
  | .or p q => sat vs p || sat vs q
theorem eqF_pv {a b : D} (ha : pvB a = true) (hb : pvB b = true) : eqF a b = some (vEq a b) := by
  cases a <;> cases b <;> first
    | rfl
    | (cases ha; done)
    | (cases hb; done)
theorem flat_pv {a : D} (ha : pvB a = true) : flatD a = true := by
  cases a <;> first
    | rfl
    | (cases ha; done)
theorem anyF_pv {v : D} (hv : pvB v = true) : ∀ {us : List D}, (∀ u ∈ us, pvB u = true) → anyF v us = some (us.any fun u => vEq u v)
  | [], _ => rfl
  | u :: us, h => by
    have := anyF_pv hv fun x hx => h x (List.mem_cons_of_mem _ hx)
    simp [anyF, eqF_pv (h u List.mem_cons_self) hv, this]
theorem at_val {vs : List D} {c : Nat} (h : c < vs.length) : L2.atI vs (c : Int) = some (atV vs c) := by
  rw [atI_nat (List.getElem?_eq_getElem h)]
  simp [atV, List.getElem?_eq_getElem h]
theorem mem_val {vs : List D} {c : Nat} (h : c < vs.length) : atV vs c ∈ vs := by
  simp [atV, List.getElem?_eq_getElem h]
theorem ps_eq {v u : D} (hv : pvB v = true) (hu : pvB u = true) (st : Store) : m_passes [.str (Str.ofString "equal"), v, u] st = some (.bl (vEq v u), st) := by
  simp [m_passes, g_passes, mOf, outM, startD, sSeq, sIf, sRet, sNil, fVar, fC, fTest, fOp, asB, qs, opEq_fv (pv_fv hv) (pv_fv hu)]
theorem ps_lt {v u : D} (hv : pvB v = true) (hu : pvB u = true) (st : Store) : m_passes [.str (Str.ofString "less"), v, u] st = some (.bl (decide (cmpV v u < 0)), st) := by
  simp [m_passes, g_passes, mOf, outM, startD, sSeq, sIf, sRet, sNil, fVar, fC, fTest, fOp, asB, qs, fCall, aCons, aNil, cmp_ok (pv_fv hv) (pv_fv hu), opLt_int]
theorem ps_st {v : D} (hv : pvB v = true) {x : Str} (st : Store) : m_passes [.str (Str.ofString "starts"), v, .str x] st = some (.bl (stV x v), st) := by
  cases v with
  | str z => simp [m_passes, g_passes, mOf, outM, startD, sSeq, sIf, sRet, sNil, fVar, fC, fTest, fOp, asB, qs, fAnd, fIsi, tyD, isiB, fMt, aCons, aNil, startsD, stV]
  | non => simp [m_passes, g_passes, mOf, outM, startD, sSeq, sIf, sRet, sNil, fVar, fC, fTest, fOp, asB, qs, fAnd, fIsi, tyD, isiB, stV]
  | int i => simp [m_passes, g_passes, mOf, outM, startD, sSeq, sIf, sRet, sNil, fVar, fC, fTest, fOp, asB, qs, fAnd, fIsi, tyD, isiB, stV]
  | _ => cases hv
theorem ps_one {v : D} (hv : pvB v = true) {us : List D} (hu : ∀ u ∈ us, pvB u = true) (st : Store) : m_passes [.str (Str.ofString "one_of"), v, .tup us] st = some (.bl (us.any fun u => vEq u v), st) := by
  simp [m_passes, g_passes, mOf, outM, startD, sSeq, sIf, sRet, sNil, fVar, fC, fTest, fOp, asB, qs, inSeq, flat_pv hv, anyF_pv hv hu]
theorem matches_ok {vs : List D} (hv : ∀ v ∈ vs, pvB v = true) : ∀ (k : Nat) (c : C), c.ok vs.length → c.ht ≤ k → ∀ st : Store, m_matches k [c.d, .tup vs] st = some (.bl (sat vs c), st)
  | 0, c, _, h, _ => by have := C.ht_pos c; omega
  | k + 1, .all, _, _, st => by simp [m_matches, g_matches, mOf, outM, startD, sSeq, sAsg, sIf, sRet, sNil, gN, fVar, fC, fSub, ixD, L2.atI, ixN, fTest, fOp, asB, qs, C.d, sat]
  | k + 1, .eq c v, h, _, st => by
    have a := at_val h.1
    simp [m_matches, g_matches, mOf, outM, startD, sSeq, sAsg, sIf, sRet, sNil, gN, fVar, fC, fSub, ixD, fTest, fOp, asB, qs, C.d, sat, fCall, aCons, aNil, a, ix0, ix1, ix2, ps_eq (hv _ (mem_val h.1)) h.2]
  | k + 1, .lt c v, h, _, st => by
    have a := at_val h.1
    simp [m_matches, g_matches, mOf, outM, startD, sSeq, sAsg, sIf, sRet, sNil, gN, fVar, fC, fSub, ixD, fTest, fOp, asB, qs, C.d, sat, fCall, aCons, aNil, a, ix0, ix1, ix2, ps_lt (hv _ (mem_val h.1)) h.2]
  | k + 1, .st c x, h, _, st => by
    have a := at_val h.1
    simp [m_matches, g_matches, mOf, outM, startD, sSeq, sAsg, sIf, sRet, sNil, gN, fVar, fC, fSub, ixD, fTest, fOp, asB, qs, C.d, sat, fCall, aCons, aNil, a, ix0, ix1, ix2, ps_st (hv _ (mem_val h.1))]
  | k + 1, .one c us, h, _, st => by
    have a := at_val h.1
    simp [m_matches, g_matches, mOf, outM, startD, sSeq, sAsg, sIf, sRet, sNil, gN, fVar, fC, fSub, ixD, fTest, fOp, asB, qs, C.d, sat, fCall, aCons, aNil, a, ix0, ix1, ix2, ps_one (hv _ (mem_val h.1)) h.2.2.2]
  | k + 1, .not p, h, l, st => by
    have i1 := matches_ok hv k p h (Nat.le_of_succ_le_succ l) st
    simp [m_matches, g_matches, mOf, outM, startD, sSeq, sAsg, sIf, sRet, sNil, gN, fVar, fC, fSub, ixD, fTest, fOp, asB, qs, C.d, sat, fCall, aCons, aNil, ix0, ix1, ix2, i1, fNot]
  | k + 1, .and p q, h, l, st => by
    have l' := Nat.max_le.mp (Nat.le_of_succ_le_succ l)
    have i1 := matches_ok hv k p h.1 l'.1 st
    have i2 := matches_ok hv k q h.2 l'.2 st
    cases e : sat vs p <;> simp [m_matches, g_matches, mOf, outM, startD, sSeq, sAsg, sIf, sRet, sNil, gN, fVar, fC, fSub, ixD, fTest, fOp, asB, qs, C.d, sat, fCall, aCons, aNil, ix0, ix1, ix2, i1, i2, fAnd, e]
  | k + 1, .or p q, h, l, st => by
    have l' := Nat.max_le.mp (Nat.le_of_succ_le_succ l)
    have i1 := matches_ok hv k p h.1 l'.1 st
    have i2 := matches_ok hv k q h.2 l'.2 st
    cases e : sat vs p <;> simp [m_matches, g_matches, mOf, outM, startD, sSeq, sAsg, sIf, sRet, sNil, gN, fVar, fC, fSub, ixD, fTest, fOp, asB, qs, C.d, sat, fCall, aCons, aNil, ix0, ix1, ix2, i1, i2, fOr, e]
/-! the law's own reading -/
theorem kindIn {s : String} {b : Bool} (h1 : opEq (.str (Str.ofString s)) (.str (Str.ofString "and")) = some (.bl true) ∨ True) (h : (Str.ofString "and" == Str.ofString s || Str.ofString "or" == Str.ofString s) = b) :
    inSeq false (.str (Str.ofString s)) (.tup [.str (Str.ofString "and"), .str (Str.ofString "or")]) = some (.bl b) := by
  subst h
  simp [inSeq, flatD, anyF, eqF]
theorem ks : inSeq false (.str (Str.ofString "and")) (.tup [.str (Str.ofString "and"), .str (Str.ofString "or")]) = some (.bl true) ∧ inSeq false (.str (Str.ofString "or")) (.tup [.str (Str.ofString "and"), .str (Str.ofString "or")]) = some (.bl true) ∧
    inSeq false (.str (Str.ofString "equal")) (.tup [.str (Str.ofString "and"), .str (Str.ofString "or")]) = some (.bl false) ∧ inSeq false (.str (Str.ofString "less")) (.tup [.str (Str.ofString "and"), .str (Str.ofString "or")]) = some (.bl false) ∧
    inSeq false (.str (Str.ofString "starts")) (.tup [.str (Str.ofString "and"), .str (Str.ofString "or")]) = some (.bl false) ∧ inSeq false (.str (Str.ofString "one_of")) (.tup [.str (Str.ofString "and"), .str (Str.ofString "or")]) = some (.bl false) :=
  ⟨kindIn (.inr trivial) (by decide +kernel), kindIn (.inr trivial) (by decide +kernel), kindIn (.inr trivial) (by decide +kernel), kindIn (.inr trivial) (by decide +kernel), kindIn (.inr trivial) (by decide +kernel), kindIn (.inr trivial) (by decide +kernel)⟩
end LW
namespace LW
open PySem PySem.Spec PyProof.Rows L2 DL TL
def signB (c : Nat) : Bool := decide (32 ≤ c ∧ c ≤ 126)
def isInt : D → Bool | .int _ => true | _ => false
def strB : D → Bool | .str x => decide (x.length ≤ 20) && (tl x).all signB | _ => false
def valB : D → Bool | .non => true | .int i => decide (-1000000000 ≤ i ∧ i ≤ 1000000000) | .str x => decide (x.length ≤ 20) && (tl x).all signB | _ => false
def choiceB : D → Bool | .tup us => decide (1 ≤ us.length ∧ us.length ≤ 8) && us.all valB | _ => false
def colB (w : Int) : D → Bool | .int i => decide (0 ≤ i ∧ i < w) | _ => false
def okw (d : D) : Prop := okD d = true ∧ wD d ≤ 200000
theorem okw.mem {ds : List D} (h : okw (.tup ds)) {d : D} (m : d ∈ ds) : okw d := ⟨okL_mem.mp h.1 d m, by have := wL_mem m; have h2 : wL ds ≤ 200000 := h.2; omega⟩
theorem len_wL : ∀ ds : List D, ds.length ≤ wL ds
  | [] => Nat.le_refl _
  | d :: ds => by have := len_wL ds; rw [wL, List.length_cons]; omega
theorem okw.len {ds : List D} (h : okw (.tup ds)) : ds.length ≤ sizeLine := Nat.le_trans (len_wL ds) (Nat.le_trans h.2 (by rw [sizeLine_eq]; decide))
theorem okw.strlen {x : Str} (h : okw (.str x)) : x.length ≤ sizeLine := Nat.le_trans (show x.length ≤ 200000 from h.2) (by rw [sizeLine_eq]; decide)
theorem int_ok {d : D} (h : okw d) (st : Store) : m_is_integer [d] st = some (.bl (isInt d), st) := by
  cases d <;> first
    | (cases h.1; done)
    | (simp [m_is_integer, g_is_integer, mOf, outM, startD, sRet, fAnd, fNot, fIsi, fVar, tyD, isiB, asB, isInt]; done)
theorem lt1 {a b : Nat} (h : a < b) : ([a] : List Nat) < [b] := by simp [List.cons_lt_cons_iff, h]
theorem le1 {a b : Nat} (h : a ≤ b) : ([a] : List Nat) ≤ [b] := List.not_lt.mp (by simp [List.cons_lt_cons_iff]; omega)
theorem chain_sign (c : Nat) (env : Lo) (st : Store) (h : env[1]? = some (some (.str ⟨#[c]⟩))) : fChain opLe opLe (fC (.str (Str.ofString " "))) (fVar 1) (fC (.str (Str.ofString "~"))) env st = some (.bl (signB c), st) := by
  have e1 : (Str.ofString " ").cps.toList = [32] := by decide +kernel
  have e2 : (Str.ofString "~").cps.toList = [126] := by decide +kernel
  have l1 : opLe (.str (Str.ofString " ")) (.str ⟨#[c]⟩) = some (.bl (decide (32 ≤ c))) := by
    by_cases q : 32 ≤ c
    · simp [opLe, orD, leI, leS, onI, onS, e1, q, le1 q]
    · simp [opLe, orD, leI, leS, onI, onS, e1, q, lt1 (show c < 32 by omega)]
  have l2 : opLe (.str ⟨#[c]⟩) (.str (Str.ofString "~")) = some (.bl (decide (c ≤ 126))) := by
    by_cases q : c ≤ 126
    · simp [opLe, orD, leI, leS, onI, onS, e2, q, le1 q]
    · simp [opLe, orD, leI, leS, onI, onS, e2, q, lt1 (show 126 < c by omega)]
  by_cases h1 : 32 ≤ c
  · simp [fChain, fC, fVar, h, l1, l2, asB, h1, signB]
  · simp [fChain, fC, fVar, h, l1, asB, h1, signB]
theorem bools_map : ∀ l : List Bool, bools (l.map .bl) = some l
  | [] => rfl
  | b :: l => by simp [bools, bools_map l]
theorem signs_loop (x : Str) (st : Store) : loopC [1] b1 tTrue (fChain opLe opLe (fC (.str (Str.ofString " "))) (fVar 1) (fC (.str (Str.ofString "~")))) (x.cps.toList.map fun c => .str ⟨#[c]⟩) [some (.str x), none] st = some (((tl x).map signB).map .bl, st) := by
  have key : ∀ l : List Nat, loopC [1] b1 tTrue (fChain opLe opLe (fC (.str (Str.ofString " "))) (fVar 1) (fC (.str (Str.ofString "~")))) (l.map fun c => .str ⟨#[c]⟩) [some (.str x), none] st = some ((l.map signB).map .bl, st) := by
    intro l
    induction l with
    | nil => rfl
    | cons c l ih => simp only [List.map_cons, loopC, b1, Option.bind_some, tTrue, if_true, setL, chain_sign c [some (.str x), some (.str ⟨#[c]⟩)] st rfl, List.set_cons_succ, List.set_cons_zero, ih, Option.map_some]
  exact key (tl x)
theorem tl_len (x : Str) : (tl x).length = x.length := (len_tl x).symm
theorem string_ok {d : D} (h : okw d) (st : Store) : m_is_string [d] st = some (.bl (strB d), st) := by
  cases d with
  | str x =>
    have z := h.strlen
    by_cases c : x.length ≤ 20
    · have c2 : ¬ (20 : Int) < (x.length : Int) := by omega
      have zz : ((tl x).map signB).length ≤ sizeLine := by rw [List.length_map, tl_len]; exact z
      simp only [m_is_string, g_is_string, mOf, outM, startD, sSeq, sIf, sRet, sNil, fOrT, fNotT, fTest, fIsi, fVar, tyD, isiB, asB, fOp, fMk, bLen, lenL, aCons, aNil, fC]
      simp [z, opGt_int, c2, fComp, iOf, fVar, asStr, wipeL]
      rw [signs_loop x st]
      have ba := bools_map ((tl x).map signB)
      simp at ba zz
      simp [zz, ba, bAll, strB, c]
    · have c2 : (20 : Int) < (x.length : Int) := by omega
      simp [m_is_string, g_is_string, mOf, outM, startD, sSeq, sIf, sRet, sNil, fOrT, fNotT, fTest, fIsi, fVar, tyD, isiB, asB, fOp, fMk, bLen, lenL, aCons, aNil, fC, z, opGt_int, c2, strB, c]
  | scr _ => cases h.1
  | ref _ => cases h.1
  | _ => simp [m_is_string, g_is_string, mOf, outM, startD, sSeq, sIf, sRet, fOrT, fNotT, fTest, fIsi, fVar, tyD, isiB, asB, fC, strB]
theorem opLe_int (a b : Int) : opLe (.int a) (.int b) = some (.bl (decide (a ≤ b))) := by simp [opLe, orD, leI, onI]
theorem chain_int {a b c : Int} {fa fb fc : F} {env : Lo} {st : Store} (h1 : fa env st = some (.int a, st)) (h2 : fb env st = some (.int b, st)) (h3 : fc env st = some (.int c, st)) : fChain opLe opLe fa fb fc env st = some (.bl (decide (a ≤ b ∧ b ≤ c)), st) := by
  by_cases q : a ≤ b
  · simp [fChain, h1, h2, h3, opLe_int, asB, q]
  · simp [fChain, h1, h2, opLe_int, asB, q]
theorem isval_ok {d : D} (h : okw d) (st : Store) : m_is_value [d] st = some (.bl (valB d), st) := by
  have k := string_ok h st
  have k2 := int_ok h st
  cases d with
  | int i =>
    have c := chain_int (a := -1000000000) (b := i) (c := 1000000000) (fa := fUn negI (fC (.int 1000000000))) (fb := fVar 0) (fc := fC (.int 1000000000)) (env := [some (.int i)]) (st := st) (by simp [fUn, negI, fC]) (by simp [fVar]) (by simp [fC])
    simp only [m_is_value, g_is_value, mOf, outM, startD, sSeq, sIf, sRet, sNil, fTest, fCall, aCons, aNil, List.map_cons, List.map_nil, List.singleton_append, show N_is_value.length = 1 from rfl, List.length_cons, List.length_nil, show List.replicate (1 - (0 + 1)) (none : Option D) = [] from rfl]
    simp [fVar, k2, isInt, asB]
    rw [show ([some (D.int i)] : Lo) = [some (.int i)] from rfl, c]
    simp [valB]
  | scr _ => cases h.1
  | ref _ => cases h.1
  | _ => simp [m_is_value, g_is_value, mOf, outM, startD, sSeq, sIf, sRet, sNil, fTest, fCall, aCons, aNil, fVar, k2, isInt, asB, fOr, fOp, fC, opIs, orD, isN, isB, DL.isNon, k, strB, valB]
theorem map_loop {is : List Nat} {f : F} {env : Lo} {st : Store} {g : D → Bool} {us : List D} (h : ∀ u ∈ us, f (setL is [u] env) st = some (.bl (g u), st)) : loopC is b1 tTrue f us env st = some ((us.map g).map .bl, st) := by
  have := loopC_map (is := is) (bd := b1) (f := f) (g := fun u => .bl (g u)) (env := env) (st := st) (ds := us) fun d hd => ⟨[d], rfl, h d hd⟩
  rw [this, List.map_map]
  rfl
theorem all_id (g : D → Bool) (us : List D) : (us.map g).all id = us.all g := by
  induction us with
  | nil => rfl
  | cons u us ih => rw [List.map_cons, List.all_cons, List.all_cons, ih]; rfl
def isK (s : String) : D → Bool | .str x => x == Str.ofString s | _ => false
theorem isK_str (s : String) (x : Str) : isK s (.str x) = (x == Str.ofString s) := rfl
def operB (k : D) (d : D) : Bool := if isK "equal" k || isK "less" k then valB d else if isK "starts" k then (strB d && !isK "" d) else isK "one_of" k && choiceB d
def cw (w : Int) : Nat → D → Bool
  | k + 1, .tup (h :: r) => if isK "all" h then r.isEmpty else if isK "not" h then (match r with | [p] => cw w k p | _ => false) else (match r with | [p, q] => if isK "and" h || isK "or" h then cw w k p && cw w k q else colB w p && operB h q | _ => false)
  | _, _ => false
def rngB (a b : Int) : D → Bool | .int i => decide (a ≤ i ∧ i ≤ b) | _ => false
end LW
namespace LW
open PySem PySem.Spec PyProof.Rows L2 DL TL
/-! marks bent -/
def o2 : List D := [.str (Txt.mul (Str.ofString "x") 20), .str (Txt.mul (Str.ofString "x") 21), .int 1000000, .int 1000000000, .int 1000000001, .int (-1000000000), .int (-1000000001)]
end LW
namespace LW
open PySem PySem.Spec PyProof.Rows L2 DL TL
def lowB (c : Nat) : Bool := decide (97 ≤ c ∧ c ≤ 122)
def nameB : D → Bool | .str x => decide (1 ≤ x.length ∧ x.length ≤ 8) && (tl x).all lowB | _ => false
def barL : List Str := [Str.ofString "all", Str.ofString "and", Str.ofString "in", Str.ofString "none", Str.ofString "not", Str.ofString "or", Str.ofString "starts"]
def barB (s : Str) : Bool := barL.any (· == s)
def colNameB (d : D) : Bool := nameB d && match d with | .str x => !barB x | _ => true
def strsB (ds : List D) : Bool := match strsD ds with | some xs => decide xs.Nodup | none => false
def colsB : D → Bool | .tup ds => decide (1 ≤ ds.length ∧ ds.length ≤ 6) && ds.all colNameB && strsB ds | _ => false
def rowB (n : Nat) : D → Bool | .tup [a, .tup vs] => rngB 1 1000000 a && (decide (vs.length = n) && vs.all valB) | _ => false
theorem chain_c {a b : Str} {lo hi c i : Nat} {env : Lo} {st : Store} (ea : a.cps.toList = [lo]) (eb : b.cps.toList = [hi]) (h : env[i]? = some (some (.str ⟨#[c]⟩))) : fChain opLe opLe (fC (.str a)) (fVar i) (fC (.str b)) env st = some (.bl (decide (lo ≤ c ∧ c ≤ hi)), st) := by
  have l1 : opLe (.str a) (.str ⟨#[c]⟩) = some (.bl (decide (lo ≤ c))) := by
    by_cases q : lo ≤ c
    · simp [opLe, orD, leI, leS, onI, onS, ea, q, le1 q]
    · simp [opLe, orD, leI, leS, onI, onS, ea, q, lt1 (show c < lo by omega)]
  have l2 : opLe (.str ⟨#[c]⟩) (.str b) = some (.bl (decide (c ≤ hi))) := by
    by_cases q : c ≤ hi
    · simp [opLe, orD, leI, leS, onI, onS, eb, q, le1 q]
    · simp [opLe, orD, leI, leS, onI, onS, eb, q, lt1 (show hi < c by omega)]
  by_cases h1 : lo ≤ c
  · simp [fChain, fC, fVar, h, l1, l2, asB, h1]
  · simp [fChain, fC, fVar, h, l1, asB, h1]
theorem chain_low {c i : Nat} {env : Lo} {st : Store} (h : env[i]? = some (some (.str ⟨#[c]⟩))) : fChain opLe opLe (fC (.str (Str.ofString "a"))) (fVar i) (fC (.str (Str.ofString "z"))) env st = some (.bl (lowB c), st) :=
  chain_c (by decide +kernel) (by decide +kernel) h
theorem lows_loop (l : List Nat) (x : D) (st : Store) : loopC [1] b1 tTrue (fChain opLe opLe (fC (.str (Str.ofString "a"))) (fVar 1) (fC (.str (Str.ofString "z")))) (l.map fun c => .str ⟨#[c]⟩) [some x, none] st = some ((l.map lowB).map .bl, st) := by
  induction l with
  | nil => rfl
  | cons c l ih => simp only [List.map_cons, loopC, b1, Option.bind_some, tTrue, if_true, setL, chain_low (c := c) (i := 1) (env := [some x, some (.str ⟨#[c]⟩)]) (st := st) rfl, List.set_cons_succ, List.set_cons_zero, ih, Option.map_some]
theorem name_ok {d : D} (h : okw d) (st : Store) : m_is_name [d] st = some (.bl (nameB d), st) := by
  cases d with
  | str x =>
    have z := h.strlen
    have c := chain_int (a := 1) (b := x.length) (c := 8) (fa := fC (.int 1)) (fb := fMk bLen (aCons (fVar 0) aNil)) (fc := fC (.int 8)) (env := [some (.str x), none]) (st := st) (by simp [fC]) (by simp [fMk, bLen, lenL, aCons, aNil, fVar, z]) (by simp [fC])
    by_cases q : 1 ≤ x.length ∧ x.length ≤ 8
    · have q2 : (1 : Int) ≤ x.length ∧ (x.length : Int) ≤ 8 := by omega
      have zz : ((tl x).map lowB).length ≤ sizeLine := by rw [List.length_map, tl_len]; exact z
      simp only [m_is_name, g_is_name, mOf, outM, startD, sSeq, sIf, sRet, sNil, fOrT, fNotT, fTest, fIsi, tyD, isiB, asB]
      simp [fVar, c, q2, asB, fMk, aCons, aNil, fComp, iOf, asStr, wipeL]
      have lp := lows_loop (tl x) (.str x) st
      rw [show (x.cps.toList.map fun c => D.str ⟨#[c]⟩) = (tl x).map fun c => D.str ⟨#[c]⟩ from rfl, lp]
      have ba := bools_map ((tl x).map lowB)
      simp at ba zz
      simp [zz, ba, bAll, nameB, q]
    · have q2 : ¬ ((1 : Int) ≤ x.length ∧ (x.length : Int) ≤ 8) := by omega
      simp only [q2, decide_false] at c
      simp only [m_is_name, g_is_name, mOf, outM, startD, sSeq, sIf, sRet, sNil, fOrT, fNotT, fTest, fIsi, tyD, isiB, asB, nameB]
      simp [fVar, c, fC, q, asB]
  | scr _ => cases h.1
  | ref _ => cases h.1
  | _ => simp [m_is_name, g_is_name, mOf, outM, startD, sSeq, sIf, sRet, sNil, fOrT, fNotT, fTest, fIsi, tyD, isiB, asB, fVar, fC, nameB]
theorem inBar (neg : Bool) (s : Str) : inSeq neg (.str s) (.tup (barL.map .str)) = some (.bl (if neg then !barB s else barB s)) := by
  have key : ∀ l : List Str, anyF (.str s) (l.map .str) = some (l.any (· == s)) := by
    intro l
    induction l with
    | nil => rfl
    | cons a l ih => simp [anyF, eqF, ih]
  show (if flatD (.str s) then (anyF (.str s) (barL.map .str)).map fun b => D.bl (if neg then !b else b) else none) = _
  rw [key]
  rfl
theorem colname_ok {d : D} (h : okw d) (st : Store) : m_is_column_name [d] st = some (.bl (colNameB d), st) := by
  have k := name_ok h st
  have ib : ∀ s, inSeq true (.str s) (.tup (([Str.ofString "all", Str.ofString "and", Str.ofString "in", Str.ofString "none", Str.ofString "not", Str.ofString "or", Str.ofString "starts"] : List Str).map .str)) = some (.bl (!barB s)) := fun s => inBar true s
  cases d with
  | str x =>
    cases q : nameB (.str x) with
    | true =>
      rw [q] at k
      simp only [m_is_column_name, g_is_column_name, mOf, outM, startD, sRet, fAnd, fCall, aCons, aNil, fOp, fC, show N_is_column_name.length = 1 from rfl]
      simp [fVar, k, asB, ib, colNameB, q]
      simp at ib
      simp [ib]
    | false =>
      rw [q] at k
      simp [m_is_column_name, g_is_column_name, mOf, outM, startD, sRet, fAnd, fCall, aCons, aNil, fVar, k, asB, colNameB, q]
  | scr _ => cases h.1
  | ref _ => cases h.1
  | _ => simp [m_is_column_name, g_is_column_name, mOf, outM, startD, sRet, fAnd, fCall, aCons, aNil, fVar, k, asB, colNameB, nameB]
theorem names_strs : ∀ {ds : List D}, ds.all colNameB = true → ∃ xs : List Str, strsD ds = some xs ∧ ds = xs.map .str
  | [], _ => ⟨[], rfl, rfl⟩
  | d :: ds, h => by
    rw [List.all_cons, Bool.and_eq_true] at h
    obtain ⟨xs, h1, h2⟩ := names_strs h.2
    cases d with
    | str x => exact ⟨x :: xs, by simp [strsD, h1], by rw [h2]; rfl⟩
    | _ => simp [colNameB, nameB] at h
theorem cols_ok {d : D} (h : okw d) (st : Store) : m_is_columns [d] st = some (.bl (colsB d), st) := by
  cases d with
  | tup us =>
    have z := h.len
    have c := chain_int (a := 1) (b := us.length) (c := 6) (fa := fC (.int 1)) (fb := fMk bLen (aCons (fVar 0) aNil)) (fc := fC (.int 6)) (env := [some (.tup us), none]) (st := st) (by simp [fC]) (by simp [fMk, bLen, lenL, aCons, aNil, fVar, z]) (by simp [fC])
    have lp := map_loop (is := [1]) (f := fCall m_is_column_name (aCons (fVar 1) aNil)) (env := [some (.tup us), none]) (st := st) (g := colNameB) (us := us) (fun u hu => by simp [fCall, aCons, aNil, fVar, setL, colname_ok (h.mem hu)])
    by_cases q : 1 ≤ us.length ∧ us.length ≤ 6
    · have q2 : (1 : Int) ≤ us.length ∧ (us.length : Int) ≤ 6 := by omega
      have ba := bools_map (us.map colNameB)
      have al := all_id colNameB us
      cases qa : us.all colNameB with
      | true =>
        obtain ⟨xs, h1, h2⟩ := names_strs qa
        have hl : xs.length = us.length := by rw [h2, List.length_map]
        have hx : xs.length < 1000 := by omega
        have nd := cntS_nodup xs
        have el : opEq (.int (cntS xs xs.length : Nat)) (.int us.length) = some (.bl (decide xs.Nodup)) := by
          rw [opEq_int, ← hl]
          by_cases hn : xs.Nodup
          · rw [nd.mpr hn]; simp [hn]
          · have hne : (cntS xs xs.length : Int) ≠ xs.length := fun e => hn (nd.mp (by omega))
            simp [hn, hne]
        rw [qa] at al
        simp at ba al
        simp only [m_is_columns, g_is_columns, mOf, outM, startD, sSeq, sIf, sRet, sNil, fOrT, fNotT, fTest, fIsi, tyD, isiB, asB]
        simp [fVar, c, q2, asB, fMk, aCons, aNil, fComp, iOf, asT, wipeL, lp, z, bAll, ba, fLenSt, h1, hx, fOp, bLen, lenL, el, colsB, q, strsB, qa]
      | false =>
        rw [qa] at al
        simp at ba al
        simp only [m_is_columns, g_is_columns, mOf, outM, startD, sSeq, sIf, sRet, sNil, fOrT, fNotT, fTest, fIsi, tyD, isiB, asB]
        simp [fVar, c, q2, asB, fMk, aCons, aNil, fComp, iOf, asT, wipeL, lp, z, bAll, ba, colsB, q, qa, fC, al]
    · have q2 : ¬ ((1 : Int) ≤ us.length ∧ (us.length : Int) ≤ 6) := by omega
      simp only [q2, decide_false] at c
      simp only [m_is_columns, g_is_columns, mOf, outM, startD, sSeq, sIf, sRet, sNil, fOrT, fNotT, fTest, fIsi, tyD, isiB, asB, colsB]
      simp [fVar, c, fC, q, asB]
  | scr _ => cases h.1
  | ref _ => cases h.1
  | _ => simp [m_is_columns, g_is_columns, mOf, outM, startD, sSeq, sIf, sRet, sNil, fOrT, fNotT, fTest, fIsi, tyD, isiB, asB, fVar, fC, colsB]
theorem rowid_ok {d : D} (h : okw d) (st : Store) : m_is_row_id [d] st = some (.bl (rngB 1 1000000 d), st) := by
  have k := int_ok h st
  cases d with
  | int i =>
    have c := chain_int (a := 1) (b := i) (c := 1000000) (fa := fC (.int 1)) (fb := fVar 0) (fc := fC (.int 1000000)) (env := [some (.int i)]) (st := st) (by simp [fC]) (by simp [fVar]) (by simp [fC])
    simp only [m_is_row_id, g_is_row_id, mOf, outM, startD, sRet, fAnd, fCall, aCons, aNil, show N_is_row_id.length = 1 from rfl]
    simp [fVar, k, isInt, asB]
    rw [c]
    simp [rngB]
  | scr _ => cases h.1
  | ref _ => cases h.1
  | _ => simp [m_is_row_id, g_is_row_id, mOf, outM, startD, sRet, fAnd, fCall, aCons, aNil, fVar, k, isInt, asB, rngB]
theorem ix0' {a : D} {r : List D} : L2.atI (a :: r) 0 = some a := atI_nat (j := 0) rfl
theorem ix1' {a b : D} {r : List D} : L2.atI (a :: b :: r) 1 = some b := atI_nat (j := 1) rfl
theorem len2 {us : List D} (h : us.length = 2) : ∃ a b, us = [a, b] := by
  match us, h with
  | [a, b], _ => exact ⟨a, b, rfl⟩
theorem rowB_no {n : Nat} {us : List D} (h : ¬ us.length = 2) : rowB n (.tup us) = false := by
  match us, h with
  | [], _ => rfl
  | [_], _ => rfl
  | [_, _], h => exact absurd rfl h
  | a :: b :: c :: r, _ => cases b <;> rfl
theorem row_ok {cs : List D} {d : D} (hc : cs.length ≤ sizeLine) (h : okw d) (st : Store) : m_is_row [.tup cs, d] st = some (.bl (rowB cs.length d), st) := by
  cases d with
  | tup us =>
    have z := h.len
    by_cases q : us.length = 2
    · obtain ⟨a, b, rfl⟩ := len2 q
      have ha := h.mem (d := a) (by simp)
      have hb := h.mem (d := b) (by simp)
      have k1 := rowid_ok ha st
      have z2 : 2 ≤ sizeLine := by decide
      have nq : opNe (.int 2) (.int 2) = some (.bl false) := by rw [opNe_int]; rfl
      have pre : ∀ k, (k = false → rngB 1 1000000 a = false) → True := fun _ _ => trivial
      cases qa : rngB 1 1000000 a with
      | false =>
        rw [qa] at k1
        have e : rowB cs.length (.tup [a, b]) = false := by cases b <;> simp [rowB, qa]
        rw [e]
        simp [m_is_row, g_is_row, mOf, outM, startD, sSeq, sIf, sRet, sNil, sAsg, gT, gCons', gNil', gN, fOrT, fNotT, fTest, fIsi, tyD, isiB, asB, fVar, fOp, fMk, bLen, lenL, aCons, aNil, z2, fC, nq, fCall, k1]
      | true =>
        rw [qa] at k1
        cases b with
        | tup vs =>
          have zv := hb.len
          have lp := map_loop (is := [4]) (f := fCall m_is_value (aCons (fVar 4) aNil)) (env := [some (.tup cs), some (.tup [a, .tup vs]), some a, some (.tup vs), none]) (st := st) (g := valB) (us := vs) (fun u hu => by simp [fCall, aCons, aNil, fVar, setL, isval_ok (hb.mem hu)])
          have ba := bools_map (vs.map valB)
          have al := all_id valB vs
          have e : rowB cs.length (.tup [a, .tup vs]) = (decide (vs.length = cs.length) && vs.all valB) := by simp only [rowB]; rw [qa, Bool.true_and]
          rw [e]
          by_cases ql : vs.length = cs.length
          · have qe : opEq (.int vs.length) (.int cs.length) = some (.bl true) := by rw [opEq_int, ql]; simp
            rw [decide_eq_true ql, Bool.true_and]
            generalize vs.all valB = kk at al
            simp only [m_is_row, g_is_row, mOf, outM, startD, sSeq, sIf, sRet, sNil, sAsg, gT, gCons', gNil', gN, fOrT, fNotT, fTest, fIsi, tyD, isiB, asB, fAnd]
            simp at ba al zv
            simp [fVar, fOp, fMk, bLen, lenL, aCons, aNil, z2, fC, nq, fCall, k1, asB, isiB, tyD, zv, hc, qe, fComp, iOf, asT, wipeL, lp, bAll, ba, al]
          · have qe : opEq (.int vs.length) (.int cs.length) = some (.bl false) := by
              rw [opEq_int]
              have : (vs.length : Int) ≠ cs.length := by omega
              simp [this]
            rw [decide_eq_false ql, Bool.false_and]
            simp only [m_is_row, g_is_row, mOf, outM, startD, sSeq, sIf, sRet, sNil, sAsg, gT, gCons', gNil', gN, fOrT, fNotT, fTest, fIsi, tyD, isiB, asB, fAnd]
            simp [fVar, fOp, fMk, bLen, lenL, aCons, aNil, z2, fC, nq, fCall, k1, asB, isiB, tyD, zv, hc, qe]
        | scr _ => cases hb.1
        | ref _ => cases hb.1
        | _ => simp [m_is_row, g_is_row, mOf, outM, startD, sSeq, sIf, sRet, sNil, sAsg, gT, gCons', gNil', gN, fOrT, fNotT, fTest, fIsi, tyD, isiB, asB, fVar, fOp, fMk, bLen, lenL, aCons, aNil, z2, fC, nq, fCall, k1, rowB]
    · have nq : opNe (.int us.length) (.int 2) = some (.bl true) := by
        rw [opNe_int]
        have : (us.length : Int) ≠ 2 := by omega
        simp [this]
      rw [rowB_no q]
      simp [m_is_row, g_is_row, mOf, outM, startD, sSeq, sIf, sRet, sNil, fOrT, fNotT, fTest, fIsi, tyD, isiB, asB, fVar, fOp, fMk, bLen, lenL, aCons, aNil, z, fC, nq]
  | scr _ => cases h.1
  | ref _ => cases h.1
  | _ => simp [m_is_row, g_is_row, mOf, outM, startD, sSeq, sIf, sRet, sNil, fOrT, fNotT, fTest, fIsi, tyD, isiB, asB, fVar, fC, rowB]
theorem sign_lt {x : Str} (h : (tl x).all signB = true) : ∀ c ∈ tl x, c < 128 := fun c hc => by
  have := of_decide_eq_true (List.all_eq_true.mp h c hc)
  omega
theorem str_valB {x : Str} (hl : x.length ≤ 20) (h : (tl x).all signB = true) : valB (.str x) = true := by
  show (decide (x.length ≤ 20) && (tl x).all signB) = true
  rw [h, decide_eq_true hl]; rfl
theorem valB_str {x : Str} (h : valB (.str x) = true) : x.length ≤ 20 ∧ (tl x).all signB = true := by
  have := Bool.and_eq_true_iff.mp (show (decide (x.length ≤ 20) && (tl x).all signB) = true from h)
  exact ⟨of_decide_eq_true this.1, this.2⟩
theorem valB_pv {d : D} (h : valB d = true) : pvB d = true := by
  cases d with
  | non => rfl
  | int i => exact h
  | str x =>
    obtain ⟨a, b⟩ := valB_str h
    exact gs_asc (n := 40) ⟨by omega, sign_lt b⟩
  | _ => cases h
theorem val_okw {d : D} (h : valB d = true) : okD d = true ∧ wD d ≤ 300 ∧ hD d = 0 := by
  cases d with
  | non => exact ⟨rfl, by decide, rfl⟩
  | int i =>
    have := of_decide_eq_true (show decide (-1000000000 ≤ i ∧ i ≤ 1000000000) = true from h)
    refine ⟨decide_eq_true ?_, Nat.le_trans (Nat.le_refl 210) (by decide), rfl⟩
    have : (10 : Nat) ^ 10 ≤ 10 ^ 62 := by decide
    omega
  | str x =>
    obtain ⟨a, b⟩ := valB_str h
    exact ⟨List.all_eq_true.mpr fun c hc => decide_eq_true (sign_lt b c hc), Nat.le_trans a (by decide), rfl⟩
  | _ => cases h
theorem allVB : (someV ++ moreV).all valB = true := by decide +kernel
theorem joinV {k : Nat} {vs : List D} (h : ∀ v ∈ vs, ∃ c, v = .str ⟨#[c]⟩ ∧ signB c = true) (hl : vs.length ≤ k) (hk : k ≤ 20) : ∃ z, joinD (.str (Str.ofString "")) [.lst vs] = some (.str z) ∧ valB (.str z) = true := by
  have key : ∀ {vs : List D}, (∀ v ∈ vs, ∃ c, v = .str ⟨#[c]⟩ ∧ signB c = true) → ∃ ys, strsD vs = some ys ∧ ys.length = vs.length ∧ ∀ y ∈ ys, ∃ c, y = ⟨#[c]⟩ ∧ signB c = true := by
    intro vs
    induction vs with
    | nil => exact fun _ => ⟨[], rfl, rfl, fun _ h => by cases h⟩
    | cons v vs ih =>
      intro h
      obtain ⟨c, rfl, g⟩ := h v List.mem_cons_self
      obtain ⟨ys, h1, h2, h3⟩ := ih fun w hw => h w (List.mem_cons_of_mem _ hw)
      refine ⟨⟨#[c]⟩ :: ys, by simp [strsD, h1], by simp [h2], fun y hy => ?_⟩
      rcases List.mem_cons.mp hy with rfl | hy
      · exact ⟨c, rfl, g⟩
      · exact h3 y hy
  obtain ⟨ys, h1, h2, h3⟩ := key h
  have h3' : ∀ y ∈ ys, GS 1 y := fun y hy => by
    obtain ⟨c, rfl, g⟩ := h3 y hy
    refine ⟨Nat.le_refl _, fun x hx => ?_⟩
    have : x = c := by simpa using hx
    have := of_decide_eq_true g
    omega
  have hs := sum_le h3'
  have : (ys.map (·.length)).sum + ys.length * (Str.ofString "").length ≤ 16777216 := by
    rw [show (Str.ofString "").length = 0 from rfl]
    omega
  refine ⟨_, by simp only [joinD, h1, Option.bind_some]; rw [if_pos this], str_valB ?_ ?_⟩
  · have := (GS.join h3').1
    omega
  · rw [tl_join0]
    refine List.all_eq_true.mpr fun c hc => ?_
    obtain ⟨l, hl, hc⟩ := List.mem_flatten.mp hc
    obtain ⟨y, hy, rfl⟩ := List.mem_map.mp hl
    obtain ⟨c', rfl, g⟩ := h3 y hy
    have : c = c' := by simpa using hc
    rw [this]; exact g
def Vt (d : D) : Prop := d = .non ∨ ∃ vs, d = .tup vs ∧ vs.length ≤ 10 ∧ ∀ v ∈ vs, valB v = true
theorem val_eqv {a b : D} {p q : PyData} (ha : valB a = true) (hb : valB b = true) (h1 : toPy a = some p) (h2 : toPy b = some q) : PyData.eqv p q = true ↔ a = b := by
  cases a <;> cases b <;> first
    | (cases ha; done)
    | (cases hb; done)
    | (cases h1; cases h2; simp [PyData.eqv])
theorem vals_eqv : ∀ {as bs : List D} {ps qs : List PyData}, (∀ v ∈ as, valB v = true) → (∀ v ∈ bs, valB v = true) → toPyL as = some ps → toPyL bs = some qs → (PyData.eqvAll ps qs = true ↔ as = bs)
  | [], [], _, _, _, _, h1, h2 => by cases h1; cases h2; simp [PyData.eqvAll]
  | [], b :: bs, _, _, _, _, h1, h2 => by
    cases h1
    obtain ⟨q, g1, g2⟩ := Option.bind_eq_some_iff.mp (show ((toPy b).bind fun p => (toPyL bs).map fun q => p :: q) = some _ from h2)
    obtain ⟨qs, g3, g4⟩ := Option.map_eq_some_iff.mp g2
    subst g4
    simp [PyData.eqvAll]
  | a :: as, [], _, _, _, _, h1, h2 => by
    cases h2
    obtain ⟨q, g1, g2⟩ := Option.bind_eq_some_iff.mp (show ((toPy a).bind fun p => (toPyL as).map fun q => p :: q) = some _ from h1)
    obtain ⟨qs, g3, g4⟩ := Option.map_eq_some_iff.mp g2
    subst g4
    simp [PyData.eqvAll]
  | a :: as, b :: bs, _, _, ha, hb, h1, h2 => by
    obtain ⟨p, g1, g2⟩ := Option.bind_eq_some_iff.mp (show ((toPy a).bind fun p => (toPyL as).map fun q => p :: q) = some _ from h1)
    obtain ⟨ps, g3, g4⟩ := Option.map_eq_some_iff.mp g2
    subst g4
    obtain ⟨q, f1, f2⟩ := Option.bind_eq_some_iff.mp (show ((toPy b).bind fun p => (toPyL bs).map fun q => p :: q) = some _ from h2)
    obtain ⟨qs, f3, f4⟩ := Option.map_eq_some_iff.mp f2
    subst f4
    have e1 := val_eqv (ha a List.mem_cons_self) (hb b List.mem_cons_self) g1 f1
    have e2 := vals_eqv (fun v hv => ha v (List.mem_cons_of_mem _ hv)) (fun v hv => hb v (List.mem_cons_of_mem _ hv)) g3 f3
    simp [PyData.eqvAll, e1, e2]
theorem vt_py {d : D} (h : Vt d) : ∃ p, toPy d = some p ∧ shB p = true ∧ SeqAt.shaped p = true := by
  rcases h with rfl | ⟨vs, rfl, hl, hv⟩
  · exact ⟨.none, rfl, by decide, by decide⟩
  · obtain ⟨p, h1, h2, h3, _⟩ := Sm.tup (SmL.all (dp := 0) (wt := 40) fun v m => pv_sm (valB_pv (hv v m)))
    refine ⟨p, h1, ?_, ?_⟩
    · unfold shB
      rw [h2, decide_eq_true (by omega)]; rfl
    · unfold SeqAt.shaped
      rw [h2, decide_eq_true (by omega)]; rfl
theorem vt_eqv {a b : D} {p q : PyData} (ha : Vt a) (hb : Vt b) (h1 : toPy a = some p) (h2 : toPy b = some q) : PyData.eqv p q = true ↔ a = b := by
  rcases ha with rfl | ⟨vs, rfl, _, hv⟩ <;> rcases hb with rfl | ⟨us, rfl, _, hu⟩
  · cases h1; cases h2; simp [PyData.eqv]
  · cases h1
    obtain ⟨qs, _, rfl⟩ := Option.map_eq_some_iff.mp (show (toPyL us).map PyData.tuple = some q from h2)
    simp [PyData.eqv]
  · cases h2
    obtain ⟨qs, _, rfl⟩ := Option.map_eq_some_iff.mp (show (toPyL vs).map PyData.tuple = some p from h1)
    simp [PyData.eqv]
  · obtain ⟨ps, f1, rfl⟩ := Option.map_eq_some_iff.mp (show (toPyL vs).map PyData.tuple = some p from h1)
    obtain ⟨qs, f2, rfl⟩ := Option.map_eq_some_iff.mp (show (toPyL us).map PyData.tuple = some q from h2)
    have := vals_eqv hv hu f1 f2
    simp [PyData.eqv, this]
def neB (a b : D) : Bool := match opNe a b with | some (.bl c) => c | _ => false
theorem ne_ok {a b : D} (ha : Vt a) (hb : Vt b) : opNe a b = some (.bl (neB a b)) ∧ eqFl a b = some (!neB a b) ∧ (neB a b = false ↔ a = b) := by
  obtain ⟨p, h1, s1, t1⟩ := vt_py ha
  obtain ⟨q, h2, s2, t2⟩ := vt_py hb
  have e := vt_eqv ha hb h1 h2
  have o : opNe a b = some (.bl (!PyData.eqv p q)) := by simp [opNe, h1, h2, t1, t2]
  have n : neB a b = !PyData.eqv p q := by simp [neB, o]
  refine ⟨by rw [n]; exact o, by simp [eqFl, h1, h2, s1, s2, n], ?_⟩
  rw [n, ← e]
  cases PyData.eqv p q <;> simp
theorem set_same {α : Type} {l : List α} {n : Nat} {x : α} (h : l[n]? = some x) : l.set n x = l := by
  refine List.ext_getElem? fun m => ?_
  by_cases e : n = m
  · subst e
    rw [List.getElem?_set_self (List.getElem?_eq_some_iff.mp h).1, h]
  · rw [List.getElem?_set_ne e]
theorem dropD_none {T : KL} {k : Key} (h : valD T k = none) : dropD T k = T := by
  unfold dropD
  refine List.filter_eq_self.mpr fun p hp => ?_
  have := valD_none.mp h
  exact decide_eq_true fun e => this (List.mem_map.mpr ⟨p, hp, e⟩)
def takeF (acc : KL) (kv : Key × D) : KL := if DL.isNon kv.2 = true then dropD acc kv.1 else putD acc kv.1 kv.2
def takeK (T s : KL) : KL := s.foldl takeF T
def StB : D → Bool | .non => true | .tup _ => true | _ => false
theorem okK_takeF {U : List Int} {T : KL} (h : okK U T) {kv : Key × D} (hk : ∃ i ∈ U, kv.1 = .inl i) : okK U (takeF T kv) := by
  obtain ⟨i, hi, e⟩ := hk
  unfold takeF
  split
  · exact h.drop _
  · rw [e]; exact h.put hi _
theorem okK_take {U : List Int} {s : KL} : ∀ {T : KL}, okK U T → (∀ p ∈ s, ∃ i ∈ U, p.1 = .inl i) → okK U (takeK T s) := by
  induction s with
  | nil => exact fun h _ => h
  | cons p s ih => exact fun h g => ih (okK_takeF h (g p List.mem_cons_self)) fun q hq => g q (List.mem_cons_of_mem _ hq)
theorem gt_takeF (T : KL) (k : Key) (v : D) (i : Int) : gt (takeF T (k, v)) i = if k = .inl i then (if DL.isNon v = true then none else some v) else gt T i := by
  unfold takeF gt
  by_cases h : DL.isNon v = true
  · simp only [h, if_true]
    rw [valD_drop]
  · simp only [h, Bool.false_eq_true, if_false]
    rw [valD_put]
theorem gt_take {s : KL} : ∀ {T : KL} {i : Int}, (s.map (·.1)).Nodup → gt (takeK T s) i = match gt s i with | none => gt T i | some v => if DL.isNon v = true then none else some v := by
  induction s with
  | nil => intro T i _; rfl
  | cons p s ih =>
    obtain ⟨k, v⟩ := p
    intro T i nd
    have nd' := List.nodup_cons.mp (show (k :: s.map (·.1)).Nodup from nd)
    show gt (takeK (takeF T (k, v)) s) i = _
    rw [ih nd'.2, gt_takeF]
    show _ = match valD ((k, v) :: s) (.inl i) with | none => gt T i | some v => if DL.isNon v = true then none else some v
    rw [valD_cons]
    by_cases h : k = .inl i
    · subst h
      have : gt s i = none := valD_none.mpr nd'.1
      simp [this]
    · simp only [h, if_false]
      rfl
theorem is_non {d : D} (h : StB d = true) : opIs d .non = some (.bl (DL.isNon d)) := by
  cases d with
  | non => rfl
  | tup _ => rfl
  | _ => cases h
theorem take_loop {U : List Int} {s : KL} (hU : U.length ≤ 60) (hs : okK U s) (hv : ∀ p ∈ s, StB p.2 = true) {n : Nat} : ∀ {r : KL}, (∀ p ∈ r, p ∈ s) → ∀ {T : KL} {st : Store} {x : Option D}, okK U T → st[n]? = some (.dct T) →
    ∃ y, loopS (gN 2) (sIf (fTest (fOp opIs (fSub (fVar 1) (fVar 2)) (fC .non))) (sDrop (fPop2 (fVar 0) (fVar 2) (fC .non))) (sPut (fVar 0) (fVar 2) (fSub (fVar 1) (fVar 2)))) (kKeys r) [some (.ref n), some (.dct s), x] st = some (.nx, [some (.ref n), some (.dct s), y], st.set n (.dct (takeK T r))) := by
  intro r
  induction r with
  | nil => intro _ T st x _ hn; exact ⟨x, by simp [kKeys, loopS, takeK, set_same hn]⟩
  | cons p r ih =>
    intro hr T st x hT hn
    obtain ⟨k, v⟩ := p
    obtain ⟨i, hi, e⟩ := hs.mem _ (hr _ List.mem_cons_self)
    have e' : k = .inl i := e
    subst e'
    have g : valD s (.inl i) = some v := (valD_some hs.nd).mpr (hr _ List.mem_cons_self)
    have iv := is_non (hv _ (hr _ List.mem_cons_self))
    have hlen : n < st.length := (List.getElem?_eq_some_iff.mp hn).1
    have hsz : T.length < sizeLine := Nat.lt_of_le_of_lt (Nat.le_trans hT.len hU) (by decide)
    obtain ⟨y, hy⟩ := ih (fun q hq => hr q (List.mem_cons_of_mem _ hq)) (T := takeF T (.inl i, v)) (st := st.set n (.dct (takeF T (.inl i, v)))) (x := some (.int i)) (okK_takeF hT ⟨i, hi, rfl⟩) (by rw [List.getElem?_set_self hlen])
    refine ⟨y, ?_⟩
    rw [List.set_set] at hy
    show loopS _ _ (.int i :: kKeys r) _ _ = some (.nx, _, st.set n (.dct (takeK (takeF T (.inl i, v)) r)))
    rw [← hy]
    cases hq : DL.isNon v with
    | true =>
      rw [hq] at iv
      have tf : takeF T (.inl i, v) = dropD T (.inl i) := by simp [takeF, hq]
      rw [tf]
      cases hg : valD T (.inl i) with
      | none =>
        rw [dropD_none hg, set_same hn]
        simp [loopS, gN, sIf, fTest, fOp, fSub, fVar, ixD, asKey, g, fC, iv, asB, sDrop, fPop2, dctAt, hn, hg]
      | some d => simp [loopS, gN, sIf, fTest, fOp, fSub, fVar, ixD, asKey, g, fC, iv, asB, sDrop, fPop2, dctAt, hn, hg]
    | false =>
      rw [hq] at iv
      have tf : takeF T (.inl i, v) = putD T (.inl i) v := by simp [takeF, hq]
      rw [tf]
      simp [loopS, gN, sIf, fTest, fOp, fSub, fVar, ixD, asKey, g, fC, iv, asB, sPut, hn, hsz]
theorem take_ok {U : List Int} {s T : KL} (hU : U.length ≤ 60) (hs : okK U s) (hv : ∀ p ∈ s, StB p.2 = true) {n : Nat} {st : Store} (hT : okK U T) (hn : st[n]? = some (.dct T)) : m_take_step [.ref n, .dct s] st = some (.non, st.set n (.dct (takeK T s))) := by
  obtain ⟨y, hy⟩ := take_loop hU hs hv (n := n) (fun p h => h) (T := T) (st := st) (x := none) hT hn
  simp only [m_take_step, g_take_step, mOf, outM, startD, sFor]
  simp [iFrz, fVar, frzAt]
  rw [hy]
theorem vof_non (st : Store) : m_values_of [.non] st = some (.non, st) := by
  simp [m_values_of, g_values_of, mOf, outM, startD, sSeq, sIf, fTest, fOp, fVar, fC, opIs, orD, isN, isB, DL.isNon, asB, sRet]
theorem vof_tup (a b : D) (st : Store) : m_values_of [.tup [a, b]] st = some (b, st) := by
  have i1 : L2.atI [a, b] 1 = some b := ix1'
  simp [m_values_of, g_values_of, mOf, outM, startD, sSeq, sIf, sNil, fTest, fOp, fVar, fC, opIs, orD, isN, isB, DL.isNon, asB, sRet, fSub, ixD, i1]
theorem value_okB {st : Store} {n : Nat} (t : Tp st n) : ∃ d st', m__law_value [.ref n] st = some (d, st') ∧ valB d = true ∧ Tp st' n ∧ Fr n st st' ∧ st'.length = st.length := by
  obtain ⟨r, s1, h1, r0, r8, t1, f1, l1⟩ := pick_ok t (s := 24) (by decide) (by decide)
  by_cases c0 : r = 0
  · subst c0
    let sg : List D := (Str.ofString sgn1 ++ Str.ofString sgn2).cps.toList.map fun c => D.str ⟨#[c]⟩
    have hsg : ∀ v ∈ sg, ∃ c, v = .str ⟨#[c]⟩ ∧ signB c = true := fun v hv => by
      obtain ⟨c, hc, rfl⟩ := List.mem_map.mp hv
      exact ⟨c, rfl, List.all_eq_true.mp (show ((Str.ofString sgn1 ++ Str.ofString sgn2).cps.toList.all signB) = true by decide +kernel) c hc⟩
    have ad : opAdd (.str (Str.ofString sgn1)) (.str (Str.ofString sgn2)) = some (.str (Str.ofString sgn1 ++ Str.ofString sgn2)) := opAdd_str (by decide +kernel)
    have bl : bList [.str (Str.ofString sgn1 ++ Str.ofString sgn2)] = fun _ => some (.lst sg) := by
      funext s
      have : (Str.ofString sgn1 ++ Str.ofString sgn2).length ≤ sizeLine := Nat.le_trans (show _ ≤ 1000 by decide +kernel) (by decide)
      simp [bList, listSeq, listTxt, this, sg]
    obtain ⟨r2, s2, h2, r20, r24, t2, f2, l2⟩ := pick_ok t1 (s := 20) (by decide) (by decide)
    obtain ⟨vs, s3, h3, l3, p3, t3, f3, q3⟩ := loopC_draw2 (is := [3]) (bd := b1) (f := fCall m__law_one_of (aCons (fVar 0) (aCons (fVar 1) aNil))) (n := n) (P := fun v => ∃ c, v = .str ⟨#[c]⟩ ∧ signB c = true)
      (env := [some (.ref n), some (.lst sg), none, none]) (ds := rg 0 (1 + r2)) (fun d hd => ⟨[d], rfl, fun s t => by
        obtain ⟨v, s', g1, g2, g3, g4, g5⟩ := one_ok (xs := sg) t (by decide +kernel) (by decide +kernel)
        exact ⟨v, s', by simp [fCall, aCons, aNil, fVar, setL, e_one, g1], hsg v g2, g3, g4, g5⟩⟩) t2
    obtain ⟨w, hw, gw⟩ := joinV (k := 20) p3 (by rw [l3, rg_len]; omega) (by decide)
    have zc : vs.length ≤ sizeLine := Nat.le_trans (by rw [l3, rg_len]; omega) (show 20 ≤ sizeLine by decide)
    have ra := asR1_ok (n := 1 + r2) (by omega) (by omega)
    refine ⟨.str w, s3, ?_, gw, t3, (f1.trans f2).trans f3, by rw [q3, l2, l1]⟩
    rw [e_one] at h3
    simp [m__law_value, g__law_value, mOf, outM, startD, sSeq, sAsg, gN, sIf, sRet, sNil, fCall, aCons, aNil, fVar, fC, fTest, fOp, e_pick, h1, opEq_int, asB, ad, fMk, bl, fMt, fComp, iOfA, h2, opAdd_int, ra, wipeL, e_one, h3, zc, hw]
  · have q0 : (r == 0) = false := by simp [c0]
    obtain ⟨d, s2, h2, m2, t2, f2, l2⟩ := one_ok (xs := someV ++ moreV) t1 (by decide) (by decide)
    refine ⟨d, s2, ?_, List.all_eq_true.mp allVB d m2, t2, f1.trans f2, by rw [l2, l1]⟩
    have z1 : 17 ≤ sizeLine := by decide
    have z2 : 8 ≤ sizeLine := by decide
    have ad : opAdd (.lst someV) (.lst moreV) = some (.lst (someV ++ moreV)) := addL_ok (by decide)
    simp only [someV, moreV] at ad h2
    simp [m__law_value, g__law_value, mOf, outM, startD, sSeq, sAsg, gN, sIf, sRet, sNil, fCall, aCons, aNil, fVar, fC, fTest, fOp, e_pick, h1, opEq_int, asB, q0, fMk, mkLst, subI_int, pow109, mulz, z1, z2]
    simp at ad h2
    simp [ad, e_one, h2]
theorem values_okB {st : Store} {n : Nat} {w : Int} (t : Tp st n) (h0 : 0 ≤ w) (h1 : w ≤ 10) : ∃ vs st', m__law_values [.ref n, .int w] st = some (.tup vs, st') ∧ (vs.length : Int) = w ∧ (∀ v ∈ vs, valB v = true) ∧ Tp st' n ∧ Fr n st st' ∧ st'.length = st.length := by
  obtain ⟨vs, s3, h3, l3, p3, t3, f3, q3⟩ := loopC_draw2 (is := [2]) (bd := b1) (f := fCall m__law_value (aCons (fVar 0) aNil)) (n := n) (P := fun v => valB v = true)
    (env := [some (.ref n), some (.int w), none]) (ds := rg 0 w) (fun d hd => ⟨[d], rfl, fun s t => by
      obtain ⟨v, s', g1, g2, g3, g4, g5⟩ := value_okB t
      exact ⟨v, s', by simp [fCall, aCons, aNil, fVar, setL, g1], g2, g3, g4, g5⟩⟩) t
  rw [rg_len] at l3
  have zc : vs.length ≤ sizeLine := Nat.le_trans (by rw [l3]; omega) (show 10 ≤ sizeLine by decide)
  have ra := asR1_ok (n := w) h0 (by omega)
  refine ⟨vs, s3, ?_, by omega, p3, t3, f3, q3⟩
  simp [m__law_values, g__law_values, mOf, outM, startD, sRet, fMk, aCons, aNil, fComp, iOfA, fVar, ra, wipeL, h3, zc, bTuple]
end LW
namespace LW
open PySem PySem.Spec PyProof.Rows L2 DL TL
/-- a step that may stand in a table -/
structure OkStep (U : List Int) (s : KL) : Prop where
  ok : okK U s
  st : ∀ p ∈ s, StB p.2 = true
def tabF (cs : List D) (p : Int) (sp ss : Nat) : List (Str × D) := [("_columns", .tup cs), ("_present", .int p), ("_steps", .ref sp), ("_states", .ref ss)]
theorem lk_c (cs : List D) (p : Int) (sp ss : Nat) : List.lookup ("_columns" : Str) (tabF cs p sp ss) = some (.tup cs) := rfl
theorem lk_p (cs : List D) (p : Int) (sp ss : Nat) : List.lookup ("_present" : Str) (tabF cs p sp ss) = some (.int p) := rfl
theorem lk_s (cs : List D) (p : Int) (sp ss : Nat) : List.lookup ("_steps" : Str) (tabF cs p sp ss) = some (.ref sp) := rfl
theorem lk_t (cs : List D) (p : Int) (sp ss : Nat) : List.lookup ("_states" : Str) (tabF cs p sp ss) = some (.ref ss) := rfl
def fstD : D → D | .tup [a, _] => a | _ => .non
def sndD : D → D | .tup [_, b] => b | _ => .non
/-! _change -/
def vofD : Option D → D | none => .non | some d => sndD d
def entD (p : Int) (v : D) : D := if DL.isNon v = true then .non else .tup [.int p, v]
def chgF (p : Int) (T : KL) (acc : KL) (kv : Key × D) : KL := if neB kv.2 (vofD (valD T kv.1)) = true then putD acc kv.1 (entD p kv.2) else acc
theorem gt_chg {p : Int} {T : KL} : ∀ {r : KL} {acc : KL} {i : Int}, (r.map (·.1)).Nodup → (∀ j, gt acc j ≠ none → gt r j = none) →
    gt (r.foldl (chgF p T) acc) i = match gt r i with | none => gt acc i | some v => if neB v (vofD (gt T i)) = true then some (entD p v) else none
  | [], _, _, _, _ => rfl
  | (k, v) :: r, acc, i, nd, ha => by
    have nd' := List.nodup_cons.mp (show (k :: r.map (·.1)).Nodup from nd)
    rw [List.foldl_cons, gt_chg nd'.2 (fun j hj => by
      unfold chgF at hj
      split at hj
      · by_cases e : k = .inl j
        · subst e
          exact valD_none.mpr nd'.1
        · have hj' : valD (putD acc k (entD p v)) (.inl j) ≠ none := hj
          rw [valD_put, if_neg e] at hj'
          have := ha j hj'
          rw [gt, valD_cons, if_neg e] at this
          exact this
      · have := ha j hj
        rw [gt, valD_cons] at this
        split at this
        · cases this
        · exact this)]
    show _ = match valD ((k, v) :: r) (.inl i) with | none => gt acc i | some v => if neB v (vofD (gt T i)) = true then some (entD p v) else none
    rw [valD_cons]
    by_cases e : k = .inl i
    · subst e
      have hr : gt r i = none := valD_none.mpr nd'.1
      have hacc : gt acc i = none := by
        cases q : gt acc i with
        | none => rfl
        | some d =>
          have := ha i (by rw [q]; exact fun z => by cases z)
          rw [gt, valD_cons, if_pos rfl] at this
          cases this
      simp only [hr, if_true]
      unfold chgF
      show gt (if neB v (vofD (gt T i)) = true then _ else _) i = _
      split
      · show valD (putD acc (.inl i) (entD p v)) (.inl i) = _
        rw [valD_put, if_pos rfl]
      · exact hacc
    · simp only [if_neg e]
      have : gt (chgF p T acc (k, v)) i = gt acc i := by
        unfold chgF
        split
        · show valD (putD acc k (entD p v)) (.inl i) = _
          rw [valD_put, if_neg e]; rfl
        · rfl
      rw [this]
      rfl
theorem chg_ok {U : List Int} {p : Int} {T : KL} : ∀ {r : KL} {acc : KL}, (∀ q ∈ r, ∃ i ∈ U, q.1 = .inl i) → OkStep U acc → OkStep U (r.foldl (chgF p T) acc)
  | [], _, _, h => h
  | (k, v) :: r, acc, hr, h => by
    refine chg_ok (r := r) (fun q hq => hr q (List.mem_cons_of_mem _ hq)) ?_
    obtain ⟨i, hi, e⟩ := hr _ List.mem_cons_self
    have e' : k = .inl i := e
    subst e'
    unfold chgF
    split
    · refine ⟨h.ok.put hi _, fun q hq => ?_⟩
      unfold putD at hq
      split at hq
      · obtain ⟨z, hz, rfl⟩ := List.mem_map.mp hq
        split
        · show StB (entD p v) = true
          unfold entD
          split <;> rfl
        · exact h.st z hz
      · rcases List.mem_append.mp hq with m | m
        · exact h.st q m
        · rw [List.mem_singleton.mp m]
          show StB (entD p v) = true
          unfold entD
          split <;> rfl
    · exact h
/-- all but the table's three stays -/
structure Kp (t sp ss : Nat) (st st' : Store) : Prop where
  le : st.length ≤ st'.length
  at_ : ∀ m, m < st.length → m ≠ t → m ≠ sp → m ≠ ss → st'[m]? = st[m]?
theorem Kp.refl {t sp ss : Nat} (st : Store) : Kp t sp ss st st := ⟨Nat.le_refl _, fun _ _ _ _ _ => rfl⟩
theorem Kp.trans {t sp ss : Nat} {a b c : Store} (h : Kp t sp ss a b) (g : Kp t sp ss b c) : Kp t sp ss a c :=
  ⟨Nat.le_trans h.le g.le, fun m hm h1 h2 h3 => (g.at_ m (Nat.lt_of_lt_of_le hm h.le) h1 h2 h3).trans (h.at_ m hm h1 h2 h3)⟩
theorem Kp.app {t sp ss : Nat} (st l : Store) : Kp t sp ss st (st ++ l) := ⟨by simp, fun m hm _ _ _ => List.getElem?_append_left hm⟩
/-- what the states hold -/
def OkT (T : KL) : Prop := ∀ i d, gt T i = some d → ∃ c x, d = .tup [c, x] ∧ Vt x
theorem vt_of {T : KL} (h : OkT T) (i : Int) : Vt (vofD (gt T i)) := by
  cases q : gt T i with
  | none => exact .inl rfl
  | some d =>
    obtain ⟨c, x, rfl, hx⟩ := h i d q
    exact hx
theorem vof_at {T : KL} (h : OkT T) (i : Int) (st : Store) : m_values_of [(valD T (.inl i)).getD .non] st = some (vofD (gt T i), st) := by
  cases q : valD T (.inl i) with
  | none =>
    have q' : gt T i = none := q
    rw [q']
    exact vof_non st
  | some d =>
    have q' : gt T i = some d := q
    obtain ⟨c, x, rfl, hx⟩ := h i d q'
    rw [q']
    exact vof_tup c x st
noncomputable abbrev bChg : FS := (sSeq (sAsg (fSub (fVar 1) (fVar 4)) (gN 5)) (sIf (fTest (fOp opNe (fVar 5) (fCall m_values_of (aCons (fGet1 (fFld "Table" "_states" (fVar 0)) (fVar 4)) aNil)))) (sPut (fVar 3) (fVar 4) (fIfE (fTest (fOp opIs (fVar 5) (fC .non))) (fC .non) (fMk mkTup (aCons (fVar 2) (aCons (fVar 5) aNil))))) sNil))
theorem vt_stb {v : D} (h : Vt v) : StB v = true := by
  rcases h with rfl | ⟨_, rfl, _⟩ <;> rfl
/-- row values of the table's width -/
def Rv (w : Nat) (d : D) : Prop := ∃ vs, d = .tup vs ∧ vs.length = w ∧ ∀ v ∈ vs, valB v = true
theorem Rv.vt {w : Nat} {d : D} (hw : w ≤ 10) (h : Rv w d) : Vt d := by
  obtain ⟨vs, rfl, hl, hv⟩ := h
  exact .inr ⟨vs, rfl, by omega, hv⟩
theorem wL_le {m : Nat} : ∀ {vs : List D}, (∀ v ∈ vs, wD v ≤ m) → wL vs ≤ vs.length * (m + 1)
  | [], _ => Nat.zero_le _
  | v :: vs, h => by
    have h1 := h v List.mem_cons_self
    have h2 := wL_le (vs := vs) fun u hu => h u (List.mem_cons_of_mem _ hu)
    rw [wL, List.length_cons, Nat.add_mul]
    omega
theorem okw_vals {vs : List D} (hl : vs.length ≤ 10) (hv : ∀ v ∈ vs, valB v = true) : okD (.tup vs) = true ∧ wD (.tup vs) ≤ 4000 := by
  refine ⟨okL_mem.mpr fun v m => (val_okw (hv v m)).1, ?_⟩
  show wL vs ≤ 4000
  have := wL_le (m := 300) fun v m => (val_okw (hv v m)).2.1
  have : vs.length * (300 + 1) ≤ 10 * 301 := Nat.mul_le_mul hl (Nat.le_refl _)
  omega
theorem okw_int {i : Int} (h : 1 ≤ i ∧ i ≤ 1000000) : okD (.int i) = true ∧ wD (.int i) = 210 :=
  ⟨decide_eq_true (by have : (10 : Nat) ^ 7 ≤ 10 ^ 62 := by decide
                      omega), rfl⟩
theorem row_okw {i : Int} {vs : List D} (hi : 1 ≤ i ∧ i ≤ 1000000) (hl : vs.length ≤ 10) (hv : ∀ v ∈ vs, valB v = true) : okw (.tup [.int i, .tup vs]) := by
  obtain ⟨a1, a2⟩ := okw_int hi
  obtain ⟨b1, b2⟩ := okw_vals hl hv
  refine ⟨Bool.and_eq_true_iff.mpr ⟨a1, Bool.and_eq_true_iff.mpr ⟨b1, rfl⟩⟩, ?_⟩
  show wL [.int i, .tup vs] ≤ 200000
  rw [wL, wL, wL, a2]
  omega
theorem row_B {i : Int} {vs : List D} {n : Nat} (hi : 1 ≤ i ∧ i ≤ 1000000) (hl : vs.length = n) (hv : ∀ v ∈ vs, valB v = true) : rowB n (.tup [.int i, .tup vs]) = true := by
  simp only [rowB, rngB]
  rw [decide_eq_true hi, decide_eq_true hl, List.all_eq_true.mpr hv]; rfl
theorem at_some {α : Type} {l : List α} {n : Nat} {x : α} (h : l[n]? = some x) : n < l.length := (List.getElem?_eq_some_iff.mp h).1
theorem app_at {α : Type} {l : List α} {n : Nat} {x : α} (h : l[n]? = some x) (m : List α) : (l ++ m)[n]? = some x := by
  rw [List.getElem?_append_left (at_some h)]; exact h
variable {U : List Int}
/-! what a state is: nothing, or its version and its values -/
def Vn (d : D) : Prop := Vt d ∧ DL.isNon d = false
def Sv (d : D) : Prop := d = .non ∨ ∃ (k : Nat) (x : D), d = .tup [.int k, x] ∧ Vn x
/-! folding -/
structure OkV (U : List Int) (s : KL) : Prop where
  ok : okK U s
  sv : ∀ p ∈ s, Sv p.2
/-- no 'nothing' in it -/
def NoN (s : KL) : Prop := ∀ i d, gt s i = some d → DL.isNon d = false
theorem take_noN {st s : KL} (h : NoN st) (nd : (s.map (·.1)).Nodup) : NoN (takeK st s) := fun i d e => by
  rw [gt_take nd] at e
  cases q : gt s i with
  | none => rw [q] at e; exact h i d e
  | some v =>
    rw [q] at e
    have e' : (if DL.isNon v = true then none else some v) = some d := e
    split at e'
    · cases e'
    · rename_i nn
      cases e'
      simpa using nn
theorem take_okV {st s : KL} (h : OkV U st) (g : OkV U s) : OkV U (takeK st s) := by
  refine ⟨okK_take h.ok g.ok.mem, ?_⟩
  have : ∀ {l : KL} {acc : KL}, (∀ p ∈ l, Sv p.2) → (∀ p ∈ acc, Sv p.2) → ∀ p ∈ takeK acc l, Sv p.2 := by
    intro l
    induction l with
    | nil => exact fun _ h => h
    | cons q l ih =>
      intro acc hl ha
      refine ih (fun p hp => hl p (List.mem_cons_of_mem _ hp)) fun p hp => ?_
      unfold takeF at hp
      split at hp
      · exact ha p (List.mem_filter.mp hp).1
      · unfold putD at hp
        split at hp
        · obtain ⟨z, hz, rfl⟩ := List.mem_map.mp hp
          split
          · exact hl q List.mem_cons_self
          · exact ha z hz
        · rcases List.mem_append.mp hp with m | m
          · exact ha p m
          · rw [List.mem_singleton.mp m]; exact hl q List.mem_cons_self
  exact this g.sv h.sv
/-- steps by version -/
abbrev VL := List (Int × KL)
def mkV (l : VL) : KL := l.map fun x => (.inl x.1, .dct x.2)
def apV (l : VL) (st : KL) : KL := l.foldl (fun a x => takeK a x.2) st
/-- each version's map, told by M -/
def Tells (M : Int → Int → Option D) : VL → KL → Prop
  | [], _ => True
  | (v, s) :: r, st => (∀ i, gt (takeK st s) i = M v i) ∧ Tells M r (takeK st s)
end LW
namespace LW
open PySem PySem.Spec PyProof.Rows L2 DL TL
theorem putD_new {l : KL} {k : Key} {v : D} (h : k ∉ l.map (·.1)) : putD l k v = l ++ [(k, v)] := by
  unfold putD
  rw [any_key, valD_none.mpr h]
  rfl
theorem sv_stb {v : D} (h : Sv v) : StB v = true := by
  rcases h with rfl | ⟨_, _, rfl, _⟩ <;> rfl
theorem mkV_keys (l : VL) : (mkV l).map (·.1) = l.map fun x => (.inl x.1 : Key) := by
  unfold mkV
  rw [List.map_map]; rfl
variable {U : List Int}
variable {U : List Int}
/-- the table, its steps told by version -/
structure Gab (st : Store) (t sp ss : Nat) (cs : List D) (P : Int) (l : VL) (T : KL) : Prop where
  tab : st[t]? = some (.ins "Table" (tabF cs P sp ss))
  stp : st[sp]? = some (.dct (mkV l))
  sta : st[ss]? = some (.dct T)
  n2 : t ≠ sp
  n3 : t ≠ ss
theorem Gab.ins {st : Store} {t sp ss : Nat} {cs : List D} {P : Int} {l : VL} {T : KL} (h : Gab st t sp ss cs P l T) : insAt "Table" t st = some (tabF cs P sp ss) := by
  simp [insAt, h.tab]
theorem noF_G {st : Store} {t sp ss : Nat} {cs : List D} {P : Int} {l : VL} {T : KL} (h : Gab st t sp ss cs P l T) {m : Str} (hm : ∀ p, List.lookup m (tabF cs p sp ss) = none) : noF m (insAt "Table" t st) = true := by
  rw [h.ins]
  show (List.lookup m _).isNone = true
  rw [hm]; rfl
theorem valD_mkV {l : VL} {v : Int} (h : v ∈ l.map (·.1)) : valD (mkV l) (.inl v) ≠ none := fun e => by
  have := valD_none.mp e
  rw [mkV_keys] at this
  obtain ⟨x, hx, ex⟩ := List.mem_map.mp h
  exact this (List.mem_map.mpr ⟨x, hx, by rw [ex]⟩)
theorem gcheck_ok {st : Store} {t sp ss : Nat} {cs : List D} {P : Int} {l : VL} {T : KL} (h : Gab st t sp ss cs P l T) {v : Int} (hv : v ∈ l.map (·.1)) (hb : 0 ≤ v ∧ v ≤ 1000000) : m_Table__check_known [.ref t, .int v] st = some (.non, st) := by
  have k := int_ok (d := .int v) ⟨decide_eq_true (by
    have : (10 : Nat) ^ 7 ≤ 10 ^ 62 := by decide
    omega), Nat.le_trans (Nat.le_refl 210) (by decide)⟩ st
  have kn := valD_mkV hv
  simp [m_Table__check_known, g_Table__check_known, mOf, outM, startD, sIf, fOrT, fNotT, fTest, fCall, aCons, aNil, fVar, k, isInt, asB, fInD, asKey, fFld, h.ins, lk_s, dctAt, h.stp, kn, sNil]
end LW
namespace LW
open PySem PySem.Spec PyProof.Rows L2 DL TL
variable {U : List Int} {st : Store} {t sp ss : Nat} {cs : List D} {P : Int} {l : VL} {T : KL}
theorem Gab.app (h : Gab st t sp ss cs P l T) (m : Store) : Gab (st ++ m) t sp ss cs P l T := ⟨app_at h.tab m, app_at h.stp m, app_at h.sta m, h.n2, h.n3⟩
theorem Gab.set (h : Gab st t sp ss cs P l T) {L : Nat} (o : Ob) (h1 : L ≠ t) (h2 : L ≠ sp) (h3 : L ≠ ss) : Gab (st.set L o) t sp ss cs P l T :=
  ⟨by rw [List.getElem?_set_ne h1]; exact h.tab, by rw [List.getElem?_set_ne h2]; exact h.stp, by rw [List.getElem?_set_ne h3]; exact h.sta, h.n2, h.n3⟩
/-! the states of a version -/
def stVa (v : Int) : VL → KL → KL
  | [], acc => acc
  | (u, s) :: r, acc => stVa v r (if u ≤ v then takeK acc s else acc)
theorem opLe_i (a b : Int) : opLe (.int a) (.int b) = some (.bl (decide (a ≤ b))) := by simp [opLe, orD, leI, onI]
theorem gstates_loop (hU : U.length ≤ 60) {v : Int} {L : Nat} {e0 : Option D} : ∀ {s : VL}, (∀ x ∈ s, OkV U x.2) → ∀ {acc : KL} {st : Store} {x y : Option D}, okK U acc → st[L]? = some (.dct acc) →
    ∃ x' y', loopS (gT 2 (gCons' (gN 3) (gCons' (gN 4) gNil'))) (sIf (fTest (fOp opLe (fVar 3) (fVar 1))) (sDrop (fCall m_take_step (aCons (fVar 2) (aCons (fVar 4) aNil)))) sNil) (kItems (mkV s)) [e0, some (.int v), some (.ref L), x, y] st = some (.nx, [e0, some (.int v), some (.ref L), x', y'], st.set L (.dct (stVa v s acc))) := by
  intro s
  induction s with
  | nil => intro _ acc st x y _ hL; exact ⟨x, y, by simp [mkV, kItems, loopS, stVa, set_same hL]⟩
  | cons a s ih =>
    obtain ⟨u, a⟩ := a
    intro hs acc st x y hacc hL
    have oa : OkV U a := hs _ List.mem_cons_self
    have hlen : L < st.length := at_some hL
    have tk := take_ok hU oa.ok (fun p hp => sv_stb (oa.sv p hp)) (n := L) hacc hL
    have ki : kItems (mkV ((u, a) :: s)) = .tup [.int u, .dct a] :: kItems (mkV s) := rfl
    by_cases c : u ≤ v
    · obtain ⟨x', y', hy⟩ := ih (fun t ht => hs t (List.mem_cons_of_mem _ ht)) (acc := takeK acc a) (st := st.set L (.dct (takeK acc a))) (x := some (.int u)) (y := some (.dct a)) (okK_take hacc oa.ok.mem) (by rw [List.getElem?_set_self hlen])
      refine ⟨x', y', ?_⟩
      rw [List.set_set] at hy
      rw [ki, show stVa v ((u, a) :: s) acc = stVa v s (takeK acc a) by rw [stVa, if_pos c], ← hy]
      simp [loopS, gT, gCons', gNil', gN, sIf, fTest, fOp, fVar, opLe_i, c, asB, sDrop, fCall, aCons, aNil, tk]
    · obtain ⟨x', y', hy⟩ := ih (fun t ht => hs t (List.mem_cons_of_mem _ ht)) (acc := acc) (st := st) (x := some (.int u)) (y := some (.dct a)) hacc hL
      refine ⟨x', y', ?_⟩
      rw [ki, show stVa v ((u, a) :: s) acc = stVa v s acc by rw [stVa, if_neg c], ← hy]
      simp [loopS, gT, gCons', gNil', gN, sIf, fTest, fOp, fVar, opLe_i, c, asB, sNil]
theorem gstates_ok (hU : U.length ≤ 60) (h : Gab st t sp ss cs P l T) (hs : ∀ x ∈ l, OkV U x.2) {v : Int} (hv : v ∈ l.map (·.1)) (hb : 0 ≤ v ∧ v ≤ 1000000) :
    m_Table__states_at [.ref t, .int v] st = some (.ref st.length, st ++ [.dct (stVa v l [])]) := by
  have ck := gcheck_ok h hv hb
  have hm : noF "_check_known" (insAt "Table" t st) = true := noF_G h fun _ => rfl
  have h1 := h.app [.dct []]
  have hsp : sp < st.length := at_some h.stp
  have ht : t < st.length := at_some h.tab
  have hL : ((st ++ [Ob.dct []]).set sp (.ldc (mkV l)))[st.length]? = some (.dct []) := by
    rw [List.getElem?_set_ne (by omega)]; simp
  obtain ⟨x', y', lp⟩ := gstates_loop hU (v := v) (L := st.length) (e0 := some (.ref t)) hs (acc := []) (st := (st ++ [Ob.dct []]).set sp (.ldc (mkV l))) (x := none) (y := none) okK.nil hL
  generalize stVa v l [] = Z at *
  have tab2 : ((st ++ [Ob.dct []]).set sp (.ldc (mkV l)))[t]? = some (.ins "Table" (tabF cs P sp ss)) := by
    rw [List.getElem?_set_ne (fun e => h.n2 e.symm)]; exact h1.tab
  have i2 : insAt "Table" t ((st ++ [Ob.dct []]).set sp (.ldc (mkV l))) = some (tabF cs P sp ss) := by simp [insAt, tab2]
  have l2 : ((st ++ [Ob.dct []]).set sp (.ldc (mkV l)))[sp]? = some (.ldc (mkV l)) := by rw [List.getElem?_set_self (by simp; omega)]
  have l3 : (((st ++ [Ob.dct []]).set sp (.ldc (mkV l))).set st.length (.dct Z))[sp]? = some (.ldc (mkV l)) := by rw [List.getElem?_set_ne (by omega)]; exact l2
  have fin : (((st ++ [Ob.dct []]).set sp (.ldc (mkV l))).set st.length (.dct Z)).set sp (.dct (mkV l)) = st ++ [.dct Z] := by
    rw [List.set_comm _ _ (by omega), List.set_set, List.set_append_left _ _ hsp, set_same h.stp]
    simp
  simp only [m_Table__states_at, g_Table__states_at, mOf, outM, startD, sSeq, sDrop, sAsg, gN, fNewD]
  simp [fMeth, fVar, hm, aCons, aNil, ck, sLock, whichR, fFld, h1.ins, lk_s, dctIn, h1.stp, sFor, iFrz, i2, frzAt, ldcAt, l2, lp, l3, sRet]
  simp [fin]
/-! rows and change versions of a map of states, ids ascending -/
def keysI (Z : KL) : List Int := Z.filterMap fun p => match p.1 with | .inl i => some i | _ => none
def mapI (Z : KL) (φ : D → D) : KL := (srt (keysI Z)).map fun i => (.inl i, φ ((gt Z i).getD .non))
theorem keysI_of : ∀ {Z : KL} {ks : List Int}, Z.map (·.1) = ks.map Sum.inl → keysI Z = ks
  | [], [], _ => rfl
  | [], _ :: _, h => by cases h
  | _ :: _, [], h => by cases h
  | (k, d) :: Z, i :: ks, h => by
    injection h with h1 h2
    have h1' : k = .inl i := h1
    subst h1'
    show i :: keysI Z = i :: ks
    rw [keysI_of h2]
theorem gt_map {ks : List Int} {φ : Int → D} (j : Int) : gt (ks.map fun i => ((.inl i : Key), φ i)) j = if j ∈ ks then some (φ j) else none := by
  induction ks with
  | nil => rfl
  | cons i ks ih =>
    rw [List.map_cons, gt, valD_cons]
    by_cases e : i = j
    · subst e; simp
    · have e2 : ¬ (Sum.inl i : Key) = .inl j := fun z => e (by injection z)
      have e3 : ¬ j = i := fun z => e z.symm
      rw [if_neg e2, show valD (ks.map fun i => ((.inl i : Key), φ i)) (.inl j) = _ from ih]
      simp [e3]
theorem okK_map {ks : List Int} {φ : Int → D} (hk : ∀ i ∈ ks, i ∈ U) (nd : ks.Nodup) : okK U (ks.map fun i => ((.inl i : Key), φ i)) := by
  refine ⟨fun p hp => ?_, ?_⟩
  · obtain ⟨i, hi, rfl⟩ := List.mem_map.mp hp
    exact ⟨i, hk i hi, rfl⟩
  · rw [List.map_map]
    exact List.pairwise_map.mpr (nd.imp fun h e => h (by injection e))
theorem ok_keys {Z : KL} (h : okK U Z) (hU : U.length ≤ 60) : sortedKs Z = some (srt (keysI Z)) ∧ (srt (keysI Z)).Nodup ∧ (∀ i, i ∈ srt (keysI Z) ↔ (gt Z i).isSome = true) ∧ ∀ i ∈ srt (keysI Z), i ∈ U := by
  obtain ⟨ks, k1, k2, k3, k4, k5, k6⟩ := h.sortedKs (show U.length < 64 by omega)
  rw [keysI_of k2]
  exact ⟨k1, (srt_pw ks).imp fun h => by omega, k4, fun i hi => k5 i (srt_mem.mp hi)⟩
theorem gt_mapI {Z : KL} (h : okK U Z) (hU : U.length ≤ 60) (φ : D → D) (i : Int) : gt (mapI Z φ) i = (gt Z i).map φ := by
  obtain ⟨_, _, k, _⟩ := ok_keys h hU
  unfold mapI
  rw [gt_map]
  by_cases m : i ∈ srt (keysI Z)
  · rw [if_pos m]
    obtain ⟨d, hd⟩ := Option.isSome_iff_exists.mp ((k i).mp m)
    simp [hd]
  · rw [if_neg m]
    cases q : gt Z i with
    | none => rfl
    | some d => exact absurd ((k i).mpr (by rw [q]; rfl)) m
theorem okK_mapI {Z : KL} (h : okK U Z) (hU : U.length ≤ 60) (φ : D → D) : okK U (mapI Z φ) := by
  obtain ⟨_, nd, _, k⟩ := ok_keys h hU
  exact okK_map k nd
theorem loopD_new {k : Nat} {fk fv : F} {φ : Int → D} {env : Lo} {st : Store} : ∀ {ks : List Int} {acc : KL}, (∀ i ∈ ks, fk (env.set k (some (.int i))) st = some (.int i, st) ∧ fv (env.set k (some (.int i))) st = some (φ i, st)) → (acc.map (·.1) ++ ks.map (fun i => (.inl i : Key))).Nodup → acc.length + ks.length < sizeLine →
    loopD [k] b1 tTrue fk fv (ks.map .int) acc env st = some (acc ++ ks.map (fun i => ((.inl i : Key), φ i)), st)
  | [], acc, _, _, _ => by simp [loopD]
  | i :: ks, acc, hh, nd, hl => by
    obtain ⟨h2, h3⟩ := hh i List.mem_cons_self
    have hz : acc.length < sizeLine := by omega
    have nk : (.inl i : Key) ∉ acc.map (·.1) := fun m => (List.nodup_append.mp nd).2.2 _ m _ (by rw [List.map_cons]; exact List.mem_cons_self) rfl
    have g1 := loopD_new (φ := φ) (ks := ks) (acc := acc ++ [(.inl i, φ i)]) (fun j hj => hh j (List.mem_cons_of_mem _ hj)) (by rw [List.map_append, List.append_assoc]; exact nd) (by rw [List.length_append, List.length_singleton]; rw [List.length_cons] at hl; omega)
    rw [List.append_assoc] at g1
    have pn := putD_new (v := φ i) nk
    rw [List.map_cons, List.map_cons]
    simp only [loopD, b1, tTrue, setL, Option.bind_some, h2, asKey, h3, if_true, hz, pn]
    exact g1
def rowsK (Z : KL) : KL := mapI Z sndD
def chgsK (Z : KL) : KL := mapI Z fstD
theorem grows_ok (hU : U.length ≤ 60) (h : Gab st t sp ss cs P l T) (hs : ∀ x ∈ l, OkV U x.2) {v : Int} (hv : v ∈ l.map (·.1)) (hb : 0 ≤ v ∧ v ≤ 1000000) (oz : okK U (stVa v l [])) (hp : ∀ i d, gt (stVa v l []) i = some d → ∃ c x, d = .tup [c, x]) :
    m_Table_rows_at [.ref t, .int v] st = some (.ref (st.length + 1), st ++ [.dct (stVa v l []), .dct (rowsK (stVa v l []))]) := by
  have so := gstates_ok hU h hs hv hb
  have hm : noF "_states_at" (insAt "Table" t st) = true := noF_G h fun _ => rfl
  generalize stVa v l [] = Z at *
  obtain ⟨k1, k2, k3, k4⟩ := ok_keys oz hU
  have hZ : (st ++ [Ob.dct Z])[st.length]? = some (.dct Z) := by simp
  have g1 := loopD_new (k := 3) (fk := fVar 3) (fv := fSub (fSub (fVar 2) (fVar 3)) (fC (.int 1))) (φ := fun i => sndD ((gt Z i).getD .non)) (env := [some (.ref t), some (.int v), some (.ref st.length), none]) (st := st ++ [Ob.dct Z]) (ks := srt (keysI Z)) (acc := []) (fun i hi => by
    refine ⟨by simp [fVar], ?_⟩
    obtain ⟨d, hd⟩ := Option.isSome_iff_exists.mp ((k3 i).mp hi)
    obtain ⟨c, x, rfl⟩ := hp i d hd
    have i1 : L2.atI [c, x] 1 = some x := ix1'
    have hd' : valD Z (.inl i) = some (.tup [c, x]) := hd
    simp [fSub, fVar, ixD, hZ, asKey, hd', fC, i1, hd, sndD]) (by rw [List.map_nil, List.nil_append]; exact List.pairwise_map.mpr (k2.imp fun h e => h (by injection e))) (by
      have := nodup_sub k2 k4
      simp; exact Nat.lt_of_le_of_lt (show _ ≤ 60 by omega) (by decide))
  rw [List.nil_append] at g1
  have g2 : loopD [3] b1 tTrue (fVar 3) (fSub (fSub (fVar 2) (fVar 3)) (fC (.int 1))) ((srt (keysI Z)).map .int) [] [some (.ref t), some (.int v), some (.ref st.length), none] (st ++ [Ob.dct Z]) = some (rowsK Z, st ++ [Ob.dct Z]) := g1
  simp only [m_Table_rows_at, g_Table_rows_at, mOf, outM, startD, sSeq, sAsg, gN, sRet]
  simp [fMeth, fVar, hm, aCons, aNil, so, fDComp, iOf, fSortKs, dctAt, hZ, k1, asL, wipeL, g2]
theorem gchanges_ok (hU : U.length ≤ 60) (h : Gab st t sp ss cs P l T) (hs : ∀ x ∈ l, OkV U x.2) {v : Int} (hv : v ∈ l.map (·.1)) (hb : 0 ≤ v ∧ v ≤ 1000000) (oz : okK U (stVa v l [])) (hp : ∀ i d, gt (stVa v l []) i = some d → ∃ c x, d = .tup [c, x]) :
    m_Table_changes_at [.ref t, .int v] st = some (.ref (st.length + 1), st ++ [.dct (stVa v l []), .dct (chgsK (stVa v l []))]) := by
  have so := gstates_ok hU h hs hv hb
  have hm : noF "_states_at" (insAt "Table" t st) = true := noF_G h fun _ => rfl
  generalize stVa v l [] = Z at *
  obtain ⟨k1, k2, k3, k4⟩ := ok_keys oz hU
  have hZ : (st ++ [Ob.dct Z])[st.length]? = some (.dct Z) := by simp
  have g1 := loopD_new (k := 3) (fk := fVar 3) (fv := fSub (fSub (fVar 2) (fVar 3)) (fC (.int 0))) (φ := fun i => fstD ((gt Z i).getD .non)) (env := [some (.ref t), some (.int v), some (.ref st.length), none]) (st := st ++ [Ob.dct Z]) (ks := srt (keysI Z)) (acc := []) (fun i hi => by
    refine ⟨by simp [fVar], ?_⟩
    obtain ⟨d, hd⟩ := Option.isSome_iff_exists.mp ((k3 i).mp hi)
    obtain ⟨c, x, rfl⟩ := hp i d hd
    have i1 : L2.atI [c, x] 0 = some c := ix0'
    have hd' : valD Z (.inl i) = some (.tup [c, x]) := hd
    simp [fSub, fVar, ixD, hZ, asKey, hd', fC, i1, hd, fstD]) (by rw [List.map_nil, List.nil_append]; exact List.pairwise_map.mpr (k2.imp fun h e => h (by injection e))) (by
      have := nodup_sub k2 k4
      simp; exact Nat.lt_of_le_of_lt (show _ ≤ 60 by omega) (by decide))
  rw [List.nil_append] at g1
  have g2 : loopD [3] b1 tTrue (fVar 3) (fSub (fSub (fVar 2) (fVar 3)) (fC (.int 0))) ((srt (keysI Z)).map .int) [] [some (.ref t), some (.int v), some (.ref st.length), none] (st ++ [Ob.dct Z]) = some (chgsK Z, st ++ [Ob.dct Z]) := g1
  simp only [m_Table_changes_at, g_Table_changes_at, mOf, outM, startD, sSeq, sAsg, gN, sRet]
  simp [fMeth, fVar, hm, aCons, aNil, so, fDComp, iOf, fSortKs, dctAt, hZ, k1, asL, wipeL, g2]
end LW
namespace LW
open PySem PySem.Spec PyProof.Rows L2 DL TL
variable {U : List Int} {st : Store} {t sp ss : Nat} {cs : List D} {P : Int} {l : VL} {T : KL}
theorem gchg_loop (hU : U.length ≤ 60) {L : Nat} {rows : KL} {p : Int} (hT : OkT T) (hr : okK U rows) (hv : ∀ q ∈ rows, Vt q.2) (l1 : L ≠ t) (l2 : L ≠ sp) (l3 : L ≠ ss) : ∀ {r : KL}, (∀ q ∈ r, q ∈ rows) → ∀ {acc : KL} {st : Store} {x y : Option D}, Gab st t sp ss cs P l T → okK U acc → st[L]? = some (.dct acc) →
    ∃ x' y', loopS (gN 4) bChg (kKeys r) [some (.ref t), some (.dct rows), some (.int p), some (.ref L), x, y] st = some (.nx, [some (.ref t), some (.dct rows), some (.int p), some (.ref L), x', y'], st.set L (.dct (r.foldl (chgF p T) acc))) := by
  intro r
  induction r with
  | nil => intro _ acc st x y _ _ hL; exact ⟨x, y, by simp [kKeys, loopS, set_same hL]⟩
  | cons q r ih =>
    intro hq acc st x y tab hacc hL
    obtain ⟨k, v⟩ := q
    obtain ⟨i, hi, e⟩ := hr.mem _ (hq _ List.mem_cons_self)
    have e' : k = .inl i := e
    subst e'
    have g : valD rows (.inl i) = some v := (valD_some hr.nd).mpr (hq _ List.mem_cons_self)
    have hvv := hv _ (hq _ List.mem_cons_self)
    have hlen : L < st.length := at_some hL
    have hsz : acc.length < sizeLine := Nat.lt_of_le_of_lt (Nat.le_trans hacc.len hU) (by decide)
    have vo := vof_at hT i st
    have ne := (ne_ok hvv (vt_of hT i)).1
    have iv := is_non (vt_stb hvv)
    have z2 : 2 ≤ sizeLine := by decide
    have t1 := tab.ins
    have t2 := tab.sta
    cases hn : neB v (vofD (gt T i)) with
    | true =>
      rw [hn] at ne
      have cf : chgF p T acc (.inl i, v) = putD acc (.inl i) (entD p v) := by
        have : neB v (vofD (valD T (.inl i))) = true := hn
        simp [chgF, this]
      obtain ⟨x', y', hy⟩ := ih (fun a ha => hq a (List.mem_cons_of_mem _ ha)) (acc := putD acc (.inl i) (entD p v)) (st := st.set L (.dct (putD acc (.inl i) (entD p v)))) (x := some (.int i)) (y := some v) (tab.set _ l1 l2 l3) (hacc.put hi _) (by rw [List.getElem?_set_self hlen])
      refine ⟨x', y', ?_⟩
      rw [List.set_set] at hy
      rw [List.foldl_cons, cf, ← hy]
      cases hnn : DL.isNon v with
      | true =>
        rw [hnn] at iv
        have en : entD p v = .non := by simp [entD, hnn]
        rw [en]
        simp [kKeys, keyD, loopS, gN, bChg, sSeq, sAsg, fSub, fVar, ixD, asKey, g, sIf, fTest, fOp, fCall, aCons, aNil, fGet1, fFld, t1, lk_t, dctAt, t2, vo, ne, asB, sPut, fIfE, fC, iv, hL, hsz]
      | false =>
        rw [hnn] at iv
        have en : entD p v = .tup [.int p, v] := by simp [entD, hnn]
        rw [en]
        simp [kKeys, keyD, loopS, gN, bChg, sSeq, sAsg, fSub, fVar, ixD, asKey, g, sIf, fTest, fOp, fCall, aCons, aNil, fGet1, fFld, t1, lk_t, dctAt, t2, vo, ne, asB, sPut, fIfE, fC, iv, hL, hsz, fMk, mkTup, z2]
    | false =>
      rw [hn] at ne
      have cf : chgF p T acc (.inl i, v) = acc := by
        have : neB v (vofD (valD T (.inl i))) = false := hn
        simp [chgF, this]
      obtain ⟨x', y', hy⟩ := ih (fun a ha => hq a (List.mem_cons_of_mem _ ha)) (acc := acc) (st := st) (x := some (.int i)) (y := some v) tab hacc hL
      refine ⟨x', y', ?_⟩
      rw [List.foldl_cons, cf, ← hy]
      simp [kKeys, keyD, loopS, gN, bChg, sSeq, sAsg, fSub, fVar, ixD, asKey, g, sIf, fTest, fOp, fCall, aCons, aNil, fGet1, fFld, t1, lk_t, dctAt, t2, vo, ne, asB, sNil]
/-- the step that rows make -/
def stepC (P : Int) (T rows : KL) : KL := rows.foldl (chgF (P + 1) T) []
def nxP (P : Int) (T rows : KL) : Int := if (stepC P T rows).isEmpty = true then P else P + 1
def nxL (P : Int) (l : VL) (T rows : KL) : VL := if (stepC P T rows).isEmpty = true then l else l ++ [(P + 1, stepC P T rows)]
def nxT (P : Int) (T rows : KL) : KL := takeK T (stepC P T rows)
theorem gchange_ok (hU : U.length ≤ 60) {rows : KL} (tab : Gab st t sp ss cs P l T) (n1 : sp ≠ ss) (oT : okK U T) (hT : OkT T) (hr : okK U rows) (hv : ∀ q ∈ rows, Vt q.2) (hl : l.length ≤ 1000) (hP : ∀ x ∈ l, x.1 ≤ P) :
    ∃ st', m_Table__change [.ref t, .dct rows] st = some (.int (nxP P T rows), st') ∧ Gab st' t sp ss cs (nxP P T rows) (nxL P l T rows) (nxT P T rows) ∧ Kp t sp ss st st' := by
  have lt : t < st.length := at_some tab.tab
  have lp : sp < st.length := at_some tab.stp
  have ls : ss < st.length := at_some tab.sta
  have tab1 := tab.app [.dct []]
  obtain ⟨x, y, hlp⟩ := gchg_loop hU (L := st.length) (p := P + 1) hT hr hv (by omega) (by omega) (by omega) (r := rows) (fun q h => h) (acc := []) (st := st ++ [.dct []]) (x := none) (y := none) tab1 okK.nil (by simp)
  have oc : OkStep U (stepC P T rows) := chg_ok hr.mem ⟨okK.nil, fun _ h => by cases h⟩
  unfold nxP nxL nxT
  have hC : rows.foldl (chgF (P + 1) T) [] = stepC P T rows := rfl
  rw [hC] at hlp
  clear hC
  generalize stepC P T rows = C at *
  have e1 : (st ++ [Ob.dct []]).set st.length (.dct C) = st ++ [.dct C] := by simp
  rw [e1] at hlp
  have e2 : (st ++ [Ob.dct C]).set st.length .dead = st ++ [.dead] := by simp
  have tab2 := tab.app [.dead]
  have a1 : (st ++ [Ob.dct C])[st.length]? = some (.dct C) := by simp
  have pre : ∀ (f g : FS), (sSeq (sAsg (fOp opAdd (fFld "Table" "_present" (fVar 0)) (fC (.int 1))) (gN 2)) (sSeq (sAsg fNewD (gN 3)) (sSeq (sFor (iFrz kKeys (fVar 1)) (gN 4) bChg) (sSeq (sSeq (sFrzV 3) f) g)))) [some (.ref t), some (.dct rows), none, none, none, none] st = (sSeq f g) [some (.ref t), some (.dct rows), some (.int (P + 1)), some (.dct C), x, y] (st ++ [.dead]) := by
    intro f g
    simp only [sSeq, sAsg, gN]
    simp [fOp, fFld, fVar, tab.ins, lk_p, fC, opAdd_int, fNewD, sFor, iFrz, frzAt, hlp, sFrzV, a1, e2]
  cases hC0 : C with
  | nil =>
    have tk : takeK T [] = T := rfl
    rw [tk]
    simp only [List.isEmpty_nil, if_true]
    refine ⟨st ++ [.dead], ?_, tab2, Kp.app st _⟩
    rw [hC0] at pre
    simp only [m_Table__change, g_Table__change, mOf, outM, startD]
    simp
    rw [pre]
    simp [sSeq, sIf, fTest, fOp, fMk, bLen, lenL, lenK, aCons, aNil, fVar, fC, opGt_int, asB, sNil, sRet, fFld, tab2.ins, lk_p]
  | cons c C' =>
    rw [← hC0]
    have hne : C.isEmpty = false := by rw [hC0]; rfl
    simp only [hne, Bool.false_eq_true, if_false]
    have hlen : (0 : Int) < C.length := by rw [hC0, List.length_cons]; omega
    have tk := take_ok hU oc.ok oc.st (n := ss) oT tab2.sta
    have ls2 : ss < (st ++ [Ob.dead]).length := by simp; omega
    let s3 : Store := (st ++ [Ob.dead]).set ss (.dct (takeK T C))
    have p3 : s3[sp]? = some (.dct (mkV l)) := by
      show ((st ++ [Ob.dead]).set ss (.dct (takeK T C)))[sp]? = _
      rw [List.getElem?_set_ne (Ne.symm n1)]; exact tab2.stp
    have q3 : s3[t]? = some (.ins "Table" (tabF cs P sp ss)) := by
      show ((st ++ [Ob.dead]).set ss (.dct (takeK T C)))[t]? = _
      rw [List.getElem?_set_ne (Ne.symm tab.n3)]; exact tab2.tab
    have r3 : s3[ss]? = some (.dct (takeK T C)) := by
      show ((st ++ [Ob.dead]).set ss (.dct (takeK T C)))[ss]? = _
      rw [List.getElem?_set_self ls2]
    have l3 : s3.length = st.length + 1 := by show ((st ++ [Ob.dead]).set ss (.dct (takeK T C))).length = _; simp
    have i3 : insAt "Table" t s3 = some (tabF cs P sp ss) := by simp [insAt, q3]
    have mz : (mkV l).length < sizeLine := by unfold mkV; rw [List.length_map]; exact Nat.lt_of_le_of_lt hl (by decide)
    have nk : (.inl (P + 1) : Key) ∉ (mkV l).map (·.1) := by
      rw [mkV_keys]
      intro m
      obtain ⟨x, hx, e⟩ := List.mem_map.mp m
      have e' : x.1 = P + 1 := by injection e
      have := hP x hx
      omega
    have mp : putD (mkV l) (.inl (P + 1)) (.dct C) = mkV (l ++ [(P + 1, C)]) := by
      rw [putD_new nk]
      simp [mkV]
    let s4 : Store := s3.set sp (.dct (mkV (l ++ [(P + 1, C)])))
    have q4 : s4[t]? = some (.ins "Table" (tabF cs P sp ss)) := by
      show (s3.set sp (.dct (mkV (l ++ [(P + 1, C)]))))[t]? = _
      rw [List.getElem?_set_ne (Ne.symm tab.n2)]; exact q3
    have i4 : insAt "Table" t s4 = some (tabF cs P sp ss) := by simp [insAt, q4]
    let s5 : Store := s4.set t (.ins "Table" (tabF cs (P + 1) sp ss))
    have pf : putFD "_present" (.int (P + 1)) (tabF cs P sp ss) = tabF cs (P + 1) sp ss := rfl
    have l4 : s4.length = st.length + 1 := by show (s3.set sp _).length = _; simp [l3]
    have q5 : s5[t]? = some (.ins "Table" (tabF cs (P + 1) sp ss)) := by
      show (s4.set t _)[t]? = _
      rw [List.getElem?_set_self (by omega)]
    have tab5 : Gab s5 t sp ss cs (P + 1) (l ++ [(P + 1, C)]) (takeK T C) := by
      refine ⟨q5, ?_, ?_, tab.n2, tab.n3⟩
      · show (s4.set t _)[sp]? = _
        rw [List.getElem?_set_ne tab.n2]
        show (s3.set sp _)[sp]? = _
        rw [List.getElem?_set_self (by omega)]
      · show (s4.set t _)[ss]? = _
        rw [List.getElem?_set_ne tab.n3]
        show (s3.set sp _)[ss]? = _
        rw [List.getElem?_set_ne n1]; exact r3
    have i5 := tab5.ins
    have kp : Kp t sp ss st s5 := by
      refine ⟨by show st.length ≤ (s4.set t _).length; simp [l4], fun m hm h1 h2 h3 => ?_⟩
      show (s4.set t _)[m]? = _
      rw [List.getElem?_set_ne (Ne.symm h1)]
      show (s3.set sp _)[m]? = _
      rw [List.getElem?_set_ne (Ne.symm h2)]
      show ((st ++ [Ob.dead]).set ss _)[m]? = _
      rw [List.getElem?_set_ne (Ne.symm h3), List.getElem?_append_left hm]
    refine ⟨s5, ?_, tab5, kp⟩
    have tabz : (tabF cs P sp ss).length < 1000 := by show 4 < 1000; decide
    simp only [m_Table__change, g_Table__change, mOf, outM, startD]
    simp
    rw [pre]
    have tk' : m_take_step [.ref ss, .dct C] (st ++ [Ob.dead]) = some (.non, s3) := tk
    have e4 : s3.set sp (.dct (putD (mkV l) (.inl (P + 1)) (.dct C))) = s4 := by rw [mp]
    simp [sSeq, sIf, fTest, fOp, fMk, bLen, lenL, lenK, aCons, aNil, fVar, fC, opGt_int, hlen, asB, sDrop, fCall, fFld, tab2.ins, lk_t, tk', sPut, i3, lk_s, asKey, p3, mz, e4, sFldD, i4, tabz, pf]
    have e5 : s4.set t (.ins "Table" (tabF cs (P + 1) sp ss)) = s5 := rfl
    have hln : 0 < C.length := by omega
    simp [e5, hln, sRet, fFld, fVar, i5, lk_p]
/-- a table that is well -/
structure GabOk (U : List Int) (st : Store) (t sp ss : Nat) (cs : List D) (P : Int) (l : VL) (T : KL) : Prop where
  tab : Gab st t sp ss cs P l T
  n1 : sp ≠ ss
  oT : OkV U T
  nT : NoN T
  okl : ∀ x ∈ l, OkV U x.2
  asc : (l.map (·.1)).Pairwise (· < ·)
  le : ∀ x ∈ l, 0 ≤ x.1 ∧ x.1 ≤ P
  pr : P ∈ l.map (·.1)
  hi : P ≤ 100000
  cl : cs.length ≤ 10
theorem GabOk.hT (h : GabOk U st t sp ss cs P l T) : OkT T := fun i d e => by
  have s := h.oT.sv _ ((valD_some h.oT.ok.nd).mp e)
  have n := h.nT i d e
  rcases s with s | ⟨k, x, s, hx⟩
  · have s' : d = .non := s
    subst s'
    cases n
  · exact ⟨.int k, x, s, hx.1⟩
theorem asc_len : ∀ {l : List Int} {a b : Int}, l.Pairwise (· < ·) → (∀ x ∈ l, a ≤ x ∧ x ≤ b) → (l.length : Int) ≤ max 0 (b - a + 1)
  | [], a, b, _, _ => by simp; omega
  | x :: l, a, b, h, hm => by
    have h' := List.pairwise_cons.mp h
    have i := asc_len (l := l) (a := x + 1) (b := b) h'.2 fun y hy => ⟨h'.1 y hy, (hm y (List.mem_cons_of_mem _ hy)).2⟩
    have := hm x List.mem_cons_self
    rw [List.length_cons]
    omega
theorem chgF_sv {P : Int} {T : KL} (h0 : 0 ≤ P) : ∀ {r acc : KL}, (∀ q ∈ r, Vt q.2) → (∀ q ∈ acc, Sv q.2) → ∀ q ∈ r.foldl (chgF P T) acc, Sv q.2
  | [], _, _, h => h
  | p :: r, acc, hr, h => by
    refine chgF_sv h0 (r := r) (fun q hq => hr q (List.mem_cons_of_mem _ hq)) fun q hq => ?_
    unfold chgF at hq
    have hp := hr p List.mem_cons_self
    have en : Sv (entD P p.2) := by
      unfold entD
      split
      · exact .inl rfl
      · rename_i nn
        exact .inr ⟨P.toNat, p.2, by rw [Int.toNat_of_nonneg h0], hp, by simpa using nn⟩
    split at hq
    · unfold putD at hq
      split at hq
      · obtain ⟨z, hz, rfl⟩ := List.mem_map.mp hq
        split
        · exact en
        · exact h z hz
      · rcases List.mem_append.mp hq with m | m
        · exact h q m
        · rw [List.mem_singleton.mp m]; exact en
    · exact h q hq
theorem stepC_ok {rows : KL} (h0 : 0 ≤ P) (hr : okK U rows) (hv : ∀ q ∈ rows, Vt q.2) : OkV U (stepC P T rows) :=
  ⟨(chg_ok hr.mem ⟨okK.nil, fun _ h => by cases h⟩ : OkStep U (stepC P T rows)).ok, chgF_sv (by omega) hv fun _ h => by cases h⟩
/-- what a change of rows does to a table that is well -/
theorem GabOk.change (hU : U.length ≤ 60) (h : GabOk U st t sp ss cs P l T) (hl : l.length ≤ 1000) (hP : P < 100000) {rows : KL} (hr : okK U rows) (hv : ∀ q ∈ rows, Vt q.2) :
    ∃ st', m_Table__change [.ref t, .dct rows] st = some (.int (nxP P T rows), st') ∧ GabOk U st' t sp ss cs (nxP P T rows) (nxL P l T rows) (nxT P T rows) ∧ Kp t sp ss st st' := by
  obtain ⟨st', g1, g2, g3⟩ := gchange_ok hU h.tab h.n1 h.oT.ok h.hT hr hv hl fun x hx => (h.le x hx).2
  refine ⟨st', g1, ⟨g2, h.n1, ?_, ?_, ?_, ?_, ?_, ?_, ?_, h.cl⟩, g3⟩
  all_goals
    obtain ⟨z, hz, ez⟩ := List.mem_map.mp h.pr
    have h0 : 0 ≤ P := ez ▸ (h.le z hz).1
    have oc : OkV U (stepC P T rows) := stepC_ok h0 hr hv
  · exact take_okV h.oT oc
  · exact take_noN h.nT oc.ok.nd
  · intro x hx
    unfold nxL at hx
    split at hx
    · exact h.okl x hx
    · rcases List.mem_append.mp hx with m | m
      · exact h.okl x m
      · rw [List.mem_singleton.mp m]; exact oc
  · unfold nxL
    split
    · exact h.asc
    · rw [List.map_append]
      refine List.pairwise_append.mpr ⟨h.asc, by simp, fun a ha b hb => ?_⟩
      obtain ⟨x, hx, rfl⟩ := List.mem_map.mp ha
      have e : b = P + 1 := List.mem_singleton.mp hb
      have := (h.le x hx).2
      omega
  · intro x hx
    unfold nxL at hx
    unfold nxP
    split at hx
    · rename_i c
      rw [if_pos c]; exact h.le x hx
    · rename_i c
      rw [if_neg c]
      rcases List.mem_append.mp hx with m | m
      · have := h.le x m
        omega
      · rw [List.mem_singleton.mp m]
        show 0 ≤ P + 1 ∧ P + 1 ≤ P + 1
        omega
  · unfold nxP nxL
    split
    · exact h.pr
    · simp
  · unfold nxP
    split <;> omega
end LW
namespace LW
open PySem PySem.Spec PyProof.Rows L2 DL TL
variable {U : List Int} {st : Store} {t sp ss : Nat} {cs : List D} {P : Int} {l : VL} {T : KL}
theorem GabOk.app (h : GabOk U st t sp ss cs P l T) (m : Store) : GabOk U (st ++ m) t sp ss cs P l T := { h with tab := h.tab.app m }
/-! edits of a batch -/
/-- the three: what may be done to the table -/
theorem gput_ok (hU : U.length ≤ 60) (h : GabOk U st t sp ss cs P l T) (hl : l.length ≤ 1000) (hP : P < 100000) {i : Int} (hi : i ∈ U) (h1 : 1 ≤ i ∧ i ≤ 1000000) {vs : List D} (hvl : vs.length = cs.length) (hv : ∀ v ∈ vs, valB v = true) :
    ∃ st', m_Table_put_row [.ref t, .int i, .tup vs] st = some (.int (nxP P T [(.inl i, .tup vs)]), st') ∧ GabOk U st' t sp ss cs (nxP P T [(.inl i, .tup vs)]) (nxL P l T [(.inl i, .tup vs)]) (nxT P T [(.inl i, .tup vs)]) ∧ Kp t sp ss st st' := by
  have hcl := h.cl
  have hr : okK U [(Sum.inl i, D.tup vs)] := ⟨fun p hp => ⟨i, hi, by rw [List.mem_singleton.mp hp]⟩, by simp⟩
  obtain ⟨st', g1, g2, g3⟩ := (h.app [.dead]).change hU hl hP hr (fun q hq => by rw [List.mem_singleton.mp hq]; exact .inr ⟨vs, rfl, by omega, hv⟩)
  refine ⟨st', ?_, g2, (Kp.app st _).trans g3⟩
  have k := row_ok (cs := cs) (Nat.le_trans hcl (by decide)) (row_okw h1 (by omega) hv) st
  rw [row_B h1 hvl hv] at k
  have hm : noF "_change" (some (tabF cs P sp ss)) = true := rfl
  have z2 : 2 ≤ sizeLine := by decide
  have mg : mergeD [] [((.inl i : Key), D.tup vs)] = [(.inl i, .tup vs)] := rfl
  simp [m_Table_put_row, g_Table_put_row, mOf, outM, startD, sSeq, sAsg, gN, fMk, mkTup, z2, aCons, aNil, fVar, sIf, fNotT, fTest, fCall, fFld, h.tab.ins, lk_c, k, asB, sNil, sRet, fMeth, hm, fFrz, fDict, evP, asKey, mg, g1]
/-! back to a version -/
end LW
namespace LW
open PySem PySem.Spec PyProof.Rows L2 DL TL
variable {U : List Int} {st : Store} {t sp ss : Nat} {cs : List D} {P : Int} {l : VL} {T : KL}
theorem okV_nil : OkV U [] := ⟨okK.nil, fun _ h => by cases h⟩
theorem noN_nil : NoN [] := fun _ _ e => by cases e
theorem stVa_ok {v : Int} : ∀ {l : VL} {acc : KL}, (∀ x ∈ l, OkV U x.2) → OkV U acc → NoN acc → OkV U (stVa v l acc) ∧ NoN (stVa v l acc)
  | [], _, _, h, g => ⟨h, g⟩
  | (u, s) :: r, acc, hl, h, g => by
    have hs : OkV U s := hl _ List.mem_cons_self
    rw [stVa]
    split
    · exact stVa_ok (fun x hx => hl x (List.mem_cons_of_mem _ hx)) (take_okV h hs) (take_noN g hs.ok.nd)
    · exact stVa_ok (fun x hx => hl x (List.mem_cons_of_mem _ hx)) h g
theorem okT_of {Z : KL} (h : OkV U Z) (n : NoN Z) : OkT Z := fun i d e => by
  have s := h.sv _ ((valD_some h.ok.nd).mp e)
  have n := n i d e
  rcases s with s | ⟨k, x, s, hx⟩
  · have s' : d = .non := s
    subst s'
    cases n
  · exact ⟨.int k, x, s, hx.1⟩
theorem GabOk.vers (h : GabOk U st t sp ss cs P l T) (v : Int) : OkV U (stVa v l []) ∧ NoN (stVa v l []) := stVa_ok h.okl okV_nil noN_nil
theorem GabOk.rng (h : GabOk U st t sp ss cs P l T) {v : Int} (hv : v ∈ l.map (·.1)) : 0 ≤ v ∧ v ≤ 1000000 := by
  obtain ⟨x, hx, rfl⟩ := List.mem_map.mp hv
  have := h.le x hx
  have := h.hi
  omega
/-! what the versions hold -/
theorem stVa_over {v : Int} : ∀ {l : VL} {acc : KL}, (∀ x ∈ l, v < x.1) → stVa v l acc = acc
  | [], _, _ => rfl
  | (u, s) :: r, acc, h => by
    have := h _ List.mem_cons_self
    rw [stVa, if_neg (by show ¬ u ≤ v; have : v < u := this; omega)]
    exact stVa_over fun x hx => h x (List.mem_cons_of_mem _ hx)
theorem tells_at {M : Int → Int → Option D} {v : Int} : ∀ {l : VL} {acc : KL}, (l.map (·.1)).Pairwise (· < ·) → Tells M l acc → v ∈ l.map (·.1) → ∀ i, gt (stVa v l acc) i = M v i
  | (u, s) :: r, acc, ha, ht, hv, i => by
    have ha' := List.pairwise_cons.mp (show (u :: r.map (·.1)).Pairwise (· < ·) from ha)
    rcases List.mem_cons.mp (show v ∈ u :: r.map (·.1) from hv) with e | m
    · subst e
      rw [stVa, if_pos (Int.le_refl _), stVa_over fun x hx => ha'.1 _ (List.mem_map.mpr ⟨x, hx, rfl⟩)]
      exact ht.1 i
    · have : u < v := ha'.1 v m
      rw [stVa, if_pos (by omega)]
      exact tells_at ha'.2 ht.2 m i
theorem tells_congr {M N : Int → Int → Option D} : ∀ {l : VL} {acc : KL}, (∀ v ∈ l.map (·.1), ∀ i, M v i = N v i) → Tells M l acc → Tells N l acc
  | [], _, _, _ => trivial
  | (v, s) :: r, acc, hh, ht => ⟨fun i => (ht.1 i).trans (hh v List.mem_cons_self i), tells_congr (fun w hw => hh w (List.mem_cons_of_mem _ hw)) ht.2⟩
theorem tells_app {M : Int → Int → Option D} {v : Int} {s : KL} : ∀ {l : VL} {acc : KL}, Tells M l acc → (∀ i, gt (takeK (apV l acc) s) i = M v i) → Tells M (l ++ [(v, s)]) acc
  | [], acc, _, h => ⟨h, trivial⟩
  | (u, x) :: r, acc, ht, h => ⟨ht.1, tells_app ht.2 h⟩
theorem apV_eq {v : Int} : ∀ {l : VL} {acc : KL}, (∀ x ∈ l, x.1 ≤ v) → stVa v l acc = apV l acc
  | [], _, _ => rfl
  | (u, s) :: r, acc, h => by
    rw [stVa, if_pos (h _ List.mem_cons_self), apV, List.foldl_cons]
    exact apV_eq fun x hx => h x (List.mem_cons_of_mem _ hx)
/-! folding -/
/-! == of tables -/
end LW
namespace LW
open PySem PySem.Spec PyProof.Rows L2 DL TL
variable {U : List Int} {st : Store} {t sp ss : Nat} {cs : List D} {P : Int} {l : VL} {T : KL}
theorem GabOk.fm {st' : Store} {ex : List Nat} (h : GabOk U st t sp ss cs P l T) (f : Fm ex st st') (h1 : t ∉ ex) (h2 : sp ∉ ex) (h3 : ss ∉ ex) : GabOk U st' t sp ss cs P l T :=
  { h with tab := ⟨f.get h.tab.tab h1, f.get h.tab.stp h2, f.get h.tab.sta h3, h.tab.n2, h.tab.n3⟩ }
theorem Kp.fm {st' : Store} (k : Kp t sp ss st st') : Fm [t, sp, ss] st st' := ⟨k.le, fun m hm hn => by
  simp only [List.mem_cons, List.not_mem_nil, or_false, not_or] at hn
  exact k.at_ m hm hn.1 hn.2.1 hn.2.2⟩
theorem tp_fm {st' : Store} {ex : List Nat} {n : Nat} (h : Tp st n) (f : Fm ex st st') (hn : n ∉ ex) : Tp st' n := Tp.of h (f.at_ _ h.lt hn)
/-- a new table -/
theorem ginit_ok {n : Nat} (hn : n = st.length) (hc : okw (.tup cs)) (hB : colsB (.tup cs) = true) (hl : cs.length ≤ 10) :
    m_Table___init__ [.ref n, .tup cs] (st ++ [.ins "Table" []]) = some (.non, st ++ [.ins "Table" (tabF cs 0 (n + 1) (n + 2)), .dct (mkV [(0, [])]), .dct []]) ∧
    GabOk U (st ++ [.ins "Table" (tabF cs 0 (n + 1) (n + 2)), .dct (mkV [(0, [])]), .dct []]) n (n + 1) (n + 2) cs 0 [(0, [])] [] := by
  subst hn
  constructor
  · have k := cols_ok hc (st ++ [.ins "Table" []])
    rw [hB] at k
    let f1 : List (Str × D) := [("_columns", .tup cs)]
    let f2 : List (Str × D) := [("_columns", .tup cs), ("_present", .int 0)]
    let f3 : List (Str × D) := [("_columns", .tup cs), ("_present", .int 0), ("_steps", .ref (st.length + 1))]
    have at_ : ∀ (fs : List (Str × D)) (l : Store), insAt "Table" st.length (st ++ Ob.ins "Table" fs :: l) = some fs := fun fs l => by
      simp [insAt]
    have set_ : ∀ (fs gs : List (Str × D)) (l : Store), (st ++ Ob.ins "Table" fs :: l).set st.length (.ins "Table" gs) = st ++ Ob.ins "Table" gs :: l := fun fs gs l => by
      simp
    have p1 : putFD "_columns" (.tup cs) [] = f1 := rfl
    have p2 : putFD "_present" (.int 0) f1 = f2 := rfl
    have p3 : putFD "_steps" (.ref (st.length + 1)) f2 = f3 := rfl
    have p4 : putFD "_states" (.ref (st.length + 2)) f3 = tabF cs 0 (st.length + 1) (st.length + 2) := rfl
    have mg : mergeD [] [((.inl 0 : Key), D.dct [])] = mkV [(0, [])] := rfl
    have a1 : ∀ (v : F) (f : Str) (fs : List (Str × D)) (d : D) (l l' : Store), fs.length < 1000 → v [some (.ref st.length), some (.tup cs)] (st ++ Ob.ins "Table" fs :: l) = some (d, st ++ Ob.ins "Table" fs :: l') →
        sFldD "Table" f (fVar 0) v [some (.ref st.length), some (.tup cs)] (st ++ Ob.ins "Table" fs :: l) = some (.nx, [some (.ref st.length), some (.tup cs)], st ++ Ob.ins "Table" (putFD f d fs) :: l') := fun v f fs d l l' hl hv => by
      simp [sFldD, hv, fVar, at_, hl, set_]
    have e1 := a1 (fVar 1) "_columns" [] (.tup cs) [] [] (by decide) (by simp [fVar])
    have e2 := a1 (fC (.int 0)) "_present" f1 (.int 0) [] [] (by show 1 < 1000; decide) (by simp [fC])
    have e3 := a1 (fDict (((fC (.int 0)), (fC (.dct []))) :: [])) "_steps" f2 (.ref (st.length + 1)) [] [.dct (mkV [(0, [])])] (by show 2 < 1000; decide) (by simp [fDict, evP, fC, asKey, mg])
    have e4 := a1 fNewD "_states" f3 (.ref (st.length + 2)) [.dct (mkV [(0, [])])] [.dct (mkV [(0, [])]), .dct []] (by show 3 < 1000; decide) (by simp [fNewD])
    rw [p1] at e1
    rw [p2] at e2
    rw [p3] at e3
    rw [p4] at e4
    simp only [m_Table___init__, g_Table___init__, mOf, outM, startD, sSeq, sIf, fNotT, fTest]
    simp [fCall, aCons, aNil, fVar, k, asB, sNil]
    simp [e1, e2, e3, e4]
  · refine ⟨⟨by simp, ?_, ?_, by omega, by omega⟩, by omega, okV_nil, noN_nil, ?_, ?_, ?_, ?_, by decide, hl⟩
    · rw [List.getElem?_append_right (by omega)]; simp
    · rw [List.getElem?_append_right (by omega)]; simp
    · intro x hx; rw [List.mem_singleton.mp hx]; exact okV_nil
    · simp
    · intro x hx; rw [List.mem_singleton.mp hx]; decide
    · simp
/-- rows and changes of a known version, asked -/
theorem GabOk.rows (hU : U.length ≤ 60) (h : GabOk U st t sp ss cs P l T) {v : Int} (hv : v ∈ l.map (·.1)) :
    m_Table_rows_at [.ref t, .int v] st = some (.ref (st.length + 1), st ++ [.dct (stVa v l []), .dct (rowsK (stVa v l []))]) := by
  obtain ⟨o, n⟩ := h.vers v
  exact grows_ok hU h.tab h.okl hv (h.rng hv) o.ok fun i d e => by obtain ⟨c, x, a, _⟩ := okT_of o n i d e; exact ⟨c, x, a⟩
theorem GabOk.changes (hU : U.length ≤ 60) (h : GabOk U st t sp ss cs P l T) {v : Int} (hv : v ∈ l.map (·.1)) :
    m_Table_changes_at [.ref t, .int v] st = some (.ref (st.length + 1), st ++ [.dct (stVa v l []), .dct (chgsK (stVa v l []))]) := by
  obtain ⟨o, n⟩ := h.vers v
  exact gchanges_ok hU h.tab h.okl hv (h.rng hv) o.ok fun i d e => by obtain ⟨c, x, a, _⟩ := okT_of o n i d e; exact ⟨c, x, a⟩
end LW
namespace LW
open PySem PySem.Spec PyProof.Rows L2 DL TL
variable {U : List Int} {st : Store} {t sp ss : Nat} {cs : List D} {P : Int} {l : VL} {T : KL}
/-! steps that hold nothing but what differs -/
def NF : VL → KL → Prop
  | [], _ => True
  | (_, s) :: r, st => (∀ i d, gt s i = some d → d ≠ (gt st i).getD .non) ∧ NF r (takeK st s)
theorem nf_app {v : Int} {C : KL} : ∀ {l : VL} {st : KL}, NF l st → (∀ i d, gt C i = some d → d ≠ (gt (apV l st) i).getD .non) → NF (l ++ [(v, C)]) st
  | [], st, _, h => ⟨h, trivial⟩
  | (u, s) :: r, st, hn, h => ⟨hn.1, nf_app hn.2 h⟩
structure NfT (l : VL) (T : KL) : Prop where
  nf : NF l []
  ap : ∀ i, gt T i = gt (apV l []) i
theorem isNon_eq {d : D} (h : DL.isNon d = true) : d = .non := by
  cases d <;> first | rfl | cases h
theorem apV_app (l : VL) (v : Int) (C st : KL) : apV (l ++ [(v, C)]) st = takeK (apV l st) C := by
  unfold apV; rw [List.foldl_append]; rfl
/-- a step made by rows holds nothing but what differs -/
theorem stepC_new {rows : KL} (oT : OkV U T) (nT : NoN T) (hr : okK U rows) (hv : ∀ q ∈ rows, Vt q.2) {i : Int} {d : D} (e : gt (stepC P T rows) i = some d) : d ≠ (gt T i).getD .non := by
  unfold stepC at e
  rw [gt_chg hr.nd (fun j hj => absurd rfl hj)] at e
  cases q : gt rows i with
  | none => rw [q] at e; cases e
  | some v =>
    rw [q] at e
    have e' : (if neB v (vofD (gt T i)) = true then some (entD (P + 1) v) else none) = some d := e
    split at e'
    · rename_i c
      cases e'
      have vv : Vt v := hv _ ((valD_some hr.nd).mp q)
      have tv := vt_of (okT_of oT nT) i
      have nv : v ≠ vofD (gt T i) := fun z => by
        have := (ne_ok vv tv).2.2.mpr z
        rw [c] at this; cases this
      unfold entD
      cases z : gt T i with
      | none =>
        rw [z] at nv
        have nv' : v ≠ .non := nv
        split
        · rename_i cn; exact absurd (isNon_eq cn) nv'
        · intro w; cases w
      | some x =>
        rw [z] at nv
        have sx := oT.sv _ ((valD_some oT.ok.nd).mp z)
        have nx := nT i x z
        rcases sx with sx | ⟨k, y, sx, _⟩
        · have sx' : x = .non := sx
          subst sx'; cases nx
        · have sx' : x = .tup [.int k, y] := sx
          subst sx'
          split
          · intro w; cases w
          · intro w
            injection w with w
            injection w with _ w
            injection w with w _
            exact nv w
    · cases e'
theorem NfT.change {rows : KL} (h : NfT l T) (oT : OkV U T) (nT : NoN T) (hr : okK U rows) (hv : ∀ q ∈ rows, Vt q.2) (oc : OkV U (stepC P T rows)) : NfT (nxL P l T rows) (nxT P T rows) := by
  unfold nxL nxT
  by_cases c : (stepC P T rows).isEmpty = true
  · rw [if_pos c, List.isEmpty_iff.mp c]
    exact h
  · rw [if_neg c]
    refine ⟨nf_app h.nf fun i d e => ?_, fun i => ?_⟩
    · rw [← h.ap]; exact stepC_new oT nT hr hv e
    · rw [apV_app, gt_take oc.ok.nd, gt_take oc.ok.nd, h.ap]
theorem GabOk.last (h : GabOk U st t sp ss cs P l T) : apV l [] = stVa P l [] := (apV_eq fun x hx => (h.le x hx).2).symm
end LW
namespace LW
open PySem PySem.Spec PyProof.Rows L2 DL TL
/-! what the law keeps of the past, and what an edit does to it -/
def cmb (r c : KL) (i : Int) : Option D := match gt r i, gt c i with | some x, some v => some (.tup [v, x]) | _, _ => none
theorem Rv.nn {w : Nat} {d : D} (h : Rv w d) : DL.isNon d = false := by
  obtain ⟨vs, rfl, _⟩ := h; rfl
theorem opt_vt {w : Nat} (hw : w ≤ 10) {o : Option D} (h : ∀ d, o = some d → Rv w d) : Vt (o.getD .non) := by
  cases o with
  | none => exact .inl rfl
  | some d => exact (h d rfl).vt hw
theorem opt_eq {w : Nat} {a b : Option D} (ha : ∀ d, a = some d → Rv w d) (hb : ∀ d, b = some d → Rv w d) : a.getD .non = b.getD .non ↔ a = b := by
  cases a with
  | none =>
    cases b with
    | none => simp
    | some d =>
      have := (hb d rfl).nn
      refine ⟨fun e => ?_, fun e => by cases e⟩
      rw [show (some d).getD .non = d from rfl] at e
      rw [← e] at this; cases this
  | some c =>
    cases b with
    | none =>
      have := (ha c rfl).nn
      refine ⟨fun e => ?_, fun e => by cases e⟩
      rw [show (some c).getD .non = c from rfl] at e
      rw [e] at this; cases this
    | some d => simp
/-- the goal, told by the rows that come -/
def goalOf (r rows : KL) (i : Int) : Option D := match gt rows i with | none => gt r i | some d => if DL.isNon d = true then none else some d
open Classical in
theorem okK_empty {U : List Int} {l : KL} (h : okK U l) : l = [] ↔ ∀ i, gt l i = none := by
  refine ⟨fun e i => by rw [e]; rfl, fun g => ?_⟩
  cases l with
  | nil => rfl
  | cons p l =>
    obtain ⟨k, v⟩ := p
    obtain ⟨i, _, e⟩ := h.mem _ List.mem_cons_self
    have e' : k = .inl i := e
    subst e'
    have := g i
    rw [gt, valD_cons, if_pos rfl] at this
    cases this
open Classical in
/-- the changes, told -/
noncomputable def chgOf (n : Nat) (r g c : KL) (i : Int) : Option D := if gt g i = gt r i then gt c i else if (gt g i).isSome = true then some (.int n) else none
/-! the place -/
/-- one of the store's list -/
theorem one_okR {st : Store} {n m : Nat} {xs : List D} (t : Tp st n) (hm : st[m]? = some (.lst xs)) (ne : m ≠ n) (h0 : 0 < xs.length) (h1 : xs.length < 1000000) : ∃ d st', mOne [.ref n, .ref m] st = some (d, st') ∧ d ∈ xs ∧ Tp st' n ∧ Fr n st st' ∧ st'.length = st.length := by
  obtain ⟨r, st', h, hr0, hr1, t', f, l⟩ := pick_ok t (s := (xs.length : Int)) (by omega) (by omega)
  obtain ⟨d, hd, hmem⟩ := atI_lt hr0 hr1
  have hm' : st'[m]? = some (.lst xs) := by rw [f.at_ _ ne (at_some hm)]; exact hm
  refine ⟨d, st', ?_, hmem, t', f, l⟩
  simp [mOne, gOne, mOf, outM, startD, sRet, fSub, fVar, fCall, aCons, aNil, fMk, bLen, lenL, hm, h, ixD, hm', hd]
/-- rows and change versions of a version -/
structure Vsg (U : List Int) (w : Nat) (r c : KL) : Prop where
  or_ : okK U r
  oc : okK U c
  rv : ∀ i d, gt r i = some d → Rv w d
  cs : ∀ i, (gt c i).isSome = (gt r i).isSome
  cv : ∀ i d, gt c i = some d → ∃ k : Nat, d = .int k ∧ k ≤ 1000
/-- the states of a version, by the law's history -/
def Mps (ps : List (KL × KL)) (v i : Int) : Option D := (ps[v.toNat]?).bind fun x => cmb x.1 x.2 i
theorem Mps_at {ps : List (KL × KL)} {v : Nat} {r c : KL} (h : ps[v]? = some (r, c)) (i : Int) : Mps ps v i = cmb r c i := by
  unfold Mps
  rw [Int.toNat_natCast, h]; rfl
theorem vof_cmb {U : List Int} {w : Nat} {r c : KL} (h : Vsg U w r c) (i : Int) : vofD (cmb r c i) = (gt r i).getD .non := by
  unfold cmb
  have s := h.cs i
  cases hr : gt r i with
  | none => rfl
  | some x =>
    rw [hr] at s
    cases hc : gt c i with
    | none => rw [hc] at s; cases s
    | some v => rfl
abbrev U7 : List Int := [1, 2, 3, 4, 5, 6, 7, 8, 9]
theorem U7_mem {i : Int} (h : 1 ≤ i ∧ i ≤ 9) : i ∈ U7 := by
  have : i = 1 ∨ i = 2 ∨ i = 3 ∨ i = 4 ∨ i = 5 ∨ i = 6 ∨ i = 7 ∨ i = 8 ∨ i = 9 := by omega
  simp [this]
theorem U7_len : U7.length ≤ 60 := by decide
/-- the place: tape, table, history -/
structure GWd (Φ : KX) (w : Nat) (st : Store) (n t sp ss p : Nat) (cs : List D) (P : Int) (l : VL) (T : KL) (ps : List (KL × KL)) : Prop where
  tp : Tp st n
  tab : GabOk U7 st t sp ss cs P l T
  nf : NfT l T
  len : (ps.length : Int) = P + 1
  vs : ∀ (v : Nat) (r c : KL), ps[v]? = some (r, c) → Vsg U7 w r c
  tel : Tells (Mps ps) l []
  d1 : n ≠ t
  d2 : n ≠ sp
  d3 : n ≠ ss
  cl : cs.length = w
  w0 : 0 < w
  cw : w ≤ 10
  sl : P ≤ 60
  fx : KXat Φ st
  fb : Φ n = none ∧ Φ t = none ∧ Φ sp = none ∧ Φ ss = none ∧ Φ p = none
variable {Φ : KX} {w : Nat} {wi : Int} {s : Store} {n t sp ss p L : Nat} {cs : List D} {P : Int} {l : VL} {T r c : KL} {ps : List (KL × KL)}
theorem GWd.lo (h : GWd Φ w s n t sp ss p cs P l T ps) : 0 ≤ P := by
  obtain ⟨z, hz, ez⟩ := List.mem_map.mp h.tab.pr
  exact ez ▸ (h.tab.le z hz).1
theorem GWd.ll (h : GWd Φ w s n t sp ss p cs P l T ps) : l.length ≤ 1000 := by
  have := asc_len (a := 0) (b := P) h.tab.asc fun x hx => by
    obtain ⟨y, hy, rfl⟩ := List.mem_map.mp hx
    exact h.tab.le y hy
  rw [List.length_map] at this
  have := h.sl
  omega
theorem GWd.lp (h : GWd Φ w s n t sp ss p cs P l T ps) : P < 100000 := by have := h.sl; omega
/-- the states of a known version -/
theorem GWd.at_ (h : GWd Φ w s n t sp ss p cs P l T ps) {v : Int} (hv : v ∈ l.map (·.1)) : ∃ (k : Nat) (r c : KL), v = k ∧ ps[k]? = some (r, c) ∧ ∀ i, gt (stVa v l []) i = cmb r c i := by
  obtain ⟨y, hy, rfl⟩ := List.mem_map.mp hv
  have := h.tab.le y hy
  have hl := h.len
  obtain ⟨k, hk⟩ : ∃ k : Nat, y.1 = k := ⟨y.1.toNat, (Int.toNat_of_nonneg this.1).symm⟩
  have kl : k < ps.length := by omega
  refine ⟨k, ps[k].1, ps[k].2, hk, List.getElem?_eq_getElem kl, fun i => ?_⟩
  rw [tells_at h.tab.asc h.tel hv i, hk, Mps_at (List.getElem?_eq_getElem kl)]
  rfl
/-- the states now -/
theorem GWd.now (h : GWd Φ w s n t sp ss p cs P l T ps) {r c : KL} (hl : ps[ps.length - 1]? = some (r, c)) (i : Int) : gt T i = cmb r c i := by
  have hlen := h.len
  have lo := h.lo
  rw [h.nf.ap, h.tab.last, tells_at h.tab.asc h.tel h.tab.pr i]
  have : P = ((ps.length - 1 : Nat) : Int) := by omega
  rw [this, Mps_at hl]
theorem GabOk.fr {a b : Store} (h : GabOk U7 a t sp ss cs P l T) (f : Fr n a b) (h1 : n ≠ t) (h2 : n ≠ sp) (h3 : n ≠ ss) : GabOk U7 b t sp ss cs P l T :=
  { h with tab := ⟨by rw [f.at_ _ (Ne.symm h1) (at_some h.tab.tab)]; exact h.tab.tab, by rw [f.at_ _ (Ne.symm h2) (at_some h.tab.stp)]; exact h.tab.stp, by rw [f.at_ _ (Ne.symm h3) (at_some h.tab.sta)]; exact h.tab.sta, h.tab.n2, h.tab.n3⟩ }
theorem GabOk.set {a : Store} (h : GabOk U7 a t sp ss cs P l T) {M : Nat} (o : Ob) (h1 : M ≠ t) (h2 : M ≠ sp) (h3 : M ≠ ss) : GabOk U7 (a.set M o) t sp ss cs P l T := { h with tab := h.tab.set o h1 h2 h3 }
theorem Kp.at {t sp ss : Nat} {a b : Store} (k : Kp t sp ss a b) {m : Nat} {o : Ob} (h : a[m]? = some o) (h1 : m ≠ t) (h2 : m ≠ sp) (h3 : m ≠ ss) : b[m]? = some o := by
  rw [k.at_ m (at_some h) h1 h2 h3]; exact h
theorem GWd.fr (h : GWd Φ w s n t sp ss p cs P l T ps) {s' : Store} (tp : Tp s' n) (f : Fr n s s') : GWd Φ w s' n t sp ss p cs P l T ps :=
  { h with tp := tp, tab := h.tab.fr f h.d1 h.d2 h.d3, fx := h.fx.of fun m o e hl => f.at_ m (KXat.ne e h.fb.1) hl }
theorem GWd.app (h : GWd Φ w s n t sp ss p cs P l T ps) (m : Store) : GWd Φ w (s ++ m) n t sp ss p cs P l T ps :=
  { h with tp := Tp.of h.tp (by rw [List.getElem?_append_left h.tp.lt]), tab := h.tab.app m, fx := h.fx.app m }
theorem GWd.fm (h : GWd Φ w s n t sp ss p cs P l T ps) {s' : Store} {ex : List Nat} (f : Fm ex s s') (h1 : n ∉ ex) (h2 : t ∉ ex) (h3 : sp ∉ ex) (h4 : ss ∉ ex) (h5 : p ∉ ex) (hx : ∀ m ∈ ex, Φ m = none := by simp) : GWd Φ w s' n t sp ss p cs P l T ps :=
  { h with tp := tp_fm h.tp f h1, tab := h.tab.fm f h2 h3 h4, fx := h.fx.of fun m o e hl => f.at_ m hl fun z => KXat.ne e (hx m z) rfl }
end LW
namespace LW
open PySem PySem.Spec PyProof.Rows L2 DL TL
variable {Φ : KX} {w : Nat} {wi : Int} {s : Store} {n t sp ss p L : Nat} {cs : List D} {P : Int} {l : VL} {T r c g : KL} {G : Nat} {ps : List (KL × KL)} {x4 x5 x9 x10 x11 x12 x13 x14 x15 : Option D}
open Classical in
open Classical in
theorem gchg_none {rows : KL} (hw : w ≤ 10) (h : Vsg U7 w r c) (e : ∀ i, gt T i = cmb r c i) (hr : okK U7 rows) (hv : ∀ q ∈ rows, q.2 = .non ∨ Rv w q.2) (i : Int) :
    gt (stepC P T rows) i = if goalOf r rows i = gt r i then none else (gt rows i).map (entD (P + 1)) := by
  unfold stepC
  rw [gt_chg hr.nd (fun j hj => absurd rfl hj)]
  unfold goalOf
  cases hg : gt rows i with
  | none => simp; rfl
  | some v =>
    have m : (Sum.inl i, v) ∈ rows := (valD_some hr.nd).mp hg
    have hv' := hv _ m
    have va : Vt v := hv'.elim (fun z => .inl z) fun z => z.vt hw
    have vb : Vt ((gt r i).getD .non) := opt_vt hw (h.rv i)
    have key := (ne_ok va vb).2.2
    have vo : vofD (gt T i) = (gt r i).getD .non := by rw [e]; exact vof_cmb h i
    simp only [vo]
    have iff : neB v ((gt r i).getD .non) = false ↔ (if DL.isNon v = true then none else some v) = gt r i := by
      rw [key]
      rcases hv' with z | z
      · have z' : v = .non := z
        subst z'
        have := opt_eq (w := w) (a := none) (b := gt r i) (fun _ z => by cases z) (h.rv i)
        exact this
      · have z' : Rv w v := z
        rw [z'.nn]
        have := opt_eq (w := w) (a := some v) (b := gt r i) (fun d hd => by cases hd; exact z') (h.rv i)
        exact this
    cases hn : neB v ((gt r i).getD .non) with
    | true =>
      have : ¬ (if DL.isNon v = true then none else some v) = gt r i := fun z => by rw [iff.mpr z] at hn; cases hn
      simp only [if_true, if_neg this]; rfl
    | false =>
      rw [if_pos (iff.mp hn)]; simp
theorem Mps_app {ps : List (KL × KL)} {x : KL × KL} {v : Int} (h0 : 0 ≤ v) (h : v < ps.length) (i : Int) : Mps (ps ++ [x]) v i = Mps ps v i := by
  unfold Mps
  rw [List.getElem?_append_left (by omega)]
open Classical in
theorem gstep_ok {rows g c' : KL} (h : GWd Φ w s n t sp ss p cs P l T ps) (hl : ps[ps.length - 1]? = some (r, c)) (hr : okK U7 rows) (hv : ∀ q ∈ rows, q.2 = .non ∨ Rv w q.2)
    (og : okK U7 g) (oc : okK U7 c') (hg : ∀ i, gt g i = goalOf r rows i) (hc : ∀ i, gt c' i = chgOf ps.length r g c i) :
    ((stepC P T rows).isEmpty = true ↔ ∀ i, gt g i = gt r i) ∧ Vsg U7 w g c' ∧ ((stepC P T rows).isEmpty = false → Tells (Mps (ps ++ [(g, c')])) (l ++ [(P + 1, stepC P T rows)]) []) := by
  have vs := h.vs _ r c hl
  have lst := h.now hl
  have hw := h.cw
  have sl := h.sl
  have lo := h.lo
  have hlen := h.len
  have oC : OkV U7 (stepC P T rows) := stepC_ok lo hr fun q hq => (hv q hq).elim (fun z => .inl z) fun z => z.vt hw
  have cn := gchg_none (P := P) hw vs lst hr hv
  have hgv : ∀ i d, gt g i = some d → Rv w d := fun i d e => by
    rw [hg, goalOf] at e
    cases hq : gt rows i with
    | none => rw [hq] at e; exact vs.rv i d e
    | some v =>
      rw [hq] at e
      have m : (Sum.inl i, v) ∈ rows := (valD_some hr.nd).mp hq
      have e' : (if DL.isNon v = true then none else some v) = some d := e
      split at e'
      · cases e'
      · rename_i nn
        cases e'
        rcases hv _ m with z | z
        · exact absurd (show DL.isNon d = true by rw [show d = .non from z]; rfl) nn
        · exact z
  have emp : (stepC P T rows).isEmpty = true ↔ ∀ i, gt g i = gt r i := by
    rw [List.isEmpty_iff, okK_empty oC.ok]
    refine ⟨fun z i => ?_, fun z i => ?_⟩
    · have := z i
      rw [cn] at this
      by_cases q : goalOf r rows i = gt r i
      · rw [hg]; exact q
      · rw [if_neg q] at this
        cases hq : gt rows i with
        | none => exact absurd (by rw [goalOf, hq]) q
        | some v => rw [hq] at this; cases this
    · rw [cn, if_pos (by rw [← hg]; exact z i)]
  have cnv : ∀ i d, gt c' i = some d → ∃ k : Nat, d = .int k ∧ k ≤ 1000 := fun i d e => by
    rw [hc, chgOf] at e
    split at e
    · exact vs.cv i d e
    · split at e
      · cases e; exact ⟨ps.length, rfl, by omega⟩
      · cases e
  have cis : ∀ i, (gt c' i).isSome = (gt g i).isSome := fun i => by
    rw [hc, chgOf]
    by_cases q : gt g i = gt r i
    · rw [if_pos q, q]; exact vs.cs i
    · rw [if_neg q]
      cases gt g i with
      | none => simp
      | some d => simp
  refine ⟨emp, ⟨og, oc, hgv, cis, cnv⟩, fun ne => ?_⟩
  have pn : P + 1 = ((ps.length : Nat) : Int) := by omega
  generalize hC : stepC P T rows = C at *
  have zz : ∀ i, gt (takeK T C) i = cmb g c' i := fun i => by
    rw [gt_take oC.ok.nd, cn]
    by_cases q : goalOf r rows i = gt r i
    · rw [if_pos q]
      have q' : gt g i = gt r i := by rw [hg]; exact q
      simp only
      rw [lst, cmb, cmb, q', hc, chgOf, if_pos q']
    · rw [if_neg q]
      have q' : ¬ gt g i = gt r i := by rw [hg]; exact q
      have hc' := hc i
      rw [chgOf, if_neg q'] at hc'
      have hgi := hg i
      unfold goalOf at hgi
      cases hq : gt rows i with
      | none => rw [hq] at hgi; exact absurd hgi q'
      | some v =>
        rw [hq] at hgi
        simp only [Option.map_some]
        simp only at hgi
        cases hn : DL.isNon v with
        | true =>
          rw [hn] at hgi
          simp only [if_true] at hgi
          have en : entD (P + 1) v = .non := by simp [entD, hn]
          rw [en, cmb, hgi]; rfl
        | false =>
          rw [hn] at hgi
          simp only [Bool.false_eq_true, if_false] at hgi
          have en : entD (P + 1) v = .tup [.int (P + 1), v] := by simp [entD, hn]
          rw [hgi] at hc'
          simp only [Option.isSome_some, if_true] at hc'
          rw [en, pn, cmb, hgi, hc']; rfl
  refine tells_app (tells_congr (fun v hv i => ?_) h.tel) fun i => ?_
  · obtain ⟨y, hy, rfl⟩ := List.mem_map.mp hv
    have := h.tab.le y hy
    rw [Mps_app this.1 (by omega)]
  · rw [gt_take oC.ok.nd, ← h.nf.ap, ← gt_take oC.ok.nd, zz, pn, Mps_at (v := ps.length) (r := g) (c := c') (by simp)]
theorem GWd.noF (h : GWd Φ w s n t sp ss p cs P l T ps) {m : Str} (hm : ∀ p, List.lookup m (tabF cs p sp ss) = none) : DL.noF m (insAt "Table" t s) = true := noF_G h.tab.tab hm
theorem GWd.next (h : GWd Φ w s n t sp ss p cs P l T ps) (hS : P < 60) (hl : ps[ps.length - 1]? = some (r, c)) {rows g c' : KL} (hr : okK U7 rows) (hv : ∀ q ∈ rows, q.2 = .non ∨ Rv w q.2)
    (og : okK U7 g) (oc : okK U7 c') (hg : ∀ i, gt g i = goalOf r rows i) (hc : ∀ i, gt c' i = chgOf ps.length r g c i) {s' : Store} (tp : Tp s' n) (tab : GabOk U7 s' t sp ss cs (nxP P T rows) (nxL P l T rows) (nxT P T rows))
    {b : Bool} (hb : b = true ↔ ∀ i, gt g i = gt r i) (fx : KXat Φ s') :
    GWd Φ w s' n t sp ss p cs (nxP P T rows) (nxL P l T rows) (nxT P T rows) (if b = true then ps else ps ++ [(g, c')]) ∧ nxP P T rows = (if b = true then P else P + 1) ∧ ((nxL P l T rows).map (·.1)) = (if b = true then l.map (·.1) else l.map (·.1) ++ [P + 1]) := by
  have lo := h.lo
  have hlen := h.len
  obtain ⟨st1, st2, st3⟩ := gstep_ok h hl hr hv og oc hg hc
  have nf2 : NfT (nxL P l T rows) (nxT P T rows) := h.nf.change h.tab.oT h.tab.nT hr (fun q hq => (hv q hq).elim (fun z => .inl z) fun z => z.vt h.cw) (stepC_ok lo hr fun q hq => (hv q hq).elim (fun z => .inl z) fun z => z.vt h.cw)
  cases b with
  | true =>
    have em := st1.mpr (hb.mp rfl)
    have nP : nxP P T rows = P := by simp [nxP, em]
    have nL : nxL P l T rows = l := by simp [nxL, em]
    rw [nL] at nf2
    rw [nP, nL] at tab ⊢
    simp only [if_true]
    exact ⟨{ h with tp := tp, tab := tab, nf := nf2, fx := fx }, by simp⟩
  | false =>
    have em : (stepC P T rows).isEmpty = false := by
      cases z : (stepC P T rows).isEmpty with
      | false => rfl
      | true => cases hb.mpr (st1.mp z)
    have tel' := st3 em
    have nP : nxP P T rows = P + 1 := by simp [nxP, em]
    have nL : nxL P l T rows = l ++ [(P + 1, stepC P T rows)] := by simp [nxL, em]
    rw [nL] at nf2
    rw [nP, nL] at tab ⊢
    simp only [Bool.false_eq_true, if_false]
    have vs5 : ∀ (v : Nat) (r c : KL), (ps ++ [(g, c')])[v]? = some (r, c) → Vsg U7 w r c := fun v r0 c0 hv => by
      by_cases hq : v < ps.length
      · rw [List.getElem?_append_left hq] at hv
        exact h.vs v r0 c0 hv
      · have hv2 := (List.getElem?_eq_some_iff.mp hv).1
        rw [List.length_append, List.length_singleton] at hv2
        have : v = ps.length := by omega
        subst this
        simp at hv
        obtain ⟨rfl, rfl⟩ := hv
        exact st2
    exact ⟨⟨tp, tab, nf2, by rw [List.length_append, List.length_singleton]; omega, vs5, tel', h.d1, h.d2, h.d3, h.cl, h.w0, h.cw, by omega, fx, h.fb⟩, by simp⟩
theorem GWd.last (h : GWd Φ w s n t sp ss p cs P l T ps) : ∃ r c, ps[ps.length - 1]? = some (r, c) ∧ Vsg U7 w r c := by
  have hlen := h.len
  have lo := h.lo
  exact ⟨_, _, List.getElem?_eq_getElem (show ps.length - 1 < ps.length by omega), h.vs (ps.length - 1) _ _ (List.getElem?_eq_getElem (by omega))⟩
/-- rows and change versions of a known version are those of the history -/
theorem GWd.both (h : GWd Φ w s n t sp ss p cs P l T ps) {v : Int} (hv : v ∈ l.map (·.1)) :
    ∃ (k : Nat) (r c Z R C : KL), v = k ∧ ps[k]? = some (r, c) ∧ Vsg U7 w r c ∧ m_Table_rows_at [.ref t, .int v] s = some (.ref (s.length + 1), s ++ [.dct Z, .dct R]) ∧ m_Table_changes_at [.ref t, .int v] s = some (.ref (s.length + 1), s ++ [.dct Z, .dct C]) ∧
      okK U7 R ∧ okK U7 C ∧ (∀ i, gt R i = gt r i) ∧ ∀ i, gt C i = gt c i := by
  obtain ⟨k, r, c, e1, e2, e3⟩ := h.at_ hv
  have vs := h.vs k r c e2
  obtain ⟨oz, nz⟩ := h.tab.vers v
  have a := h.tab.rows U7_len hv
  have b := h.tab.changes U7_len hv
  refine ⟨k, r, c, _, _, _, e1, e2, vs, a, b, okK_mapI oz.ok U7_len _, okK_mapI oz.ok U7_len _, fun i => ?_, fun i => ?_⟩
  · rw [rowsK, gt_mapI oz.ok U7_len, e3, cmb]
    have := vs.cs i
    cases q : gt r i with
    | none => rfl
    | some x =>
      rw [q] at this
      obtain ⟨y, hy⟩ := Option.isSome_iff_exists.mp this
      rw [hy]; rfl
  · rw [chgsK, gt_mapI oz.ok U7_len, e3, cmb]
    have := vs.cs i
    cases q : gt c i with
    | none =>
      cases gt r i with
      | none => rfl
      | some _ => rfl
    | some x =>
      rw [q] at this
      obtain ⟨y, hy⟩ := Option.isSome_iff_exists.mp this.symm
      rw [hy]; rfl
end LW
/-! What simp knows of the data level. -/
namespace DL
open PySem PySem.Spec PyProof.Rows L2 TL
@[simp] theorem u_mOf (n : Nat) (g : FS) (ds : List D) (st : Store) : mOf n g ds st = outM (g (startD n ds) st) := rfl
@[simp] theorem u_outM1 (d : D) (e : Lo) (s : Store) : outM (some (.rt d, e, s)) = some (d, s) := rfl
@[simp] theorem u_outM2 (e : Lo) (s : Store) : outM (some (.nx, e, s)) = some (.non, s) := rfl
@[simp] theorem u_startD (n : Nat) (ds : List D) : startD n ds = ds.map some ++ List.replicate (n - ds.length) none := rfl
@[simp] theorem u_sSeq (g h : FS) (env : Lo) (st : Store) : sSeq g h env st = (g env st).bind fun p => match p with | (.nx, e1, s1) => h e1 s1 | q => some q := rfl
@[simp] theorem u_sAsg (f : F) (g : FG) (env : Lo) (st : Store) : sAsg f g env st = (f env st).bind fun p => (g p.1 env).map fun e1 => (.nx, e1, p.2) := rfl
@[simp] theorem u_gN (i : Nat) (d : D) (env : Lo) : gN i d env = some (env.set i (some d)) := rfl
@[simp] theorem u_gT (n : Nat) (h : FGs) (ds : List D) (env : Lo) : gT n h (.tup ds) env = if ds.length = n then h ds env else none := rfl
@[simp] theorem u_gNil (env : Lo) : gNil' [] env = some env := rfl
@[simp] theorem u_gCons (g : FG) (h : FGs) (d : D) (r : List D) (env : Lo) : gCons' g h (d :: r) env = (g d env).bind fun e1 => h r e1 := rfl
@[simp] theorem u_sIf (t : FT) (g h : FS) (env : Lo) (st : Store) : sIf t g h env st = (t env st).bind fun p => if p.1 = true then g env p.2 else h env p.2 := rfl
@[simp] theorem u_sNil (env : Lo) (st : Store) : sNil env st = some (.nx, env, st) := rfl
@[simp] theorem u_sRet (f : F) (env : Lo) (st : Store) : sRet f env st = (f env st).map fun p => (.rt p.1, env, p.2) := rfl
@[simp] theorem u_sDrop (f : F) (env : Lo) (st : Store) : sDrop f env st = (f env st).map fun p => (.nx, env, p.2) := rfl
@[simp] theorem u_sRetN (env : Lo) (st : Store) : sRetN env st = some (.rt .non, env, st) := rfl
@[simp] theorem u_sBrk (env : Lo) (st : Store) : sBrk env st = some (.bk, env, st) := rfl
@[simp] theorem u_sCnt (env : Lo) (st : Store) : sCnt env st = some (.ct, env, st) := rfl
@[simp] theorem u_fVar (i : Nat) (env : Lo) (st : Store) : fVar i env st = match env[i]? with | some (some d) => some (d, st) | _ => none := rfl
@[simp] theorem u_fC (d : D) (env : Lo) (st : Store) : fC d env st = some (d, st) := rfl
@[simp] theorem u_fOp (g : D → D → Option D) (fa fb : F) (env : Lo) (st : Store) : fOp g fa fb env st = (fa env st).bind fun p => (fb env p.2).bind fun q => (g p.1 q.1).map fun d => (d, q.2) := rfl
@[simp] theorem u_fTest (f : F) (env : Lo) (st : Store) : fTest f env st = (f env st).bind fun p => (asB p.1).map fun b => (b, p.2) := rfl
@[simp] theorem u_asB (b : Bool) : asB (.bl b) = some b := rfl
@[simp] theorem u_fMk (g : List D → Store → Option D) (fa : FA) (env : Lo) (st : Store) : fMk g fa env st = (fa env st).bind fun p => (g p.1 p.2).map fun d => (d, p.2) := rfl
@[simp] theorem u_aNil (env : Lo) (st : Store) : aNil env st = some ([], st) := rfl
@[simp] theorem u_aCons (f : F) (g : FA) (env : Lo) (st : Store) : aCons f g env st = (f env st).bind fun p => (g env p.2).map fun q => (p.1 :: q.1, q.2) := rfl
@[simp] theorem u_aStar (f : F) (g : FA) (env : Lo) (st : Store) : aStar f g env st = (f env st).bind fun p => (asSeq p.1 p.2).bind fun ds => (g env p.2).map fun q => (ds ++ q.1, q.2) := rfl
@[simp] theorem u_asSeqL (ds : List D) (st : Store) : asSeq (.lst ds) st = some ds := rfl
@[simp] theorem u_asSeqT (ds : List D) (st : Store) : asSeq (.tup ds) st = some ds := rfl
@[simp] theorem u_fCall (m : FM) (fa : FA) (env : Lo) (st : Store) : fCall m fa env st = (fa env st).bind fun p => m p.1 p.2 := rfl
@[simp] theorem u_fAndT (f g : FT) (env : Lo) (st : Store) : fAndT f g env st = (f env st).bind fun p => if p.1 = true then g env p.2 else some (false, p.2) := rfl
@[simp] theorem u_fOrT (f g : FT) (env : Lo) (st : Store) : fOrT f g env st = (f env st).bind fun p => if p.1 = true then some (true, p.2) else g env p.2 := rfl
@[simp] theorem u_fNotT (f : FT) (env : Lo) (st : Store) : fNotT f env st = (f env st).map fun p => (!p.1, p.2) := rfl
@[simp] theorem u_fAnd (f g : F) (env : Lo) (st : Store) : fAnd f g env st = (f env st).bind fun p => (asB p.1).bind fun b => if b = true then g env p.2 else some (.bl false, p.2) := rfl
@[simp] theorem u_fOr (f g : F) (env : Lo) (st : Store) : fOr f g env st = (f env st).bind fun p => (asB p.1).bind fun b => if b = true then some (.bl true, p.2) else g env p.2 := rfl
@[simp] theorem u_fNot (f : F) (env : Lo) (st : Store) : fNot f env st = (f env st).bind fun p => (asB p.1).map fun b => (.bl (!b), p.2) := rfl
@[simp] theorem u_fIfE (t : FT) (f g : F) (env : Lo) (st : Store) : fIfE t f g env st = (t env st).bind fun p => if p.1 = true then f env p.2 else g env p.2 := rfl
@[simp] theorem u_fChain (g g' : D → D → Option D) (fa fb fc : F) (env : Lo) (st : Store) : fChain g g' fa fb fc env st = (fa env st).bind fun p => (fb env p.2).bind fun q => (g p.1 q.1).bind fun z => (asB z).bind fun k => if k = true then (fc env q.2).bind fun w => (g' q.1 w.1).map fun d => (d, w.2) else some (.bl false, q.2) := rfl
@[simp] theorem u_fSub (fa fb : F) (env : Lo) (st : Store) : fSub fa fb env st = (fa env st).bind fun p => (fb env p.2).bind fun q => (ixD p.1 q.1 q.2).map fun d => (d, q.2) := rfl
@[simp] theorem u_ixT (ds : List D) (i : Int) (st : Store) : ixD (.tup ds) (.int i) st = atI ds i := rfl
@[simp] theorem u_ixL (ds : List D) (i : Int) (st : Store) : ixD (.lst ds) (.int i) st = atI ds i := rfl
@[simp] theorem u_fSlice (fa : F) (lo hi : FO) (env : Lo) (st : Store) : fSlice fa lo hi env st = (fa env st).bind fun p => (lo env p.2).bind fun q => (hi env q.2).bind fun w => (slD p.1 q.1 w.1).map fun d => (d, w.2) := rfl
@[simp] theorem u_oNone (env : Lo) (st : Store) : oNone env st = some (none, st) := rfl
@[simp] theorem u_oSome (f : F) (env : Lo) (st : Store) : oSome f env st = (f env st).bind fun p => match p.1 with | .int i => some (some i, p.2) | _ => none := rfl
@[simp] theorem u_fMt (g : D → List D → Option D) (fo : F) (fa : FA) (env : Lo) (st : Store) : fMt g fo fa env st = (fo env st).bind fun p => (fa env p.2).bind fun q => (g p.1 q.1).map fun d => (d, q.2) := rfl
@[simp] theorem u_fUn (g : D → Option D) (fa : F) (env : Lo) (st : Store) : fUn g fa env st = (fa env st).bind fun p => (g p.1).map fun d => (d, p.2) := rfl
@[simp] theorem u_negI (i : Int) : negI (.int i) = some (.int (-i)) := rfl
@[simp] theorem u_fIsi (T : String) (f : F) (env : Lo) (st : Store) : fIsi T f env st = (f env st).bind fun p => (tyD p.1 p.2).map fun a => (.bl (isiB a T), p.2) := rfl
@[simp] theorem u_sPar (f : List D → Lo → Option Lo) (fa : FA) (env : Lo) (st : Store) : sPar f fa env st = (fa env st).bind fun p => (f p.1 env).map fun e => (.nx, e, p.2) := rfl
@[simp] theorem u_par2 (i j : Nat) (x y : D) (env : Lo) : par2 i j [x, y] env = some ((env.set i (some x)).set j (some y)) := rfl
@[simp] theorem u_par3 (i j l : Nat) (x y z : D) (env : Lo) : par3 i j l [x, y, z] env = some (((env.set i (some x)).set j (some y)).set l (some z)) := rfl
@[simp] theorem u_mkTup (ds : List D) (st : Store) : mkTup ds st = if ds.length ≤ sizeLine then some (.tup ds) else none := rfl
@[simp] theorem u_mkLst (ds : List D) (st : Store) : mkLst ds st = if ds.length ≤ sizeLine then some (.lst ds) else none := rfl
@[simp] theorem u_sFor (fi : FI) (tg : FG) (body : FS) (env : Lo) (st : Store) : sFor fi tg body env st = (fi env st).bind fun p => loopS tg body p.1 env p.2 := rfl
@[simp] theorem u_sForG (fi : FIg) (tg : FG) (body : FS) (env : Lo) (st : Store) : sForG fi tg body env st = (fi env st).bind fun p => loopSG p.2.1 tg body p.1 env p.2.2 := rfl
@[simp] theorem u_iOf (a : D → Option (List D)) (f : F) (env : Lo) (st : Store) : iOf a f env st = (f env st).bind fun p => (a p.1).map fun ds => (ds, p.2) := rfl
@[simp] theorem u_asL (ds : List D) : asL (.lst ds) = some ds := rfl
@[simp] theorem u_asT (ds : List D) : asT (.tup ds) = some ds := rfl
@[simp] theorem u_iOfA (a : List D → Option (List D)) (f : FA) (env : Lo) (st : Store) : iOfA a f env st = (f env st).bind fun p => (a p.1).map fun ds => (ds, p.2) := rfl
@[simp] theorem u_fComp (fi : FI) (is : List Nat) (bd : FB) (t : FT) (f : F) (env : Lo) (st : Store) : fComp fi is bd t f env st = (fi env st).bind fun p => (loopC is bd t f p.1 (wipeL env is) p.2).bind fun q => if q.1.length ≤ sizeLine then some (.lst q.1, q.2) else none := rfl
@[simp] theorem u_fCompG (fi : FIg) (is : List Nat) (bd : FB) (t : FT) (f : F) (env : Lo) (st : Store) : fCompG fi is bd t f env st = (fi env st).bind fun p => (loopCG p.2.1 is bd t f p.1 (wipeL env is) p.2.2).bind fun q => if q.1.length ≤ sizeLine then some (.lst q.1, q.2) else none := rfl
@[simp] theorem u_wipe0 (env : Lo) : wipeL env [] = env := rfl
@[simp] theorem u_wipe1 (env : Lo) (i : Nat) (is : List Nat) : wipeL env (i :: is) = (wipeL env is).set i none := rfl
@[simp] theorem u_setL0 {α : Type} (vs : List α) (env : List (Option α)) : setL [] vs env = env := rfl
@[simp] theorem u_setL1 {α : Type} (i : Nat) (is : List Nat) (v : α) (vs : List α) (env : List (Option α)) : setL (i :: is) (v :: vs) env = setL is vs (env.set i (some v)) := rfl
@[simp] theorem u_b1 (d : D) : b1 d = some [d] := rfl
@[simp] theorem u_bTup (n : Nat) (c : List D → Option (List D)) (ds : List D) : bTup n c (.tup ds) = if ds.length = n then c ds else none := rfl
@[simp] theorem u_bCons (b : FB) (c : List D → Option (List D)) (d : D) (r : List D) : bCons b c (d :: r) = (b d).bind fun x => (c r).map fun y => x ++ y := rfl
@[simp] theorem u_bNil : bNil [] = some [] := rfl
@[simp] theorem u_tTrue (env : Lo) (st : Store) : tTrue env st = some (true, st) := rfl
@[simp] theorem u_bTupleL (xs : List D) (st : Store) : bTuple [.lst xs] st = some (.tup xs) := rfl
@[simp] theorem u_bTupleT (xs : List D) (st : Store) : bTuple [.tup xs] st = some (.tup xs) := rfl
@[simp] theorem u_bTupleR (n : Nat) (st : Store) : bTuple [.ref n] st = match st[n]? with | some (.lst xs) => some (.tup xs) | _ => none := rfl
@[simp] theorem u_lenL (xs : List D) (st : Store) : bLen [.lst xs] st = some (.int xs.length) := rfl
@[simp] theorem u_lenT (xs : List D) (st : Store) : bLen [.tup xs] st = some (.int xs.length) := rfl
theorem len_ref {n : Nat} {st : Store} {xs : List D} (h : st[n]? = some (.lst xs)) : bLen [.ref n] st = some (.int xs.length) := by simp [bLen, lenL, lenK, h]
@[simp] theorem u_fNewL (fa : FA) (env : Lo) (st : Store) : fNewL fa env st = (fa env st).bind fun p => if p.1.length ≤ sizeLine then some (.ref p.2.length, p.2 ++ [.lst p.1]) else none := rfl
@[simp] theorem u_addI (a b : Int) : opAdd (.int a) (.int b) = some (.int (a + b)) := opAdd_int a b
@[simp] theorem u_subI (a b : Int) : subI (.int a) (.int b) = some (.int (a - b)) := subI_int a b
@[simp] theorem u_ltI (a b : Int) : opLt (.int a) (.int b) = some (.bl (decide (a < b))) := opLt_int a b
@[simp] theorem u_leI (a b : Int) : opLe (.int a) (.int b) = some (.bl (decide (a ≤ b))) := opLe_int a b
@[simp] theorem u_gtI (a b : Int) : opGt (.int a) (.int b) = some (.bl (decide (b < a))) := opGt_int a b
@[simp] theorem u_geI (a b : Int) : opGe (.int a) (.int b) = some (.bl (decide (b ≤ a))) := opGe_int a b
@[simp] theorem sl0 : 0 ≤ sizeLine := Nat.zero_le _
@[simp] theorem sl1 : 1 ≤ sizeLine := by decide
@[simp] theorem sl2 : 2 ≤ sizeLine := by decide
@[simp] theorem sl3 : 3 ≤ sizeLine := by decide
@[simp] theorem sl4 : 4 ≤ sizeLine := by decide
@[simp] theorem sl5 : 5 ≤ sizeLine := by decide
@[simp] theorem sl6 : 6 ≤ sizeLine := by decide
@[simp] theorem sl7 : 7 ≤ sizeLine := by decide
@[simp] theorem sl8 : 8 ≤ sizeLine := by decide
@[simp] theorem sl9 : 9 ≤ sizeLine := by decide
@[simp] theorem sl10 : 10 ≤ sizeLine := by decide
theorem sl_of {n : Nat} (h : n ≤ 1000000) : n ≤ sizeLine := Nat.le_trans h (by decide)
/-! data whose repr goes through -/
theorem okL_all : ∀ {ds : List D}, (∀ d ∈ ds, okD d = true) → okL ds = true
  | [], _ => rfl
  | d :: ds, h => by
    show (okD d && okL ds) = true
    rw [h d List.mem_cons_self, okL_all fun x hx => h x (List.mem_cons_of_mem _ hx)]; rfl
theorem wL_all {m : Nat} : ∀ {ds : List D}, (∀ d ∈ ds, wD d ≤ m) → wL ds ≤ ds.length * (m + 1)
  | [], _ => by simp [wL]
  | d :: ds, h => by
    have h1 := h d List.mem_cons_self
    have h2 := wL_all fun x hx => h x (List.mem_cons_of_mem _ hx)
    show wD d + 1 + wL ds ≤ _
    rw [List.length_cons, Nat.succ_mul]
    omega
theorem hL_all {m : Nat} : ∀ {ds : List D}, (∀ d ∈ ds, hD d ≤ m) → hL ds ≤ m
  | [], _ => by simp [hL]
  | d :: ds, h => by
    show max (hD d) (hL ds) ≤ m
    exact Nat.max_le.mpr ⟨h d List.mem_cons_self, hL_all fun x hx => h x (List.mem_cons_of_mem _ hx)⟩
/-- fit for repr: all at once -/
structure Fit (d : D) (h w : Nat) : Prop where
  ok : okD d = true
  hd : hD d ≤ h
  wd : wD d ≤ w
theorem Fit.mono {d : D} {h w h' w' : Nat} (f : Fit d h w) (a : h ≤ h') (b : w ≤ w') : Fit d h' w' := ⟨f.ok, Nat.le_trans f.hd a, Nat.le_trans f.wd b⟩
structure FitL (ds : List D) (h w : Nat) : Prop where
  ok : okL ds = true
  hd : hL ds ≤ h
  wd : wL ds ≤ w
theorem FitL.nil : FitL [] 0 0 := ⟨rfl, Nat.le_refl _, Nat.le_refl _⟩
theorem FitL.cons {d : D} {ds : List D} {h1 h2 w1 w2 : Nat} (a : Fit d h1 w1) (b : FitL ds h2 w2) : FitL (d :: ds) (max h1 h2) (w1 + 1 + w2) :=
  ⟨by show (okD d && okL ds) = true; rw [a.ok, b.ok]; rfl, Nat.max_le.mpr ⟨Nat.le_trans a.hd (Nat.le_max_left _ _), Nat.le_trans b.hd (Nat.le_max_right _ _)⟩, Nat.add_le_add (Nat.add_le_add a.wd (Nat.le_refl 1)) b.wd⟩
theorem FitL.all {ds : List D} {h w : Nat} (a : ∀ d ∈ ds, Fit d h w) : FitL ds h (ds.length * (w + 1)) := ⟨okL_all fun d hd => (a d hd).ok, hL_all fun d hd => (a d hd).hd, wL_all fun d hd => (a d hd).wd⟩
theorem FitL.mono {ds : List D} {h w h' w' : Nat} (f : FitL ds h w) (a : h ≤ h') (b : w ≤ w') : FitL ds h' w' := ⟨f.ok, Nat.le_trans f.hd a, Nat.le_trans f.wd b⟩
theorem FitL.append {ds es : List D} {h1 h2 w1 w2 : Nat} (a : FitL ds h1 w1) (b : FitL es h2 w2) : FitL (ds ++ es) (max h1 h2) (w1 + w2) := by
  induction ds generalizing w1 with
  | nil => exact b.mono (Nat.le_max_right _ _) (Nat.le_add_left _ _)
  | cons d ds ih =>
    obtain ⟨o1, o2⟩ := Bool.and_eq_true_iff.mp (show (okD d && okL ds) = true from a.ok)
    have hh := Nat.max_le.mp (show max (hD d) (hL ds) ≤ h1 from a.hd)
    have ww : wD d + 1 + wL ds ≤ w1 := a.wd
    have := ih (w1 := wL ds) ⟨o2, hh.2, Nat.le_refl _⟩
    exact ⟨by show (okD d && okL (ds ++ es)) = true; rw [o1, this.ok]; rfl, Nat.max_le.mpr ⟨Nat.le_trans hh.1 (Nat.le_max_left _ _), this.hd⟩, by
      have := this.wd
      show wD d + 1 + wL (ds ++ es) ≤ _
      omega⟩
theorem Fit.tup {ds : List D} {h w : Nat} (f : FitL ds h w) : Fit (.tup ds) (h + 1) w := ⟨f.ok, Nat.succ_le_succ f.hd, f.wd⟩
theorem Fit.lst {ds : List D} {h w : Nat} (f : FitL ds h w) : Fit (.lst ds) (h + 1) w := ⟨f.ok, Nat.succ_le_succ f.hd, f.wd⟩
theorem Fit.non : Fit .non 0 0 := ⟨rfl, Nat.le_refl _, Nat.le_refl _⟩
theorem Fit.bl (b : Bool) : Fit (.bl b) 0 0 := ⟨rfl, Nat.le_refl _, Nat.le_refl _⟩
theorem Fit.int {i : Int} (h : -1000000000000000 < i ∧ i < 1000000000000000) : Fit (.int i) 0 210 := by
  refine ⟨decide_eq_true (show i.natAbs < 10 ^ 62 from ?_), Nat.le_refl _, Nat.le_refl _⟩
  have : (1000000000000000 : Nat) ≤ 10 ^ 62 := by decide
  omega
theorem Fit.str {n : Nat} {x : Str} (h : GS n x) : Fit (.str x) 0 n := ⟨List.all_eq_true.mpr fun c hc => decide_eq_true (h.2 c hc), Nat.le_refl _, h.1⟩
theorem Fit.repr {d : D} {h w : Nat} (f : Fit d h w) (l : h ≤ 64) (m : w ≤ 200000) : ∃ x, ∀ st, bReprA [d] st = some (.str x) := repr_any f.ok (Nat.le_trans f.hd l) (Nat.le_trans f.wd m)
/-- a comprehension over data that are images -/
theorem loopC_over {α : Type} {is : List Nat} {bd : FB} {f : F} {φ ψ : α → D} {env : Lo} {st : Store} : ∀ {l : List α}, (∀ x ∈ l, ∃ vs, bd (φ x) = some vs ∧ f (setL is vs env) st = some (ψ x, st)) → loopC is bd tTrue f (l.map φ) env st = some (l.map ψ, st)
  | [], _ => rfl
  | x :: l, h => by
    obtain ⟨ws, hb, hf⟩ := h x List.mem_cons_self
    have := loopC_over (l := l) fun d hd => h d (List.mem_cons_of_mem _ hd)
    simp [loopC, hb, tTrue, hf, this]
/-! one statement behind the other -/
theorem seq_step {g h : FS} {env e1 : Lo} {st s1 : Store} (x : g env st = some (.nx, e1, s1)) : sSeq g h env st = h e1 s1 := by rw [u_sSeq, x]; rfl
theorem for_step {fi : FI} {tg : FG} {body : FS} {env : Lo} {st s1 : Store} {ds : List D} (x : fi env st = some (ds, s1)) : sFor fi tg body env st = loopS tg body ds env s1 := by rw [u_sFor, x]; rfl
/-! ints looked for among ints -/
theorem anyF_ints {a : Int} : ∀ ns : List Int, anyF (.int a) (ns.map D.int) = some (ns.contains a)
  | [] => rfl
  | n :: ns => by
    have ih := anyF_ints (a := a) ns
    simp [anyF, eqF, ih]
    by_cases e : n = a
    · simp [e]
    · have e' : ¬ a = n := fun z => e z.symm
      simp [e, e']
theorem inSeq_ints (neg : Bool) (a : Int) (ns : List Int) : inSeq neg (.int a) (.lst (ns.map .int)) = some (.bl (if neg then !ns.contains a else ns.contains a)) := by
  simp [inSeq, flatD, anyF_ints]
/-! the tape's frame, the store growing -/
theorem Tp.app {st : Store} {n : Nat} (t : Tp st n) (o : Ob) : Tp (st ++ [o]) n := by
  obtain ⟨a, b, h, x⟩ := t.at_
  exact ⟨a, b, by rw [List.getElem?_append_left t.lt]; exact h, x⟩
theorem Fr.app {n : Nat} {st : Store} (o : Ob) : Fr n st (st ++ [o]) := ⟨by simp, fun m _ h => by rw [List.getElem?_append_left h]⟩
theorem get_app {st : Store} {o : Ob} : (st ++ [o])[st.length]? = some o := by simp
theorem Tp.setNe {st : Store} {n k : Nat} (t : Tp st n) (h : k ≠ n) (o : Ob) : Tp (st.set k o) n := by
  obtain ⟨a, b, e, x⟩ := t.at_
  exact ⟨a, b, by rw [List.getElem?_set_ne h]; exact e, x⟩
end DL
namespace LW
open PySem PySem.Spec PyProof.Rows L2 DL TL
/-! views drawn -/
def vOrd (o : List (Nat × Bool)) : List D := o.map fun p => .tup [.int p.1, .bl p.2]
def vD (c : C) (o : List (Nat × Bool)) (sh : List Nat) : D := .tup [c.d, .tup (vOrd o), .tup (sh.map fun n : Nat => .int n)]
structure VOk (w : Nat) (c : C) (o : List (Nat × Bool)) (sh : List Nat) : Prop where
  co : c.ok w
  ch : c.ht ≤ 5
  ol : o.length ≤ 4
  oc : ∀ p ∈ o, p.1 < w
  sc : ∀ n ∈ sh, n < w
  sl : sh.length ≤ w
theorem loopC_pick {is : List Nat} {bd : FB} {t : FT} {f : F} {n : Nat} {P : D → Prop} {env : Lo} : ∀ {ds : List D}, (∀ d ∈ ds, ∃ vs, bd d = some vs ∧ ∀ st, Tp st n → ∃ b v st', t (setL is vs env) st = some (b, st') ∧ (b = true → f (setL is vs env) st' = some (v, st') ∧ P v) ∧ Tp st' n ∧ Fr n st st' ∧ st'.length = st.length) →
    ∀ {st : Store}, Tp st n → ∃ vs st', loopC is bd t f ds env st = some (vs, st') ∧ vs.length ≤ ds.length ∧ (∀ v ∈ vs, P v) ∧ Tp st' n ∧ Fr n st st' ∧ st'.length = st.length
  | [], _, st, tp => ⟨[], st, rfl, Nat.le_refl _, fun _ h => (by cases h), tp, .refl _ _, rfl⟩
  | d :: ds, h, st, tp => by
    obtain ⟨ws, hb, h1⟩ := h d List.mem_cons_self
    obtain ⟨b, v, s1, e1, e2, t1, f1, l1⟩ := h1 st tp
    obtain ⟨vs, s2, g1, g2, g3, g4, g5, g6⟩ := loopC_pick (fun d hd => h d (List.mem_cons_of_mem _ hd)) t1
    cases b with
    | false => exact ⟨vs, s2, by simp [loopC, hb, e1, g1], Nat.le_succ_of_le g2, g3, g4, f1.trans g5, by rw [g6, l1]⟩
    | true =>
      obtain ⟨e3, pv⟩ := e2 rfl
      exact ⟨v :: vs, s2, by simp [loopC, hb, e1, e3, g1], Nat.succ_le_succ g2, fun z hz => (List.mem_cons.mp hz).elim (fun y => y ▸ pv) (g3 z), g4, f1.trans g5, by rw [g6, l1]⟩
theorem nats_of : ∀ {vs : List D} {w : Nat}, (∀ v ∈ vs, ∃ k : Nat, v = .int k ∧ k < w) → ∃ sh : List Nat, vs = sh.map (fun n : Nat => D.int n) ∧ ∀ k ∈ sh, k < w
  | [], _, _ => ⟨[], rfl, fun _ h => by cases h⟩
  | v :: vs, w, h => by
    obtain ⟨k, rfl, hk⟩ := h v List.mem_cons_self
    obtain ⟨sh, rfl, hs⟩ := nats_of fun u hu => h u (List.mem_cons_of_mem _ hu)
    exact ⟨k :: sh, rfl, fun j hj => (List.mem_cons.mp hj).elim (fun e => e ▸ hk) (hs j)⟩
noncomputable abbrev bOrdL : FS := (sSeq (sAsg (fCall m__law_pick (aCons (fVar 0) (aCons (fVar 1) aNil))) (gN 5)) (sIf (fAndT (fTest (fOp opLt (fMk bLen (aCons (fVar 3) aNil)) (fC (.int 4)))) (fTest (fOp (inSeq true) (fVar 5) (fCompG (iRefL (fVar 3)) [7] b1 tTrue (fSub (fVar 7) (fC (.int 0))))))) (sDrop (fApp (fVar 3) (fMk mkTup (aCons (fVar 5) (aCons (fOp opEq (fCall m__law_pick (aCons (fVar 0) (aCons (fC (.int 2)) aNil))) (fC (.int 0))) aNil))))) sNil))
theorem ordL_ok {x2 x4 x5 x6 x7 : Option D} {n k : Nat} {w : Int} {o : List (Nat × Bool)} {st : Store} (t : Tp st n) (hn : k ≠ n) (h0 : 0 < w) (h1 : w ≤ 10) (hk : st[k]? = some (.lst (vOrd o))) (ol : o.length ≤ 4) (oc : ∀ p ∈ o, p.1 < w.toNat) :
    ∃ st' y5 o', bOrdL [some (.ref n), some (.int w), x2, some (.ref k), x4, x5, x6, x7] st = some (.nx, [some (.ref n), some (.int w), x2, some (.ref k), x4, y5, x6, x7], st') ∧ Tp st' n ∧ st'[k]? = some (.lst (vOrd o')) ∧ o'.length ≤ 4 ∧ (∀ p ∈ o', p.1 < w.toNat) ∧ st'.length = st.length ∧ ∀ m, m ≠ n → m ≠ k → m < st.length → st'[m]? = st[m]? := by
  have kl : k < st.length := (List.getElem?_eq_some_iff.mp hk).1
  obtain ⟨c, s1, g1, c0, c1, t1, f1, l1⟩ := pick_ok t (s := w) h0 (by omega)
  have hk1 : s1[k]? = some (.lst (vOrd o)) := by rw [f1.at_ k hn kl, hk]
  have ln := len_ref hk1
  have vl : (vOrd o).length = o.length := by simp [vOrd]
  have keep0 : ∀ m, m ≠ n → m ≠ k → m < st.length → s1[m]? = st[m]? := fun m a _ b => f1.at_ m a b
  by_cases c4 : o.length < 4
  case neg =>
    have c4' : ¬ ((o.length : Int) < 4) := by omega
    refine ⟨s1, some (.int c), o, ?_, t1, hk1, ol, oc, l1, keep0⟩
    simp [bOrdL, e_pick, g1, ln, vl, c4']
  case pos =>
    have c4' : ((o.length : Int) < 4) := by omega
    have lc := loopCG_map (P := fun s : Store => s[k]? = some (.lst (vOrd o))) (is := [7]) (bd := b1) (f := fSub (fVar 7) (fC (.int 0))) (g := fun d => match d with | .tup (a :: _) => a | _ => .non) (env := [some (.ref n), some (.int w), x2, some (.ref k), x4, some (.int c), x6, none]) (st := s1) hk1 (ds := vOrd o) (fun d hd => by
      obtain ⟨p, _, rfl⟩ := List.mem_map.mp hd
      exact ⟨_, rfl, by simp [ix0]⟩)
    have mp : (vOrd o).map (fun d => match d with | .tup (a :: _) => a | _ => .non) = (o.map fun p => (p.1 : Int)).map D.int := by simp [vOrd, Function.comp_def]
    rw [mp] at lc
    have z : o.length ≤ sizeLine := sl_of (by omega)
    have iq := inSeq_ints true c (o.map fun p => (p.1 : Int))
    by_cases cm : (o.map fun p => (p.1 : Int)).contains c = true
    · refine ⟨s1, some (.int c), o, ?_, t1, hk1, ol, oc, l1, keep0⟩
      rw [cm] at iq
      simp only [bOrdL, u_sSeq, u_sAsg, u_fCall, u_aCons, u_aNil, u_fVar, e_pick, u_gN]
      simp [g1, ln, vl, c4', iRefL, hk1]
      simp at lc iq
      simp [lc, z, iq]
    · simp only [Bool.not_eq_true] at cm
      rw [cm] at iq
      obtain ⟨b, s2, g2, b0, b2, t2, f2, l2⟩ := pick_ok t1 (s := 2) (by decide) (by decide)
      have hk2 : s2[k]? = some (.lst (vOrd o)) := by rw [f2.at_ k hn (by rw [l1]; exact kl), hk1]
      have kl2 : k < s2.length := by rw [l2, l1]; exact kl
      have zl : (vOrd o).length < sizeLine := by rw [vl]; exact Nat.lt_of_lt_of_le c4 (by decide)
      refine ⟨s2.set k (.lst (vOrd o ++ [.tup [.int c, .bl (b == 0)]])), some (.int c), o ++ [(c.toNat, b == 0)], ?_, t2.setNe hn _, ?_, by simp; omega, fun p hp => ?_, by rw [List.length_set, l2, l1], fun m a e d => ?_⟩
      · simp only [bOrdL, u_sSeq, u_sAsg, u_fCall, u_aCons, u_aNil, u_fVar, e_pick, u_gN]
        simp [g1, ln, vl, c4', iRefL, hk1]
        simp at lc iq
        simp [lc, z, iq, fApp, isLs, appAt, hk1, hk2, zl, g2, opEq_int]
      · rw [List.getElem?_set_self kl2]
        have : ((c.toNat : Nat) : Int) = c := Int.toNat_of_nonneg c0
        simp [vOrd, this]
      · rcases List.mem_append.mp hp with hp | hp
        · exact oc p hp
        · rw [List.mem_singleton.mp hp]
          show c.toNat < w.toNat
          omega
      · rw [List.getElem?_set_ne (fun z => e z.symm), f2.at_ m a (by rw [l1]; exact d), f1.at_ m a d]
theorem view_ok {n : Nat} {w : Int} {st : Store} (t : Tp st n) (h0 : 0 < w) (h1 : w ≤ 10) :
    ∃ c o sh st', m__law_view [.ref n, .int w] st = some (vD c o sh, st') ∧ VOk w.toNat c o sh ∧ Tp st' n ∧ Fr n st st' := by
  obtain ⟨r, s1, g1, r0, r2, t1, f1, l1⟩ := pick_ok t (s := 2) (by decide) (by decide)
  -- the condition
  obtain ⟨c, s2, gc, ok, hh, t2, f2, l2⟩ : ∃ c s2, (sIf (fTest (fOp opEq (fCall m__law_pick (aCons (fVar 0) (aCons (fC (.int 2)) aNil))) (fC (.int 0)))) (sAsg (fCall (m__law_condition 5) (aCons (fVar 0) (aCons (fVar 1) (aCons (fC (.int 2)) aNil)))) (gN 2)) sNil) [some (.ref n), some (.int w), some (.tup [.str (Str.ofString "all")]), none, none, none, none, none] st = some (.nx, [some (.ref n), some (.int w), some (C.d c), none, none, none, none, none], s2) ∧ c.ok w.toNat ∧ c.ht ≤ 5 ∧ Tp s2 n ∧ Fr n st s2 ∧ s2.length = st.length := by
    by_cases e : r = 0
    · subst e
      obtain ⟨c, s2, g2, ok, hh, t2, f2, l2⟩ := cond_ok 5 t1 (w := w) (dp := 2) h0 h1 (by decide) (by decide)
      exact ⟨c, s2, by simp [e_pick, g1, opEq_int, g2], ok, hh, t2, f1.trans f2, by rw [l2, l1]⟩
    · have e' : (r == 0) = false := by simp [e]
      exact ⟨.all, s1, by simp [e_pick, g1, opEq_int, e', C.d], trivial, by decide, t1, f1, l1⟩
  -- the order
  have hk : (s2 ++ [Ob.lst []])[s2.length]? = some (.lst (vOrd [])) := get_app
  have kn : s2.length ≠ n := fun z => by have := t2.lt; omega
  obtain ⟨j, s4, g4, j0, j7, t4, f4, l4⟩ := pick_ok (t2.app (.lst [])) (s := 7) (by decide) (by decide)
  have hk4 : s4[s2.length]? = some (.lst (vOrd [])) := by rw [f4.at_ _ kn (by simp), hk]
  have len4 : s4.length = s2.length + 1 := by rw [l4]; simp
  obtain ⟨e5, s5, g5, ⟨y4, y5, _, he5, _⟩, t5, ⟨o, hk5, ol, oc⟩, l5, fr5⟩ := loopS_inv (tg := gN 4) (body := bOrdL) (fun env s => (∃ y4 y5 o, env = [some (.ref n), some (.int w), some (C.d c), some (.ref s2.length), y4, y5, none, none] ∧ True) ∧ Tp s n ∧ (∃ o, s[s2.length]? = some (.lst (vOrd o)) ∧ o.length ≤ 4 ∧ ∀ p ∈ o, p.1 < w.toNat) ∧ s.length = s2.length + 1 ∧ ∀ m, m ≠ n → m < s2.length → s[m]? = s2[m]?) (ds := rg 0 j) (fun d hd env s i => by
    obtain ⟨⟨y4, y5, o', rfl, _⟩, tp, ⟨o, ho, ol, oc⟩, ln, fr⟩ := i
    obtain ⟨s', z5, o2, b1, b2, b3, b4, b5, b6, b7⟩ := ordL_ok (x2 := some (C.d c)) (x4 := some d) (x5 := y5) (x6 := none) (x7 := none) tp kn h0 h1 ho ol oc
    exact ⟨[some (.ref n), some (.int w), some (C.d c), some (.ref s2.length), some d, y5, none, none], by simp, .nx, _, s', b1, .inl rfl, ⟨_, _, o2, rfl, trivial⟩, b2, ⟨o2, b3, b4, b5⟩, by rw [b6, ln], fun m a b => by rw [b7 m a (by omega) (by omega), fr m a b]⟩)
    (env := [some (.ref n), some (.int w), some (C.d c), some (.ref s2.length), none, none, none, none]) (st := s4) ⟨⟨_, _, ([] : List (Nat × Bool)), rfl, trivial⟩, t4, ⟨[], hk4, by simp, fun _ h => by cases h⟩, len4, fun m a b => by rw [f4.at_ m a (by simp; omega), List.getElem?_append_left b]⟩
  subst he5
  -- the shown columns
  obtain ⟨vs, s6, g6, lv, pv, t6, f6, l6⟩ := loopC_pick (is := [5]) (bd := b1) (t := fTest (fOp opGt (fCall m__law_pick (aCons (fVar 0) (aCons (fC (.int 3)) aNil))) (fC (.int 0)))) (f := fVar 5) (n := n) (P := fun v => ∃ k : Nat, v = .int k ∧ k < w.toNat)
    (env := [some (.ref n), some (.int w), some (C.d c), some (.ref s2.length), y4, none, none, none]) (ds := rg 0 w) (fun d hd => by
      obtain ⟨i, rfl, i0, i1⟩ := rg_mem hd
      refine ⟨[.int i], rfl, fun s tp => ?_⟩
      obtain ⟨b, s', q1, q2, q3, q4, q5, q6⟩ := pick_ok tp (s := 3) (by decide) (by decide)
      exact ⟨decide (0 < b), .int i, s', by simp [e_pick, q1], fun _ => ⟨by simp, i.toNat, by rw [Int.toNat_of_nonneg i0], by omega⟩, q4, q5, q6⟩) t5
  obtain ⟨sh, rfl, hsh⟩ := nats_of pv
  rw [rg_len] at lv
  have ra := asR1_ok (n := w) (by omega) (by omega)
  have rj := asR1_ok (n := j) j0 (by omega)
  have zs : sh.length ≤ sizeLine := sl_of (by simp at lv; omega)
  have hk6 : s6[s2.length]? = some (.lst (vOrd o)) := by rw [f6.at_ _ kn (by rw [l5]; omega), hk5]
  refine ⟨c, o, sh, s6, ?_, ⟨ok, hh, ol, oc, hsh, by simp at lv; omega⟩, t6, ⟨by rw [l6, l5, l2]; omega, fun m a b => ?_⟩⟩
  · have q0 : (sAsg (fMk mkTup (aCons (fC (.str (Str.ofString "all"))) aNil)) (gN 2)) [some (.ref n), some (.int w), none, none, none, none, none, none] st = some (.nx, [some (.ref n), some (.int w), some (.tup [.str (Str.ofString "all")]), none, none, none, none, none], st) := by simp
    have q1 : (sAsg (fNewL aNil) (gN 3)) [some (.ref n), some (.int w), some (C.d c), none, none, none, none, none] s2 = some (.nx, [some (.ref n), some (.int w), some (C.d c), some (.ref s2.length), none, none, none, none], s2 ++ [.lst []]) := by simp
    have q2 : (iOfA asR1 (aCons (fCall m__law_pick (aCons (fVar 0) (aCons (fC (.int 7)) aNil))) aNil)) [some (.ref n), some (.int w), some (C.d c), some (.ref s2.length), none, none, none, none] (s2 ++ [.lst []]) = some (rg 0 j, s4) := by simp [e_pick, g4, rj]
    rw [show m__law_view [.ref n, .int w] st = outM (g__law_view [some (.ref n), some (.int w), none, none, none, none, none, none] st) from rfl, g__law_view, seq_step q0, seq_step gc, seq_step q1, seq_step ((for_step q2).trans g5)]
    simp [ra]
    simp [g6, zs, hk6, vD]
  · rw [f6.at_ m a (by rw [l5]; omega), fr5 m a (by rw [l2]; exact b), f2.at_ m a b]
end LW
namespace LW
open PySem PySem.Spec PyProof.Rows L2 DL TL
theorem fit_pv {d : D} (h : pvB d = true) : Fit d 0 210 := by
  cases d with
  | non => exact Fit.non.mono (Nat.le_refl _) (by decide)
  | int i => exact Fit.int (by have := of_decide_eq_true (show decide (-1000000000 ≤ i ∧ i ≤ 1000000000) = true from h); omega)
  | str x => exact (Fit.str (asc_gs h)).mono (Nat.le_refl _) (by decide)
  | _ => cases h
/-! keys -/
def kD (o : List (Nat × Bool)) (vs : List D) (i : Int) : D := .tup ((o.map fun p => atV vs p.1) ++ [.int i])
def shD (sh : List Nat) (vs : List D) : D := .tup (sh.map fun n => atV vs n)
end LW
namespace LW
open PySem PySem.Spec PyProof.Rows L2 DL TL
/-! the place of a value, of a key -/
def plD : D → Bool → D
  | .int i, false => .tup [.int 1, .int i]
  | .int i, true => .tup [.int (-1), .int (-i)]
  | .str x, false => .tup [.int 2, .str x]
  | .str x, true => .tup [.int (-2), .tup ((tl x).map (fun c : Nat => .int (-(c : Int))) ++ [.int 1])]
  | _, _ => .tup [.int 0]
theorem len_tlx (x : Str) : (tl x).length = x.length := (len_tl x).symm
theorem value_place_ok {v : D} (hv : pvB v = true) (d : Bool) (st : Store) : m_value_place [v, .bl d] st = some (plD v d, st) := by
  have k := kp (pv_fv hv) st
  cases v with
  | non => 
    have k' : m_kind_place [.non] st = some (.int 0, st) := k
    cases d <;> simp [m_value_place, g_value_place, k', opIs, orD, isN, isB, DL.isNon, plD]
  | int i =>
    have k' : m_kind_place [.int i] st = some (.int 1, st) := k
    cases d <;> simp [m_value_place, g_value_place, k', opIs, orD, isN, isB, DL.isNon, plD, tyD, isiB]
  | str x =>
    have k' : m_kind_place [.str x] st = some (.int 2, st) := k
    cases d with
    | false => simp [m_value_place, g_value_place, k', opIs, orD, isN, isB, DL.isNon, plD]
    | true =>
      have gx : GS 40 x := asc_gs hv
      have lc := loopC_over (φ := fun c : Nat => D.str ⟨#[c]⟩) (ψ := fun c : Nat => D.int (-(c : Int))) (is := [4]) (bd := b1) (f := fUn negI (fMk bOrd (aCons (fVar 4) aNil))) (env := [some (.str x), some (.bl true), some (.int 2), none, none]) (st := st) (l := tl x) (fun c hc => ⟨[.str ⟨#[c]⟩], rfl, by
        simp [bOrd, show (⟨#[c]⟩ : Str).length = 1 from rfl]⟩)
      have z : (tl x).length ≤ sizeLine := sl_of (by rw [len_tlx]; have := gx.1; omega)
      have z1 : (tl x).length + 1 ≤ sizeLine := sl_of (by rw [len_tlx]; have := gx.1; omega)
      have as : asStr (.str x) = some ((tl x).map fun c : Nat => D.str ⟨#[c]⟩) := rfl
      simp [m_value_place, g_value_place, k', opIs, orD, isN, isB, DL.isNon, plD, tyD, isiB, as]
      have zs : x.cps.size ≤ sizeLine := z
      have zs1 : x.cps.size + 1 ≤ sizeLine := z1
      simp [lc, zs, zs1]
  | _ => cases hv
/-- keys -/
def KD (ks : List D) (i : Int) : D := .tup (ks ++ [.int i])
def kpD (ks : List D) (o : List (Nat × Bool)) (i : Int) : D := .tup ((ks.zip o).map (fun x => plD x.1 x.2.2) ++ [.int i])
theorem pairs2_zip : ∀ {ks : List D} {o : List (Nat × Bool)} (r : List D), ks.length = o.length → pairs2 (ks ++ r) (vOrd o) = (ks.zip o).map fun x => .tup [x.1, .tup [.int x.2.1, .bl x.2.2]]
  | [], [], r, _ => by cases r <;> rfl
  | k :: ks, p :: o, r, h => by
    show D.tup [k, .tup [.int p.1, .bl p.2]] :: pairs2 (ks ++ r) (vOrd o) = _
    rw [pairs2_zip r (Nat.succ.inj h)]
    rfl
  | [], _ :: _, _, h => by cases h
  | _ :: _, [], _, h => by cases h
theorem last_at (ks : List D) (i : Int) : L2.atI (ks ++ [.int i]) (-1) = some (.int i) := by
  unfold L2.atI
  have : ixN (ks.length + 1) (-1) = some ks.length := by
    simp [ixN]
    omega
  simp [this]
theorem key_place_ok {c : C} {o : List (Nat × Bool)} {sh : List Nat} {ks : List D} {i : Int} (st : Store) (hl : ks.length = o.length) (ol : o.length ≤ 4) (hv : ∀ v ∈ ks, pvB v = true) : m_key_place [vD c o sh, KD ks i] st = some (kpD ks o i, st) := by
  have lc := loopC_over (φ := fun x : D × (Nat × Bool) => D.tup [x.1, .tup [.int x.2.1, .bl x.2.2]]) (ψ := fun x => plD x.1 x.2.2) (is := [3, 4, 5]) (bd := bTup 2 (bCons b1 (bCons (bTup 2 (bCons b1 (bCons b1 bNil))) bNil))) (f := fCall m_value_place (aCons (fVar 3) (aCons (fVar 5) aNil))) (env := [some (vD c o sh), some (KD ks i), none, none, none, none]) (st := st) (l := ks.zip o)
    (fun x hx => ⟨[x.1, .int x.2.1, .bl x.2.2], by simp, by simp [value_place_ok (hv x.1 (List.of_mem_zip hx).1)]⟩)
  have zl : (ks.zip o).length ≤ 4 := by rw [List.length_zip]; omega
  have z : (ks.zip o).length ≤ sizeLine := sl_of (by omega)
  have z1 : (ks.zip o).length + 1 ≤ sizeLine := sl_of (by omega)
  have p2 := pairs2_zip (ks := ks) (o := o) [.int i] hl
  have la := last_at ks i
  simp only [vD, KD] at lc ⊢
  simp [m_key_place, g_key_place, ix1, asZip, p2]
  simp at lc z z1
  simp [lc, z, z1, kpD, la]
/-! their data -/
def plP : D → Bool → PyData
  | .int i, false => .tuple [.int 1, .int i]
  | .int i, true => .tuple [.int (-1), .int (-i)]
  | .str x, false => .tuple [.int 2, .str x]
  | .str x, true => .tuple [.int (-2), .tuple ((tl x).map (fun c : Nat => .int (-(c : Int))) ++ [.int 1])]
  | _, _ => .tuple [.int 0]
theorem toPyL_ints {α : Type} (f : α → Int) : ∀ l : List α, toPyL (l.map fun c => D.int (f c)) = some (l.map fun c => PyData.int (f c))
  | [] => rfl
  | c :: l => by
    have ih := toPyL_ints f l
    simp [toPyL, toPy, ih]
theorem toPyL_app : ∀ {xs ys : List D} {ps qs : List PyData}, toPyL xs = some ps → toPyL ys = some qs → toPyL (xs ++ ys) = some (ps ++ qs)
  | [], _, _, _, h1, h2 => by cases h1; exact h2
  | x :: xs, ys, ps, qs, h1, h2 => by
    obtain ⟨p, h3, h4⟩ := Option.bind_eq_some_iff.mp (show ((toPy x).bind fun p => (toPyL xs).map fun q => p :: q) = some ps from h1)
    obtain ⟨q, h5, h6⟩ := Option.map_eq_some_iff.mp h4
    subst h6
    have := toPyL_app h5 h2
    show ((toPy x).bind fun p => (toPyL (xs ++ ys)).map fun q => p :: q) = _
    rw [h3, this]; rfl
theorem pl_py {v : D} (hv : pvB v = true) (d : Bool) : toPy (plD v d) = some (plP v d) := by
  cases v with
  | non => cases d <;> rfl
  | int i => cases d <;> rfl
  | str x =>
    cases d with
    | false => rfl
    | true =>
      have h := toPyL_app (toPyL_ints (fun c : Nat => -(c : Int)) (tl x)) (show toPyL [.int 1] = some [.int 1] from rfl)
      simp [plD, plP, toPy, toPyL, h]
  | _ => cases hv
theorem pl_sm {v : D} (hv : pvB v = true) (d : Bool) : Sm 2 3000 (plD v d) := by
  cases v with
  | non => cases d <;> exact (Sm.tup (SmL.cons (Sm.int (i := 0) (by decide)) SmL.nil)).mono (by decide) (by decide)
  | int i =>
    have hi := of_decide_eq_true (show decide (-1000000000 ≤ i ∧ i ≤ 1000000000) = true from hv)
    cases d with
    | false => exact (Sm.tup (SmL.cons (Sm.int (i := 1) (by decide)) (SmL.cons (Sm.int (i := i) (by omega)) SmL.nil))).mono (by decide) (by decide)
    | true => exact (Sm.tup (SmL.cons (Sm.int (i := -1) (by decide)) (SmL.cons (Sm.int (i := -i) (by omega)) SmL.nil))).mono (by decide) (by decide)
  | str x =>
    have gx : GS 40 x := asc_gs hv
    cases d with
    | false => exact (Sm.tup (SmL.cons (Sm.int (i := 2) (by decide)) (SmL.cons (Sm.str gx) SmL.nil))).mono (by decide) (by decide)
    | true =>
      have h1 : SmL 0 (((tl x).map (fun c : Nat => D.int (-(c : Int))) ++ [D.int 1]).length * 41) ((tl x).map (fun c : Nat => D.int (-(c : Int))) ++ [D.int 1]) := SmL.all fun y hy => by
        rcases List.mem_append.mp hy with hy | hy
        · obtain ⟨c, hc, rfl⟩ := List.mem_map.mp hy
          have := gx.2 c hc
          exact Sm.int (by omega)
        · rw [List.mem_singleton.mp hy]
          exact Sm.int (by decide)
      have l1 : ((tl x).map (fun c : Nat => D.int (-(c : Int))) ++ [D.int 1]).length * 41 ≤ 41 * 41 := Nat.mul_le_mul_right _ (by have h : x.cps.size ≤ 40 := gx.1; simp; omega)
      exact (Sm.tup (SmL.cons ((Sm.int (i := -2) (by decide)).mono (Nat.zero_le 1) (Nat.le_refl _)) (SmL.cons (Sm.tup (h1.mono (Nat.le_refl _) l1)) (SmL.nil.mono (Nat.zero_le 1) (Nat.le_refl _))))).mono (by decide) (by decide)
  | _ => cases hv
/-! equal places, places in order -/
theorem codes_eqv : ∀ as bs : List Nat, PyData.eqvAll (as.map (fun c : Nat => PyData.int (-(c : Int))) ++ [.int 1]) (bs.map (fun c : Nat => PyData.int (-(c : Int))) ++ [.int 1]) = decide (as = bs)
  | [], [] => by simp [PyData.eqvAll, PyData.eqv]
  | [], b :: bs => by
    have : ¬ (1 : Int) = -(b : Int) := by omega
    simp [PyData.eqvAll, PyData.eqv, this]
  | a :: as, [] => by
    have : ¬ -(a : Int) = (1 : Int) := by omega
    simp [PyData.eqvAll, PyData.eqv, this]
  | a :: as, b :: bs => by
    have ih := codes_eqv as bs
    have e : (-(a : Int) == -(b : Int)) = decide (a = b) := by
      by_cases z : a = b
      · simp [z]
      · have : ¬ -(a : Int) = -(b : Int) := by omega
        simp [z, this]
    simp only [List.map_cons, List.cons_append, PyData.eqvAll, PyData.eqv, ih, e]
    by_cases z : a = b <;> simp [z]
theorem codes_lt : ∀ as bs : List Nat, pyLtL (as.map (fun c : Nat => PyData.int (-(c : Int))) ++ [.int 1]) (bs.map (fun c : Nat => PyData.int (-(c : Int))) ++ [.int 1]) = some (decide (bs < as))
  | [], [] => by simp [pyLtL, PyData.eqv]
  | [], b :: bs => by
    have h1 : ¬ (1 : Int) = -(b : Int) := by omega
    have h2 : ¬ (1 : Int) < -(b : Int) := by omega
    simp [pyLtL, PyData.eqv, h1, pyLt, h2]
  | a :: as, [] => by
    have h1 : ¬ -(a : Int) = (1 : Int) := by omega
    have h2 : -(a : Int) < (1 : Int) := by omega
    simp [pyLtL, PyData.eqv, h1, pyLt, h2]
  | a :: as, b :: bs => by
    have ih := codes_lt as bs
    simp only [List.map_cons, List.cons_append, pyLtL, PyData.eqv]
    by_cases z : a = b
    · subst z
      simp [ih, List.cons_lt_cons_iff]
    · have h1 : ¬ -(a : Int) = -(b : Int) := by omega
      have h2 : (-(a : Int) < -(b : Int)) ↔ b < a := by omega
      have h3 : ¬ b = a := fun y => z y.symm
      simp [h1, pyLt, h2, List.cons_lt_cons_iff, h3]
theorem pl_eqv {v u : D} (hv : pvB v = true) (hu : pvB u = true) (d : Bool) : PyData.eqv (plP v d) (plP u d) = vEq v u := by
  cases v <;> cases u <;> first
    | (cases hv; done)
    | (cases hu; done)
    | skip
  · cases d <;> simp [plP, PyData.eqv, PyData.eqvAll, vEq]
  · cases d <;> simp [plP, PyData.eqv, PyData.eqvAll, vEq]
  · cases d <;> simp [plP, PyData.eqv, PyData.eqvAll, vEq]
  · cases d <;> simp [plP, PyData.eqv, PyData.eqvAll, vEq]
  · rename_i i j
    cases d with
    | false => simp [plP, PyData.eqv, PyData.eqvAll, vEq]
    | true =>
      simp [plP, PyData.eqv, PyData.eqvAll, vEq]
      by_cases z : i = j
      · simp [z]
      · have : ¬ -i = -j := by omega
        rw [show (-i == -j) = false from beq_eq_false_iff_ne.mpr this, show (i == j) = false from beq_eq_false_iff_ne.mpr z]
  · cases d <;> simp [plP, PyData.eqv, PyData.eqvAll, vEq]
  · cases d <;> simp [plP, PyData.eqv, PyData.eqvAll, vEq]
  · cases d <;> simp [plP, PyData.eqv, PyData.eqvAll, vEq]
  · rename_i x y
    cases d with
    | false => simp [plP, PyData.eqv, PyData.eqvAll, vEq]
    | true =>
      have ce := codes_eqv (tl x) (tl y)
      simp [plP, PyData.eqv, PyData.eqvAll, vEq]
      rw [ce]
      by_cases z : x = y
      · simp [z]
      · have : ¬ tl x = tl y := fun q => z (ext_tl q)
        simp [z, this]
theorem pl_lt {v u : D} (hv : pvB v = true) (hu : pvB u = true) (d : Bool) (ne : vEq v u = false) : pyLt (plP v d) (plP u d) = some (decide (cmpV v u < 0) != d) := by
  cases v <;> cases u <;> first
    | (cases hv; done)
    | (cases hu; done)
    | skip
  · cases ne
  · cases d <;> simp [plP, pyLt, pyLtL, PyData.eqv, cmpV, vEq, kindP]
  · cases d <;> simp [plP, pyLt, pyLtL, PyData.eqv, cmpV, vEq, kindP]
  · cases d <;> simp [plP, pyLt, pyLtL, PyData.eqv, cmpV, vEq, kindP]
  · rename_i i j
    have z : ¬ i = j := by simpa [vEq] using ne
    cases d with
    | false => by_cases l : i < j <;> simp [plP, pyLt, pyLtL, PyData.eqv, cmpV, vEq, kindP, vLt, z, l]
    | true =>
      have z' : ¬ -i = -j := by omega
      by_cases l : i < j
      · have l' : ¬ -i < -j := by omega
        simp [plP, pyLt, pyLtL, PyData.eqv, cmpV, vEq, kindP, vLt, z, z', l, l']
      · have l' : -i < -j := by omega
        simp [plP, pyLt, pyLtL, PyData.eqv, cmpV, vEq, kindP, vLt, z, z', l, l']
  · cases d <;> simp [plP, pyLt, pyLtL, PyData.eqv, cmpV, vEq, kindP]
  · cases d <;> simp [plP, pyLt, pyLtL, PyData.eqv, cmpV, vEq, kindP]
  · cases d <;> simp [plP, pyLt, pyLtL, PyData.eqv, cmpV, vEq, kindP]
  · rename_i x y
    have z : ¬ x = y := by simpa [vEq] using ne
    have zt : ¬ tl x = tl y := fun q => z (ext_tl q)
    cases d with
    | false => by_cases l : tl x < tl y <;> simp [plP, pyLt, pyLtL, PyData.eqv, cmpV, vEq, kindP, vLt, z, l, show x.cps.toList = tl x from rfl, show y.cps.toList = tl y from rfl]
    | true =>
      have ce := codes_eqv (tl x) (tl y)
      have cl := codes_lt (tl x) (tl y)
      have tri : tl x < tl y ↔ ¬ tl y < tl x := ⟨fun a b => absurd b (List.lt_asymm a), fun h => (by
        rcases Classical.em (tl x < tl y) with q | q
        · exact q
        · exact absurd (List.le_antisymm (List.not_lt.mp h) (List.not_lt.mp q)) zt)⟩
      by_cases l : tl x < tl y
      · have l' := tri.mp l
        simp [plP, pyLt, pyLtL, PyData.eqv, cmpV, vEq, kindP, vLt, z, l, ce, zt, cl, l']
      · have l' : tl y < tl x := Classical.byContradiction fun q => l (tri.mpr q)
        simp [plP, pyLt, pyLtL, PyData.eqv, cmpV, vEq, kindP, vLt, z, l, ce, zt, cl, l']
end LW
namespace LW
open PySem PySem.Spec PyProof.Rows L2 DL TL
/-! the order of keys -/
/-- by the places of (descending, left, right), then by the ids -/
def sgn : List (Bool × D × D) → Int → Int → Int
  | [], i, j => (if j < i then 1 else 0) - (if i < j then 1 else 0)
  | (d, a, b) :: r, i, j => if vEq a b = true then sgn r i j else if (decide (cmpV a b < 0) == d) = true then 1 else -1
def tri (ks ls : List D) (o : List (Nat × Bool)) : List (Bool × D × D) := ((ks.zip ls).zip o).map fun x => (x.2.2, x.1.1, x.1.2)
theorem tri_cons (a b : D) (ks ls : List D) (p : Nat × Bool) (o : List (Nat × Bool)) : tri (a :: ks) (b :: ls) (p :: o) = (p.2, a, b) :: tri ks ls o := rfl
def plL (ks : List D) (o : List (Nat × Bool)) : List PyData := (ks.zip o).map fun x => plP x.1 x.2.2
theorem plL_cons (a : D) (ks : List D) (p : Nat × Bool) (o : List (Nat × Bool)) : plL (a :: ks) (p :: o) = plP a p.2 :: plL ks o := rfl
theorem sgn_eqv : ∀ {ks ls : List D} {o : List (Nat × Bool)} (i j : Int), ks.length = o.length → ls.length = o.length → (∀ v ∈ ks, pvB v = true) → (∀ v ∈ ls, pvB v = true) →
    PyData.eqvAll (plL ks o ++ [.int i]) (plL ls o ++ [.int j]) = decide (sgn (tri ks ls o) i j = 0) ∧
    (sgn (tri ks ls o) i j ≠ 0 → pyLtL (plL ks o ++ [.int i]) (plL ls o ++ [.int j]) = some (decide (sgn (tri ks ls o) i j = -1))) ∧ (sgn (tri ks ls o) i j = 0 ∨ sgn (tri ks ls o) i j = 1 ∨ sgn (tri ks ls o) i j = -1)
  | [], [], [], i, j, _, _, _, _ => by
    show PyData.eqvAll [.int i] [.int j] = decide (sgn [] i j = 0) ∧ (sgn [] i j ≠ 0 → pyLtL [.int i] [.int j] = some (decide (sgn [] i j = -1))) ∧ (sgn [] i j = 0 ∨ sgn [] i j = 1 ∨ sgn [] i j = -1)
    by_cases e : i = j
    · subst e
      simp [sgn, PyData.eqvAll, PyData.eqv]
    · by_cases l : i < j
      · have l2 : ¬ j < i := by omega
        simp [sgn, PyData.eqvAll, PyData.eqv, pyLtL, pyLt, e, l, l2]
      · have l2 : j < i := by omega
        simp [sgn, PyData.eqvAll, PyData.eqv, pyLtL, pyLt, e, l, l2]
  | a :: ks, b :: ls, p :: o, i, j, h1, h2, hk, hl => by
    obtain ⟨g1, g2, g3⟩ := sgn_eqv (ks := ks) (ls := ls) (o := o) i j (Nat.succ.inj h1) (Nat.succ.inj h2) (fun v hv => hk v (List.mem_cons_of_mem _ hv)) fun v hv => hl v (List.mem_cons_of_mem _ hv)
    have ha := hk a List.mem_cons_self
    have hb := hl b List.mem_cons_self
    have e1 := pl_eqv ha hb p.2
    rw [tri_cons, plL_cons, plL_cons, List.cons_append, List.cons_append]
    by_cases e : vEq a b = true
    · have s : sgn ((p.2, a, b) :: tri ks ls o) i j = sgn (tri ks ls o) i j := if_pos e
      rw [s, PyData.eqvAll, e1, e, g1, pyLtL_cons, e1, if_pos e]
      exact ⟨Bool.true_and _, g2, g3⟩
    · simp only [Bool.not_eq_true] at e
      have e2 := pl_lt ha hb p.2 e
      have s : sgn ((p.2, a, b) :: tri ks ls o) i j = if (decide (cmpV a b < 0) == p.2) = true then 1 else -1 := if_neg (by rw [e]; exact Bool.false_ne_true)
      rw [s, PyData.eqvAll, e1, e, pyLtL_cons, e1, e, if_neg Bool.false_ne_true, e2]
      cases q : decide (cmpV a b < 0) <;> cases p.2 <;> simp
  | [], [], _ :: _, _, _, h, _, _, _ => by cases h
  | [], _ :: _, [], _, _, _, h, _, _ => by cases h
  | [], _ :: _, _ :: _, _, _, h, _, _, _ => by cases h
  | _ :: _, [], [], _, _, h, _, _, _ => by cases h
  | _ :: _, [], _ :: _, _, _, _, h, _, _ => by cases h
  | _ :: _, _ :: _, [], _, _, h, _, _, _ => by cases h
/-- a key as it is drawn -/
structure KOk (o : List (Nat × Bool)) (ks : List D) (i : Int) : Prop where
  l : ks.length = o.length
  v : ∀ v ∈ ks, pvB v = true
  i0 : -1000000 ≤ i
  i1 : i ≤ 1000000
theorem kp_py {o : List (Nat × Bool)} {ks : List D} {i : Int} (k : KOk o ks i) : toPy (kpD ks o i) = some (.tuple (plL ks o ++ [.int i])) := by
  have h : ∀ l : List (D × Nat × Bool), (∀ x ∈ l, pvB x.1 = true) → toPyL (l.map fun x => plD x.1 x.2.2) = some (l.map fun x => plP x.1 x.2.2) := by
    intro l
    induction l with
    | nil => intro _; rfl
    | cons x l ih =>
      intro hh
      show ((toPy (plD x.1 x.2.2)).bind fun p => (toPyL (l.map fun x => plD x.1 x.2.2)).map fun q => p :: q) = _
      rw [pl_py (hh x List.mem_cons_self), ih fun y hy => hh y (List.mem_cons_of_mem _ hy)]
      rfl
  have h1 := toPyL_app (h (ks.zip o) fun x hx => k.v x.1 (List.of_mem_zip hx).1) (show toPyL [.int i] = some [.int i] from rfl)
  show (toPyL _).map PyData.tuple = _
  rw [h1]; rfl
theorem kp_sm {o : List (Nat × Bool)} {ks : List D} {i : Int} (k : KOk o ks i) (ol : o.length ≤ 4) : Sm 3 20000 (kpD ks o i) := by
  have h1 : SmL 2 (((ks.zip o).map (fun x => plD x.1 x.2.2) ++ [D.int i]).length * 3001) ((ks.zip o).map (fun x => plD x.1 x.2.2) ++ [D.int i]) := SmL.all fun y hy => by
    rcases List.mem_append.mp hy with hy | hy
    · obtain ⟨x, hx, rfl⟩ := List.mem_map.mp hy
      exact pl_sm (k.v x.1 (List.of_mem_zip hx).1) x.2.2
    · rw [List.mem_singleton.mp hy]
      exact (Sm.int (by have := k.i0; have := k.i1; omega)).mono (by decide) (by decide)
  have hz : ((ks.zip o).map (fun x => plD x.1 x.2.2) ++ [D.int i]).length ≤ 5 := by simp; omega
  exact (Sm.tup h1).mono (by decide) (Nat.le_trans (Nat.mul_le_mul_right _ hz) (by decide))
theorem kp_shaped {o : List (Nat × Bool)} {ks : List D} {i : Int} (k : KOk o ks i) (ol : o.length ≤ 4) : SeqAt.shaped (.tuple (plL ks o ++ [.int i])) = true := by
  obtain ⟨p, h1, h2⟩ := (kp_sm k ol).shaped (by decide)
  rw [kp_py k] at h1
  cases h1
  exact h2
/-! the law's own reading -/
theorem sgn_all : ∀ {l : List (Bool × D × D)} {i j : Int}, (∀ x ∈ l, vEq x.2.1 x.2.2 = true) → sgn l i j = (if j < i then 1 else 0) - (if i < j then 1 else 0)
  | [], _, _, _ => rfl
  | x :: l, i, j, h => by
    obtain ⟨d, a, b⟩ := x
    have e : vEq a b = true := h (d, a, b) List.mem_cons_self
    rw [sgn, if_pos e]
    exact sgn_all fun y hy => h y (List.mem_cons_of_mem _ hy)
end LW
namespace LW
open PySem PySem.Spec PyProof.Rows L2 DL TL
/-! what is a mark -/
theorem opNe_int (a b : Int) : opNe (.int a) (.int b) = some (.bl (!(a == b))) := by
  have h1 : SeqAt.shaped (.int a) = true := rfl
  have h2 : SeqAt.shaped (.int b) = true := rfl
  simp [opNe, toPy, h1, h2, PyData.eqv]
theorem k_ne {a b : String} (h : (Str.ofString a == Str.ofString b) = false) {d : D} (e : isK a d = true) : isK b d = false := by
  cases d with
  | str x =>
    have z : x = Str.ofString a := by simpa [isK] using e
    subst z
    exact h
  | _ => cases e
theorem k4 {d : D} (e : (isK "start" d || isK "end" d) = true) : (isK "before" d || isK "after" d) = false := by
  rcases Bool.or_eq_true_iff.mp e with e | e
  · rw [k_ne (b := "before") (by decide +kernel) e, k_ne (b := "after") (by decide +kernel) e]; rfl
  · rw [k_ne (b := "before") (by decide +kernel) e, k_ne (b := "after") (by decide +kernel) e]; rfl
theorem in2 (neg : Bool) (a b : String) (x : Str) : inSeq neg (.str x) (.tup [.str (Str.ofString a), .str (Str.ofString b)]) = some (.bl (if neg = true then !(isK a (.str x) || isK b (.str x)) else (isK a (.str x) || isK b (.str x)))) := by
  have e : ∀ s : String, (Str.ofString s == x) = isK s (.str x) := fun s => by rw [isK_str]; exact Bool.beq_comm
  cases neg <;> simp [inSeq, flatD, anyF, eqF, e]
end LW
namespace LW
open PySem PySem.Spec PyProof.Rows L2 DL TL
theorem vEq_comm {a b : D} (ha : pvB a = true) (hb : pvB b = true) : vEq b a = vEq a b := by
  cases a <;> cases b <;> first
    | (cases ha; done)
    | (cases hb; done)
    | rfl
    | (simp only [vEq]; exact Bool.beq_comm)
theorem str_tri {x y : Str} (z : ¬ x = y) : tl y < tl x ↔ ¬ tl x < tl y := ⟨fun a b => absurd b (List.lt_asymm a), fun h => (by
  rcases Classical.em (tl y < tl x) with q | q
  · exact q
  · exact absurd (ext_tl (List.le_antisymm (List.not_lt.mp q) (List.not_lt.mp h))) z)⟩
theorem cmp_anti {a b : D} (ha : pvB a = true) (hb : pvB b = true) (ne : vEq a b = false) : decide (cmpV b a < 0) = !decide (cmpV a b < 0) := by
  cases a <;> cases b <;> first
    | (cases ha; done)
    | (cases hb; done)
    | (cases ne; done)
    | skip
  · simp [cmpV, vEq, kindP]
  · simp [cmpV, vEq, kindP]
  · simp [cmpV, vEq, kindP]
  · rename_i i j
    have z : ¬ i = j := by simpa [vEq] using ne
    have z' : ¬ j = i := fun q => z q.symm
    by_cases l : i < j
    · have l2 : ¬ j < i := by omega
      simp [cmpV, vEq, kindP, vLt, z, z', l, l2]
    · have l2 : j < i := by omega
      simp [cmpV, vEq, kindP, vLt, z, z', l, l2]
  · simp [cmpV, vEq, kindP]
  · simp [cmpV, vEq, kindP]
  · simp [cmpV, vEq, kindP]
  · rename_i x y
    have z : ¬ x = y := by simpa [vEq] using ne
    have z' : ¬ y = x := fun q => z q.symm
    have t := str_tri z
    by_cases l : tl x < tl y
    · have l2 : ¬ tl y < tl x := fun q => t.mp q l
      simp [cmpV, vEq, kindP, vLt, z, z', l, l2]
    · have l2 : tl y < tl x := t.mpr l
      simp [cmpV, vEq, kindP, vLt, z, z', l, l2]
theorem sgn_anti : ∀ {ks ls : List D} {o : List (Nat × Bool)} (i j : Int), ks.length = o.length → ls.length = o.length → (∀ v ∈ ks, pvB v = true) → (∀ v ∈ ls, pvB v = true) → sgn (tri ls ks o) j i = - sgn (tri ks ls o) i j
  | [], [], [], i, j, _, _, _, _ => by
    show (if i < j then 1 else 0) - (if j < i then 1 else 0) = -((if j < i then 1 else 0) - (if i < j then (1 : Int) else 0))
    omega
  | a :: ks, b :: ls, p :: o, i, j, h1, h2, hk, hl => by
    have ih := sgn_anti (ks := ks) (ls := ls) (o := o) i j (Nat.succ.inj h1) (Nat.succ.inj h2) (fun v hv => hk v (List.mem_cons_of_mem _ hv)) fun v hv => hl v (List.mem_cons_of_mem _ hv)
    have ha := hk a List.mem_cons_self
    have hb := hl b List.mem_cons_self
    rw [tri_cons, tri_cons, sgn, sgn, vEq_comm ha hb]
    by_cases e : vEq a b = true
    · rw [if_pos e, if_pos e, ih]
    · rw [if_neg e, if_neg e, cmp_anti ha hb (by simpa using e)]
      cases decide (cmpV a b < 0) <;> cases p.2 <;> rfl
  | [], [], _ :: _, _, _, h, _, _, _ => by cases h
  | [], _ :: _, [], _, _, _, h, _, _ => by cases h
  | [], _ :: _, _ :: _, _, _, h, _, _, _ => by cases h
  | _ :: _, [], [], _, _, h, _, _, _ => by cases h
  | _ :: _, [], _ :: _, _, _, _, h, _, _ => by cases h
  | _ :: _, _ :: _, [], _, _, h, _, _, _ => by cases h
abbrev Kls := List (List D × Int)
def KOks (o : List (Nat × Bool)) (l : Kls) : Prop := ∀ p ∈ l, KOk o p.1 p.2
end LW
namespace LW
open PySem PySem.Spec PyProof.Rows L2 DL TL
/-! the order of keys is an order -/
theorem vEq_eq {a b : D} (ha : pvB a = true) (hb : pvB b = true) (e : vEq a b = true) : a = b := by
  cases a <;> cases b <;> first
    | rfl
    | (cases ha; done)
    | (cases hb; done)
    | (cases e; done)
    | (simp only [vEq] at e; rw [eq_of_beq e])
theorem vEq_self {a : D} (ha : pvB a = true) : vEq a a = true := by
  cases a <;> first
    | rfl
    | (cases ha; done)
    | exact beq_self_eq_true _
/-- a before b, in a column that does not fall -/
def lo : D → D → Bool
  | .non, .non => false
  | .non, _ => true
  | .int i, .int j => decide (i < j)
  | .int _, .str _ => true
  | .str x, .str y => decide (tl x < tl y)
  | _, _ => false
theorem cmp_lo {a b : D} (ha : pvB a = true) (hb : pvB b = true) (ne : vEq a b = false) : decide (cmpV a b < 0) = lo a b := by
  cases a <;> cases b <;> first
    | (cases ha; done)
    | (cases hb; done)
    | (cases ne; done)
    | skip
  · simp [cmpV, vEq, kindP, lo]
  · simp [cmpV, vEq, kindP, lo]
  · simp [cmpV, vEq, kindP, lo]
  · rename_i i j
    have z : ¬ i = j := by simpa [vEq] using ne
    by_cases l : i < j <;> simp [cmpV, vEq, kindP, vLt, z, l, lo]
  · simp [cmpV, vEq, kindP, lo]
  · simp [cmpV, vEq, kindP, lo]
  · simp [cmpV, vEq, kindP, lo]
  · rename_i x y
    have z : ¬ x = y := by simpa [vEq] using ne
    by_cases l : tl x < tl y <;> simp [cmpV, vEq, kindP, vLt, z, l, lo]
theorem lo_trans {a b c : D} (h1 : lo a b = true) (h2 : lo b c = true) : lo a c = true := by
  cases a <;> cases b <;> first
    | (cases h1; done)
    | skip
  all_goals (cases c <;> first
    | (cases h2; done)
    | rfl
    | skip)
  · have h1 := of_decide_eq_true h1
    have h2 := of_decide_eq_true h2
    exact decide_eq_true (by omega)
  · have h1 := of_decide_eq_true h1
    have h2 := of_decide_eq_true h2
    exact decide_eq_true (List.lt_trans h1 h2)
theorem lo_asym {a b : D} (h1 : lo a b = true) : lo b a = false := by
  cases a <;> cases b <;> first
    | (cases h1; done)
    | rfl
    | skip
  · have h1 := of_decide_eq_true h1
    exact decide_eq_false (by omega)
  · have h1 := of_decide_eq_true h1
    exact decide_eq_false (List.lt_asymm h1)
theorem lo_tot {a b : D} (ha : pvB a = true) (hb : pvB b = true) (ne : vEq a b = false) (h1 : lo a b = false) : lo b a = true := by
  cases a <;> cases b <;> first
    | (cases ha; done)
    | (cases hb; done)
    | (cases ne; done)
    | (cases h1; done)
    | rfl
    | skip
  · rename_i i j
    have z : ¬ i = j := by simpa [vEq] using ne
    have h1 := of_decide_eq_false h1
    exact decide_eq_true (by omega)
  · rename_i x y
    have z : ¬ x = y := by simpa [vEq] using ne
    have h1 := of_decide_eq_false h1
    exact decide_eq_true (Classical.byContradiction fun q => z (ext_tl (List.le_antisymm (List.not_lt.mp q) (List.not_lt.mp h1))))
abbrev Kt := List D × Int
def S (o : List (Nat × Bool)) (p q : Kt) : Int := sgn (tri p.1 q.1 o) p.2 q.2
theorem sgn_cons (d : Bool) (a b : D) (r : List (Bool × D × D)) (i j : Int) : sgn ((d, a, b) :: r) i j = if vEq a b = true then sgn r i j else if (decide (cmpV a b < 0) == d) = true then 1 else -1 := rfl
theorem sgn_trans : ∀ {ks ls ms : List D} {o : List (Nat × Bool)} (i j k : Int), ks.length = o.length → ls.length = o.length → ms.length = o.length → (∀ v ∈ ks, pvB v = true) → (∀ v ∈ ls, pvB v = true) → (∀ v ∈ ms, pvB v = true) →
    sgn (tri ks ls o) i j ≤ 0 → sgn (tri ls ms o) j k ≤ 0 → sgn (tri ks ms o) i k ≤ 0 ∧ (sgn (tri ks ls o) i j < 0 ∨ sgn (tri ls ms o) j k < 0 → sgn (tri ks ms o) i k < 0)
  | [], [], [], [], i, j, k, _, _, _, _, _, _ => by
    show (if j < i then 1 else 0) - (if i < j then 1 else 0) ≤ (0 : Int) → (if k < j then 1 else 0) - (if j < k then 1 else 0) ≤ (0 : Int) → (if k < i then 1 else 0) - (if i < k then 1 else 0) ≤ (0 : Int) ∧ ((if j < i then 1 else 0) - (if i < j then 1 else 0) < (0 : Int) ∨ (if k < j then 1 else 0) - (if j < k then 1 else 0) < (0 : Int) → (if k < i then 1 else 0) - (if i < k then 1 else 0) < (0 : Int))
    omega
  | a :: ks, b :: ls, c :: ms, p :: o, i, j, k, h1, h2, h3, hk, hl, hm => by
    have ih := sgn_trans (ks := ks) (ls := ls) (ms := ms) (o := o) i j k (Nat.succ.inj h1) (Nat.succ.inj h2) (Nat.succ.inj h3) (fun v hv => hk v (List.mem_cons_of_mem _ hv)) (fun v hv => hl v (List.mem_cons_of_mem _ hv)) fun v hv => hm v (List.mem_cons_of_mem _ hv)
    have ha := hk a List.mem_cons_self
    have hb := hl b List.mem_cons_self
    have hc := hm c List.mem_cons_self
    rw [tri_cons, tri_cons, tri_cons, sgn_cons, sgn_cons, sgn_cons]
    by_cases e1 : vEq a b = true
    · have := vEq_eq ha hb e1
      subst this
      rw [if_pos e1]
      by_cases e2 : vEq a c = true
      · rw [if_pos e2, if_pos e2]
        exact ih
      · rw [if_neg e2, if_neg e2]
        intro _ q
        exact ⟨q, fun _ => by
          revert q
          split <;> intro q
          · omega
          · decide⟩
    · have n1 : vEq a b = false := by simpa using e1
      rw [if_neg e1, cmp_lo ha hb n1]
      by_cases e2 : vEq b c = true
      · have := vEq_eq hb hc e2
        subst this
        rw [if_pos e2, if_neg e1, cmp_lo ha hb n1]
        intro q _
        exact ⟨q, fun _ => by
          revert q
          split <;> intro q
          · omega
          · decide⟩
      · have n2 : vEq b c = false := by simpa using e2
        rw [if_neg e2, cmp_lo hb hc n2]
        intro q1 q2
        have t1 : (lo a b == p.2) = false := by
          cases z : (lo a b == p.2) with
          | false => rfl
          | true => rw [z, if_pos rfl] at q1; omega
        have t2 : (lo b c == p.2) = false := by
          cases z : (lo b c == p.2) with
          | false => rfl
          | true => rw [z, if_pos rfl] at q2; omega
        have n3 : vEq a c = false := by
          cases z : vEq a c with
          | false => rfl
          | true =>
            have := vEq_eq ha hc z
            subst this
            exfalso
            cases hp : p.2 <;> rw [hp] at t1 t2
            · have l1 : lo a b = true := by simpa using t1
              have l2 : lo b a = true := by simpa using t2
              rw [lo_asym l1] at l2
              cases l2
            · have l1 : lo a b = false := by simpa using t1
              have l2 : lo b a = false := by simpa using t2
              rw [lo_tot ha hb n1 l1] at l2
              cases l2
        have t3 : (lo a c == p.2) = false := by
          cases hp : p.2 <;> rw [hp] at t1 t2
          · have l1 : lo a b = true := by simpa using t1
            have l2 : lo b c = true := by simpa using t2
            rw [lo_trans l1 l2]; rfl
          · have l1 : lo a b = false := by simpa using t1
            have l2 : lo b c = false := by simpa using t2
            have l3 := lo_trans (lo_tot hb hc n2 l2) (lo_tot ha hb n1 l1)
            rw [lo_asym l3]; rfl
        rw [if_neg (by rw [n3]; exact Bool.false_ne_true), cmp_lo ha hc n3, if_neg (by rw [t3]; exact Bool.false_ne_true)]
        exact ⟨by decide, fun _ => by decide⟩
  | [], [], [], _ :: _, _, _, _, h, _, _, _, _, _ => by cases h
  | [], _, _ :: _, [], _, _, _, _, _, h, _, _, _ => by cases h
  | [], _ :: _, _, [], _, _, _, _, h, _, _, _, _ => by cases h
  | _ :: _, _, _, [], _, _, _, h, _, _, _, _, _ => by cases h
  | [], _ :: _, _, _ :: _, _, _, _, h, _, _, _, _, _ => by cases h
  | [], _, _ :: _, _ :: _, _, _, _, h, _, _, _, _, _ => by cases h
  | _ :: _, [], _, _ :: _, _, _, _, _, h, _, _, _, _ => by cases h
  | _ :: _, _, [], _ :: _, _, _, _, _, _, h, _, _, _ => by cases h
end LW
namespace LW
open PySem PySem.Spec PyProof.Rows L2 DL TL
/-! marks and their order -/
inductive Mk where
  | st | en | k (p : Kt) (f : Bool)
def Mk.d : Mk → D
  | .st => .tup [nm "start"]
  | .en => .tup [nm "end"]
  | .k p false => .tup [nm "before", KD p.1 p.2]
  | .k p true => .tup [nm "after", KD p.1 p.2]
def Mk.pl (o : List (Nat × Bool)) : Mk → D
  | .st => .tup [.int 0]
  | .en => .tup [.int 2]
  | .k p false => .tup [.int 1, kpD p.1 o p.2, .int 0]
  | .k p true => .tup [.int 1, kpD p.1 o p.2, .int 1]
def Mk.ok (o : List (Nat × Bool)) : Mk → Prop
  | .k p _ => KOk o p.1 p.2
  | _ => True
theorem nmq : opEq (nm "start") (nm "start") = some (.bl true) ∧ opEq (nm "end") (nm "start") = some (.bl false) ∧ opEq (nm "end") (nm "end") = some (.bl true) ∧ opEq (nm "before") (nm "start") = some (.bl false) ∧ opEq (nm "before") (nm "end") = some (.bl false) ∧
    opEq (nm "before") (nm "before") = some (.bl true) ∧ opEq (nm "after") (nm "start") = some (.bl false) ∧ opEq (nm "after") (nm "end") = some (.bl false) ∧ opEq (nm "after") (nm "before") = some (.bl false) ∧ opEq (nm "start") (nm "end") = some (.bl false) ∧ opEq (nm "before") (nm "after") = some (.bl false) ∧ opEq (nm "after") (nm "after") = some (.bl true) :=
  ⟨eqL (by decide) (by decide) (by decide +kernel), eqL (by decide) (by decide) (by decide +kernel), eqL (by decide) (by decide) (by decide +kernel), eqL (by decide) (by decide) (by decide +kernel), eqL (by decide) (by decide) (by decide +kernel), eqL (by decide) (by decide) (by decide +kernel), eqL (by decide) (by decide) (by decide +kernel), eqL (by decide) (by decide) (by decide +kernel), eqL (by decide) (by decide) (by decide +kernel), eqL (by decide) (by decide) (by decide +kernel), eqL (by decide) (by decide) (by decide +kernel), eqL (by decide) (by decide) (by decide +kernel)⟩
def cmpI (f g : Bool) : Int := if f = g then 0 else if f = true then 1 else -1
def cmpM (o : List (Nat × Bool)) : Mk → Mk → Int
  | .st, .st => 0
  | .st, .en => -1
  | .st, .k _ _ => -1
  | .en, .st => 1
  | .en, .en => 0
  | .en, .k _ _ => 1
  | .k _ _, .st => 1
  | .k _ _, .en => -1
  | .k p f, .k q g => if S o p q = 0 then cmpI f g else S o p q
/-! places among the keys -/
theorem sgn_self : ∀ {ks : List D} {o : List (Nat × Bool)} (i : Int), (∀ v ∈ ks, pvB v = true) → sgn (tri ks ks o) i i = 0
  | [], _, i, _ => by
    show (if i < i then 1 else 0) - (if i < i then 1 else 0) = (0 : Int)
    omega
  | _ :: _, [], i, _ => by
    show (if i < i then 1 else 0) - (if i < i then 1 else 0) = (0 : Int)
    omega
  | a :: ks, p :: o, i, h => by
    rw [tri_cons, sgn_cons, if_pos (vEq_self (h a List.mem_cons_self))]
    exact sgn_self i fun v hv => h v (List.mem_cons_of_mem _ hv)
theorem S_trans {o : List (Nat × Bool)} {p q r : Kt} (hp : KOk o p.1 p.2) (hq : KOk o q.1 q.2) (hr : KOk o r.1 r.2) (h1 : S o p q ≤ 0) (h2 : S o q r ≤ 0) : S o p r ≤ 0 ∧ (S o p q < 0 ∨ S o q r < 0 → S o p r < 0) :=
  sgn_trans p.2 q.2 r.2 hp.l hq.l hr.l hp.v hq.v hr.v h1 h2
theorem S_anti {o : List (Nat × Bool)} {p q : Kt} (hp : KOk o p.1 p.2) (hq : KOk o q.1 q.2) : S o q p = - S o p q := sgn_anti p.2 q.2 hp.l hq.l hp.v hq.v
theorem S_self {o : List (Nat × Bool)} {p : Kt} (hp : KOk o p.1 p.2) : S o p p = 0 := sgn_self p.2 hp.v
def Mk.of (ks : List Kt) : Mk → Prop
  | .k p _ => p ∈ ks
  | _ => True
end LW
namespace LW
open PySem PySem.Spec PyProof.Rows L2 DL TL
theorem key_ok {c : C} {o : List (Nat × Bool)} {sh : List Nat} {vs : List D} {i : Int} (st : Store) (oc : ∀ p ∈ o, p.1 < vs.length) (ol : o.length ≤ 4) : m_key_of [vD c o sh, .int i, .tup vs] st = some (kD o vs i, st) := by
  have lc := loopC_over (φ := fun p : Nat × Bool => D.tup [.int p.1, .bl p.2]) (ψ := fun p => atV vs p.1) (is := [4, 5]) (bd := bTup 2 (bCons b1 (bCons b1 bNil))) (f := fSub (fVar 2) (fVar 4)) (env := [some (vD c o sh), some (.int i), some (.tup vs), none, none, none]) (st := st) (l := o) (fun p hp => ⟨[.int p.1, .bl p.2], by simp, by simp [at_val (oc p hp)]⟩)
  have z : o.length ≤ sizeLine := sl_of (by omega)
  have z1 : o.length + 1 ≤ sizeLine := sl_of (by omega)
  simp only [vD, vOrd] at lc ⊢
  simp [m_key_of, g_key_of, ix1]
  simp [lc, z, z1, kD]
end LW
namespace LW
open PySem PySem.Spec PyProof.Rows L2 DL TL
def Py (d : D) : Prop := ∃ p, toPy d = some p ∧ SeqAt.shaped p = true
def nb (a b : D) : Bool := match opNe a b with | some (.bl b) => b | _ => false
theorem py_non : Py .non := ⟨.none, rfl, by decide⟩
abbrev U9 : List Int := [1, 2, 3, 4, 5, 6, 7, 8, 9]
theorem gt_mem {U : List Int} {l : KL} (h : okK U l) {i : Int} {d : D} (e : gt l i = some d) : (.inl i, d) ∈ l ∧ i ∈ U := by
  have m := (valD_some h.nd).mp e
  obtain ⟨j, hj, ej⟩ := h.mem _ m
  injection ej with ej
  exact ⟨m, ej ▸ hj⟩
theorem lt_old {st : Store} {n : Nat} {o : Ob} (h : st[n]? = some o) : n < st.length := (List.getElem?_eq_some_iff.mp h).1
theorem pv_noL {d : D} (h : pvB d = true) : noL d = true := by cases d <;> first | rfl | (cases h; done)
theorem loopC_fm {α : Type} {is : List Nat} {bd : FB} {t : FT} {f : F} {φ ψ : α → D} {p : α → Bool} {env : Lo} {st : Store} : ∀ {l : List α}, (∀ x ∈ l, ∃ vs, bd (φ x) = some vs ∧ t (setL is vs env) st = some (p x, st) ∧ f (setL is vs env) st = some (ψ x, st)) → loopC is bd t f (l.map φ) env st = some ((l.filter p).map ψ, st)
  | [], _ => rfl
  | x :: l, h => by
    obtain ⟨vs, h1, h2, h3⟩ := h x List.mem_cons_self
    have ih := loopC_fm (φ := φ) (ψ := ψ) (p := p) (l := l) fun y hy => h y (List.mem_cons_of_mem _ hy)
    rw [List.map_cons, loopC, h1, Option.bind_some, h2, Option.bind_some]
    cases q : p x with
    | true => simp only [if_true, h3, Option.bind_some, ih, Option.map_some, List.filter_cons, q, List.map_cons]
    | false => simp only [Bool.false_eq_true, if_false, ih, List.filter_cons, q]
structure Rw (o : List (Nat × Bool)) (m : Nat) (i : Int) (d : D) : Prop where
  ex : ∃ us sh, d = .tup [KD us i, .tup sh] ∧ KOk o us i ∧ sh.length = m ∧ ∀ v ∈ sh, pvB v = true
def RwO (o : List (Nat × Bool)) (m : Nat) (i : Int) (d : D) : Prop := d = .non ∨ Rw o m i d
structure Gd (w : Nat) (d : D) : Prop where
  py : Py d
  ok : okD d = true
  nl : noL d = true
  hd : hD d ≤ 3
  wd : wD d ≤ w
theorem Gd.non {w : Nat} : Gd w .non := ⟨py_non, rfl, rfl, Nat.zero_le _, Nat.zero_le _⟩
theorem Rw.gd {o : List (Nat × Bool)} {m : Nat} {i : Int} {d : D} (h : Rw o m i d) (ol : o.length ≤ 4) (ml : m ≤ 10) : Gd 5000 d ∧ hD d ≤ 2 ∧ DL.isNon d = false := by
  obtain ⟨us, sh, rfl, k, sl, sv⟩ := h.ex
  have ul := k.l
  have ib : -1000000000000 < i ∧ i < 1000000000000 := by have := k.i0; have := k.i1; omega
  have f1 : FitL us 0 (us.length * 211) := FitL.all fun d hd => fit_pv (k.v d hd)
  have f2 : FitL sh 0 (sh.length * 211) := FitL.all fun d hd => fit_pv (sv d hd)
  have l1 : us.length * 211 ≤ 4 * 211 := Nat.mul_le_mul_right _ (by omega)
  have l2 : sh.length * 211 ≤ 10 * 211 := Nat.mul_le_mul_right _ (by omega)
  have f : Fit (.tup [KD us i, .tup sh]) 2 5000 := (Fit.tup (FitL.cons (Fit.tup (f1.append (FitL.cons (Fit.int (by omega)) FitL.nil))) (FitL.cons (Fit.tup f2) FitL.nil))).mono (by decide) (by omega)
  refine ⟨⟨?_, f.ok, ?_, Nat.le_trans f.hd (by decide), f.wd⟩, f.hd, rfl⟩
  · have a1 := SmL.all (dp := 0) (wt := 40) (ds := us ++ [D.int i]) fun d hd => by
      rcases List.mem_append.mp hd with m | m
      · exact pv_sm (k.v d m)
      · rw [List.mem_singleton.mp m]; exact Sm.int ib
    have a2 := SmL.all (dp := 0) (wt := 40) (ds := sh) fun d hd => pv_sm (sv d hd)
    exact (Sm.tup (SmL.cons (Sm.tup a1) (SmL.cons (Sm.tup a2) (SmL.nil.mono (Nat.zero_le 1) (Nat.le_refl _))))).shaped (by decide)
  · show noLL [KD us i, .tup sh] = true
    refine noLL_iff.mpr fun d hd => ?_
    simp only [List.mem_cons, List.not_mem_nil, or_false] at hd
    rcases hd with rfl | rfl
    · show noLL _ = true
      refine noLL_iff.mpr fun d hd => ?_
      rcases List.mem_append.mp hd with m | m
      · exact pv_noL (k.v d m)
      · rw [List.mem_singleton.mp m]; rfl
    · show noLL _ = true
      exact noLL_iff.mpr fun d hd => pv_noL (sv d hd)
theorem RwO.gd {o : List (Nat × Bool)} {m : Nat} {i : Int} {d : D} (h : RwO o m i d) (ol : o.length ≤ 4) (ml : m ≤ 10) : Gd 5000 d ∧ hD d ≤ 2 := by
  rcases h with rfl | h
  · exact ⟨Gd.non, Nat.zero_le _⟩
  · exact ⟨(h.gd ol ml).1, (h.gd ol ml).2.1⟩
def bk (d : D) : D := match d with | .tup [b, _] => b | _ => .non
def ak (d : D) : D := match d with | .tup [_, a] => a | _ => .non
structure PM (P : Int → D → Prop) (c : KL) : Prop where
  ok : okK U9 c
  ch : ∀ i d, gt c i = some d → d = .tup [bk d, ak d] ∧ P i (bk d) ∧ P i (ak d)
theorem PM.len {P : Int → D → Prop} {c : KL} (h : PM P c) : c.length ≤ 9 := h.ok.len
theorem PM.mem {P : Int → D → Prop} {c : KL} (h : PM P c) {kv : Key × D} (m : kv ∈ c) : ∃ i, kv.1 = .inl i ∧ i ∈ U9 ∧ gt c i = some kv.2 := by
  obtain ⟨i, hi, e⟩ := h.ok.mem kv m
  exact ⟨i, e, hi, by rw [gt, ← e]; exact (valD_some h.ok.nd).mpr m⟩
theorem PM.mono {P P' : Int → D → Prop} {c : KL} (h : PM P c) (f : ∀ i d, P i d → P' i d) : PM P' c := ⟨h.ok, fun i d e => let ⟨a, b, x⟩ := h.ch i d e; ⟨a, f _ _ b, f _ _ x⟩⟩
theorem PM.nil {P : Int → D → Prop} : PM P [] := ⟨.nil, fun i d e => by cases e⟩
theorem PM.put {P : Int → D → Prop} {c : KL} (h : PM P c) {i : Int} (hi : i ∈ U9) {b a : D} (hb : P i b) (ha : P i a) : PM P (putD c (.inl i) (.tup [b, a])) := by
  refine ⟨h.ok.put hi _, fun j d e => ?_⟩
  rw [gt, valD_put] at e
  by_cases z : (Sum.inl i : Key) = Sum.inl j
  · rw [if_pos z] at e
    injection z with z
    subst z
    cases e
    exact ⟨rfl, hb, ha⟩
  · rw [if_neg z] at e
    exact h.ch j d e
theorem gt_put (c : KL) (i j : Int) (d : D) : gt (putD c (.inl i) d) j = if i = j then some d else gt c j := by
  unfold gt
  rw [valD_put]
  by_cases e : i = j
  · rw [if_pos e, if_pos (by rw [e])]
  · rw [if_neg e, if_neg (fun z => e (by injection z))]
theorem PM.keys {P : Int → D → Prop} {c : KL} (h : PM P c) : ∃ ks : List Int, sortedKs c = some ks ∧ (∀ i, i ∈ ks ↔ (gt c i).isSome = true) ∧ (∀ i ∈ ks, i ∈ U9) ∧ ks.length ≤ 9 ∧ ks.Pairwise (· < ·) := by
  obtain ⟨ks, h1, h2, h3, h4, h5, h6⟩ := h.ok.sortedKs (by decide)
  refine ⟨srt ks, h1, h4, fun i m => ?_, ?_, srt_pw ks⟩
  · exact (gt_mem h.ok (Option.some_get ((h4 i).mp m)).symm).2
  · have nd := nodup_sub (l := srt ks) (u := ks) (List.Pairwise.imp (fun {a b} (h : a < b) => Int.ne_of_lt h) (srt_pw ks)) fun x m => by rw [srt_mem] at m; exact m
    have := h.len
    omega
def past (o : List (Nat × Bool)) : Mk → Kt → Bool
  | .st, _ => true
  | .en, _ => false
  | .k p f, q => decide (0 < S o q p) || (decide (S o q p = 0) && !f)
def btw (o : List (Nat × Bool)) (a b : Mk) (q : Kt) : Bool := past o a q && !past o b q
theorem KOk_of {vs : List D} {i : Int} (oc : ∀ p ∈ o, p.1 < vs.length) (hv : ∀ v ∈ vs, pvB v = true) (hi : 1 ≤ i ∧ i ≤ 9) : KOk o (o.map fun p => atV vs p.1) i :=
  ⟨by simp, fun v h => by obtain ⟨p, hp, rfl⟩ := List.mem_map.mp h; exact hv _ (mem_val (oc p hp)), by omega, by omega⟩
def At (ex : List Nat) (F : D) (fs : KL) (s : Store) : Prop := F = .dct fs ∨ ∃ q, F = .ref q ∧ q ∉ ex ∧ s[q]? = some (.dct fs)
theorem At.dct {ex : List Nat} {F : D} {fs : KL} {s : Store} (h : At ex F fs s) : dctAt F s = some fs := by
  rcases h with rfl | ⟨q, rfl, _, e⟩
  · rfl
  · simp [dctAt, e]
theorem At.keep {ex : List Nat} {F : D} {fs : KL} {s s' : Store} (h : At ex F fs s) (k : ∀ q o, q ∉ ex → s[q]? = some o → s'[q]? = some o) : At ex F fs s' := by
  rcases h with rfl | ⟨q, rfl, n, e⟩
  · exact .inl rfl
  · exact .inr ⟨q, rfl, n, k q _ n e⟩
structure CM (o : List (Nat × Bool)) (m : Nat) (ch : KL) : Prop where
  pm : PM (RwO o m) ch
  df : ∀ i d, gt ch i = some d → nb (bk d) (ak d) = true
  k7 : ∀ i, (gt ch i).isSome = true → 1 ≤ i ∧ i ≤ 7
theorem CM.nil : CM o m [] := ⟨PM.nil, fun i d e => (by cases e), fun i e => (by cases e)⟩
theorem u9_of {i : Int} (h : 1 ≤ i ∧ i ≤ 9) : i ∈ U9 := by simp only [U9, List.mem_cons, List.not_mem_nil, or_false]; omega
theorem CM.put {ch : KL} (h : CM o m ch) {i : Int} (hi : 1 ≤ i ∧ i ≤ 7) {b a : D} (hb : RwO o m i b) (ha : RwO o m i a) (ne : nb b a = true) : CM o m (putD ch (.inl i) (.tup [b, a])) := by
  refine ⟨h.pm.put (u9_of (by omega)) hb ha, fun j d e => ?_, fun j e => ?_⟩
  · rw [gt_put] at e
    by_cases z : i = j
    · rw [if_pos z] at e; cases e; exact ne
    · rw [if_neg z] at e; exact h.df j d e
  · rw [gt_put] at e
    by_cases z : i = j
    · subst z; exact hi
    · rw [if_neg z] at e; exact h.k7 j e
end LW
namespace LW
open PySem PySem.Spec PyProof.Rows L2 DL TL
variable {c : C} {o : List (Nat × Bool)} {sh : List Nat} {m : Nat}
/-! places as keys of a sort -/
def pk (o : List (Nat × Bool)) (p : Kt) : PyData := .tuple (plL p.1 o ++ [.int p.2])
theorem lt_self : ∀ (l : List PyData), PyData.canLayAll0 l = true → pyLtL l l = some false
  | [], _ => rfl
  | x :: l, h => by
    have h' : x.canLay0 = true ∧ PyData.canLayAll0 l = true := by simpa [PyData.canLayAll0] using h
    rw [pyLtL_cons, if_pos (SeqAt.eqv_refl x h'.1)]
    exact lt_self l h'.2
theorem lt_pk {p q : Kt} (hp : KOk o p.1 p.2) (hq : KOk o q.1 q.2) (ol : o.length ≤ 4) (h : S o p q = 0 → p = q) : pyLt (pk o p) (pk o q) = some (decide (S o p q < 0)) := by
  unfold pk
  rw [pyLt_tup]
  obtain ⟨_, g2, g3⟩ := sgn_eqv p.2 q.2 hp.l hq.l hp.v hq.v
  by_cases z : S o p q = 0
  · have e := h z
    subst e
    rw [S_self hp]
    have sh := SeqAt.canLay_of_shaped (kp_shaped hp ol)
    exact lt_self _ (by simpa [PyData.canLay0] using sh)
  · rw [g2 z]
    have g3' : S o p q = 0 ∨ S o p q = 1 ∨ S o p q = -1 := g3
    have : (sgn (tri p.1 q.1 o) p.2 q.2 = -1) ↔ S o p q < 0 := by
      show S o p q = -1 ↔ _
      omega
    rw [decide_eq_decide.mpr this]
/-- distinct ids: distinct keys -/
theorem sgn_zero : ∀ {l : List (Bool × D × D)} {i j : Int}, sgn l i j = 0 → i = j
  | [], i, j, h => by
    have h' : (if j < i then (1 : Int) else 0) - (if i < j then 1 else 0) = 0 := by
      rw [← sgn_all (l := []) (fun x hx => by cases hx)]; exact h
    by_cases a : j < i
    · rw [if_pos a, if_neg (by omega)] at h'; omega
    · by_cases b : i < j
      · rw [if_neg a, if_pos b] at h'; omega
      · omega
  | (d, a, b) :: r, i, j, h => by
    rw [sgn_cons] at h
    by_cases z : vEq a b = true
    · rw [if_pos z] at h; exact sgn_zero h
    · rw [if_neg z] at h
      split at h <;> omega
theorem S_zero {p q : Kt} (h : S o p q = 0) : p.2 = q.2 := sgn_zero h
/-- only one list in order -/
theorem one_order {α : Type} (κ : α → Kt) : ∀ {xs ys : List α}, KOks o (xs.map κ) → xs.Perm ys → xs.Pairwise (fun a b => S o (κ a) (κ b) < 0) → ys.Pairwise (fun a b => S o (κ a) (κ b) < 0) → xs = ys
  | [], ys, _, p, _, _ => (List.nil_perm.mp p).symm ▸ rfl
  | x :: xs, ys, ok, p, w1, w2 => by
    cases ys with
    | nil => exact absurd p (by simp)
    | cons y ys =>
      obtain ⟨a1, a2⟩ := List.pairwise_cons.mp w1
      obtain ⟨b1, b2⟩ := List.pairwise_cons.mp w2
      have e : x = y := by
        have mx : x ∈ y :: ys := p.mem_iff.mp List.mem_cons_self
        have my : y ∈ x :: xs := p.mem_iff.mpr List.mem_cons_self
        rcases List.mem_cons.mp mx with h | h
        · exact h
        · rcases List.mem_cons.mp my with g | g
          · exact g.symm
          · have l1 := a1 y g
            have l2 := b1 x h
            have an := S_anti (o := o) (ok _ (List.mem_map.mpr ⟨x, List.mem_cons_self, rfl⟩)) (ok _ (List.mem_map.mpr ⟨y, List.mem_cons_of_mem _ g, rfl⟩))
            omega
      subst e
      rw [one_order κ (fun q hq => ok q (List.mem_cons_of_mem _ hq)) (List.Perm.cons_inv p) a2 b2]
end LW
namespace LW
open PySem PySem.Spec PyProof.Rows L2 DL TL
variable {c : C} {o : List (Nat × Bool)} {sh : List Nat} {w : Nat}
/-! a window's rows, from the rows of a version -/
def kI (kv : Key × D) : Int := match kv.1 with | .inl i => i | .inr _ => 0
def vS (kv : Key × D) : List D := match kv.2 with | .tup vs => vs | _ => []
def kap (o : List (Nat × Bool)) (kv : Key × D) : Kt := (o.map fun p => atV (vS kv) p.1, kI kv)
def del (o : List (Nat × Bool)) (sh : List Nat) (kv : Key × D) : D := .tup [kD o (vS kv) (kI kv), shD sh (vS kv)]
def dl (c : C) (o : List (Nat × Bool)) (sh : List Nat) (kv : Key × D) : D := if sat (vS kv) c = true then del o sh kv else .non
/-- the rows of a version -/
structure RV (w : Nat) (rows : KL) : Prop where
  nd : (rows.map (·.1)).Nodup
  len : rows.length ≤ 100
  v : ∀ kv ∈ rows, ∃ (i : Int) (vs : List D), kv = (.inl i, .tup vs) ∧ vs.length = w ∧ (∀ v ∈ vs, pvB v = true) ∧ 1 ≤ i ∧ i ≤ 1000000
theorem RV.kok {rows : KL} (h : RV w rows) (vo : VOk w c o sh) {kv : Key × D} (m : kv ∈ rows) : KOk o (kap o kv).1 (kap o kv).2 := by
  obtain ⟨i, vs, rfl, vl, pv, i0, i1⟩ := h.v kv m
  refine ⟨by simp [kap], fun v hv => ?_, ?_, ?_⟩
  · obtain ⟨p, hp, rfl⟩ := List.mem_map.mp hv
    exact pv _ (mem_val (show p.1 < vs.length by rw [vl]; exact vo.oc p hp))
  · show -1000000 ≤ i; omega
  · show i ≤ 1000000; exact i1
variable {x0 x2 x3 x4 x6 x7 x8 x9 x10 : Option D} {st : Store} {rows : KL} {k : Nat}
end LW
namespace LW
open PySem PySem.Spec PyProof.Rows L2 DL TL
variable {Φ : KX} {w : Nat} {s st : Store} {n t sp ss p : Nat} {cs : List D} {P : Int} {l : VL} {T r c : KL} {ps : List (KL × KL)}
open Classical
/-! a map of ids as a list -/
def ofL (f : Int → Option D) (l : List Int) : KL := l.filterMap fun i => (f i).map fun d => ((.inl i : Key), d)
theorem ofL_mem {f : Int → Option D} {l : List Int} {q : Key × D} (h : q ∈ ofL f l) : ∃ i ∈ l, q.1 = .inl i ∧ f i = some q.2 := by
  obtain ⟨i, hi, e⟩ := List.mem_filterMap.mp h
  obtain ⟨d, hd, rfl⟩ := Option.map_eq_some_iff.mp e
  exact ⟨i, hi, rfl, hd⟩
theorem ofL_nd {f : Int → Option D} : ∀ {l : List Int}, l.Nodup → ((ofL f l).map (·.1)).Nodup
  | [], _ => List.nodup_nil
  | i :: l, h => by
    obtain ⟨h1, h2⟩ := List.nodup_cons.mp h
    have ih := ofL_nd (f := f) h2
    cases e : f i with
    | none =>
      have : ofL f (i :: l) = ofL f l := by unfold ofL; rw [List.filterMap_cons, e]; rfl
      rw [this]; exact ih
    | some d =>
      have : ofL f (i :: l) = (.inl i, d) :: ofL f l := by unfold ofL; rw [List.filterMap_cons, e]; rfl
      rw [this, List.map_cons, List.nodup_cons]
      refine ⟨fun m => ?_, ih⟩
      obtain ⟨q, hq, eq⟩ := List.mem_map.mp m
      obtain ⟨j, hj, ej, _⟩ := ofL_mem hq
      have : (Sum.inl j : Key) = .inl i := ej.symm.trans eq
      injection this with z
      exact h1 (z ▸ hj)
theorem U7_nd : U7.Nodup := by decide
theorem okK_ofL (f : Int → Option D) : okK U7 (ofL f U7) := ⟨fun q hq => let ⟨i, hi, e, _⟩ := ofL_mem hq; ⟨i, hi, e⟩, ofL_nd U7_nd⟩
theorem okK_none {U : List Int} {r : KL} (h : okK U r) {i : Int} (hi : i ∉ U) : gt r i = none := by
  refine valD_none.mpr fun m => ?_
  obtain ⟨q, hq, e⟩ := List.mem_map.mp m
  obtain ⟨j, hj, ej⟩ := h.mem q hq
  have : (Sum.inl j : Key) = .inl i := ej.symm.trans e
  injection this with z
  exact hi (z ▸ hj)
theorem gt_ofL {f : Int → Option D} (hf : ∀ i, i ∉ U7 → f i = none) (i : Int) : gt (ofL f U7) i = f i := by
  by_cases hi : i ∈ U7
  · cases e : f i with
    | some d => exact (valD_some (ofL_nd U7_nd)).mpr (List.mem_filterMap.mpr ⟨i, hi, by rw [e]; rfl⟩)
    | none =>
      refine valD_none.mpr fun m => ?_
      obtain ⟨q, hq, eq⟩ := List.mem_map.mp m
      obtain ⟨j, hj, ej, ef⟩ := ofL_mem hq
      have : (Sum.inl j : Key) = .inl i := ej.symm.trans eq
      injection this with z
      rw [z, e] at ef; cases ef
  · rw [hf i hi]; exact okK_none (okK_ofL f) hi
/-! one edit, as history -/
noncomputable def edG (r rows : KL) : KL := ofL (goalOf r rows) U7
noncomputable def edC (n : Nat) (r c rows : KL) : KL := ofL (chgOf n r (edG r rows) c) U7
noncomputable def edB (r rows : KL) : Bool := decide (∀ i, gt (edG r rows) i = gt r i)
noncomputable def edP (ps : List (KL × KL)) (rows : KL) : List (KL × KL) := match ps[ps.length - 1]? with
  | some (r, c) => if edB r rows = true then ps else ps ++ [(edG r rows, edC ps.length r c rows)]
  | none => ps
theorem edG_gt {r rows : KL} (or_ : okK U7 r) (hr : okK U7 rows) (i : Int) : gt (edG r rows) i = goalOf r rows i := gt_ofL (fun i hi => by rw [goalOf, okK_none hr hi]; exact okK_none or_ hi) i
theorem GWd.edit (h : GWd Φ w s n t sp ss p cs P l T ps) (hS : P < 60) {rows : KL} (hr : okK U7 rows) (hv : ∀ q ∈ rows, q.2 = .non ∨ Rv w q.2) {s' : Store} (tp : Tp s' n) (tab : GabOk U7 s' t sp ss cs (nxP P T rows) (nxL P l T rows) (nxT P T rows)) (fx : KXat Φ s') :
    GWd Φ w s' n t sp ss p cs (nxP P T rows) (nxL P l T rows) (nxT P T rows) (edP ps rows) ∧ ((∀ v : Int, 0 ≤ v → v ≤ P → v ∈ l.map (·.1)) → ∀ v : Int, 0 ≤ v → v ≤ nxP P T rows → v ∈ (nxL P l T rows).map (·.1)) := by
  obtain ⟨r, c, hl, vs⟩ := h.last
  have gg := edG_gt vs.or_ hr
  have gc : ∀ i, gt (edC ps.length r c rows) i = chgOf ps.length r (edG r rows) c i := fun i => gt_ofL (fun i hi => by
    have g0 : gt (edG r rows) i = none := okK_none (okK_ofL _) hi
    have r0 := okK_none vs.or_ hi
    rw [chgOf, if_pos (by rw [g0, r0])]
    exact okK_none vs.oc hi) i
  obtain ⟨h1, h2, h3⟩ := h.next hS hl hr hv (okK_ofL _) (okK_ofL _) gg gc tp tab (b := edB r rows) (by unfold edB; exact decide_eq_true_iff) fx
  have e : edP ps rows = if edB r rows = true then ps else ps ++ [(edG r rows, edC ps.length r c rows)] := by rw [edP, hl]
  refine ⟨by rw [e]; exact h1, fun fu v v0 v1 => ?_⟩
  rw [h3]
  rw [h2] at v1
  by_cases z : edB r rows = true
  · rw [if_pos z] at v1 ⊢; exact fu v v0 v1
  · rw [if_neg z] at v1 ⊢
    rcases Int.lt_or_le P v with y | y
    · have : v = P + 1 := by omega
      rw [this]; exact List.mem_append_right _ (List.mem_singleton.mpr rfl)
    · exact List.mem_append_left _ (fu v v0 y)
/-! what a sequence of edits leaves, id by id -/
def opD (d : D) : Option D := if DL.isNon d = true then none else some d
def lastR (ps : List (KL × KL)) (i : Int) : Option D := match ps[ps.length - 1]? with | some (r, _) => gt r i | none => none
structure GoodP (ps : List (KL × KL)) : Prop where
  ex : ∃ r c, ps[ps.length - 1]? = some (r, c) ∧ okK U7 r
abbrev one (e : Int × D) : KL := [((.inl e.1 : Key), e.2)]
theorem one_okK {e : Int × D} (h : e.1 ∈ U7) : okK U7 (one e) := ⟨fun q hq => ⟨e.1, h, by rw [List.mem_singleton.mp hq]⟩, by simp⟩
theorem goal_one (r : KL) (e : Int × D) (j : Int) : goalOf r (one e) j = if e.1 = j then opD e.2 else gt r j := by
  have k : gt (one e) j = if e.1 = j then some e.2 else none := by
    have := gt_put [] e.1 j e.2
    exact this
  rw [goalOf, k]
  by_cases z : e.1 = j
  · rw [if_pos z, if_pos z]; rfl
  · rw [if_neg z, if_neg z]
theorem edP_ok {ps : List (KL × KL)} (g : GoodP ps) {e : Int × D} (he : e.1 ∈ U7) :
    GoodP (edP ps (one e)) ∧ (∀ j, lastR (edP ps (one e)) j = if e.1 = j then opD e.2 else lastR ps j) ∧ (edP ps (one e)).length = (if opD e.2 = lastR ps e.1 then 0 else 1) + ps.length := by
  obtain ⟨r, c, hl, or_⟩ := g.ex
  have gg := edG_gt or_ (one_okK he)
  have lr : ∀ j, lastR ps j = gt r j := fun j => by rw [lastR, hl]
  have e0 : edP ps (one e) = if edB r (one e) = true then ps else ps ++ [(edG r (one e), edC ps.length r c (one e))] := by rw [edP, hl]
  have same : (edB r (one e) = true) ↔ opD e.2 = gt r e.1 := by
    unfold edB
    rw [decide_eq_true_iff]
    constructor
    · intro z
      have := z e.1
      rw [gg, goal_one, if_pos rfl] at this
      exact this
    · intro z i
      rw [gg, goal_one]
      by_cases y : e.1 = i
      · rw [if_pos y, z, y]
      · rw [if_neg y]
  by_cases z : edB r (one e) = true
  · rw [e0, if_pos z]
    have zz := same.mp z
    refine ⟨g, fun j => ?_, by rw [lr, if_pos zz, Nat.zero_add]⟩
    by_cases y : e.1 = j
    · rw [if_pos y, lr, ← y, zz]
    · rw [if_neg y]
  · rw [e0, if_neg z]
    have nz : ¬ opD e.2 = gt r e.1 := fun y => z (same.mpr y)
    have l2 : (ps ++ [(edG r (one e), edC ps.length r c (one e))])[(ps ++ [(edG r (one e), edC ps.length r c (one e))]).length - 1]? = some (edG r (one e), edC ps.length r c (one e)) := by simp
    refine ⟨⟨_, _, l2, okK_ofL _⟩, fun j => ?_, by rw [lr, if_neg nz, List.length_append, List.length_singleton]; omega⟩
    rw [lastR, l2]
    show gt (edG r (one e)) j = _
    rw [gg, goal_one, lr]
theorem edP_pre (ps : List (KL × KL)) (rows : KL) : ∃ x, edP ps rows = ps ++ x := by
  unfold edP
  split
  · split
    · exact ⟨[], by simp⟩
    · exact ⟨_, rfl⟩
  · exact ⟨[], by simp⟩
end LW
namespace LW
open PySem PySem.Spec PyProof.Rows L2 DL TL
variable {c : C} {o : List (Nat × Bool)} {sh : List Nat} {Φ : KX} {w m : Nat} {s st : Store} {n t sp ss p : Nat} {cs : List D} {P : Int} {l : VL} {T r cc : KL} {ps : List (KL × KL)}
theorem put_ok (h : GWd Φ w s n t sp ss n cs P l T ps) (hS : P < 60) {i : Int} {vs : List D} (hi : 1 ≤ i ∧ i ≤ 9) (vl : vs.length = w) (vv : ∀ v ∈ vs, valB v = true) :
    ∃ s' P' l' T', m_Table_put_row [.ref t, .int i, .tup vs] s = some (.int P', s') ∧ Fm [t, sp, ss] s s' ∧ GWd Φ w s' n t sp ss n cs P' l' T' (edP ps (one (i, .tup vs))) ∧ ((∀ v : Int, 0 ≤ v → v ≤ P → v ∈ l.map (·.1)) → ∀ v : Int, 0 ≤ v → v ≤ P' → v ∈ l'.map (·.1)) := by
  have iU : i ∈ U7 := U7_mem hi
  have i1 : 1 ≤ i ∧ i ≤ 1000000 := by omega
  have d1 := h.d1
  have d2 := h.d2
  have d3 := h.d3
  obtain ⟨s', g1, g2, g3⟩ := gput_ok U7_len h.tab h.ll h.lp iU i1 (vs := vs) (by rw [h.cl]; exact vl) vv
  have fm : Fm [t, sp, ss] s _ := ⟨g3.le, fun m hm hn => g3.at_ m hm (by simp at hn; omega) (by simp at hn; omega) (by simp at hn; omega)⟩
  have tp := Tp.of h.tp (g3.at_ n h.tp.lt d1 d2 d3)
  have fx : KXat Φ _ := h.fx.of fun m o em hl => g3.at_ m hl (KXat.ne em h.fb.2.1) (KXat.ne em h.fb.2.2.1) (KXat.ne em h.fb.2.2.2.1)
  obtain ⟨a, b⟩ := h.edit hS (one_okK (e := (i, .tup vs)) iU) (fun q hq => by rw [List.mem_singleton.mp hq]; exact .inr ⟨vs, rfl, vl, vv⟩) tp g2 fx
  exact ⟨s', _, _, _, g1, fm, a, b⟩
/-- the addresses of a table -/
structure Ad where
  t : Nat
  sp : Nat
  ss : Nat
def Ad.ls (a : Ad) : List Nat := [a.t, a.sp, a.ss]
/-- one table, all its versions known -/
def Tb (Φ : KX) (w : Nat) (s : Store) (n : Nat) (a : Ad) (cs : List D) (ps : List (KL × KL)) : Prop := ∃ P l T, GWd Φ w s n a.t a.sp a.ss n cs P l T ps ∧ ∀ v : Int, 0 ≤ v → v ≤ P → v ∈ l.map (·.1)
variable {a b : Ad} {pa pb : List (KL × KL)}
theorem Tb.app (h : Tb Φ w s n a cs ps) (m : Store) : Tb Φ w (s ++ m) n a cs ps := let ⟨P, l, T, g, fu⟩ := h; ⟨P, l, T, g.app m, fu⟩
theorem Tb.fr (h : Tb Φ w s n a cs ps) {s' : Store} (tp : Tp s' n) (f : Fr n s s') : Tb Φ w s' n a cs ps := let ⟨P, l, T, g, fu⟩ := h; ⟨P, l, T, g.fr tp f, fu⟩
theorem Tb.tp (h : Tb Φ w s n a cs ps) : Tp s n := let ⟨P, l, T, g, fu⟩ := h; g.tp
theorem edP_len (ps : List (KL × KL)) (rows : KL) : (edP ps rows).length ≤ ps.length + 1 := by
  unfold edP
  split
  · split <;> simp
  · simp
def nmB (cs : List D) : Bool := (okD (.tup cs) && decide (wD (.tup cs) ≤ 200000)) && (colsB (.tup cs) && cs.all valB)
theorem tb_new (tb : Tp s n) (fx : KXat Φ s) (fn : Φ n = none) (nb : nmB cs = true) (hcl : cs.length = w) (w0 : 0 < w) (cw : w ≤ 10) :
    m_Table___init__ [.ref s.length, .tup cs] (s ++ [.ins "Table" []]) = some (.non, s ++ [.ins "Table" (tabF cs 0 (s.length + 1) (s.length + 2)), .dct (mkV [(0, [])]), .dct []]) ∧
    Tb Φ w (s ++ [.ins "Table" (tabF cs 0 (s.length + 1) (s.length + 2)), .dct (mkV [(0, [])]), .dct []]) n ⟨s.length, s.length + 1, s.length + 2⟩ cs [([], [])] := by
  unfold nmB at nb
  rw [Bool.and_eq_true, Bool.and_eq_true, Bool.and_eq_true] at nb
  obtain ⟨⟨n1, n2⟩, n3, n4⟩ := nb
  obtain ⟨i1, i2⟩ := ginit_ok (U := U7) (st := s) (n := s.length) rfl ⟨n1, of_decide_eq_true n2⟩ n3 (by omega)
  have hn := tb.lt
  refine ⟨i1, 0, [(0, [])], [], ⟨Tp.of tb ?_, i2, ⟨⟨fun i d e => (by cases e), trivial⟩, fun i => rfl⟩, by simp, fun v r c hv => ?_, ⟨fun i => ?_, trivial⟩, by simp; omega, by simp; omega, by simp; omega, hcl, w0, cw, by decide, fx.app _, fn, fx.new (Nat.le_refl _), fx.new (by simp), fx.new (by simp), fn⟩, fun v h0 h1 => ?_⟩
  · rw [List.getElem?_append_left hn]
  · have hv0 : v = 0 := by
      have := at_some hv
      simp at this
      exact this
    subst hv0
    have e : (([] : KL), ([] : KL)) = (r, c) := Option.some.inj hv
    cases e
    exact ⟨okK.nil, okK.nil, fun _ _ h => (by cases h), fun _ => rfl, fun _ _ h => (by cases h)⟩
  · rfl
  · have e : v = 0 := by omega
    subst e; simp
theorem good_new : GoodP [([], [])] := ⟨⟨[], [], rfl, okK.nil⟩⟩
/-- nine rows put -/
structure Grow (m : Nat) (ps : List (KL × KL)) : Prop where
  g : GoodP ps
  l : ps.length ≤ m + 1
  z : m = 0 → ps = [([], [])]
  k : 1 ≤ m → 2 ≤ ps.length
theorem Grow.next {m : Nat} (h : Grow m ps) {i : Int} {vs : List D} (hi : 1 ≤ i ∧ i ≤ 9) : Grow (m + 1) (edP ps (one (i, .tup vs))) := by
  obtain ⟨g1, _, g3⟩ := edP_ok h.g (e := (i, .tup vs)) (U7_mem hi)
  have ln := edP_len ps (one (i, .tup vs))
  refine ⟨g1, by have := h.l; omega, fun e => by omega, fun _ => ?_⟩
  by_cases z : m = 0
  · rw [g3, h.z z]
    have : ¬ opD (.tup vs) = lastR [([], [])] i := by
      show ¬ (some (D.tup vs) = none)
      simp
    rw [if_neg this]
    decide
  · have := h.k (by omega)
    obtain ⟨x, hx⟩ := edP_pre ps (one (i, .tup vs))
    rw [hx, List.length_append]; omega
theorem Tb.put (h : Tb Φ w s n a cs ps) (hl : ps.length ≤ 60) {i : Int} {vs : List D} (hi : 1 ≤ i ∧ i ≤ 9) (vl : vs.length = w) (vv : ∀ v ∈ vs, valB v = true) :
    ∃ s' P', m_Table_put_row [.ref a.t, .int i, .tup vs] s = some (.int P', s') ∧ Tb Φ w s' n a cs (edP ps (one (i, .tup vs))) := by
  obtain ⟨P, l, T, g, fu⟩ := h
  have hlen := g.len
  obtain ⟨s', P', l', T', g1, _, g2, fu2⟩ := put_ok g (by omega) hi vl vv
  exact ⟨s', P', g1, P', l', T', g2, fu2 fu⟩
end LW
namespace LW
open PySem PySem.Spec PyProof.Rows L2 DL TL
variable {o : List (Nat × Bool)}
/-! keys that are alike are the same -/
theorem sgn_same : ∀ {ks ls : List D} {o : List (Nat × Bool)} {i j : Int}, ks.length = o.length → ls.length = o.length → (∀ v ∈ ks, pvB v = true) → (∀ v ∈ ls, pvB v = true) → sgn (tri ks ls o) i j = 0 → ks = ls ∧ i = j
  | [], [], [], i, j, _, _, _, _, h => ⟨rfl, sgn_zero h⟩
  | a :: ks, b :: ls, p :: o, i, j, h1, h2, hv, hu, h => by
    rw [tri_cons, sgn_cons] at h
    by_cases e : vEq a b = true
    · rw [if_pos e] at h
      obtain ⟨e1, e2⟩ := sgn_same (ks := ks) (ls := ls) (o := o) (by simpa using h1) (by simpa using h2) (fun v m => hv v (List.mem_cons_of_mem _ m)) (fun v m => hu v (List.mem_cons_of_mem _ m)) h
      exact ⟨by rw [e1, vEq_eq (hv a List.mem_cons_self) (hu b List.mem_cons_self) e], e2⟩
    · rw [if_neg e] at h
      split at h <;> cases h
  | [], _ :: _, [], _, _, _, h2, _, _, _ => by cases h2
  | _ :: _, _, [], _, _, h1, _, _, _, _ => by cases h1
  | [], _, _ :: _, _, _, h1, _, _, _, _ => by cases h1
  | _ :: _, [], _ :: _, _, _, _, h2, _, _, _ => by cases h2
theorem S_eq {p q : Kt} (hp : KOk o p.1 p.2) (hq : KOk o q.1 q.2) (h : S o p q = 0) : p = q := by
  obtain ⟨e1, e2⟩ := sgn_same hp.l hq.l hp.v hq.v h
  exact Prod.ext e1 e2
/-! a list cut by a property that its beginning has -/
section
variable {α : Type} {p r : α → Bool}
theorem pre_split : ∀ {L : List α}, L.Pairwise (fun x y => p y = true → p x = true) → L.take (L.filter p).length = L.filter p ∧ L.drop (L.filter p).length = L.filter fun x => !p x
  | [], _ => ⟨rfl, rfl⟩
  | x :: L, h => by
    obtain ⟨h1, h2⟩ := List.pairwise_cons.mp h
    obtain ⟨a, b⟩ := pre_split h2
    by_cases z : p x = true
    · rw [List.filter_cons, if_pos z, List.filter_cons, if_neg (by simp [z])]
      rw [List.length_cons, List.take_succ_cons, List.drop_succ_cons, a, b]
      exact ⟨rfl, rfl⟩
    · have e : L.filter p = [] := List.filter_eq_nil_iff.mpr fun y hy q => z (h1 y hy q)
      have e2 : L.filter (fun x => !p x) = L := List.filter_eq_self.mpr fun y hy => by
        have := List.filter_eq_nil_iff.mp e y hy
        simpa using this
      rw [List.filter_cons, if_neg z, List.filter_cons, if_pos (by simp [z]), e, e2]
      exact ⟨rfl, rfl⟩
theorem pre_at {L : List α} (h : L.Pairwise (fun x y => p y = true → p x = true)) {m : Nat} {x : α} (hm : L[m]? = some x) : p x = true ↔ m < (L.filter p).length := by
  obtain ⟨a, b⟩ := pre_split h
  constructor
  · intro q
    refine Classical.byContradiction fun n => ?_
    have : (L.drop (L.filter p).length)[m - (L.filter p).length]? = some x := by
      rw [List.getElem?_drop, show (L.filter p).length + (m - (L.filter p).length) = m by omega, hm]
    rw [b] at this
    have := (List.mem_filter.mp (List.mem_of_getElem? this)).2
    simp [q] at this
  · intro q
    have : (L.take (L.filter p).length)[m]? = some x := by rw [List.getElem?_take, if_pos q, hm]
    rw [a] at this
    exact (List.mem_filter.mp (List.mem_of_getElem? this)).2
theorem cut_mid : ∀ {L : List α}, L.Pairwise (fun x y => p y = true → p x = true) → L.Pairwise (fun x y => r y = true → r x = true) → (L.take (L.filter r).length).drop (L.filter p).length = L.filter fun x => !p x && r x
  | [], _, _ => by simp
  | x :: L, hp, hr => by
    obtain ⟨p1, p2⟩ := List.pairwise_cons.mp hp
    obtain ⟨r1, r2⟩ := List.pairwise_cons.mp hr
    have ih := cut_mid p2 r2
    have nil : ∀ {q : α → Bool}, (∀ y ∈ L, q y = true → q x = true) → ¬ q x = true → L.filter q = [] := fun h z => List.filter_eq_nil_iff.mpr fun y hy w => z (h y hy w)
    by_cases zr : r x = true
    · rw [List.filter_cons (p := r), if_pos zr, List.length_cons, List.take_succ_cons]
      by_cases zp : p x = true
      · rw [List.filter_cons (p := p), if_pos zp, List.length_cons, List.drop_succ_cons, ih, List.filter_cons, if_neg (by simp [zp])]
      · have e := nil p1 zp
        rw [e] at ih
        rw [List.filter_cons (p := p), if_neg zp, e, List.filter_cons, if_pos (by simp [zp, zr]), ← ih]
        rfl
    · have e := nil r1 zr
      rw [List.filter_cons (p := r), if_neg zr, e, List.length_nil, List.take_zero, List.drop_nil]
      refine (List.filter_eq_nil_iff.mpr fun y hy w => ?_).symm
      have w' : r y = true := by simp at w; exact w.2
      rcases List.mem_cons.mp hy with rfl | m
      · exact zr w'
      · exact zr (r1 y m w')
end
/-! the keys of a listing, each with its version -/
abbrev LsL := List (Kt × Int)
structure LOk (o : List (Nat × Bool)) (L : LsL) : Prop where
  ok : ∀ e ∈ L, KOk o e.1.1 e.1.2
  pw : L.Pairwise fun x y => S o x.1 y.1 < 0
theorem LOk.nil : LOk o [] := ⟨fun e h => (by cases h), .nil⟩
def ltK (o : List (Nat × Bool)) (q : Kt) (e : Kt × Int) : Bool := decide (S o e.1 q < 0)
def gtK (o : List (Nat × Bool)) (q : Kt) (e : Kt × Int) : Bool := decide (0 < S o e.1 q)
def rk (o : List (Nat × Bool)) (L : LsL) (q : Kt) : Nat := (L.filter (ltK o q)).length
def hasK (o : List (Nat × Bool)) (L : LsL) (q : Kt) : Bool := L.any fun e => decide (S o e.1 q = 0)
def putL (o : List (Nat × Bool)) (L : LsL) (q : Kt) (v : Int) : LsL := L.filter (ltK o q) ++ (q, v) :: L.filter (gtK o q)
def dropL (o : List (Nat × Bool)) (L : LsL) (q : Kt) : LsL := L.filter (ltK o q) ++ L.filter (gtK o q)
theorem pw_mem {α : Type} {R : α → α → Prop} {L : List α} (h : L.Pairwise R) {Q : α → α → Prop} (f : ∀ x ∈ L, ∀ y ∈ L, R x y → Q x y) : L.Pairwise Q := List.Pairwise.imp_of_mem (fun hx hy r => f _ hx _ hy r) h
theorem LOk.pre {L : LsL} (h : LOk o L) {q : Kt} (hq : KOk o q.1 q.2) : L.Pairwise (fun x y => ltK o q y = true → ltK o q x = true) := pw_mem h.pw fun x hx y hy r w => by
  have w' : S o y.1 q < 0 := by simpa [ltK] using w
  have := (S_trans (h.ok x hx) (h.ok y hy) hq (by omega) (by omega)).2 (.inl r)
  simpa [ltK] using this
theorem LOk.tri {L : LsL} (h : LOk o L) {q : Kt} (hq : KOk o q.1 q.2) : hasK o L q = (match L[rk o L q]? with | some e => decide (S o e.1 q = 0) | none => false) := by
  have pre := h.pre hq
  cases e : L[rk o L q]? with
  | none =>
    refine List.any_eq_false.mpr fun x hx => ?_
    obtain ⟨m, hm⟩ := List.mem_iff_getElem?.mp hx
    have : L.length ≤ rk o L q := List.getElem?_eq_none_iff.mp e
    have ml := (List.getElem?_eq_some_iff.mp hm).1
    have : ltK o q x = true := (pre_at pre hm).mpr (by show m < rk o L q; omega)
    have : S o x.1 q < 0 := by simpa [ltK] using this
    simp; omega
  | some y =>
    show _ = decide (S o y.1 q = 0)
    have ny : ¬ S o y.1 q < 0 := fun z => by
      have := (pre_at pre e).mp (by simpa [ltK] using z)
      exact Nat.lt_irrefl _ this
    have my := List.mem_of_getElem? e
    by_cases z : S o y.1 q = 0
    · rw [decide_eq_true z]
      exact List.any_eq_true.mpr ⟨y, my, by simpa using z⟩
    · rw [decide_eq_false z]
      refine List.any_eq_false.mpr fun x hx => ?_
      obtain ⟨m, hm⟩ := List.mem_iff_getElem?.mp hx
      have ox := h.ok x hx
      have oy := h.ok y my
      intro w
      have w' : S o x.1 q = 0 := by simpa using w
      have exq := S_eq ox hq w'
      have hml := (List.getElem?_eq_some_iff.mp hm)
      have hyl := (List.getElem?_eq_some_iff.mp e)
      rcases Nat.lt_trichotomy m (rk o L q) with c | c | c
      · have := (pre_at pre hm).mpr c
        have : S o x.1 q < 0 := by simpa [ltK] using this
        omega
      · rw [c, e] at hm
        cases hm
        exact z w'
      · have := List.pairwise_iff_getElem.mp h.pw _ _ hyl.1 hml.1 c
        rw [hyl.2, hml.2, exq] at this
        omega
theorem LOk.put {L : LsL} (h : LOk o L) {q : Kt} (hq : KOk o q.1 q.2) (v : Int) : LOk o (putL o L q v) := by
  refine ⟨fun e he => ?_, ?_⟩
  · rcases List.mem_append.mp he with m | m
    · exact h.ok e (List.mem_filter.mp m).1
    · rcases List.mem_cons.mp m with rfl | m
      · exact hq
      · exact h.ok e (List.mem_filter.mp m).1
  · refine List.pairwise_append.mpr ⟨h.pw.sublist List.filter_sublist, List.pairwise_cons.mpr ⟨fun y hy => ?_, h.pw.sublist List.filter_sublist⟩, fun x hx y hy => ?_⟩
    · obtain ⟨m, w⟩ := List.mem_filter.mp hy
      have : 0 < S o y.1 q := by simpa [gtK] using w
      have := S_anti (h.ok y m) hq
      show S o q y.1 < 0
      omega
    · obtain ⟨m, w⟩ := List.mem_filter.mp hx
      have w' : S o x.1 q < 0 := by simpa [ltK] using w
      rcases List.mem_cons.mp hy with rfl | hy
      · exact w'
      · obtain ⟨m2, w2⟩ := List.mem_filter.mp hy
        have w2' : 0 < S o y.1 q := by simpa [gtK] using w2
        have a := S_anti (h.ok y m2) hq
        exact (S_trans (h.ok x m) hq (h.ok y m2) (by omega) (by omega)).2 (.inl w')
theorem LOk.drop {L : LsL} (h : LOk o L) {q : Kt} (hq : KOk o q.1 q.2) : LOk o (dropL o L q) := by
  have s : (dropL o L q).Sublist (putL o L q 0) := List.Sublist.append (List.Sublist.refl _) (List.sublist_cons_self _ _)
  have k := h.put hq 0
  exact ⟨fun e he => k.ok e (s.subset he), k.pw.sublist s⟩
theorem putL_mem {L : LsL} (h : LOk o L) {q : Kt} (hq : KOk o q.1 q.2) {v : Int} {x : Kt × Int} : x ∈ putL o L q v ↔ x = (q, v) ∨ (x ∈ L ∧ x.1 ≠ q) := by
  constructor
  · intro m
    rcases List.mem_append.mp m with m | m
    · obtain ⟨m, w⟩ := List.mem_filter.mp m
      have w' : S o x.1 q < 0 := by simpa [ltK] using w
      exact .inr ⟨m, fun e => by rw [e, S_self hq] at w'; omega⟩
    · rcases List.mem_cons.mp m with rfl | m
      · exact .inl rfl
      · obtain ⟨m, w⟩ := List.mem_filter.mp m
        have w' : 0 < S o x.1 q := by simpa [gtK] using w
        exact .inr ⟨m, fun e => by rw [e, S_self hq] at w'; omega⟩
  · rintro (rfl | ⟨m, ne⟩)
    · exact List.mem_append_right _ List.mem_cons_self
    · have nz : S o x.1 q ≠ 0 := fun z => ne (S_eq (h.ok x m) hq z)
      by_cases z : S o x.1 q < 0
      · exact List.mem_append_left _ (List.mem_filter.mpr ⟨m, by simpa [ltK] using z⟩)
      · exact List.mem_append_right _ (List.mem_cons_of_mem _ (List.mem_filter.mpr ⟨m, by simp [gtK]; omega⟩))
/-- what stands behind the place of a key -/
theorem LOk.behind {L : LsL} (h : LOk o L) {q : Kt} (hq : KOk o q.1 q.2) : L.take (rk o L q) = L.filter (ltK o q) ∧ (hasK o L q = false → L.drop (rk o L q) = L.filter (gtK o q)) ∧ (hasK o L q = true → rk o L q < L.length ∧ L.drop (rk o L q + 1) = L.filter (gtK o q)) := by
  obtain ⟨a, b⟩ := pre_split (h.pre hq)
  refine ⟨a, fun z => ?_, fun z => ?_⟩
  · show L.drop (L.filter (ltK o q)).length = _
    rw [b]
    refine List.filter_congr fun x hx => ?_
    have nz : ¬ S o x.1 q = 0 := by
      have := List.any_eq_false.mp z x hx
      simpa using this
    show (!decide (S o x.1 q < 0)) = decide (0 < S o x.1 q)
    by_cases w : S o x.1 q < 0
    · rw [decide_eq_true w, decide_eq_false (by omega)]; rfl
    · rw [decide_eq_false w, decide_eq_true (by omega)]; rfl
  · rw [h.tri hq] at z
    cases e : L[rk o L q]? with
    | none => rw [e] at z; cases z
    | some y =>
      rw [e] at z
      have z' : S o y.1 q = 0 := by simpa using z
      have yl := List.getElem?_eq_some_iff.mp e
      have eq := S_eq (h.ok y (List.mem_of_getElem? e)) hq z'
      refine ⟨yl.1, ?_⟩
      have dr : L.drop (rk o L q) = y :: L.drop (rk o L q + 1) := by rw [List.drop_eq_getElem_cons yl.1, yl.2]
      have b' : L.drop (rk o L q) = L.filter fun x => !ltK o q x := b
      have pwd : (L.drop (rk o L q)).Pairwise fun x y => S o x.1 y.1 < 0 := h.pw.sublist (List.drop_sublist _ _)
      rw [dr] at pwd
      obtain ⟨g1, _⟩ := List.pairwise_cons.mp pwd
      have mem : ∀ x ∈ L.drop (rk o L q + 1), x ∈ L := fun x hx => List.mem_of_mem_drop hx
      have all : (L.drop (rk o L q + 1)).filter (gtK o q) = L.drop (rk o L q + 1) := List.filter_eq_self.mpr fun x hx => by
        have := g1 x hx
        rw [eq] at this
        have a := S_anti (h.ok x (mem x hx)) hq
        simp [gtK]; omega
      have pre0 : (L.take (rk o L q)).filter (gtK o q) = [] := List.filter_eq_nil_iff.mpr fun x hx => by
        rw [show L.take (rk o L q) = _ from a] at hx
        have := (List.mem_filter.mp hx).2
        simp [ltK] at this
        simp [gtK]; omega
      have e2 : L.filter (gtK o q) = (L.take (rk o L q)).filter (gtK o q) ++ (L.drop (rk o L q)).filter (gtK o q) := by rw [← List.filter_append, List.take_append_drop]
      rw [e2, pre0, dr, List.filter_cons, if_neg (by simp [gtK, z']), all]
      rfl
/-- rank of a mark, what lies between two -/
def rankM (o : List (Nat × Bool)) (L : LsL) (a : Mk) : Nat := (L.filter fun e => !past o a e.1).length
theorem LOk.preM {L : LsL} (h : LOk o L) {a : Mk} (ha : a.ok o) : L.Pairwise (fun x y => (!past o a y.1) = true → (!past o a x.1) = true) := pw_mem h.pw fun x hx y hy r w => by
  cases a with
  | st => exact w
  | en => exact w
  | k p f =>
    have hp : KOk o p.1 p.2 := ha
    have ox := h.ok x hx
    have oy := h.ok y hy
    simp only [past, Bool.not_eq_true', Bool.or_eq_false_iff, Bool.and_eq_false_iff, decide_eq_false_iff_not, Bool.not_eq_false'] at w ⊢
    have t := S_trans ox oy hp (by omega) (by omega)
    have := t.2 (.inl r)
    exact ⟨by omega, .inl (by omega)⟩
theorem rank_k {L : LsL} (h : LOk o L) {q : Kt} (hq : KOk o q.1 q.2) (f : Bool) : rankM o L (.k q f) = rk o L q + (if f = true ∧ hasK o L q = true then 1 else 0) := by
  obtain ⟨a, b, c⟩ := h.behind hq
  cases f with
  | false =>
    have e : (L.filter fun e => !past o (.k q false) e.1) = L.filter (ltK o q) := List.filter_congr fun x hx => by
      show (!(decide (0 < S o x.1 q) || (decide (S o x.1 q = 0) && true))) = decide (S o x.1 q < 0)
      by_cases w : S o x.1 q < 0
      · rw [decide_eq_true w, decide_eq_false (by omega), decide_eq_false (by omega)]; rfl
      · rw [decide_eq_false w]
        by_cases z : S o x.1 q = 0
        · rw [decide_eq_true z]; simp
        · rw [decide_eq_true (show 0 < S o x.1 q by omega)]; rfl
    unfold rankM
    rw [e]
    simp [rk]
  | true =>
    have e : (L.filter fun e => !past o (.k q true) e.1) = L.filter fun x => !gtK o q x := List.filter_congr fun x hx => by
      show (!(decide (0 < S o x.1 q) || (decide (S o x.1 q = 0) && false))) = !decide (0 < S o x.1 q)
      simp
    have tot : (L.filter fun x => !gtK o q x).length + (L.filter (gtK o q)).length = L.length := by
      clear e a b c h
      induction L with
      | nil => rfl
      | cons x L ih =>
        rw [List.filter_cons, List.filter_cons]
        by_cases z : gtK o q x = true
        · simp only [z, Bool.not_true, Bool.false_eq_true, if_false, if_true, List.length_cons]; omega
        · have z' : gtK o q x = false := by simpa using z
          simp only [z', Bool.not_false, Bool.false_eq_true, if_false, if_true, List.length_cons]; omega
    unfold rankM
    rw [e]
    have rl : rk o L q ≤ L.length := List.length_filter_le _ _
    cases z : hasK o L q with
    | false =>
      have := b z
      have := congrArg List.length this
      rw [List.length_drop] at this
      simp
      omega
    | true =>
      obtain ⟨c1, c2⟩ := c z
      have := congrArg List.length c2
      rw [List.length_drop] at this
      simp
      omega
theorem mid_ok {L : LsL} (h : LOk o L) {a b : Mk} (ha : a.ok o) (hb : b.ok o) : (L.take (rankM o L b)).drop (rankM o L a) = L.filter fun e => btw o a b e.1 := by
  have := cut_mid (h.preM ha) (h.preM hb)
  rw [rankM, rankM, this]
  exact List.filter_congr fun x hx => by simp [btw]
theorem cutM {α : Type} {xs : List α} {i j : Nat} (hi : i ≤ xs.length) (hj : j ≤ xs.length) : DL.cutD xs (some (i : Int)) (some (j : Int)) = (xs.take j).drop i := by
  unfold DL.cutD
  rw [HT.sIx_nat, HT.sIx_nat, List.drop_take, Nat.min_eq_left hi, Nat.min_eq_left hj]
end LW
namespace LW
open PySem PySem.Spec PyProof.Rows L2 DL TL
variable {o : List (Nat × Bool)} {cn : C} {sh : List Nat} {s : Store} {t a b c : Nat} {L : LsL} {vd : D}
def lsF (vd : D) (a b c : Nat) : List (Str × D) := [("_view", vd), ("_places", .ref a), ("_keys", .ref b), ("_versions", .ref c)]
theorem lk_lv (vd : D) (a b c : Nat) : List.lookup ("_view" : Str) (lsF vd a b c) = some vd := rfl
theorem lk_lp (vd : D) (a b c : Nat) : List.lookup ("_places" : Str) (lsF vd a b c) = some (.ref a) := rfl
theorem lk_lk (vd : D) (a b c : Nat) : List.lookup ("_keys" : Str) (lsF vd a b c) = some (.ref b) := rfl
theorem lk_ls (vd : D) (a b c : Nat) : List.lookup ("_versions" : Str) (lsF vd a b c) = some (.ref c) := rfl
def plE (o : List (Nat × Bool)) (e : Kt × Int) : D := kpD e.1.1 o e.1.2
def ksE (e : Kt × Int) : D := KD e.1.1 e.1.2
def vsE (e : Kt × Int) : D := .int e.2
/-- a listing in the store -/
structure Lst (o : List (Nat × Bool)) (vd : D) (s : Store) (t a b c : Nat) (L : LsL) : Prop where
  ins : insAt "Listing" t s = some (lsF vd a b c)
  pl : s[a]? = some (.lst (L.map (plE o)))
  ks : s[b]? = some (.lst (L.map ksE))
  vs : s[c]? = some (.lst (L.map vsE))
  ok : LOk o L
  ab : a ≠ b
  ac : a ≠ c
  bc : b ≠ c
theorem Lst.noF (h : Lst o vd s t a b c L) {m : Str} (hm : List.lookup m (lsF vd a b c) = none) : DL.noF m (insAt "Listing" t s) = true := by
  rw [h.ins]
  simp [DL.noF, hm]
theorem Lst.fv (h : Lst o vd s t a b c L) {e : Lo} {j : Nat} (he : e[j]? = some (some (.ref t))) : fFld "Listing" "_view" (fVar j) e s = some (vd, s) := by
  simp [fFld, fVar, he, h.ins, lk_lv]
theorem Lst.fp (h : Lst o vd s t a b c L) {e : Lo} {j : Nat} (he : e[j]? = some (some (.ref t))) : fFld "Listing" "_places" (fVar j) e s = some (.ref a, s) := by
  simp [fFld, fVar, he, h.ins, lk_lp]
theorem Lst.fk (h : Lst o vd s t a b c L) {e : Lo} {j : Nat} (he : e[j]? = some (some (.ref t))) : fFld "Listing" "_keys" (fVar j) e s = some (.ref b, s) := by
  simp [fFld, fVar, he, h.ins, lk_lk]
theorem Lst.fs (h : Lst o vd s t a b c L) {e : Lo} {j : Nat} (he : e[j]? = some (some (.ref t))) : fFld "Listing" "_versions" (fVar j) e s = some (.ref c, s) := by
  simp [fFld, fVar, he, h.ins, lk_ls]
theorem atI_nat {α : Type} {xs : List α} {m : Nat} {x : α} (h : xs[m]? = some x) : L2.atI xs (m : Int) = some x := by
  have hl := (List.getElem?_eq_some_iff.mp h).1
  unfold L2.atI
  have : ixN xs.length (m : Int) = some m := by
    simp [ixN]
    omega
  rw [this]
  simpa using h
theorem lt_kp {p q : Kt} (hp : KOk o p.1 p.2) (hq : KOk o q.1 q.2) (ol : o.length ≤ 4) : ltN (kpD p.1 o p.2) (kpD q.1 o q.2) = some (.bl (decide (S o p q < 0))) := by
  have l := lt_pk hp hq ol (S_eq hp hq)
  unfold ltN
  rw [kp_py hp, kp_py hq]
  simp only [Option.bind_some]
  rw [if_pos ⟨kp_shaped hp ol, kp_shaped hq ol⟩]
  show (pyLt (pk o p) (pk o q)).map _ = _
  rw [l]; rfl
theorem eq_kp {p q : Kt} (hp : KOk o p.1 p.2) (hq : KOk o q.1 q.2) (ol : o.length ≤ 4) : opEq (kpD p.1 o p.2) (kpD q.1 o q.2) = some (.bl (decide (S o p q = 0))) := by
  unfold opEq
  rw [kp_py hp, kp_py hq]
  simp only [Option.bind_some]
  rw [if_pos ⟨kp_shaped hp ol, kp_shaped hq ol⟩]
  have := (sgn_eqv p.2 q.2 hp.l hq.l hp.v hq.v).1
  show some (D.bl (PyData.eqvAll (plL p.1 o ++ [.int p.2]) (plL q.1 o ++ [.int q.2]))) = _
  rw [this]; rfl
noncomputable abbrev ffT : FT := fTest (fOp opLt (fVar 2) (fVar 3))
noncomputable abbrev ffB : FS := sSeq q_first_from_2w_0 q_first_from_2w_1
theorem ff_loop (h : LOk o L) {q : Kt} (hq : KOk o q.1 q.2) (ol : o.length ≤ 4) (ha : s[a]? = some (.lst (L.map (plE o)))) (hL : L.length ≤ 1000) : ∀ (n : Nat) {lo hi : Nat} {x4 : Option D}, hi ≤ lo + n → lo ≤ rk o L q → rk o L q ≤ hi → hi ≤ L.length →
    ∃ y4, loopW ffT ffB (n + 1) [some (.ref a), some (kpD q.1 o q.2), some (.int (lo : Int)), some (.int (hi : Int)), x4] s = some (.nx, [some (.ref a), some (kpD q.1 o q.2), some (.int (rk o L q : Int)), some (.int (rk o L q : Int)), y4], s)
  | n, lo, hi, x4, h1, h2, h3, h4 => by
    obtain ⟨Q, hQ⟩ : ∃ Q, Q = kpD q.1 o q.2 := ⟨_, rfl⟩
    by_cases z : lo < hi
    · cases n with
      | zero => omega
      | succ n =>
        obtain ⟨m, hm⟩ : ∃ m, m = (lo + hi) / 2 := ⟨_, rfl⟩
        have ml : m < L.length := by omega
        obtain ⟨e, he⟩ : ∃ e, L[m]? = some e := ⟨L[m], List.getElem?_eq_getElem ml⟩
        have em := List.mem_of_getElem? he
        have pa := pre_at (h.pre hq) he
        have tt : ffT [some (.ref a), some Q, some (.int (lo : Int)), some (.int (hi : Int)), x4] s = some (true, s) := by
          have : (lo : Int) < hi := by omega
          simp [ffT, fTest, fOp, fVar, opLt_int, asB, this]
        have c0 : q_first_from_2w_0 [some (.ref a), some Q, some (.int (lo : Int)), some (.int (hi : Int)), x4] s = some (.nx, [some (.ref a), some Q, some (.int (lo : Int)), some (.int (hi : Int)), some (.int (m : Int))], s) := by
          have : ((lo : Int) + hi) / 2 = (m : Int) := by omega
          simp [q_first_from_2w_0, sAsg, fOp, fVar, fC, opAdd_int, fdivI, onI, gN, this]
        have ix : fSub (fVar 0) (fVar 4) [some (.ref a), some Q, some (.int (lo : Int)), some (.int (hi : Int)), some (.int (m : Int))] s = some (kpD e.1.1 o e.1.2, s) := by
          have : L2.atI (L.map (plE o)) (m : Int) = some (kpD e.1.1 o e.1.2) := atI_nat (by rw [List.getElem?_map, he]; rfl)
          generalize L.map (plE o) = PP at *
          simp [fSub, fVar, ixD, ha, this]
        have lt := lt_kp (h.ok e em) hq ol
        have tc : fTest (fOp ltN (fSub (fVar 0) (fVar 4)) (fVar 1)) [some (.ref a), some Q, some (.int (lo : Int)), some (.int (hi : Int)), some (.int (m : Int))] s = some (decide (S o e.1 q < 0), s) := by
          rw [fTest, fOp, ix]
          simp only [Option.bind_some, u_fVar, List.getElem?_cons_succ, List.getElem?_cons_zero, Option.map_some]
          rw [hQ, lt]
          rfl
        rw [← hQ]
        by_cases w : S o e.1 q < 0
        · have lm : m < rk o L q := pa.mp (by simpa [ltK] using w)
          obtain ⟨y4, ih⟩ := ff_loop h hq ol ha hL n (lo := m + 1) (hi := hi) (x4 := some (.int (m : Int))) (by omega) (by omega) h3 h4
          rw [← hQ] at ih
          refine ⟨y4, ?_⟩
          have c1 : q_first_from_2w_1 [some (.ref a), some Q, some (.int (lo : Int)), some (.int (hi : Int)), some (.int (m : Int))] s = some (.nx, [some (.ref a), some Q, some (.int ((m + 1 : Nat) : Int)), some (.int (hi : Int)), some (.int (m : Int))], s) := by
            rw [q_first_from_2w_1, u_sIf, tc, decide_eq_true w]
            simp only [Option.bind_some, if_true]
            simp [q_first_from_2w_1t_0, sAsg, fOp, fVar, fC, opAdd_int, gN]
          rw [loopW, tt]
          simp only [Option.bind_some, if_true]
          rw [ffB, seq_nx c0, c1]
          simp only [Option.bind_some]
          exact ih
        · have lm : rk o L q ≤ m := by
            refine Classical.byContradiction fun z => w ?_
            have := pa.mpr (by show m < rk o L q; omega)
            simpa [ltK] using this
          obtain ⟨y4, ih⟩ := ff_loop h hq ol ha hL n (lo := lo) (hi := m) (x4 := some (.int (m : Int))) (by omega) h2 lm (by omega)
          rw [← hQ] at ih
          refine ⟨y4, ?_⟩
          have c1 : q_first_from_2w_1 [some (.ref a), some Q, some (.int (lo : Int)), some (.int (hi : Int)), some (.int (m : Int))] s = some (.nx, [some (.ref a), some Q, some (.int (lo : Int)), some (.int (m : Int)), some (.int (m : Int))], s) := by
            rw [q_first_from_2w_1, u_sIf, tc, decide_eq_false w]
            simp only [Option.bind_some, Bool.false_eq_true, if_false]
            simp [q_first_from_2w_1e_0, sAsg, fVar, gN]
          rw [loopW, tt]
          simp only [Option.bind_some, if_true]
          rw [ffB, seq_nx c0, c1]
          simp only [Option.bind_some]
          exact ih
    · have e1 : lo = rk o L q := by omega
      have e2 : hi = rk o L q := by omega
      subst e1
      subst e2
      refine ⟨x4, ?_⟩
      rw [← hQ, loopW]
      have tt : ffT [some (.ref a), some Q, some (.int (rk o L q : Int)), some (.int (rk o L q : Int)), x4] s = some (false, s) := by
        simp [ffT, fTest, fOp, fVar, opLt_int, asB]
      rw [tt]
      simp
theorem first_ok (h : LOk o L) {q : Kt} (hq : KOk o q.1 q.2) (ol : o.length ≤ 4) (ha : s[a]? = some (.lst (L.map (plE o)))) (hL : L.length ≤ 1000) : m_first_from [.ref a, kpD q.1 o q.2] s = some (.int (rk o L q : Int), s) := by
  have rl : rk o L q ≤ L.length := List.length_filter_le _ _
  obtain ⟨y4, hw⟩ := ff_loop h hq ol ha hL L.length (lo := 0) (hi := L.length) (x4 := none) (by omega) (by omega) rl (Nat.le_refl _)
  have wl := while_of hw
  obtain ⟨Q, hQ⟩ : ∃ Q, Q = kpD q.1 o q.2 := ⟨_, rfl⟩
  rw [← hQ] at wl ⊢
  have c0 : q_first_from_0 [some (.ref a), some Q, none, none, none] s = some (.nx, [some (.ref a), some Q, some (.int 0), none, none], s) := by simp [q_first_from_0, sAsg, fC, gN]
  have c1 : q_first_from_1 [some (.ref a), some Q, some (.int 0), none, none] s = some (.nx, [some (.ref a), some Q, some (.int 0), some (.int (L.length : Int)), none], s) := by
    have e : (L.map (plE o)).length = L.length := List.length_map _
    generalize L.map (plE o) = PP at *
    simp [q_first_from_1, sAsg, fMk, bLen, lenL, lenK, aCons, aNil, fVar, ha, gN, e]
  rw [m_first_from, g_first_from]
  show outM (sSeq q_first_from_0 _ [some (.ref a), some Q, none, none, none] s) = _
  rw [seq_nx c0, seq_nx c1, seq_nx (show q_first_from_2 [some (.ref a), some Q, some (.int 0), some (.int (L.length : Int)), none] s = _ from wl)]
  simp [q_first_from_3, sRet, fVar, outM]
theorem holds_ok (h : Lst o vd s t a b c L) {q : Kt} (hq : KOk o q.1 q.2) (ol : o.length ≤ 4) (hL : L.length ≤ 1000) : m_Listing__holds [.ref t, .int (rk o L q : Int), kpD q.1 o q.2] s = some (.bl (hasK o L q), s) := by
  rw [h.ok.tri hq]
  obtain ⟨Q, hQ⟩ : ∃ Q, Q = kpD q.1 o q.2 := ⟨_, rfl⟩
  rw [← hQ]
  have f1 : fFld "Listing" "_places" (fVar 0) [some (.ref t), some (.int (rk o L q : Int)), some Q] s = some (.ref a, s) := h.fp rfl
  have pl := h.pl
  have el : (L.map (plE o)).length = L.length := List.length_map _
  have f2 : fMk bLen (aCons (fFld "Listing" "_places" (fVar 0)) aNil) [some (.ref t), some (.int (rk o L q : Int)), some Q] s = some (.int (L.length : Int), s) := by
    rw [u_fMk, aCons, f1]
    generalize L.map (plE o) = PP at *
    simp [bLen, lenL, lenK, aNil, pl, el]
  have f3 : fOp opLt (fVar 1) (fMk bLen (aCons (fFld "Listing" "_places" (fVar 0)) aNil)) [some (.ref t), some (.int (rk o L q : Int)), some Q] s = some (.bl (decide (rk o L q < L.length)), s) := by
    rw [fOp, show fVar 1 [some (D.ref t), some (.int (rk o L q : Int)), some Q] s = some (.int (rk o L q : Int), s) from rfl]
    simp only [Option.bind_some]
    rw [f2]
    simp [opLt_int]
  rw [m_Listing__holds, g_Listing__holds]
  show outM (q_Listing__holds_0 [some (.ref t), some (.int (rk o L q : Int)), some Q] s) = _
  rw [q_Listing__holds_0, u_sRet, fAnd, f3]
  cases e : L[rk o L q]? with
  | none =>
    have : ¬ rk o L q < L.length := by have := List.getElem?_eq_none_iff.mp e; omega
    rw [decide_eq_false this]
    simp [asB, outM]
  | some y =>
    have lt := (List.getElem?_eq_some_iff.mp e).1
    rw [decide_eq_true lt]
    have ix : fSub (fFld "Listing" "_places" (fVar 0)) (fVar 1) [some (.ref t), some (.int (rk o L q : Int)), some Q] s = some (kpD y.1.1 o y.1.2, s) := by
      have : L2.atI (L.map (plE o)) (rk o L q : Int) = some (kpD y.1.1 o y.1.2) := atI_nat (by rw [List.getElem?_map, e]; rfl)
      rw [fSub, f1]
      generalize L.map (plE o) = PP at *
      simp [fVar, ixD, pl, this]
    have eq := eq_kp (h.ok.ok y (List.mem_of_getElem? e)) hq ol
    simp only [asB, Option.bind_some, if_true]
    rw [fOp, ix]
    simp only [Option.bind_some, u_fVar, List.getElem?_cons_succ, List.getElem?_cons_zero, Option.map_some]
    rw [hQ, eq]
    rfl
theorem has_split (h : LOk o L) {q : Kt} (hq : KOk o q.1 q.2) (z : hasK o L q = true) : ∃ w : Int, L = L.filter (ltK o q) ++ (q, w) :: L.filter (gtK o q) ∧ (L.filter (ltK o q)).length = rk o L q := by
  obtain ⟨b1, _, b3⟩ := h.behind hq
  obtain ⟨lt, dr⟩ := b3 z
  rw [h.tri hq] at z
  have e : L[rk o L q]? = some L[rk o L q] := List.getElem?_eq_getElem lt
  rw [e] at z
  have z' : S o L[rk o L q].1 q = 0 := by simpa using z
  have eq := S_eq (h.ok _ (List.getElem_mem lt)) hq z'
  refine ⟨L[rk o L q].2, ?_, rfl⟩
  have : L = L.take (rk o L q) ++ L[rk o L q] :: L.drop (rk o L q + 1) := by
    rw [← List.drop_eq_getElem_cons lt, List.take_append_drop]
  rw [b1, dr] at this
  rw [show (q, L[rk o L q].2) = L[rk o L q] from Prod.ext eq.symm rfl]
  exact this
theorem no_split (h : LOk o L) {q : Kt} (hq : KOk o q.1 q.2) (z : hasK o L q = false) : L = L.filter (ltK o q) ++ L.filter (gtK o q) := by
  obtain ⟨b1, b2, _⟩ := h.behind hq
  rw [← b1, ← b2 z, List.take_append_drop]
theorem insAt_set {c : Str} {n m : Nat} {s : Store} {ob : Ob} {fs : List (Str × D)} (h : insAt c n s = some fs) (hm : ∃ ds, s[m]? = some (.lst ds)) : insAt c n (s.set m ob) = some fs := by
  have e := insAt_some h
  have ne : m ≠ n := fun z => by
    obtain ⟨ds, hd⟩ := hm
    rw [z, e] at hd; cases hd
  unfold insAt
  rw [List.getElem?_set_ne ne, e]
  simp
/-- what an operation changes -/
structure Ch3 (a b c : Nat) (s s' : Store) : Prop where
  len : s'.length = s.length
  at_ : ∀ q, q ≠ a → q ≠ b → q ≠ c → s'[q]? = s[q]?
theorem key_lst {q : Kt} (hq : KOk o q.1 q.2) (ol : o.length ≤ 4) (s : Store) : m_key_place [vD cn o sh, KD q.1 q.2] s = some (kpD q.1 o q.2, s) := key_place_ok s hq.l ol hq.v
theorem add_ok (h : Lst o (vD cn o sh) s t a b c L) {q : Kt} (hq : KOk o q.1 q.2) (ol : o.length ≤ 4) (hL : L.length ≤ 1000) (v : Int) :
    ∃ s', m_Listing_add_key [.ref t, KD q.1 q.2, .int v] s = some (.non, s') ∧ Lst o (vD cn o sh) s' t a b c (putL o L q v) ∧ Ch3 a b c s s' := by
  obtain ⟨V, hV⟩ : ∃ V, V = vD cn o sh := ⟨_, rfl⟩
  obtain ⟨Kq, hKq⟩ : ∃ K, K = KD q.1 q.2 := ⟨_, rfl⟩
  obtain ⟨Q, hQ⟩ : ∃ Q, Q = kpD q.1 o q.2 := ⟨_, rfl⟩
  have kp := key_lst (cn := cn) (sh := sh) hq ol s
  have ho := holds_ok h hq ol hL
  have ff := first_ok h.ok hq ol h.pl hL
  have ok' := h.ok.put hq v
  have rl : rk o L q ≤ L.length := List.length_filter_le _ _
  rw [← hV, ← hKq, ← hQ] at kp
  rw [← hQ] at ho ff
  rw [← hV] at h ⊢
  rw [← hKq]
  have nf := h.noF (m := "_holds") rfl
  have c0 : q_Listing_add_key_0 [some (.ref t), some Kq, some (.int v), none, none] s = some (.nx, [some (.ref t), some Kq, some (.int v), some Q, none], s) := by
    have f : fCall m_key_place (aCons (fFld "Listing" "_view" (fVar 0)) (aCons (fVar 1) aNil)) [some (.ref t), some Kq, some (.int v), none, none] s = some (Q, s) := by
      rw [fCall, aCons, h.fv rfl]
      simp only [Option.bind_some]
      simp [aCons, aNil, fVar, kp]
    rw [q_Listing_add_key_0, u_sAsg, f]
    rfl
  have c1 : q_Listing_add_key_1 [some (.ref t), some Kq, some (.int v), some Q, none] s = some (.nx, [some (.ref t), some Kq, some (.int v), some Q, some (.int (rk o L q : Int))], s) := by
    have f : fCall m_first_from (aCons (fFld "Listing" "_places" (fVar 0)) (aCons (fVar 3) aNil)) [some (.ref t), some Kq, some (.int v), some Q, none] s = some (.int (rk o L q : Int), s) := by
      rw [fCall, aCons, h.fp rfl]
      simp only [Option.bind_some]
      simp [aCons, aNil, fVar, ff]
    rw [q_Listing_add_key_1, u_sAsg, f]
    rfl
  have tt : fTest (fMeth "Listing" "_holds" m_Listing__holds (fVar 0) (aCons (fVar 4) (aCons (fVar 3) aNil))) [some (.ref t), some Kq, some (.int v), some Q, some (.int (rk o L q : Int))] s = some (hasK o L q, s) := by
    rw [fTest, fMeth, show fVar 0 [some (D.ref t), some Kq, some (.int v), some Q, some (.int (rk o L q : Int))] s = some (.ref t, s) from rfl]
    simp only [Option.bind_some]
    rw [nf]
    simp [aCons, aNil, fVar, ho, asB]
  have run : ∀ {s'}, q_Listing_add_key_2 [some (.ref t), some Kq, some (.int v), some Q, some (.int (rk o L q : Int))] s = some (.nx, [some (.ref t), some Kq, some (.int v), some Q, some (.int (rk o L q : Int))], s') → m_Listing_add_key [.ref t, Kq, .int v] s = some (.non, s') := fun {s'} c2 => by
    rw [m_Listing_add_key, g_Listing_add_key]
    show outM (sSeq q_Listing_add_key_0 _ [some (.ref t), some Kq, some (.int v), none, none] s) = _
    rw [seq_nx c0, seq_nx c1, c2]
    rfl
  cases z : hasK o L q with
  | true =>
    obtain ⟨w, hs, hl⟩ := has_split h.ok hq z
    rw [z] at tt
    obtain ⟨A, hA⟩ : ∃ A, A = L.filter (ltK o q) := ⟨_, rfl⟩
    obtain ⟨B, hB⟩ : ∃ B, B = L.filter (gtK o q) := ⟨_, rfl⟩
    have pu : putL o L q v = A ++ (q, v) :: B := by rw [putL, hA, hB]
    rw [← hA, ← hB] at hs
    rw [← hA] at hl
    have vs := h.vs
    have lt : rk o L q < L.length := by
      have := congrArg List.length hs
      rw [List.length_append, List.length_cons] at this
      omega
    have ev : L.map vsE = A.map vsE ++ vsE (q, w) :: B.map vsE := by
      conv => lhs; rw [hs]
      simp
    refine ⟨s.set c (.lst ((L.map vsE).set (rk o L q) (.int v))), run ?_, ⟨insAt_set h.ins ⟨_, vs⟩, ?_, ?_, ?_, ok', h.ab, h.ac, h.bc⟩, ⟨by simp, fun p _ _ pc => List.getElem?_set_ne (Ne.symm pc)⟩⟩
    · have f : fFld "Listing" "_versions" (fVar 0) [some (.ref t), some Kq, some (.int v), some Q, some (.int (rk o L q : Int))] s = some (.ref c, s) := h.fs rfl
      have ixn : ixN (L.map vsE).length (rk o L q : Int) = some (rk o L q) := by
        rw [List.length_map]
        simp [ixN]
        omega
      rw [q_Listing_add_key_2, sIf, tt]
      simp only [Option.bind_some, if_true]
      generalize L.map vsE = VV at *
      rw [q_Listing_add_key_2t_0, sPutL]
      simp only [show fVar 2 [some (D.ref t), some Kq, some (.int v), some Q, some (.int (rk o L q : Int))] s = some (.int v, s) from rfl, Option.bind_some, f, show fVar 4 [some (D.ref t), some Kq, some (.int v), some Q, some (.int (rk o L q : Int))] s = some (.int (rk o L q : Int), s) from rfl]
      simp [vs, ixn]
    · rw [List.getElem?_set_ne (Ne.symm h.ac), h.pl, pu]
      conv => lhs; rw [hs]
      simp [plE]
    · rw [List.getElem?_set_ne (Ne.symm h.bc), h.ks, pu]
      conv => lhs; rw [hs]
      simp [ksE]
    · rw [List.getElem?_set_self (lt_old vs), pu, ev, ← hl]
      simp [vsE, List.set_append]
  | false =>
    have hs := no_split h.ok hq z
    rw [z] at tt
    obtain ⟨A, hA⟩ : ∃ A, A = L.filter (ltK o q) := ⟨_, rfl⟩
    obtain ⟨B, hB⟩ : ∃ B, B = L.filter (gtK o q) := ⟨_, rfl⟩
    have pu : putL o L q v = A ++ (q, v) :: B := by rw [putL, hA, hB]
    have hl : rk o L q = A.length := by rw [hA]; rfl
    rw [← hA, ← hB] at hs
    have inl : ∀ (f : Kt × Int → D), insAtL (L.map f) (rk o L q : Int) (f (q, v)) = (putL o L q v).map f := fun f => by
      have ev : L.map f = A.map f ++ B.map f := by
        conv => lhs; rw [hs]
        simp
      rw [pu, insAtL, Int.toNat_natCast, ev, hl]
      simp
    have zl : ∀ f : Kt × Int → D, (L.map f).length < sizeLine := fun f => Nat.lt_of_le_of_lt (show _ ≤ 1000 by rw [List.length_map]; exact hL) (by decide)
    have r62 : (0 : Int) ≤ (rk o L q : Int) ∧ (rk o L q : Int) < 4611686018427387904 := by omega
    have i1 := inl (plE o)
    have i2 := inl ksE
    have i3 := inl vsE
    have z1 := zl (plE o)
    have z2 := zl ksE
    have z3 := zl vsE
    have e1 : plE o (q, v) = Q := hQ.symm
    have e2 : ksE (q, v) = Kq := hKq.symm
    have e3 : vsE (q, v) = .int v := rfl
    rw [e1] at i1
    rw [e2] at i2
    rw [e3] at i3
    obtain ⟨P1, hP1⟩ : ∃ P, P = (putL o L q v).map (plE o) := ⟨_, rfl⟩
    obtain ⟨P2, hP2⟩ : ∃ P, P = (putL o L q v).map ksE := ⟨_, rfl⟩
    obtain ⟨P3, hP3⟩ : ∃ P, P = (putL o L q v).map vsE := ⟨_, rfl⟩
    have pl := h.pl
    have ks := h.ks
    have vs := h.vs
    have f1 : fFld "Listing" "_places" (fVar 0) [some (.ref t), some Kq, some (.int v), some Q, some (.int (rk o L q : Int))] s = some (.ref a, s) := h.fp rfl
    have in1 : insAt "Listing" t (s.set a (.lst P1)) = some (lsF V a b c) := insAt_set h.ins ⟨_, pl⟩
    have ks1 : (s.set a (.lst P1))[b]? = some (.lst (L.map ksE)) := by rw [List.getElem?_set_ne h.ab]; exact ks
    have in2 : insAt "Listing" t ((s.set a (.lst P1)).set b (.lst P2)) = some (lsF V a b c) := insAt_set in1 ⟨_, ks1⟩
    have vs2 : ((s.set a (.lst P1)).set b (.lst P2))[c]? = some (.lst (L.map vsE)) := by rw [List.getElem?_set_ne h.bc, List.getElem?_set_ne h.ac]; exact vs
    have in3 : insAt "Listing" t (((s.set a (.lst P1)).set b (.lst P2)).set c (.lst P3)) = some (lsF V a b c) := insAt_set in2 ⟨_, vs2⟩
    have f2 : fFld "Listing" "_keys" (fVar 0) [some (.ref t), some Kq, some (.int v), some Q, some (.int (rk o L q : Int))] (s.set a (.lst P1)) = some (.ref b, s.set a (.lst P1)) := by
      simp [fFld, fVar, in1, lk_lk]
    have f3 : fFld "Listing" "_versions" (fVar 0) [some (.ref t), some Kq, some (.int v), some Q, some (.int (rk o L q : Int))] ((s.set a (.lst P1)).set b (.lst P2)) = some (.ref c, (s.set a (.lst P1)).set b (.lst P2)) := by
      simp [fFld, fVar, in2, lk_ls]
    have d1 : q_Listing_add_key_2e_0 [some (.ref t), some Kq, some (.int v), some Q, some (.int (rk o L q : Int))] s = some (.nx, [some (.ref t), some Kq, some (.int v), some Q, some (.int (rk o L q : Int))], s.set a (.lst P1)) := by
      rw [← hP1] at i1
      generalize L.map (plE o) = LL at *
      rw [q_Listing_add_key_2e_0, u_sDrop, fIns, f1]
      simp only [Option.bind_some, pl, isLs, if_true]
      simp [fVar, pl, z1, r62, i1]
    have d2 : q_Listing_add_key_2e_1 [some (.ref t), some Kq, some (.int v), some Q, some (.int (rk o L q : Int))] (s.set a (.lst P1)) = some (.nx, [some (.ref t), some Kq, some (.int v), some Q, some (.int (rk o L q : Int))], (s.set a (.lst P1)).set b (.lst P2)) := by
      rw [← hP2] at i2
      generalize L.map ksE = LL at *
      rw [q_Listing_add_key_2e_1, u_sDrop, fIns, f2]
      simp only [Option.bind_some, ks1, isLs, if_true]
      simp [fVar, ks1, z2, r62, i2]
    have d3 : q_Listing_add_key_2e_2 [some (.ref t), some Kq, some (.int v), some Q, some (.int (rk o L q : Int))] ((s.set a (.lst P1)).set b (.lst P2)) = some (.nx, [some (.ref t), some Kq, some (.int v), some Q, some (.int (rk o L q : Int))], ((s.set a (.lst P1)).set b (.lst P2)).set c (.lst P3)) := by
      rw [← hP3] at i3
      generalize L.map vsE = LL at *
      rw [q_Listing_add_key_2e_2, u_sDrop, fIns, f3]
      simp only [Option.bind_some, vs2, isLs, if_true]
      simp [fVar, vs2, z3, r62, i3]
    refine ⟨((s.set a (.lst P1)).set b (.lst P2)).set c (.lst P3), run ?_, ⟨in3, ?_, ?_, ?_, ok', h.ab, h.ac, h.bc⟩, ⟨by simp, fun p pa pb pc => by rw [List.getElem?_set_ne (Ne.symm pc), List.getElem?_set_ne (Ne.symm pb), List.getElem?_set_ne (Ne.symm pa)]⟩⟩
    · rw [q_Listing_add_key_2, sIf, tt]
      simp only [Option.bind_some, Bool.false_eq_true, if_false]
      rw [seq_nx d1, seq_nx d2, d3]
    · rw [List.getElem?_set_ne (Ne.symm h.ac), List.getElem?_set_ne (Ne.symm h.ab), List.getElem?_set_self (lt_old pl), hP1]
    · rw [List.getElem?_set_ne (Ne.symm h.bc), List.getElem?_set_self (by simpa using lt_old ks), hP2]
    · rw [List.getElem?_set_self (lt_old vs2), hP3]
theorem rankM_ok (h : Lst o (vD cn o sh) s t a b c L) {mk : Mk} (hm : mk.ok o) (ol : o.length ≤ 4) (hL : L.length ≤ 1000) : m_Listing_rank_of [.ref t, mk.d] s = some (.int (rankM o L mk : Int), s) := by
  obtain ⟨n1, n2, n3, n4, n5, n6, n7, n8, n9, n10, n11, n12⟩ := nmq
  simp only [nm] at *
  rw [m_Listing_rank_of, g_Listing_rank_of]
  cases mk with
  | st =>
    have i0 : L2.atI [nm "start"] 0 = some (nm "start") := ix0
    simp only [nm] at i0
    have c0 : q_Listing_rank_of_0 [some (.ref t), some (Mk.d .st), none, none] s = some (.rt (.int 0), [some (.ref t), some (Mk.d .st), none, none], s) := by
      simp [q_Listing_rank_of_0, sIf, fTest, fOp, fSub, fVar, fC, Mk.d, nm, ixD, i0, n1, asB, q_Listing_rank_of_0t_0, sRet]
    have r0 : rankM o L .st = 0 := by simp [rankM, past]
    show outM (sSeq q_Listing_rank_of_0 _ [some (.ref t), some (Mk.d .st), none, none] s) = _
    rw [u_sSeq, c0, r0]
    rfl
  | en =>
    have i0 : L2.atI [nm "end"] 0 = some (nm "end") := ix0
    simp only [nm] at i0
    have c0 : q_Listing_rank_of_0 [some (.ref t), some (Mk.d .en), none, none] s = some (.nx, [some (.ref t), some (Mk.d .en), none, none], s) := by
      simp [q_Listing_rank_of_0, sIf, fTest, fOp, fSub, fVar, fC, Mk.d, nm, ixD, i0, n2, asB, sNil]
    have r0 : rankM o L .en = L.length := by
      have e : (L.filter fun e => !past o .en e.1) = L := List.filter_eq_self.mpr fun e he => rfl
      unfold rankM
      rw [e]
    have f1 : fFld "Listing" "_keys" (fVar 0) [some (.ref t), some (Mk.d .en), none, none] s = some (.ref b, s) := h.fk rfl
    have ks := h.ks
    have el : (L.map ksE).length = L.length := List.length_map _
    have fl : fMk bLen (aCons (fFld "Listing" "_keys" (fVar 0)) aNil) [some (.ref t), some (Mk.d .en), none, none] s = some (.int (L.length : Int), s) := by
      rw [u_fMk, aCons, f1]
      generalize L.map ksE = PP at *
      simp [bLen, lenL, lenK, aNil, ks, el]
    have c1 : q_Listing_rank_of_1 [some (.ref t), some (Mk.d .en), none, none] s = some (.rt (.int (L.length : Int)), [some (.ref t), some (Mk.d .en), none, none], s) := by
      have tt : fTest (fOp opEq (fSub (fVar 1) (fC (.int 0))) (fC (.str (Str.ofString "end")))) [some (.ref t), some (Mk.d .en), none, none] s = some (true, s) := by
        simp [fTest, fOp, fSub, fVar, fC, Mk.d, nm, ixD, i0, n3, asB]
      rw [q_Listing_rank_of_1, sIf, tt]
      simp only [Option.bind_some, if_true]
      rw [q_Listing_rank_of_1t_0, u_sRet, fl]
      rfl
    show outM (sSeq q_Listing_rank_of_0 _ [some (.ref t), some (Mk.d .en), none, none] s) = _
    rw [seq_nx c0, u_sSeq, c1, r0]
    rfl
  | k q f =>
    have hq : KOk o q.1 q.2 := hm
    have kp := key_lst (cn := cn) (sh := sh) hq ol s
    have ff := first_ok h.ok hq ol h.pl hL
    have ho := holds_ok h hq ol hL
    obtain ⟨V, hV⟩ : ∃ V, V = vD cn o sh := ⟨_, rfl⟩
    obtain ⟨Kq, hKq⟩ : ∃ K, K = KD q.1 q.2 := ⟨_, rfl⟩
    obtain ⟨Q, hQ⟩ : ∃ Q, Q = kpD q.1 o q.2 := ⟨_, rfl⟩
    obtain ⟨W, hW⟩ : ∃ W, W = (if f = true then Str.ofString "after" else Str.ofString "before") := ⟨_, rfl⟩
    have ed : Mk.d (.k q f) = .tup [.str W, Kq] := by
      rw [hW, hKq]
      cases f <;> rfl
    rw [← hV, ← hKq, ← hQ] at kp
    rw [← hQ] at ho ff
    rw [← hV] at h
    have nf := h.noF (m := "_holds") rfl
    have i0 : L2.atI [D.str W, Kq] 0 = some (.str W) := ix0
    have i1 : L2.atI [D.str W, Kq] 1 = some Kq := ix1
    have w1 : opEq (.str W) (.str (Str.ofString "start")) = some (.bl false) := by rw [hW]; cases f <;> assumption
    have w2 : opEq (.str W) (.str (Str.ofString "end")) = some (.bl false) := by rw [hW]; cases f <;> assumption
    have w3 : opEq (.str W) (.str (Str.ofString "after")) = some (.bl f) := by rw [hW]; cases f <;> assumption
    rw [ed]
    obtain ⟨T, hT⟩ : ∃ T, T = D.tup [.str W, Kq] := ⟨_, rfl⟩
    have x0 : ∀ x2 x3 : Option D, fSub (fVar 1) (fC (.int 0)) [some (.ref t), some T, x2, x3] s = some (.str W, s) := fun x2 x3 => by simp [fSub, fVar, fC, hT, ixD, i0]
    have x1 : ∀ x2 x3 : Option D, fSub (fVar 1) (fC (.int 1)) [some (.ref t), some T, x2, x3] s = some (Kq, s) := fun x2 x3 => by simp [fSub, fVar, fC, hT, ixD, i1]
    rw [← hT]
    have c0 : q_Listing_rank_of_0 [some (.ref t), some T, none, none] s = some (.nx, [some (.ref t), some T, none, none], s) := by
      rw [q_Listing_rank_of_0, sIf, fTest, fOp, x0]
      simp [fC, w1, asB, sNil]
    have c1 : q_Listing_rank_of_1 [some (.ref t), some T, none, none] s = some (.nx, [some (.ref t), some T, none, none], s) := by
      rw [q_Listing_rank_of_1, sIf, fTest, fOp, x0]
      simp [fC, w2, asB, sNil]
    have c2 : q_Listing_rank_of_2 [some (.ref t), some T, none, none] s = some (.nx, [some (.ref t), some T, some Q, none], s) := by
      have f : fCall m_key_place (aCons (fFld "Listing" "_view" (fVar 0)) (aCons (fSub (fVar 1) (fC (.int 1))) aNil)) [some (.ref t), some T, none, none] s = some (Q, s) := by
        rw [fCall, aCons, h.fv rfl]
        simp only [Option.bind_some]
        rw [aCons, x1]
        simp [aNil, kp]
      rw [q_Listing_rank_of_2, u_sAsg, f]
      rfl
    have c3 : q_Listing_rank_of_3 [some (.ref t), some T, some Q, none] s = some (.nx, [some (.ref t), some T, some Q, some (.int (rk o L q : Int))], s) := by
      have f : fCall m_first_from (aCons (fFld "Listing" "_places" (fVar 0)) (aCons (fVar 2) aNil)) [some (.ref t), some T, some Q, none] s = some (.int (rk o L q : Int), s) := by
        rw [fCall, aCons, h.fp rfl]
        simp only [Option.bind_some]
        simp [aCons, aNil, fVar, ff]
      rw [q_Listing_rank_of_3, u_sAsg, f]
      rfl
    have th : fTest (fMeth "Listing" "_holds" m_Listing__holds (fVar 0) (aCons (fVar 3) (aCons (fVar 2) aNil))) [some (.ref t), some T, some Q, some (.int (rk o L q : Int))] s = some (hasK o L q, s) := by
      rw [fTest, fMeth, show fVar 0 [some (D.ref t), some T, some Q, some (.int (rk o L q : Int))] s = some (.ref t, s) from rfl]
      simp only [Option.bind_some]
      rw [nf]
      simp [aCons, aNil, fVar, ho, asB]
    have ta : fTest (fOp opEq (fSub (fVar 1) (fC (.int 0))) (fC (.str (Str.ofString "after")))) [some (.ref t), some T, some Q, some (.int (rk o L q : Int))] s = some (f, s) := by
      rw [fTest, fOp, x0]
      simp [fC, w3, asB]
    rw [rank_k h.ok hq f]
    show outM (sSeq q_Listing_rank_of_0 _ [some (.ref t), some T, none, none] s) = _
    rw [seq_nx c0, seq_nx c1, seq_nx c2, seq_nx c3, u_sSeq, q_Listing_rank_of_4, sIf, fAndT, ta]
    cases f with
    | false => simp [sNil, q_Listing_rank_of_5, sRet, fVar, outM]
    | true =>
      simp only [Option.bind_some, if_true]
      rw [th]
      cases z : hasK o L q with
      | false => simp [sNil, q_Listing_rank_of_5, sRet, fVar, outM]
      | true => simp [q_Listing_rank_of_4t_0, sRet, fOp, fVar, fC, opAdd_int, outM]
theorem between_vs (h : Lst o (vD cn o sh) s t a b c L) {m1 m2 : Mk} (h1 : m1.ok o) (h2 : m2.ok o) (ol : o.length ≤ 4) (hL : L.length ≤ 1000) : m_Listing__versions_between [.ref t, m1.d, m2.d] s = some (.lst ((L.filter fun e => btw o m1 m2 e.1).map vsE), s) := by
  have r1 := rankM_ok h h1 ol hL
  have r2 := rankM_ok h h2 ol hL
  have nf := h.noF (m := "rank_of") rfl
  have vs := h.vs
  have l1 : rankM o L m1 ≤ L.length := List.length_filter_le _ _
  have l2 : rankM o L m2 ≤ L.length := List.length_filter_le _ _
  have cu : DL.cutD (L.map vsE) (some (rankM o L m1 : Int)) (some (rankM o L m2 : Int)) = (L.filter fun e => btw o m1 m2 e.1).map vsE := by
    rw [cutM (by rw [List.length_map]; exact l1) (by rw [List.length_map]; exact l2), ← mid_ok h.ok h1 h2, List.map_drop, List.map_take]
  have f1 : fFld "Listing" "_versions" (fVar 0) [some (.ref t), some m1.d, some m2.d] s = some (.ref c, s) := h.fs rfl
  have g1 : fMeth "Listing" "rank_of" m_Listing_rank_of (fVar 0) (aCons (fVar 1) aNil) [some (.ref t), some m1.d, some m2.d] s = some (.int (rankM o L m1 : Int), s) := by
    rw [fMeth, show fVar 0 [some (D.ref t), some m1.d, some m2.d] s = some (.ref t, s) from rfl]
    simp only [Option.bind_some]
    rw [nf]
    simp [aCons, aNil, fVar, r1]
  have g2 : fMeth "Listing" "rank_of" m_Listing_rank_of (fVar 0) (aCons (fVar 2) aNil) [some (.ref t), some m1.d, some m2.d] s = some (.int (rankM o L m2 : Int), s) := by
    rw [fMeth, show fVar 0 [some (D.ref t), some m1.d, some m2.d] s = some (.ref t, s) from rfl]
    simp only [Option.bind_some]
    rw [nf]
    simp [aCons, aNil, fVar, r2]
  rw [m_Listing__versions_between, g_Listing__versions_between]
  show outM (q_Listing__versions_between_0 [some (.ref t), some m1.d, some m2.d] s) = _
  rw [q_Listing__versions_between_0, u_sRet, fSliceO, f1]
  simp only [Option.bind_some]
  generalize L.map vsE = VV at *
  simp only [oSome, g1, g2, Option.bind_some, Option.map_some, vs, cu]
  rfl
theorem unch_ok (h : Lst o (vD cn o sh) s t a b c L) {m1 m2 : Mk} (h1 : m1.ok o) (h2 : m2.ok o) (ol : o.length ≤ 4) (hL : L.length ≤ 1000) (v : Int) : m_Listing_unchanged_between [.ref t, m1.d, m2.d, .int v] s = some (.int (((L.filter fun e => btw o m1 m2 e.1).filter fun e => decide (e.2 ≤ v)).length : Int), s) := by
  have vb := between_vs h h1 h2 ol hL
  have nf := h.noF (m := "_versions_between") rfl
  obtain ⟨M, hM⟩ : ∃ M, M = L.filter fun e => btw o m1 m2 e.1 := ⟨_, rfl⟩
  rw [← hM] at vb ⊢
  have Ml : M.length ≤ L.length := by rw [hM]; exact List.length_filter_le _ _
  have it : iOf asL (fMeth "Listing" "_versions_between" m_Listing__versions_between (fVar 0) (aCons (fVar 1) (aCons (fVar 2) aNil))) [some (.ref t), some m1.d, some m2.d, some (.int v), none] s = some (M.map vsE, s) := by
    have f : fMeth "Listing" "_versions_between" m_Listing__versions_between (fVar 0) (aCons (fVar 1) (aCons (fVar 2) aNil)) [some (.ref t), some m1.d, some m2.d, some (.int v), none] s = some (.lst (M.map vsE), s) := by
      rw [fMeth, show fVar 0 [some (D.ref t), some m1.d, some m2.d, some (.int v), none] s = some (.ref t, s) from rfl]
      simp only [Option.bind_some]
      rw [nf]
      generalize M.map vsE = VV at *
      simp [aCons, aNil, fVar, vb]
    rw [u_iOf, f]
    rfl
  have lc := loopC_fm (φ := vsE) (ψ := vsE) (p := fun e => decide (e.2 ≤ v)) (is := [4]) (bd := b1) (t := fTest (fOp opLe (fVar 4) (fVar 3))) (f := fVar 4) (env := wipeL [some (.ref t), some m1.d, some m2.d, some (.int v), none] [4]) (st := s) (l := M) fun x hx => ⟨[vsE x], rfl, by
    have e : setL [4] [vsE x] (wipeL [some (.ref t), some m1.d, some m2.d, some (.int v), none] [4]) = [some (.ref t), some m1.d, some m2.d, some (.int v), some (.int x.2)] := rfl
    rw [e]
    simp [fTest, fOp, fVar, opLe_int, asB], rfl⟩
  have zl : (M.filter fun e => decide (e.2 ≤ v)).length ≤ sizeLine := Nat.le_trans (List.length_filter_le _ _) (sl_of (by omega))
  have fc : fComp (iOf asL (fMeth "Listing" "_versions_between" m_Listing__versions_between (fVar 0) (aCons (fVar 1) (aCons (fVar 2) aNil)))) [4] b1 (fTest (fOp opLe (fVar 4) (fVar 3))) (fVar 4) [some (.ref t), some m1.d, some m2.d, some (.int v), none] s = some (.lst ((M.filter fun e => decide (e.2 ≤ v)).map vsE), s) := by
    rw [u_fComp, it]
    simp only [Option.bind_some]
    rw [lc]
    simp [zl]
  rw [m_Listing_unchanged_between, g_Listing_unchanged_between]
  show outM (q_Listing_unchanged_between_0 [some (.ref t), some m1.d, some m2.d, some (.int v), none] s) = _
  rw [q_Listing_unchanged_between_0, u_sRet, u_fMk, aCons, fc]
  simp [aNil, bLen, lenL, lenK, outM]
end LW
namespace LW
open PySem PySem.Spec PyProof.Rows L2 DL TL
variable {c : C} {o : List (Nat × Bool)} {sh : List Nat} {s st : Store} {n t a b d : Nat} {L : LsL} {w : Nat}
theorem cmp_st {b : Mk} : cmpM o .st b ≤ 0 := by cases b <;> simp [cmpM]
theorem cmp_en {b : Mk} : cmpM o b .en ≤ 0 := by cases b <;> simp [cmpM]
theorem cmpI_le {f g : Bool} : cmpI f g ≤ 0 ↔ ¬(f = true ∧ g = false) := by cases f <;> cases g <;> decide
theorem cmp_kk {p q : Kt} {f g : Bool} : cmpM o (.k p f) (.k q g) = if S o p q = 0 then cmpI f g else S o p q := rfl
theorem cmp_le {p q : Kt} {f g : Bool} : cmpM o (.k p f) (.k q g) ≤ 0 ↔ S o p q < 0 ∨ (S o p q = 0 ∧ ¬(f = true ∧ g = false)) := by
  rw [cmp_kk]
  by_cases z : S o p q = 0
  · rw [if_pos z, cmpI_le]
    constructor
    · exact fun h => .inr ⟨z, h⟩
    · rintro (h | h)
      · omega
      · exact h.2
  · rw [if_neg z]
    constructor
    · exact fun h => .inl (by omega)
    · rintro (h | h)
      · omega
      · exact absurd h.1 z
theorem cmp_flip {a x : Mk} (ha : a.ok o) (hx : x.ok o) (h : ¬ cmpM o x a < 0) : cmpM o a x ≤ 0 := by
  cases a with
  | st => exact cmp_st
  | en => cases x with
    | st => exact absurd (show (-1 : Int) < 0 by decide) h
    | en => exact cmp_en
    | k q g => exact absurd (show (-1 : Int) < 0 by decide) h
  | k p f => cases x with
    | st => exact absurd (show (-1 : Int) < 0 by decide) h
    | en => exact cmp_en
    | k q g =>
      have an := S_anti (o := o) ha hx
      rw [cmp_kk] at h
      refine cmp_le.mpr ?_
      by_cases z : S o q p = 0
      · rw [if_pos z] at h
        refine .inr ⟨by omega, ?_⟩
        rintro ⟨rfl, rfl⟩
        exact h (by decide)
      · rw [if_neg z] at h
        exact .inl (by omega)
theorem cmp_trans {a b e : Mk} (ha : a.ok o) (hb : b.ok o) (he : e.ok o) (h1 : cmpM o a b ≤ 0) (h2 : cmpM o b e ≤ 0) : cmpM o a e ≤ 0 := by
  cases a with
  | st => exact cmp_st
  | en => cases b with
    | st => exact absurd h1 (by show ¬ (1 : Int) ≤ 0; decide)
    | en => exact h2
    | k q g => exact absurd h1 (by show ¬ (1 : Int) ≤ 0; decide)
  | k p f => cases e with
    | en => exact cmp_en
    | st => cases b with
      | st => exact h1
      | en => exact absurd h2 (by show ¬ (1 : Int) ≤ 0; decide)
      | k q g => exact absurd h2 (by show ¬ (1 : Int) ≤ 0; decide)
    | k r i => cases b with
      | st => exact absurd h1 (by show ¬ (1 : Int) ≤ 0; decide)
      | en => exact absurd h2 (by show ¬ (1 : Int) ≤ 0; decide)
      | k q g =>
        rcases cmp_le.mp h1 with a1 | ⟨a1, b1⟩ <;> rcases cmp_le.mp h2 with a2 | ⟨a2, b2⟩
        · exact cmp_le.mpr (.inl ((S_trans (o := o) ha hb he (by omega) (by omega)).2 (.inl a1)))
        · exact cmp_le.mpr (.inl ((S_trans (o := o) ha hb he (by omega) (by omega)).2 (.inl a1)))
        · exact cmp_le.mpr (.inl ((S_trans (o := o) ha hb he (by omega) (by omega)).2 (.inr a2)))
        · have t := (S_trans (o := o) ha hb he (by omega) (by omega)).1
          by_cases z : S o p r = 0
          · refine cmp_le.mpr (.inr ⟨z, ?_⟩)
            rintro ⟨rfl, rfl⟩
            cases g with
            | true => exact b2 ⟨rfl, rfl⟩
            | false => exact b1 ⟨rfl, rfl⟩
          · exact cmp_le.mpr (.inl (by omega))
/-! the other methods of a listing -/
theorem cutR {α : Type} {xs : List α} {r m : Nat} (hr : r ≤ xs.length) : DL.cutD xs (some (r : Int)) (some ((r : Int) + (m : Int))) = (xs.drop r).take m := by
  unfold DL.cutD
  rw [show (r : Int) + (m : Int) = ((r + m : Nat) : Int) by omega, HT.sIx_nat, HT.sIx_nat, Nat.min_eq_left hr]
  rw [List.take_eq_take_iff, List.length_drop]
  omega
theorem callR {e : Lo} {j i : Nat} {mk : Mk} (h : Lst o (vD c o sh) s t a b d L) (hm : mk.ok o) (ol : o.length ≤ 4) (hL : L.length ≤ 1000) (he : e[j]? = some (some (.ref t))) {f : F} (hf : f e s = some (mk.d, s)) : fMeth "Listing" "rank_of" m_Listing_rank_of (fVar j) (aCons f aNil) e s = some (.int (rankM o L mk : Int), s) := by
  have nf := h.noF (m := "rank_of") rfl
  rw [fMeth, u_fVar, he]
  simp only [Option.map_some, Option.bind_some]
  rw [nf]
  simp only [if_true]
  rw [aCons, hf]
  simp only [Option.bind_some, aNil, Option.map_some]
  exact rankM_ok h hm ol hL
theorem after_ok (h : Lst o (vD c o sh) s t a b d L) {mk : Mk} (hm : mk.ok o) (ol : o.length ≤ 4) (hL : L.length ≤ 1000) (lim : Nat) : m_Listing_keys_after [.ref t, mk.d, .int (lim : Int)] s = some (.lst (((L.drop (rankM o L mk)).take lim).map ksE), s) := by
  obtain ⟨M, hM⟩ : ∃ M, M = mk.d := ⟨_, rfl⟩
  have rl : rankM o L mk ≤ L.length := List.length_filter_le _ _
  have ks := h.ks
  have c0 : q_Listing_keys_after_0 [some (.ref t), some M, some (.int (lim : Int)), none] s = some (.nx, [some (.ref t), some M, some (.int (lim : Int)), some (.int (rankM o L mk : Int))], s) := by
    have f := callR (e := [some (.ref t), some M, some (.int (lim : Int)), none]) (j := 0) (i := 1) h hm ol hL rfl (f := fVar 1) (by rw [hM]; rfl)
    rw [q_Listing_keys_after_0, u_sAsg, f]
    rfl
  have cu : DL.cutD (L.map ksE) (some (rankM o L mk : Int)) (some ((rankM o L mk : Int) + (lim : Int))) = ((L.drop (rankM o L mk)).take lim).map ksE := by
    rw [cutR (by rw [List.length_map]; exact rl), List.map_take, List.map_drop]
  rw [m_Listing_keys_after, g_Listing_keys_after, ← hM]
  show outM (sSeq q_Listing_keys_after_0 _ [some (.ref t), some M, some (.int (lim : Int)), none] s) = _
  rw [seq_nx c0, q_Listing_keys_after_1, u_sRet, fSliceO, h.fk rfl]
  generalize L.map ksE = KK at *
  simp [oSome, fVar, fOp, opAdd_int, ks, cu, outM]
theorem before_ok (h : Lst o (vD c o sh) s t a b d L) {mk : Mk} (hm : mk.ok o) (ol : o.length ≤ 4) (hL : L.length ≤ 1000) (lim : Nat) : m_Listing_keys_before [.ref t, mk.d, .int (lim : Int)] s = some (.lst ((((L.take (rankM o L mk)).drop (rankM o L mk - lim)).reverse).map ksE), s) := by
  obtain ⟨M, hM⟩ : ∃ M, M = mk.d := ⟨_, rfl⟩
  obtain ⟨R, hR⟩ : ∃ R, R = rankM o L mk := ⟨_, rfl⟩
  have rl : R ≤ L.length := by rw [hR]; exact List.length_filter_le _ _
  have ks := h.ks
  have c0 : q_Listing_keys_before_0 [some (.ref t), some M, some (.int (lim : Int)), none] s = some (.nx, [some (.ref t), some M, some (.int (lim : Int)), some (.int (R : Int))], s) := by
    have f := callR (e := [some (.ref t), some M, some (.int (lim : Int)), none]) (j := 0) (i := 1) h hm ol hL rfl (f := fVar 1) (by rw [hM]; rfl)
    rw [← hR] at f
    rw [q_Listing_keys_before_0, u_sAsg, f]
    rfl
  have mx : fMk bMax (aCons (fC (.int 0)) (aCons (fOp subI (fVar 3) (fVar 2)) aNil)) [some (.ref t), some M, some (.int (lim : Int)), some (.int (R : Int))] s = some (.int ((R - lim : Nat) : Int), s) := by
    by_cases z : lim ≤ R
    · by_cases z2 : lim = R
      · subst z2
        simp [fMk, aCons, aNil, fC, fOp, fVar, subI_int, bMax]
      · have e1 : (0 : Int) < (R : Int) - (lim : Int) := by omega
        have e2 : ((R - lim : Nat) : Int) = (R : Int) - (lim : Int) := by omega
        simp [fMk, aCons, aNil, fC, fOp, fVar, subI_int, bMax, e2]
        intro _
        omega
    · have e1 : ¬ (0 : Int) < (R : Int) - (lim : Int) := by omega
      have e2 : R - lim = 0 := by omega
      simp [fMk, aCons, aNil, fC, fOp, fVar, subI_int, bMax, e2]
      omega
  have cu : DL.cutD (L.map ksE) (some ((R - lim : Nat) : Int)) (some (R : Int)) = ((L.take R).drop (R - lim)).map ksE := by
    rw [cutM (by rw [List.length_map]; omega) (by rw [List.length_map]; exact rl), List.map_drop, List.map_take]
  rw [m_Listing_keys_before, g_Listing_keys_before, ← hM, ← hR, List.map_reverse]
  show outM (sSeq q_Listing_keys_before_0 _ [some (.ref t), some M, some (.int (lim : Int)), none] s) = _
  have sl : fSliceO (fFld "Listing" "_keys" (fVar 0)) (oSome (fMk bMax (aCons (fC (.int 0)) (aCons (fOp subI (fVar 3) (fVar 2)) aNil)))) (oSome (fVar 3)) [some (.ref t), some M, some (.int (lim : Int)), some (.int (R : Int))] s = some (.lst (((L.take R).drop (R - lim)).map ksE), s) := by
    rw [fSliceO, h.fk rfl]
    generalize L.map ksE = KK at *
    simp only [Option.bind_some, oSome, mx, Option.map_some, u_fVar, List.getElem?_cons_succ, List.getElem?_cons_zero, ks, cu]
  rw [seq_nx c0, q_Listing_keys_before_1, u_sRet, fRevL, sl]
  rfl
theorem keyat_ok (h : Lst o (vD c o sh) s t a b d L) (ol : o.length ≤ 4) {j : Nat} {e : Kt × Int} (he : L[j]? = some e) : m_Listing_key_at [.ref t, .int (j : Int)] s = some (ksE e, s) := by
  have ks := h.ks
  have el : (L.map ksE).length = L.length := List.length_map _
  have jl := (List.getElem?_eq_some_iff.mp he).1
  have kok := h.ok.ok e (List.mem_of_getElem? he)
  have f1 : fFld "Listing" "_keys" (fVar 0) [some (.ref t), some (.int (j : Int))] s = some (.ref b, s) := h.fk rfl
  have fl : fMk bLen (aCons (fFld "Listing" "_keys" (fVar 0)) aNil) [some (.ref t), some (.int (j : Int))] s = some (.int (L.length : Int), s) := by
    rw [u_fMk, aCons, f1]
    generalize L.map ksE = PP at *
    simp [bLen, lenL, lenK, aNil, ks, el]
  have ix : fSub (fFld "Listing" "_keys" (fVar 0)) (fVar 1) [some (.ref t), some (.int (j : Int))] s = some (ksE e, s) := by
    have : L2.atI (L.map ksE) (j : Int) = some (ksE e) := atI_nat (by rw [List.getElem?_map, he]; rfl)
    rw [fSub, f1]
    generalize L.map ksE = PP at *
    simp [fVar, ixD, ks, this]
  have z : (e.1.1 ++ [D.int e.1.2]).length ≤ sizeLine := by
    rw [List.length_append, kok.l]
    exact sl_of (by simp; omega)
  have tt : fTest (fChain opLe opLt (fC (.int 0)) (fVar 1) (fMk bLen (aCons (fFld "Listing" "_keys" (fVar 0)) aNil))) [some (.ref t), some (.int (j : Int))] s = some (true, s) := by
    have e1 : (0 : Int) ≤ (j : Int) := by omega
    have e2 : (j : Int) < (L.length : Int) := by omega
    generalize fMk bLen (aCons (fFld "Listing" "_keys" (fVar 0)) aNil) = G at *
    simp [fTest, fChain, fC, fVar, opLe_int, opLt_int, fl, asB, e1, e2]
  rw [m_Listing_key_at, g_Listing_key_at]
  show outM (sSeq q_Listing_key_at_0 _ [some (.ref t), some (.int (j : Int))] s) = _
  have c0 : q_Listing_key_at_0 [some (.ref t), some (.int (j : Int))] s = some (.nx, [some (.ref t), some (.int (j : Int))], s) := by
    rw [q_Listing_key_at_0, sIf, fNotT, tt]
    rfl
  have c1 : fMk bTuple (aCons (fMk bList (aCons (fSub (fFld "Listing" "_keys" (fVar 0)) (fVar 1)) aNil)) aNil) [some (.ref t), some (.int (j : Int))] s = some (ksE e, s) := by
    rw [u_fMk, aCons, u_fMk, aCons, ix]
    simp [aNil, ksE, KD, bList, listSeq, bTuple, z]
  rw [seq_nx c0, q_Listing_key_at_1, u_sRet, c1]
  rfl
theorem cbtw_ok (h : Lst o (vD c o sh) s t a b d L) {m1 m2 : Mk} (h1 : m1.ok o) (h2 : m2.ok o) (ol : o.length ≤ 4) (hL : L.length ≤ 1000) : m_Listing_count_between [.ref t, m1.d, m2.d] s = some (.int ((L.filter fun e => btw o m1 m2 e.1).length : Int), s) := by
  have vb := between_vs h h1 h2 ol hL
  have nf := h.noF (m := "_versions_between") rfl
  obtain ⟨M, hM⟩ : ∃ M, M = L.filter fun e => btw o m1 m2 e.1 := ⟨_, rfl⟩
  rw [← hM] at vb ⊢
  have el : (M.map vsE).length = M.length := List.length_map _
  have f : fMeth "Listing" "_versions_between" m_Listing__versions_between (fVar 0) (aCons (fVar 1) (aCons (fVar 2) aNil)) [some (.ref t), some m1.d, some m2.d] s = some (.lst (M.map vsE), s) := by
    rw [fMeth, show fVar 0 [some (D.ref t), some m1.d, some m2.d] s = some (.ref t, s) from rfl]
    simp only [Option.bind_some]
    rw [nf]
    generalize M.map vsE = VV at *
    simp [aCons, aNil, fVar, vb]
  rw [m_Listing_count_between, g_Listing_count_between]
  show outM (q_Listing_count_between_0 [some (.ref t), some m1.d, some m2.d] s) = _
  rw [q_Listing_count_between_0, u_sRet, u_fMk, aCons, f]
  generalize M.map vsE = VV at *
  simp [aNil, bLen, lenL, lenK, el, outM]
theorem drop_yes (h : Lst o (vD c o sh) s t a b d L) {q : Kt} (hq : KOk o q.1 q.2) (ol : o.length ≤ 4) (hL : L.length ≤ 1000) (z : hasK o L q = true) :
    ∃ s', m_Listing_drop_key [.ref t, KD q.1 q.2] s = some (.bl true, s') ∧ Lst o (vD c o sh) s' t a b d (dropL o L q) ∧ Ch3 a b d s s' := by
  obtain ⟨V, hV⟩ : ∃ V, V = vD c o sh := ⟨_, rfl⟩
  obtain ⟨Kq, hKq⟩ : ∃ K, K = KD q.1 q.2 := ⟨_, rfl⟩
  obtain ⟨Q, hQ⟩ : ∃ Q, Q = kpD q.1 o q.2 := ⟨_, rfl⟩
  have kp := key_lst (cn := c) (sh := sh) hq ol s
  have ho := holds_ok h hq ol hL
  have ff := first_ok h.ok hq ol h.pl hL
  have ok' := h.ok.drop hq
  rw [← hV, ← hKq, ← hQ] at kp
  rw [← hQ] at ho ff
  rw [← hV] at h ⊢
  rw [← hKq]
  have nf := h.noF (m := "_holds") rfl
  obtain ⟨R, hR⟩ : ∃ R, R = rk o L q := ⟨_, rfl⟩
  rw [← hR] at ho ff
  have c0 : q_Listing_drop_key_0 [some (.ref t), some Kq, none, none] s = some (.nx, [some (.ref t), some Kq, some Q, none], s) := by
    have f : fCall m_key_place (aCons (fFld "Listing" "_view" (fVar 0)) (aCons (fVar 1) aNil)) [some (.ref t), some Kq, none, none] s = some (Q, s) := by
      rw [fCall, aCons, h.fv rfl]
      simp only [Option.bind_some]
      simp [aCons, aNil, fVar, kp]
    rw [q_Listing_drop_key_0, u_sAsg, f]
    rfl
  have c1 : q_Listing_drop_key_1 [some (.ref t), some Kq, some Q, none] s = some (.nx, [some (.ref t), some Kq, some Q, some (.int (R : Int))], s) := by
    have f : fCall m_first_from (aCons (fFld "Listing" "_places" (fVar 0)) (aCons (fVar 2) aNil)) [some (.ref t), some Kq, some Q, none] s = some (.int (R : Int), s) := by
      rw [fCall, aCons, h.fp rfl]
      simp only [Option.bind_some]
      simp [aCons, aNil, fVar, ff]
    rw [q_Listing_drop_key_1, u_sAsg, f]
    rfl
  have tt : fTest (fMeth "Listing" "_holds" m_Listing__holds (fVar 0) (aCons (fVar 3) (aCons (fVar 2) aNil))) [some (.ref t), some Kq, some Q, some (.int (R : Int))] s = some (true, s) := by
    rw [fTest, fMeth, show fVar 0 [some (D.ref t), some Kq, some Q, some (.int (R : Int))] s = some (.ref t, s) from rfl]
    simp only [Option.bind_some]
    rw [nf]
    simp [aCons, aNil, fVar, ho, asB, z]
  have c2 : q_Listing_drop_key_2 [some (.ref t), some Kq, some Q, some (.int (R : Int))] s = some (.nx, [some (.ref t), some Kq, some Q, some (.int (R : Int))], s) := by
    rw [q_Listing_drop_key_2, sIf, fNotT, tt]
    rfl
  obtain ⟨w, hs, hl⟩ := has_split h.ok hq z
  obtain ⟨A, hA⟩ : ∃ A, A = L.filter (ltK o q) := ⟨_, rfl⟩
  obtain ⟨B, hB⟩ : ∃ B, B = L.filter (gtK o q) := ⟨_, rfl⟩
  have du : dropL o L q = A ++ B := by rw [dropL, hA, hB]
  rw [← hA, ← hB] at hs
  rw [← hA, ← hR] at hl
  have er : ∀ f : Kt × Int → D, (L.map f).eraseIdx R = (dropL o L q).map f := fun f => by
    have ev : L.map f = A.map f ++ f (q, w) :: B.map f := by
      conv => lhs; rw [hs]
      simp
    rw [du, ev, ← hl, List.map_append]
    have e0 : A.length = (A.map f).length := (List.length_map _).symm
    rw [e0, List.eraseIdx_append_of_length_le (Nat.le_refl _)]
    simp
  have lt : R < L.length := by
    have := congrArg List.length hs
    rw [List.length_append, List.length_cons] at this
    omega
  have i1 := er (plE o)
  have i2 := er ksE
  have i3 := er vsE
  obtain ⟨P1, hP1⟩ : ∃ P, P = (dropL o L q).map (plE o) := ⟨_, rfl⟩
  obtain ⟨P2, hP2⟩ : ∃ P, P = (dropL o L q).map ksE := ⟨_, rfl⟩
  obtain ⟨P3, hP3⟩ : ∃ P, P = (dropL o L q).map vsE := ⟨_, rfl⟩
  rw [← hP1] at i1
  rw [← hP2] at i2
  rw [← hP3] at i3
  have pl := h.pl
  have ks := h.ks
  have vs := h.vs
  have in1 : insAt "Listing" t (s.set a (.lst P1)) = some (lsF V a b d) := insAt_set h.ins ⟨_, pl⟩
  have ks1 : (s.set a (.lst P1))[b]? = some (.lst (L.map ksE)) := by rw [List.getElem?_set_ne h.ab]; exact ks
  have in2 : insAt "Listing" t ((s.set a (.lst P1)).set b (.lst P2)) = some (lsF V a b d) := insAt_set in1 ⟨_, ks1⟩
  have vs2 : ((s.set a (.lst P1)).set b (.lst P2))[d]? = some (.lst (L.map vsE)) := by rw [List.getElem?_set_ne h.bc, List.getElem?_set_ne h.ac]; exact vs
  have in3 : insAt "Listing" t (((s.set a (.lst P1)).set b (.lst P2)).set d (.lst P3)) = some (lsF V a b d) := insAt_set in2 ⟨_, vs2⟩
  have r6 : (0 : Int) ≤ (R : Int) ∧ (R : Int) < 1000000 := by omega
  have dl : ∀ {u : Store} {g : Nat} {f : F} {xs ys : List D}, f [some (.ref t), some Kq, some Q, some (.int (R : Int))] u = some (.ref g, u) → u[g]? = some (.lst xs) → xs.eraseIdx R = ys → R < xs.length → sDelI f (fVar 3) [some (.ref t), some Kq, some Q, some (.int (R : Int))] u = some (.nx, [some (.ref t), some Kq, some Q, some (.int (R : Int))], u.set g (.lst ys)) := fun {u g f xs ys} hf hu he hl => by
    rw [sDelI, hf]
    simp only [Option.bind_some, u_fVar, List.getElem?_cons_succ, List.getElem?_cons_zero, Option.map_some, hu]
    rw [if_pos ⟨r6.1, r6.2, by rw [Int.toNat_natCast]; exact hl⟩, Int.toNat_natCast, he]
  have f1 : fFld "Listing" "_places" (fVar 0) [some (.ref t), some Kq, some Q, some (.int (R : Int))] s = some (.ref a, s) := h.fp rfl
  have f2 : fFld "Listing" "_keys" (fVar 0) [some (.ref t), some Kq, some Q, some (.int (R : Int))] (s.set a (.lst P1)) = some (.ref b, s.set a (.lst P1)) := by
    simp [fFld, fVar, in1, lk_lk]
  have f3 : fFld "Listing" "_versions" (fVar 0) [some (.ref t), some Kq, some Q, some (.int (R : Int))] ((s.set a (.lst P1)).set b (.lst P2)) = some (.ref d, (s.set a (.lst P1)).set b (.lst P2)) := by
    simp [fFld, fVar, in2, lk_ls]
  have c3 := dl f1 pl i1 (by rw [List.length_map]; exact lt)
  have c4 := dl f2 ks1 i2 (by rw [List.length_map]; exact lt)
  have c5 := dl f3 vs2 i3 (by rw [List.length_map]; exact lt)
  refine ⟨((s.set a (.lst P1)).set b (.lst P2)).set d (.lst P3), ?_, ⟨in3, ?_, ?_, ?_, ok', h.ab, h.ac, h.bc⟩, ⟨by simp, fun p pa pb pc => by rw [List.getElem?_set_ne (Ne.symm pc), List.getElem?_set_ne (Ne.symm pb), List.getElem?_set_ne (Ne.symm pa)]⟩⟩
  · rw [m_Listing_drop_key, g_Listing_drop_key]
    show outM (sSeq q_Listing_drop_key_0 _ [some (.ref t), some Kq, none, none] s) = _
    rw [seq_nx c0, seq_nx c1, seq_nx c2, seq_nx (show q_Listing_drop_key_3 _ _ = _ from c3), seq_nx (show q_Listing_drop_key_4 _ _ = _ from c4), seq_nx (show q_Listing_drop_key_5 _ _ = _ from c5)]
    rfl
  · rw [List.getElem?_set_ne (Ne.symm h.ac), List.getElem?_set_ne (Ne.symm h.ab), List.getElem?_set_self (lt_old pl), hP1]
  · rw [List.getElem?_set_ne (Ne.symm h.bc), List.getElem?_set_self (by simpa using lt_old ks), hP2]
  · rw [List.getElem?_set_self (lt_old vs2), hP3]
end LW
namespace LW
open PySem PySem.Spec PyProof.Rows L2 DL TL
variable {c : C} {o : List (Nat × Bool)} {sh : List Nat} {s st : Store} {n t a b d : Nat} {L : LsL} {w : Nat} {V : D}
/-- the tape and a listing -/
structure Lw (o : List (Nat × Bool)) (V : D) (s : Store) (n t a b d : Nat) (L : LsL) : Prop where
  tp : Tp s n
  ls : Lst o V s t a b d L
  nt : n ≠ t
  na : n ≠ a
  nb : n ≠ b
  nd : n ≠ d
theorem Lst.same (h : Lst o V s t a b d L) {s' : Store} (et : s'[t]? = s[t]?) (ea : s'[a]? = s[a]?) (eb : s'[b]? = s[b]?) (ed : s'[d]? = s[d]?) : Lst o V s' t a b d L := by
  refine ⟨?_, by rw [ea]; exact h.pl, by rw [eb]; exact h.ks, by rw [ed]; exact h.vs, h.ok, h.ab, h.ac, h.bc⟩
  have := insAt_some h.ins
  unfold insAt
  rw [et, this]
  simp
theorem Lw.fr (h : Lw o V s n t a b d L) {s' : Store} (tp : Tp s' n) (f : Fr n s s') : Lw o V s' n t a b d L := by
  have it := lt_old (insAt_some h.ls.ins)
  exact ⟨tp, h.ls.same (f.at_ _ (Ne.symm h.nt) it) (f.at_ _ (Ne.symm h.na) (lt_old h.ls.pl)) (f.at_ _ (Ne.symm h.nb) (lt_old h.ls.ks)) (f.at_ _ (Ne.symm h.nd) (lt_old h.ls.vs)), h.nt, h.na, h.nb, h.nd⟩
theorem Lw.app (h : Lw o V s n t a b d L) (x : Store) : Lw o V (s ++ x) n t a b d L := by
  have g : ∀ q, q < s.length → (s ++ x)[q]? = s[q]? := fun q hq => List.getElem?_append_left hq
  exact ⟨Tp.of h.tp (g _ h.tp.lt), h.ls.same (g _ (lt_old (insAt_some h.ls.ins))) (g _ (lt_old h.ls.pl)) (g _ (lt_old h.ls.ks)) (g _ (lt_old h.ls.vs)), h.nt, h.na, h.nb, h.nd⟩
theorem Lw.ch {L' : LsL} (h : Lw o V s n t a b d L) {s' : Store} (ls : Lst o V s' t a b d L') (ch : Ch3 a b d s s') : Lw o V s' n t a b d L' := ⟨Tp.of h.tp (ch.at_ n h.na h.nb h.nd), ls, h.nt, h.na, h.nb, h.nd⟩
/-! keys drawn -/
def kdE (q : Kt) : D := KD q.1 q.2
/-! marks in their order -/
structure Mks (o : List (Nat × Bool)) (ms : List Mk) : Prop where
  ok : ∀ m ∈ ms, m.ok o
  pw : ms.Pairwise fun x y => cmpM o x y ≤ 0
def insM (o : List (Nat × Bool)) (ms : List Mk) (m : Mk) : List Mk := ms.filter (fun x => decide (cmpM o x m < 0)) ++ m :: ms.filter fun x => !decide (cmpM o x m < 0)
theorem Mks.ins {ms : List Mk} (h : Mks o ms) {m : Mk} (hm : m.ok o) : Mks o (insM o ms m) := by
  refine ⟨fun x hx => ?_, ?_⟩
  · rcases List.mem_append.mp hx with z | z
    · exact h.ok x (List.mem_filter.mp z).1
    · rcases List.mem_cons.mp z with rfl | z
      · exact hm
      · exact h.ok x (List.mem_filter.mp z).1
  · refine List.pairwise_append.mpr ⟨h.pw.sublist List.filter_sublist, List.pairwise_cons.mpr ⟨fun y hy => ?_, h.pw.sublist List.filter_sublist⟩, fun x hx y hy => ?_⟩
    · obtain ⟨my, z⟩ := List.mem_filter.mp hy
      have z' : ¬ cmpM o y m < 0 := by simpa using z
      exact cmp_flip hm (h.ok y my) z'
    · obtain ⟨mx, z⟩ := List.mem_filter.mp hx
      have z' : cmpM o x m < 0 := by simpa using z
      rcases List.mem_cons.mp hy with rfl | hy
      · omega
      · obtain ⟨my, z2⟩ := List.mem_filter.mp hy
        have z2' : ¬ cmpM o y m < 0 := by simpa using z2
        exact cmp_trans (h.ok x mx) hm (h.ok y my) (by omega) (cmp_flip hm (h.ok y my) z2')
theorem loopCG_flt {α : Type} {P : Store → Prop} {is : List Nat} {bd : FB} {t : FT} {f : F} {φ : α → D} {p : α → Bool} {env : Lo} {st : Store} (hP : P st) : ∀ {l : List α}, (∀ x ∈ l, ∃ vs, bd (φ x) = some vs ∧ t (setL is vs env) st = some (p x, st) ∧ f (setL is vs env) st = some (φ x, st)) → loopCG P is bd t f (l.map φ) env st = some ((l.filter p).map φ, st)
  | [], _ => by rw [List.map_nil, loopCG, if_pos (by simpa [okP] using hP)]; rfl
  | x :: l, h => by
    obtain ⟨vs, h1, h2, h3⟩ := h x List.mem_cons_self
    have ih := loopCG_flt (φ := φ) (p := p) hP (l := l) fun y hy => h y (List.mem_cons_of_mem _ hy)
    rw [List.map_cons, loopCG, if_pos (by simpa [okP] using hP), h1, Option.bind_some, h2, Option.bind_some]
    cases q : p x with
    | true => simp only [if_true, h3, Option.bind_some, ih, Option.map_some, List.filter_cons, q, List.map_cons]
    | false => simp only [Bool.false_eq_true, if_false, ih, List.filter_cons, q]
end LW
namespace LW
open PySem PySem.Spec PyProof.Rows L2 DL TL
variable {c : C} {o : List (Nat × Bool)} {sh : List Nat} {Φ : KX} {w : Nat} {wi : Int} {s st : Store} {n t sp ss p : Nat} {cs : List D} {P : Int} {l : VL} {T r cc : KL} {ps : List (KL × KL)}
theorem rv_of {R : KL} (vs : Vsg U7 w r cc) (oR : okK U7 R) (e : ∀ i, gt R i = gt r i) : RV w R := by
  refine ⟨oR.nd, Nat.le_trans oR.len (by decide), fun kv m => ?_⟩
  obtain ⟨i, hi, e1⟩ := oR.mem kv m
  obtain ⟨k, d⟩ := kv
  have e1' : k = .inl i := e1
  subst e1'
  have g : gt R i = some d := (valD_some oR.nd).mpr m
  rw [e] at g
  obtain ⟨us, rfl, ul, uv⟩ := vs.rv i d g
  have b : ∀ z ∈ U7, 1 ≤ z ∧ z ≤ 1000000 := by decide
  exact ⟨i, us, rfl, ul, fun v hv => valB_pv (uv v hv), (b i hi).1, (b i hi).2⟩
/-- the change version of a row -/
def chI (cc : KL) (i : Int) : Int := match gt cc i with | some (.int k) => k | _ => 0
def lsE (o : List (Nat × Bool)) (cc : KL) (kv : Key × D) : Kt × Int := (kap o kv, chI cc (kI kv))
theorem putL_len1 {L : LsL} {q : Kt} {v : Int} : (putL o L q v).length ≤ L.length + 1 := by
  rw [putL, List.length_append, List.length_cons]
  have : (L.filter (ltK o q)).length + (L.filter (gtK o q)).length ≤ L.length := by
    induction L with
    | nil => simp
    | cons x L ih =>
      rw [List.filter_cons, List.filter_cons]
      by_cases z : ltK o q x = true
      · have : gtK o q x = false := by
          simp [ltK] at z
          simp [gtK]; omega
        rw [if_pos z, if_neg (by simp [this]), List.length_cons, List.length_cons]; omega
      · rw [if_neg z]
        split <;> simp only [List.length_cons] <;> omega
  omega
noncomputable abbrev loB : FS := q_listing_of_3l_0
theorem lo_loop {R C0 : KL} {q3 q4 tl a b d : Nat} {vi : Int} (h : RV w R) (vo : VOk w c o sh) (cw : w ≤ 10) (hC : ∀ kv ∈ R, ∃ k : Nat, gt C0 (kI kv) = some (.int k)) (n3 : q3 ≠ a ∧ q3 ≠ b ∧ q3 ≠ d) (n4 : q4 ≠ a ∧ q4 ≠ b ∧ q4 ≠ d) :
    ∀ {l : KL} {L : LsL} {st : Store} {x6 : Option D}, (∀ kv ∈ l, kv ∈ R) → (l.map (·.1)).Nodup → (∀ x ∈ L, ∀ kv ∈ l, x.1.2 ≠ kI kv) → L.length + l.length ≤ 200 → Lst o (vD c o sh) st tl a b d L → st[q3]? = some (.ldc R) → st[q4]? = some (.dct C0) →
    ∃ st' L' y6, loopS (gN 6) loB (l.map fun kv => keyD kv.1) [some (.ref t), some (vD c o sh), some (.int vi), some (.ref q3), some (.ref q4), some (.ref tl), x6] st = some (.nx, [some (.ref t), some (vD c o sh), some (.int vi), some (.ref q3), some (.ref q4), some (.ref tl), y6], st') ∧ Lst o (vD c o sh) st' tl a b d L' ∧ Ch3 a b d st st' ∧ L'.length ≤ L.length + l.length ∧ ∀ x, x ∈ L' ↔ x ∈ L ∨ ∃ kv ∈ l, sat (vS kv) c = true ∧ x = lsE o C0 kv
  | [], L, st, x6, _, _, _, _, ls, _, _ => ⟨st, L, x6, rfl, ls, ⟨rfl, fun _ _ _ _ => rfl⟩, by simp, fun x => by simp⟩
  | kv :: l, L, st, x6, hR, nd, hd, hlen, ls, h3, h4 => by
    have mR := hR kv List.mem_cons_self
    obtain ⟨nd1, nd2⟩ := List.nodup_cons.mp (by simpa using nd : ((kv.1 :: l.map (·.1)) : List Key).Nodup)
    rw [List.length_cons] at hlen
    have kok := h.kok vo mR
    have hv : valD R kv.1 = some kv.2 := (valD_some h.nd).mpr mR
    obtain ⟨ck, hck⟩ := hC kv mR
    obtain ⟨i, vs, ekv, vl, pv, i0, i1⟩ := h.v kv mR
    obtain ⟨V, hV⟩ : ∃ V, V = vD c o sh := ⟨_, rfl⟩
    have ekey : keyD kv.1 = .int i := by rw [ekv]; rfl
    have ekI : kI kv = i := by rw [ekv]; rfl
    have evS : vS kv = vs := by rw [ekv]; rfl
    have hv' : valD R (.inl i) = some (.tup vs) := by rw [ekv] at hv; exact hv
    have hck' : valD C0 (.inl i) = some (.int ck) := by rw [ekI] at hck; exact hck
    have echI : chI C0 (kI kv) = (ck : Int) := by rw [chI, hck]
    have mt := matches_ok pv 5 c (by rw [vl]; exact vo.co) vo.ch st
    have x1 : fSub (fVar 1) (fC (.int 0)) [some (.ref t), some V, some (.int vi), some (.ref q3), some (.ref q4), some (.ref tl), some (.int i)] st = some (c.d, st) := by
      have i0 : L2.atI [c.d, .tup (vOrd o), .tup (sh.map fun n : Nat => .int n)] 0 = some c.d := ix0
      rw [hV]
      simp only [fSub, fVar, fC, vD, ixD, List.getElem?_cons_succ, List.getElem?_cons_zero, Option.bind_some, i0, Option.map_some]
    have x3 : fSub (fVar 3) (fVar 6) [some (.ref t), some V, some (.int vi), some (.ref q3), some (.ref q4), some (.ref tl), some (.int i)] st = some (.tup vs, st) := by
      simp [fSub, fVar, ixD, h3, asKey, hv']
    have x4 : fSub (fVar 4) (fVar 6) [some (.ref t), some V, some (.int vi), some (.ref q3), some (.ref q4), some (.ref tl), some (.int i)] st = some (.int ck, st) := by
      simp [fSub, fVar, ixD, h4, asKey, hck']
    have tm : fTest (fCall (m_matches 5) (aCons (fSub (fVar 1) (fC (.int 0))) (aCons (fSub (fVar 3) (fVar 6)) aNil))) [some (.ref t), some V, some (.int vi), some (.ref q3), some (.ref q4), some (.ref tl), some (.int i)] st = some (sat vs c, st) := by
      rw [fTest, fCall, aCons, x1]
      simp only [Option.bind_some]
      rw [aCons, x3]
      simp [aNil, mt, asB]
    have one : ∃ st1 L1, loB [some (.ref t), some V, some (.int vi), some (.ref q3), some (.ref q4), some (.ref tl), some (.int i)] st = some (.nx, [some (.ref t), some V, some (.int vi), some (.ref q3), some (.ref q4), some (.ref tl), some (.int i)], st1) ∧ Lst o (vD c o sh) st1 tl a b d L1 ∧ Ch3 a b d st st1 ∧ L1.length ≤ L.length + 1 ∧ ∀ x, x ∈ L1 ↔ x ∈ L ∨ (sat (vS kv) c = true ∧ x = lsE o C0 kv) := by
      cases z : sat vs c with
      | false =>
        rw [z] at tm
        refine ⟨st, L, ?_, ls, ⟨rfl, fun _ _ _ _ => rfl⟩, by omega, fun x => by rw [evS, z]; simp⟩
        rw [loB, q_listing_of_3l_0, sIf, tm]
        simp [sNil]
      | true =>
        rw [z] at tm
        obtain ⟨st1, g1, g2, g3⟩ := add_ok ls (q := kap o kv) kok vo.ol (by omega) (ck : Int)
        have nf := ls.noF (m := "add_key") rfl
        refine ⟨st1, _, ?_, g2, g3, putL_len1, fun x => ?_⟩
        · have ko := key_ok (c := c) (sh := sh) (i := i) st (vs := vs) (by rw [vl]; exact vo.oc) vo.ol
          have ekd : kD o vs i = KD (kap o kv).1 (kap o kv).2 := by rw [kap, evS, ekI]; rfl
          rw [ekd] at ko
          obtain ⟨Kq, hKq⟩ : ∃ K, K = KD (kap o kv).1 (kap o kv).2 := ⟨_, rfl⟩
          rw [← hKq, ← hV] at ko
          rw [← hKq] at g1
          have fk : fCall m_key_of (aCons (fVar 1) (aCons (fVar 6) (aCons (fSub (fVar 3) (fVar 6)) aNil))) [some (.ref t), some V, some (.int vi), some (.ref q3), some (.ref q4), some (.ref tl), some (.int i)] st = some (Kq, st) := by
            rw [fCall, aCons, show fVar 1 [some (D.ref t), some V, some (.int vi), some (.ref q3), some (.ref q4), some (.ref tl), some (.int i)] st = some (V, st) from rfl]
            simp only [Option.bind_some]
            rw [aCons, show fVar 6 [some (D.ref t), some V, some (.int vi), some (.ref q3), some (.ref q4), some (.ref tl), some (.int i)] st = some (.int i, st) from rfl]
            simp only [Option.bind_some]
            rw [aCons, x3]
            simp [aNil, ko]
          rw [loB, q_listing_of_3l_0, sIf, tm]
          simp only [Option.bind_some, if_true]
          rw [q_listing_of_3l_0t_0, u_sDrop, fMeth, show fVar 5 [some (D.ref t), some V, some (.int vi), some (.ref q3), some (.ref q4), some (.ref tl), some (.int i)] st = some (.ref tl, st) from rfl]
          simp only [Option.bind_some]
          rw [nf]
          simp only [if_true]
          rw [aCons, fk]
          simp only [Option.bind_some]
          rw [aCons, x4]
          simp [aNil, g1]
        · rw [putL_mem ls.ok kok, evS, z]
          have e : lsE o C0 kv = (kap o kv, (ck : Int)) := by rw [lsE, echI]
          rw [e]
          constructor
          · rintro (h1 | h1)
            · exact .inr ⟨rfl, h1⟩
            · exact .inl h1.1
          · rintro (h1 | h1)
            · refine .inr ⟨h1, fun e => hd x h1 kv List.mem_cons_self ?_⟩
              rw [e]; rfl
            · exact .inl h1.2
    rw [hV] at one
    obtain ⟨st1, L1, b1, ls1, ch1, ln1, m1⟩ := one
    have ndl : (l.map (·.1)).Nodup := nd2
    have ids : ∀ kv' ∈ l, kI kv' ≠ kI kv := fun kv' m' e => by
      refine nd1 (List.mem_map.mpr ⟨kv', m', ?_⟩)
      obtain ⟨i', vs', e', _⟩ := h.v kv' (hR kv' (List.mem_cons_of_mem _ m'))
      rw [e', ekv] at e ⊢
      have : i' = i := e
      rw [this]
    obtain ⟨st', L', y6, g, ls2, ch2, ln2, m2⟩ := lo_loop h vo cw hC n3 n4 (l := l) (L := L1) (st := st1) (x6 := some (.int i)) (fun x hx => hR x (List.mem_cons_of_mem _ hx)) ndl (fun x hx kv' m' => by
      rcases (m1 x).mp hx with h1 | ⟨_, h1⟩
      · exact hd x h1 kv' (List.mem_cons_of_mem _ m')
      · rw [h1]; exact fun e => ids kv' m' e.symm) (by omega) ls1 (by rw [ch1.at_ _ n3.1 n3.2.1 n3.2.2]; exact h3) (by rw [ch1.at_ _ n4.1 n4.2.1 n4.2.2]; exact h4)
    refine ⟨st', L', y6, ?_, ls2, ⟨by rw [ch2.len, ch1.len], fun q q1 q2 q3 => by rw [ch2.at_ q q1 q2 q3, ch1.at_ q q1 q2 q3]⟩, by rw [List.length_cons]; omega, fun x => ?_⟩
    · rw [List.map_cons, ekey, loopS, u_gN]
      simp only [List.set_cons_succ, List.set_cons_zero, Option.bind_some]
      rw [b1]
      simp only [Option.bind_some]
      exact g
    · rw [m2, m1]
      constructor
      · rintro ((h1 | h1) | ⟨kv', m', h1⟩)
        · exact .inl h1
        · exact .inr ⟨kv, List.mem_cons_self, h1⟩
        · exact .inr ⟨kv', List.mem_cons_of_mem _ m', h1⟩
      · rintro (h1 | ⟨kv', m', h1⟩)
        · exact .inl (.inl h1)
        · rcases List.mem_cons.mp m' with rfl | m'
          · exact .inl (.inr h1)
          · exact .inr ⟨kv', m', h1⟩
theorem ls_new (s : Store) (V : D) : m_Listing___init__ [.ref s.length, V] (s ++ [.ins "Listing" []]) = some (.non, s ++ [.ins "Listing" (lsF V (s.length + 1) (s.length + 2) (s.length + 3)), .lst [], .lst [], .lst []]) := by
  have z0 : 0 ≤ sizeLine := Nat.zero_le _
  have at_ : ∀ (fs : List (Str × D)) (l : Store), insAt "Listing" s.length (s ++ Ob.ins "Listing" fs :: l) = some fs := fun fs l => by
    simp [insAt]
  have set_ : ∀ (fs gs : List (Str × D)) (l : Store), (s ++ Ob.ins "Listing" fs :: l).set s.length (.ins "Listing" gs) = s ++ Ob.ins "Listing" gs :: l := fun fs gs l => by
    simp
  let f1 : List (Str × D) := [("_view", V)]
  let f2 : List (Str × D) := [("_view", V), ("_places", .ref (s.length + 1))]
  let f3 : List (Str × D) := [("_view", V), ("_places", .ref (s.length + 1)), ("_keys", .ref (s.length + 2))]
  have p1 : putFD "_view" V [] = f1 := rfl
  have p2 : putFD "_places" (.ref (s.length + 1)) f1 = f2 := rfl
  have p3 : putFD "_keys" (.ref (s.length + 2)) f2 = f3 := rfl
  have p4 : putFD "_versions" (.ref (s.length + 3)) f3 = lsF V (s.length + 1) (s.length + 2) (s.length + 3) := rfl
  have a1 : ∀ (v : F) (f : Str) (fs : List (Str × D)) (d : D) (l l' : Store), fs.length < 1000 → v [some (.ref s.length), some V] (s ++ Ob.ins "Listing" fs :: l) = some (d, s ++ Ob.ins "Listing" fs :: l') →
      sFldD "Listing" f (fVar 0) v [some (.ref s.length), some V] (s ++ Ob.ins "Listing" fs :: l) = some (.nx, [some (.ref s.length), some V], s ++ Ob.ins "Listing" (putFD f d fs) :: l') := fun v f fs d l l' hl hv => by
    simp [sFldD, hv, fVar, at_, hl, set_]
  have nl : ∀ (e : Lo) (u : Store), fNewL aNil e u = some (.ref u.length, u ++ [.lst []]) := fun e u => by
    rw [u_fNewL]
    simp [aNil, z0]
  have e1 := a1 (fVar 1) "_view" [] V [] [] (by decide) (by simp [fVar])
  have e2 := a1 (fNewL aNil) "_places" f1 (.ref (s.length + 1)) [] [.lst []] (by show 1 < 1000; decide) (by rw [nl]; simp)
  have e3 := a1 (fNewL aNil) "_keys" f2 (.ref (s.length + 2)) [.lst []] [.lst [], .lst []] (by show 2 < 1000; decide) (by rw [nl]; simp)
  have e4 := a1 (fNewL aNil) "_versions" f3 (.ref (s.length + 3)) [.lst [], .lst []] [.lst [], .lst [], .lst []] (by show 3 < 1000; decide) (by rw [nl]; simp)
  rw [p1] at e1
  rw [p2] at e2
  rw [p3] at e3
  rw [p4] at e4
  rw [m_Listing___init__, g_Listing___init__]
  show outM (sSeq q_Listing___init___0 _ [some (.ref s.length), some V] (s ++ [.ins "Listing" []])) = _
  rw [seq_nx (show q_Listing___init___0 _ _ = _ from e1), seq_nx (show q_Listing___init___1 _ _ = _ from e2), seq_nx (show q_Listing___init___2 _ _ = _ from e3), show q_Listing___init___3 _ _ = _ from e4]
  rfl
theorem ext_of {s s' : Store} (hl : s.length ≤ s'.length) (h : ∀ q, q < s.length → s'[q]? = s[q]?) : ∃ x, s' = s ++ x := by
  refine ⟨s'.drop s.length, ?_⟩
  have : s'.take s.length = s := by
    refine List.ext_getElem? fun j => ?_
    rw [List.getElem?_take]
    by_cases z : j < s.length
    · rw [if_pos z, h j z]
    · rw [if_neg z, List.getElem?_eq_none (by omega)]
  conv => lhs; rw [← List.take_append_drop s.length s', this]
theorem listing_ok (h : GWd Φ w s n t sp ss p cs P l T ps) {v : Int} (hv : v ∈ l.map (·.1)) (vo : VOk w c o sh) :
    ∃ (k : Nat) (r cc : KL) (s' : Store) (tl a b d : Nat) (L : LsL), v = k ∧ ps[k]? = some (r, cc) ∧ Vsg U7 w r cc ∧ RV w r ∧ m_listing_of [.ref t, vD c o sh, .int v] s = some (.ref tl, s') ∧ (∃ x, s' = s ++ x) ∧ Lst o (vD c o sh) s' tl a b d L ∧ L.length ≤ 100 ∧ ∀ x, x ∈ L ↔ ∃ kv ∈ r, sat (vS kv) c = true ∧ x = lsE o cc kv := by
  obtain ⟨k, r, cc, Z, R, _, ek, er, vs, a1, _, oR, _, eR, _⟩ := h.both hv
  obtain ⟨s1, hs1⟩ : ∃ s1, s1 = s ++ [Ob.dct Z, .dct R] := ⟨_, rfl⟩
  have h1 := h.app [Ob.dct Z, .dct R]
  rw [← hs1] at a1 h1
  obtain ⟨k', r', cc', Z', _, C, ek', er', _, _, a2, _, oC, _, eC⟩ := h1.both hv
  obtain rfl : k = k' := by omega
  rw [er] at er'
  cases er'
  obtain ⟨s2, hs2⟩ : ∃ s2, s2 = s1 ++ [Ob.dct Z', .dct C] := ⟨_, rfl⟩
  rw [← hs2] at a2
  have l1 : s1.length = s.length + 2 := by rw [hs1]; simp
  have l2 : s2.length = s.length + 4 := by rw [hs2]; simp [l1]
  have rR := rv_of vs oR eR
  have rr := rv_of vs vs.or_ fun _ => rfl
  have pm := oR.perm vs.or_ eR
  obtain ⟨V, hV⟩ : ∃ V, V = vD c o sh := ⟨_, rfl⟩
  have nw := ls_new s2 V
  obtain ⟨s3, hs3⟩ : ∃ s3, s3 = s2 ++ [.ins "Listing" (lsF V (s2.length + 1) (s2.length + 2) (s2.length + 3)), .lst [], .lst [], .lst []] := ⟨_, rfl⟩
  rw [← hs3] at nw
  have l3 : s3.length = s.length + 8 := by rw [hs3]; simp [l2]
  have q1 : s1[s.length + 1]? = some (.dct R) := by rw [hs1]; simp
  have q3 : s3[s.length + 1]? = some (.dct R) := by
    rw [hs3, List.getElem?_append_left (by omega), hs2, List.getElem?_append_left (by omega)]; exact q1
  have q4 : s3[s1.length + 1]? = some (.dct C) := by
    rw [hs3, List.getElem?_append_left (by omega), hs2]
    simp
  have old : ∀ q, q < s.length → s3[q]? = s[q]? := fun q hq => by
    rw [hs3, List.getElem?_append_left (by omega), hs2, List.getElem?_append_left (by omega), hs1, List.getElem?_append_left hq]
  have nf1 := h.noF (m := "rows_at") fun _ => rfl
  have nf2 := h1.noF (m := "changes_at") fun _ => rfl
  have c0 : q_listing_of_0 [some (.ref t), some V, some (.int v), none, none, none, none] s = some (.nx, [some (.ref t), some V, some (.int v), some (.ref (s.length + 1)), none, none, none], s1) := by
    have f : fMeth "Table" "rows_at" m_Table_rows_at (fVar 0) (aCons (fVar 2) aNil) [some (.ref t), some V, some (.int v), none, none, none, none] s = some (.ref (s.length + 1), s1) := by
      rw [fMeth, show fVar 0 [some (D.ref t), some V, some (.int v), none, none, none, none] s = some (.ref t, s) from rfl]
      simp only [Option.bind_some]
      rw [nf1]
      simp [aCons, aNil, fVar, a1]
    rw [q_listing_of_0, u_sAsg, f]
    rfl
  have c1 : q_listing_of_1 [some (.ref t), some V, some (.int v), some (.ref (s.length + 1)), none, none, none] s1 = some (.nx, [some (.ref t), some V, some (.int v), some (.ref (s.length + 1)), some (.ref (s1.length + 1)), none, none], s2) := by
    have f : fMeth "Table" "changes_at" m_Table_changes_at (fVar 0) (aCons (fVar 2) aNil) [some (.ref t), some V, some (.int v), some (.ref (s.length + 1)), none, none, none] s1 = some (.ref (s1.length + 1), s2) := by
      rw [fMeth, show fVar 0 [some (D.ref t), some V, some (.int v), some (.ref (s.length + 1)), none, none, none] s1 = some (.ref t, s1) from rfl]
      simp only [Option.bind_some]
      rw [nf2]
      simp [aCons, aNil, fVar, a2]
    rw [q_listing_of_1, u_sAsg, f]
    rfl
  have c2 : q_listing_of_2 [some (.ref t), some V, some (.int v), some (.ref (s.length + 1)), some (.ref (s1.length + 1)), none, none] s2 = some (.nx, [some (.ref t), some V, some (.int v), some (.ref (s.length + 1)), some (.ref (s1.length + 1)), some (.ref s2.length), none], s3) := by
    have f : fMake "Listing" m_Listing___init__ (aCons (fVar 1) aNil) [some (.ref t), some V, some (.int v), some (.ref (s.length + 1)), some (.ref (s1.length + 1)), none, none] s2 = some (.ref s2.length, s3) := by
      rw [fMake, show aCons (fVar 1) aNil [some (D.ref t), some V, some (.int v), some (.ref (s.length + 1)), some (.ref (s1.length + 1)), none, none] s2 = some ([V], s2) from rfl]
      simp only [Option.bind_some]
      rw [nw]
      rfl
    rw [q_listing_of_2, u_sAsg, f]
    rfl
  have s4 : (s3.set (s.length + 1) (.ldc R))[s.length + 1]? = some (.ldc R) := List.getElem?_set_self (by omega)
  have ls0 : Lst o (vD c o sh) (s3.set (s.length + 1) (.ldc R)) s2.length (s2.length + 1) (s2.length + 2) (s2.length + 3) [] := by
    refine ⟨?_, ?_, ?_, ?_, LOk.nil, by omega, by omega, by omega⟩
    · rw [← hV]
      unfold insAt
      rw [List.getElem?_set_ne (by omega), hs3]
      simp
    · rw [List.getElem?_set_ne (by omega), hs3]; simp
    · rw [List.getElem?_set_ne (by omega), hs3]; simp
    · rw [List.getElem?_set_ne (by omega), hs3]; simp
  have hC : ∀ kv ∈ R, ∃ k : Nat, gt C (kI kv) = some (.int k) := fun kv m => by
    obtain ⟨i, hi, e1⟩ := oR.mem kv m
    obtain ⟨k0, d0⟩ := kv
    have e1' : k0 = .inl i := e1
    subst e1'
    have g : gt R i = some d0 := (valD_some oR.nd).mpr m
    rw [eR] at g
    have pr := vs.cs i
    rw [g] at pr
    obtain ⟨dd, hd⟩ := Option.isSome_iff_exists.mp pr
    obtain ⟨k2, rfl, _⟩ := vs.cv i dd hd
    refine ⟨k2, ?_⟩
    show gt C i = _
    rw [eC, hd]
  have RL : R.length ≤ 100 := rR.len
  obtain ⟨s5, L, y6, g5, ls5, ch5, ln5, m5⟩ := lo_loop (t := t) (q3 := s.length + 1) (q4 := s1.length + 1) (vi := v) rR vo h.cw hC (by omega) (by omega) (l := R) (L := []) (st := s3.set (s.length + 1) (.ldc R)) (x6 := none) (fun kv m => m) rR.nd (fun x hx => by cases hx) (by simp; omega) ls0 s4 (by rw [List.getElem?_set_ne (by omega)]; exact q4)
  rw [← hV] at g5
  have l5 : s5.length = s.length + 8 := by rw [ch5.len]; simp [l3]
  have r5 : s5[s.length + 1]? = some (.ldc R) := by rw [ch5.at_ _ (by omega) (by omega) (by omega)]; exact s4
  have c3 : q_listing_of_3 [some (.ref t), some V, some (.int v), some (.ref (s.length + 1)), some (.ref (s1.length + 1)), some (.ref s2.length), none] s3 = some (.nx, [some (.ref t), some V, some (.int v), some (.ref (s.length + 1)), some (.ref (s1.length + 1)), some (.ref s2.length), y6], s5.set (s.length + 1) (.dct R)) := by
    have wh : whichR (fVar 3) [some (.ref t), some V, some (.int v), some (.ref (s.length + 1)), some (.ref (s1.length + 1)), some (.ref s2.length), none] s3 = some (s.length + 1) := rfl
    have it : iFrz kKeys (fVar 3) [some (.ref t), some V, some (.int v), some (.ref (s.length + 1)), some (.ref (s1.length + 1)), some (.ref s2.length), none] (s3.set (s.length + 1) (.ldc R)) = some (R.map fun kv => keyD kv.1, s3.set (s.length + 1) (.ldc R)) := by
      rw [iFrz, show fVar 3 [some (.ref t), some V, some (.int v), some (.ref (s.length + 1)), some (.ref (s1.length + 1)), some (.ref s2.length), none] (s3.set (s.length + 1) (.ldc R)) = some (.ref (s.length + 1), s3.set (s.length + 1) (.ldc R)) from rfl]
      simp only [Option.bind_some, frzAt, ldcAt, s4, Option.map_some, kKeys]
    rw [q_listing_of_3, sLock, wh, Option.bind_some, dctIn, q3]
    simp only [Option.bind_some]
    rw [for_step it, g5]
    simp only [Option.bind_some, ldcAt, r5, Option.map_some]
  have lsF' : Lst o (vD c o sh) (s5.set (s.length + 1) (.dct R)) s2.length (s2.length + 1) (s2.length + 2) (s2.length + 3) L := by
    refine ⟨?_, ?_, ?_, ?_, ls5.ok, ls5.ab, ls5.ac, ls5.bc⟩
    · have := insAt_some ls5.ins
      unfold insAt
      rw [List.getElem?_set_ne (by omega), this]
      simp
    · rw [List.getElem?_set_ne (by omega)]; exact ls5.pl
    · rw [List.getElem?_set_ne (by omega)]; exact ls5.ks
    · rw [List.getElem?_set_ne (by omega)]; exact ls5.vs
  have ech : ∀ i, chI C i = chI cc i := fun i => by rw [chI, chI, eC]
  refine ⟨k, r, cc, s5.set (s.length + 1) (.dct R), s2.length, _, _, _, L, ek, er, vs, rr, ?_, ext_of (by rw [List.length_set]; omega) (fun q hq => ?_), lsF', ?_, fun x => ?_⟩
  · rw [← hV, m_listing_of, g_listing_of]
    show outM (sSeq q_listing_of_0 _ [some (.ref t), some V, some (.int v), none, none, none, none] s) = _
    rw [seq_nx c0, seq_nx c1, seq_nx c2, seq_nx c3]
    rfl
  · rw [List.getElem?_set_ne (by omega), ch5.at_ _ (by omega) (by omega) (by omega), List.getElem?_set_ne (by omega), old q hq]
  · simp at ln5; omega
  · rw [m5]
    simp only [List.not_mem_nil, false_or]
    constructor
    · rintro ⟨kv, m, h1, h2⟩
      exact ⟨kv, pm.mem_iff.mp m, h1, by rw [h2, lsE, lsE, ech]⟩
    · rintro ⟨kv, m, h1, h2⟩
      exact ⟨kv, pm.mem_iff.mpr m, h1, by rw [h2, lsE, lsE, ech]⟩
end LW
namespace LW
open PySem PySem.Spec PyProof.Rows L2 DL TL
variable {c : C} {o : List (Nat × Bool)} {sh : List Nat} {s s' st : Store} {n F : Nat} {cs : List D} {L : LsL} {V : D} {qs : List Kt} {ps : List (KL × KL)}
def K0 : KX := fun _ => none
theorem K0_at (s : Store) : KXat K0 s := fun m ob e => by cases e
theorem Tb.fmL {Φ : KX} {w : Nat} {a : Ad} (h : Tb Φ w s n a cs ps) {xs : List Nat} (f : Fm xs s s') (hn : n ∉ xs) (ha : ∀ x ∈ a.ls, x ∉ xs) (hq : ∀ m ∈ xs, Φ m = none) : Tb Φ w s' n a cs ps := by
  obtain ⟨P, l, T, g, fu⟩ := h
  exact ⟨P, l, T, g.fm f hn (ha _ (by simp [Ad.ls])) (ha _ (by simp [Ad.ls])) (ha _ (by simp [Ad.ls])) hn hq, fu⟩
/-- two listings, a table, the keys -/
structure W28 (o : List (Nat × Bool)) (V : D) (s : Store) (n F : Nat) (cs : List D) (L : LsL) (qs : List Kt) (ps : List (KL × KL)) : Prop where
  A : Lst o V s F (F + 1) (F + 2) (F + 3) L
  B : Lst o V s (F + 4) (F + 5) (F + 6) (F + 7) L
  T : Tb K0 2 s n ⟨F + 8, F + 9, F + 10⟩ cs ps
  sp : s[F + 11]? = some (.lst (qs.map kdE))
  lt : n < F
theorem W28.fr (h : W28 o V s n F cs L qs ps) (tp : Tp s' n) (f : Fr n s s') : W28 o V s' n F cs L qs ps := by
  have hl := lt_old h.sp
  have g : ∀ q, F ≤ q → q ≤ F + 11 → s'[q]? = s[q]? := fun q a b => f.at_ q (by have := h.lt; omega) (by omega)
  exact ⟨h.A.same (g _ (by omega) (by omega)) (g _ (by omega) (by omega)) (g _ (by omega) (by omega)) (g _ (by omega) (by omega)), h.B.same (g _ (by omega) (by omega)) (g _ (by omega) (by omega)) (g _ (by omega) (by omega)) (g _ (by omega) (by omega)), h.T.fr tp f, by rw [g _ (by omega) (by omega)]; exact h.sp, h.lt⟩
theorem W28.app (h : W28 o V s n F cs L qs ps) (x : Store) : W28 o V (s ++ x) n F cs L qs ps := by
  have hl := lt_old h.sp
  have g : ∀ q, F ≤ q → q ≤ F + 11 → (s ++ x)[q]? = s[q]? := fun q a b => List.getElem?_append_left (by omega)
  exact ⟨h.A.same (g _ (by omega) (by omega)) (g _ (by omega) (by omega)) (g _ (by omega) (by omega)) (g _ (by omega) (by omega)), h.B.same (g _ (by omega) (by omega)) (g _ (by omega) (by omega)) (g _ (by omega) (by omega)) (g _ (by omega) (by omega)), h.T.app x, by rw [g _ (by omega) (by omega)]; exact h.sp, h.lt⟩
theorem ch_fm {a b d : Nat} (c : Ch3 a b d s s') : Fm [a, b, d] s s' := ⟨by rw [c.len]; exact Nat.le_refl _, fun m hm hn => by
  simp only [List.mem_cons, List.not_mem_nil, or_false, not_or] at hn
  exact c.at_ m hn.1 hn.2.1 hn.2.2⟩
theorem W28.chA (h : W28 o V s n F cs L qs ps) {L' : LsL} (hA : Lst o V s' F (F + 1) (F + 2) (F + 3) L') (c : Ch3 (F + 1) (F + 2) (F + 3) s s') : Lst o V s' (F + 4) (F + 5) (F + 6) (F + 7) L ∧ Tb K0 2 s' n ⟨F + 8, F + 9, F + 10⟩ cs ps ∧ s'[F + 11]? = some (.lst (qs.map kdE)) := by
  have hlt := h.lt
  have g : ∀ q, F + 4 ≤ q → s'[q]? = s[q]? := fun q a => c.at_ q (by omega) (by omega) (by omega)
  exact ⟨h.B.same (g _ (by omega)) (g _ (by omega)) (g _ (by omega)) (g _ (by omega)), h.T.fmL (ch_fm c) (by simp; omega) (fun x hx => by simp [Ad.ls] at hx ⊢; omega) (fun _ _ => rfl), by rw [g _ (by omega)]; exact h.sp⟩
theorem W28.both {L' : LsL} (h : W28 o V s n F cs L qs ps) {s1 s2 : Store} (hA : Lst o V s1 F (F + 1) (F + 2) (F + 3) L') (c1 : Ch3 (F + 1) (F + 2) (F + 3) s s1) (hB : Lst o V s2 (F + 4) (F + 5) (F + 6) (F + 7) L') (c2 : Ch3 (F + 5) (F + 6) (F + 7) s1 s2) : W28 o V s2 n F cs L' qs ps := by
  obtain ⟨_, t1, p1⟩ := h.chA hA c1
  have hlt := h.lt
  have g : ∀ q, q < F + 5 ∨ F + 8 ≤ q → s2[q]? = s1[q]? := fun q a => c2.at_ q (by omega) (by omega) (by omega)
  exact ⟨hA.same (g _ (by omega)) (g _ (by omega)) (g _ (by omega)) (g _ (by omega)), hB, t1.fmL (ch_fm c2) (by simp; omega) (fun x hx => by simp [Ad.ls] at hx ⊢; omega) (fun _ _ => rfl), by rw [g _ (by omega)]; exact p1, h.lt⟩
theorem W28.push (h : W28 o V s n F cs L qs ps) (q : Kt) : W28 o V (s.set (F + 11) (.lst ((qs ++ [q]).map kdE))) n F cs L (qs ++ [q]) ps := by
  have hl := lt_old h.sp
  have hlt := h.lt
  have g : ∀ p, p ≠ F + 11 → (s.set (F + 11) (.lst ((qs ++ [q]).map kdE)))[p]? = s[p]? := fun p a => List.getElem?_set_ne (Ne.symm a)
  refine ⟨h.A.same (g _ (by omega)) (g _ (by omega)) (g _ (by omega)) (g _ (by omega)), h.B.same (g _ (by omega)) (g _ (by omega)) (g _ (by omega)) (g _ (by omega)), h.T.fmL (xs := [F + 11]) ⟨by simp, fun m _ hn => g m (by simpa using hn)⟩ (by simp; omega) (fun x hx => by simp [Ad.ls] at hx ⊢; omega) (fun _ _ => rfl), List.getElem?_set_self hl, h.lt⟩
theorem W28.row (h : W28 o V s n F cs L qs ps) (hl : ps.length ≤ 60) {i : Int} {vs : List D} (hi : 1 ≤ i ∧ i ≤ 9) (vl : vs.length = 2) (vv : ∀ v ∈ vs, valB v = true) :
    ∃ s' P', m_Table_put_row [.ref (F + 8), .int i, .tup vs] s = some (.int P', s') ∧ W28 o V s' n F cs L qs (edP ps (one (i, .tup vs))) := by
  obtain ⟨P, l, T, g, fu⟩ := h.T
  have hlen := g.len
  obtain ⟨s', P', l', T', g1, fm, g2, fu2⟩ := put_ok g (by omega) hi vl vv
  have hlt := h.lt
  have hs := lt_old h.sp
  have q : ∀ p, p < F + 8 ∨ F + 11 ≤ p → p ≤ F + 11 → s'[p]? = s[p]? := fun p a b => fm.at_ p (by omega) (by simp; omega)
  exact ⟨s', P', g1, h.A.same (q _ (by omega) (by omega)) (q _ (by omega) (by omega)) (q _ (by omega) (by omega)) (q _ (by omega) (by omega)), h.B.same (q _ (by omega) (by omega)) (q _ (by omega) (by omega)) (q _ (by omega) (by omega)) (q _ (by omega) (by omega)), ⟨P', l', T', g2, fu2 fu⟩, by rw [q _ (by omega) (by omega)]; exact h.sp, h.lt⟩
/-- after m rows -/
structure I28 (o : List (Nat × Bool)) (m : Nat) (L : LsL) (qs : List Kt) (ps : List (KL × KL)) : Prop where
  ql : qs.length = m
  qk : ∀ q ∈ qs, KOk o q.1 q.2
  ll : L.length = m
  id : ∀ e ∈ L, e.1.2 ≤ (m : Int)
  pl : ps.length = m + 1
  pg : GoodP ps
  pn : ∀ j : Int, (m : Int) < j → lastR ps j = none
  mem : ∀ q, qs[m - 1]? = some q → 0 < m → hasK o L q = true
abbrev fv (sc : D) (n F : Nat) (V : D) (x7 x8 x9 x10 x11 x12 x13 : Option D) : Lo := [some sc, some (.ref n), some V, some (.ref F), some (.ref (F + 4)), some (.ref (F + 8)), some (.ref (F + 11)), x7, x8, x9, x10, x11, x12, x13]
noncomputable abbrev wB : FS := sSeq q_law_5l_0 (sSeq q_law_5l_1 (sSeq q_law_5l_2 (sSeq q_law_5l_3 q_law_5l_4)))
theorem turn28 {m : Nat} {mi : Int} {sc : D} {x8 x9 x10 x11 x12 x13 : Option D} (h : W28 o V s n F cs L qs ps) (I : I28 o m L qs ps) (hV : V = vD c o sh) (vo : VOk 2 c o sh) (hmi : mi = (m : Int)) (hm : m < 8) :
    ∃ s' y8 L' qs' ps', wB (fv sc n F V (some (.int mi)) x8 x9 x10 x11 x12 x13) s = some (.nx, fv sc n F V (some (.int mi)) y8 x9 x10 x11 x12 x13, s') ∧ W28 o V s' n F cs L' qs' ps' ∧ I28 o (m + 1) L' qs' ps' := by
  have ol := vo.ol
  obtain ⟨us, s1, g1, vl, vv, t1, f1, _⟩ := values_okB h.T.tp (w := 2) (by decide) (by decide)
  have h1 := h.fr t1 f1
  have ul : us.length = 2 := by omega
  obtain ⟨ii, hii⟩ : ∃ ii : Int, ii = mi + 1 := ⟨_, rfl⟩
  obtain ⟨q, hq⟩ : ∃ q : Kt, q = (o.map fun p => atV us p.1, ii) := ⟨_, rfl⟩
  have pvu : ∀ v ∈ us, pvB v = true := fun v hv => valB_pv (vv v hv)
  have kq : KOk o q.1 q.2 := by rw [hq]; exact KOk_of (by rw [ul]; exact vo.oc) pvu (by omega)
  have q2 : q.2 = ii := by rw [hq]
  obtain ⟨KQ, hKQ⟩ : ∃ KQ, KQ = kdE q := ⟨_, rfl⟩
  have z1 : 1 ≤ sizeLine := by decide
  have e0 : q_law_5l_0 (fv sc n F V (some (.int mi)) x8 x9 x10 x11 x12 x13) s = some (.nx, fv sc n F V (some (.int mi)) (some (.tup us)) x9 x10 x11 x12 x13, s1) := by
    have f : fCall m__law_values (aCons (fVar 1) (aCons (fC (.int 2)) aNil)) (fv sc n F V (some (.int mi)) x8 x9 x10 x11 x12 x13) s = some (.tup us, s1) := g1
    rw [q_law_5l_0, u_sAsg, f]
    rfl
  have ev : fOp opAdd (fMk bTuple (aCons (fComp (iOf asT (fSub (fVar 2) (fC (.int 1)))) [13] b1 tTrue (fSub (fVar 8) (fSub (fVar 13) (fC (.int 0))))) aNil)) (fMk mkTup (aCons (fOp opAdd (fVar 7) (fC (.int 1))) aNil)) (fv sc n F V (some (.int mi)) (some (.tup us)) x9 x10 x11 x12 x13) s1 = some (KQ, s1) := by
    have it : iOf asT (fSub (fVar 2) (fC (.int 1))) (fv sc n F V (some (.int mi)) (some (.tup us)) x9 x10 x11 x12 x13) s1 = some (vOrd o, s1) := by
      have i1 : L2.atI [c.d, .tup (vOrd o), .tup (sh.map fun n : Nat => .int n)] 1 = some (.tup (vOrd o)) := ix1
      have f : fSub (fVar 2) (fC (.int 1)) (fv sc n F V (some (.int mi)) (some (.tup us)) x9 x10 x11 x12 x13) s1 = some (.tup (vOrd o), s1) := by
        rw [fSub, show fVar 2 (fv sc n F V (some (.int mi)) (some (.tup us)) x9 x10 x11 x12 x13) s1 = some (V, s1) from rfl]
        simp only [Option.bind_some, u_fC, hV, vD, ixD, i1, Option.map_some]
      rw [u_iOf, f]
      rfl
    have lc := loopC_over (is := [13]) (bd := b1) (f := fSub (fVar 8) (fSub (fVar 13) (fC (.int 0)))) (φ := fun p : Nat × Bool => D.tup [.int p.1, .bl p.2]) (ψ := fun p : Nat × Bool => atV us p.1) (env := wipeL (fv sc n F V (some (.int mi)) (some (.tup us)) x9 x10 x11 x12 x13) [13]) (st := s1) (l := o) fun p hp => ⟨[.tup [.int p.1, .bl p.2]], rfl, by
      have e : setL [13] [D.tup [.int p.1, .bl p.2]] (wipeL (fv sc n F V (some (.int mi)) (some (.tup us)) x9 x10 x11 x12 x13) [13]) = fv sc n F V (some (.int mi)) (some (.tup us)) x9 x10 x11 x12 (some (.tup [.int p.1, .bl p.2])) := rfl
      have i0 : L2.atI [D.int p.1, .bl p.2] 0 = some (.int p.1) := ix0
      have av : L2.atI us (p.1 : Int) = some (atV us p.1) := at_val (by rw [ul]; exact vo.oc p hp)
      rw [e]
      simp [fSub, fVar, fC, ixD, i0, av]⟩
    have eo : vOrd o = o.map fun p : Nat × Bool => D.tup [.int p.1, .bl p.2] := rfl
    rw [eo] at it
    have zl : (o.map fun p : Nat × Bool => atV us p.1).length ≤ sizeLine := by rw [List.length_map]; exact sl_of (by omega)
    have fa : fMk bTuple (aCons (fComp (iOf asT (fSub (fVar 2) (fC (.int 1)))) [13] b1 tTrue (fSub (fVar 8) (fSub (fVar 13) (fC (.int 0))))) aNil) (fv sc n F V (some (.int mi)) (some (.tup us)) x9 x10 x11 x12 x13) s1 = some (.tup (o.map fun p => atV us p.1), s1) := by
      have f : fComp (iOf asT (fSub (fVar 2) (fC (.int 1)))) [13] b1 tTrue (fSub (fVar 8) (fSub (fVar 13) (fC (.int 0)))) (fv sc n F V (some (.int mi)) (some (.tup us)) x9 x10 x11 x12 x13) s1 = some (.lst (o.map fun p => atV us p.1), s1) := by
        rw [u_fComp, it]
        simp only [Option.bind_some]
        rw [lc]
        simp only [Option.bind_some]
        rw [if_pos zl]
      rw [u_fMk, aCons, f]
      rfl
    have fb : fMk mkTup (aCons (fOp opAdd (fVar 7) (fC (.int 1))) aNil) (fv sc n F V (some (.int mi)) (some (.tup us)) x9 x10 x11 x12 x13) s1 = some (.tup [.int ii], s1) := by
      rw [hii]
      simp [fMk, aCons, aNil, fOp, fVar, fC, opAdd_int, mkTup, z1]
    have ad : opAdd (.tup (o.map fun p => atV us p.1)) (.tup [.int ii]) = some (.tup ((o.map fun p => atV us p.1) ++ [.int ii])) := by
      have z : o.length + 1 ≤ sizeLine := sl_of (by omega)
      simp [opAdd, orD, addI, addS, addL, addT, onI, onS, z]
    rw [fOp, fa]
    simp only [Option.bind_some]
    rw [fb]
    simp only [Option.bind_some, ad, Option.map_some]
    rw [hKQ, hq]
    rfl
  have sp1 := h1.sp
  have lS : (qs.map kdE).length < sizeLine := by rw [List.length_map, I.ql]; exact Nat.lt_of_le_of_lt (show m ≤ 8 by omega) (by decide)
  have h2 := h1.push q
  obtain ⟨s2, hs2⟩ : ∃ s2, s2 = s1.set (F + 11) (.lst ((qs ++ [q]).map kdE)) := ⟨_, rfl⟩
  rw [← hs2] at h2
  have e1 : q_law_5l_1 (fv sc n F V (some (.int mi)) (some (.tup us)) x9 x10 x11 x12 x13) s1 = some (.nx, fv sc n F V (some (.int mi)) (some (.tup us)) x9 x10 x11 x12 x13, s2) := by
    have em : (qs ++ [q]).map kdE = qs.map kdE ++ [KQ] := by rw [List.map_append, hKQ]; rfl
    rw [em] at hs2
    generalize qs.map kdE = QQ at *
    rw [q_law_5l_1, u_sDrop, fApp, show fVar 6 (fv sc n F V (some (.int mi)) (some (.tup us)) x9 x10 x11 x12 x13) s1 = some (.ref (F + 11), s1) from rfl]
    simp only [Option.bind_some, sp1, isLs, if_true, ev]
    rw [appAt, sp1]
    simp only [lS, if_true, ← hs2]
    rfl
  -- the key again
  have ixS : ∀ {u : Store}, u[F + 11]? = some (.lst ((qs ++ [q]).map kdE)) → fSub (fVar 6) (fVar 7) (fv sc n F V (some (.int mi)) (some (.tup us)) x9 x10 x11 x12 x13) u = some (KQ, u) := fun {u} hu => by
    have : L2.atI ((qs ++ [q]).map kdE) mi = some KQ := by
      rw [hmi, hKQ]
      refine atI_nat ?_
      rw [List.getElem?_map, List.getElem?_append_right (by rw [I.ql]; exact Nat.le_refl _), I.ql]
      simp
    generalize (qs ++ [q]).map kdE = QQ at *
    rw [fSub, show fVar 6 (fv sc n F V (some (.int mi)) (some (.tup us)) x9 x10 x11 x12 x13) u = some (.ref (F + 11), u) from rfl]
    simp [fVar, ixD, hu, this]
  have no : hasK o L q = false := List.any_eq_false.mpr fun e he w => by
    have w' : S o e.1 q = 0 := by simpa using w
    have a := S_zero w'
    have b := I.id e he
    rw [q2] at a
    omega
  have LL : L.length ≤ 1000 := by rw [I.ll]; omega
  have A2 := h2.A
  have B2 := h2.B
  rw [hV] at A2
  obtain ⟨s3, ga, gl, gc⟩ := add_ok A2 (q := q) kq ol LL mi
  rw [← hV] at gl
  obtain ⟨B3, _, sp3⟩ := h2.chA gl gc
  rw [hV] at B3
  obtain ⟨s4, gb, gm, gd⟩ := add_ok B3 (q := q) kq ol LL mi
  rw [← hV] at gm
  have h4 := h2.both gl gc gm gd
  have ga' : m_Listing_add_key [.ref F, KQ, .int mi] s2 = some (.non, s3) := by rw [hKQ]; exact ga
  have gb' : m_Listing_add_key [.ref (F + 4), KQ, .int mi] s3 = some (.non, s4) := by rw [hKQ]; exact gb
  have nfA := h2.A.noF (m := "add_key") rfl
  have nfB : DL.noF "add_key" (insAt "Listing" (F + 4) s3) = true := B3.noF rfl
  have e2 : q_law_5l_2 (fv sc n F V (some (.int mi)) (some (.tup us)) x9 x10 x11 x12 x13) s2 = some (.nx, fv sc n F V (some (.int mi)) (some (.tup us)) x9 x10 x11 x12 x13, s3) := by
    rw [q_law_5l_2, u_sDrop, fMeth, show fVar 3 (fv sc n F V (some (.int mi)) (some (.tup us)) x9 x10 x11 x12 x13) s2 = some (.ref F, s2) from rfl]
    simp only [Option.bind_some]
    rw [nfA]
    simp only [if_true]
    rw [aCons, ixS h2.sp]
    simp only [Option.bind_some]
    rw [show aCons (fVar 7) aNil (fv sc n F V (some (.int mi)) (some (.tup us)) x9 x10 x11 x12 x13) s2 = some ([.int mi], s2) from rfl]
    simp only [Option.map_some, Option.bind_some]
    rw [ga']
    rfl
  have e3 : q_law_5l_3 (fv sc n F V (some (.int mi)) (some (.tup us)) x9 x10 x11 x12 x13) s3 = some (.nx, fv sc n F V (some (.int mi)) (some (.tup us)) x9 x10 x11 x12 x13, s4) := by
    rw [q_law_5l_3, u_sDrop, fMethK, show fVar 4 (fv sc n F V (some (.int mi)) (some (.tup us)) x9 x10 x11 x12 x13) s3 = some (.ref (F + 4), s3) from rfl]
    simp only [Option.bind_some]
    rw [nfB]
    simp only [if_true]
    rw [show aNil (fv sc n F V (some (.int mi)) (some (.tup us)) x9 x10 x11 x12 x13) s3 = some ([], s3) from rfl]
    simp only [Option.bind_some]
    rw [aCons, show fVar 7 (fv sc n F V (some (.int mi)) (some (.tup us)) x9 x10 x11 x12 x13) s3 = some (.int mi, s3) from rfl]
    simp only [Option.bind_some]
    rw [aCons, ixS sp3]
    simp only [Option.bind_some, aNil, Option.map_some]
    rw [show pickL [0, 2, 1] (D.ref (F + 4) :: [] ++ [.int mi, KQ]) = [.ref (F + 4), KQ, .int mi] from rfl, gb']
    rfl
  obtain ⟨s5, P', gp, h5⟩ := h4.row (by rw [I.pl]; omega) (i := ii) (vs := us) (by omega) ul vv
  have nfT : DL.noF "put_row" (insAt "Table" (F + 8) s4) = true := by
    obtain ⟨P, l, T, g, _⟩ := h4.T
    exact g.noF (m := "put_row") fun _ => rfl
  have e4 : q_law_5l_4 (fv sc n F V (some (.int mi)) (some (.tup us)) x9 x10 x11 x12 x13) s4 = some (.nx, fv sc n F V (some (.int mi)) (some (.tup us)) x9 x10 x11 x12 x13, s5) := by
    rw [q_law_5l_4, u_sDrop, fMeth, show fVar 5 (fv sc n F V (some (.int mi)) (some (.tup us)) x9 x10 x11 x12 x13) s4 = some (.ref (F + 8), s4) from rfl]
    simp only [Option.bind_some]
    rw [nfT]
    simp only [if_true]
    rw [aCons, show fOp opAdd (fVar 7) (fC (.int 1)) (fv sc n F V (some (.int mi)) (some (.tup us)) x9 x10 x11 x12 x13) s4 = some (.int ii, s4) from by rw [hii]; simp [fOp, fVar, fC, opAdd_int]]
    simp only [Option.bind_some]
    rw [show aCons (fVar 8) aNil (fv sc n F V (some (.int mi)) (some (.tup us)) x9 x10 x11 x12 x13) s4 = some ([.tup us], s4) from rfl]
    simp only [Option.map_some, Option.bind_some]
    rw [gp]
    rfl
  have iU : ii ∈ U7 := U7_mem (by omega)
  obtain ⟨p1, p2, p3⟩ := edP_ok I.pg (e := (ii, .tup us)) iU
  refine ⟨s5, some (.tup us), _, _, _, ?_, h5, ⟨by rw [List.length_append, I.ql]; rfl, fun x hx => ?_, ?_, fun e he => ?_, ?_, p1, fun j hj => ?_, fun x hx _ => ?_⟩⟩
  · rw [wB, seq_nx e0, seq_nx e1, seq_nx e2, seq_nx e3, e4]
  · rcases List.mem_append.mp hx with y | y
    · exact I.qk x y
    · rw [List.mem_singleton.mp y]; exact kq
  · have sp := congrArg List.length (no_split h2.A.ok kq no)
    rw [List.length_append] at sp
    rw [putL, List.length_append, List.length_cons]
    have := I.ll
    omega
  · rcases (putL_mem h2.A.ok kq).mp he with rfl | ⟨y, _⟩
    · show q.2 ≤ _
      rw [q2]; omega
    · have := I.id e y; omega
  · rw [p3, I.pl]
    have : ¬ opD (.tup us) = lastR ps ii := by
      rw [I.pn ii (by omega)]
      show ¬ (some (D.tup us) = none)
      simp
    rw [if_neg this]; omega
  · rw [p2, if_neg (by show ¬ ii = j; omega)]
    exact I.pn j (by omega)
  · have e : (qs ++ [q])[m + 1 - 1]? = some q := by
      rw [Nat.add_sub_cancel, List.getElem?_append_right (by rw [I.ql]; exact Nat.le_refl _), I.ql]
      simp
    rw [e] at hx
    cases hx
    exact List.any_eq_true.mpr ⟨(q, mi), List.mem_append_right _ List.mem_cons_self, by simpa using S_self kq⟩
end LW
namespace LW
open PySem PySem.Spec PyProof.Rows L2 DL TL
variable {c : C} {o : List (Nat × Bool)} {sh : List Nat} {s s' st : Store} {n F G : Nat} {cs : List D} {L : LsL} {V : D} {qs : List Kt} {ps : List (KL × KL)} {e : Lo}
theorem loopS_at {tg : FG} {body : FS} {I : Nat → Lo → Store → Prop} : ∀ {ds : List D} {k : Nat}, (∀ m d, ds[m]? = some d → ∀ env st, I (k + m) env st → ∃ e1, tg d env = some e1 ∧ ∃ e2 s2, body e1 st = some (.nx, e2, s2) ∧ I (k + m + 1) e2 s2) →
    ∀ {env : Lo} {st : Store}, I k env st → ∃ e2 s2, loopS tg body ds env st = some (.nx, e2, s2) ∧ I (k + ds.length) e2 s2
  | [], k, _, env, st, i => ⟨env, st, rfl, i⟩
  | d :: ds, k, h, env, st, i => by
    obtain ⟨e1, h1, e2, s2, h2, i2⟩ := h 0 d rfl env st i
    obtain ⟨e3, s3, h3, i3⟩ := loopS_at (ds := ds) (k := k + 1) (fun m d hd env st j => by
      have := h (m + 1) d (by simpa using hd) env st (by rw [show k + (m + 1) = k + 1 + m by omega]; exact j)
      rwa [show k + (m + 1) + 1 = k + 1 + m + 1 by omega] at this) i2
    refine ⟨e3, s3, by simp [loopS, h1, h2, h3], ?_⟩
    rw [List.length_cons, show k + (ds.length + 1) = k + 1 + ds.length by omega]
    exact i3
theorem rgA {hi : Int} {m : Nat} {d : D} (h : (rg 0 hi)[m]? = some d) : d = .int m ∧ (m : Int) < hi := by
  unfold rg at h
  rw [List.getElem?_map] at h
  obtain ⟨j, hj, rfl⟩ := Option.map_eq_some_iff.mp h
  obtain ⟨hl, e⟩ := List.getElem?_eq_some_iff.mp hj
  rw [List.length_range] at hl
  rw [List.getElem_range] at e
  subst e
  refine ⟨by simp, by omega⟩
theorem W28.setG (h : W28 o V s n F cs L qs ps) (hG : F + 11 < G) (ob : Ob) : W28 o V (s.set G ob) n F cs L qs ps := by
  have hlt := h.lt
  have g : ∀ p, p < G → (s.set G ob)[p]? = s[p]? := fun p a => List.getElem?_set_ne (by omega)
  exact ⟨h.A.same (g _ (by omega)) (g _ (by omega)) (g _ (by omega)) (g _ (by omega)), h.B.same (g _ (by omega)) (g _ (by omega)) (g _ (by omega)) (g _ (by omega)), h.T.fmL (xs := [G]) ⟨by simp, fun m _ hn => List.getElem?_set_ne (by simp at hn; omega)⟩ (by simp; omega) (fun x hx => by simp [Ad.ls] at hx ⊢; omega) (fun _ _ => rfl), by rw [g _ (by omega)]; exact h.sp, h.lt⟩
/-- a pair of the same -/
def PD (d : D) : Prop := ∃ v x, d = .tup [v, v] ∧ ∀ st, bReprA [v] st = some (.str x)
structure Bg (G : Nat) (s : Store) (k : Nat) : Prop where
  ex : ∃ ds, s[G]? = some (.lst ds) ∧ ds.length ≤ k ∧ ∀ d ∈ ds, PD d
theorem app_get {x : Store} {q : Nat} {ob : Ob} (h : s[q]? = some ob) : (s ++ x)[q]? = some ob := by rw [List.getElem?_append_left (lt_old h)]; exact h
theorem mkP {fa fb : DL.F} {s1 s2 : Store} {x y : D} (h1 : fa e s = some (x, s1)) (h2 : fb e s1 = some (y, s2)) : fMk mkTup (aCons fa (aCons fb aNil)) e s = some (.tup [x, y], s2) := by
  have z2 : 2 ≤ sizeLine := by decide
  rw [u_fMk, aCons, h1]
  simp only [Option.bind_some]
  rw [aCons, h2]
  simp [aNil, mkTup, z2]
theorem Bg.step {k : Nat} {f : DL.F} {v : D} {x : Store} {y : Str} (b : Bg G s k) (w : W28 o V s n F cs L qs ps) (hG : F + 11 < G) (hk : k < 100) (hL : e[11]? = some (some (.ref G))) (hf : f e s = some (.tup [v, v], s ++ x)) (hr : ∀ st, bReprA [v] st = some (.str y)) :
    ∃ s', sDrop (fApp (fVar 11) f) e s = some (.nx, e, s') ∧ Bg G s' (k + 1) ∧ W28 o V s' n F cs L qs ps ∧ ∀ p, p ≠ G → (s ++ x)[p]? = s'[p]? := by
  obtain ⟨ds, h1, h2, h3⟩ := b.ex
  have h1' : (s ++ x)[G]? = some (.lst ds) := app_get h1
  have zl : ds.length < sizeLine := Nat.lt_of_le_of_lt (show _ ≤ 100 by omega) (by decide)
  refine ⟨(s ++ x).set G (.lst (ds ++ [.tup [v, v]])), ?_, ⟨ds ++ [.tup [v, v]], List.getElem?_set_self (lt_old h1'), by rw [List.length_append, List.length_singleton]; omega, fun d hd => ?_⟩, (w.app x).setG hG _, fun p hp => (List.getElem?_set_ne (Ne.symm hp)).symm⟩
  · rw [u_sDrop, fApp, u_fVar, hL]
    simp only [Option.map_some, Option.bind_some, h1, isLs, if_true, hf]
    rw [appAt, h1']
    simp only [zl, if_true]
    rfl
  · rcases List.mem_append.mp hd with z | z
    · exact h3 d z
    · rw [List.mem_singleton.mp z]; exact ⟨v, y, rfl, hr⟩
theorem ks_fitM {M : LsL} (hM : ∀ e ∈ M, KOk o e.1.1 e.1.2) (ol : o.length ≤ 4) (hl : M.length ≤ 60) : ∃ x : Str, ∀ st, bReprA [.lst (M.map ksE)] st = some (.str x) := by
  have f := FitL.all (ds := M.map ksE) (h := 1) (w := 1099) fun x hx => by
    obtain ⟨e, he, rfl⟩ := List.mem_map.mp hx
    have k := hM e he
    have f1 : FitL e.1.1 0 (e.1.1.length * 211) := FitL.all fun v hv => fit_pv (k.v v hv)
    have i0 := k.i0
    have i1 := k.i1
    have f2 : Fit (D.int e.1.2) 0 210 := Fit.int (by omega)
    have f3 := f1.append (FitL.cons f2 FitL.nil)
    have kl := k.l
    exact (Fit.tup f3).mono (by simp) (by
      have : e.1.1.length * 211 ≤ 4 * 211 := Nat.mul_le_mul_right _ (by omega)
      omega)
  rw [List.length_map] at f
  have w1 : M.length * (1099 + 1) ≤ 60 * 1100 := Nat.mul_le_mul_right _ hl
  exact (Fit.lst f).repr (by decide) (by omega)
theorem key_fit {q : Kt} (k : KOk o q.1 q.2) (ol : o.length ≤ 4) : ∃ x : Str, ∀ st, bReprA [kdE q] st = some (.str x) := by
  have f1 : FitL q.1 0 (q.1.length * 211) := FitL.all fun v hv => fit_pv (k.v v hv)
  have i0 := k.i0
  have i1 := k.i1
  have f2 : Fit (D.int q.2) 0 210 := Fit.int (by omega)
  have f3 := f1.append (FitL.cons f2 FitL.nil)
  have kl := k.l
  have : q.1.length * 211 ≤ 4 * 211 := Nat.mul_le_mul_right _ (by omega)
  exact (Fit.tup f3).repr (by decide) (by omega)
theorem int_fit {i : Int} (h : 0 ≤ i ∧ i ≤ 1000000) : ∃ x : Str, ∀ st, bReprA [.int i] st = some (.str x) := (Fit.int (by omega)).repr (by decide) (by decide)
/-- two sorted lists of the same keys -/
theorem LOk.uniq {L1 L2 : LsL} (h1 : LOk o L1) (h2 : LOk o L2) (hm : ∀ x, x ∈ L1 ↔ x ∈ L2) : L1 = L2 := by
  have nd : ∀ {M : LsL}, LOk o M → M.Nodup := fun {M} hM => hM.pw.imp_of_mem fun {x y} hx hy r z => by
    rw [z, S_self (hM.ok y hy)] at r; omega
  exact one_order (fun e : Kt × Int => e.1) (fun q mq => by
    obtain ⟨e, he, rfl⟩ := List.mem_map.mp mq
    exact h1.ok e he) ((List.perm_ext_iff_of_nodup (nd h1) (nd h2)).mpr hm) h1.pw h2.pw
theorem mk1 {u : String} : fMk mkTup (aCons (fC (.str (Str.ofString u))) aNil) e s = some (.tup [nm u], s) := by
  have z1 : 1 ≤ sizeLine := by decide
  simp [fMk, aCons, aNil, fC, mkTup, z1, nm]
/-- methods, by place and by name -/
theorem callM {m : Str} {mm : FM} {j t : Nat} {fa : FA} {as : List D} {v : D} {s1 : Store} (he : e[j]? = some (some (.ref t))) (nf : DL.noF m (insAt "Listing" t s) = true) (ha : fa e s = some (as, s)) (hm : mm (.ref t :: as) s = some (v, s1)) : fMeth "Listing" m mm (fVar j) fa e s = some (v, s1) := by
  rw [fMeth, u_fVar, he]
  simp only [Option.map_some, Option.bind_some]
  rw [nf]
  simp only [if_true, ha, Option.bind_some]
  exact hm
theorem callMK {m : Str} {mm : FM} {j t : Nat} {is : List Nat} {fk : FA} {bs as : List D} {v : D} {s1 : Store} (he : e[j]? = some (some (.ref t))) (nf : DL.noF m (insAt "Listing" t s) = true) (hb : fk e s = some (bs, s)) (hp : pickL is (D.ref t :: [] ++ bs) = .ref t :: as) (hm : mm (.ref t :: as) s = some (v, s1)) : fMethK "Listing" m mm is (fVar j) aNil fk e s = some (v, s1) := by
  rw [fMethK, u_fVar, he]
  simp only [Option.map_some, Option.bind_some]
  rw [nf]
  simp only [if_true]
  rw [show aNil e s = some ([], s) from rfl]
  simp only [Option.bind_some, hb]
  rw [hp, hm]
theorem law_true (ns : List Int) (h : ns.length ≤ 63) (hb : ∀ z ∈ ns, Builtin.Int.intBits z ≤ 1048576) : ∃ st', m_law [.scr ns] [] = some (.bl true, st') := by
  obtain ⟨S0, hS⟩ : ∃ S0 : Store, S0 = [] := ⟨_, rfl⟩
  obtain ⟨s0, g0, l0, t0, f0⟩ := tape_ok (st := S0) hb (s := 0) (by decide) (by decide)
  obtain ⟨n, hn⟩ : ∃ n, n = S0.length := ⟨_, rfl⟩
  rw [← hn] at g0 t0
  obtain ⟨c, o, sh, s1, g1, vo, t1, f1⟩ := view_ok t0 (w := 2) (by decide) (by decide)
  have vo : VOk 2 c o sh := vo
  have ol := vo.ol
  obtain ⟨V, hV⟩ : ∃ V, V = vD c o sh := ⟨_, rfl⟩
  rw [← hV] at g1
  obtain ⟨sc, hsc⟩ : ∃ sc : D, sc = .scr ns := ⟨_, rfl⟩
  rw [← hsc] at g0
  have c0 : q_law_0 [some sc, none, none, none, none, none, none, none, none, none, none, none, none, none] S0 = some (.nx, [some sc, some (.ref n), none, none, none, none, none, none, none, none, none, none, none, none], s0) := by
    have f : fCall m__law_tape (aCons (fVar 0) (aCons (fC (.int 0)) aNil)) [some sc, none, none, none, none, none, none, none, none, none, none, none, none, none] S0 = some (.ref n, s0) := g0
    rw [q_law_0, u_sAsg, f]
    rfl
  have c1 : q_law_1 [some sc, some (.ref n), none, none, none, none, none, none, none, none, none, none, none, none] s0 = some (.nx, [some sc, some (.ref n), some V, none, none, none, none, none, none, none, none, none, none, none], s1) := by
    have f : fCall m__law_view (aCons (fVar 1) (aCons (fC (.int 2)) aNil)) [some sc, some (.ref n), none, none, none, none, none, none, none, none, none, none, none, none] s0 = some (V, s1) := g1
    rw [q_law_1, u_sAsg, f]
    rfl
  -- what is made
  obtain ⟨F, hF⟩ : ∃ F, F = s1.length := ⟨_, rfl⟩
  have nlt := t1.lt
  have nw1 := ls_new s1 V
  obtain ⟨E1, hE1⟩ : ∃ E1 : Store, E1 = [.ins "Listing" (lsF V (F + 1) (F + 2) (F + 3)), .lst [], .lst [], .lst []] := ⟨_, rfl⟩
  rw [← hF, ← hE1] at nw1
  obtain ⟨s2, hs2⟩ : ∃ s2, s2 = s1 ++ E1 := ⟨_, rfl⟩
  have l2 : s2.length = F + 4 := by rw [hs2, hE1, List.length_append, hF]; rfl
  have nw2 := ls_new s2 V
  obtain ⟨E2, hE2⟩ : ∃ E2 : Store, E2 = [.ins "Listing" (lsF V (F + 5) (F + 6) (F + 7)), .lst [], .lst [], .lst []] := ⟨_, rfl⟩
  rw [l2] at nw2
  have nw2' : m_Listing___init__ [.ref (F + 4), V] (s2 ++ [.ins "Listing" []]) = some (.non, s2 ++ E2) := by rw [hE2]; exact nw2
  obtain ⟨s3, hs3⟩ : ∃ s3, s3 = s2 ++ E2 := ⟨_, rfl⟩
  have l3 : s3.length = F + 8 := by rw [hs3, hE2, List.length_append, l2]; rfl
  obtain ⟨cs, hcs⟩ : ∃ cs, cs = ([.str (Str.ofString "a"), .str (Str.ofString "b")] : List D) := ⟨_, rfl⟩
  have nb : nmB cs = true := by rw [hcs]; decide +kernel
  have t3 : Tp s3 n := Tp.of t1 (by rw [hs3, hs2, List.append_assoc, List.getElem?_append_left nlt])
  obtain ⟨ia, ta⟩ := tb_new (Φ := K0) (w := 2) t3 (K0_at _) rfl nb (by rw [hcs]; rfl) (by decide) (by decide)
  obtain ⟨E3, hE3⟩ : ∃ E3 : Store, E3 = [.ins "Table" (tabF cs 0 (s3.length + 1) (s3.length + 2)), .dct (mkV [(0, [])]), .dct []] := ⟨_, rfl⟩
  rw [← hE3] at ia ta
  obtain ⟨s4, hs4⟩ : ∃ s4, s4 = s3 ++ E3 := ⟨_, rfl⟩
  rw [← hs4] at ia ta
  rw [l3] at ta
  have l4 : s4.length = F + 11 := by rw [hs4, hE3, List.length_append, l3]; rfl
  obtain ⟨s5, hs5⟩ : ∃ s5, s5 = s4 ++ [.lst []] := ⟨_, rfl⟩
  have z0 : 0 ≤ sizeLine := Nat.zero_le _
  have z1 : 1 ≤ sizeLine := by decide
  have z2 : 2 ≤ sizeLine := by decide
  have at5 : ∀ {q : Nat} {ob : Ob} {a b : Store}, s5 = a ++ ob :: b → q = a.length → s5[q]? = some ob := fun {q ob a b} e1 e2 => by rw [e1, e2]; simp
  have W5 : W28 o V s5 n F cs [] [] [([], [])] := by
    have ins1 : s5 = s1 ++ .ins "Listing" (lsF V (F + 1) (F + 2) (F + 3)) :: ([.lst [], .lst [], .lst []] ++ E2 ++ E3 ++ [.lst []]) := by rw [hs5, hs4, hs3, hs2, hE1]; simp
    have i2 : s5 = (s1 ++ [.ins "Listing" (lsF V (F + 1) (F + 2) (F + 3))]) ++ .lst [] :: ([.lst [], .lst []] ++ E2 ++ E3 ++ [.lst []]) := by rw [ins1]; simp
    have i3 : s5 = (s1 ++ [.ins "Listing" (lsF V (F + 1) (F + 2) (F + 3)), .lst []]) ++ .lst [] :: ([.lst []] ++ E2 ++ E3 ++ [.lst []]) := by rw [ins1]; simp
    have i4 : s5 = (s1 ++ [.ins "Listing" (lsF V (F + 1) (F + 2) (F + 3)), .lst [], .lst []]) ++ .lst [] :: (E2 ++ E3 ++ [.lst []]) := by rw [ins1]; simp
    have j1 : s5 = s2 ++ .ins "Listing" (lsF V (F + 5) (F + 6) (F + 7)) :: ([.lst [], .lst [], .lst []] ++ E3 ++ [.lst []]) := by rw [hs5, hs4, hs3, hE2]; simp
    have j2 : s5 = (s2 ++ [.ins "Listing" (lsF V (F + 5) (F + 6) (F + 7))]) ++ .lst [] :: ([.lst [], .lst []] ++ E3 ++ [.lst []]) := by rw [j1]; simp
    have j3 : s5 = (s2 ++ [.ins "Listing" (lsF V (F + 5) (F + 6) (F + 7)), .lst []]) ++ .lst [] :: ([.lst []] ++ E3 ++ [.lst []]) := by rw [j1]; simp
    have j4 : s5 = (s2 ++ [.ins "Listing" (lsF V (F + 5) (F + 6) (F + 7)), .lst [], .lst []]) ++ .lst [] :: (E3 ++ [.lst []]) := by rw [j1]; simp
    refine ⟨⟨?_, at5 i2 (by simp [hF]), at5 i3 (by simp [hF]), at5 i4 (by simp [hF]), LOk.nil, by omega, by omega, by omega⟩, ⟨?_, at5 j2 (by simp [l2]), at5 j3 (by simp [l2]), at5 j4 (by simp [l2]), LOk.nil, by omega, by omega, by omega⟩, ?_, ?_, by omega⟩
    · have := at5 ins1 hF
      unfold insAt
      rw [this]; simp
    · have := at5 j1 l2.symm
      unfold insAt
      rw [this]; simp
    · rw [hs5]; exact ta.app _
    · rw [hs5, ← l4]; exact get_app
  have c2 : q_law_2 [some sc, some (.ref n), some V, none, none, none, none, none, none, none, none, none, none, none] s1 = some (.nx, [some sc, some (.ref n), some V, some (.ref F), some (.ref (F + 4)), none, none, none, none, none, none, none, none, none], s3) := by
    have fa : fMake "Listing" m_Listing___init__ (aCons (fVar 2) aNil) [some sc, some (.ref n), some V, none, none, none, none, none, none, none, none, none, none, none] s1 = some (.ref F, s2) := by
      rw [fMake, show aCons (fVar 2) aNil [some sc, some (.ref n), some V, none, none, none, none, none, none, none, none, none, none, none] s1 = some ([V], s1) from rfl]
      simp only [Option.bind_some]
      rw [← hF, nw1, hs2]
      rfl
    have fb : fMakeK "Listing" m_Listing___init__ [0, 1] aNil (aCons (fVar 2) aNil) [some sc, some (.ref n), some V, none, none, none, none, none, none, none, none, none, none, none] s2 = some (.ref (F + 4), s3) := by
      rw [fMakeK, show aNil [some sc, some (.ref n), some V, none, none, none, none, none, none, none, none, none, none, none] s2 = some ([], s2) from rfl]
      simp only [Option.bind_some]
      rw [show aCons (fVar 2) aNil [some sc, some (.ref n), some V, none, none, none, none, none, none, none, none, none, none, none] s2 = some ([V], s2) from rfl]
      simp only [Option.bind_some]
      rw [l2, show pickL [0, 1] (D.ref (F + 4) :: [] ++ [V]) = [.ref (F + 4), V] from rfl, nw2', hs3]
      rfl
    rw [q_law_2, sPar, aCons, fa]
    simp only [Option.bind_some]
    rw [aCons, fb]
    rfl
  have c3 : q_law_3 [some sc, some (.ref n), some V, some (.ref F), some (.ref (F + 4)), none, none, none, none, none, none, none, none, none] s3 = some (.nx, [some sc, some (.ref n), some V, some (.ref F), some (.ref (F + 4)), some (.ref (F + 8)), none, none, none, none, none, none, none, none], s4) := by
    have mm : fMk mkTup (aCons (fC (.str (Str.ofString "a"))) (aCons (fC (.str (Str.ofString "b"))) aNil)) [some sc, some (.ref n), some V, some (.ref F), some (.ref (F + 4)), none, none, none, none, none, none, none, none, none] s3 = some (.tup cs, s3) := by
      rw [hcs]
      simp [fMk, aCons, aNil, fC, mkTup, z2]
    have fa : fMake "Table" m_Table___init__ (aCons (fMk mkTup (aCons (fC (.str (Str.ofString "a"))) (aCons (fC (.str (Str.ofString "b"))) aNil))) aNil) [some sc, some (.ref n), some V, some (.ref F), some (.ref (F + 4)), none, none, none, none, none, none, none, none, none] s3 = some (.ref (F + 8), s4) := by
      rw [fMake, aCons, mm]
      simp only [Option.bind_some, aNil, Option.map_some]
      rw [ia, l3]
      rfl
    rw [q_law_3, u_sAsg, fa]
    rfl
  have c4 : q_law_4 [some sc, some (.ref n), some V, some (.ref F), some (.ref (F + 4)), some (.ref (F + 8)), none, none, none, none, none, none, none, none] s4 = some (.nx, fv sc n F V none none none none none none none, s5) := by
    have f : ∀ e : Lo, fNewL aNil e s4 = some (.ref (F + 11), s5) := fun e => by
      rw [u_fNewL, hs5, ← l4]
      simp [aNil, z0]
    rw [q_law_4, u_sAsg, f]
    rfl
  obtain ⟨e6, s6, h6, ⟨y7, y8, L, qs, ps, rfl, W6, I6⟩⟩ := loopS_at (tg := gN 7) (body := wB) (I := fun m env u => ∃ y7 y8 L qs ps, env = fv sc n F V y7 y8 none none none none none ∧ W28 o V u n F cs L qs ps ∧ I28 o m L qs ps) (ds := rg 0 8) (k := 0) (fun m x hx env u i => by
    obtain ⟨y7, y8, L, qs, ps, rfl, hu, hi⟩ := i
    obtain ⟨rfl, hm⟩ := rgA hx
    rw [Nat.zero_add] at hi ⊢
    obtain ⟨mi, hmi⟩ : ∃ mi : Int, mi = (m : Int) := ⟨_, rfl⟩
    obtain ⟨u', z8, L', qs', ps', g, h1, h2⟩ := turn28 (sc := sc) (mi := mi) (x8 := y8) (x9 := none) (x10 := none) (x11 := none) (x12 := none) (x13 := none) hu hi hV vo hmi (by omega)
    rw [← hmi]
    exact ⟨_, rfl, _, u', g, some (.int mi), z8, L', qs', ps', rfl, h1, h2⟩) (env := fv sc n F V none none none none none none none) (st := s5) ⟨none, none, [], [], _, rfl, W5, ⟨rfl, fun _ h => (by cases h), rfl, fun _ h => (by cases h), rfl, good_new, fun j _ => rfl, fun q hq h0 => by omega⟩⟩
  have e8 : 0 + (rg 0 8).length = 8 := by rw [rg_len]; rfl
  rw [e8] at I6
  have c5 : q_law_5 (fv sc n F V none none none none none none none) s5 = some (.nx, (fv sc n F V y7 y8 none none none none none), s6) := by
    have it : iOfA asR1 (aCons (fC (.int 8)) aNil) (fv sc n F V none none none none none none none) s5 = some (rg 0 8, s5) := by
      have a1 := asR1_ok (n := 8) (by decide) (by decide)
      simp [iOfA, aCons, aNil, fC, a1]
    exact for_nx it h6
  -- a key dropped
  obtain ⟨q, hq⟩ : ∃ q, qs[7]? = some q := ⟨qs[7]'(by rw [I6.ql]; decide), List.getElem?_eq_getElem _⟩
  have mq := List.mem_of_getElem? hq
  have kq := I6.qk q mq
  have has := I6.mem q hq (by decide)
  obtain ⟨KQ, hKQ⟩ : ∃ KQ, KQ = kdE q := ⟨_, rfl⟩
  have LL : L.length ≤ 1000 := by rw [I6.ll]; decide
  have A6 := W6.A
  rw [hV] at A6
  obtain ⟨s7, ga, gl, gc⟩ := drop_yes A6 (q := q) kq ol LL has
  rw [← hV] at gl
  obtain ⟨B7, _, sp7⟩ := W6.chA gl gc
  have B7' := B7
  rw [hV] at B7
  obtain ⟨s8, gb, gm, gd⟩ := drop_yes B7 (q := q) kq ol LL has
  rw [← hV] at gm
  have W8 := W6.both gl gc gm gd
  obtain ⟨w0, hsp, _⟩ := has_split W6.A.ok kq has
  have lD : (dropL o L q).length = 7 := by
    have := congrArg List.length hsp
    rw [List.length_append, List.length_cons, I6.ll] at this
    rw [dropL, List.length_append]; omega
  obtain ⟨D', hD'⟩ : ∃ D', D' = dropL o L q := ⟨_, rfl⟩
  rw [← hD'] at W8 lD
  have ga' : m_Listing_drop_key [.ref F, KQ] s6 = some (.bl true, s7) := by rw [hKQ]; exact ga
  have gb' : m_Listing_drop_key [.ref (F + 4), KQ] s7 = some (.bl true, s8) := by rw [hKQ]; exact gb
  have ix : ∀ {u : Store}, u[F + 11]? = some (.lst (qs.map kdE)) → aCons (fSub (fVar 6) (fC (.int 7))) aNil (fv sc n F V y7 y8 none none none none none) u = some ([KQ], u) := fun {u} hu => by
    have : L2.atI (qs.map kdE) 7 = some KQ := by
      have a := atI_nat (xs := qs.map kdE) (m := 7) (x := kdE q) (by rw [List.getElem?_map, hq]; rfl)
      rw [hKQ]; exact a
    generalize qs.map kdE = QQ at *
    rw [aCons, fSub, show fVar 6 (fv sc n F V y7 y8 none none none none none) u = some (.ref (F + 11), u) from rfl]
    simp [fC, ixD, hu, this, aNil]
  obtain ⟨TX, hTX⟩ := (Fit.bl true).repr (by decide) (by decide)
  have c6 : q_law_6 (fv sc n F V y7 y8 none none none none none) s6 = some (.nx, (fv sc n F V y7 y8 none none none none none), s8) := by
    have d1 := callM (e := (fv sc n F V y7 y8 none none none none none)) (j := 3) (m := "drop_key") (mm := m_Listing_drop_key) rfl (W6.A.noF rfl) (ix W6.sp) ga'
    have d2 : fMethK "Listing" "drop_key" m_Listing_drop_key [0, 1] (fVar 4) aNil (aCons (fSub (fVar 6) (fC (.int 7))) aNil) (fv sc n F V y7 y8 none none none none none) s7 = some (.bl true, s8) := callMK (as := [KQ]) rfl (B7'.noF rfl) (ix sp7) rfl gb'
    have r1 : fMk bReprA (aCons (fMeth "Listing" "drop_key" m_Listing_drop_key (fVar 3) (aCons (fSub (fVar 6) (fC (.int 7))) aNil)) aNil) (fv sc n F V y7 y8 none none none none none) s6 = some (.str TX, s7) := by
      rw [u_fMk, aCons, d1]
      simp only [Option.bind_some, aNil, Option.map_some, hTX]
    have r2 : fMk bReprA (aCons (fMethK "Listing" "drop_key" m_Listing_drop_key [0, 1] (fVar 4) aNil (aCons (fSub (fVar 6) (fC (.int 7))) aNil)) aNil) (fv sc n F V y7 y8 none none none none none) s7 = some (.str TX, s8) := by
      rw [u_fMk, aCons, d2]
      simp only [Option.bind_some, aNil, Option.map_some, hTX]
    rw [q_law_6, sIf, fTest, fOp, r1]
    simp only [Option.bind_some]
    rw [r2]
    simp only [Option.bind_some, opNeS_same, Option.map_some, asB]
    rfl
  -- the marks
  obtain ⟨d, s9, g9, md, t9, f9, _⟩ := one_okR W8.T.tp W8.sp (by have := W8.lt; omega) (by rw [List.length_map, I6.ql]; decide) (by rw [List.length_map, I6.ql]; decide)
  obtain ⟨p, mp, rfl⟩ := List.mem_map.mp md
  have kp := I6.qk p mp
  have W9 := W8.fr t9 f9
  obtain ⟨LO, hLO⟩ : ∃ LO, LO = Mk.st.d := ⟨_, rfl⟩
  obtain ⟨UP, hUP⟩ : ∃ UP, UP = (Mk.k p true).d := ⟨_, rfl⟩
  have c7 : q_law_7 (fv sc n F V y7 y8 none none none none none) s8 = some (.nx, (fv sc n F V y7 y8 (some LO) (some UP) none none none), s9) := by
    have f1 : fMk mkTup (aCons (fC (.str (Str.ofString "start"))) aNil) (fv sc n F V y7 y8 none none none none none) s8 = some (LO, s8) := by rw [mk1, hLO]; rfl
    have f2 : fMk mkTup (aCons (fC (.str (Str.ofString "after"))) (aCons (fCall m__law_one_of (aCons (fVar 1) (aCons (fVar 6) aNil))) aNil)) (fv sc n F V y7 y8 none none none none none) s8 = some (UP, s9) := by
      have f : fCall m__law_one_of (aCons (fVar 1) (aCons (fVar 6) aNil)) (fv sc n F V y7 y8 none none none none none) s8 = some (kdE p, s9) := g9
      rw [mkP (x := nm "after") (s1 := s8) rfl f, hUP]
      rfl
    rw [q_law_7, sPar, aCons, f1]
    simp only [Option.bind_some]
    rw [aCons, f2]
    rfl
  -- pairs
  have lsA : ∀ {u : Store}, W28 o V u n F cs D' qs ps → Lst o (vD c o sh) u F (F + 1) (F + 2) (F + 3) D' := fun {u} hu => by rw [← hV]; exact hu.A
  have lsB : ∀ {u : Store}, W28 o V u n F cs D' qs ps → Lst o (vD c o sh) u (F + 4) (F + 5) (F + 6) (F + 7) D' := fun {u} hu => by rw [← hV]; exact hu.B
  have DL1 : D'.length ≤ 1000 := by omega
  have kst : Mk.st.ok o := trivial
  have kup : (Mk.k p true).ok o := kp
  have okD : ∀ e ∈ D', KOk o e.1.1 e.1.2 := W9.A.ok.ok
  obtain ⟨R, hR⟩ : ∃ R : Int, R = (rankM o D' (.k p true) : Int) := ⟨_, rfl⟩
  have rk1 : ∀ {u : Store}, W28 o V u n F cs D' qs ps → m_Listing_rank_of [.ref F, UP] u = some (.int R, u) ∧ m_Listing_rank_of [.ref (F + 4), UP] u = some (.int R, u) := fun {u} hu => by rw [hUP, hR]; exact ⟨rankM_ok (lsA hu) kup ol DL1, rankM_ok (lsB hu) kup ol DL1⟩
  obtain ⟨k3, hk3⟩ : ∃ k3, D'[3]? = some k3 := ⟨D'[3]'(by omega), List.getElem?_eq_getElem _⟩
  have ka1 : ∀ {u : Store}, W28 o V u n F cs D' qs ps → m_Listing_key_at [.ref F, .int 3] u = some (ksE k3, u) ∧ m_Listing_key_at [.ref (F + 4), .int 3] u = some (ksE k3, u) := fun {u} hu => ⟨keyat_ok (lsA hu) ol hk3, keyat_ok (lsB hu) ol hk3⟩
  obtain ⟨xR, hxR⟩ := int_fit (i := R) (by have : rankM o D' (.k p true) ≤ D'.length := List.length_filter_le _ _; omega)
  obtain ⟨xK, hxK⟩ := key_fit (okD k3 (List.mem_of_getElem? hk3)) ol
  obtain ⟨K3, hK3⟩ : ∃ K3, K3 = ksE k3 := ⟨_, rfl⟩
  rw [← hK3] at ka1
  have hxK' : ∀ st, bReprA [K3] st = some (.str xK) := fun st => by rw [hK3]; exact hxK st
  obtain ⟨G, hG⟩ : ∃ G, G = s9.length := ⟨_, rfl⟩
  have FG : F + 11 < G := by rw [hG]; exact lt_old W9.sp
  obtain ⟨s10, hs10⟩ : ∃ s10, s10 = s9 ++ [.lst [.tup [.int R, .int R], .tup [K3, K3]]] := ⟨_, rfl⟩
  have c8 : q_law_8 (fv sc n F V y7 y8 (some LO) (some UP) none none none) s9 = some (.nx, (fv sc n F V y7 y8 (some LO) (some UP) (some (.ref G)) none none), s10) := by
    have m1 := mkP (e := (fv sc n F V y7 y8 (some LO) (some UP) none none none)) (callM (j := 3) (m := "rank_of") (mm := m_Listing_rank_of) (fa := aCons (fVar 10) aNil) (as := [UP]) rfl (W9.A.noF rfl) rfl (rk1 W9).1) (callMK (j := 4) (m := "rank_of") (mm := m_Listing_rank_of) (is := [0, 1]) (fk := aCons (fVar 10) aNil) (as := [UP]) rfl (W9.B.noF rfl) rfl rfl (rk1 W9).2)
    have m2 := mkP (e := (fv sc n F V y7 y8 (some LO) (some UP) none none none)) (callM (j := 3) (m := "key_at") (mm := m_Listing_key_at) (fa := aCons (fC (.int 3)) aNil) (as := [.int 3]) rfl (W9.A.noF rfl) rfl (ka1 W9).1) (callMK (j := 4) (m := "key_at") (mm := m_Listing_key_at) (is := [0, 1]) (fk := aCons (fC (.int 3)) aNil) (as := [.int 3]) rfl (W9.B.noF rfl) rfl rfl (ka1 W9).2)
    have fl : fNewL (aCons (fMk mkTup (aCons (fMeth "Listing" "rank_of" m_Listing_rank_of (fVar 3) (aCons (fVar 10) aNil)) (aCons (fMethK "Listing" "rank_of" m_Listing_rank_of [0, 1] (fVar 4) aNil (aCons (fVar 10) aNil)) aNil))) (aCons (fMk mkTup (aCons (fMeth "Listing" "key_at" m_Listing_key_at (fVar 3) (aCons (fC (.int 3)) aNil)) (aCons (fMethK "Listing" "key_at" m_Listing_key_at [0, 1] (fVar 4) aNil (aCons (fC (.int 3)) aNil)) aNil))) aNil)) (fv sc n F V y7 y8 (some LO) (some UP) none none none) s9 = some (.ref G, s10) := by
      rw [u_fNewL, aCons, m1]
      simp only [Option.bind_some]
      rw [aCons, m2, hs10, hG]
      simp [aNil, z2]
    rw [q_law_8, u_sAsg, fl]
    rfl
  have W10 : W28 o V s10 n F cs D' qs ps := by rw [hs10]; exact W9.app _
  have B10 : Bg G s10 2 := ⟨_, by rw [hs10, hG]; exact get_app, by simp, fun d hd => by
    simp only [List.mem_cons, List.not_mem_nil, or_false] at hd
    rcases hd with rfl | rfl
    · exact ⟨_, _, rfl, hxR⟩
    · exact ⟨_, _, rfl, hxK'⟩⟩
  -- counts
  obtain ⟨CB, hCB⟩ : ∃ CB : Int, CB = ((D'.filter fun e => btw o .st (.k p true) e.1).length : Int) := ⟨_, rfl⟩
  obtain ⟨UB, hUB⟩ : ∃ UB : Int, UB = (((D'.filter fun e => btw o .st (.k p true) e.1).filter fun e => decide (e.2 ≤ 4)).length : Int) := ⟨_, rfl⟩
  have cA : m_Listing_count_between [.ref F, LO, UP] s10 = some (.int CB, s10) := by rw [hLO, hUP, hCB]; exact cbtw_ok (lsA W10) kst kup ol DL1
  have cB : m_Listing_count_between [.ref (F + 4), LO, UP] s10 = some (.int CB, s10) := by rw [hLO, hUP, hCB]; exact cbtw_ok (lsB W10) kst kup ol DL1
  have bA : (D'.filter fun e => btw o .st (.k p true) e.1).length ≤ D'.length := List.length_filter_le _ _
  have bB : ((D'.filter fun e => btw o .st (.k p true) e.1).filter fun e => decide (e.2 ≤ 4)).length ≤ D'.length := Nat.le_trans (List.length_filter_le _ _) bA
  obtain ⟨xC, hxC⟩ := int_fit (i := CB) (by omega)
  obtain ⟨xU, hxU⟩ := int_fit (i := UB) (by omega)
  obtain ⟨s11, c9, B11, W11, _⟩ := B10.step (e := (fv sc n F V y7 y8 (some LO) (some UP) (some (.ref G)) none none)) (x := []) W10 FG (by decide) rfl (by rw [List.append_nil]; exact mkP (callM (j := 3) (m := "count_between") (mm := m_Listing_count_between) (fa := aCons (fVar 9) (aCons (fVar 10) aNil)) (as := [LO, UP]) rfl (W10.A.noF rfl) rfl cA) (callMK (j := 4) (m := "count_between") (mm := m_Listing_count_between) (is := [0, 2, 1]) (fk := aCons (fVar 10) (aCons (fVar 9) aNil)) (bs := [UP, LO]) (as := [LO, UP]) rfl (W10.B.noF rfl) rfl rfl cB)) hxC
  have uA : m_Listing_unchanged_between [.ref F, LO, UP, .int 4] s11 = some (.int UB, s11) := by rw [hLO, hUP, hUB]; exact unch_ok (lsA W11) kst kup ol DL1 4
  have uB : m_Listing_unchanged_between [.ref (F + 4), LO, UP, .int 4] s11 = some (.int UB, s11) := by rw [hLO, hUP, hUB]; exact unch_ok (lsB W11) kst kup ol DL1 4
  obtain ⟨s12, c10, B12, W12, _⟩ := B11.step (e := (fv sc n F V y7 y8 (some LO) (some UP) (some (.ref G)) none none)) (x := []) W11 FG (by decide) rfl (by rw [List.append_nil]; exact mkP (callM (j := 3) (m := "unchanged_between") (mm := m_Listing_unchanged_between) (fa := aCons (fVar 9) (aCons (fVar 10) (aCons (fC (.int 4)) aNil))) (as := [LO, UP, .int 4]) rfl (W11.A.noF rfl) rfl uA) (callMK (j := 4) (m := "unchanged_between") (mm := m_Listing_unchanged_between) (is := [0, 3, 2, 1]) (fk := aCons (fC (.int 4)) (aCons (fVar 10) (aCons (fVar 9) aNil))) (bs := [.int 4, UP, LO]) (as := [LO, UP, .int 4]) rfl (W11.B.noF rfl) rfl rfl uB)) hxU
  -- keys
  obtain ⟨M1, hM1⟩ : ∃ M1, M1 = (D'.drop (rankM o D' (.k p true))).take 3 := ⟨_, rfl⟩
  obtain ⟨M2, hM2⟩ : ∃ M2, M2 = ((D'.take (rankM o D' (.k p true))).drop (rankM o D' (.k p true) - 3)).reverse := ⟨_, rfl⟩
  have mM1 : ∀ e ∈ M1, e ∈ D' := fun e he => by rw [hM1] at he; exact List.mem_of_mem_drop (List.mem_of_mem_take he)
  have mM2 : ∀ e ∈ M2, e ∈ D' := fun e he => by rw [hM2] at he; exact List.mem_of_mem_take (List.mem_of_mem_drop (List.mem_reverse.mp he))
  obtain ⟨x1, hx1⟩ := ks_fitM (o := o) (M := M1) (fun e he => okD e (mM1 e he)) ol (by rw [hM1, List.length_take]; omega)
  obtain ⟨x2, hx2⟩ := ks_fitM (o := o) (M := M2) (fun e he => okD e (mM2 e he)) ol (by rw [hM2, List.length_reverse, List.length_drop, List.length_take]; omega)
  have aA : m_Listing_keys_after [.ref F, UP, .int 3] s12 = some (.lst (M1.map ksE), s12) := by rw [hUP, hM1]; exact after_ok (lsA W12) kup ol DL1 3
  have aB : m_Listing_keys_after [.ref (F + 4), UP, .int 3] s12 = some (.lst (M1.map ksE), s12) := by rw [hUP, hM1]; exact after_ok (lsB W12) kup ol DL1 3
  obtain ⟨s13, c11, B13, W13, _⟩ := B12.step (e := (fv sc n F V y7 y8 (some LO) (some UP) (some (.ref G)) none none)) (x := []) W12 FG (by decide) rfl (by rw [List.append_nil]; exact mkP (callM (j := 3) (m := "keys_after") (mm := m_Listing_keys_after) (fa := aCons (fVar 10) (aCons (fC (.int 3)) aNil)) (as := [UP, .int 3]) rfl (W12.A.noF rfl) rfl aA) (callMK (j := 4) (m := "keys_after") (mm := m_Listing_keys_after) (is := [0, 2, 1]) (fk := aCons (fC (.int 3)) (aCons (fVar 10) aNil)) (bs := [.int 3, UP]) (as := [UP, .int 3]) rfl (W12.B.noF rfl) rfl rfl aB)) hx1
  have fA : m_Listing_keys_before [.ref F, UP, .int 3] s13 = some (.lst (M2.map ksE), s13) := by rw [hUP, hM2]; exact before_ok (lsA W13) kup ol DL1 3
  have fB : m_Listing_keys_before [.ref (F + 4), UP, .int 3] s13 = some (.lst (M2.map ksE), s13) := by rw [hUP, hM2]; exact before_ok (lsB W13) kup ol DL1 3
  obtain ⟨s14, c12, B14, W14, _⟩ := B13.step (e := (fv sc n F V y7 y8 (some LO) (some UP) (some (.ref G)) none none)) (x := []) W13 FG (by decide) rfl (by rw [List.append_nil]; exact mkP (callM (j := 3) (m := "keys_before") (mm := m_Listing_keys_before) (fa := aCons (fVar 10) (aCons (fC (.int 3)) aNil)) (as := [UP, .int 3]) rfl (W13.A.noF rfl) rfl fA) (callMK (j := 4) (m := "keys_before") (mm := m_Listing_keys_before) (is := [0, 2, 1]) (fk := aCons (fC (.int 3)) (aCons (fVar 10) aNil)) (bs := [.int 3, UP]) (as := [UP, .int 3]) rfl (W13.B.noF rfl) rfl rfl fB)) hx2
  -- listings of the table
  obtain ⟨P, l, T, gw, fu⟩ := W14.T
  have gl8 := gw.len
  have v8 : (8 : Int) ∈ l.map (·.1) := fu 8 (by decide) (by rw [I6.pl] at gl8; omega)
  obtain ⟨kk, r, cc, s15, tl1, a1, b1, d1, Q1, ek, er, vs1, rr1, gL1, ⟨x15, hx15⟩, ls1, ln1, hm1⟩ := listing_ok gw v8 vo
  have gw2 : GWd K0 2 s15 n (F + 8) (F + 9) (F + 10) n cs P l T ps := by rw [hx15]; exact gw.app _
  obtain ⟨kk', r', cc', s16, tl2, a2, b2, d2, Q2, ek', er', vs2, rr2, gL2, ⟨x16, hx16⟩, ls2, ln2, hm2⟩ := listing_ok gw2 v8 vo
  obtain rfl : kk = kk' := by omega
  rw [er] at er'
  cases er'
  have eQ : Q1 = Q2 := ls1.ok.uniq ls2.ok fun x => by rw [hm1, hm2]
  rw [← hV] at gL1 gL2
  have c13 : q_law_13 (fv sc n F V y7 y8 (some LO) (some UP) (some (.ref G)) none none) s14 = some (.nx, (fv sc n F V y7 y8 (some LO) (some UP) (some (.ref G)) (some (.ref tl1)) none), s15) := by
    have f : fCallK m_listing_of [2, 1, 0] aNil (aCons (fC (.int 8)) (aCons (fVar 2) (aCons (fVar 5) aNil))) (fv sc n F V y7 y8 (some LO) (some UP) (some (.ref G)) none none) s14 = some (.ref tl1, s15) := gL1
    rw [q_law_13, u_sAsg, f]
    rfl
  have W15 : W28 o V s15 n F cs D' qs ps := by rw [hx15]; exact W14.app _
  have B15 : Bg G s15 6 := by
    obtain ⟨ds, q1, q2, q3⟩ := B14.ex
    exact ⟨ds, by rw [hx15]; exact app_get q1, q2, q3⟩
  have ls1' : Lst o (vD c o sh) s16 tl1 a1 b1 d1 Q1 := by
    rw [hx16]
    have g : ∀ q, q < s15.length → (s15 ++ x16)[q]? = s15[q]? := fun q hq => List.getElem?_append_left hq
    exact ls1.same (g _ (lt_old (insAt_some ls1.ins))) (g _ (lt_old ls1.pl)) (g _ (lt_old ls1.ks)) (g _ (lt_old ls1.vs))
  obtain ⟨M3, hM3⟩ : ∃ M3, M3 = (Q1.drop (rankM o Q1 .st)).take 9 := ⟨_, rfl⟩
  have k1 : m_Listing_keys_after [.ref tl1, LO, .int 9] s16 = some (.lst (M3.map ksE), s16) := by rw [hLO, hM3]; exact after_ok ls1' kst ol (by omega) 9
  have k2 : m_Listing_keys_after [.ref tl2, LO, .int 9] s16 = some (.lst (M3.map ksE), s16) := by rw [hLO, hM3, eQ]; exact after_ok ls2 kst ol (by omega) 9
  obtain ⟨x3, hx3⟩ := ks_fitM (o := o) (M := M3) (fun e he => ls1.ok.ok e (by rw [hM3] at he; exact List.mem_of_mem_drop (List.mem_of_mem_take he))) ol (by rw [hM3, List.length_take]; omega)
  obtain ⟨s17, c14, B17, W17, _⟩ := B15.step (e := (fv sc n F V y7 y8 (some LO) (some UP) (some (.ref G)) (some (.ref tl1)) none)) (x := x16) (v := .lst (M3.map ksE)) (f := fMk mkTup (aCons (fMeth "Listing" "keys_after" m_Listing_keys_after (fCall m_listing_of (aCons (fVar 5) (aCons (fVar 2) (aCons (fC (.int 8)) aNil)))) (aCons (fVar 9) (aCons (fC (.int 9)) aNil))) (aCons (fMeth "Listing" "keys_after" m_Listing_keys_after (fVar 12) (aCons (fVar 9) (aCons (fC (.int 9)) aNil))) aNil))) W15 FG (by decide) rfl (by
    rw [← hx16]
    have f1 : fMeth "Listing" "keys_after" m_Listing_keys_after (fCall m_listing_of (aCons (fVar 5) (aCons (fVar 2) (aCons (fC (.int 8)) aNil)))) (aCons (fVar 9) (aCons (fC (.int 9)) aNil)) (fv sc n F V y7 y8 (some LO) (some UP) (some (.ref G)) (some (.ref tl1)) none) s15 = some (.lst (M3.map ksE), s16) := by
      have f : fCall m_listing_of (aCons (fVar 5) (aCons (fVar 2) (aCons (fC (.int 8)) aNil))) (fv sc n F V y7 y8 (some LO) (some UP) (some (.ref G)) (some (.ref tl1)) none) s15 = some (.ref tl2, s16) := gL2
      have nf := ls2.noF (m := "keys_after") rfl
      rw [fMeth, f]
      simp only [Option.bind_some]
      rw [nf]
      simp only [if_true]
      rw [show aCons (fVar 9) (aCons (fC (.int 9)) aNil) (fv sc n F V y7 y8 (some LO) (some UP) (some (.ref G)) (some (.ref tl1)) none) s16 = some ([LO, .int 9], s16) from rfl]
      exact k2
    exact mkP f1 (callM (j := 12) (m := "keys_after") (mm := m_Listing_keys_after) (fa := aCons (fVar 9) (aCons (fC (.int 9)) aNil)) (as := [LO, .int 9]) rfl (ls1'.noF rfl) rfl k1)) hx3
  obtain ⟨ds, hds, lds, pds⟩ := B17.ex
  have c15 : q_law_15 (fv sc n F V y7 y8 (some LO) (some UP) (some (.ref G)) (some (.ref tl1)) none) s17 = some (.rt (.bl true), (fv sc n F V y7 y8 (some LO) (some UP) (some (.ref G)) (some (.ref tl1)) none), s17) := by
    have lc := loopCG_flt (P := fun s => s[G]? = some (.lst ds)) (is := [13]) (bd := DL.b1) (t := fTest (fOp opNeS (fMk bReprA (aCons (fSub (fVar 13) (fC (.int 0))) aNil)) (fMk bReprA (aCons (fSub (fVar 13) (fC (.int 1))) aNil)))) (f := fVar 13) (φ := id) (p := fun _ => false) (env := wipeL (fv sc n F V y7 y8 (some LO) (some UP) (some (.ref G)) (some (.ref tl1)) none) [13]) (st := s17) hds (l := ds) fun d hd => by
      obtain ⟨v, x, e, f⟩ := pds d hd
      subst e
      have i0 : L2.atI [v, v] 0 = some v := ix0
      have i1 : L2.atI [v, v] 1 = some v := ix1
      refine ⟨[.tup [v, v]], rfl, ?_, rfl⟩
      have vv : (setL [13] [D.tup [v, v]] (wipeL (fv sc n F V y7 y8 (some LO) (some UP) (some (.ref G)) (some (.ref tl1)) none) [13]))[13]? = some (some (.tup [v, v])) := rfl
      generalize setL [13] [D.tup [v, v]] _ = e2 at vv
      simp [fTest, fOp, fMk, aCons, aNil, fSub, fVar, fC, vv, ixD, i0, i1, f, opNeS_same, asB]
    have lf : ds.filter (fun _ => false) = [] := by simp
    rw [lf, List.map_nil, List.map_id] at lc
    have it : iRefL (fVar 11) (fv sc n F V y7 y8 (some LO) (some UP) (some (.ref G)) (some (.ref tl1)) none) s17 = some (ds, (fun s => s[G]? = some (.lst ds)), s17) := by
      rw [iRefL, show fVar 11 (fv sc n F V y7 y8 (some LO) (some UP) (some (.ref G)) (some (.ref tl1)) none) s17 = some (.ref G, s17) from rfl]
      simp [hds]
    have fc : fCompG (iRefL (fVar 11)) [13] DL.b1 (fTest (fOp opNeS (fMk bReprA (aCons (fSub (fVar 13) (fC (.int 0))) aNil)) (fMk bReprA (aCons (fSub (fVar 13) (fC (.int 1))) aNil)))) (fVar 13) (fv sc n F V y7 y8 (some LO) (some UP) (some (.ref G)) (some (.ref tl1)) none) s17 = some (.lst [], s17) := by
      rw [fCompG, it]
      simp only [Option.bind_some]
      rw [lc]
      simp [z0]
    have fm : fMk mkLst aNil (fv sc n F V y7 y8 (some LO) (some UP) (some (.ref G)) (some (.ref tl1)) none) s17 = some (.lst [], s17) := by simp [fMk, aNil, mkLst, z0]
    have ee : opEq (.lst []) (.lst []) = some (.bl true) := rfl
    rw [q_law_15, u_sRet, fOp, fc]
    simp only [Option.bind_some]
    rw [fm]
    simp only [Option.bind_some, ee, Option.map_some]
  refine ⟨s17, ?_⟩
  show outM (g_law [some (.scr ns), none, none, none, none, none, none, none, none, none, none, none, none, none] []) = _
  rw [← hS, ← hsc, g_law, seq_nx c0, seq_nx c1, seq_nx c2, seq_nx c3, seq_nx c4, seq_nx c5, seq_nx c6, seq_nx c7, seq_nx c8, seq_nx (show q_law_9 _ _ = _ from c9), seq_nx (show q_law_10 _ _ = _ from c10), seq_nx (show q_law_11 _ _ = _ from c11), seq_nx (show q_law_12 _ _ = _ from c12), seq_nx c13, seq_nx (show q_law_14 _ _ = _ from c14), c15]
  rfl
end LW
namespace LW
open PySem PySem.Spec PyProof.Rows L2 DL
theorem all_mk {l : PySem.W.OpenLaw} {w : World} {K : PySem.W.Frag} {h : Heap} {mg : Str → Option Value} {fa : Addr} (X : K.In h) (G : h.Ns mainGlobals mg) (hfa : mg "law" = some (.ref fa))
    {C_Listing : Addr} (aC_Listing : PySem.W.nsIn K mainGlobals "Listing" = some (some (.ref C_Listing))) (pg_Listing : PySem.W.plainGet K C_Listing Str.empty = true) (hd_Listing : PySem.W.hasDictIn K C_Listing = true) (po_Listing : PySem.W.plainOver K C_Listing = true) (sa_Listing : PySem.W.findIn K (.ref C_Listing) "__setattr__" = some (some (.builtin "object.__setattr__"))) (km_Listing : PySem.W.makesIn K C_Listing = true) (kc_Listing : PySem.W.keepIn K (.ref C_Listing) = true)
    (nf_Listing__keys : PySem.W.findIn K (.ref C_Listing) "_keys" = some none)
    (nf_Listing__places : PySem.W.findIn K (.ref C_Listing) "_places" = some none)
    (nf_Listing__versions : PySem.W.findIn K (.ref C_Listing) "_versions" = some none)
    (nf_Listing__view : PySem.W.findIn K (.ref C_Listing) "_view" = some none)
    {C_Table : Addr} (aC_Table : PySem.W.nsIn K mainGlobals "Table" = some (some (.ref C_Table))) (pg_Table : PySem.W.plainGet K C_Table Str.empty = true) (hd_Table : PySem.W.hasDictIn K C_Table = true) (po_Table : PySem.W.plainOver K C_Table = true) (sa_Table : PySem.W.findIn K (.ref C_Table) "__setattr__" = some (some (.builtin "object.__setattr__"))) (km_Table : PySem.W.makesIn K C_Table = true) (kc_Table : PySem.W.keepIn K (.ref C_Table) = true)
    (nf_Table__columns : PySem.W.findIn K (.ref C_Table) "_columns" = some none)
    (nf_Table__present : PySem.W.findIn K (.ref C_Table) "_present" = some none)
    (nf_Table__states : PySem.W.findIn K (.ref C_Table) "_states" = some none)
    (nf_Table__steps : PySem.W.findIn K (.ref C_Table) "_steps" = some none)
    {p_is_integer : Addr} {od_is_integer an_is_integer : Option Addr} {sl_is_integer : Array (Option Value)} {oc_is_integer kV_is_integer dc_is_integer pm_is_integer cd_is_integer ct_is_integer : Value}
    (a_is_integer : PySem.W.nsIn K mainGlobals "is_integer" = some (some (.ref p_is_integer))) (l_is_integer : K.lookup p_is_integer = some ⟨oc_is_integer, od_is_integer, .func (PySem.W.fnOf "is_integer" "is_integer" (defArgs s_is_integer) (defBody s_is_integer) (defScope s_is_integer) .none kV_is_integer dc_is_integer pm_is_integer an_is_integer cd_is_integer ct_is_integer), sl_is_integer⟩) (c_is_integer : PySem.W.codeIn K cd_is_integer "is_integer" = true) (k_is_integer : PySem.W.keepIn K (.ref p_is_integer) = true)
    {p_is_string : Addr} {od_is_string an_is_string : Option Addr} {sl_is_string : Array (Option Value)} {oc_is_string kV_is_string dc_is_string pm_is_string cd_is_string ct_is_string : Value}
    (a_is_string : PySem.W.nsIn K mainGlobals "is_string" = some (some (.ref p_is_string))) (l_is_string : K.lookup p_is_string = some ⟨oc_is_string, od_is_string, .func (PySem.W.fnOf "is_string" "is_string" (defArgs s_is_string) (defBody s_is_string) (defScope s_is_string) .none kV_is_string dc_is_string pm_is_string an_is_string cd_is_string ct_is_string), sl_is_string⟩) (c_is_string : PySem.W.codeIn K cd_is_string "is_string" = true) (k_is_string : PySem.W.keepIn K (.ref p_is_string) = true)
    {p_is_value : Addr} {od_is_value an_is_value : Option Addr} {sl_is_value : Array (Option Value)} {oc_is_value kV_is_value dc_is_value pm_is_value cd_is_value ct_is_value : Value}
    (a_is_value : PySem.W.nsIn K mainGlobals "is_value" = some (some (.ref p_is_value))) (l_is_value : K.lookup p_is_value = some ⟨oc_is_value, od_is_value, .func (PySem.W.fnOf "is_value" "is_value" (defArgs s_is_value) (defBody s_is_value) (defScope s_is_value) .none kV_is_value dc_is_value pm_is_value an_is_value cd_is_value ct_is_value), sl_is_value⟩) (c_is_value : PySem.W.codeIn K cd_is_value "is_value" = true) (k_is_value : PySem.W.keepIn K (.ref p_is_value) = true)
    {p_kind_place : Addr} {od_kind_place an_kind_place : Option Addr} {sl_kind_place : Array (Option Value)} {oc_kind_place kV_kind_place dc_kind_place pm_kind_place cd_kind_place ct_kind_place : Value}
    (a_kind_place : PySem.W.nsIn K mainGlobals "kind_place" = some (some (.ref p_kind_place))) (l_kind_place : K.lookup p_kind_place = some ⟨oc_kind_place, od_kind_place, .func (PySem.W.fnOf "kind_place" "kind_place" (defArgs s_kind_place) (defBody s_kind_place) (defScope s_kind_place) .none kV_kind_place dc_kind_place pm_kind_place an_kind_place cd_kind_place ct_kind_place), sl_kind_place⟩) (c_kind_place : PySem.W.codeIn K cd_kind_place "kind_place" = true) (k_kind_place : PySem.W.keepIn K (.ref p_kind_place) = true)
    {p_compare_values : Addr} {od_compare_values an_compare_values : Option Addr} {sl_compare_values : Array (Option Value)} {oc_compare_values kV_compare_values dc_compare_values pm_compare_values cd_compare_values ct_compare_values : Value}
    (a_compare_values : PySem.W.nsIn K mainGlobals "compare_values" = some (some (.ref p_compare_values))) (l_compare_values : K.lookup p_compare_values = some ⟨oc_compare_values, od_compare_values, .func (PySem.W.fnOf "compare_values" "compare_values" (defArgs s_compare_values) (defBody s_compare_values) (defScope s_compare_values) .none kV_compare_values dc_compare_values pm_compare_values an_compare_values cd_compare_values ct_compare_values), sl_compare_values⟩) (c_compare_values : PySem.W.codeIn K cd_compare_values "compare_values" = true) (k_compare_values : PySem.W.keepIn K (.ref p_compare_values) = true)
    {p_is_name : Addr} {od_is_name an_is_name : Option Addr} {sl_is_name : Array (Option Value)} {oc_is_name kV_is_name dc_is_name pm_is_name cd_is_name ct_is_name : Value}
    (a_is_name : PySem.W.nsIn K mainGlobals "is_name" = some (some (.ref p_is_name))) (l_is_name : K.lookup p_is_name = some ⟨oc_is_name, od_is_name, .func (PySem.W.fnOf "is_name" "is_name" (defArgs s_is_name) (defBody s_is_name) (defScope s_is_name) .none kV_is_name dc_is_name pm_is_name an_is_name cd_is_name ct_is_name), sl_is_name⟩) (c_is_name : PySem.W.codeIn K cd_is_name "is_name" = true) (k_is_name : PySem.W.keepIn K (.ref p_is_name) = true)
    {p_is_column_name : Addr} {od_is_column_name an_is_column_name : Option Addr} {sl_is_column_name : Array (Option Value)} {oc_is_column_name kV_is_column_name dc_is_column_name pm_is_column_name cd_is_column_name ct_is_column_name : Value}
    (a_is_column_name : PySem.W.nsIn K mainGlobals "is_column_name" = some (some (.ref p_is_column_name))) (l_is_column_name : K.lookup p_is_column_name = some ⟨oc_is_column_name, od_is_column_name, .func (PySem.W.fnOf "is_column_name" "is_column_name" (defArgs s_is_column_name) (defBody s_is_column_name) (defScope s_is_column_name) .none kV_is_column_name dc_is_column_name pm_is_column_name an_is_column_name cd_is_column_name ct_is_column_name), sl_is_column_name⟩) (c_is_column_name : PySem.W.codeIn K cd_is_column_name "is_column_name" = true) (k_is_column_name : PySem.W.keepIn K (.ref p_is_column_name) = true)
    {p_is_columns : Addr} {od_is_columns an_is_columns : Option Addr} {sl_is_columns : Array (Option Value)} {oc_is_columns kV_is_columns dc_is_columns pm_is_columns cd_is_columns ct_is_columns : Value}
    (a_is_columns : PySem.W.nsIn K mainGlobals "is_columns" = some (some (.ref p_is_columns))) (l_is_columns : K.lookup p_is_columns = some ⟨oc_is_columns, od_is_columns, .func (PySem.W.fnOf "is_columns" "is_columns" (defArgs s_is_columns) (defBody s_is_columns) (defScope s_is_columns) .none kV_is_columns dc_is_columns pm_is_columns an_is_columns cd_is_columns ct_is_columns), sl_is_columns⟩) (c_is_columns : PySem.W.codeIn K cd_is_columns "is_columns" = true) (k_is_columns : PySem.W.keepIn K (.ref p_is_columns) = true)
    {p_is_row_id : Addr} {od_is_row_id an_is_row_id : Option Addr} {sl_is_row_id : Array (Option Value)} {oc_is_row_id kV_is_row_id dc_is_row_id pm_is_row_id cd_is_row_id ct_is_row_id : Value}
    (a_is_row_id : PySem.W.nsIn K mainGlobals "is_row_id" = some (some (.ref p_is_row_id))) (l_is_row_id : K.lookup p_is_row_id = some ⟨oc_is_row_id, od_is_row_id, .func (PySem.W.fnOf "is_row_id" "is_row_id" (defArgs s_is_row_id) (defBody s_is_row_id) (defScope s_is_row_id) .none kV_is_row_id dc_is_row_id pm_is_row_id an_is_row_id cd_is_row_id ct_is_row_id), sl_is_row_id⟩) (c_is_row_id : PySem.W.codeIn K cd_is_row_id "is_row_id" = true) (k_is_row_id : PySem.W.keepIn K (.ref p_is_row_id) = true)
    {p_is_row : Addr} {od_is_row an_is_row : Option Addr} {sl_is_row : Array (Option Value)} {oc_is_row kV_is_row dc_is_row pm_is_row cd_is_row ct_is_row : Value}
    (a_is_row : PySem.W.nsIn K mainGlobals "is_row" = some (some (.ref p_is_row))) (l_is_row : K.lookup p_is_row = some ⟨oc_is_row, od_is_row, .func (PySem.W.fnOf "is_row" "is_row" (defArgs s_is_row) (defBody s_is_row) (defScope s_is_row) .none kV_is_row dc_is_row pm_is_row an_is_row cd_is_row ct_is_row), sl_is_row⟩) (c_is_row : PySem.W.codeIn K cd_is_row "is_row" = true) (k_is_row : PySem.W.keepIn K (.ref p_is_row) = true)
    {p_passes : Addr} {od_passes an_passes : Option Addr} {sl_passes : Array (Option Value)} {oc_passes kV_passes dc_passes pm_passes cd_passes ct_passes : Value}
    (a_passes : PySem.W.nsIn K mainGlobals "passes" = some (some (.ref p_passes))) (l_passes : K.lookup p_passes = some ⟨oc_passes, od_passes, .func (PySem.W.fnOf "passes" "passes" (defArgs s_passes) (defBody s_passes) (defScope s_passes) .none kV_passes dc_passes pm_passes an_passes cd_passes ct_passes), sl_passes⟩) (c_passes : PySem.W.codeIn K cd_passes "passes" = true) (k_passes : PySem.W.keepIn K (.ref p_passes) = true)
    {p_matches : Addr} {od_matches an_matches : Option Addr} {sl_matches : Array (Option Value)} {oc_matches kV_matches dc_matches pm_matches cd_matches ct_matches : Value}
    (a_matches : PySem.W.nsIn K mainGlobals "matches" = some (some (.ref p_matches))) (l_matches : K.lookup p_matches = some ⟨oc_matches, od_matches, .func (PySem.W.fnOf "matches" "matches" (defArgs s_matches) (defBody s_matches) (defScope s_matches) .none kV_matches dc_matches pm_matches an_matches cd_matches ct_matches), sl_matches⟩) (c_matches : PySem.W.codeIn K cd_matches "matches" = true) (k_matches : PySem.W.keepIn K (.ref p_matches) = true)
    {p_key_of : Addr} {od_key_of an_key_of : Option Addr} {sl_key_of : Array (Option Value)} {oc_key_of kV_key_of dc_key_of pm_key_of cd_key_of ct_key_of : Value}
    (a_key_of : PySem.W.nsIn K mainGlobals "key_of" = some (some (.ref p_key_of))) (l_key_of : K.lookup p_key_of = some ⟨oc_key_of, od_key_of, .func (PySem.W.fnOf "key_of" "key_of" (defArgs s_key_of) (defBody s_key_of) (defScope s_key_of) .none kV_key_of dc_key_of pm_key_of an_key_of cd_key_of ct_key_of), sl_key_of⟩) (c_key_of : PySem.W.codeIn K cd_key_of "key_of" = true) (k_key_of : PySem.W.keepIn K (.ref p_key_of) = true)
    {p_value_place : Addr} {od_value_place an_value_place : Option Addr} {sl_value_place : Array (Option Value)} {oc_value_place kV_value_place dc_value_place pm_value_place cd_value_place ct_value_place : Value}
    (a_value_place : PySem.W.nsIn K mainGlobals "value_place" = some (some (.ref p_value_place))) (l_value_place : K.lookup p_value_place = some ⟨oc_value_place, od_value_place, .func (PySem.W.fnOf "value_place" "value_place" (defArgs s_value_place) (defBody s_value_place) (defScope s_value_place) .none kV_value_place dc_value_place pm_value_place an_value_place cd_value_place ct_value_place), sl_value_place⟩) (c_value_place : PySem.W.codeIn K cd_value_place "value_place" = true) (k_value_place : PySem.W.keepIn K (.ref p_value_place) = true)
    {p_key_place : Addr} {od_key_place an_key_place : Option Addr} {sl_key_place : Array (Option Value)} {oc_key_place kV_key_place dc_key_place pm_key_place cd_key_place ct_key_place : Value}
    (a_key_place : PySem.W.nsIn K mainGlobals "key_place" = some (some (.ref p_key_place))) (l_key_place : K.lookup p_key_place = some ⟨oc_key_place, od_key_place, .func (PySem.W.fnOf "key_place" "key_place" (defArgs s_key_place) (defBody s_key_place) (defScope s_key_place) .none kV_key_place dc_key_place pm_key_place an_key_place cd_key_place ct_key_place), sl_key_place⟩) (c_key_place : PySem.W.codeIn K cd_key_place "key_place" = true) (k_key_place : PySem.W.keepIn K (.ref p_key_place) = true)
    {p_first_from : Addr} {od_first_from an_first_from : Option Addr} {sl_first_from : Array (Option Value)} {oc_first_from kV_first_from dc_first_from pm_first_from cd_first_from ct_first_from : Value}
    (a_first_from : PySem.W.nsIn K mainGlobals "first_from" = some (some (.ref p_first_from))) (l_first_from : K.lookup p_first_from = some ⟨oc_first_from, od_first_from, .func (PySem.W.fnOf "first_from" "first_from" (defArgs s_first_from) (defBody s_first_from) (defScope s_first_from) .none kV_first_from dc_first_from pm_first_from an_first_from cd_first_from ct_first_from), sl_first_from⟩) (c_first_from : PySem.W.codeIn K cd_first_from "first_from" = true) (k_first_from : PySem.W.keepIn K (.ref p_first_from) = true)
    {p_Table__check_known : Addr} {od_Table__check_known an_Table__check_known : Option Addr} {sl_Table__check_known : Array (Option Value)} {oc_Table__check_known kV_Table__check_known dc_Table__check_known pm_Table__check_known cd_Table__check_known ct_Table__check_known : Value}
    (a_Table__check_known : PySem.W.findIn K (.ref C_Table) "_check_known" = some (some (.ref p_Table__check_known))) (i_Table__check_known : PySem.W.isFn K (.ref p_Table__check_known) = true) (l_Table__check_known : K.lookup p_Table__check_known = some ⟨oc_Table__check_known, od_Table__check_known, .func (PySem.W.fnOf "_check_known" "Table._check_known" (defArgs s_Table__check_known) (defBody s_Table__check_known) (defScope s_Table__check_known) .none kV_Table__check_known dc_Table__check_known pm_Table__check_known an_Table__check_known cd_Table__check_known ct_Table__check_known), sl_Table__check_known⟩) (c_Table__check_known : PySem.W.codeIn K cd_Table__check_known "Table._check_known" = true) (k_Table__check_known : PySem.W.keepIn K (.ref p_Table__check_known) = true)
    {p_take_step : Addr} {od_take_step an_take_step : Option Addr} {sl_take_step : Array (Option Value)} {oc_take_step kV_take_step dc_take_step pm_take_step cd_take_step ct_take_step : Value}
    (a_take_step : PySem.W.nsIn K mainGlobals "take_step" = some (some (.ref p_take_step))) (l_take_step : K.lookup p_take_step = some ⟨oc_take_step, od_take_step, .func (PySem.W.fnOf "take_step" "take_step" (defArgs s_take_step) (defBody s_take_step) (defScope s_take_step) .none kV_take_step dc_take_step pm_take_step an_take_step cd_take_step ct_take_step), sl_take_step⟩) (c_take_step : PySem.W.codeIn K cd_take_step "take_step" = true) (k_take_step : PySem.W.keepIn K (.ref p_take_step) = true)
    {p_Table__states_at : Addr} {od_Table__states_at an_Table__states_at : Option Addr} {sl_Table__states_at : Array (Option Value)} {oc_Table__states_at kV_Table__states_at dc_Table__states_at pm_Table__states_at cd_Table__states_at ct_Table__states_at : Value}
    (a_Table__states_at : PySem.W.findIn K (.ref C_Table) "_states_at" = some (some (.ref p_Table__states_at))) (i_Table__states_at : PySem.W.isFn K (.ref p_Table__states_at) = true) (l_Table__states_at : K.lookup p_Table__states_at = some ⟨oc_Table__states_at, od_Table__states_at, .func (PySem.W.fnOf "_states_at" "Table._states_at" (defArgs s_Table__states_at) (defBody s_Table__states_at) (defScope s_Table__states_at) .none kV_Table__states_at dc_Table__states_at pm_Table__states_at an_Table__states_at cd_Table__states_at ct_Table__states_at), sl_Table__states_at⟩) (c_Table__states_at : PySem.W.codeIn K cd_Table__states_at "Table._states_at" = true) (k_Table__states_at : PySem.W.keepIn K (.ref p_Table__states_at) = true)
    {p_Table_rows_at : Addr} {od_Table_rows_at an_Table_rows_at : Option Addr} {sl_Table_rows_at : Array (Option Value)} {oc_Table_rows_at kV_Table_rows_at dc_Table_rows_at pm_Table_rows_at cd_Table_rows_at ct_Table_rows_at : Value}
    (a_Table_rows_at : PySem.W.findIn K (.ref C_Table) "rows_at" = some (some (.ref p_Table_rows_at))) (i_Table_rows_at : PySem.W.isFn K (.ref p_Table_rows_at) = true) (l_Table_rows_at : K.lookup p_Table_rows_at = some ⟨oc_Table_rows_at, od_Table_rows_at, .func (PySem.W.fnOf "rows_at" "Table.rows_at" (defArgs s_Table_rows_at) (defBody s_Table_rows_at) (defScope s_Table_rows_at) .none kV_Table_rows_at dc_Table_rows_at pm_Table_rows_at an_Table_rows_at cd_Table_rows_at ct_Table_rows_at), sl_Table_rows_at⟩) (c_Table_rows_at : PySem.W.codeIn K cd_Table_rows_at "Table.rows_at" = true) (k_Table_rows_at : PySem.W.keepIn K (.ref p_Table_rows_at) = true)
    {p_Table_changes_at : Addr} {od_Table_changes_at an_Table_changes_at : Option Addr} {sl_Table_changes_at : Array (Option Value)} {oc_Table_changes_at kV_Table_changes_at dc_Table_changes_at pm_Table_changes_at cd_Table_changes_at ct_Table_changes_at : Value}
    (a_Table_changes_at : PySem.W.findIn K (.ref C_Table) "changes_at" = some (some (.ref p_Table_changes_at))) (i_Table_changes_at : PySem.W.isFn K (.ref p_Table_changes_at) = true) (l_Table_changes_at : K.lookup p_Table_changes_at = some ⟨oc_Table_changes_at, od_Table_changes_at, .func (PySem.W.fnOf "changes_at" "Table.changes_at" (defArgs s_Table_changes_at) (defBody s_Table_changes_at) (defScope s_Table_changes_at) .none kV_Table_changes_at dc_Table_changes_at pm_Table_changes_at an_Table_changes_at cd_Table_changes_at ct_Table_changes_at), sl_Table_changes_at⟩) (c_Table_changes_at : PySem.W.codeIn K cd_Table_changes_at "Table.changes_at" = true) (k_Table_changes_at : PySem.W.keepIn K (.ref p_Table_changes_at) = true)
    {p_Listing___init__ : Addr} {od_Listing___init__ an_Listing___init__ : Option Addr} {sl_Listing___init__ : Array (Option Value)} {oc_Listing___init__ kV_Listing___init__ dc_Listing___init__ pm_Listing___init__ cd_Listing___init__ ct_Listing___init__ : Value}
    (a_Listing___init__ : PySem.W.findIn K (.ref C_Listing) "__init__" = some (some (.ref p_Listing___init__))) (i_Listing___init__ : PySem.W.isFn K (.ref p_Listing___init__) = true) (l_Listing___init__ : K.lookup p_Listing___init__ = some ⟨oc_Listing___init__, od_Listing___init__, .func (PySem.W.fnOf "__init__" "Listing.__init__" (defArgs s_Listing___init__) (defBody s_Listing___init__) (defScope s_Listing___init__) .none kV_Listing___init__ dc_Listing___init__ pm_Listing___init__ an_Listing___init__ cd_Listing___init__ ct_Listing___init__), sl_Listing___init__⟩) (c_Listing___init__ : PySem.W.codeIn K cd_Listing___init__ "Listing.__init__" = true) (k_Listing___init__ : PySem.W.keepIn K (.ref p_Listing___init__) = true)
    {p_Listing__holds : Addr} {od_Listing__holds an_Listing__holds : Option Addr} {sl_Listing__holds : Array (Option Value)} {oc_Listing__holds kV_Listing__holds dc_Listing__holds pm_Listing__holds cd_Listing__holds ct_Listing__holds : Value}
    (a_Listing__holds : PySem.W.findIn K (.ref C_Listing) "_holds" = some (some (.ref p_Listing__holds))) (i_Listing__holds : PySem.W.isFn K (.ref p_Listing__holds) = true) (l_Listing__holds : K.lookup p_Listing__holds = some ⟨oc_Listing__holds, od_Listing__holds, .func (PySem.W.fnOf "_holds" "Listing._holds" (defArgs s_Listing__holds) (defBody s_Listing__holds) (defScope s_Listing__holds) .none kV_Listing__holds dc_Listing__holds pm_Listing__holds an_Listing__holds cd_Listing__holds ct_Listing__holds), sl_Listing__holds⟩) (c_Listing__holds : PySem.W.codeIn K cd_Listing__holds "Listing._holds" = true) (k_Listing__holds : PySem.W.keepIn K (.ref p_Listing__holds) = true)
    {p_Listing_add_key : Addr} {od_Listing_add_key an_Listing_add_key : Option Addr} {sl_Listing_add_key : Array (Option Value)} {oc_Listing_add_key kV_Listing_add_key dc_Listing_add_key pm_Listing_add_key cd_Listing_add_key ct_Listing_add_key : Value}
    (a_Listing_add_key : PySem.W.findIn K (.ref C_Listing) "add_key" = some (some (.ref p_Listing_add_key))) (i_Listing_add_key : PySem.W.isFn K (.ref p_Listing_add_key) = true) (l_Listing_add_key : K.lookup p_Listing_add_key = some ⟨oc_Listing_add_key, od_Listing_add_key, .func (PySem.W.fnOf "add_key" "Listing.add_key" (defArgs s_Listing_add_key) (defBody s_Listing_add_key) (defScope s_Listing_add_key) .none kV_Listing_add_key dc_Listing_add_key pm_Listing_add_key an_Listing_add_key cd_Listing_add_key ct_Listing_add_key), sl_Listing_add_key⟩) (c_Listing_add_key : PySem.W.codeIn K cd_Listing_add_key "Listing.add_key" = true) (k_Listing_add_key : PySem.W.keepIn K (.ref p_Listing_add_key) = true)
    {p_listing_of : Addr} {od_listing_of an_listing_of : Option Addr} {sl_listing_of : Array (Option Value)} {oc_listing_of kV_listing_of dc_listing_of pm_listing_of cd_listing_of ct_listing_of : Value}
    (a_listing_of : PySem.W.nsIn K mainGlobals "listing_of" = some (some (.ref p_listing_of))) (l_listing_of : K.lookup p_listing_of = some ⟨oc_listing_of, od_listing_of, .func (PySem.W.fnOf "listing_of" "listing_of" (defArgs s_listing_of) (defBody s_listing_of) (defScope s_listing_of) .none kV_listing_of dc_listing_of pm_listing_of an_listing_of cd_listing_of ct_listing_of), sl_listing_of⟩) (c_listing_of : PySem.W.codeIn K cd_listing_of "listing_of" = true) (k_listing_of : PySem.W.keepIn K (.ref p_listing_of) = true)
    {p_values_of : Addr} {od_values_of an_values_of : Option Addr} {sl_values_of : Array (Option Value)} {oc_values_of kV_values_of dc_values_of pm_values_of cd_values_of ct_values_of : Value}
    (a_values_of : PySem.W.nsIn K mainGlobals "values_of" = some (some (.ref p_values_of))) (l_values_of : K.lookup p_values_of = some ⟨oc_values_of, od_values_of, .func (PySem.W.fnOf "values_of" "values_of" (defArgs s_values_of) (defBody s_values_of) (defScope s_values_of) .none kV_values_of dc_values_of pm_values_of an_values_of cd_values_of ct_values_of), sl_values_of⟩) (c_values_of : PySem.W.codeIn K cd_values_of "values_of" = true) (k_values_of : PySem.W.keepIn K (.ref p_values_of) = true)
    {p__law_tape : Addr} {od__law_tape an__law_tape : Option Addr} {sl__law_tape : Array (Option Value)} {oc__law_tape kV__law_tape dc__law_tape pm__law_tape cd__law_tape ct__law_tape : Value}
    (a__law_tape : PySem.W.nsIn K mainGlobals "_law_tape" = some (some (.ref p__law_tape))) (l__law_tape : K.lookup p__law_tape = some ⟨oc__law_tape, od__law_tape, .func (PySem.W.fnOf "_law_tape" "_law_tape" (defArgs s__law_tape) (defBody s__law_tape) (defScope s__law_tape) .none kV__law_tape dc__law_tape pm__law_tape an__law_tape cd__law_tape ct__law_tape), sl__law_tape⟩) (c__law_tape : PySem.W.codeIn K cd__law_tape "_law_tape" = true) (k__law_tape : PySem.W.keepIn K (.ref p__law_tape) = true)
    {p__law_pick : Addr} {od__law_pick an__law_pick : Option Addr} {sl__law_pick : Array (Option Value)} {oc__law_pick kV__law_pick dc__law_pick pm__law_pick cd__law_pick ct__law_pick : Value}
    (a__law_pick : PySem.W.nsIn K mainGlobals "_law_pick" = some (some (.ref p__law_pick))) (l__law_pick : K.lookup p__law_pick = some ⟨oc__law_pick, od__law_pick, .func (PySem.W.fnOf "_law_pick" "_law_pick" (defArgs s__law_pick) (defBody s__law_pick) (defScope s__law_pick) .none kV__law_pick dc__law_pick pm__law_pick an__law_pick cd__law_pick ct__law_pick), sl__law_pick⟩) (c__law_pick : PySem.W.codeIn K cd__law_pick "_law_pick" = true) (k__law_pick : PySem.W.keepIn K (.ref p__law_pick) = true)
    {p__law_one_of : Addr} {od__law_one_of an__law_one_of : Option Addr} {sl__law_one_of : Array (Option Value)} {oc__law_one_of kV__law_one_of dc__law_one_of pm__law_one_of cd__law_one_of ct__law_one_of : Value}
    (a__law_one_of : PySem.W.nsIn K mainGlobals "_law_one_of" = some (some (.ref p__law_one_of))) (l__law_one_of : K.lookup p__law_one_of = some ⟨oc__law_one_of, od__law_one_of, .func (PySem.W.fnOf "_law_one_of" "_law_one_of" (defArgs s__law_one_of) (defBody s__law_one_of) (defScope s__law_one_of) .none kV__law_one_of dc__law_one_of pm__law_one_of an__law_one_of cd__law_one_of ct__law_one_of), sl__law_one_of⟩) (c__law_one_of : PySem.W.codeIn K cd__law_one_of "_law_one_of" = true) (k__law_one_of : PySem.W.keepIn K (.ref p__law_one_of) = true)
    {p__law_value : Addr} {od__law_value an__law_value : Option Addr} {sl__law_value : Array (Option Value)} {oc__law_value kV__law_value dc__law_value pm__law_value cd__law_value ct__law_value : Value}
    (a__law_value : PySem.W.nsIn K mainGlobals "_law_value" = some (some (.ref p__law_value))) (l__law_value : K.lookup p__law_value = some ⟨oc__law_value, od__law_value, .func (PySem.W.fnOf "_law_value" "_law_value" (defArgs s__law_value) (defBody s__law_value) (defScope s__law_value) .none kV__law_value dc__law_value pm__law_value an__law_value cd__law_value ct__law_value), sl__law_value⟩) (c__law_value : PySem.W.codeIn K cd__law_value "_law_value" = true) (k__law_value : PySem.W.keepIn K (.ref p__law_value) = true)
    {p__law_values : Addr} {od__law_values an__law_values : Option Addr} {sl__law_values : Array (Option Value)} {oc__law_values kV__law_values dc__law_values pm__law_values cd__law_values ct__law_values : Value}
    (a__law_values : PySem.W.nsIn K mainGlobals "_law_values" = some (some (.ref p__law_values))) (l__law_values : K.lookup p__law_values = some ⟨oc__law_values, od__law_values, .func (PySem.W.fnOf "_law_values" "_law_values" (defArgs s__law_values) (defBody s__law_values) (defScope s__law_values) .none kV__law_values dc__law_values pm__law_values an__law_values cd__law_values ct__law_values), sl__law_values⟩) (c__law_values : PySem.W.codeIn K cd__law_values "_law_values" = true) (k__law_values : PySem.W.keepIn K (.ref p__law_values) = true)
    {p__law_test : Addr} {od__law_test an__law_test : Option Addr} {sl__law_test : Array (Option Value)} {oc__law_test kV__law_test dc__law_test pm__law_test cd__law_test ct__law_test : Value}
    (a__law_test : PySem.W.nsIn K mainGlobals "_law_test" = some (some (.ref p__law_test))) (l__law_test : K.lookup p__law_test = some ⟨oc__law_test, od__law_test, .func (PySem.W.fnOf "_law_test" "_law_test" (defArgs s__law_test) (defBody s__law_test) (defScope s__law_test) .none kV__law_test dc__law_test pm__law_test an__law_test cd__law_test ct__law_test), sl__law_test⟩) (c__law_test : PySem.W.codeIn K cd__law_test "_law_test" = true) (k__law_test : PySem.W.keepIn K (.ref p__law_test) = true)
    {p__law_condition : Addr} {od__law_condition an__law_condition : Option Addr} {sl__law_condition : Array (Option Value)} {oc__law_condition kV__law_condition dc__law_condition pm__law_condition cd__law_condition ct__law_condition : Value}
    (a__law_condition : PySem.W.nsIn K mainGlobals "_law_condition" = some (some (.ref p__law_condition))) (l__law_condition : K.lookup p__law_condition = some ⟨oc__law_condition, od__law_condition, .func (PySem.W.fnOf "_law_condition" "_law_condition" (defArgs s__law_condition) (defBody s__law_condition) (defScope s__law_condition) .none kV__law_condition dc__law_condition pm__law_condition an__law_condition cd__law_condition ct__law_condition), sl__law_condition⟩) (c__law_condition : PySem.W.codeIn K cd__law_condition "_law_condition" = true) (k__law_condition : PySem.W.keepIn K (.ref p__law_condition) = true)
    {p__law_view : Addr} {od__law_view an__law_view : Option Addr} {sl__law_view : Array (Option Value)} {oc__law_view kV__law_view dc__law_view pm__law_view cd__law_view ct__law_view : Value}
    (a__law_view : PySem.W.nsIn K mainGlobals "_law_view" = some (some (.ref p__law_view))) (l__law_view : K.lookup p__law_view = some ⟨oc__law_view, od__law_view, .func (PySem.W.fnOf "_law_view" "_law_view" (defArgs s__law_view) (defBody s__law_view) (defScope s__law_view) .none kV__law_view dc__law_view pm__law_view an__law_view cd__law_view ct__law_view), sl__law_view⟩) (c__law_view : PySem.W.codeIn K cd__law_view "_law_view" = true) (k__law_view : PySem.W.keepIn K (.ref p__law_view) = true)
    {p_Table___init__ : Addr} {od_Table___init__ an_Table___init__ : Option Addr} {sl_Table___init__ : Array (Option Value)} {oc_Table___init__ kV_Table___init__ dc_Table___init__ pm_Table___init__ cd_Table___init__ ct_Table___init__ : Value}
    (a_Table___init__ : PySem.W.findIn K (.ref C_Table) "__init__" = some (some (.ref p_Table___init__))) (i_Table___init__ : PySem.W.isFn K (.ref p_Table___init__) = true) (l_Table___init__ : K.lookup p_Table___init__ = some ⟨oc_Table___init__, od_Table___init__, .func (PySem.W.fnOf "__init__" "Table.__init__" (defArgs s_Table___init__) (defBody s_Table___init__) (defScope s_Table___init__) .none kV_Table___init__ dc_Table___init__ pm_Table___init__ an_Table___init__ cd_Table___init__ ct_Table___init__), sl_Table___init__⟩) (c_Table___init__ : PySem.W.codeIn K cd_Table___init__ "Table.__init__" = true) (k_Table___init__ : PySem.W.keepIn K (.ref p_Table___init__) = true)
    {p_Table__change : Addr} {od_Table__change an_Table__change : Option Addr} {sl_Table__change : Array (Option Value)} {oc_Table__change kV_Table__change dc_Table__change pm_Table__change cd_Table__change ct_Table__change : Value}
    (a_Table__change : PySem.W.findIn K (.ref C_Table) "_change" = some (some (.ref p_Table__change))) (i_Table__change : PySem.W.isFn K (.ref p_Table__change) = true) (l_Table__change : K.lookup p_Table__change = some ⟨oc_Table__change, od_Table__change, .func (PySem.W.fnOf "_change" "Table._change" (defArgs s_Table__change) (defBody s_Table__change) (defScope s_Table__change) .none kV_Table__change dc_Table__change pm_Table__change an_Table__change cd_Table__change ct_Table__change), sl_Table__change⟩) (c_Table__change : PySem.W.codeIn K cd_Table__change "Table._change" = true) (k_Table__change : PySem.W.keepIn K (.ref p_Table__change) = true)
    {p_Table_put_row : Addr} {od_Table_put_row an_Table_put_row : Option Addr} {sl_Table_put_row : Array (Option Value)} {oc_Table_put_row kV_Table_put_row dc_Table_put_row pm_Table_put_row cd_Table_put_row ct_Table_put_row : Value}
    (a_Table_put_row : PySem.W.findIn K (.ref C_Table) "put_row" = some (some (.ref p_Table_put_row))) (i_Table_put_row : PySem.W.isFn K (.ref p_Table_put_row) = true) (l_Table_put_row : K.lookup p_Table_put_row = some ⟨oc_Table_put_row, od_Table_put_row, .func (PySem.W.fnOf "put_row" "Table.put_row" (defArgs s_Table_put_row) (defBody s_Table_put_row) (defScope s_Table_put_row) .none kV_Table_put_row dc_Table_put_row pm_Table_put_row an_Table_put_row cd_Table_put_row ct_Table_put_row), sl_Table_put_row⟩) (c_Table_put_row : PySem.W.codeIn K cd_Table_put_row "Table.put_row" = true) (k_Table_put_row : PySem.W.keepIn K (.ref p_Table_put_row) = true)
    {p_Listing_drop_key : Addr} {od_Listing_drop_key an_Listing_drop_key : Option Addr} {sl_Listing_drop_key : Array (Option Value)} {oc_Listing_drop_key kV_Listing_drop_key dc_Listing_drop_key pm_Listing_drop_key cd_Listing_drop_key ct_Listing_drop_key : Value}
    (a_Listing_drop_key : PySem.W.findIn K (.ref C_Listing) "drop_key" = some (some (.ref p_Listing_drop_key))) (i_Listing_drop_key : PySem.W.isFn K (.ref p_Listing_drop_key) = true) (l_Listing_drop_key : K.lookup p_Listing_drop_key = some ⟨oc_Listing_drop_key, od_Listing_drop_key, .func (PySem.W.fnOf "drop_key" "Listing.drop_key" (defArgs s_Listing_drop_key) (defBody s_Listing_drop_key) (defScope s_Listing_drop_key) .none kV_Listing_drop_key dc_Listing_drop_key pm_Listing_drop_key an_Listing_drop_key cd_Listing_drop_key ct_Listing_drop_key), sl_Listing_drop_key⟩) (c_Listing_drop_key : PySem.W.codeIn K cd_Listing_drop_key "Listing.drop_key" = true) (k_Listing_drop_key : PySem.W.keepIn K (.ref p_Listing_drop_key) = true)
    {p_Listing_key_at : Addr} {od_Listing_key_at an_Listing_key_at : Option Addr} {sl_Listing_key_at : Array (Option Value)} {oc_Listing_key_at kV_Listing_key_at dc_Listing_key_at pm_Listing_key_at cd_Listing_key_at ct_Listing_key_at : Value}
    (a_Listing_key_at : PySem.W.findIn K (.ref C_Listing) "key_at" = some (some (.ref p_Listing_key_at))) (i_Listing_key_at : PySem.W.isFn K (.ref p_Listing_key_at) = true) (l_Listing_key_at : K.lookup p_Listing_key_at = some ⟨oc_Listing_key_at, od_Listing_key_at, .func (PySem.W.fnOf "key_at" "Listing.key_at" (defArgs s_Listing_key_at) (defBody s_Listing_key_at) (defScope s_Listing_key_at) .none kV_Listing_key_at dc_Listing_key_at pm_Listing_key_at an_Listing_key_at cd_Listing_key_at ct_Listing_key_at), sl_Listing_key_at⟩) (c_Listing_key_at : PySem.W.codeIn K cd_Listing_key_at "Listing.key_at" = true) (k_Listing_key_at : PySem.W.keepIn K (.ref p_Listing_key_at) = true)
    {p_Listing_rank_of : Addr} {od_Listing_rank_of an_Listing_rank_of : Option Addr} {sl_Listing_rank_of : Array (Option Value)} {oc_Listing_rank_of kV_Listing_rank_of dc_Listing_rank_of pm_Listing_rank_of cd_Listing_rank_of ct_Listing_rank_of : Value}
    (a_Listing_rank_of : PySem.W.findIn K (.ref C_Listing) "rank_of" = some (some (.ref p_Listing_rank_of))) (i_Listing_rank_of : PySem.W.isFn K (.ref p_Listing_rank_of) = true) (l_Listing_rank_of : K.lookup p_Listing_rank_of = some ⟨oc_Listing_rank_of, od_Listing_rank_of, .func (PySem.W.fnOf "rank_of" "Listing.rank_of" (defArgs s_Listing_rank_of) (defBody s_Listing_rank_of) (defScope s_Listing_rank_of) .none kV_Listing_rank_of dc_Listing_rank_of pm_Listing_rank_of an_Listing_rank_of cd_Listing_rank_of ct_Listing_rank_of), sl_Listing_rank_of⟩) (c_Listing_rank_of : PySem.W.codeIn K cd_Listing_rank_of "Listing.rank_of" = true) (k_Listing_rank_of : PySem.W.keepIn K (.ref p_Listing_rank_of) = true)
    {p_Listing__versions_between : Addr} {od_Listing__versions_between an_Listing__versions_between : Option Addr} {sl_Listing__versions_between : Array (Option Value)} {oc_Listing__versions_between kV_Listing__versions_between dc_Listing__versions_between pm_Listing__versions_between cd_Listing__versions_between ct_Listing__versions_between : Value}
    (a_Listing__versions_between : PySem.W.findIn K (.ref C_Listing) "_versions_between" = some (some (.ref p_Listing__versions_between))) (i_Listing__versions_between : PySem.W.isFn K (.ref p_Listing__versions_between) = true) (l_Listing__versions_between : K.lookup p_Listing__versions_between = some ⟨oc_Listing__versions_between, od_Listing__versions_between, .func (PySem.W.fnOf "_versions_between" "Listing._versions_between" (defArgs s_Listing__versions_between) (defBody s_Listing__versions_between) (defScope s_Listing__versions_between) .none kV_Listing__versions_between dc_Listing__versions_between pm_Listing__versions_between an_Listing__versions_between cd_Listing__versions_between ct_Listing__versions_between), sl_Listing__versions_between⟩) (c_Listing__versions_between : PySem.W.codeIn K cd_Listing__versions_between "Listing._versions_between" = true) (k_Listing__versions_between : PySem.W.keepIn K (.ref p_Listing__versions_between) = true)
    {p_Listing_count_between : Addr} {od_Listing_count_between an_Listing_count_between : Option Addr} {sl_Listing_count_between : Array (Option Value)} {oc_Listing_count_between kV_Listing_count_between dc_Listing_count_between pm_Listing_count_between cd_Listing_count_between ct_Listing_count_between : Value}
    (a_Listing_count_between : PySem.W.findIn K (.ref C_Listing) "count_between" = some (some (.ref p_Listing_count_between))) (i_Listing_count_between : PySem.W.isFn K (.ref p_Listing_count_between) = true) (l_Listing_count_between : K.lookup p_Listing_count_between = some ⟨oc_Listing_count_between, od_Listing_count_between, .func (PySem.W.fnOf "count_between" "Listing.count_between" (defArgs s_Listing_count_between) (defBody s_Listing_count_between) (defScope s_Listing_count_between) .none kV_Listing_count_between dc_Listing_count_between pm_Listing_count_between an_Listing_count_between cd_Listing_count_between ct_Listing_count_between), sl_Listing_count_between⟩) (c_Listing_count_between : PySem.W.codeIn K cd_Listing_count_between "Listing.count_between" = true) (k_Listing_count_between : PySem.W.keepIn K (.ref p_Listing_count_between) = true)
    {p_Listing_unchanged_between : Addr} {od_Listing_unchanged_between an_Listing_unchanged_between : Option Addr} {sl_Listing_unchanged_between : Array (Option Value)} {oc_Listing_unchanged_between kV_Listing_unchanged_between dc_Listing_unchanged_between pm_Listing_unchanged_between cd_Listing_unchanged_between ct_Listing_unchanged_between : Value}
    (a_Listing_unchanged_between : PySem.W.findIn K (.ref C_Listing) "unchanged_between" = some (some (.ref p_Listing_unchanged_between))) (i_Listing_unchanged_between : PySem.W.isFn K (.ref p_Listing_unchanged_between) = true) (l_Listing_unchanged_between : K.lookup p_Listing_unchanged_between = some ⟨oc_Listing_unchanged_between, od_Listing_unchanged_between, .func (PySem.W.fnOf "unchanged_between" "Listing.unchanged_between" (defArgs s_Listing_unchanged_between) (defBody s_Listing_unchanged_between) (defScope s_Listing_unchanged_between) .none kV_Listing_unchanged_between dc_Listing_unchanged_between pm_Listing_unchanged_between an_Listing_unchanged_between cd_Listing_unchanged_between ct_Listing_unchanged_between), sl_Listing_unchanged_between⟩) (c_Listing_unchanged_between : PySem.W.codeIn K cd_Listing_unchanged_between "Listing.unchanged_between" = true) (k_Listing_unchanged_between : PySem.W.keepIn K (.ref p_Listing_unchanged_between) = true)
    {p_Listing_keys_after : Addr} {od_Listing_keys_after an_Listing_keys_after : Option Addr} {sl_Listing_keys_after : Array (Option Value)} {oc_Listing_keys_after kV_Listing_keys_after dc_Listing_keys_after pm_Listing_keys_after cd_Listing_keys_after ct_Listing_keys_after : Value}
    (a_Listing_keys_after : PySem.W.findIn K (.ref C_Listing) "keys_after" = some (some (.ref p_Listing_keys_after))) (i_Listing_keys_after : PySem.W.isFn K (.ref p_Listing_keys_after) = true) (l_Listing_keys_after : K.lookup p_Listing_keys_after = some ⟨oc_Listing_keys_after, od_Listing_keys_after, .func (PySem.W.fnOf "keys_after" "Listing.keys_after" (defArgs s_Listing_keys_after) (defBody s_Listing_keys_after) (defScope s_Listing_keys_after) .none kV_Listing_keys_after dc_Listing_keys_after pm_Listing_keys_after an_Listing_keys_after cd_Listing_keys_after ct_Listing_keys_after), sl_Listing_keys_after⟩) (c_Listing_keys_after : PySem.W.codeIn K cd_Listing_keys_after "Listing.keys_after" = true) (k_Listing_keys_after : PySem.W.keepIn K (.ref p_Listing_keys_after) = true)
    {p_Listing_keys_before : Addr} {od_Listing_keys_before an_Listing_keys_before : Option Addr} {sl_Listing_keys_before : Array (Option Value)} {oc_Listing_keys_before kV_Listing_keys_before dc_Listing_keys_before pm_Listing_keys_before cd_Listing_keys_before ct_Listing_keys_before : Value}
    (a_Listing_keys_before : PySem.W.findIn K (.ref C_Listing) "keys_before" = some (some (.ref p_Listing_keys_before))) (i_Listing_keys_before : PySem.W.isFn K (.ref p_Listing_keys_before) = true) (l_Listing_keys_before : K.lookup p_Listing_keys_before = some ⟨oc_Listing_keys_before, od_Listing_keys_before, .func (PySem.W.fnOf "keys_before" "Listing.keys_before" (defArgs s_Listing_keys_before) (defBody s_Listing_keys_before) (defScope s_Listing_keys_before) .none kV_Listing_keys_before dc_Listing_keys_before pm_Listing_keys_before an_Listing_keys_before cd_Listing_keys_before ct_Listing_keys_before), sl_Listing_keys_before⟩) (c_Listing_keys_before : PySem.W.codeIn K cd_Listing_keys_before "Listing.keys_before" = true) (k_Listing_keys_before : PySem.W.keepIn K (.ref p_Listing_keys_before) = true)
    {p_law : Addr} {od_law an_law : Option Addr} {sl_law : Array (Option Value)} {oc_law kV_law dc_law pm_law cd_law ct_law : Value}
    (a_law : PySem.W.nsIn K mainGlobals "law" = some (some (.ref p_law))) (l_law : K.lookup p_law = some ⟨oc_law, od_law, .func (PySem.W.fnOf "law" "law" (defArgs s_law) (defBody s_law) (defScope s_law) .none kV_law dc_law pm_law an_law cd_law ct_law), sl_law⟩) (c_law : PySem.W.codeIn K cd_law "law" = true) (k_law : PySem.W.keepIn K (.ref p_law) = true)
    (n_all : PySem.W.nsIn K mainGlobals "all" = some none)
    (n_bool : PySem.W.nsIn K mainGlobals "bool" = some none)
    (n_int : PySem.W.nsIn K mainGlobals "int" = some none)
    (n_isinstance : PySem.W.nsIn K mainGlobals "isinstance" = some none)
    (n_len : PySem.W.nsIn K mainGlobals "len" = some none)
    (n_list : PySem.W.nsIn K mainGlobals "list" = some none)
    (n_max : PySem.W.nsIn K mainGlobals "max" = some none)
    (n_ord : PySem.W.nsIn K mainGlobals "ord" = some none)
    (n_range : PySem.W.nsIn K mainGlobals "range" = some none)
    (n_repr : PySem.W.nsIn K mainGlobals "repr" = some none)
    (n_set : PySem.W.nsIn K mainGlobals "set" = some none)
    (n_sorted : PySem.W.nsIn K mainGlobals "sorted" = some none)
    (n_str : PySem.W.nsIn K mainGlobals "str" = some none)
    (n_tuple : PySem.W.nsIn K mainGlobals "tuple" = some none)
    (n_zip : PySem.W.nsIn K mainGlobals "zip" = some none)
    {a_BARRED_NAMES : Addr} {z_BARRED_NAMES : Nat} {sl_BARRED_NAMES : Array (Option Value)} {t0_BARRED_NAMES t1_BARRED_NAMES t2_BARRED_NAMES t3_BARRED_NAMES t4_BARRED_NAMES t5_BARRED_NAMES t6_BARRED_NAMES : Tok} (c_BARRED_NAMES : PySem.W.nsIn K mainGlobals "BARRED_NAMES" = some (some (.ref a_BARRED_NAMES))) (l_BARRED_NAMES : K.lookup a_BARRED_NAMES = some ⟨.type "tuple", none, .seq #[.str (Str.ofString "all") t0_BARRED_NAMES, .str (Str.ofString "and") t1_BARRED_NAMES, .str (Str.ofString "in") t2_BARRED_NAMES, .str (Str.ofString "none") t3_BARRED_NAMES, .str (Str.ofString "not") t4_BARRED_NAMES, .str (Str.ofString "or") t5_BARRED_NAMES, .str (Str.ofString "starts") t6_BARRED_NAMES] z_BARRED_NAMES, sl_BARRED_NAMES⟩)
    {t_GREATEST_ID : Tok} (c_GREATEST_ID : PySem.W.nsIn K mainGlobals "GREATEST_ID" = some (some (.int 1000000 t_GREATEST_ID)))
    {t_GREATEST_INTEGER : Tok} (c_GREATEST_INTEGER : PySem.W.nsIn K mainGlobals "GREATEST_INTEGER" = some (some (.int 1000000000 t_GREATEST_INTEGER)))
    {t_LONGEST_NAME : Tok} (c_LONGEST_NAME : PySem.W.nsIn K mainGlobals "LONGEST_NAME" = some (some (.int 8 t_LONGEST_NAME)))
    {t_LONGEST_STRING : Tok} (c_LONGEST_STRING : PySem.W.nsIn K mainGlobals "LONGEST_STRING" = some (some (.int 20 t_LONGEST_STRING)))
    {t_MOST_COLUMNS : Tok} (c_MOST_COLUMNS : PySem.W.nsIn K mainGlobals "MOST_COLUMNS" = some (some (.int 6 t_MOST_COLUMNS)))
    : ∃ fd : FuncData, (∀ (s : Shared) (v : Value), BindsTo s fd ⟨[v], []⟩ [("script", v)]) ∧ ∀ base : Heap, K.In base → base.Ns mainGlobals mg → FnD l.prog w K mg base 11 fa fd ["script"] m_law := by
  have e := hfa.symm.trans (PySem.W.mg_of X G a_law)
  cases e
  let T : Txt K mg := { a_is_integer := p_is_integer, f_is_integer := _, F_is_integer := fun_mk (st := s_is_integer) l_is_integer c_is_integer k_is_integer, b_is_integer := (fun_mk (st := s_is_integer) l_is_integer c_is_integer k_is_integer).binds (ps := ["value"]) (fun _ _ _ _ _ _ us hl => (match us, hl with | [_], _ => rfl)), g_is_integer := PySem.W.mg_of X G a_is_integer, a_is_string := p_is_string, f_is_string := _, F_is_string := fun_mk (st := s_is_string) l_is_string c_is_string k_is_string, b_is_string := (fun_mk (st := s_is_string) l_is_string c_is_string k_is_string).binds (ps := ["value"]) (fun _ _ _ _ _ _ us hl => (match us, hl with | [_], _ => rfl)), g_is_string := PySem.W.mg_of X G a_is_string, a_is_value := p_is_value, f_is_value := _, F_is_value := fun_mk (st := s_is_value) l_is_value c_is_value k_is_value, b_is_value := (fun_mk (st := s_is_value) l_is_value c_is_value k_is_value).binds (ps := ["value"]) (fun _ _ _ _ _ _ us hl => (match us, hl with | [_], _ => rfl)), g_is_value := PySem.W.mg_of X G a_is_value, a_kind_place := p_kind_place, f_kind_place := _, F_kind_place := fun_mk (st := s_kind_place) l_kind_place c_kind_place k_kind_place, b_kind_place := (fun_mk (st := s_kind_place) l_kind_place c_kind_place k_kind_place).binds (ps := ["value"]) (fun _ _ _ _ _ _ us hl => (match us, hl with | [_], _ => rfl)), g_kind_place := PySem.W.mg_of X G a_kind_place, a_compare_values := p_compare_values, f_compare_values := _, F_compare_values := fun_mk (st := s_compare_values) l_compare_values c_compare_values k_compare_values, b_compare_values := (fun_mk (st := s_compare_values) l_compare_values c_compare_values k_compare_values).binds (ps := ["first", "second"]) (fun _ _ _ _ _ _ us hl => (match us, hl with | [_, _], _ => rfl)), g_compare_values := PySem.W.mg_of X G a_compare_values, a_is_name := p_is_name, f_is_name := _, F_is_name := fun_mk (st := s_is_name) l_is_name c_is_name k_is_name, b_is_name := (fun_mk (st := s_is_name) l_is_name c_is_name k_is_name).binds (ps := ["value"]) (fun _ _ _ _ _ _ us hl => (match us, hl with | [_], _ => rfl)), g_is_name := PySem.W.mg_of X G a_is_name, a_is_column_name := p_is_column_name, f_is_column_name := _, F_is_column_name := fun_mk (st := s_is_column_name) l_is_column_name c_is_column_name k_is_column_name, b_is_column_name := (fun_mk (st := s_is_column_name) l_is_column_name c_is_column_name k_is_column_name).binds (ps := ["value"]) (fun _ _ _ _ _ _ us hl => (match us, hl with | [_], _ => rfl)), g_is_column_name := PySem.W.mg_of X G a_is_column_name, a_is_columns := p_is_columns, f_is_columns := _, F_is_columns := fun_mk (st := s_is_columns) l_is_columns c_is_columns k_is_columns, b_is_columns := (fun_mk (st := s_is_columns) l_is_columns c_is_columns k_is_columns).binds (ps := ["value"]) (fun _ _ _ _ _ _ us hl => (match us, hl with | [_], _ => rfl)), g_is_columns := PySem.W.mg_of X G a_is_columns, a_is_row_id := p_is_row_id, f_is_row_id := _, F_is_row_id := fun_mk (st := s_is_row_id) l_is_row_id c_is_row_id k_is_row_id, b_is_row_id := (fun_mk (st := s_is_row_id) l_is_row_id c_is_row_id k_is_row_id).binds (ps := ["value"]) (fun _ _ _ _ _ _ us hl => (match us, hl with | [_], _ => rfl)), g_is_row_id := PySem.W.mg_of X G a_is_row_id, a_is_row := p_is_row, f_is_row := _, F_is_row := fun_mk (st := s_is_row) l_is_row c_is_row k_is_row, b_is_row := (fun_mk (st := s_is_row) l_is_row c_is_row k_is_row).binds (ps := ["columns", "value"]) (fun _ _ _ _ _ _ us hl => (match us, hl with | [_, _], _ => rfl)), g_is_row := PySem.W.mg_of X G a_is_row, a_passes := p_passes, f_passes := _, F_passes := fun_mk (st := s_passes) l_passes c_passes k_passes, b_passes := (fun_mk (st := s_passes) l_passes c_passes k_passes).binds (ps := ["kind", "value", "operand"]) (fun _ _ _ _ _ _ us hl => (match us, hl with | [_, _, _], _ => rfl)), g_passes := PySem.W.mg_of X G a_passes, a_matches := p_matches, f_matches := _, F_matches := fun_mk (st := s_matches) l_matches c_matches k_matches, b_matches := (fun_mk (st := s_matches) l_matches c_matches k_matches).binds (ps := ["condition", "values"]) (fun _ _ _ _ _ _ us hl => (match us, hl with | [_, _], _ => rfl)), g_matches := PySem.W.mg_of X G a_matches, a_key_of := p_key_of, f_key_of := _, F_key_of := fun_mk (st := s_key_of) l_key_of c_key_of k_key_of, b_key_of := (fun_mk (st := s_key_of) l_key_of c_key_of k_key_of).binds (ps := ["view", "row_id", "values"]) (fun _ _ _ _ _ _ us hl => (match us, hl with | [_, _, _], _ => rfl)), g_key_of := PySem.W.mg_of X G a_key_of, a_value_place := p_value_place, f_value_place := _, F_value_place := fun_mk (st := s_value_place) l_value_place c_value_place k_value_place, b_value_place := (fun_mk (st := s_value_place) l_value_place c_value_place k_value_place).binds (ps := ["value", "descending"]) (fun _ _ _ _ _ _ us hl => (match us, hl with | [_, _], _ => rfl)), g_value_place := PySem.W.mg_of X G a_value_place, a_key_place := p_key_place, f_key_place := _, F_key_place := fun_mk (st := s_key_place) l_key_place c_key_place k_key_place, b_key_place := (fun_mk (st := s_key_place) l_key_place c_key_place k_key_place).binds (ps := ["view", "key"]) (fun _ _ _ _ _ _ us hl => (match us, hl with | [_, _], _ => rfl)), g_key_place := PySem.W.mg_of X G a_key_place, a_first_from := p_first_from, f_first_from := _, F_first_from := fun_mk (st := s_first_from) l_first_from c_first_from k_first_from, b_first_from := (fun_mk (st := s_first_from) l_first_from c_first_from k_first_from).binds (ps := ["places", "place"]) (fun _ _ _ _ _ _ us hl => (match us, hl with | [_, _], _ => rfl)), g_first_from := PySem.W.mg_of X G a_first_from, a_Table__check_known := p_Table__check_known, f_Table__check_known := _, F_Table__check_known := fun_mk (st := s_Table__check_known) l_Table__check_known c_Table__check_known k_Table__check_known, b_Table__check_known := (fun_mk (st := s_Table__check_known) l_Table__check_known c_Table__check_known k_Table__check_known).binds (ps := ["self", "version"]) (fun _ _ _ _ _ _ us hl => (match us, hl with | [_, _], _ => rfl)), a_take_step := p_take_step, f_take_step := _, F_take_step := fun_mk (st := s_take_step) l_take_step c_take_step k_take_step, b_take_step := (fun_mk (st := s_take_step) l_take_step c_take_step k_take_step).binds (ps := ["states", "step"]) (fun _ _ _ _ _ _ us hl => (match us, hl with | [_, _], _ => rfl)), g_take_step := PySem.W.mg_of X G a_take_step, a_Table__states_at := p_Table__states_at, f_Table__states_at := _, F_Table__states_at := fun_mk (st := s_Table__states_at) l_Table__states_at c_Table__states_at k_Table__states_at, b_Table__states_at := (fun_mk (st := s_Table__states_at) l_Table__states_at c_Table__states_at k_Table__states_at).binds (ps := ["self", "version"]) (fun _ _ _ _ _ _ us hl => (match us, hl with | [_, _], _ => rfl)), a_Table_rows_at := p_Table_rows_at, f_Table_rows_at := _, F_Table_rows_at := fun_mk (st := s_Table_rows_at) l_Table_rows_at c_Table_rows_at k_Table_rows_at, b_Table_rows_at := (fun_mk (st := s_Table_rows_at) l_Table_rows_at c_Table_rows_at k_Table_rows_at).binds (ps := ["self", "version"]) (fun _ _ _ _ _ _ us hl => (match us, hl with | [_, _], _ => rfl)), a_Table_changes_at := p_Table_changes_at, f_Table_changes_at := _, F_Table_changes_at := fun_mk (st := s_Table_changes_at) l_Table_changes_at c_Table_changes_at k_Table_changes_at, b_Table_changes_at := (fun_mk (st := s_Table_changes_at) l_Table_changes_at c_Table_changes_at k_Table_changes_at).binds (ps := ["self", "version"]) (fun _ _ _ _ _ _ us hl => (match us, hl with | [_, _], _ => rfl)), a_Listing___init__ := p_Listing___init__, f_Listing___init__ := _, F_Listing___init__ := fun_mk (st := s_Listing___init__) l_Listing___init__ c_Listing___init__ k_Listing___init__, b_Listing___init__ := (fun_mk (st := s_Listing___init__) l_Listing___init__ c_Listing___init__ k_Listing___init__).binds (ps := ["self", "view"]) (fun _ _ _ _ _ _ us hl => (match us, hl with | [_, _], _ => rfl)), a_Listing__holds := p_Listing__holds, f_Listing__holds := _, F_Listing__holds := fun_mk (st := s_Listing__holds) l_Listing__holds c_Listing__holds k_Listing__holds, b_Listing__holds := (fun_mk (st := s_Listing__holds) l_Listing__holds c_Listing__holds k_Listing__holds).binds (ps := ["self", "rank", "place"]) (fun _ _ _ _ _ _ us hl => (match us, hl with | [_, _, _], _ => rfl)), a_Listing_add_key := p_Listing_add_key, f_Listing_add_key := _, F_Listing_add_key := fun_mk (st := s_Listing_add_key) l_Listing_add_key c_Listing_add_key k_Listing_add_key, b_Listing_add_key := (fun_mk (st := s_Listing_add_key) l_Listing_add_key c_Listing_add_key k_Listing_add_key).binds (ps := ["self", "key", "changed"]) (fun _ _ _ _ _ _ us hl => (match us, hl with | [_, _, _], _ => rfl)), a_listing_of := p_listing_of, f_listing_of := _, F_listing_of := fun_mk (st := s_listing_of) l_listing_of c_listing_of k_listing_of, b_listing_of := (fun_mk (st := s_listing_of) l_listing_of c_listing_of k_listing_of).binds (ps := ["table", "view", "version"]) (fun _ _ _ _ _ _ us hl => (match us, hl with | [_, _, _], _ => rfl)), g_listing_of := PySem.W.mg_of X G a_listing_of, a_values_of := p_values_of, f_values_of := _, F_values_of := fun_mk (st := s_values_of) l_values_of c_values_of k_values_of, b_values_of := (fun_mk (st := s_values_of) l_values_of c_values_of k_values_of).binds (ps := ["state"]) (fun _ _ _ _ _ _ us hl => (match us, hl with | [_], _ => rfl)), g_values_of := PySem.W.mg_of X G a_values_of, a__law_tape := p__law_tape, f__law_tape := _, F__law_tape := fun_mk (st := s__law_tape) l__law_tape c__law_tape k__law_tape, b__law_tape := (fun_mk (st := s__law_tape) l__law_tape c__law_tape k__law_tape).binds (ps := ["script", "start"]) (fun _ _ _ _ _ _ us hl => (match us, hl with | [_, _], _ => rfl)), g__law_tape := PySem.W.mg_of X G a__law_tape, a__law_pick := p__law_pick, f__law_pick := _, F__law_pick := fun_mk (st := s__law_pick) l__law_pick c__law_pick k__law_pick, b__law_pick := (fun_mk (st := s__law_pick) l__law_pick c__law_pick k__law_pick).binds (ps := ["tape", "size"]) (fun _ _ _ _ _ _ us hl => (match us, hl with | [_, _], _ => rfl)), g__law_pick := PySem.W.mg_of X G a__law_pick, a__law_one_of := p__law_one_of, f__law_one_of := _, F__law_one_of := fun_mk (st := s__law_one_of) l__law_one_of c__law_one_of k__law_one_of, b__law_one_of := (fun_mk (st := s__law_one_of) l__law_one_of c__law_one_of k__law_one_of).binds (ps := ["tape", "items"]) (fun _ _ _ _ _ _ us hl => (match us, hl with | [_, _], _ => rfl)), g__law_one_of := PySem.W.mg_of X G a__law_one_of, a__law_value := p__law_value, f__law_value := _, F__law_value := fun_mk (st := s__law_value) l__law_value c__law_value k__law_value, b__law_value := (fun_mk (st := s__law_value) l__law_value c__law_value k__law_value).binds (ps := ["tape"]) (fun _ _ _ _ _ _ us hl => (match us, hl with | [_], _ => rfl)), g__law_value := PySem.W.mg_of X G a__law_value, a__law_values := p__law_values, f__law_values := _, F__law_values := fun_mk (st := s__law_values) l__law_values c__law_values k__law_values, b__law_values := (fun_mk (st := s__law_values) l__law_values c__law_values k__law_values).binds (ps := ["tape", "width"]) (fun _ _ _ _ _ _ us hl => (match us, hl with | [_, _], _ => rfl)), g__law_values := PySem.W.mg_of X G a__law_values, a__law_test := p__law_test, f__law_test := _, F__law_test := fun_mk (st := s__law_test) l__law_test c__law_test k__law_test, b__law_test := (fun_mk (st := s__law_test) l__law_test c__law_test k__law_test).binds (ps := ["tape", "width"]) (fun _ _ _ _ _ _ us hl => (match us, hl with | [_, _], _ => rfl)), g__law_test := PySem.W.mg_of X G a__law_test, a__law_condition := p__law_condition, f__law_condition := _, F__law_condition := fun_mk (st := s__law_condition) l__law_condition c__law_condition k__law_condition, b__law_condition := (fun_mk (st := s__law_condition) l__law_condition c__law_condition k__law_condition).binds (ps := ["tape", "width", "depth"]) (fun _ _ _ _ _ _ us hl => (match us, hl with | [_, _, _], _ => rfl)), g__law_condition := PySem.W.mg_of X G a__law_condition, a__law_view := p__law_view, f__law_view := _, F__law_view := fun_mk (st := s__law_view) l__law_view c__law_view k__law_view, b__law_view := (fun_mk (st := s__law_view) l__law_view c__law_view k__law_view).binds (ps := ["tape", "width"]) (fun _ _ _ _ _ _ us hl => (match us, hl with | [_, _], _ => rfl)), g__law_view := PySem.W.mg_of X G a__law_view, a_Table___init__ := p_Table___init__, f_Table___init__ := _, F_Table___init__ := fun_mk (st := s_Table___init__) l_Table___init__ c_Table___init__ k_Table___init__, b_Table___init__ := (fun_mk (st := s_Table___init__) l_Table___init__ c_Table___init__ k_Table___init__).binds (ps := ["self", "columns"]) (fun _ _ _ _ _ _ us hl => (match us, hl with | [_, _], _ => rfl)), a_Table__change := p_Table__change, f_Table__change := _, F_Table__change := fun_mk (st := s_Table__change) l_Table__change c_Table__change k_Table__change, b_Table__change := (fun_mk (st := s_Table__change) l_Table__change c_Table__change k_Table__change).binds (ps := ["self", "rows"]) (fun _ _ _ _ _ _ us hl => (match us, hl with | [_, _], _ => rfl)), a_Table_put_row := p_Table_put_row, f_Table_put_row := _, F_Table_put_row := fun_mk (st := s_Table_put_row) l_Table_put_row c_Table_put_row k_Table_put_row, b_Table_put_row := (fun_mk (st := s_Table_put_row) l_Table_put_row c_Table_put_row k_Table_put_row).binds (ps := ["self", "row_id", "values"]) (fun _ _ _ _ _ _ us hl => (match us, hl with | [_, _, _], _ => rfl)), a_Listing_drop_key := p_Listing_drop_key, f_Listing_drop_key := _, F_Listing_drop_key := fun_mk (st := s_Listing_drop_key) l_Listing_drop_key c_Listing_drop_key k_Listing_drop_key, b_Listing_drop_key := (fun_mk (st := s_Listing_drop_key) l_Listing_drop_key c_Listing_drop_key k_Listing_drop_key).binds (ps := ["self", "key"]) (fun _ _ _ _ _ _ us hl => (match us, hl with | [_, _], _ => rfl)), a_Listing_key_at := p_Listing_key_at, f_Listing_key_at := _, F_Listing_key_at := fun_mk (st := s_Listing_key_at) l_Listing_key_at c_Listing_key_at k_Listing_key_at, b_Listing_key_at := (fun_mk (st := s_Listing_key_at) l_Listing_key_at c_Listing_key_at k_Listing_key_at).binds (ps := ["self", "place"]) (fun _ _ _ _ _ _ us hl => (match us, hl with | [_, _], _ => rfl)), a_Listing_rank_of := p_Listing_rank_of, f_Listing_rank_of := _, F_Listing_rank_of := fun_mk (st := s_Listing_rank_of) l_Listing_rank_of c_Listing_rank_of k_Listing_rank_of, b_Listing_rank_of := (fun_mk (st := s_Listing_rank_of) l_Listing_rank_of c_Listing_rank_of k_Listing_rank_of).binds (ps := ["self", "mark"]) (fun _ _ _ _ _ _ us hl => (match us, hl with | [_, _], _ => rfl)), a_Listing__versions_between := p_Listing__versions_between, f_Listing__versions_between := _, F_Listing__versions_between := fun_mk (st := s_Listing__versions_between) l_Listing__versions_between c_Listing__versions_between k_Listing__versions_between, b_Listing__versions_between := (fun_mk (st := s_Listing__versions_between) l_Listing__versions_between c_Listing__versions_between k_Listing__versions_between).binds (ps := ["self", "low", "high"]) (fun _ _ _ _ _ _ us hl => (match us, hl with | [_, _, _], _ => rfl)), a_Listing_count_between := p_Listing_count_between, f_Listing_count_between := _, F_Listing_count_between := fun_mk (st := s_Listing_count_between) l_Listing_count_between c_Listing_count_between k_Listing_count_between, b_Listing_count_between := (fun_mk (st := s_Listing_count_between) l_Listing_count_between c_Listing_count_between k_Listing_count_between).binds (ps := ["self", "low", "high"]) (fun _ _ _ _ _ _ us hl => (match us, hl with | [_, _, _], _ => rfl)), a_Listing_unchanged_between := p_Listing_unchanged_between, f_Listing_unchanged_between := _, F_Listing_unchanged_between := fun_mk (st := s_Listing_unchanged_between) l_Listing_unchanged_between c_Listing_unchanged_between k_Listing_unchanged_between, b_Listing_unchanged_between := (fun_mk (st := s_Listing_unchanged_between) l_Listing_unchanged_between c_Listing_unchanged_between k_Listing_unchanged_between).binds (ps := ["self", "low", "high", "version"]) (fun _ _ _ _ _ _ us hl => (match us, hl with | [_, _, _, _], _ => rfl)), a_Listing_keys_after := p_Listing_keys_after, f_Listing_keys_after := _, F_Listing_keys_after := fun_mk (st := s_Listing_keys_after) l_Listing_keys_after c_Listing_keys_after k_Listing_keys_after, b_Listing_keys_after := (fun_mk (st := s_Listing_keys_after) l_Listing_keys_after c_Listing_keys_after k_Listing_keys_after).binds (ps := ["self", "mark", "limit"]) (fun _ _ _ _ _ _ us hl => (match us, hl with | [_, _, _], _ => rfl)), a_Listing_keys_before := p_Listing_keys_before, f_Listing_keys_before := _, F_Listing_keys_before := fun_mk (st := s_Listing_keys_before) l_Listing_keys_before c_Listing_keys_before k_Listing_keys_before, b_Listing_keys_before := (fun_mk (st := s_Listing_keys_before) l_Listing_keys_before c_Listing_keys_before k_Listing_keys_before).binds (ps := ["self", "mark", "limit"]) (fun _ _ _ _ _ _ us hl => (match us, hl with | [_, _, _], _ => rfl)), a_law := fa, f_law := _, F_law := fun_mk (st := s_law) l_law c_law k_law, b_law := (fun_mk (st := s_law) l_law c_law k_law).binds (ps := ["script"]) (fun _ _ _ _ _ _ us hl => (match us, hl with | [_], _ => rfl)), g_law := PySem.W.mg_of X G a_law, C_Listing := C_Listing, K_Listing := ⟨aC_Listing, ⟨pg_Listing, hd_Listing, po_Listing, sa_Listing⟩⟩, g_Listing := PySem.W.mg_of X G aC_Listing, na_Listing__keys := nf_Listing__keys, na_Listing__places := nf_Listing__places, na_Listing__versions := nf_Listing__versions, na_Listing__view := nf_Listing__view, M_Listing__holds := ⟨a_Listing__holds, i_Listing__holds, k_Listing__holds⟩, M_Listing__versions_between := ⟨a_Listing__versions_between, i_Listing__versions_between, k_Listing__versions_between⟩, M_Listing_add_key := ⟨a_Listing_add_key, i_Listing_add_key, k_Listing_add_key⟩, M_Listing_count_between := ⟨a_Listing_count_between, i_Listing_count_between, k_Listing_count_between⟩, M_Listing_drop_key := ⟨a_Listing_drop_key, i_Listing_drop_key, k_Listing_drop_key⟩, M_Listing_key_at := ⟨a_Listing_key_at, i_Listing_key_at, k_Listing_key_at⟩, M_Listing_keys_after := ⟨a_Listing_keys_after, i_Listing_keys_after, k_Listing_keys_after⟩, M_Listing_keys_before := ⟨a_Listing_keys_before, i_Listing_keys_before, k_Listing_keys_before⟩, M_Listing_rank_of := ⟨a_Listing_rank_of, i_Listing_rank_of, k_Listing_rank_of⟩, M_Listing_unchanged_between := ⟨a_Listing_unchanged_between, i_Listing_unchanged_between, k_Listing_unchanged_between⟩, mk_Listing := ⟨km_Listing, a_Listing___init__, i_Listing___init__, kc_Listing⟩, C_Table := C_Table, K_Table := ⟨aC_Table, ⟨pg_Table, hd_Table, po_Table, sa_Table⟩⟩, g_Table := PySem.W.mg_of X G aC_Table, na_Table__columns := nf_Table__columns, na_Table__present := nf_Table__present, na_Table__states := nf_Table__states, na_Table__steps := nf_Table__steps, M_Table__change := ⟨a_Table__change, i_Table__change, k_Table__change⟩, M_Table__check_known := ⟨a_Table__check_known, i_Table__check_known, k_Table__check_known⟩, M_Table__states_at := ⟨a_Table__states_at, i_Table__states_at, k_Table__states_at⟩, M_Table_changes_at := ⟨a_Table_changes_at, i_Table_changes_at, k_Table_changes_at⟩, M_Table_put_row := ⟨a_Table_put_row, i_Table_put_row, k_Table_put_row⟩, M_Table_rows_at := ⟨a_Table_rows_at, i_Table_rows_at, k_Table_rows_at⟩, mk_Table := ⟨km_Table, a_Table___init__, i_Table___init__, kc_Table⟩, n_all := PySem.W.mg_none_of X G n_all, n_bool := PySem.W.mg_none_of X G n_bool, n_int := PySem.W.mg_none_of X G n_int, n_isinstance := PySem.W.mg_none_of X G n_isinstance, n_len := PySem.W.mg_none_of X G n_len, n_list := PySem.W.mg_none_of X G n_list, n_max := PySem.W.mg_none_of X G n_max, n_ord := PySem.W.mg_none_of X G n_ord, n_range := PySem.W.mg_none_of X G n_range, n_repr := PySem.W.mg_none_of X G n_repr, n_set := PySem.W.mg_none_of X G n_set, n_sorted := PySem.W.mg_none_of X G n_sorted, n_str := PySem.W.mg_none_of X G n_str, n_tuple := PySem.W.mg_none_of X G n_tuple, n_zip := PySem.W.mg_none_of X G n_zip, a_BARRED_NAMES := a_BARRED_NAMES, o_BARRED_NAMES := _, i_BARRED_NAMES := _, z_BARRED_NAMES := _, c_BARRED_NAMES := PySem.W.mg_of X G c_BARRED_NAMES, l_BARRED_NAMES := l_BARRED_NAMES, h_BARRED_NAMES := rfl, x_BARRED_NAMES := rfl, d_BARRED_NAMES := rfl, y_BARRED_NAMES := (show 7 ≤ sizeLine by decide), v_BARRED_NAMES := (.cons ⟨_, rfl⟩ (.cons ⟨_, rfl⟩ (.cons ⟨_, rfl⟩ (.cons ⟨_, rfl⟩ (.cons ⟨_, rfl⟩ (.cons ⟨_, rfl⟩ (.cons ⟨_, rfl⟩ .nil))))))), t_GREATEST_ID := t_GREATEST_ID, c_GREATEST_ID := PySem.W.mg_of X G c_GREATEST_ID, t_GREATEST_INTEGER := t_GREATEST_INTEGER, c_GREATEST_INTEGER := PySem.W.mg_of X G c_GREATEST_INTEGER, t_LONGEST_NAME := t_LONGEST_NAME, c_LONGEST_NAME := PySem.W.mg_of X G c_LONGEST_NAME, t_LONGEST_STRING := t_LONGEST_STRING, c_LONGEST_STRING := PySem.W.mg_of X G c_LONGEST_STRING, t_MOST_COLUMNS := t_MOST_COLUMNS, c_MOST_COLUMNS := PySem.W.mg_of X G c_MOST_COLUMNS }
  exact ⟨_, fun s v => .of_eq rfl, fun base _ _ => d_law T⟩
end LW
open PySem PySem.W PyProof.Rows
set_option maxHeartbeats 0 in
theorem PySem.Challenge.cw_steadypages_k28_listings_by_name_holds : PySem.Challenge.rw_steadypages_k28_listings_by_name.Holds := by
  w_on; o_law; k_head; (case hw => w_witness2)
  k_fill
  refine DL.walkD (l := PySem.Challenge.rw_steadypages_k28_listings_by_name) (n := 63) (k := 11) (x := "script") (m := LW.m_law) rfl (by decide) rfl ⟨rfl, by decide, by decide⟩ (fun w h Y => PySem.W.kIn_of Y) ?F LW.law_true
  case F =>
    intro w mg fa h KX G hmg
    refine' LW.all_mk KX G hmg ?aC_Listing ?pg_Listing ?hd_Listing ?po_Listing ?sa_Listing ?km_Listing ?kc_Listing ?nf_Listing__keys ?nf_Listing__places ?nf_Listing__versions ?nf_Listing__view ?aC_Table ?pg_Table ?hd_Table ?po_Table ?sa_Table ?km_Table ?kc_Table ?nf_Table__columns ?nf_Table__present ?nf_Table__states ?nf_Table__steps ?a_is_integer ?l_is_integer ?c_is_integer ?k_is_integer ?a_is_string ?l_is_string ?c_is_string ?k_is_string ?a_is_value ?l_is_value ?c_is_value ?k_is_value ?a_kind_place ?l_kind_place ?c_kind_place ?k_kind_place ?a_compare_values ?l_compare_values ?c_compare_values ?k_compare_values ?a_is_name ?l_is_name ?c_is_name ?k_is_name ?a_is_column_name ?l_is_column_name ?c_is_column_name ?k_is_column_name ?a_is_columns ?l_is_columns ?c_is_columns ?k_is_columns ?a_is_row_id ?l_is_row_id ?c_is_row_id ?k_is_row_id ?a_is_row ?l_is_row ?c_is_row ?k_is_row ?a_passes ?l_passes ?c_passes ?k_passes ?a_matches ?l_matches ?c_matches ?k_matches ?a_key_of ?l_key_of ?c_key_of ?k_key_of ?a_value_place ?l_value_place ?c_value_place ?k_value_place ?a_key_place ?l_key_place ?c_key_place ?k_key_place ?a_first_from ?l_first_from ?c_first_from ?k_first_from ?a_Table__check_known ?i_Table__check_known ?l_Table__check_known ?c_Table__check_known ?k_Table__check_known ?a_take_step ?l_take_step ?c_take_step ?k_take_step ?a_Table__states_at ?i_Table__states_at ?l_Table__states_at ?c_Table__states_at ?k_Table__states_at ?a_Table_rows_at ?i_Table_rows_at ?l_Table_rows_at ?c_Table_rows_at ?k_Table_rows_at ?a_Table_changes_at ?i_Table_changes_at ?l_Table_changes_at ?c_Table_changes_at ?k_Table_changes_at ?a_Listing___init__ ?i_Listing___init__ ?l_Listing___init__ ?c_Listing___init__ ?k_Listing___init__ ?a_Listing__holds ?i_Listing__holds ?l_Listing__holds ?c_Listing__holds ?k_Listing__holds ?a_Listing_add_key ?i_Listing_add_key ?l_Listing_add_key ?c_Listing_add_key ?k_Listing_add_key ?a_listing_of ?l_listing_of ?c_listing_of ?k_listing_of ?a_values_of ?l_values_of ?c_values_of ?k_values_of ?a__law_tape ?l__law_tape ?c__law_tape ?k__law_tape ?a__law_pick ?l__law_pick ?c__law_pick ?k__law_pick ?a__law_one_of ?l__law_one_of ?c__law_one_of ?k__law_one_of ?a__law_value ?l__law_value ?c__law_value ?k__law_value ?a__law_values ?l__law_values ?c__law_values ?k__law_values ?a__law_test ?l__law_test ?c__law_test ?k__law_test ?a__law_condition ?l__law_condition ?c__law_condition ?k__law_condition ?a__law_view ?l__law_view ?c__law_view ?k__law_view ?a_Table___init__ ?i_Table___init__ ?l_Table___init__ ?c_Table___init__ ?k_Table___init__ ?a_Table__change ?i_Table__change ?l_Table__change ?c_Table__change ?k_Table__change ?a_Table_put_row ?i_Table_put_row ?l_Table_put_row ?c_Table_put_row ?k_Table_put_row ?a_Listing_drop_key ?i_Listing_drop_key ?l_Listing_drop_key ?c_Listing_drop_key ?k_Listing_drop_key ?a_Listing_key_at ?i_Listing_key_at ?l_Listing_key_at ?c_Listing_key_at ?k_Listing_key_at ?a_Listing_rank_of ?i_Listing_rank_of ?l_Listing_rank_of ?c_Listing_rank_of ?k_Listing_rank_of ?a_Listing__versions_between ?i_Listing__versions_between ?l_Listing__versions_between ?c_Listing__versions_between ?k_Listing__versions_between ?a_Listing_count_between ?i_Listing_count_between ?l_Listing_count_between ?c_Listing_count_between ?k_Listing_count_between ?a_Listing_unchanged_between ?i_Listing_unchanged_between ?l_Listing_unchanged_between ?c_Listing_unchanged_between ?k_Listing_unchanged_between ?a_Listing_keys_after ?i_Listing_keys_after ?l_Listing_keys_after ?c_Listing_keys_after ?k_Listing_keys_after ?a_Listing_keys_before ?i_Listing_keys_before ?l_Listing_keys_before ?c_Listing_keys_before ?k_Listing_keys_before ?a_law ?l_law ?c_law ?k_law ?n_all ?n_bool ?n_int ?n_isinstance ?n_len ?n_list ?n_max ?n_ord ?n_range ?n_repr ?n_set ?n_sorted ?n_str ?n_tuple ?n_zip ?c_BARRED_NAMES ?l_BARRED_NAMES ?c_GREATEST_ID ?c_GREATEST_INTEGER ?c_LONGEST_NAME ?c_LONGEST_STRING ?c_MOST_COLUMNS
    (case aC_Listing => k_is); (case pg_Listing => k_is); (case hd_Listing => k_is); (case po_Listing => k_is); (case sa_Listing => k_is); (case km_Listing => k_is); (case kc_Listing => k_is); (case nf_Listing__keys => k_is); (case nf_Listing__places => k_is); (case nf_Listing__versions => k_is); (case nf_Listing__view => k_is); (case aC_Table => k_is); (case pg_Table => k_is); (case hd_Table => k_is); (case po_Table => k_is); (case sa_Table => k_is); (case km_Table => k_is); (case kc_Table => k_is); (case nf_Table__columns => k_is); (case nf_Table__present => k_is); (case nf_Table__states => k_is); (case nf_Table__steps => k_is); (case a_is_integer => k_is); (case l_is_integer => k_is); (case c_is_integer => k_is); (case k_is_integer => k_is); (case a_is_string => k_is); (case l_is_string => k_is); (case c_is_string => k_is); (case k_is_string => k_is); (case a_is_value => k_is); (case l_is_value => k_is); (case c_is_value => k_is); (case k_is_value => k_is); (case a_kind_place => k_is); (case l_kind_place => k_is); (case c_kind_place => k_is); (case k_kind_place => k_is); (case a_compare_values => k_is); (case l_compare_values => k_is); (case c_compare_values => k_is); (case k_compare_values => k_is); (case a_is_name => k_is); (case l_is_name => k_is); (case c_is_name => k_is); (case k_is_name => k_is); (case a_is_column_name => k_is); (case l_is_column_name => k_is); (case c_is_column_name => k_is); (case k_is_column_name => k_is); (case a_is_columns => k_is); (case l_is_columns => k_is); (case c_is_columns => k_is); (case k_is_columns => k_is); (case a_is_row_id => k_is); (case l_is_row_id => k_is); (case c_is_row_id => k_is); (case k_is_row_id => k_is); (case a_is_row => k_is); (case l_is_row => k_is); (case c_is_row => k_is); (case k_is_row => k_is); (case a_passes => k_is); (case l_passes => k_is); (case c_passes => k_is); (case k_passes => k_is); (case a_matches => k_is); (case l_matches => k_is); (case c_matches => k_is); (case k_matches => k_is); (case a_key_of => k_is); (case l_key_of => k_is); (case c_key_of => k_is); (case k_key_of => k_is); (case a_value_place => k_is); (case l_value_place => k_is); (case c_value_place => k_is); (case k_value_place => k_is); (case a_key_place => k_is); (case l_key_place => k_is); (case c_key_place => k_is); (case k_key_place => k_is); (case a_first_from => k_is); (case l_first_from => k_is); (case c_first_from => k_is); (case k_first_from => k_is); (case a_Table__check_known => k_is); (case i_Table__check_known => k_is); (case l_Table__check_known => k_is); (case c_Table__check_known => k_is); (case k_Table__check_known => k_is); (case a_take_step => k_is); (case l_take_step => k_is); (case c_take_step => k_is); (case k_take_step => k_is); (case a_Table__states_at => k_is); (case i_Table__states_at => k_is); (case l_Table__states_at => k_is); (case c_Table__states_at => k_is); (case k_Table__states_at => k_is); (case a_Table_rows_at => k_is); (case i_Table_rows_at => k_is); (case l_Table_rows_at => k_is); (case c_Table_rows_at => k_is); (case k_Table_rows_at => k_is); (case a_Table_changes_at => k_is); (case i_Table_changes_at => k_is); (case l_Table_changes_at => k_is); (case c_Table_changes_at => k_is); (case k_Table_changes_at => k_is); (case a_Listing___init__ => k_is); (case i_Listing___init__ => k_is); (case l_Listing___init__ => k_is); (case c_Listing___init__ => k_is); (case k_Listing___init__ => k_is); (case a_Listing__holds => k_is); (case i_Listing__holds => k_is); (case l_Listing__holds => k_is); (case c_Listing__holds => k_is); (case k_Listing__holds => k_is); (case a_Listing_add_key => k_is); (case i_Listing_add_key => k_is); (case l_Listing_add_key => k_is); (case c_Listing_add_key => k_is); (case k_Listing_add_key => k_is); (case a_listing_of => k_is); (case l_listing_of => k_is); (case c_listing_of => k_is); (case k_listing_of => k_is); (case a_values_of => k_is); (case l_values_of => k_is); (case c_values_of => k_is); (case k_values_of => k_is); (case a__law_tape => k_is); (case l__law_tape => k_is); (case c__law_tape => k_is); (case k__law_tape => k_is); (case a__law_pick => k_is); (case l__law_pick => k_is); (case c__law_pick => k_is); (case k__law_pick => k_is); (case a__law_one_of => k_is); (case l__law_one_of => k_is); (case c__law_one_of => k_is); (case k__law_one_of => k_is); (case a__law_value => k_is); (case l__law_value => k_is); (case c__law_value => k_is); (case k__law_value => k_is); (case a__law_values => k_is); (case l__law_values => k_is); (case c__law_values => k_is); (case k__law_values => k_is); (case a__law_test => k_is); (case l__law_test => k_is); (case c__law_test => k_is); (case k__law_test => k_is); (case a__law_condition => k_is); (case l__law_condition => k_is); (case c__law_condition => k_is); (case k__law_condition => k_is); (case a__law_view => k_is); (case l__law_view => k_is); (case c__law_view => k_is); (case k__law_view => k_is); (case a_Table___init__ => k_is); (case i_Table___init__ => k_is); (case l_Table___init__ => k_is); (case c_Table___init__ => k_is); (case k_Table___init__ => k_is); (case a_Table__change => k_is); (case i_Table__change => k_is); (case l_Table__change => k_is); (case c_Table__change => k_is); (case k_Table__change => k_is); (case a_Table_put_row => k_is); (case i_Table_put_row => k_is); (case l_Table_put_row => k_is); (case c_Table_put_row => k_is); (case k_Table_put_row => k_is); (case a_Listing_drop_key => k_is); (case i_Listing_drop_key => k_is); (case l_Listing_drop_key => k_is); (case c_Listing_drop_key => k_is); (case k_Listing_drop_key => k_is); (case a_Listing_key_at => k_is); (case i_Listing_key_at => k_is); (case l_Listing_key_at => k_is); (case c_Listing_key_at => k_is); (case k_Listing_key_at => k_is); (case a_Listing_rank_of => k_is); (case i_Listing_rank_of => k_is); (case l_Listing_rank_of => k_is); (case c_Listing_rank_of => k_is); (case k_Listing_rank_of => k_is); (case a_Listing__versions_between => k_is); (case i_Listing__versions_between => k_is); (case l_Listing__versions_between => k_is); (case c_Listing__versions_between => k_is); (case k_Listing__versions_between => k_is); (case a_Listing_count_between => k_is); (case i_Listing_count_between => k_is); (case l_Listing_count_between => k_is); (case c_Listing_count_between => k_is); (case k_Listing_count_between => k_is); (case a_Listing_unchanged_between => k_is); (case i_Listing_unchanged_between => k_is); (case l_Listing_unchanged_between => k_is); (case c_Listing_unchanged_between => k_is); (case k_Listing_unchanged_between => k_is); (case a_Listing_keys_after => k_is); (case i_Listing_keys_after => k_is); (case l_Listing_keys_after => k_is); (case c_Listing_keys_after => k_is); (case k_Listing_keys_after => k_is); (case a_Listing_keys_before => k_is); (case i_Listing_keys_before => k_is); (case l_Listing_keys_before => k_is); (case c_Listing_keys_before => k_is); (case k_Listing_keys_before => k_is); (case a_law => k_is); (case l_law => k_is); (case c_law => k_is); (case k_law => k_is); (case n_all => k_is); (case n_bool => k_is); (case n_int => k_is); (case n_isinstance => k_is); (case n_len => k_is); (case n_list => k_is); (case n_max => k_is); (case n_ord => k_is); (case n_range => k_is); (case n_repr => k_is); (case n_set => k_is); (case n_sorted => k_is); (case n_str => k_is); (case n_tuple => k_is); (case n_zip => k_is); (case c_BARRED_NAMES => k_is); (case l_BARRED_NAMES => k_is); (case c_GREATEST_ID => k_is); (case c_GREATEST_INTEGER => k_is); (case c_LONGEST_NAME => k_is); (case c_LONGEST_STRING => k_is); (case c_MOST_COLUMNS => k_is)
