import PyProof.Rows.All
import Wide.All
import OpenK.AllK
import Wide.FinOn
import HandS.ForMost
import HandS.IsInst
import HandS.Wide
import HandS.TupAny
import HandS.TupMul
import HandS.Style
import HandS.Flow
import HandS.Conv
import HandS.EndBits
import HandS.SetBool
import HandS.Strs
import HandS.Lambda
import KE.IntBitsLaws
import KE.DataFind
import KE.LtSeq
import HandS.ForExc
import HandS.ExcOwn
import HandS.Zip
import HandS.Star
import HandS.DictComp
import KE.GoesEnum
import KE.GoesMore
import KE.LtData
import HandS.SetFor
import HandS.SortInts
import HandS.NamedTupGet
import HandS.DictTup
import HandS.ListItems
import HandS.More
import HandS.Finally
import HandS.DictEq
import HandS.TryOnly
import HandS.TupSets
import HandS.ExcCtx
import HandS.Codes
import KE.KEqNest
import HandS.OwnEq
import HandS.Defaults
import HandS.HeadHook2
import PyProof.CollectIter
import PyProof.WalksMore
import KE.SortKeyHeap
import HandS.SortKw
import HandS.EndTab
import KE.KDictList
import PyProof.RowDictHeap
import PyProof.ReprRoads
import PyProof.DictDisplay
import PyProof.P3Eq
import PySem.Challenge.RW_steadypages_k25_listing
set_option Elab.async false
set_option linter.all false
set_option maxRecDepth 100000
set_option maxHeartbeats 4000000
/-! New tuples whose object is known: it has no dict. -/
namespace DL
open PySem PySem.Spec PyProof.Rows L2
/-- what a new tuple brings -/
abbrev Fz (Q : VK) (H : Hp) (xs : List V) : Prop := ∀ (p : Addr) (o : Obj), H p = none → o.dict = none → Q (.ref p) (upd H p (.frz o (.tup xs)))
section
variable {X : Cx}
theorem laidF {pins : List (Addr × Obj)} {σ : L2.St} {H : Hp} {s : Shared} {Q : VK} {xs : List V} {us : List Value} {t' : Nat} (I : Inv X pins σ H s) (r : Vals xs us) (z : xs.length ≤ sizeLine) (q : Fz Q H xs) :
    EP X pins σ Q (.ref s.heap.objs.size) { s with heap := s.heap.push { cls := .type "tuple", data := .seq us.toArray }, toks := t' } :=
  ⟨.ref s.heap.objs.size, _, I.laid (t' := t') (o := .frz { cls := .type "tuple", data := .seq us.toArray } (.tup xs)) (fun _ _ e => Heap.get?_push_of_some _ e) (Nat.le_refl _) ⟨Heap.get?_push_size _ rfl, z, us, r, IsTup.new _ _⟩, rfl, q _ _ (I.hok.fresh (Nat.le_refl _)) rfl⟩
theorem pe_tupF {es : List Expr} {t : TA} {x1 : Nat} {pos : Pos} (h : PA X es t) : PE X (.Tuple es x1 pos) (fun σ H Q => t σ H fun xs H1 => xs.length ≤ sizeLine ∧ Fz Q H1 xs) :=
  ⟨fun pins s σ H Q I hq => wpAny_Tuple_spliced (thn (h.run pos pins s σ H _ I hq) fun us s1 ⟨xs, H1, I1, r, z, q⟩ => ⟨by rw [← r.length]; exact z, laidF (t' := s1.toks) I1 r z q⟩)⟩
theorem call_tupF : CallR X (.type "tuple") (fun xs H Q => ∃ p ys, xs = [.ref p] ∧ ((SqL X.K H p ys ∧ Fz Q H ys) ∨ (SqT X.K H p ys ∧ Q (.ref p) H))) := by
  intro pins s σ H xs us Q I r h
  obtain ⟨p, ys, rfl, h⟩ := h
  obtain ⟨u, rfl, rx⟩ := vals1 r
  cases rx
  rcases h with ⟨sq, q⟩ | ⟨sq, q⟩
  · obtain ⟨its, r2, pl, hz⟩ := I.list sq
    have hlen := r2.length
    exact call_tuple_list pl.isList (fun h' kp => laidF (t' := s.toks) (I.kept (t' := s.toks) kp) r2 hz q) (by simp only [List.size_toArray] <;> omega)
  · obtain ⟨its, r2, pl, hz⟩ := I.tuple sq
    exact call_tuple_same pl ⟨.ref p, H, I, rfl, q⟩
def rCatF (K : PySem.W.Frag) : R2 := fun x y H Q => ∃ a b xs ys, x = .ref a ∧ y = .ref b ∧ SqT K H a xs ∧ SqT K H b ys ∧ xs.length + ys.length ≤ sizeLine ∧ (xs = [] → Q (.ref b) H) ∧ (xs ≠ [] → ys = [] → Q (.ref a) H) ∧ Fz Q H (xs ++ ys)
theorem op_catF : OpR X (binaryOp .Add) (rCatF X.K) := by
  intro pins s σ H x y v u Q I rx ry h
  obtain ⟨a, b, xs, ys, rfl, rfl, ha, hb, hz, q0, q1, q2⟩ := h
  cases rx
  cases ry
  obtain ⟨its, r1, p1, _⟩ := I.tuple ha
  obtain ⟨its2, r2, p2, _⟩ := I.tuple hb
  by_cases hx : xs = []
  · subst hx
    cases r1
    exact cat_tup0 p1 p2 ⟨.ref b, H, I, rfl, q0 rfl⟩
  · exact HT.cat_tup p1 p2 (fun z => hx (r1.nil_iff.mp z)) (fun z => ⟨.ref a, H, I, rfl, q1 hx (r2.nil_iff.mp z)⟩) (fun _ => laidF (t' := s.toks) I (r1.append r2) (by rw [List.length_append]; exact hz) q2) (by rw [← r1.length, ← r2.length]; exact hz)
def rSlF (K : PySem.W.Frag) : V → Option Int → Option Int → Hp → VK → Prop := fun x lo hi H Q => ∃ a xs, x = .ref a ∧ SqT K H a xs ∧ (HT.sIx xs.length 0 lo = 0 ∧ HT.sIx xs.length xs.length hi = xs.length → Q (.ref a) H) ∧ Fz Q H (cutV xs lo hi)
theorem sl_tupF : SlR X (rSlF X.K) := by
  intro pins s σ H x v vl vu lo hi sl Q I rx hs pl pu h
  obtain ⟨a, xs, rfl, hx, q1, q2⟩ := h
  cases rx
  obtain ⟨its, r, ht, hz⟩ := I.tuple hx
  have hlen : its.toArray.size = xs.length := by rw [List.size_toArray]; exact r.length.symm
  refine ⟨"tuple", _, PyProof.Rows.slot_tuple_getitem.lookup, ht.typeIs, ?_⟩
  by_cases hw : HT.sIx xs.length 0 lo = 0 ∧ HT.sIx xs.length xs.length hi = xs.length
  · exact getItem_tuple_whole ht hs pl pu (by rw [hlen]; exact hw) ⟨.ref a, H, I, rfl, q1 hw⟩
  · refine HT.getItem_tuple_cut ht hs pl pu (by rw [hlen]; exact hw) ?_ (by rw [hlen]; exact hz)
    rw [hlen]
    exact laidF (t' := s.toks) I ((r.drop (HT.sIx xs.length 0 lo)).take (HT.sIx xs.length xs.length hi - HT.sIx xs.length 0 lo)) (Nat.le_trans (cutV_length xs lo hi) hz) q2
end
end DL
/-! Data level: values as trees, a store for what may be written, and judgements that say "this piece of text computes this function". -/
namespace DL
open PySem PySem.Spec PyProof.Rows L2
inductive D where
  | non | bl (b : Bool) | int (i : Int) | str (x : Str)
  | tup (ds : List D) | lst (ds : List D) | dct (kvs : List (Key × D))
  | scr (ns : List Int) | ref (n : Nat)
inductive Ob where
  | dead
  | dct (kvs : List (Key × D))
  | lst (ds : List D)
  | ins (c : Str) (fs : List (Str × D))
  | ldc (kvs : List (Key × D))
  | st (ns : List Int)
  | tb (x : Str)
/-- where the store's objects stand; what no value may lean on -/
structure Rf where
  adr : List Addr
  av : Addr → Prop
  lk : Addr → Prop
abbrev Store := List Ob
abbrev Lo := List (Option D)
variable {K : PySem.W.Frag}
mutual
inductive Rep (K : PySem.W.Frag) (r : Rf) (H : Hp) : V → D → Prop
  | non : Rep K r H .non .non
  | bl (b : Bool) : Rep K r H (.bl b) (.bl b)
  | int (i : Int) : Rep K r H (.int i) (.int i)
  | str (x : Str) : Rep K r H (.str x) (.str x)
  | tup {a : Addr} {xs : List V} {ds : List D} {o : Obj} : H a = some (.frz o (.tup xs)) → o.dict = none → ¬ r.av a → RepL K r H xs ds → Rep K r H (.ref a) (.tup ds)
  | tupK {a : Addr} {o : Obj} {its : Array Value} {n : Nat} {xs : List V} {ds : List D} : K.lookup a = some o → o.cls = .type "tuple" → o.dict = none → o.data = .seq its n → its.size ≤ sizeLine → Vals xs its.toList → RepL K r H xs ds → Rep K r H (.ref a) (.tup ds)
  | lst {a : Addr} {xs : List V} {ds : List D} : H a = some (.lst xs) → ¬ r.av a → RepL K r H xs ds → Rep K r H (.ref a) (.lst ds)
  | tupP {a : Addr} {xs : List V} {ds : List D} : H a = some (.tup xs) → ¬ r.av a → RepL K r H xs ds → Rep K r H (.ref a) (.tup ds)
  | dct {a : Addr} {o : Obj} {xs : List (Key × V)} {kvs : List (Key × D)} : H a = some (.frz o (.dK xs)) → ¬ r.av a → RepK K r H xs kvs → Rep K r H (.ref a) (.dct kvs)
  | scr {a : Addr} {ns : List Int} {o : Obj} : H a = some (.frz o (.lst (ns.map V.int))) → ¬ r.av a → Rep K r H (.ref a) (.scr ns)
  | scrK {a : Addr} {ns : List Int} {o : Obj} {its : Array Value} {n : Nat} : K.lookup a = some o → o.cls = .type "list" → o.dict = none → o.data = .seq its n → its.size ≤ sizeLine → Vals (ns.map V.int) its.toList → Rep K r H (.ref a) (.scr ns)
  | ref {n : Nat} {a : Addr} : r.adr[n]? = some a → Rep K r H (.ref a) (.ref n)
inductive RepL (K : PySem.W.Frag) (r : Rf) (H : Hp) : List V → List D → Prop
  | nil : RepL K r H [] []
  | cons {v : V} {vs : List V} {d : D} {ds : List D} : Rep K r H v d → RepL K r H vs ds → RepL K r H (v :: vs) (d :: ds)
inductive RepK (K : PySem.W.Frag) (r : Rf) (H : Hp) : List (Key × V) → List (Key × D) → Prop
  | nil : RepK K r H [] []
  | cons {k : Key} {v : V} {vs : List (Key × V)} {d : D} {ds : List (Key × D)} : Rep K r H v d → RepK K r H vs ds → RepK K r H ((k, v) :: vs) ((k, d) :: ds)
end
/-- what was known stays known -/
structure Ex (r : Rf) (H : Hp) (r' : Rf) (H' : Hp) : Prop where
  pre : ∃ l, r'.adr = r.adr ++ l
  keep : ∀ p o, H p = some o → ¬ r.av p → H' p = some o
  new : ∀ p, r'.av p → ¬ r.av p → H p = none
/-- .. and nothing is done to what is hidden -/
structure HidL (r : Rf) (H : Hp) (r' : Rf) (H' : Hp) : Prop where
  hid : ∀ p, r.av p → p ∉ r.adr → H' p = H p ∧ r'.av p ∧ p ∉ r'.adr
  lke : ∀ p, r'.lk p ↔ r.lk p
  lks : ∀ p, r.lk p → H' p = H p
structure Ext (r : Rf) (H : Hp) (r' : Rf) (H' : Hp) : Prop extends Ex r H r' H' where
  hd : HidL r H r' H'
theorem Ext.hid {r r' : Rf} {H H' : Hp} (e : Ext r H r' H') : ∀ p, r.av p → p ∉ r.adr → H' p = H p ∧ r'.av p ∧ p ∉ r'.adr := e.hd.hid
theorem HidL.refl (r : Rf) (H : Hp) : HidL r H r H := ⟨fun _ a b => ⟨rfl, a, b⟩, fun _ => Iff.rfl, fun _ _ => rfl⟩
theorem HidL.trans {r r1 r2 : Rf} {H H1 H2 : Hp} (a : HidL r H r1 H1) (b : HidL r1 H1 r2 H2) : HidL r H r2 H2 :=
  ⟨fun p x y => let ⟨h1, h2, h3⟩ := a.hid p x y; let ⟨h4, h5, h6⟩ := b.hid p h2 h3; ⟨h4.trans h1, h5, h6⟩, fun p => (b.lke p).trans (a.lke p), fun p x => (b.lks p ((a.lke p).mpr x)).trans (a.lks p x)⟩
theorem Ext.refl (r : Rf) (H : Hp) : Ext r H r H := ⟨⟨⟨[], by simp⟩, fun _ _ h _ => h, fun _ h n => absurd h n⟩, .refl r H⟩
theorem Ex.out {r r' : Rf} {H H' : Hp} (e : Ex r H r' H') {p : Addr} {o : HO} (h : H p = some o) (n : ¬ r.av p) : ¬ r'.av p := fun z => by
  rw [e.new p z n] at h; cases h
theorem Ex.get {r r' : Rf} {H H' : Hp} (e : Ex r H r' H') {n : Nat} {a : Addr} (h : r.adr[n]? = some a) : r'.adr[n]? = some a := by
  obtain ⟨l, hl⟩ := e.pre
  obtain ⟨q, _⟩ := List.getElem?_eq_some_iff.mp h
  rw [hl, List.getElem?_append_left q]; exact h
theorem Ex.trans {r r1 r2 : Rf} {H H1 H2 : Hp} (a : Ex r H r1 H1) (b : Ex r1 H1 r2 H2) : Ex r H r2 H2 := by
  refine ⟨?_, fun p o h n => b.keep p o (a.keep p o h n) (a.out h n), fun p h n => ?_⟩
  · obtain ⟨l, hl⟩ := a.pre
    obtain ⟨m, hm⟩ := b.pre
    exact ⟨l ++ m, by rw [hm, hl, List.append_assoc]⟩
  · by_cases q : r1.av p
    · exact a.new p q n
    · cases z : H p with
      | none => rfl
      | some o =>
        have := b.new p h q
        rw [a.keep p o z n] at this
        cases this
theorem Ext.trans {r r1 r2 : Rf} {H H1 H2 : Hp} (a : Ext r H r1 H1) (b : Ext r1 H1 r2 H2) : Ext r H r2 H2 :=
  ⟨a.toEx.trans b.toEx, a.hd.trans b.hd⟩
theorem Ext.same (r : Rf) {H H' : Hp} (s : Same H H') (there : ∀ p, r.av p → ∃ o, H p = some o) (lkd : ∀ p, r.lk p → ∃ o u, H p = some (.frz o u)) : Ext r H r H' :=
  ⟨⟨⟨[], by simp⟩, fun p o h _ => s p o h, fun p h n => absurd h n⟩, fun p a b => ⟨by obtain ⟨o, h⟩ := there p a; rw [h]; exact s p o h, a, b⟩, fun _ => Iff.rfl, fun p a => by obtain ⟨o, u, h⟩ := lkd p a; rw [h]; exact s p _ h⟩
theorem Ex.same (r : Rf) {H H' : Hp} (s : Same H H') : Ex r H r H' := ⟨⟨[], by simp⟩, fun p o h _ => s p o h, fun p h n => absurd h n⟩
theorem same_alloc {H : Hp} {p : Addr} {o : HO} (h : H p = none) : Same H (upd H p o) := fun b x e => by
  rw [upd_ne (ne_of_none e h)]; exact e
mutual
theorem Rep.ex {r r' : Rf} {H H' : Hp} (e : Ex r H r' H') : ∀ {v : V} {d : D}, Rep K r H v d → Rep K r' H' v d
  | _, _, .non => .non
  | _, _, .bl b => .bl b
  | _, _, .int i => .int i
  | _, _, .str x => .str x
  | _, _, .tup h z n l => .tup (e.keep _ _ h n) z (e.out h n) (RepL.ex e l)
  | _, _, .tupK a b z c d f l => .tupK a b z c d f (RepL.ex e l)
  | _, _, .lst h n l => .lst (e.keep _ _ h n) (e.out h n) (RepL.ex e l)
  | _, _, .tupP h n l => .tupP (e.keep _ _ h n) (e.out h n) (RepL.ex e l)
  | _, _, .dct h n l => .dct (e.keep _ _ h n) (e.out h n) (RepK.ex e l)
  | _, _, .scr h n => .scr (e.keep _ _ h n) (e.out h n)
  | _, _, .scrK a b c d f g => .scrK a b c d f g
  | _, _, .ref h => .ref (e.get h)
theorem RepL.ex {r r' : Rf} {H H' : Hp} (e : Ex r H r' H') : ∀ {v : List V} {d : List D}, RepL K r H v d → RepL K r' H' v d
  | _, _, .nil => .nil
  | _, _, .cons a b => .cons (Rep.ex e a) (RepL.ex e b)
theorem RepK.ex {r r' : Rf} {H H' : Hp} (e : Ex r H r' H') : ∀ {v : List (Key × V)} {d : List (Key × D)}, RepK K r H v d → RepK K r' H' v d
  | _, _, .nil => .nil
  | _, _, .cons a b => .cons (Rep.ex e a) (RepK.ex e b)
end
theorem Rep.ext {r r' : Rf} {H H' : Hp} {v : V} {d : D} (h : Rep K r H v d) (e : Ext r H r' H') : Rep K r' H' v d := h.ex e.toEx
theorem RepL.ext {r r' : Rf} {H H' : Hp} {v : List V} {d : List D} (h : RepL K r H v d) (e : Ext r H r' H') : RepL K r' H' v d := h.ex e.toEx
theorem RepK.ext {r r' : Rf} {H H' : Hp} {v : List (Key × V)} {d : List (Key × D)} (h : RepK K r H v d) (e : Ext r H r' H') : RepK K r' H' v d := h.ex e.toEx
theorem RepL.len {r : Rf} {H : Hp} : ∀ {v : List V} {d : List D}, RepL K r H v d → v.length = d.length
  | _, _, .nil => rfl
  | _, _, .cons _ b => by rw [List.length_cons, List.length_cons, RepL.len b]
theorem RepL.get {r : Rf} {H : Hp} : ∀ {vs : List V} {ds : List D}, RepL K r H vs ds → ∀ {i : Nat} {d : D}, ds[i]? = some d → ∃ v, vs[i]? = some v ∧ Rep K r H v d
  | _, _, .nil, i, d, h => by simp at h
  | _, _, .cons a b, 0, d, h => by
    have e := Option.some.inj h
    subst e
    exact ⟨_, rfl, a⟩
  | _, _, .cons a b, i + 1, d, h => RepL.get b (i := i) h
theorem RepL.append {r : Rf} {H : Hp} : ∀ {vs us : List V} {ds es : List D}, RepL K r H vs ds → RepL K r H us es → RepL K r H (vs ++ us) (ds ++ es)
  | _, _, _, _, .nil, q => q
  | _, _, _, _, .cons a b, q => .cons a (RepL.append b q)
theorem RepL.take {r : Rf} {H : Hp} : ∀ (n : Nat) {vs : List V} {ds : List D}, RepL K r H vs ds → RepL K r H (vs.take n) (ds.take n)
  | 0, _, _, _ => .nil
  | _ + 1, _, _, .nil => .nil
  | n + 1, _, _, .cons a b => .cons a (RepL.take n b)
theorem RepL.drop {r : Rf} {H : Hp} : ∀ (n : Nat) {vs : List V} {ds : List D}, RepL K r H vs ds → RepL K r H (vs.drop n) (ds.drop n)
  | 0, _, _, q => q
  | _ + 1, _, _, .nil => .nil
  | n + 1, _, _, .cons a b => RepL.drop n b
theorem RepL.ints {r : Rf} {H : Hp} : ∀ {vs : List V} {ns : List Int}, RepL K r H vs (ns.map D.int) → vs = ns.map V.int
  | _, [], .nil => rfl
  | _, n :: r, .cons (.int _) b => by rw [List.map_cons, RepL.ints b]
theorem RepL.ofInts {r : Rf} {H : Hp} : ∀ (ns : List Int), RepL K r H (ns.map V.int) (ns.map D.int)
  | [] => .nil
  | n :: r => .cons (.int n) (RepL.ofInts r)
/-- the table of the code of the def x stands at a -/
def TbAt (K : PySem.W.Frag) (x : Str) (a : Addr) : Prop := ∃ (f c : Addr) (o : Obj) (fd : FuncData) (e : Value) (dd : Option Addr) (vs : Array Value) (sl : Array (Option Value)), PySem.W.nsIn K mainGlobals x = some (some (.ref f)) ∧ K.lookup f = some o ∧ o.data = .func fd ∧ fd.code = .ref c ∧ K.lookup c = some ⟨e, dd, .fields vs, sl⟩ ∧ vs[11]? = some (.ref a)
def qn (x : Str) : Str := (x ++ Str.ofString ".<locals>.") ++ Str.ofString "<lambda>"
/-- each code object that the table at a tells bears the name q -/
def TabR (r : Rf) (H : Hp) (a : Addr) (q : Str) : Prop := ∃ ps : Array Value, H a = some (.tbl ps) ∧ TriplesOk ps.toList ∧ ∀ (pos : Pos) (cv : Value), codeAmong pos ps.toList = some cv → ∃ c, cv = .ref c ∧ H c = some (LamX.CodeO c q) ∧ ¬ r.av c
theorem TabR.ex {r r' : Rf} {H H' : Hp} (e : Ex r H r' H') {a : Addr} {q : Str} (k : H' a = H a) (t : TabR r H a q) : TabR r' H' a q := by
  obtain ⟨ps, h1, h2, h3⟩ := t
  refine ⟨ps, k.trans h1, h2, fun pos cv hc => ?_⟩
  obtain ⟨c, rfl, h4, h5⟩ := h3 pos cv hc
  exact ⟨c, rfl, e.keep _ _ h4 h5, e.out h4 h5⟩
/-- the store is held -/
def ObR (K : PySem.W.Frag) (r : Rf) (H : Hp) (a : Addr) : Ob → Prop
  | .dead => True
  | .dct kvs => r.av a ∧ ∃ xs, H a = some (.dK xs) ∧ RepK K r H xs kvs
  | .lst ds => r.av a ∧ ∃ xs, H a = some (.lst xs) ∧ RepL K r H xs ds
  | .ldc kvs => r.av a ∧ r.lk a ∧ ∃ o xs, H a = some (.frz o (.dK xs)) ∧ RepK K r H xs kvs
  | .ins c fs => r.av a ∧ ∃ (C dx : Addr) (vs : List (Str × V)), PySem.W.nsIn K mainGlobals c = some (some (.ref C)) ∧ H a = some (.ins C dx vs) ∧ vs.map (·.1) = fs.map (·.1) ∧ RepL K r H (vs.map (·.2)) (fs.map (·.2))
  | .st ns => r.av a ∧ ∃ (w : World) (n : Nat), H a = some (SetO w a (fun j => decide (j ∈ ns)) n)
  | .tb x => r.av a ∧ TbAt K x a ∧ TabR r H a (qn x)
theorem ObR.ex {r r' : Rf} {H H' : Hp} (e : Ex r H r' H') {a : Addr} (k : r.av a → H' a = H a ∧ r'.av a) (kl : r.lk a → r'.lk a := by exact fun z => z) : ∀ {o : Ob}, ObR K r H a o → ObR K r' H' a o
  | .dead, _ => trivial
  | .dct _, ⟨v, xs, h, l⟩ => ⟨(k v).2, xs, (k v).1.trans h, l.ex e⟩
  | .lst _, ⟨v, xs, h, l⟩ => ⟨(k v).2, xs, (k v).1.trans h, l.ex e⟩
  | .ldc _, ⟨v, w, o, xs, h, l⟩ => ⟨(k v).2, kl w, o, xs, (k v).1.trans h, l.ex e⟩
  | .ins _ _, ⟨v, C, dx, vs, g, h, n, l⟩ => ⟨(k v).2, C, dx, vs, g, (k v).1.trans h, n, l.ex e⟩
  | .st _, ⟨v, w, n, h⟩ => ⟨(k v).2, w, n, (k v).1.trans h⟩
  | .tb _, ⟨v, t, h⟩ => ⟨(k v).2, t, h.ex e (k v).1⟩
structure Sim (K : PySem.W.Frag) (r : Rf) (H : Hp) (st : Store) : Prop where
  len : r.adr.length = st.length
  nd : r.adr.Nodup
  ob : ∀ (n : Nat) (a : Addr) (o : Ob), r.adr[n]? = some a → st[n]? = some o → ObR K r H a o
  there : ∀ p, r.av p → ∃ o, H p = some o
  old : ∀ a ∈ r.adr, ∃ o, H a = some o
  lkd : ∀ p, r.lk p → ∃ o u, H p = some (.frz o u)
theorem Sim.same {r : Rf} {H H' : Hp} {st : Store} (s : Sim K r H st) (e : Same H H') : Sim K r H' st :=
  ⟨s.len, s.nd, fun n a o h1 h2 => (s.ob n a o h1 h2).ex (Ex.same r e) (fun v => by
    obtain ⟨h, z⟩ := s.there a v
    exact ⟨by rw [z]; exact e a h z, v⟩), fun p v => let ⟨o, h⟩ := s.there p v; ⟨o, e p o h⟩, fun p v => let ⟨o, h⟩ := s.old p v; ⟨o, e p o h⟩, fun p v => let ⟨o, u, h⟩ := s.lkd p v; ⟨o, u, e p _ h⟩⟩
theorem Sim.ext {r : Rf} {H H' : Hp} {st : Store} (s : Sim K r H st) (e : Same H H') : Ext r H r H' := Ext.same r e s.there s.lkd
/-- the locals -/
structure EnvR (K : PySem.W.Frag) (r : Rf) (H : Hp) (env : Lo) (σ : L2.St) : Prop where
  len : env.length = σ.length
  at_ : ∀ (i : Nat) (d : D), env[i]? = some (some d) → ∃ v, σ[i]? = some (some v) ∧ Rep K r H v d
theorem EnvR.ext {r r' : Rf} {H H' : Hp} {env : Lo} {σ : L2.St} (h : EnvR K r H env σ) (e : Ext r H r' H') : EnvR K r' H' env σ :=
  ⟨h.len, fun i d q => let ⟨v, a, b⟩ := h.at_ i d q; ⟨v, a, b.ext e⟩⟩
theorem EnvR.set {r : Rf} {H : Hp} {env : Lo} {σ : L2.St} (h : EnvR K r H env σ) {v : V} {d : D} (q : Rep K r H v d) (i : Nat) : EnvR K r H (env.set i (some d)) (σ.set i (some v)) := by
  refine ⟨by rw [List.length_set, List.length_set]; exact h.len, fun j c e => ?_⟩
  by_cases z : i = j
  · subst z
    by_cases hi : i < env.length
    · rw [List.getElem?_set_self hi] at e
      cases e
      exact ⟨v, by rw [List.getElem?_set_self (by rw [← h.len]; exact hi)], q⟩
    · rw [List.getElem?_eq_none (by rw [List.length_set]; omega)] at e
      cases e
  · rw [List.getElem?_set_ne z] at e
    obtain ⟨u, a, b⟩ := h.at_ j c e
    exact ⟨u, by rw [List.getElem?_set_ne z]; exact a, b⟩
/-- a slot forgotten on both sides -/
theorem EnvR.wipe {r : Rf} {H : Hp} {env : Lo} {σ : L2.St} (h : EnvR K r H env σ) (i : Nat) : EnvR K r H (env.set i none) (σ.set i none) := by
  refine ⟨by rw [List.length_set, List.length_set]; exact h.len, fun j c e => ?_⟩
  by_cases z : i = j
  · subst z
    by_cases hi : i < env.length
    · rw [List.getElem?_set_self hi] at e
      cases e
    · rw [List.getElem?_eq_none (by rw [List.length_set]; omega)] at e
      cases e
  · rw [List.getElem?_set_ne z] at e
    obtain ⟨u, a, b⟩ := h.at_ j c e
    exact ⟨u, by rw [List.getElem?_set_ne z]; exact a, b⟩
/-! ### judgements -/
abbrev F := Lo → Store → Option (D × Store)
abbrev FT := Lo → Store → Option (Bool × Store)
abbrev FA := Lo → Store → Option (List D × Store)
def tD (K : PySem.W.Frag) (f : F) : TE := fun σ H Q => ∃ r env st d st', EnvR K r H env σ ∧ Sim K r H st ∧ f env st = some (d, st') ∧ ∀ v r' H', Ext r H r' H' → Sim K r' H' st' → Rep K r' H' v d → Q v H'
def tT (K : PySem.W.Frag) (f : FT) : TT := fun σ H Q => ∃ r env st b st', EnvR K r H env σ ∧ Sim K r H st ∧ f env st = some (b, st') ∧ ∀ r' H', Ext r H r' H' → Sim K r' H' st' → Q b H'
def tA (K : PySem.W.Frag) (f : FA) : TA := fun σ H Q => ∃ r env st ds st', EnvR K r H env σ ∧ Sim K r H st ∧ f env st = some (ds, st') ∧ ∀ vs r' H', Ext r H r' H' → Sim K r' H' st' → RepL K r' H' vs ds → Q vs H'
abbrev DE (X : Cx) (e : Expr) (f : F) : Prop := PE X e (tD X.K f)
abbrev DT (X : Cx) (e : Expr) (f : FT) : Prop := PT X e (tT X.K f)
abbrev DA (X : Cx) (es : List Expr) (f : FA) : Prop := PA X es (tA X.K f)
section
variable {X : Cx}
theorem weakE {e : Expr} {t t' : TE} (h : PE X e t) (i : ∀ σ H Q, t' σ H Q → t σ H Q) : PE X e t' := ⟨fun pins s σ H Q I q => h.run pins s σ H Q I (i σ H Q q)⟩
theorem weakT {e : Expr} {t t' : TT} (h : PT X e t) (i : ∀ σ H Q, t' σ H Q → t σ H Q) : PT X e t' := ⟨fun pins s σ H Q I q => h.run pins s σ H Q I (i σ H Q q)⟩
theorem weakA {e : List Expr} {t t' : TA} (h : PA X e t) (i : ∀ σ H Q, t' σ H Q → t σ H Q) : PA X e t' := ⟨fun pos pins s σ H Q I q => h.run pos pins s σ H Q I (i σ H Q q)⟩
theorem weakS {e : Stmt} {t t' : TS} (h : PS X e t) (i : ∀ D σ H, t' D σ H → t D σ H) : PS X e t' := ⟨fun pins s σ H D I q => h.run pins s σ H D I (i D σ H q)⟩
theorem weakSs {e : List Stmt} {t t' : TS} (h : PSs X e t) (i : ∀ D σ H, t' D σ H → t D σ H) : PSs X e t' := ⟨fun pins s σ H D I q => h.run pins s σ H D I (i D σ H q)⟩
/-- what a context must bear -/
structure GX (X : Cx) (k : Nat) : Prop where
  calm : X.calm = true
  nd : X.N.Nodup
  room : Room k X.A
  gd : X.A.guards = some []
/-! ### names, constants -/
def fVar (i : Nat) : F := fun env st => match env[i]? with | some (some d) => some (d, st) | _ => none
def fC (d : D) : F := fun _ st => some (d, st)
theorem de_var (i : Nat) {x : Str} {pos : Pos} (hN : X.N[i]? = some x := by rfl) (hv : Vis X.env.scope x := by first | exact Or.inl rfl | exact Or.inr (Or.inl rfl) | exact Or.inr (Or.inr rfl)) (hd : (x == ("__debug__" : Str)) = false := by decide)
    (hcd : (x == ("__classdict__" : Str)) = false := by decide) : DE X (.Name x pos) (fVar i) := weakE (pe_var hN hv hd hcd) fun σ H Q h => by
  obtain ⟨r, env, st, d, st', he, hs, hf, q⟩ := h
  unfold fVar at hf
  split at hf
  · rename_i d' hd'
    cases hf
    obtain ⟨v, a, b⟩ := he.at_ i _ hd'
    exact ⟨v, a, q v r H (.refl r H) hs b⟩
  · cases hf
theorem de_c {e : Expr} {v : V} {d : D} (h : PE X e (tC v)) (q : ∀ r H, Rep X.K r H v d) : DE X e (fC d) := weakE h fun σ H Q hh => by
  obtain ⟨r, env, st, d', st', he, hs, hf, k⟩ := hh
  cases hf
  exact k v r H (.refl r H) hs (q r H)
theorem de_int {i j pos} : DE X (.Constant (.int i) j pos) (fC (.int i)) := de_c pe_int fun _ _ => .int i
theorem de_bl {i j pos} : DE X (.Constant (.bool i) j pos) (fC (.bl i)) := de_c pe_bl fun _ _ => .bl i
theorem de_non {j pos} : DE X (.Constant .none j pos) (fC .non) := de_c pe_non fun _ _ => .non
theorem de_str {i j pos} : DE X (.Constant (.str i) j pos) (fC (.str i)) := de_c pe_str fun _ _ => .str i
/-! ### two values -/
def OpOk (X : Cx) (f : Value → Value → Sem Value) (g : D → D → Option D) : Prop :=
  ∃ r : R2, OpR X f r ∧ ∀ (rho : Rf) (H : Hp) (x y : V) (a b d : D) (st : Store) (Q : VK), Sim X.K rho H st → Rep X.K rho H x a → Rep X.K rho H y b → g a b = some d → (∀ v H', Same H H' → Rep X.K rho H' v d → Q v H') → r x y H Q
def fOp (g : D → D → Option D) (fa fb : F) : F := fun env st => (fa env st).bind fun p => (fb env p.2).bind fun q => (g p.1 q.1).map fun d => (d, q.2)
theorem fOp_some {g : D → D → Option D} {fa fb : F} {env : Lo} {st : Store} {z : D × Store} (h : fOp g fa fb env st = some z) : ∃ x s1 y s2 d, fa env st = some (x, s1) ∧ fb env s1 = some (y, s2) ∧ g x y = some d ∧ z = (d, s2) := by
  unfold fOp at h
  obtain ⟨⟨x, s1⟩, h1, h⟩ := Option.bind_eq_some_iff.mp h
  obtain ⟨⟨y, s2⟩, h2, h⟩ := Option.bind_eq_some_iff.mp h
  obtain ⟨d, h3, h⟩ := Option.map_eq_some_iff.mp h
  exact ⟨x, s1, y, s2, d, h1, h2, h3, h.symm⟩
/-- the reading of two data expressions in a row -/
theorem two {fa fb : F} {σ : L2.St} {H : Hp} {Q : V → V → Hp → Prop} {r : Rf} {env : Lo} {st s1 s2 : Store} {x y : D} (he : EnvR K r H env σ) (hs : Sim K r H st) (h1 : fa env st = some (x, s1)) (h2 : fb env s1 = some (y, s2))
    (k : ∀ u v r' H', Ext r H r' H' → Sim K r' H' s2 → Rep K r' H' u x → Rep K r' H' v y → Q u v H') : tD K fa σ H fun u H1 => tD K fb σ H1 fun v H2 => Q u v H2 :=
  ⟨r, env, st, x, s1, he, hs, h1, fun u r1 H1 e1 q1 p1 => ⟨r1, env, s1, y, s2, he.ext e1, q1, h2, fun v r2 H2 e2 q2 p2 => k u v r2 H2 (e1.trans e2) q2 (p1.ext e2) p2⟩⟩
theorem opReads {f : Value → Value → Sem Value} {g : D → D → Option D} {r : R2} (k : ∀ (rho : Rf) (H : Hp) (x y : V) (a b d : D) (st : Store) (Q : VK), Sim K rho H st → Rep K rho H x a → Rep K rho H y b → g a b = some d → (∀ v H', Same H H' → Rep K rho H' v d → Q v H') → r x y H Q)
    {fa fb : F} (σ : L2.St) (H : Hp) (Q : VK) (h : tD K (fOp g fa fb) σ H Q) : tOp r (tD K fa) (tD K fb) σ H Q := by
  obtain ⟨rho, env, st, d, st', he, hs, hf, q⟩ := h
  obtain ⟨x, s1, y, s2, d', h1, h2, h3, e⟩ := fOp_some hf
  cases e
  exact two he hs h1 h2 fun u v r' H' e1 q1 pu pv => k r' H' u v x y d _ Q q1 pu pv h3 fun w H2 sm pw => q w r' H2 (e1.trans (q1.ext sm)) (q1.same sm) pw
theorem de_op {op : Operator} {g : D → D → Option D} {a b : Expr} {fa fb : F} {pos : Pos} (ho : OpOk X (binaryOp op) g) (ha : DE X a fa) (hb : DE X b fb) : DE X (.BinOp a op b pos) (fOp g fa fb) := by
  obtain ⟨r, hr, k⟩ := ho
  exact weakE (pe_op hr ha hb) fun σ H Q h => opReads (f := binaryOp op) k σ H Q h
theorem de_cmp {op : CmpOp} {g : D → D → Option D} {a b : Expr} {fa fb : F} {pos : Pos} (ho : OpOk X (compareOp op) g) (ha : DE X a fa) (hb : DE X b fb) (hm : behindInMarks op b = false := by with_unfolding_all rfl) : DE X (.Compare a [op] [b] pos) (fOp g fa fb) := by
  obtain ⟨r, hr, k⟩ := ho
  exact weakE (pe_cmpR hr ha hb hm) fun σ H Q h => opReads (f := compareOp op) k σ H Q h
end
end DL
namespace DL
abbrev WXd := PySem.Value → Option PySem.Addr → L2.St → L2.Hp → Prop
open PySem PySem.Spec PyProof.Rows L2
variable {K : PySem.W.Frag}
/-! ### arguments, displays -/
def aNil : FA := fun _ st => some ([], st)
def aCons (f : F) (g : FA) : FA := fun env st => (f env st).bind fun p => (g env p.2).map fun q => (p.1 :: q.1, q.2)
theorem aCons_some {f : F} {g : FA} {env : Lo} {st : Store} {z : List D × Store} (h : aCons f g env st = some z) : ∃ x s1 ys s2, f env st = some (x, s1) ∧ g env s1 = some (ys, s2) ∧ z = (x :: ys, s2) := by
  unfold aCons at h
  obtain ⟨⟨x, s1⟩, h1, h⟩ := Option.bind_eq_some_iff.mp h
  obtain ⟨⟨y, s2⟩, h2, h⟩ := Option.map_eq_some_iff.mp h
  exact ⟨x, s1, y, s2, h1, h2, h.symm⟩
section
variable {X : Cx} {W : WXd}
theorem da_nil : DA X [] aNil := weakA pa_nil fun σ H Q h => by
  obtain ⟨r, env, st, ds, st', he, hs, hf, q⟩ := h
  cases hf
  exact q [] r H (.refl r H) hs .nil
theorem da_cons {e : Expr} {es : List Expr} {f : F} {g : FA} (h : DE X e f) (t : DA X es g) (hs : starEach (e :: es) X.env = (false, eval e X.env) :: starEach es X.env := by rfl) : DA X (e :: es) (aCons f g) :=
  weakA (pa_cons h t hs) fun σ H Q hh => by
  obtain ⟨r, env, st, ds, st', he, hs, hf, q⟩ := hh
  obtain ⟨x, s1, ys, s2, h1, h2, e⟩ := aCons_some hf
  cases e
  exact ⟨r, env, st, x, s1, he, hs, h1, fun u r1 H1 e1 q1 p1 => ⟨r1, env, s1, ys, _, he.ext e1, q1, h2, fun us r2 H2 e2 q2 p2 => q (u :: us) r2 H2 (e1.trans e2) q2 (.cons (p1.ext e2) p2)⟩⟩
/-- a value made of the values of several expressions -/
def fMk (g : List D → Store → Option D) (fa : FA) : F := fun env st => (fa env st).bind fun p => (g p.1 p.2).map fun d => (d, p.2)
theorem fMk_some {g : List D → Store → Option D} {fa : FA} {env : Lo} {st : Store} {z : D × Store} (h : fMk g fa env st = some z) : ∃ xs s1 d, fa env st = some (xs, s1) ∧ g xs s1 = some d ∧ z = (d, s1) := by
  unfold fMk at h
  obtain ⟨⟨x, s1⟩, h1, h⟩ := Option.bind_eq_some_iff.mp h
  obtain ⟨d, h2, h⟩ := Option.map_eq_some_iff.mp h
  exact ⟨x, s1, d, h1, h2, h.symm⟩
/-- values in, a value out, new objects at most -/
def ArgOk (K : PySem.W.Frag) (r : List V → Hp → VK → Prop) (g : List D → Store → Option D) : Prop :=
  ∀ (rho : Rf) (H : Hp) (xs : List V) (ds : List D) (d : D) (st : Store) (Q : VK), RepL K rho H xs ds → Sim K rho H st → g ds st = some d → (∀ v H', Same H H' → Rep K rho H' v d → Q v H') → r xs H Q
theorem argReads {r : List V → Hp → VK → Prop} {g : List D → Store → Option D} (k : ArgOk K r g) {fa : FA} (σ : L2.St) (H : Hp) (Q : VK) (h : tD K (fMk g fa) σ H Q) : tA K fa σ H fun vs H1 => r vs H1 Q := by
  obtain ⟨rho, env, st, d, st', he, hs, hf, q⟩ := h
  obtain ⟨xs, s1, d', h1, h2, e⟩ := fMk_some hf
  cases e
  exact ⟨rho, env, st, xs, _, he, hs, h1, fun us r1 H1 e1 q1 p1 => k r1 H1 us xs d _ Q p1 q1 h2 fun v H2 sm pv => q v r1 H2 (e1.trans (q1.ext sm)) (q1.same sm) pv⟩
/-- a new object that no value is -/
theorem Sim.free {r : Rf} {H : Hp} {st : Store} (s : Sim K r H st) {p : Addr} (h : H p = none) : ¬ r.av p := fun z => by
  obtain ⟨o, e⟩ := s.there p z
  rw [h] at e; cases e
def mkTup (ds : List D) (_ : Store) : Option D := if ds.length ≤ sizeLine then some (.tup ds) else none
def mkLst (ds : List D) (_ : Store) : Option D := if ds.length ≤ sizeLine then some (.lst ds) else none
theorem de_tup {es : List Expr} {fa : FA} {x1 : Nat} {pos : Pos} (h : DA X es fa) : DE X (.Tuple es x1 pos) (fMk mkTup fa) :=
  weakE (pe_tupF h) fun σ H Q hh => argReads (r := fun xs H1 Q => xs.length ≤ sizeLine ∧ Fz Q H1 xs) (fun rho H xs ds d st Q hr hs hg k => by
    unfold mkTup at hg
    split at hg
    · rename_i hl
      cases hg
      refine ⟨by rw [hr.len]; exact hl, fun p o hp hz => k _ _ (same_alloc hp) (.tup upd_same hz (hs.free hp) (hr.ex (Ex.same rho (same_alloc hp))))⟩
    · cases hg) σ H Q hh
theorem de_lst {es : List Expr} {fa : FA} {pos : Pos} (h : DA X es fa) : DE X (.List es pos) (fMk mkLst fa) :=
  weakE (pe_lst h) fun σ H Q hh => argReads (r := fun xs H1 Q => xs.length ≤ sizeLine ∧ ∀ p, H1 p = none → Q (.ref p) (upd H1 p (.lst xs))) (fun rho H xs ds d st Q hr hs hg k => by
    unfold mkLst at hg
    split at hg
    · rename_i hl
      cases hg
      refine ⟨by rw [hr.len]; exact hl, fun p hp => k _ _ (same_alloc hp) (.lst upd_same (hs.free hp) (hr.ex (Ex.same rho (same_alloc hp))))⟩
    · cases hg) σ H Q hh
/-- a call of a built-in -/
def CallOk (X : Cx) (f : Value) (g : List D → Store → Option D) : Prop := ∃ r, CallR X f r ∧ ArgOk X.K r g
theorem de_callB {id : String} {x : Str} {g : List D → Store → Option D} {fa : FA} {e : Expr} {es : List Expr} {p pos : Pos} (ho : CallOk X (.builtin id) g) (hg : Gl X x) (hm : X.mg x = none) (hv : bootBuiltins x = some (.builtin id)) (ha : DA X (e :: es) fa) (hn : x ≠ "__name__" := by decide) (hdb : (x == ("__debug__" : Str)) = false := by decide)
    (he : starEach (e :: es) X.env = (false, eval e X.env) :: starEach es X.env := by rfl) (hpl : (backTo pos (starEach es X.env)).any (·.1) = false := by rfl) : DE X (.Call (.Name x p) (e :: es) [] pos) (fMk g fa) := by
  obtain ⟨r, hr, k⟩ := ho
  exact weakE (pe_callB hr hg hm hv ha hn hdb he hpl) fun σ H Q h => argReads k σ H Q h
theorem de_callTy {T : String} {x : Str} {g : List D → Store → Option D} {fa : FA} {e : Expr} {es : List Expr} {p pos : Pos} (ho : CallOk X (.type T) g) (hg : Gl X x) (hm : X.mg x = none) (hv : bootBuiltins x = some (.type T)) (ha : DA X (e :: es) fa) (hn : x ≠ "__name__" := by decide) (hdb : (x == ("__debug__" : Str)) = false := by decide)
    (he : starEach (e :: es) X.env = (false, eval e X.env) :: starEach es X.env := by rfl) (hpl : (backTo pos (starEach es X.env)).any (·.1) = false := by rfl) : DE X (.Call (.Name x p) (e :: es) [] pos) (fMk g fa) := by
  obtain ⟨r, hr, k⟩ := ho
  exact weakE (pe_callTy hr hg hm hv ha hn hdb he hpl) fun σ H Q h => argReads k σ H Q h
/-! ### tests, and, or, not -/
def asB : D → Option Bool | .bl b => some b | _ => none
def fTest (f : F) : FT := fun env st => (f env st).bind fun p => (asB p.1).map fun b => (b, p.2)
theorem fTest_some {f : F} {env : Lo} {st : Store} {z : Bool × Store} (h : fTest f env st = some z) : f env st = some (.bl z.1, z.2) := by
  unfold fTest at h
  obtain ⟨⟨x, s1⟩, h1, h⟩ := Option.bind_eq_some_iff.mp h
  obtain ⟨b, h2, h⟩ := Option.map_eq_some_iff.mp h
  cases x with
  | bl c => cases h2; subst h; exact h1
  | _ => cases h2
theorem testReads {f : F} (σ : L2.St) (H : Hp) (Q : Bool → Hp → Prop) (h : tT K (fTest f) σ H Q) : tD K f σ H fun x H1 => ∃ c, x = .bl c ∧ Q c H1 := by
  obtain ⟨r, env, st, b, st', he, hs, hf, q⟩ := h
  exact ⟨r, env, st, _, _, he, hs, fTest_some hf, fun v r1 H1 e1 q1 p1 => by
    cases p1
    exact ⟨b, rfl, q r1 H1 e1 q1⟩⟩
theorem dt_val {e : Expr} {f : F} (h : DE X e f) (he : ∀ whole, isTrue e X.env whole = (do let v ← whole; standAt e.pos; holding [v] (truthy v)) := by intro _; rfl) : DT X e (fTest f) := weakT (pt_val h he) fun σ H Q hh => testReads σ H Q hh
theorem dt_cmp {op : CmpOp} {g : D → D → Option D} {a b : Expr} {fa fb : F} {pos : Pos} (ho : OpOk X (compareOp op) g) (ha : DE X a fa) (hb : DE X b fb) (hm : behindInMarks op b = false := by with_unfolding_all rfl) : DT X (.Compare a [op] [b] pos) (fTest (fOp g fa fb)) := by
  obtain ⟨r, hr, k⟩ := ho
  exact weakT (pt_cmpR hr ha hb hm) fun σ H Q h => opReads (f := compareOp op) k σ H (fun x H1 => ∃ c, x = .bl c ∧ Q c H1) (testReads σ H Q h)
def fNotT (f : FT) : FT := fun env st => (f env st).map fun p => (!p.1, p.2)
theorem dt_not {e : Expr} {f : FT} {pos : Pos} (h : DT X e f) : DT X (.UnaryOp .Not e pos) (fNotT f) := weakT (pt_not h) fun σ H Q hh => by
  obtain ⟨r, env, st, b, st', he, hs, hf, q⟩ := hh
  obtain ⟨⟨c, s1⟩, h1, h2⟩ := Option.map_eq_some_iff.mp hf
  cases h2
  exact ⟨r, env, st, c, _, he, hs, h1, q⟩
def fAndT (f g : FT) : FT := fun env st => (f env st).bind fun p => if p.1 = true then g env p.2 else some (false, p.2)
def fOrT (f g : FT) : FT := fun env st => (f env st).bind fun p => if p.1 = true then some (true, p.2) else g env p.2
/-- a test whatever the whole is -/
abbrev DW (X : Cx) (e : Expr) (f : FT) : Prop := PW X e (tT X.K f)
theorem weakW {e : Expr} {t t' : TT} (h : PW X e t) (i : ∀ σ H Q, t' σ H Q → t σ H Q) : PW X e t' := ⟨fun wh pins s σ H Q I q => h.run wh pins s σ H Q I (i σ H Q q)⟩
theorem dw_and1 {a : Expr} {f : FT} {pos : Pos} (h : DT X a f) : DW X (.BoolOp .And [a] pos) f := pw_and1 h
theorem dw_or1 {a : Expr} {f : FT} {pos : Pos} (h : DT X a f) : DW X (.BoolOp .Or [a] pos) f := pw_or1 h
theorem dw_and {a b : Expr} {rest : List Expr} {f g : FT} {pos : Pos} (ha : DT X a f) (hb : DW X (.BoolOp .And (b :: rest) pos) g) : DW X (.BoolOp .And (a :: b :: rest) pos) (fAndT f g) := weakW (pw_and ha hb) fun σ H Q hh => by
  obtain ⟨r, env, st, b, st', he, hs, hf, q⟩ := hh
  obtain ⟨⟨c, s1⟩, h1, h2⟩ := Option.bind_eq_some_iff.mp hf
  refine ⟨r, env, st, c, s1, he, hs, h1, fun r1 H1 e1 q1 => ?_⟩
  cases c with
  | true => exact ⟨r1, env, s1, b, st', he.ext e1, q1, h2, fun r2 H2 e2 q2 => q r2 H2 (e1.trans e2) q2⟩
  | false =>
    cases h2
    exact q r1 H1 e1 q1
theorem dw_or {a b : Expr} {rest : List Expr} {f g : FT} {pos : Pos} (ha : DT X a f) (hb : DW X (.BoolOp .Or (b :: rest) pos) g) : DW X (.BoolOp .Or (a :: b :: rest) pos) (fOrT f g) := weakW (pw_or ha hb) fun σ H Q hh => by
  obtain ⟨r, env, st, b, st', he, hs, hf, q⟩ := hh
  obtain ⟨⟨c, s1⟩, h1, h2⟩ := Option.bind_eq_some_iff.mp hf
  refine ⟨r, env, st, c, s1, he, hs, h1, fun r1 H1 e1 q1 => ?_⟩
  cases c with
  | false => exact ⟨r1, env, s1, b, st', he.ext e1, q1, h2, fun r2 H2 e2 q2 => q r2 H2 (e1.trans e2) q2⟩
  | true =>
    cases h2
    exact q r1 H1 e1 q1
theorem dt_w {e : Expr} {f : FT} (h : DW X e f) : DT X e f := h.pt
/-- as values: bools alone -/
def fAnd (f g : F) : F := fun env st => (f env st).bind fun p => (asB p.1).bind fun b => if b = true then g env p.2 else some (.bl false, p.2)
def fOr (f g : F) : F := fun env st => (f env st).bind fun p => (asB p.1).bind fun b => if b = true then some (.bl true, p.2) else g env p.2
def fNot (f : F) : F := fun env st => (f env st).bind fun p => (asB p.1).map fun b => (.bl (!b), p.2)
theorem asB_some {d : D} {b : Bool} (h : asB d = some b) : d = .bl b := by
  cases d with
  | bl c => cases h; rfl
  | _ => cases h
theorem de_one {a : Expr} {op} {f : F} {pos : Pos} (h : DE X a f) : DE X (.BoolOp op [a] pos) f := pe_one h
theorem de_and {a b : Expr} {rest : List Expr} {f g : F} {pos : Pos} (ha : DE X a f) (hb : DE X (.BoolOp .And (b :: rest) pos) g) : DE X (.BoolOp .And (a :: b :: rest) pos) (fAnd f g) := weakE (pe_and ha hb) fun σ H Q hh => by
  obtain ⟨r, env, st, d, st', he, hs, hf, q⟩ := hh
  obtain ⟨⟨x, s1⟩, h1, h2⟩ := Option.bind_eq_some_iff.mp hf
  obtain ⟨c, h3, h4⟩ := Option.bind_eq_some_iff.mp h2
  have e := asB_some h3
  subst e
  refine ⟨r, env, st, .bl c, s1, he, hs, h1, fun u r1 H1 e1 q1 p1 => ?_⟩
  cases p1
  refine ⟨c, rfl, ?_⟩
  cases c with
  | true => exact ⟨r1, env, s1, d, st', he.ext e1, q1, h4, fun v r2 H2 e2 q2 p2 => q v r2 H2 (e1.trans e2) q2 p2⟩
  | false =>
    cases h4
    exact q _ r1 H1 e1 q1 (.bl false)
theorem de_or {a b : Expr} {rest : List Expr} {f g : F} {pos : Pos} (ha : DE X a f) (hb : DE X (.BoolOp .Or (b :: rest) pos) g) : DE X (.BoolOp .Or (a :: b :: rest) pos) (fOr f g) := weakE (pe_or ha hb) fun σ H Q hh => by
  obtain ⟨r, env, st, d, st', he, hs, hf, q⟩ := hh
  obtain ⟨⟨x, s1⟩, h1, h2⟩ := Option.bind_eq_some_iff.mp hf
  obtain ⟨c, h3, h4⟩ := Option.bind_eq_some_iff.mp h2
  have e := asB_some h3
  subst e
  refine ⟨r, env, st, .bl c, s1, he, hs, h1, fun u r1 H1 e1 q1 p1 => ?_⟩
  cases p1
  refine ⟨c, rfl, ?_⟩
  cases c with
  | false => exact ⟨r1, env, s1, d, st', he.ext e1, q1, h4, fun v r2 H2 e2 q2 p2 => q v r2 H2 (e1.trans e2) q2 p2⟩
  | true =>
    cases h4
    exact q _ r1 H1 e1 q1 (.bl true)
def fIfE (t : FT) (f g : F) : F := fun env st => (t env st).bind fun p => if p.1 = true then f env p.2 else g env p.2
theorem de_if {c a b : Expr} {t : FT} {f g : F} {pos : Pos} (hc : DT X c t) (ha : DE X a f) (hb : DE X b g) : DE X (.IfExp c a b pos) (fIfE t f g) := weakE (pe_ifExp hc ha hb) fun σ H Q hh => by
  obtain ⟨r, env, st, d, st', he, hs, hf, q⟩ := hh
  obtain ⟨⟨c, s1⟩, h1, h2⟩ := Option.bind_eq_some_iff.mp hf
  refine ⟨r, env, st, c, s1, he, hs, h1, fun r1 H1 e1 q1 => ?_⟩
  cases c with
  | true => exact ⟨r1, env, s1, d, st', he.ext e1, q1, h2, fun v r2 H2 e2 q2 p2 => q v r2 H2 (e1.trans e2) q2 p2⟩
  | false => exact ⟨r1, env, s1, d, st', he.ext e1, q1, h2, fun v r2 H2 e2 q2 p2 => q v r2 H2 (e1.trans e2) q2 p2⟩
/-- a op b op' c -/
def fChain (g g' : D → D → Option D) (fa fb fc : F) : F := fun env st => (fa env st).bind fun p => (fb env p.2).bind fun q => (g p.1 q.1).bind fun z => (asB z).bind fun k =>
  if k = true then (fc env q.2).bind fun w => (g' q.1 w.1).map fun d => (d, w.2) else some (.bl false, q.2)
theorem chainReads {r r' : R2} {g g' : D → D → Option D}
    (k : ∀ (rho : Rf) (H : Hp) (x y : V) (a b d : D) (st : Store) (Q : VK), Sim K rho H st → Rep K rho H x a → Rep K rho H y b → g a b = some d → (∀ v H', Same H H' → Rep K rho H' v d → Q v H') → r x y H Q)
    (k' : ∀ (rho : Rf) (H : Hp) (x y : V) (a b d : D) (st : Store) (Q : VK), Sim K rho H st → Rep K rho H x a → Rep K rho H y b → g' a b = some d → (∀ v H', Same H H' → Rep K rho H' v d → Q v H') → r' x y H Q)
    {fa fb fc : F} (σ : L2.St) (H : Hp) (Q : VK) (h : tD K (fChain g g' fa fb fc) σ H Q) : tChain r r' (tD K fa) (tD K fb) (tD K fc) σ H Q := by
  obtain ⟨rho, env, st, d, st', he, hs, hf, q⟩ := h
  obtain ⟨⟨x, s1⟩, h1, hf1⟩ := Option.bind_eq_some_iff.mp hf
  obtain ⟨⟨y, s2⟩, h2, hf2⟩ := Option.bind_eq_some_iff.mp hf1
  obtain ⟨z, h3, hf3⟩ := Option.bind_eq_some_iff.mp hf2
  obtain ⟨c, h4, hf4⟩ := Option.bind_eq_some_iff.mp hf3
  have e := asB_some h4
  subst e
  refine two he hs h1 h2 fun u v r1 H1 e1 q1 pu pv => k r1 H1 u v x y _ _ _ q1 pu pv h3 fun w H2 sm pw => ?_
  cases pw
  refine ⟨c, rfl, ?_⟩
  cases c with
  | false =>
    cases hf4
    exact q _ r1 H2 (e1.trans (q1.ext sm)) (q1.same sm) (.bl false)
  | true =>
    rw [if_pos rfl] at hf4
    obtain ⟨⟨w, s3⟩, h5, hf5⟩ := Option.bind_eq_some_iff.mp hf4
    obtain ⟨d', h6, hf6⟩ := Option.map_eq_some_iff.mp hf5
    cases hf6
    rw [if_pos rfl]
    have e2 : Ext rho H r1 H2 := e1.trans (q1.ext sm)
    refine ⟨r1, env, s2, w, _, he.ext e2, q1.same sm, h5, fun w' r3 H3 e3 q3 pw' => ?_⟩
    exact k' r3 H3 v w' y w _ _ _ q3 (pv.ext ((q1.ext sm).trans e3)) pw' h6 fun v4 H4 sm4 p4 => q v4 r3 H4 ((e2.trans e3).trans (q3.ext sm4)) (q3.same sm4) p4
theorem dt_chain {op op' : CmpOp} {g g' : D → D → Option D} {a b c : Expr} {fa fb fc : F} {pos : Pos} (ho : OpOk X (compareOp op) g) (ho' : OpOk X (compareOp op') g') (ha : DE X a fa) (hb : DE X b fb) (hc : DE X c fc)
    (hm : lastMarks [op, op'] [b, c] = false := by with_unfolding_all rfl) : DT X (.Compare a [op, op'] [b, c] pos) (fTest (fChain g g' fa fb fc)) := by
  obtain ⟨r, hr, k⟩ := ho
  obtain ⟨r', hr', k'⟩ := ho'
  exact weakT (pt_chain hr hr' ha hb hc hm) fun σ H Q h => chainReads k k' σ H (fun x H1 => ∃ c, x = .bl c ∧ Q c H1) (testReads σ H Q h)
/-! ### statements -/
inductive Out | nx | bk | ct | rt (d : D) | er (c f : Str) (d : D)
/-- an error of class c, its one field f -/
def ErrAt (K : PySem.W.Frag) (r : Rf) (H : Hp) (c f : Str) (d : D) (C dd : Addr) : Prop := PySem.W.nsIn K mainGlobals c = some (some (.ref C)) ∧ ∃ v, H dd = some (.xd [(f, v)]) ∧ Rep K r H v d
abbrev FS := Lo → Store → Option (Out × Lo × Store)
def OutOk (K : PySem.W.Frag) (W : WXd) (r : Rf) (H : Hp) (D' : Ends) (env' : Lo) (st' : Store) : Out → Prop
  | .nx => ∀ σ' r' H', Ext r H r' H' → EnvR K r' H' env' σ' → Sim K r' H' st' → D'.nx σ' H'
  | .bk => ∀ σ' r' H', Ext r H r' H' → EnvR K r' H' env' σ' → Sim K r' H' st' → D'.bk σ' H'
  | .ct => ∀ σ' r' H', Ext r H r' H' → EnvR K r' H' env' σ' → Sim K r' H' st' → D'.ct σ' H'
  | .rt d => ∀ v r' H', Ext r H r' H' → Sim K r' H' st' → Rep K r' H' v d → D'.rt v H'
  | .er c f d => ∀ σ' r' H' C dd, Ext r H r' H' → EnvR K r' H' env' σ' → Sim K r' H' st' → ErrAt K r' H' c f d C dd → W (.ref C) (some dd) σ' H'
theorem OutOk.ext {W : WXd} {r r1 : Rf} {H H1 : Hp} {D' : Ends} {env' : Lo} {st' : Store} (e : Ext r H r1 H1) : ∀ {o : Out}, OutOk K W r H D' env' st' o → OutOk K W r1 H1 D' env' st' o
  | .nx, h => fun σ' r' H' e' a b => h σ' r' H' (e.trans e') a b
  | .bk, h => fun σ' r' H' e' a b => h σ' r' H' (e.trans e') a b
  | .ct, h => fun σ' r' H' e' a b => h σ' r' H' (e.trans e') a b
  | .rt _, h => fun v r' H' e' a b => h v r' H' (e.trans e') a b
  | .er _ _ _, h => fun σ' r' H' C dd e' a b c => h σ' r' H' C dd (e.trans e') a b c
def tS (K : PySem.W.Frag) (W : WXd) (g : FS) : TS := fun D' σ H => ∃ r env st o env' st', EnvR K r H env σ ∧ Sim K r H st ∧ g env st = some (o, env', st') ∧ OutOk K W r H D' env' st' o
abbrev DS (X : Cx) (W : WXd) (st : Stmt) (g : FS) : Prop := PS X st (tS X.K W g)
abbrev DSs (X : Cx) (W : WXd) (st : List Stmt) (g : FS) : Prop := PSs X st (tS X.K W g)
def sNil : FS := fun env st => some (.nx, env, st)
def sSeq (g h : FS) : FS := fun env st => (g env st).bind fun p => match p with | (.nx, e1, s1) => h e1 s1 | q => some q
theorem ds_nil : DSs X W [] sNil := weakSs pss_nil fun D' σ H hh => by
  obtain ⟨r, env, st, o, env', st', he, hs, hf, q⟩ := hh
  cases hf
  exact q σ r H (.refl r H) he hs
theorem ds_one {s : Stmt} {g : FS} (h : DS X W s g) : DSs X W [s] g := pss_one h
theorem ds_cons {s : Stmt} {rest : List Stmt} {g h : FS} (hg : DS X W s g) (hr : DSs X W rest h) : DSs X W (s :: rest) (sSeq g h) := weakSs (pss_cons hg hr) fun D' σ H hh => by
  obtain ⟨r, env, st, o, env', st', he, hs, hf, q⟩ := hh
  obtain ⟨⟨o1, e1, s1⟩, h1, h2⟩ := Option.bind_eq_some_iff.mp hf
  refine ⟨r, env, st, o1, e1, s1, he, hs, h1, ?_⟩
  cases o1 with
  | nx => exact fun σ' r' H' ex he' hs' => ⟨r', e1, s1, o, env', st', he', hs', h2, q.ext ex⟩
  | bk => cases h2; exact q
  | ct => cases h2; exact q
  | rt d => cases h2; exact q
  | er c f d => cases h2; exact q
def sRet (f : F) : FS := fun env st => (f env st).map fun p => (.rt p.1, env, p.2)
theorem ds_ret {e : Expr} {f : F} {pos : Pos} (h : DE X e f) : DS X W (.Return (some e) pos) (sRet f) := weakS (ps_ret h) fun D' σ H hh => by
  obtain ⟨r, env, st, o, env', st', he, hs, hf, q⟩ := hh
  obtain ⟨⟨d, s1⟩, h1, h2⟩ := Option.map_eq_some_iff.mp hf
  cases h2
  exact ⟨r, env, st, d, _, he, hs, h1, q⟩
def sRetN : FS := fun env st => some (.rt .non, env, st)
def sBrk : FS := fun env st => some (.bk, env, st)
def sCnt : FS := fun env st => some (.ct, env, st)
def sDrop (f : F) : FS := fun env st => (f env st).map fun p => (.nx, env, p.2)
theorem ds_expr {e : Expr} {f : F} {pos : Pos} (h : DE X e f) (hs : swapsWith e none pos.line X.env = pure false := by rfl) : DS X W (.Expr e pos) (sDrop f) := weakS (ps_expr h hs) fun D' σ H hh => by
  obtain ⟨r, env, st, o, env', st', he, hs, hf, q⟩ := hh
  obtain ⟨⟨d, s1⟩, h1, h2⟩ := Option.map_eq_some_iff.mp hf
  cases h2
  exact ⟨r, env, st, d, _, he, hs, h1, fun v r1 H1 e1 q1 p1 => q σ r1 H1 e1 (he.ext e1) q1⟩
def sIf (t : FT) (g h : FS) : FS := fun env st => (t env st).bind fun p => if p.1 = true then g env p.2 else h env p.2
theorem ds_if {c : Expr} {a b : List Stmt} {t : FT} {g h : FS} {pos : Pos} (hc : DT X c t) (ha : DSs X W a g) (hb : DSs X W b h) : DS X W (.If c a b pos) (sIf t g h) := weakS (ps_if hc ha hb) fun D' σ H hh => by
  obtain ⟨r, env, st, o, env', st', he, hs, hf, q⟩ := hh
  obtain ⟨⟨k, s1⟩, h1, h2⟩ := Option.bind_eq_some_iff.mp hf
  refine ⟨r, env, st, k, s1, he, hs, h1, fun r1 H1 e1 q1 => ?_⟩
  cases k with
  | true => exact ⟨r1, env, s1, o, env', st', he.ext e1, q1, h2, q.ext e1⟩
  | false => exact ⟨r1, env, s1, o, env', st', he.ext e1, q1, h2, q.ext e1⟩
/-! ### targets -/
abbrev FG := D → Lo → Option Lo
abbrev FGs := List D → Lo → Option Lo
/-- how an item stands for its data -/
abbrev RD := Rf → Hp → V → D → Prop
/-- .. by Rep, or as a tuple of which no more is known -/
def RepI (K : PySem.W.Frag) : RD := fun r H v d => ∃ a xs ds, v = .ref a ∧ d = .tup ds ∧ SqT K H a xs ∧ RepL K r H xs ds
def tGR (K : PySem.W.Frag) (R : RD) (g : FG) : TG := fun v σ H Q => ∃ r env d env', EnvR K r H env σ ∧ R r H v d ∧ g d env = some env' ∧ ∀ σ', EnvR K r H env' σ' → Q σ' H
abbrev tG (K : PySem.W.Frag) (g : FG) : TG := tGR K (Rep K) g
abbrev DGR (X : Cx) (R : RD) (e : Expr) (g : FG) : Prop := PG X e (tGR X.K R g)
def tGs (K : PySem.W.Frag) (g : FGs) : TGs := fun vs σ H Q => ∃ r env ds env', EnvR K r H env σ ∧ RepL K r H vs ds ∧ g ds env = some env' ∧ ∀ σ', EnvR K r H env' σ' → Q σ' H
abbrev DG (X : Cx) (e : Expr) (g : FG) : Prop := PG X e (tG X.K g)
abbrev DGs (X : Cx) (e : List Expr) (g : FGs) : Prop := PGs X e (tGs X.K g)
theorem weakG {e : Expr} {t t' : TG} (h : PG X e t) (i : ∀ v σ H Q, t' v σ H Q → t v σ H Q) : PG X e t' := ⟨fun pins s σ H v u Q I r q => h.run pins s σ H v u Q I r (i v σ H Q q)⟩
theorem weakGs {e : List Expr} {t t' : TGs} (h : PGs X e t) (i : ∀ v σ H Q, t' v σ H Q → t v σ H Q) : PGs X e t' := ⟨fun pins s σ H v u Q I r q => h.run pins s σ H v u Q I r (i v σ H Q q)⟩
def gN (i : Nat) : FG := fun d env => some (env.set i (some d))
theorem dg_name (i : Nat) {x : Str} {pos : Pos} (hN : X.N.Nodup) (hi : X.N[i]? = some x := by rfl) (hx : Loc X.env.scope x := by first | exact Or.inl rfl | exact Or.inr rfl) (hf : X.fn x = true ∨ X.env.scope.names.lookup x = some .local := by first | exact .inl rfl | exact .inr rfl | assumption) : DG X (.Name x pos) (gN i) :=
  weakG (pg_name hN hi hx hf) fun v σ H Q hh => by
  obtain ⟨r, env, d, env', he, hr, hg, q⟩ := hh
  cases hg
  exact q _ (he.set hr i)
def gNil' : FGs := fun ds env => match ds with | [] => some env | _ => none
def gCons' (g : FG) (h : FGs) : FGs := fun ds env => match ds with | d :: r => (g d env).bind fun e1 => h r e1 | [] => none
theorem dgs_nil : DGs X [] gNil' := weakGs pgs_nil fun v σ H Q hh => by
  obtain ⟨r, env, ds, env', he, hr, hg, q⟩ := hh
  cases ds with
  | nil =>
    cases hg
    cases hr
    exact ⟨rfl, q _ he⟩
  | cons a b => cases hg
theorem dgs_cons {e : Expr} {es : List Expr} {g : FG} {h : FGs} (h1 : DG X e g) (h2 : DGs X es h) (hs : (assignEach (e :: es) X.env).map (·.2) = assign e X.env :: (assignEach es X.env).map (·.2) := by rfl) : DGs X (e :: es) (gCons' g h) := weakGs (pgs_cons h1 h2 hs) fun v σ H Q hh => by
  obtain ⟨r, env, ds, env', he, hr, hg, q⟩ := hh
  cases ds with
  | nil => cases hg
  | cons a b =>
    cases hr with
    | cons ra rb =>
      obtain ⟨e1, g1, g2⟩ := Option.bind_eq_some_iff.mp hg
      exact ⟨_, _, rfl, r, env, a, e1, he, ra, g1, fun σ' he' => ⟨r, e1, b, env', he', rb, g2, q⟩⟩
def gT (n : Nat) (h : FGs) : FG := fun d env => match d with | .tup ds => if ds.length = n then h ds env else none | _ => none
theorem Rep.sqT {r : Rf} {H : Hp} {v : V} {ds : List D} (h : Rep K r H v (.tup ds)) : ∃ a xs, v = .ref a ∧ SqT K H a xs ∧ RepL K r H xs ds := by
  cases h with
  | tup a z b c => exact ⟨_, _, rfl, .inl (.inr ⟨_, a⟩), c⟩
  | tupP a b c => exact ⟨_, _, rfl, .inl (.inl a), c⟩
  | tupK a b z c d e f => exact ⟨_, _, rfl, .inr ⟨_, _, _, a, b, c, d, e⟩, f⟩
theorem dg_tup {es : List Expr} {k n : Nat} {h : FGs} {pos : Pos} (hc : X.calm = true) (hh : DGs X es h) (hn : (assignEach es X.env).length = n := by rfl) (hst : (assignEach es X.env).findIdx? (·.1) = none := by rfl) : DG X (.Tuple es k pos) (gT n h) :=
  weakG (pg_tup hc hh hn hst) fun v σ H Q hh => by
  obtain ⟨r, env, d, env', he, hr, hg, q⟩ := hh
  cases d with
  | tup ds =>
    obtain ⟨a, xs, e, s, l⟩ := hr.sqT
    have hg' : (if ds.length = n then h ds env else none) = some env' := hg
    by_cases hl : ds.length = n
    · rw [if_pos hl] at hg'
      exact ⟨a, xs, e, s, by rw [l.len]; exact hl, r, env, ds, env', he, l, hg', q⟩
    · rw [if_neg hl] at hg'
      cases hg'
  | _ => cases hg
/-- a tuple's target takes an item of either kind -/
theorem dg_tupI {es : List Expr} {k n : Nat} {h : FGs} {pos : Pos} (hc : X.calm = true) (hh : DGs X es h) (hn : (assignEach es X.env).length = n := by rfl) (hst : (assignEach es X.env).findIdx? (·.1) = none := by rfl) : DGR X (RepI X.K) (.Tuple es k pos) (gT n h) :=
  weakG (pg_tup hc hh hn hst) fun v σ H Q hh => by
  obtain ⟨r, env, d, env', he, hr, hg, q⟩ := hh
  obtain ⟨a, xs, ds, e, ed, s, l⟩ := hr
  subst ed
  have hg' : (if ds.length = n then h ds env else none) = some env' := hg
  by_cases hl : ds.length = n
  · rw [if_pos hl] at hg'
    exact ⟨a, xs, e, s, by rw [l.len]; exact hl, r, env, ds, env', he, l, hg', q⟩
  · rw [if_neg hl] at hg'
    cases hg'
def sAsg (f : F) (g : FG) : FS := fun env st => (f env st).bind fun p => (g p.1 env).map fun e1 => (.nx, e1, p.2)
theorem asgReads {W : WXd} {f : F} {g : FG} (D' : Ends) (σ : L2.St) (H : Hp) (hh : tS K W (sAsg f g) D' σ H) : tAsg (tD K f) (tG K g) D' σ H := by
  obtain ⟨r, env, st, o, env', st', he, hs, hf, q⟩ := hh
  obtain ⟨⟨d, s1⟩, h1, h2⟩ := Option.bind_eq_some_iff.mp hf
  obtain ⟨e1, h3, h4⟩ := Option.map_eq_some_iff.mp h2
  cases h4
  exact ⟨r, env, st, d, _, he, hs, h1, fun v r1 H1 x1 q1 p1 => ⟨r1, env, d, _, he.ext x1, p1, h3, fun σ' he' => q σ' r1 H1 x1 he' q1⟩⟩
theorem ds_asg {tg e : Expr} {f : F} {g : FG} {pos : Pos} (he : DE X e f) (hg : DG X tg g) (hs : swapsWithSole [tg] e pos.line X.env = pure false := by rfl) (hw : swappedStores [tg] e X.env = pure none := by rfl)
    (h1 : (assignEach [tg] X.env).map (·.2) = [assign tg X.env] := by rfl) : DS X W (.Assign [tg] e pos) (sAsg f g) := weakS (ps_asg he hg hs hw h1) fun D' σ H hh => asgReads D' σ H hh
end
end DL
namespace DL
open PySem PySem.Spec PyProof.Rows L2
variable {K : PySem.W.Frag}
/-! ### what is walked -/
abbrev FI := Lo → Store → Option (List D × Store)
/-- the iterator yields these data, whatever has become known since -/
def ItOkR (K : PySem.W.Frag) (R : RD) (J : It) (r : Rf) (H : Hp) (ds : List D) : Prop :=
  ∀ r1 H1 st1, Ext r H r1 H1 → Sim K r1 H1 st1 → (∀ i, ds.length ≤ i → J.stop i H1) ∧
    ∀ (i : Nat) d, ds[i]? = some d → J.go i H1 ∧ ∀ x H2, J.yld i H1 x H2 → ∃ r2, Ext r1 H1 r2 H2 ∧ Sim K r2 H2 st1 ∧ R r2 H2 x d
abbrev ItOk (K : PySem.W.Frag) (J : It) (r : Rf) (H : Hp) (ds : List D) : Prop := ItOkR K (Rep K) J r H ds
def tIR (K : PySem.W.Frag) (RR : RD) (f : FI) : TI := fun σ H R => ∃ r env st ds st', EnvR K r H env σ ∧ Sim K r H st ∧ f env st = some (ds, st') ∧ ∀ J r' H', Ext r H r' H' → Sim K r' H' st' → ItOkR K RR J r' H' ds → R J H'
abbrev DIR (X : Cx) (RR : RD) (tg iter : Expr) (f : FI) : Prop := PI X tg iter (tIR X.K RR f)
abbrev DI (X : Cx) (tg iter : Expr) (f : FI) : Prop := DIR X (Rep X.K) tg iter f
theorem ItOk.ext {R : RD} {J : It} {r r' : Rf} {H H' : Hp} {ds : List D} (h : ItOkR K R J r H ds) (e : Ext r H r' H') : ItOkR K R J r' H' ds := fun r1 H1 st1 e1 s1 => h r1 H1 st1 (e.trans e1) s1
section
variable {X : Cx} {W : WXd} {tg iter : Expr}
theorem weakI {t t' : TI} (h : PI X tg iter t) (i : ∀ σ H Q, t' σ H Q → t σ H Q) : PI X tg iter t' := ⟨fun pins s σ H Q I q => h.run pins s σ H Q I (i σ H Q q)⟩
def asL : D → Option (List D) | .lst ds => some ds | _ => none
def asT : D → Option (List D) | .tup ds => some ds | _ => none
def asScr : D → Option (List D) | .scr ns => some (ns.map D.int) | _ => none
def asStr : D → Option (List D) | .str x => some (x.cps.toList.map fun c => .str ⟨#[c]⟩) | _ => none
def iOf (a : D → Option (List D)) (f : F) : FI := fun env st => (f env st).bind fun p => (a p.1).map fun ds => (ds, p.2)
theorem iOf_some {a : D → Option (List D)} {f : F} {env : Lo} {st : Store} {z : List D × Store} (h : iOf a f env st = some z) : ∃ d, f env st = some (d, z.2) ∧ a d = some z.1 := by
  obtain ⟨⟨x, s1⟩, h1, h2⟩ := Option.bind_eq_some_iff.mp h
  obtain ⟨ds, h3, h4⟩ := Option.map_eq_some_iff.mp h2
  cases h4
  exact ⟨x, h1, h3⟩
theorem sql_ok {J : It} {a : Addr} {r : Rf} {H : Hp} {xs : List V} {ds : List D} (hJ : J = Itl K a) (h : ∀ r1 H1, Ext r H r1 H1 → SqL K H1 a xs) (l : RepL K r H xs ds) : ItOk K J r H ds := fun r1 H1 st1 e1 s1 => by
  subst hJ
  have q := h r1 H1 e1
  have l1 := l.ext e1
  refine ⟨fun i hi => ⟨xs, q, by rw [l.len]; exact hi⟩, fun i d hd => ?_⟩
  obtain ⟨v, hv, rv⟩ := l1.get hd
  exact ⟨⟨xs, v, q, hv⟩, fun x H2 ⟨e, y⟩ => by
    subst e
    have := y xs q
    rw [hv] at this
    cases this
    exact ⟨r1, .refl _ _, s1, rv⟩⟩
theorem di_lst {f : F} (h : DE X iter f) : DI X tg iter (iOf asL f) := weakI (pi_list h) fun σ H R hh => by
  obtain ⟨r, env, st, ds, st', he, hs, hf, q⟩ := hh
  obtain ⟨d, h1, h2⟩ := iOf_some hf
  refine ⟨r, env, st, d, st', he, hs, h1, fun v r1 H1 e1 q1 p1 => ?_⟩
  cases d with
  | lst es =>
    cases h2
    cases p1 with
    | lst a b c => exact ⟨_, rfl, ⟨_, .of a⟩, q _ r1 H1 e1 q1 (sql_ok rfl (fun r2 H2 e2 => .of (e2.keep _ _ a b)) c)⟩
  | _ => cases h2
theorem di_scr {f : F} (h : DE X iter f) : DI X tg iter (iOf asScr f) := weakI (pi_list h) fun σ H R hh => by
  obtain ⟨r, env, st, ds, st', he, hs, hf, q⟩ := hh
  obtain ⟨d, h1, h2⟩ := iOf_some hf
  refine ⟨r, env, st, d, st', he, hs, h1, fun v r1 H1 e1 q1 p1 => ?_⟩
  cases d with
  | scr es =>
    cases h2
    cases p1 with
    | scr a b => exact ⟨_, rfl, ⟨_, .inl (.inr ⟨_, a⟩)⟩, q _ r1 H1 e1 q1 (sql_ok rfl (fun r2 H2 e2 => .inl (.inr ⟨_, e2.keep _ _ a b⟩)) (RepL.ofInts es))⟩
    | scrK a b c d e f => exact ⟨_, rfl, ⟨_, .inr ⟨_, _, _, a, b, c, d, e, f⟩⟩, q _ r1 H1 e1 q1 (sql_ok rfl (fun r2 H2 e2 => .inr ⟨_, _, _, a, b, c, d, e, f⟩) (RepL.ofInts es))⟩
  | _ => cases h2
theorem di_tup {f : F} (h : DE X iter f) : DI X tg iter (iOf asT f) := weakI (pi_tup h) fun σ H R hh => by
  obtain ⟨r, env, st, ds, st', he, hs, hf, q⟩ := hh
  obtain ⟨d, h1, h2⟩ := iOf_some hf
  refine ⟨r, env, st, d, st', he, hs, h1, fun v r1 H1 e1 q1 p1 => ?_⟩
  cases d with
  | tup es =>
    have ees : es = ds := Option.some.inj h2
    subst ees
    have key : ∀ {a : Addr} {xs : List V}, (∀ r2 H2, Ext r1 H1 r2 H2 → SqT X.K H2 a xs) → RepL X.K r1 H1 xs es → ItOk X.K (Itt X.K a) r1 H1 es := fun {a xs} hq l r2 H2 st2 e2 s2 => by
      have qq := hq r2 H2 e2
      have l1 := l.ext e2
      refine ⟨fun i hi => ⟨xs, qq, by rw [l.len]; exact hi⟩, fun i d hd => ?_⟩
      obtain ⟨v, hv, rv⟩ := l1.get hd
      exact ⟨⟨xs, v, qq, hv⟩, fun x H3 ⟨e, y⟩ => by
        subst e
        have := y xs qq
        rw [hv] at this
        cases this
        exact ⟨r2, .refl _ _, s2, rv⟩⟩
    cases p1 with
    | tup a z b c => exact ⟨_, rfl, ⟨_, .inl (.inr ⟨_, a⟩)⟩, q _ r1 H1 e1 q1 (key (fun r2 H2 e2 => .inl (.inr ⟨_, e2.keep _ _ a b⟩)) c)⟩
    | tupP a b c => exact ⟨_, rfl, ⟨_, .inl (.inl a)⟩, q _ r1 H1 e1 q1 (key (fun r2 H2 e2 => .inl (.inl (e2.keep _ _ a b))) c)⟩
    | tupK a b z c d e f => exact ⟨_, rfl, ⟨_, .inr ⟨_, _, _, a, b, c, d, e⟩⟩, q _ r1 H1 e1 q1 (key (fun r2 H2 e2 => .inr ⟨_, _, _, a, b, c, d, e⟩) f)⟩
  | _ => cases h2
theorem di_str {f : F} (h : DE X iter f) : DI X tg iter (iOf asStr f) := weakI (pi_str h) fun σ H R hh => by
  obtain ⟨r, env, st, ds, st', he, hs, hf, q⟩ := hh
  obtain ⟨d, h1, h2⟩ := iOf_some hf
  refine ⟨r, env, st, d, st', he, hs, h1, fun v r1 H1 e1 q1 p1 => ?_⟩
  cases d with
  | str x =>
    cases h2
    cases p1
    refine ⟨x, rfl, q _ r1 H1 e1 q1 fun r2 H2 st2 e2 s2 => ⟨fun i hi => ?_, fun i d hd => ?_⟩⟩
    · show x.cps.size ≤ i
      simpa using hi
    · rw [List.getElem?_map] at hd
      obtain ⟨c, hc, e⟩ := Option.map_eq_some_iff.mp hd
      subst e
      have hc' : x.cps[i]? = some c := by simpa using hc
      refine ⟨(Array.getElem?_eq_some_iff.mp hc').1, fun y H3 ⟨e, c', hc2, ey⟩ => ?_⟩
      subst e
      rw [hc'] at hc2
      cases hc2
      subst ey
      exact ⟨r2, .refl _ _, s2, .str _⟩
  | _ => cases h2
/-- range(n) -/
def rg (lo hi : Int) : List D := (List.range (hi - lo).toNat).map fun k => .int (lo + (k : Nat))
def asR1 : List D → Option (List D) | [.int n] => if -(2 ^ 62) ≤ n ∧ n < 2 ^ 62 then some (rg 0 n) else none | _ => none
def iOfA (a : List D → Option (List D)) (f : FA) : FI := fun env st => (f env st).bind fun p => (a p.1).map fun ds => (ds, p.2)
theorem iOfA_some {a : List D → Option (List D)} {f : FA} {env : Lo} {st : Store} {z : List D × Store} (h : iOfA a f env st = some z) : ∃ d, f env st = some (d, z.2) ∧ a d = some z.1 := by
  obtain ⟨⟨x, s1⟩, h1, h2⟩ := Option.bind_eq_some_iff.mp h
  obtain ⟨ds, h3, h4⟩ := Option.map_eq_some_iff.mp h2
  cases h4
  exact ⟨x, h1, h3⟩
theorem rng_ok {lo hi : Int} {r : Rf} {H : Hp} : ItOk K (Itr lo (hi - lo).toNat) r H (rg lo hi) := fun r1 H1 st1 e1 s1 => by
  refine ⟨fun i h => ?_, fun i d hd => ?_⟩
  · show (hi - lo).toNat ≤ i
    simpa [rg] using h
  · unfold rg at hd
    rw [List.getElem?_map] at hd
    obtain ⟨c, hc, e⟩ := Option.map_eq_some_iff.mp hd
    subst e
    obtain ⟨h1, h2⟩ := List.getElem?_eq_some_iff.mp hc
    rw [List.getElem_range] at h2
    subst h2
    refine ⟨by show i < (hi - lo).toNat; simpa using h1, fun x H2 ⟨e, y⟩ => ?_⟩
    subst e
    subst y
    exact ⟨r1, .refl _ _, s1, .int _⟩
theorem di_range1 {a : Expr} {fa : FA} {p pos : Pos} (hg : Gl X "range") (hm : X.mg "range" = none) (ha : DA X [a] fa) (hs : starEach [a] X.env = [(false, eval a X.env)] := by rfl) : DI X tg (.Call (.Name "range" p) [a] [] pos) (iOfA asR1 fa) := weakI (pi_range1 hg hm ha hs) fun σ H R hh => by
  obtain ⟨r, env, st, ds, st', he, hs, hf, q⟩ := hh
  obtain ⟨d, h1, h2⟩ := iOfA_some hf
  refine ⟨r, env, st, d, st', he, hs, h1, fun v r1 H1 e1 q1 p1 => ?_⟩
  unfold asR1 at h2
  split at h2
  · rename_i n
    split at h2
    · rename_i hn
      cases h2
      cases p1 with
      | cons pa pb =>
        cases pa
        cases pb
        refine ⟨n, rfl, hn.1, hn.2, q _ r1 H1 e1 q1 ?_⟩
        have z : (n - 0).toNat = n.toNat := by rw [Int.sub_zero]
        have := rng_ok (K := X.K) (lo := 0) (hi := n) (r := r1) (H := H1)
        rw [z] at this
        exact this
    · cases h2
  · cases h2
/-- for i, x in enumerate(xs) -/
def pairUp : Nat → List D → List D
  | _, [] => []
  | n, d :: ds => .tup [.int (n : Int), d] :: pairUp (n + 1) ds
end
/-! ### for -/
def loopS (tg : FG) (body : FS) : List D → Lo → Store → Option (Out × Lo × Store)
  | [], env, st => some (.nx, env, st)
  | d :: ds, env, st => (tg d env).bind fun e1 => (body e1 st).bind fun p => match p with
    | (.nx, e2, s2) => loopS tg body ds e2 s2
    | (.ct, e2, s2) => loopS tg body ds e2 s2
    | (.bk, e2, s2) => some (.nx, e2, s2)
    | (.rt v, e2, s2) => some (.rt v, e2, s2)
    | (.er c f v, e2, s2) => some (.er c f v, e2, s2)
def sFor (fi : FI) (tg : FG) (body : FS) : FS := fun env st => (fi env st).bind fun p => loopS tg body p.1 env p.2
section
variable {X : Cx} {W : WXd} {tg iter : Expr}
theorem ds_forR {RR : RD} {body : List Stmt} {fi : FI} {g : FG} {b : FS} {pos : Pos} (hp : PassesOwn (model X.prog X.w) X.A X.env X.xe) (hc : X.calm = true) (hi : DIR X RR tg iter fi) (hg : DGR X RR tg g) (hb : DSs X W body b)
    (hs : ∀ x, foldedSetIterable iter X.env x = pure x := by intro _; rfl) : DS X W (.For tg iter body [] pos) (sFor fi g b) := weakS (ps_for hp hc hi hg hb hs) fun D' σ H hh => by
  obtain ⟨r, env, st, o, env', st', he, hs, hf, q⟩ := hh
  obtain ⟨⟨ds, s1⟩, h1, h2⟩ := Option.bind_eq_some_iff.mp hf
  refine ⟨r, env, st, ds, s1, he, hs, h1, fun J r1 H1 e1 q1 j1 => ?_⟩
  refine ⟨fun i m σ2 H2 => m = ds.length - i ∧ i ≤ ds.length ∧ ∃ r2 env2 st2, Ext r1 H1 r2 H2 ∧ EnvR X.K r2 H2 env2 σ2 ∧ Sim X.K r2 H2 st2 ∧ loopS g b (ds.drop i) env2 st2 = some (o, env', st'),
    ⟨_, rfl, Nat.zero_le _, r1, env, s1, .refl _ _, he.ext e1, q1, h2⟩, ?_⟩
  rintro i m σ2 H2 ⟨rfl, hi, r2, env2, st2, e2, he2, hs2, h3⟩
  obtain ⟨jst, jgo⟩ := j1 r2 H2 st2 e2 hs2
  by_cases hlt : i < ds.length
  · have hd : ds[i]? = some ds[i] := List.getElem?_eq_getElem hlt
    rw [List.drop_eq_getElem_cons hlt] at h3
    obtain ⟨env3, g1, h4⟩ := Option.bind_eq_some_iff.mp h3
    obtain ⟨⟨o4, env4, st4⟩, g2, h5⟩ := Option.bind_eq_some_iff.mp h4
    obtain ⟨j2, j3⟩ := jgo i _ hd
    refine .inr ⟨j2, fun σ' H' => i + 1 ≤ ds.length ∧ ∃ r2 env2 st2, Ext r1 H1 r2 H' ∧ EnvR X.K r2 H' env2 σ' ∧ Sim X.K r2 H' st2 ∧ loopS g b (ds.drop (i + 1)) env2 st2 = some (o, env', st'),
      fun σ' H' ⟨hi', w⟩ => ⟨ds.length - (i + 1), by omega, rfl, hi', w⟩, fun x H3 y => ?_⟩
    obtain ⟨r3, e3, hs3, rx⟩ := j3 x H3 y
    refine ⟨r3, env2, ds[i], env3, he2.ext e3, rx, g1, fun σ3 he3 => ⟨r3, env3, st2, o4, env4, st4, he3, hs3, g2, ?_⟩⟩
    cases o4 with
    | nx => exact fun σ' r' H' e' a c => ⟨by omega, r', env4, st4, (e2.trans e3).trans e', a, c, h5⟩
    | ct => exact fun σ' r' H' e' a c => ⟨by omega, r', env4, st4, (e2.trans e3).trans e', a, c, h5⟩
    | bk =>
      cases h5
      exact fun σ' r' H' e' a c => q σ' r' H' (((e1.trans e2).trans e3).trans e') a c
    | rt v =>
      cases h5
      exact fun v r' H' e' a c => q v r' H' (((e1.trans e2).trans e3).trans e') a c
    | er c' f' v =>
      cases h5
      exact fun σ' r' H' C dd e' a c z => q σ' r' H' C dd (((e1.trans e2).trans e3).trans e') a c z
  · have e : i = ds.length := by omega
    subst e
    rw [List.drop_length] at h3
    cases h3
    exact .inl ⟨jst _ (Nat.le_refl _), q σ2 r2 H2 (e1.trans e2) he2 hs2⟩
end
/-! ### a new object that is being made: hidden, then shown as a value, or taken into the store -/
def Rf.hide (r : Rf) (p : Addr) : Rf := ⟨r.adr, fun a => r.av a ∨ a = p, r.lk⟩
def Rf.shown (r : Rf) (p : Addr) : Rf := ⟨r.adr, fun a => r.av a ∧ a ≠ p, r.lk⟩
def Rf.add (r : Rf) (p : Addr) : Rf := ⟨r.adr ++ [p], r.av, r.lk⟩
structure Hid (K : PySem.W.Frag) (r : Rf) (H : Hp) (st : Store) (p : Addr) : Prop where
  av : r.av p
  na : p ∉ r.adr
  nl : ¬ r.lk p
  sim : Sim K r H st
theorem hideNew {r : Rf} {H : Hp} {st : Store} {p : Addr} {o : HO} (q1 : Sim K r H st) (hD : H p = none) : Ext r H (r.hide p) (upd H p o) ∧ Hid K (r.hide p) (upd H p o) st p := by
  have e0 : Ext r H (r.hide p) (upd H p o) := ⟨⟨⟨[], by simp [Rf.hide]⟩, fun a x h _ => same_alloc hD a x h, fun a h n => by
    rcases h with h | h
    · exact absurd h n
    · rw [h]; exact hD⟩, fun a b c => ⟨by obtain ⟨o, h⟩ := q1.there a b; rw [h]; exact same_alloc hD a o h, .inl b, c⟩, fun _ => Iff.rfl, fun a b => by obtain ⟨o, u, h⟩ := q1.lkd a b; rw [h]; exact same_alloc hD a _ h⟩
  refine ⟨e0, .inr rfl, fun z => ?_, fun z => ?_, q1.len, q1.nd, fun n a x h1 h2 => (q1.ob n a x h1 h2).ex e0.toEx (fun v => ⟨?_, .inl v⟩), fun a v => ?_, fun a v => ?_, fun a v => ?_⟩
  · obtain ⟨x, y⟩ := q1.old p z
    rw [hD] at y; cases y
  · obtain ⟨o, u, y⟩ := q1.lkd p z
    rw [hD] at y; cases y
  · obtain ⟨x, z⟩ := q1.there a v
    rw [z]; exact same_alloc hD a x z
  · rcases v with v | v
    · obtain ⟨x, z⟩ := q1.there a v
      exact ⟨x, same_alloc hD a x z⟩
    · exact ⟨_, by rw [v]; exact upd_same⟩
  · obtain ⟨x, z⟩ := q1.old a v
    exact ⟨x, same_alloc hD a x z⟩
  · obtain ⟨o, u, z⟩ := q1.lkd a v
    exact ⟨o, u, same_alloc hD a _ z⟩
theorem Hid.ext {r r' : Rf} {H H' : Hp} {st st' : Store} {p : Addr} (h : Hid K r H st p) (e : Ext r H r' H') (s : Sim K r' H' st') : Hid K r' H' st' p ∧ H' p = H p :=
  let ⟨a, b, c⟩ := e.hid p h.av h.na; ⟨⟨b, c, fun z => h.nl ((e.hd.lke p).mp z), s⟩, a⟩
/-- the hidden object is taken into the store -/
theorem Hid.add {r r0 : Rf} {H H0 : Hp} {st st0 : Store} {p : Addr} {o : HO} {ob : Ob} (h : Hid K r H st p) (e : Ext r0 H0 r H) (q0 : Sim K r0 H0 st0) (hn : H0 p = none) (hob : ObR K (r.add p) (upd H p o) p ob) :
    Ext r0 H0 (r.add p) (upd H p o) ∧ Sim K (r.add p) (upd H p o) (st ++ [ob]) ∧ ∀ d, d = D.ref st.length → Rep K (r.add p) (upd H p o) (.ref p) d := by
  have ex : Ex r H (r.add p) (upd H p o) := ⟨⟨[p], rfl⟩, fun q x z n => by rw [upd_ne (fun y => n (by rw [y]; exact h.av))]; exact z, fun q z n => absurd z n⟩
  have nlk : ∀ q, r.lk q → q ≠ p := fun q z y => h.nl (by rw [← y]; exact z)
  refine ⟨⟨e.toEx.trans ex, fun q a b => ?_, e.hd.lke, fun q z => by rw [upd_ne (nlk q ((e.hd.lke q).mpr z))]; exact e.hd.lks q z⟩, ⟨?_, ?_, fun n a x h1 h2 => ?_, fun q v => ?_, fun q v => ?_, fun q v => ?_⟩, fun d hd => ?_⟩
  · obtain ⟨z1, z2, z3⟩ := e.hid q a b
    have nq : q ≠ p := fun y => by
      obtain ⟨x, z⟩ := q0.there q a
      rw [y, hn] at z; cases z
    exact ⟨by rw [upd_ne nq]; exact z1, z2, fun z => by
      rcases List.mem_append.mp z with z | z
      · exact z3 z
      · exact nq (List.mem_singleton.mp z)⟩
  · show (r.adr ++ [p]).length = (st ++ [ob]).length
    rw [List.length_append, List.length_append, h.sim.len]; rfl
  · exact List.nodup_append.mpr ⟨h.sim.nd, by simp, fun a ha b hb e => h.na (by rw [List.mem_singleton.mp hb] at e; rw [← e]; exact ha)⟩
  · by_cases hlt : n < r.adr.length
    · have h1' : r.adr[n]? = some a := by
        have : (r.adr ++ [p])[n]? = some a := h1
        rwa [List.getElem?_append_left hlt] at this
      have h2' : st[n]? = some x := by rwa [List.getElem?_append_left (by rw [← h.sim.len]; exact hlt)] at h2
      exact (h.sim.ob n a x h1' h2').ex ex fun v => ⟨by rw [upd_ne (fun y => h.na (by rw [← y]; exact List.mem_of_getElem? h1'))], v⟩
    · have hl : n = r.adr.length := by
        have : n < (r.adr ++ [p]).length := (List.getElem?_eq_some_iff.mp (show (r.adr ++ [p])[n]? = some a from h1)).1
        rw [List.length_append, List.length_singleton] at this
        omega
      have e1 : a = p := by
        have : (r.adr ++ [p])[n]? = some a := h1
        rw [hl, List.getElem?_append_right (Nat.le_refl _), Nat.sub_self] at this
        exact (Option.some.inj this).symm
      have e2 : x = ob := by
        rw [hl, h.sim.len, List.getElem?_append_right (Nat.le_refl _), Nat.sub_self] at h2
        exact (Option.some.inj h2).symm
      rw [e1, e2]; exact hob
  · by_cases z : q = p
    · exact ⟨_, by rw [z]; exact upd_same⟩
    · rw [upd_ne z]; exact h.sim.there q v
  · by_cases z : q = p
    · exact ⟨_, by rw [z]; exact upd_same⟩
    · rw [upd_ne z]
      rcases List.mem_append.mp v with v | v
      · exact h.sim.old q v
      · exact absurd (List.mem_singleton.mp v) z
  · rw [upd_ne (nlk q v)]; exact h.sim.lkd q v
  · subst hd
    refine .ref ?_
    show (r.adr ++ [p])[st.length]? = some p
    rw [← h.sim.len, List.getElem?_append_right (Nat.le_refl _), Nat.sub_self]; rfl
/-! ### list comprehensions of one clause, the target one name or several (slots is) -/
def setL {α : Type} : List Nat → List α → List (Option α) → List (Option α)
  | i :: is, v :: vs, σ => setL is vs (σ.set i (some v))
  | _, _, σ => σ
theorem setL_length {α : Type} : ∀ (is : List Nat) (vs : List α) (σ : List (Option α)), (setL is vs σ).length = σ.length
  | [], _, _ => rfl
  | _ :: _, [], _ => rfl
  | i :: is, v :: vs, σ => by unfold setL; rw [setL_length is vs, List.length_set]
theorem setL_out {α : Type} {j : Nat} : ∀ (is : List Nat) (vs : List α) (σ : List (Option α)), j ∉ is → (setL is vs σ)[j]? = σ[j]?
  | [], _, _, _ => rfl
  | _ :: _, [], _, _ => rfl
  | i :: is, v :: vs, σ, h => by
    unfold setL
    rw [setL_out is vs _ (fun z => h (List.mem_cons_of_mem _ z)), List.getElem?_set_ne (fun z => h (by rw [z]; exact List.mem_cons_self))]
theorem wipe_in {σ : L2.St} {j : Nat} : ∀ {is : List Nat}, j ∈ is → (wipe σ is)[j]? = σ[j]?.map fun _ => none
  | [], h => by cases h
  | i :: is, h => by
    unfold wipe
    by_cases z : i = j
    · subst z
      by_cases hi : i < σ.length
      · rw [List.getElem?_set_self (by rw [wipe_length]; exact hi), List.getElem?_eq_getElem hi]; rfl
      · rw [List.getElem?_eq_none (by rw [List.length_set, wipe_length]; omega), List.getElem?_eq_none (by omega)]; rfl
    · rw [List.getElem?_set_ne z]
      rcases List.mem_cons.mp h with e | e
      · exact absurd e.symm z
      · exact wipe_in e
theorem wipe_setL (σ : L2.St) (is : List Nat) (vs : List V) : wipe (setL is vs (wipe σ is)) is = wipe σ is := by
  refine List.ext_getElem? fun j => ?_
  by_cases h : j ∈ is
  · rw [wipe_in h]
    by_cases hj : j < σ.length
    · have h1 : j < (setL is vs (wipe σ is)).length := by rw [setL_length, wipe_length]; exact hj
      have h2 : j < (wipe σ is).length := by rw [wipe_length]; exact hj
      rw [List.getElem?_eq_getElem h1, wipe_in h, List.getElem?_eq_getElem hj]; rfl
    · rw [List.getElem?_eq_none (by rw [setL_length, wipe_length]; omega), List.getElem?_eq_none (by rw [wipe_length]; omega)]; rfl
  · rw [wipe_out h, setL_out is vs _ h]
/-- the slots of a block's own names, forgotten -/
def wipeL (env : Lo) : List Nat → Lo
  | [] => env
  | i :: is => (wipeL env is).set i none
theorem EnvR.wipeL {r : Rf} {H : Hp} {env : Lo} {σ : L2.St} (h : EnvR K r H env σ) : ∀ is : List Nat, EnvR K r H (DL.wipeL env is) (L2.wipe σ is)
  | [] => h
  | i :: is => EnvR.wipe (EnvR.wipeL h is) i
theorem EnvR.setL {r : Rf} {H : Hp} : ∀ {is : List Nat} {vs : List V} {ds : List D} {env : Lo} {σ : L2.St}, EnvR K r H env σ → RepL K r H vs ds → EnvR K r H (DL.setL is ds env) (DL.setL is vs σ)
  | [], _, _, _, _, h, _ => h
  | _ :: _, _, _, _, _, h, .nil => h
  | i :: is, _ :: _, _ :: _, env, σ, h, .cons a b => by
    have := EnvR.setL (is := is) (EnvR.set h a i) b
    exact this
/-- how a target takes an item -/
abbrev FB := D → Option (List D)
def b1 : FB := fun d => some [d]
def loopC (is : List Nat) (bd : FB) (t : FT) (f : F) : List D → Lo → Store → Option (List D × Store)
  | [], _, st => some ([], st)
  | d :: ds, env, st => (bd d).bind fun vs => (t (setL is vs env) st).bind fun p => if p.1 = true then (f (setL is vs env) p.2).bind fun q => (loopC is bd t f ds env q.2).map fun z => (q.1 :: z.1, z.2) else loopC is bd t f ds env p.2
def fComp (fi : FI) (is : List Nat) (bd : FB) (t : FT) (f : F) : F := fun env st => (fi env st).bind fun p => (loopC is bd t f p.1 (wipeL env is) p.2).bind fun q => if q.1.length ≤ sizeLine then some (.lst q.1, q.2) else none
/-- a raw target -/
def TgOkR (K : PySem.W.Frag) (R : RD) (g : TG) (is : List Nat) (bd : FB) : Prop := ∀ r H x d σ (Q : L2.St → Hp → Prop) vals, R r H x d → bd d = some vals → (∀ vs, RepL K r H vs vals → Q (setL is vs σ) H) → g x σ H Q
abbrev TgOk (K : PySem.W.Frag) (g : TG) (is : List Nat) (bd : FB) : Prop := TgOkR K (Rep K) g is bd
theorem tg1 (i : Nat) : TgOk K (gName i) [i] b1 := fun r H x d σ Q vals hr hb q => by
  cases hb
  exact q [x] (.cons hr .nil)
def tTrue : FT := fun _ st => some (true, st)
abbrev DTs (X : Cx) (ifs : List Expr) (t : FT) : Prop := PTs X ifs (tT X.K t)
section
variable {X : Cx} {W : WXd} {tg iter : Expr}
theorem weakTs {ifs : List Expr} {t t' : TT} (h : PTs X ifs t) (i : ∀ σ H Q, t' σ H Q → t σ H Q) : PTs X ifs t' := ⟨fun pins s σ H Q I q => h.run pins s σ H Q I (i σ H Q q)⟩
theorem dts_nil : DTs X [] tTrue := weakTs pts_nil fun σ H Q hh => by
  obtain ⟨r, env, st, b, st', he, hs, hf, q⟩ := hh
  cases hf
  exact q r H (.refl r H) hs
theorem dts_one {c : Expr} {t : FT} (h : DT X c t) : DTs X [c] t := pts_one h
/-- the object p is being made since (r1, H1): nothing leans on it -/
structure Mkg (K : PySem.W.Frag) (r1 : Rf) (H1 : Hp) (p : Addr) (r : Rf) (H : Hp) (st : Store) : Prop where
  ex : Ext r1 H1 r H
  av : r.av p
  na : p ∉ r.adr
  nl : ¬ r.lk p
  sim : Sim K r H st
theorem EnvR.exx {r r' : Rf} {H H' : Hp} {env : Lo} {σ : L2.St} (h : EnvR K r H env σ) (e : Ex r H r' H') : EnvR K r' H' env σ := ⟨h.len, fun j dd z => let ⟨v, a, b⟩ := h.at_ j dd z; ⟨v, a, b.ex e⟩⟩
theorem Mkg.start {r1 : Rf} {H1 : Hp} {s1 : Store} {p : Addr} {o : HO} (q1 : Sim K r1 H1 s1) (hD : H1 p = none) : Mkg K r1 H1 p (r1.hide p) (upd H1 p o) s1 :=
  let ⟨e0, hd0⟩ := hideNew (o := o) q1 hD; ⟨e0, hd0.av, hd0.na, hd0.nl, hd0.sim⟩
theorem Mkg.step {r1 r r' : Rf} {H1 H H' : Hp} {st st' : Store} {p : Addr} (m : Mkg K r1 H1 p r H st) (e : Ext r H r' H') (s : Sim K r' H' st') : Mkg K r1 H1 p r' H' st' ∧ H' p = H p :=
  let ⟨a, b, c⟩ := e.hid p m.av m.na; ⟨⟨m.ex.trans e, b, c, fun z => m.nl ((e.hd.lke p).mp z), s⟩, a⟩
theorem Mkg.put {r1 r : Rf} {H1 H : Hp} {st s1 : Store} {p : Addr} (m : Mkg K r1 H1 p r H st) (q1 : Sim K r1 H1 s1) (hD : H1 p = none) (o : HO) : Mkg K r1 H1 p r (upd H p o) st ∧ Ex r H r (upd H p o) := by
  have e : Ex r H r (upd H p o) := ⟨⟨[], by simp⟩, fun a x h n => by rw [upd_ne (fun z => n (by rw [z]; exact m.av))]; exact h, fun a h n => absurd h n⟩
  have av0 : ∀ a, r1.av a → a ≠ p := fun a h z => by
    obtain ⟨x, y⟩ := q1.there a h
    rw [z, hD] at y; cases y
  have lk0 : ∀ a, r1.lk a → a ≠ p := fun a h z => by
    obtain ⟨x, u, y⟩ := q1.lkd a h
    rw [z, hD] at y; cases y
  refine ⟨⟨⟨m.ex.toEx.trans e, fun a h n => ?_, m.ex.hd.lke, fun a h => ?_⟩, m.av, m.na, m.nl, m.sim.len, m.sim.nd, fun n a x h1 h2 => (m.sim.ob n a x h1 h2).ex e fun v => ⟨?_, v⟩, fun a v => ?_, fun a v => ?_, fun a v => ?_⟩, e⟩
  · obtain ⟨z1, z2, z3⟩ := m.ex.hid a h n
    exact ⟨by rw [upd_ne (av0 a h)]; exact z1, z2, z3⟩
  · rw [upd_ne (lk0 a h)]; exact m.ex.hd.lks a h
  · rw [upd_ne (fun z => m.na (by rw [← z]; exact List.mem_of_getElem? h1))]
  · by_cases z : a = p
    · exact ⟨_, by rw [z]; exact upd_same⟩
    · rw [upd_ne z]; exact m.sim.there a v
  · by_cases z : a = p
    · exact ⟨_, by rw [z]; exact upd_same⟩
    · rw [upd_ne z]; exact m.sim.old a v
  · rw [upd_ne (fun z => m.nl (by rw [← z]; exact v))]; exact m.sim.lkd a v
theorem Mkg.show {r1 r : Rf} {H1 H : Hp} {st s1 : Store} {p : Addr} (m : Mkg K r1 H1 p r H st) (q1 : Sim K r1 H1 s1) (hD : H1 p = none) : Ext r1 H1 (r.shown p) H ∧ Sim K (r.shown p) H st ∧ Ex r H (r.shown p) H := by
  have es : Ex r H (r.shown p) H := ⟨⟨[], by simp [Rf.shown]⟩, fun p o h _ => h, fun p h n => absurd h.1 n⟩
  refine ⟨⟨⟨m.ex.pre, fun a o h n => m.ex.keep a o h n, fun a h n => m.ex.new a h.1 n⟩, fun a h n => ?_, m.ex.hd.lke, m.ex.hd.lks⟩, ⟨m.sim.len, m.sim.nd, fun n a o h1 h2 => (m.sim.ob n a o h1 h2).ex es fun v => ⟨rfl, v, fun z => m.na (by rw [← z]; exact List.mem_of_getElem? h1)⟩, fun a v => m.sim.there a v.1, m.sim.old, m.sim.lkd⟩, es⟩
  obtain ⟨z1, z2, z3⟩ := m.ex.hid a h n
  exact ⟨z1, ⟨z2, fun z => by
    obtain ⟨x, y⟩ := q1.there a h
    rw [z, hD] at y; cases y⟩, z3⟩
theorem compReads {RR : RD} {fi : FI} {is : List Nat} {bd : FB} {g : TG} {t : FT} {f : F} (hg : TgOkR K RR g is bd) (σ : L2.St) (H : Hp) (Q : VK) (hh : tD K (fComp fi is bd t f) σ H Q) : tLc (tIR K RR fi) g (tT K t) (tD K f) is σ H Q := by
  obtain ⟨r, env, st, d, st', he, hs, hf, q⟩ := hh
  obtain ⟨⟨ds, s1⟩, h1, h2⟩ := Option.bind_eq_some_iff.mp hf
  obtain ⟨⟨zs, s2⟩, h3, h4⟩ := Option.bind_eq_some_iff.mp h2
  by_cases hz : zs.length ≤ sizeLine
  case neg => rw [if_neg hz] at h4; cases h4
  rw [if_pos hz] at h4
  cases h4
  refine ⟨r, env, st, ds, s1, he, hs, h1, fun J r1 H1 e1 q1 j1 Dl hD => ?_⟩
  have m0 := Mkg.start (o := .lst []) q1 hD
  refine ⟨fun k m H2 => m = ds.length - k ∧ k ≤ ds.length ∧ ∃ r2 st2 acc us ys, Mkg K r1 H1 Dl r2 H2 st2 ∧ EnvR K r2 H2 (DL.wipeL env is) (wipe σ is) ∧ H2 Dl = some (.lst us) ∧ RepL K r2 H2 us acc ∧
    loopC is bd t f (ds.drop k) (DL.wipeL env is) st2 = some (ys, s2) ∧ acc ++ ys = zs, ⟨_, rfl, Nat.zero_le _, r1.hide Dl, s1, [], [], zs, m0, ((he.ext e1).ext m0.ex).wipeL is, upd_same, .nil, h3, rfl⟩, ?_⟩
  rintro k m H2 ⟨rfl, hk, r2, st2, acc, us, ys, mk, wp, hus, racc, hl, hcat⟩
  obtain ⟨jst, jgo⟩ := j1 r2 H2 st2 mk.ex mk.sim
  by_cases hlt : k < ds.length
  case neg =>
    have e : k = ds.length := by omega
    subst e
    rw [List.drop_length] at hl
    cases hl
    rw [List.append_nil] at hcat
    subst hcat
    obtain ⟨w1, w2, w3⟩ := mk.show q1 hD
    exact .inl ⟨jst _ (Nat.le_refl _), q (.ref Dl) (r2.shown Dl) H2 (e1.trans w1) w2 (.lst hus (fun z => z.2 rfl) (racc.ex w3))⟩
  case pos =>
    have hd : ds[k]? = some ds[k] := List.getElem?_eq_getElem hlt
    rw [List.drop_eq_getElem_cons hlt] at hl
    obtain ⟨vals, hv, hl1⟩ := Option.bind_eq_some_iff.mp hl
    obtain ⟨⟨b, st3⟩, hb, hl2⟩ := Option.bind_eq_some_iff.mp hl1
    obtain ⟨j2, j3⟩ := jgo k _ hd
    refine .inr ⟨j2, fun H' => k + 1 ≤ ds.length ∧ ∃ r2 st2 acc us ys, Mkg K r1 H1 Dl r2 H' st2 ∧ EnvR K r2 H' (DL.wipeL env is) (wipe σ is) ∧ H' Dl = some (.lst us) ∧ RepL K r2 H' us acc ∧
      loopC is bd t f (ds.drop (k + 1)) (DL.wipeL env is) st2 = some (ys, s2) ∧ acc ++ ys = zs, fun H' ⟨hk', w⟩ => ⟨ds.length - (k + 1), by omega, rfl, hk', w⟩, fun x H3 y => ?_⟩
    obtain ⟨r3, e3, s3, rx⟩ := j3 x H3 y
    have wp3 := wp.ext e3
    refine hg r3 H3 x _ _ _ vals rx hv fun vs rvs => ⟨wipe_setL σ is vs, ?_⟩
    · have he3 : EnvR K r3 H3 (DL.setL is vals (DL.wipeL env is)) (DL.setL is vs (wipe σ is)) := wp3.setL rvs
      refine ⟨r3, _, st2, b, st3, he3, s3, hb, fun r4 H4 e4 s4 => ?_⟩
      cases b with
      | false =>
        rw [if_neg Bool.false_ne_true] at hl2 ⊢
        obtain ⟨m4, k4⟩ := mk.step (e3.trans e4) s4
        exact ⟨hlt, r4, st3, acc, us, ys, m4, wp3.ext e4, k4.trans hus, racc.ext (e3.trans e4), hl2, hcat⟩
      | true =>
        rw [if_pos rfl] at hl2 ⊢
        obtain ⟨⟨yd, st4⟩, hy, hl3⟩ := Option.bind_eq_some_iff.mp hl2
        obtain ⟨⟨ys', st5⟩, hl4, hl5⟩ := Option.map_eq_some_iff.mp hl3
        cases hl5
        refine ⟨r4, _, st3, yd, st4, he3.ext e4, s4, hy, fun yv r5 H5 e5 s5 ry => ?_⟩
        have e25 : Ext r2 H2 r5 H5 := (e3.trans e4).trans e5
        obtain ⟨m5, k5⟩ := mk.step e25 s5
        obtain ⟨m6, g1⟩ := m5.put q1 hD (.lst (us ++ [yv]))
        refine ⟨us, k5.trans hus, ?_, hlt, r5, st4, acc ++ [yd], us ++ [yv], ys', m6, ((wp3.ext e4).ext e5).exx g1, upd_same, ((racc.ext e25).ex g1).append (.cons (ry.ex g1) .nil), hl4, by rw [← hcat, List.append_assoc]; rfl⟩
        rw [racc.len]
        have : (acc ++ yd :: ys').length ≤ sizeLine := by rw [hcat]; exact hz
        rw [List.length_append, List.length_cons] at this
        omega
/-- [elt for x in xs if ..] -/
theorem de_lc {RR : RD} {elt : Expr} {ifs : List Expr} {scope : Scope} {own : List (Str × Nat)} {pos : Pos} {fi : FI} {bd : FB} {g : TG} {t : FT} {f : F} (hc : X.calm = true) (hN : X.N.Nodup) (hi : DIR X RR tg iter fi) (ok : BlkOk X.N X.env.scope scope own)
    (tk : TgOkR X.K RR g (own.map (·.2)) bd)
    (hg : ∀ (s : Shared) (H : Hp) (C : Addr) (cl : List (Str × Addr)) (fp : List Addr), PG (X.blk s H scope (compEnvC scope cl C X.env) fp) tg g) (ht : ∀ (s : Shared) (H : Hp) (C : Addr) (cl : List (Str × Addr)) (fp : List Addr), DTs (X.blk s H scope (compEnvC scope cl C X.env) fp) ifs t)
    (he : ∀ (s : Shared) (H : Hp) (C : Addr) (cl : List (Str × Addr)) (fp : List Addr), DE (X.blk s H scope (compEnvC scope cl C X.env) fp) elt f) (hs : ∀ x, foldedSetIterable iter X.env x = pure x := by intro _; rfl) :
    DE X (.ListComp elt [⟨tg, iter, ifs, 0⟩] scope pos) (fComp fi (own.map (·.2)) bd t f) := weakE (pe_lc hc hN hi ok hg ht he hs) fun σ H Q hh => compReads tk σ H Q hh
/-- y = [elt for x in xs if ..] on one line -/
theorem ds_setLc {RR : RD} {i : Nat} {y : Str} {py : Pos} {elt : Expr} {ifs : List Expr} {scope : Scope} {own : List (Str × Nat)} {pos spos : Pos} {fi : FI} {bd : FB} {g : TG} {t : FT} {f : F} (hc : X.calm = true) (hN : X.N.Nodup) (hy : X.N[i]? = some y) (hyl : X.env.scope.names.lookup y = some .local)
    (hsw : swapsWith (.ListComp elt [⟨tg, iter, ifs, 0⟩] scope pos) (some (.Name y py)) spos.line X.env = pure true) (hi : DIR X RR tg iter fi) (ok : BlkOk X.N X.env.scope scope own)
    (tk : TgOkR X.K RR g (own.map (·.2)) bd)
    (hg : ∀ (s : Shared) (H : Hp) (C : Addr) (cl : List (Str × Addr)) (fp : List Addr), PG (X.blk s H scope (compEnvC scope cl C X.env) fp) tg g) (ht : ∀ (s : Shared) (H : Hp) (C : Addr) (cl : List (Str × Addr)) (fp : List Addr), DTs (X.blk s H scope (compEnvC scope cl C X.env) fp) ifs t)
    (he : ∀ (s : Shared) (H : Hp) (C : Addr) (cl : List (Str × Addr)) (fp : List Addr), DE (X.blk s H scope (compEnvC scope cl C X.env) fp) elt f) (hs : ∀ x, foldedSetIterable iter X.env x = pure x := by intro _; rfl) :
    DS X W (.Assign [.Name y py] (.ListComp elt [⟨tg, iter, ifs, 0⟩] scope pos) spos) (sAsg (fComp fi (own.map (·.2)) bd t f) (gN i)) := weakS (ps_setLc hc hN hy hyl hsw hi ok hg ht he hs) fun D' σ H hh => by
  obtain ⟨r, env, st, o, env', st', he, hs, hf, q⟩ := hh
  obtain ⟨⟨d, s1⟩, h1, h2⟩ := Option.bind_eq_some_iff.mp hf
  obtain ⟨e1, h3, h4⟩ := Option.map_eq_some_iff.mp h2
  cases h4
  cases h3
  exact compReads tk σ H _ ⟨r, env, st, d, _, he, hs, h1, fun v r1 H1 x1 q1 p1 => q _ r1 H1 x1 ((he.ext x1).set p1 i) q1⟩
end
end DL
namespace DL
open PySem PySem.Spec PyProof.Rows L2
open Builtin.Int (intBits)
variable {K : PySem.W.Frag}
section
variable {X : Cx} {W : WXd}
/-- the first of two functions that answers -/
def orD (g g' : D → D → Option D) : D → D → Option D := fun a b => (g a b).or (g' a b)
theorem OpOk.or {f : Value → Value → Sem Value} {g g' : D → D → Option D} (h : OpOk X f g) (h' : OpOk X f g') : OpOk X f (orD g g') := by
  obtain ⟨r, hr, k⟩ := h
  obtain ⟨r', hr', k'⟩ := h'
  refine ⟨_, hr.or hr', fun rho H x y a b d st Q si ra rb e q => ?_⟩
  unfold orD at e
  cases z : g a b with
  | some c =>
    rw [z] at e
    cases e
    exact .inl (k rho H x y a b _ st Q si ra rb z q)
  | none =>
    rw [z] at e
    exact .inr (k' rho H x y a b d st Q si ra rb e q)
/-- two ints, under a condition -/
def onI (c : Int → Int → Prop) [∀ i j, Decidable (c i j)] (g : Int → Int → D) : D → D → Option D := fun a b => match a, b with
  | .int i, .int j => if c i j then some (g i j) else none
  | _, _ => none
theorem onI_some {c : Int → Int → Prop} [∀ i j, Decidable (c i j)] {g : Int → Int → D} {a b d : D} (h : onI c g a b = some d) : ∃ i j, a = .int i ∧ b = .int j ∧ c i j ∧ d = g i j := by
  cases a <;> cases b <;> first
    | cases h; done
    | skip
  rename_i i j
  have h' : (if c i j then some (g i j) else none) = some d := h
  by_cases z : c i j
  · rw [if_pos z] at h'
    cases h'
    exact ⟨i, j, rfl, rfl, z, rfl⟩
  · rw [if_neg z] at h'
    cases h'
theorem ok_int {f : Value → Value → Sem Value} {c C : Int → Int → Prop} [∀ i j, Decidable (c i j)] {g : Int → Int → Int} (h : OpR X f (rI C fun i j => .int (g i j))) (hc : ∀ i j, c i j → C i j) : OpOk X f (onI c fun i j => .int (g i j)) :=
  ⟨_, h, fun rho H x y a b d st Q si ra rb e q => by
    obtain ⟨i, j, rfl, rfl, z, rfl⟩ := onI_some e
    cases ra
    cases rb
    exact ⟨i, j, rfl, rfl, hc i j z, q _ H (fun _ _ h => h) (.int _)⟩⟩
theorem ok_int0 {f : Value → Value → Sem Value} {g : Int → Int → Int} (h : OpR X f (rI0 fun i j => .int (g i j))) : OpOk X f (onI (fun _ _ => True) fun i j => .int (g i j)) :=
  ⟨_, h, fun rho H x y a b d st Q si ra rb e q => by
    obtain ⟨i, j, rfl, rfl, z, rfl⟩ := onI_some e
    cases ra
    cases rb
    exact ⟨i, j, rfl, rfl, q _ H (fun _ _ h => h) (.int _)⟩⟩
theorem ok_intB {f : Value → Value → Sem Value} {g : Int → Int → Bool} (h : OpR X f (rI0 fun i j => .bl (g i j))) : OpOk X f (onI (fun _ _ => True) fun i j => .bl (g i j)) :=
  ⟨_, h, fun rho H x y a b d st Q si ra rb e q => by
    obtain ⟨i, j, rfl, rfl, z, rfl⟩ := onI_some e
    cases ra
    cases rb
    exact ⟨i, j, rfl, rfl, q _ H (fun _ _ h => h) (.bl _)⟩⟩
/-- two texts -/
def onS (c : Str → Str → Prop) [∀ i j, Decidable (c i j)] (g : Str → Str → D) : D → D → Option D := fun a b => match a, b with
  | .str i, .str j => if c i j then some (g i j) else none
  | _, _ => none
theorem onS_some {c : Str → Str → Prop} [∀ i j, Decidable (c i j)] {g : Str → Str → D} {a b d : D} (h : onS c g a b = some d) : ∃ i j, a = .str i ∧ b = .str j ∧ c i j ∧ d = g i j := by
  cases a <;> cases b <;> first
    | cases h; done
    | skip
  rename_i i j
  have h' : (if c i j then some (g i j) else none) = some d := h
  by_cases z : c i j
  · rw [if_pos z] at h'
    cases h'
    exact ⟨i, j, rfl, rfl, z, rfl⟩
  · rw [if_neg z] at h'
    cases h'
/-! ### + - * // % ** -/
def addI : D → D → Option D := onI (fun _ _ => True) fun i j => .int (i + j)
theorem ok_addI : OpOk X (binaryOp .Add) addI := ok_int0 op_add
def subI : D → D → Option D := onI (fun _ _ => True) fun i j => .int (i - j)
theorem ok_subI : OpOk X (binaryOp .Sub) subI := ok_int0 op_sub
def mulI : D → D → Option D := onI (fun i j => intBits i + intBits j ≤ 134217728) fun i j => .int (i * j)
theorem op_mulL : OpR X (binaryOp .Mult) (rI IntMulOk fun i j => .int (i * j)) := opI fun _ _ _ _ _ _ _ hc q => mul_int q hc
theorem ok_mulI : OpOk X (binaryOp .Mult) mulI := ok_int op_mulL fun i j h => IntMulOk.of_le (Nat.le_refl _) (Nat.le_refl _) h
def fdivI : D → D → Option D := onI (fun _ j => 0 < j ∧ j < 1073741824) fun i j => .int (i / j)
theorem ok_fdivI : OpOk X (binaryOp .FloorDiv) fdivI := ok_int op_fdiv fun i j h => h
def modI : D → D → Option D := onI (fun _ j => 0 < j) fun i j => .int (i % j)
theorem ok_modI : OpOk X (binaryOp .Mod) modI := ok_int op_mod fun i j h => h
def powI : D → D → Option D := onI (fun i j => 0 ≤ j ∧ (intBits i : Int) * j ≤ 2 ^ 27) fun i j => .int (i ^ j.toNat)
theorem op_powL : OpR X (binaryOp .Pow) (rI (fun i j => 0 ≤ j ∧ (intBits i : Int) * j ≤ 2 ^ 27) fun i j => .int (i ^ j.toNat)) := opI fun _ _ _ _ _ _ _ hc q => pow_int hc.1 hc.2 q
theorem ok_powI : OpOk X (binaryOp .Pow) powI := ok_int op_powL fun i j h => h
def addS : D → D → Option D := onS (fun i j => i.length + j.length ≤ sizeLine) fun i j => .str (i ++ j)
theorem ok_addS : OpOk X (binaryOp .Add) addS := ⟨_, op_add_str, fun rho H x y a b d st Q si ra rb e q => by
  obtain ⟨i, j, rfl, rfl, z, rfl⟩ := onS_some e
  cases ra
  cases rb
  exact ⟨i, j, rfl, rfl, z, q _ H (fun _ _ h => h) (.str _)⟩⟩
def addL : D → D → Option D := fun a b => match a, b with
  | .lst xs, .lst ys => if xs.length + ys.length ≤ sizeLine then some (.lst (xs ++ ys)) else none
  | _, _ => none
theorem ok_addL : OpOk X (binaryOp .Add) addL := ⟨_, op_cat, fun rho H x y a b d st Q si ra rb e q => by
  cases a <;> cases b <;> first
    | cases e; done
    | skip
  rename_i xs ys
  have e' : (if xs.length + ys.length ≤ sizeLine then some (D.lst (xs ++ ys)) else none) = some d := e
  by_cases z : xs.length + ys.length ≤ sizeLine
  · rw [if_pos z] at e'
    cases e'
    cases ra with
    | lst a1 a2 a3 =>
      cases rb with
      | lst b1 b2 b3 =>
        refine ⟨_, _, _, _, rfl, rfl, a1, b1, by rw [a3.len, b3.len]; exact z, fun p hp => ?_⟩
        exact q _ _ (same_alloc hp) (.lst upd_same (si.free hp) ((a3.append b3).ex (Ex.same rho (same_alloc hp))))
  · rw [if_neg z] at e'
    cases e'⟩
/-- t + u -/
def addT : D → D → Option D := fun a b => match a, b with
  | .tup xs, .tup ys => if xs.length + ys.length ≤ sizeLine then some (.tup (xs ++ ys)) else none
  | _, _ => none
theorem ok_addT : OpOk X (binaryOp .Add) addT := ⟨_, op_catF, fun rho H x y a b d st Q si ra rb e q => by
  cases a <;> cases b <;> first
    | cases e; done
    | skip
  rename_i xs ys
  have e' : (if xs.length + ys.length ≤ sizeLine then some (D.tup (xs ++ ys)) else none) = some d := e
  by_cases z : xs.length + ys.length ≤ sizeLine
  · rw [if_pos z] at e'
    cases e'
    obtain ⟨pa, us, rfl, sa, la⟩ := ra.sqT
    obtain ⟨pb, vs, rfl, sb, lb⟩ := rb.sqT
    refine ⟨pa, pb, us, vs, rfl, rfl, sa, sb, by rw [la.len, lb.len]; exact z, fun h => ?_, fun _ h2 => ?_, fun p o hp hz => ?_⟩
    · subst h
      cases la
      exact q _ H (fun _ _ h => h) rb
    · subst h2
      cases lb
      rw [List.append_nil] at q
      exact q _ H (fun _ _ h => h) ra
    · exact q _ _ (same_alloc hp) (.tup upd_same hz (si.free hp) ((la.append lb).ex (Ex.same rho (same_alloc hp))))
  · rw [if_neg z] at e'
    cases e'⟩
/-- x * n of a text -/
def mulS : D → D → Option D := fun a b => match a, b with
  | .str x, .int n => if 0 ≤ n ∧ n ≤ 1000 ∧ x.length ≤ 1000 then some (.str (Txt.mul x n)) else none
  | _, _ => none
theorem mulOk_small {x : Str} {n : Int} (h0 : 0 ≤ n) (h1 : n ≤ 1000) (h2 : x.length ≤ 1000) : MulOk x n := by
  refine ⟨?_, fun h _ => ?_, fun _ _ => ?_⟩
  · have a : ¬ n < -(2 ^ 63 : Int) := by omega
    have b : ¬ n ≥ 2 ^ 63 := by omega
    rw [decide_eq_false a, decide_eq_false b]; rfl
  · have hn : 0 < n := by omega
    intro z
    have : (2 ^ 63 - 1 : Int) / 1000 ≤ (2 ^ 63 - 1) / n := by
      refine Int.le_ediv_of_mul_le hn ?_
      omega
    omega
  · unfold Builtin.Str.tooLong
    have : x.length * n.toNat ≤ 1000 * 1000 := Nat.mul_le_mul h2 (by omega)
    have hs := sizeLine_eq
    rw [hs]
    exact decide_eq_false (by omega)
theorem op_mulS : OpR X (binaryOp .Mult) (fun x y H Q => ∃ i n, x = .str i ∧ y = .int n ∧ MulOk i n ∧ Q (.str (Txt.mul i n)) H) := by
  intro pins s σ H x y v u Q I rx ry h
  obtain ⟨i, n, rfl, rfl, hz, q⟩ := h
  obtain ⟨t, rfl⟩ := rx
  obtain ⟨t', rfl⟩ := ry
  exact SB.mul hz fun t' k => ⟨.str _, H, I.tok _, ⟨_, rfl⟩, q⟩
theorem ok_mulS : OpOk X (binaryOp .Mult) mulS := ⟨_, op_mulS, fun rho H x y a b d st Q si ra rb e q => by
  cases a <;> cases b <;> first
    | cases e; done
    | skip
  rename_i xs n
  have e' : (if 0 ≤ n ∧ n ≤ 1000 ∧ xs.length ≤ 1000 then some (D.str (Txt.mul xs n)) else none) = some d := e
  by_cases z : 0 ≤ n ∧ n ≤ 1000 ∧ xs.length ≤ 1000
  · rw [if_pos z] at e'
    cases e'
    cases ra
    cases rb
    exact ⟨xs, n, rfl, rfl, mulOk_small z.1 z.2.1 z.2.2, q _ H (fun _ _ h => h) (.str _)⟩
  · rw [if_neg z] at e'
    cases e'⟩
def opAdd : D → D → Option D := orD addI (orD addS (orD addL addT))
theorem ok_add : OpOk X (binaryOp .Add) opAdd := ok_addI.or (ok_addS.or (ok_addL.or ok_addT))
def opMul : D → D → Option D := orD mulI mulS
theorem ok_mul : OpOk X (binaryOp .Mult) opMul := ok_mulI.or ok_mulS
/-! ### comparisons -/
mutual
def toPy : D → Option PyData
  | .non => some .none
  | .bl b => some (.bool b)
  | .int i => some (.int i)
  | .str x => some (.str x)
  | .tup ds => (toPyL ds).map .tuple
  | .lst ds => (toPyL ds).map .list
  | .dct _ => none
  | .scr _ => none
  | .ref _ => none
def toPyL : List D → Option (List PyData)
  | [] => some []
  | d :: ds => (toPy d).bind fun p => (toPyL ds).map fun q => p :: q
end
mutual
theorem Rep.dp {r : Rf} {H : Hp} : ∀ {d : D} {v : V} {p : PyData}, Rep K r H v d → toPy d = some p → Dp K H v p
  | .non, _, _, .non, h => by cases h; exact .non
  | .bl _, _, _, .bl _, h => by cases h; exact .bl _
  | .int _, _, _, .int _, h => by cases h; exact .int _
  | .str _, _, _, .str _, h => by cases h; exact .str _
  | .tup ds, _, p, h, e => by
    obtain ⟨q, h1, h2⟩ := Option.map_eq_some_iff.mp (show (toPyL ds).map PyData.tuple = some p from e)
    subst h2
    obtain ⟨a, xs, rfl, s, l⟩ := h.sqT
    exact .tup s (RepL.dp l h1)
  | .lst ds, _, p, .lst a b c, e => by
    obtain ⟨q, h1, h2⟩ := Option.map_eq_some_iff.mp (show (toPyL ds).map PyData.list = some p from e)
    subst h2
    exact .lst (.of a) (RepL.dp c h1)
  | .dct _, _, _, _, e => by cases e
  | .scr _, _, _, _, e => by cases e
  | .ref _, _, _, _, e => by cases e
theorem RepL.dp {r : Rf} {H : Hp} : ∀ {ds : List D} {vs : List V} {ps : List PyData}, RepL K r H vs ds → toPyL ds = some ps → DpAll K H vs ps
  | [], _, _, .nil, h => by cases h; exact .nil
  | d :: ds, _, ps, .cons a b, h => by
    obtain ⟨p, h1, h2⟩ := Option.bind_eq_some_iff.mp (show ((toPy d).bind fun p => (toPyL ds).map fun q => p :: q) = some ps from h)
    obtain ⟨q, h3, h4⟩ := Option.map_eq_some_iff.mp h2
    subst h4
    exact .cons (Rep.dp a h1) (RepL.dp b h3)
end
def opEq : D → D → Option D := fun a b => (toPy a).bind fun p => (toPy b).bind fun q => if SeqAt.shaped p = true ∧ SeqAt.shaped q = true then some (.bl (PyData.eqv p q)) else none
def opNe : D → D → Option D := fun a b => (toPy a).bind fun p => (toPy b).bind fun q => if SeqAt.shaped p = true ∧ SeqAt.shaped q = true then some (.bl (!PyData.eqv p q)) else none
theorem ok_eq {k : Nat} (g : GX X k) : OpOk X (compareOp .Eq) opEq := ⟨_, op_eqD g.room.units, fun rho H x y a b d st Q si ra rb e q => by
  obtain ⟨p, h1, h2⟩ := Option.bind_eq_some_iff.mp e
  obtain ⟨p2, h3, h4⟩ := Option.bind_eq_some_iff.mp h2
  by_cases z : SeqAt.shaped p = true ∧ SeqAt.shaped p2 = true
  · rw [if_pos z] at h4
    cases h4
    exact ⟨p, p2, ra.dp h1, rb.dp h3, z.1, z.2, q _ H (fun _ _ h => h) (.bl _)⟩
  · rw [if_neg z] at h4
    cases h4⟩
theorem ok_ne {k : Nat} (g : GX X k) : OpOk X (compareOp .NotEq) opNe := ⟨_, op_neD g.room.units, fun rho H x y a b d st Q si ra rb e q => by
  obtain ⟨p, h1, h2⟩ := Option.bind_eq_some_iff.mp e
  obtain ⟨p2, h3, h4⟩ := Option.bind_eq_some_iff.mp h2
  by_cases z : SeqAt.shaped p = true ∧ SeqAt.shaped p2 = true
  · rw [if_pos z] at h4
    cases h4
    exact ⟨p, p2, ra.dp h1, rb.dp h3, z.1, z.2, q _ H (fun _ _ h => h) (.bl _)⟩
  · rw [if_neg z] at h4
    cases h4⟩
def ltI : D → D → Option D := onI (fun _ _ => True) fun i j => .bl (decide (i < j))
def leI : D → D → Option D := onI (fun _ _ => True) fun i j => .bl (decide (i ≤ j))
def gtI : D → D → Option D := onI (fun _ _ => True) fun i j => .bl (decide (j < i))
def geI : D → D → Option D := onI (fun _ _ => True) fun i j => .bl (decide (j ≤ i))
theorem op_gt_str : OpR X (compareOp .Gt) (fun x y H Q => ∃ i j, x = .str i ∧ y = .str j ∧ Q (.bl (decide (j.cps.toList < i.cps.toList))) H) := by
  intro pins s σ H x y v u Q I rx ry h
  obtain ⟨i, j, rfl, rfl, q⟩ := h
  obtain ⟨t, rfl⟩ := rx
  obtain ⟨t', rfl⟩ := ry
  exact PySem.P.gt_str (fin_bl I q rfl)
theorem op_ge_str : OpR X (compareOp .GtE) (fun x y H Q => ∃ i j, x = .str i ∧ y = .str j ∧ Q (.bl (!decide (i.cps.toList < j.cps.toList))) H) := by
  intro pins s σ H x y v u Q I rx ry h
  obtain ⟨i, j, rfl, rfl, q⟩ := h
  obtain ⟨t, rfl⟩ := rx
  obtain ⟨t', rfl⟩ := ry
  exact PySem.P.ge_str (fin_bl I q rfl)
def ltS : D → D → Option D := onS (fun _ _ => True) fun i j => .bl (decide (i.cps.toList < j.cps.toList))
def leS : D → D → Option D := onS (fun _ _ => True) fun i j => .bl (!decide (j.cps.toList < i.cps.toList))
def gtS : D → D → Option D := onS (fun _ _ => True) fun i j => .bl (decide (j.cps.toList < i.cps.toList))
def geS : D → D → Option D := onS (fun _ _ => True) fun i j => .bl (!decide (i.cps.toList < j.cps.toList))
theorem ok_strB {f : Value → Value → Sem Value} {g : Str → Str → Bool} (h : OpR X f (fun x y H Q => ∃ i j, x = .str i ∧ y = .str j ∧ Q (.bl (g i j)) H)) : OpOk X f (onS (fun _ _ => True) fun i j => .bl (g i j)) :=
  ⟨_, h, fun rho H x y a b d st Q si ra rb e q => by
    obtain ⟨i, j, rfl, rfl, z, rfl⟩ := onS_some e
    cases ra
    cases rb
    exact ⟨i, j, rfl, rfl, q _ H (fun _ _ h => h) (.bl _)⟩⟩
def opLt : D → D → Option D := orD ltI ltS
def opLe : D → D → Option D := orD leI leS
def opGt : D → D → Option D := orD gtI gtS
def opGe : D → D → Option D := orD geI geS
theorem ok_lt : OpOk X (compareOp .Lt) opLt := (ok_intB op_lt).or (ok_strB op_lt_str)
theorem ok_le : OpOk X (compareOp .LtE) opLe := (ok_intB op_le).or (ok_strB op_le_str)
theorem ok_gt : OpOk X (compareOp .Gt) opGt := (ok_intB op_gt).or (ok_strB op_gt_str)
theorem ok_ge : OpOk X (compareOp .GtE) opGe := (ok_intB op_ge).or (ok_strB op_ge_str)
/-- is None -/
def isNon : D → Bool | .non => true | _ => false
def isN : D → D → Option D := fun a b => match b with | .non => some (.bl (isNon a)) | _ => none
theorem rep_non {r : Rf} {H : Hp} {v : V} {a : D} (h : Rep K r H v a) : decide (v = .non) = isNon a := by cases h <;> rfl
theorem ok_isN : OpOk X (compareOp .Is) isN := ⟨_, op_isN, fun rho H x y a b d st Q si ra rb e q => by
  cases b with
  | non =>
    cases e
    cases rb
    exact ⟨rfl, by rw [rep_non ra]; exact q _ H (fun _ _ h => h) (.bl _)⟩
  | _ => cases e⟩
def isB : D → D → Option D := fun a b => match a, b with | .bl x, .bl y => some (.bl (decide (x = y))) | _, _ => none
theorem ok_isB : OpOk X (compareOp .Is) isB := ⟨_, op_isBl, fun rho H x y a b d st Q si ra rb e q => by
  cases a <;> cases b <;> first
    | cases e; done
    | skip
  cases ra
  cases rb
  cases e
  exact ⟨_, _, rfl, rfl, q _ H (fun _ _ h => h) (.bl _)⟩⟩
def opIs : D → D → Option D := orD isN isB
theorem ok_is : OpOk X (compareOp .Is) opIs := ok_isN.or ok_isB
end
end DL
namespace DL
open PySem PySem.Spec PyProof.Rows L2
variable {K : PySem.W.Frag}
theorem orE {X : Cx} {e : Expr} {t t' : TE} (h : PE X e t) (h' : PE X e t') : PE X e (fun σ H Q => t σ H Q ∨ t' σ H Q) := ⟨fun pins s σ H Q I q => q.elim (h.run pins s σ H Q I) (h'.run pins s σ H Q I)⟩
/-! ### a[b] -/
def asKey : D → Option Key | .int i => some (.inl i) | .str x => some (.inr x) | _ => none
def valD (kvs : List (Key × D)) (k : Key) : Option D := (kvs.find? fun kv => decide (kv.1 = k)).map (·.2)
def ixD : D → D → Store → Option D := fun a b st => match a, b with
  | .lst ds, .int i => atI ds i
  | .tup ds, .int i => atI ds i
  | .str x, .int i => if x.length ≤ sizeLine then (atI x.cps.toList i).map fun c => .str ⟨#[c]⟩ else none
  | .scr ns, .int i => (atI ns i).map .int
  | .dct kvs, k => (asKey k).bind fun k => valD kvs k
  | .ref n, k => match st[n]? with
    | some (.lst ds) => (match k with | .int i => atI ds i | _ => none)
    | some (.dct kvs) => (asKey k).bind fun k => valD kvs k
    | some (.ldc kvs) => (asKey k).bind fun k => valD kvs k
    | _ => none
  | _, _ => none
def fSub (fa fb : F) : F := fun env st => (fa env st).bind fun p => (fb env p.2).bind fun q => (ixD p.1 q.1 q.2).map fun d => (d, q.2)
theorem RepL.atI {r : Rf} {H : Hp} {vs : List V} {ds : List D} (l : RepL K r H vs ds) {i : Int} {d : D} (h : L2.atI ds i = some d) : ∃ v, L2.atI vs i = some v ∧ Rep K r H v d := by
  unfold L2.atI at h ⊢
  obtain ⟨j, h1, h2⟩ := Option.bind_eq_some_iff.mp h
  obtain ⟨v, h3, h4⟩ := l.get h2
  exact ⟨v, by rw [l.len, h1]; exact h3, h4⟩
theorem atI_map {α β : Type} (f : α → β) (xs : List α) (i : Int) : L2.atI (xs.map f) i = (L2.atI xs i).map f := by
  unfold L2.atI
  rw [List.length_map]
  cases ixN xs.length i with
  | none => rfl
  | some j => simp
theorem RepK.val {r : Rf} {H : Hp} {k : Key} : ∀ {vs : List (Key × V)} {ds : List (Key × D)}, RepK K r H vs ds → ∀ {d : D}, valD ds k = some d → ∃ v, valV vs k = some v ∧ Rep K r H v d
  | _, _, .nil, d, h => by cases h
  | _, _, .cons (k := k0) (vs := vs) (ds := ds) a b, d, h => by
    unfold valD at h
    unfold valV
    rw [List.find?_cons] at h ⊢
    by_cases z : k0 = k
    · simp only [z, decide_true] at h ⊢
      cases h
      exact ⟨_, rfl, a⟩
    · simp only [z, decide_false] at h ⊢
      exact RepK.val b h
theorem asKey_rep {r : Rf} {H : Hp} {v : V} {d : D} {k : Key} (h : Rep K r H v d) (e : asKey d = some k) : v = kV k := by
  cases d <;> first
    | cases e; done
    | skip
  · cases h; cases e; rfl
  · cases h; cases e; rfl
theorem Rep.scrL {r : Rf} {H : Hp} {v : V} {ns : List Int} (h : Rep K r H v (.scr ns)) : ∃ a, v = .ref a ∧ SqL K H a (ns.map V.int) := by
  cases h with
  | scr a b => exact ⟨_, rfl, .inl (.inr ⟨_, a⟩)⟩
  | scrK a b c d e f => exact ⟨_, rfl, .inr ⟨_, _, _, a, b, c, d, e, f⟩⟩
theorem Rep.refI {r : Rf} {H : Hp} {v : V} {n : Nat} (h : Rep K r H v (.ref n)) : ∃ a, v = .ref a ∧ r.adr[n]? = some a := by
  cases h with
  | ref h => exact ⟨_, rfl, h⟩
section
variable {X : Cx} {W : WXd}
def isD : D → Store → Bool := fun a st => match a with
  | .dct _ => true
  | .ref n => (match st[n]? with | some (.dct _) => true | some (.ldc _) => true | _ => false)
  | _ => false
theorem ixReadsS {rho : Rf} {H : Hp} {x y : V} {a b d : D} {st : Store} (si : Sim K rho H st) (ra : Rep K rho H x a) (rb : Rep K rho H y b) (e : ixD a b st = some d) (nd : isD a st = false) :
    ∃ v, Rep K rho H v d ∧ ∀ Q : VK, Q v H → rIx K x y H Q := by
  unfold ixD at e
  split at e
  · rename_i ds i
    cases rb
    cases ra with
    | lst h1 h2 h3 =>
      obtain ⟨v, hv, rv⟩ := h3.atI e
      exact ⟨v, rv, fun Q q => .inl ⟨_, _, i, v, rfl, rfl, .of h1, hv, q⟩⟩
  · rename_i ds i
    cases rb
    obtain ⟨p, us, rfl, s, l⟩ := ra.sqT
    obtain ⟨v, hv, rv⟩ := l.atI e
    exact ⟨v, rv, fun Q q => .inr (.inl ⟨_, _, i, v, rfl, rfl, s, hv, q⟩)⟩
  · rename_i z i
    cases rb
    cases ra
    split at e
    · rename_i hz
      obtain ⟨c, hc, e2⟩ := Option.map_eq_some_iff.mp e
      subst e2
      exact ⟨_, .str _, fun Q q => .inr (.inr ⟨z, i, c, rfl, rfl, hz, hc, q⟩)⟩
    · cases e
  · rename_i ns i
    cases rb
    obtain ⟨p, rfl, s⟩ := ra.scrL
    obtain ⟨c, hc, e2⟩ := Option.map_eq_some_iff.mp e
    subst e2
    refine ⟨_, .int c, fun Q q => .inl ⟨_, _, i, .int c, rfl, rfl, s, ?_, q⟩⟩
    rw [atI_map, hc]; rfl
  · cases nd
  · rename_i n
    obtain ⟨p, rfl, hp⟩ := ra.refI
    split at e
    · rename_i ds hst
      split at e
      · rename_i i
        cases rb
        obtain ⟨av, xs, hx, l⟩ := si.ob n p _ hp hst
        obtain ⟨v, hv, rv⟩ := l.atI e
        exact ⟨v, rv, fun Q q => .inl ⟨_, _, i, v, rfl, rfl, .of hx, hv, q⟩⟩
      · cases e
    · rename_i kvs hst
      unfold isD at nd
      simp only [hst] at nd
      cases nd
    · rename_i kvs hst
      unfold isD at nd
      simp only [hst] at nd
      cases nd
    · cases e
  · cases e
theorem dget_rd {H : Hp} {a : Addr} {kvs : List (Key × V)} {k : Key} (e : Rd H a (.dK kvs)) : DGet H a (kV k) (valV kvs k) := .inl ⟨kvs, k, e, rfl, rfl⟩
theorem ixReadsD {rho : Rf} {H : Hp} {x y : V} {a b d : D} {st : Store} (si : Sim K rho H st) (ra : Rep K rho H x a) (rb : Rep K rho H y b) (e : ixD a b st = some d) (nd : isD a st = true) :
    ∃ p v, x = .ref p ∧ DGet H p y (some v) ∧ Rep K rho H v d := by
  cases a with
  | dct kvs =>
    obtain ⟨k, hk, h2⟩ := Option.bind_eq_some_iff.mp (show ((asKey b).bind fun k => valD kvs k) = some d from e)
    have ey := asKey_rep rb hk
    subst ey
    cases ra with
    | dct h1 n1 l1 =>
      obtain ⟨v, hv, rv⟩ := l1.val h2
      exact ⟨_, v, rfl, by rw [← hv]; exact dget_rd (.inr ⟨_, h1⟩), rv⟩
  | ref n =>
    have nd' : (match st[n]? with | some (.dct _) => true | some (.ldc _) => true | _ => false) = true := nd
    · split at nd'
      · rename_i kvs hst
        have e' : ((asKey b).bind fun k => valD kvs k) = some d := by
          unfold ixD at e
          simp only [hst] at e
          exact e
        obtain ⟨k, hk, h2⟩ := Option.bind_eq_some_iff.mp e'
        have ey := asKey_rep rb hk
        subst ey
        obtain ⟨p, rfl, hp⟩ := ra.refI
        obtain ⟨av, xs, hx, l⟩ := si.ob _ p _ hp hst
        obtain ⟨v, hv, rv⟩ := l.val h2
        exact ⟨_, v, rfl, by rw [← hv]; exact .k hx, rv⟩
      · rename_i kvs hst
        have e' : ((asKey b).bind fun k => valD kvs k) = some d := by
          unfold ixD at e
          simp only [hst] at e
          exact e
        obtain ⟨k, hk, h2⟩ := Option.bind_eq_some_iff.mp e'
        have ey := asKey_rep rb hk
        subst ey
        obtain ⟨p, rfl, hp⟩ := ra.refI
        obtain ⟨av, lk, o, xs, hx, l⟩ := si.ob _ p _ hp hst
        obtain ⟨v, hv, rv⟩ := l.val h2
        exact ⟨_, v, rfl, by rw [← hv]; exact dget_rd (.inr ⟨_, hx⟩), rv⟩
      · cases nd'
  | _ => cases nd
theorem de_sub {a b : Expr} {fa fb : F} {pos : Pos} {k : Nat} (g : GX X k) (ha : DE X a fa) (hb : DE X b fb) (hs : PlainIx b := by intro _ _; rfl) : DE X (.Subscript a b pos) (fSub fa fb) :=
  weakE (orE (pe_ix ix_seq ha hb hs) (pe_dget (hu_of g.room) ha hb hs)) fun σ H Q hh => by
  obtain ⟨r, env, st, d, st', he, hs, hf, q⟩ := hh
  obtain ⟨⟨x, s1⟩, h1, hf1⟩ := Option.bind_eq_some_iff.mp hf
  obtain ⟨⟨y, s2⟩, h2, hf2⟩ := Option.bind_eq_some_iff.mp hf1
  obtain ⟨d', h3, hf3⟩ := Option.map_eq_some_iff.mp hf2
  cases hf3
  cases z : isD x s2 with
  | true =>
    refine .inr (two he hs h1 h2 fun u v r' H' e1 q1 pu pv => ?_)
    obtain ⟨p, w, ep, dg, rw'⟩ := ixReadsD q1 pu pv h3 z
    exact ⟨p, w, ep, dg, q w r' H' e1 q1 rw'⟩
  | false =>
    refine .inl (two he hs h1 h2 fun u v r' H' e1 q1 pu pv => ?_)
    obtain ⟨w, rw', k'⟩ := ixReadsS q1 pu pv h3 z
    exact k' Q (q w r' H' e1 q1 rw')
/-! ### a[lo:hi] -/
abbrev FO := Lo → Store → Option (Option Int × Store)
def oNone : FO := fun _ st => some (none, st)
def oSome (f : F) : FO := fun env st => (f env st).bind fun p => match p.1 with | .int i => some (some i, p.2) | _ => none
def tO (K : PySem.W.Frag) (f : FO) : TO := fun σ H Q => ∃ r env st o st', EnvR K r H env σ ∧ Sim K r H st ∧ f env st = some (o, st') ∧ ∀ r' H', Ext r H r' H' → Sim K r' H' st' → Q o H'
abbrev DO' (X : Cx) (e : Option Expr) (f : FO) : Prop := PO X e (tO X.K f)
theorem weakO {e : Option Expr} {t t' : TO} (h : PO X e t) (i : ∀ σ H Q, t' σ H Q → t σ H Q) : PO X e t' := ⟨fun pins s σ H Q I q => h.run pins s σ H Q I (i σ H Q q)⟩
theorem do_none : DO' X none oNone := weakO po_none fun σ H Q hh => by
  obtain ⟨r, env, st, o, st', he, hs, hf, q⟩ := hh
  cases hf
  exact q r H (.refl r H) hs
theorem do_some {e : Expr} {f : F} (h : DE X e f) : DO' X (some e) (oSome f) := weakO (po_some h) fun σ H Q hh => by
  obtain ⟨r, env, st, o, st', he, hs, hf, q⟩ := hh
  obtain ⟨⟨x, s1⟩, h1, hf1⟩ := Option.bind_eq_some_iff.mp hf
  cases x with
  | int i =>
    cases hf1
    exact ⟨r, env, st, _, _, he, hs, h1, fun v r1 H1 e1 q1 p1 => by
      cases p1
      exact ⟨i, rfl, q r1 H1 e1 q1⟩⟩
  | _ => cases hf1
def cutD {α : Type} (xs : List α) (lo hi : Option Int) : List α := (xs.drop (HT.sIx xs.length 0 lo)).take (HT.sIx xs.length xs.length hi - HT.sIx xs.length 0 lo)
def slD : D → Option Int → Option Int → Option D := fun a lo hi => match a with
  | .lst ds => some (.lst (cutD ds lo hi))
  | .tup ds => some (.tup (cutD ds lo hi))
  | _ => none
theorem RepL.cut {r : Rf} {H : Hp} {vs : List V} {ds : List D} (l : RepL K r H vs ds) (lo hi : Option Int) : RepL K r H (cutV vs lo hi) (cutD ds lo hi) := by
  unfold cutV cutD
  rw [l.len]
  exact (l.drop _).take _
def fSlice (fa : F) (lo hi : FO) : F := fun env st => (fa env st).bind fun p => (lo env p.2).bind fun q => (hi env q.2).bind fun w => (slD p.1 q.1 w.1).map fun d => (d, w.2)
theorem cut_all {α : Type} {xs : List α} {lo hi : Option Int} (h : HT.sIx xs.length 0 lo = 0 ∧ HT.sIx xs.length xs.length hi = xs.length) : cutD xs lo hi = xs := by
  unfold cutD
  rw [h.1, h.2]
  simp
theorem de_slice {a : Expr} {lo hi : Option Expr} {fa : F} {fl fh : FO} {p2 pos : Pos} (ha : DE X a fa) (hl : DO' X lo fl) (hh : DO' X hi fh) : DE X (.Subscript a (.Slice lo hi none p2) pos) (fSlice fa fl fh) :=
  weakE (pe_slice (sl_list.or sl_tupF) ha hl hh) fun σ H Q hh => by
  obtain ⟨r, env, st, d, st', he, hs, hf, q⟩ := hh
  obtain ⟨⟨x, s1⟩, h1, hf1⟩ := Option.bind_eq_some_iff.mp hf
  obtain ⟨⟨i, s2⟩, h2, hf2⟩ := Option.bind_eq_some_iff.mp hf1
  obtain ⟨⟨j, s3⟩, h3, hf3⟩ := Option.bind_eq_some_iff.mp hf2
  obtain ⟨d', h4, hf4⟩ := Option.map_eq_some_iff.mp hf3
  cases hf4
  refine ⟨r, env, st, x, s1, he, hs, h1, fun u r1 H1 e1 q1 p1 => ⟨r1, env, s1, i, s2, he.ext e1, q1, h2, fun r2 H2 e2 q2 => ⟨r2, env, s2, j, _, (he.ext e1).ext e2, q2, h3, fun r3 H3 e3 q3 => ?_⟩⟩⟩
  have p3 := (p1.ext e2).ext e3
  have e13 := (e1.trans e2).trans e3
  cases x with
  | lst ds =>
    cases h4
    cases p3 with
    | lst g1 g2 g3 => exact .inl ⟨_, _, rfl, .of g1, fun p hp => q _ _ _ (e13.trans (q3.ext (same_alloc hp))) (q3.same (same_alloc hp)) (.lst upd_same (q3.free hp) ((g3.cut i j).ex (Ex.same r3 (same_alloc hp))))⟩
  | tup ds =>
    cases h4
    obtain ⟨p, us, rfl, s, l⟩ := p3.sqT
    refine .inr ⟨p, us, rfl, s, fun w => ?_, fun p' o hp hz => ?_⟩
    · rw [l.len] at w
      rw [cut_all w] at q
      exact q _ r3 H3 e13 q3 p3
    · exact q _ _ _ (e13.trans (q3.ext (same_alloc hp))) (q3.same (same_alloc hp)) (.tup upd_same hz (q3.free hp) ((l.cut i j).ex (Ex.same r3 (same_alloc hp))))
  | _ => cases h4
/-! ### what is written: an object of the store -/
theorem Sim.set {r : Rf} {H : Hp} {st : Store} (s : Sim K r H st) {n : Nat} {a : Addr} {o : HO} {ob : Ob} (ha : r.adr[n]? = some a) (hav : r.av a) (hob : ObR K r (upd H a o) a ob) (nl : ∀ o u, H a ≠ some (.frz o u)) : Ext r H r (upd H a o) ∧ Sim K r (upd H a o) (st.set n ob) := by
  have hm : a ∈ r.adr := List.mem_of_getElem? ha
  have nlk : ∀ q, r.lk q → q ≠ a := fun q z y => by
    obtain ⟨o, u, h⟩ := s.lkd q z
    exact nl o u (by rw [← y]; exact h)
  have ex : Ext r H r (upd H a o) := ⟨⟨⟨[], by simp⟩, fun q x z m => by rw [upd_ne (fun y => m (by rw [y]; exact hav))]; exact z, fun q z m => absurd z m⟩,
    fun q v m => ⟨by rw [upd_ne (fun y => m (by rw [y]; exact hm))], v, m⟩, fun _ => Iff.rfl, fun q v => by rw [upd_ne (nlk q v)]⟩
  refine ⟨ex, by rw [List.length_set]; exact s.len, s.nd, fun m b x h1 h2 => ?_, fun q v => ?_, fun q v => ?_, fun q v => by rw [upd_ne (nlk q v)]; exact s.lkd q v⟩
  · by_cases z : n = m
    · subst z
      rw [ha] at h1
      cases h1
      by_cases hl : n < st.length
      · rw [List.getElem?_set_self hl] at h2
        cases h2
        exact hob
      · rw [List.getElem?_eq_none (by rw [List.length_set]; omega)] at h2
        cases h2
    · rw [List.getElem?_set_ne z] at h2
      have nb : b ≠ a := fun y => z (by
        subst y
        obtain ⟨l1, e1⟩ := List.getElem?_eq_some_iff.mp ha
        obtain ⟨l2, e2⟩ := List.getElem?_eq_some_iff.mp h1
        exact (List.getElem_inj s.nd).mp (e1.trans e2.symm))
      exact (s.ob m b x h1 h2).ex ex.toEx fun v => ⟨by rw [upd_ne nb], v⟩
  · by_cases z : q = a
    · exact ⟨_, by rw [z]; exact upd_same⟩
    · rw [upd_ne z]; exact s.there q v
  · by_cases z : q = a
    · exact ⟨_, by rw [z]; exact upd_same⟩
    · rw [upd_ne z]; exact s.old q v
def putD (kvs : List (Key × D)) (k : Key) (v : D) : List (Key × D) := if kvs.any (fun kv => decide (kv.1 = k)) then kvs.map fun kv => if kv.1 = k then (kv.1, v) else kv else kvs ++ [(k, v)]
theorem RepK.len {r : Rf} {H : Hp} : ∀ {vs : List (Key × V)} {ds : List (Key × D)}, RepK K r H vs ds → vs.length = ds.length
  | _, _, .nil => rfl
  | _, _, .cons _ b => by rw [List.length_cons, List.length_cons, RepK.len b]
theorem RepK.any {r : Rf} {H : Hp} {k : Key} : ∀ {vs : List (Key × V)} {ds : List (Key × D)}, RepK K r H vs ds → (vs.any fun kv => decide (kv.1 = k)) = ds.any fun kv => decide (kv.1 = k)
  | _, _, .nil => rfl
  | _, _, .cons _ b => by rw [List.any_cons, List.any_cons, RepK.any b]
theorem RepK.repl {r : Rf} {H : Hp} {k : Key} {v : V} {d : D} (q : Rep K r H v d) : ∀ {vs : List (Key × V)} {ds : List (Key × D)}, RepK K r H vs ds → RepK K r H (vs.map fun kv => if kv.1 = k then (kv.1, v) else kv) (ds.map fun kv => if kv.1 = k then (kv.1, d) else kv)
  | _, _, .nil => .nil
  | _, _, .cons (k := k0) a b => by
    rw [List.map_cons, List.map_cons]
    by_cases z : k0 = k
    · rw [if_pos z, if_pos z]
      exact .cons q (RepK.repl q b)
    · rw [if_neg z, if_neg z]
      exact .cons a (RepK.repl q b)
theorem RepK.snoc {r : Rf} {H : Hp} {k : Key} {v : V} {d : D} (q : Rep K r H v d) : ∀ {vs : List (Key × V)} {ds : List (Key × D)}, RepK K r H vs ds → RepK K r H (vs ++ [(k, v)]) (ds ++ [(k, d)])
  | _, _, .nil => .cons q .nil
  | _, _, .cons a b => .cons a (RepK.snoc q b)
theorem RepK.put {r : Rf} {H : Hp} {k : Key} {v : V} {d : D} (q : Rep K r H v d) {vs : List (Key × V)} {ds : List (Key × D)} (l : RepK K r H vs ds) : RepK K r H (putK vs k v) (putD ds k d) := by
  unfold putK putD
  rw [l.any]
  split
  · exact l.repl q
  · exact l.snoc q
/-- o[k] = v, o a dict of the store -/
def sPut (fo fk fv : F) : FS := fun env st => (fv env st).bind fun p => (fo env p.2).bind fun q => (fk env q.2).bind fun w => match q.1 with
  | .ref n => (match w.2[n]? with
    | some (.dct kvs) => (asKey w.1).bind fun k => if kvs.length < sizeLine then some (.nx, env, w.2.set n (.dct (putD kvs k p.1))) else none
    | _ => none)
  | _ => none
theorem ds_put {o i value : Expr} {fo fk fv : F} {pos pos' : Pos} {k : Nat} (g : GX X k) (ho : DE X o fo) (hi : DE X i fk) (hv : DE X value fv) (hs : swapsWith value (some (.Subscript o i pos')) pos.line X.env = pure false := by rfl) :
    DS X W (.Assign [.Subscript o i pos'] value pos) (sPut fo fk fv) := weakS (ps_dput (hu_of g.room) ho hi hv hs) fun D' σ H hh => by
  obtain ⟨r, env, st, out, env', st', he, hs, hf, q⟩ := hh
  obtain ⟨⟨x, s1⟩, h1, hf1⟩ := Option.bind_eq_some_iff.mp hf
  obtain ⟨⟨y, s2⟩, h2, hf2⟩ := Option.bind_eq_some_iff.mp hf1
  obtain ⟨⟨z, s3⟩, h3, hf3⟩ := Option.bind_eq_some_iff.mp hf2
  cases y with
  | ref n =>
    simp only at hf3
    split at hf3
    · rename_i kvs hst
      obtain ⟨kk, hk, hf4⟩ := Option.bind_eq_some_iff.mp hf3
      split at hf4
      · rename_i hl
        cases hf4
        refine ⟨r, env, st, x, s1, he, hs, h1, fun xv r1 H1 e1 q1 p1 => ⟨r1, env, s1, _, s2, he.ext e1, q1, h2, fun yv r2 H2 e2 q2 p2 => ⟨r2, env, s2, z, s3, (he.ext e1).ext e2, q2, h3, fun zv r3 H3 e3 q3 p3 => ?_⟩⟩⟩
        have ez := asKey_rep p3 hk
        subst ez
        obtain ⟨p, rfl, hp⟩ := (p2.ext e3).refI
        obtain ⟨av, xs, hx, l⟩ := q3.ob _ p _ hp hst
        have px : Rep X.K r3 H3 xv x := (p1.ext e2).ext e3
        refine ⟨p, _, rfl, .k hx (by rw [l.len]; exact hl), ?_⟩
        have ee : Ex r3 H3 r3 (upd H3 p (.dK (putK xs kk xv))) := ⟨⟨[], by simp⟩, fun a o w m => by rw [upd_ne (fun y => m (by rw [y]; exact av))]; exact w, fun a w m => absurd w m⟩
        obtain ⟨w1, w2⟩ := q3.set (o := .dK (putK xs kk xv)) (ob := .dct (putD kvs kk x)) hp av ⟨av, _, upd_same, (l.put px).ex ee⟩ (fun _ _ z => by rw [hx] at z; cases z)
        exact q σ r3 _ (((e1.trans e2).trans e3).trans w1) ((((he.ext e1).ext e2).ext e3).ext w1) w2
      · cases hf4
    · cases hf3
  | _ => cases hf3
/-- {k: v, ..}, into the store -/
def evP : List (F × F) → Lo → Store → Option (List (Key × D) × Store)
  | [], _, st => some ([], st)
  | (fk, fv) :: r, env, st => (fk env st).bind fun p => (asKey p.1).bind fun k => (fv env p.2).bind fun q => (evP r env q.2).map fun z => ((k, q.1) :: z.1, z.2)
def mergeD (kvs more : List (Key × D)) : List (Key × D) := more.foldl (fun acc kv => putD acc kv.1 kv.2) kvs
def fDict (ps : List (F × F)) : F := fun env st => (evP ps env st).bind fun q => if q.1.length ≤ 15 then some (.ref q.2.length, q.2 ++ [.dct (mergeD [] q.1)]) else none
inductive DPs (X : Cx) (pos : Pos) : List (Option Expr) → List Expr → List (F × F) → Prop
  | nil : DPs X pos [] [] []
  | cons {k v : Expr} {ks : List (Option Expr)} {vs : List Expr} {fk fv : F} {ps : List (F × F)} : DE X k fk → DE X v fv → DPs X pos ks vs ps → DPs X pos (some k :: ks) (v :: vs) ((fk, fv) :: ps)
theorem DPs.pps {pos : Pos} : ∀ {ks : List (Option Expr)} {vs : List Expr} {ps : List (F × F)}, DPs X pos ks vs ps → PPs X pos ks vs (ps.map fun p => (tD X.K p.1, tD X.K p.2))
  | _, _, _, .nil => pps_nil
  | _, _, _, .cons a b c => pps_cons a b (DPs.pps c)
theorem RepK.merge {r : Rf} {H : Hp} : ∀ {more : List (Key × V)} {md : List (Key × D)} {kvs : List (Key × V)} {ds : List (Key × D)}, RepK K r H more md → RepK K r H kvs ds → RepK K r H (mergeK kvs more) (mergeD ds md)
  | _, _, _, _, .nil, q => q
  | _, _, kvs, ds, .cons (k := k) (v := v) (vs := more) (d := d) (ds := md) a b, q => by
    have := RepK.merge b (q.put (k := k) a)
    exact this
theorem pairsRead : ∀ {ps : List (F × F)} {r : Rf} {env : Lo} {st st' : Store} {σ : L2.St} {H : Hp} {kds : List (Key × D)} {Q : List (V × V) → Hp → Prop}, EnvR K r H env σ → Sim K r H st → evP ps env st = some (kds, st') →
    (∀ r' H' (kvs : List (Key × V)), Ext r H r' H' → Sim K r' H' st' → RepK K r' H' kvs kds → Q (kvs.map fun kv => (kV kv.1, kv.2)) H') → tPairs (ps.map fun p => (tD K p.1, tD K p.2)) σ H Q
  | [], r, env, st, st', σ, H, kds, Q, he, hs, hf, q => by
    cases hf
    exact q r H [] (.refl r H) hs .nil
  | (fk, fv) :: ps, r, env, st, st', σ, H, kds, Q, he, hs, hf, q => by
    obtain ⟨⟨x, s1⟩, h1, hf1⟩ := Option.bind_eq_some_iff.mp hf
    obtain ⟨k, hk, hf2⟩ := Option.bind_eq_some_iff.mp hf1
    obtain ⟨⟨y, s2⟩, h2, hf3⟩ := Option.bind_eq_some_iff.mp hf2
    obtain ⟨⟨zs, s3⟩, h3, hf4⟩ := Option.map_eq_some_iff.mp hf3
    cases hf4
    refine ⟨r, env, st, x, s1, he, hs, h1, fun xv r1 H1 e1 q1 p1 => ⟨r1, env, s1, y, s2, he.ext e1, q1, h2, fun yv r2 H2 e2 q2 p2 => ?_⟩⟩
    have ex := asKey_rep p1 hk
    subst ex
    refine pairsRead (ps := ps) ((he.ext e1).ext e2) q2 h3 fun r3 H3 kvs e3 q3 l3 => ?_
    exact q r3 H3 ((k, yv) :: kvs) ((e1.trans e2).trans e3) q3 (.cons (p2.ext e3) l3)
theorem de_dict {pos : Pos} {keys : List (Option Expr)} {values : List Expr} {ps : List (F × F)} (h : DPs X pos keys values ps) (hall : keys.all (·.isSome) = true := by rfl) (hl : keys.length = values.length := by rfl) (h0 : keys ≠ [] := by (intro z; cases z)) (h15 : keys.length ≤ 15 := by decide) :
    DE X (.Dict keys values pos) (fDict ps) := weakE (pe_disp h.pps hall hl h0 h15) fun σ H Q hh => by
  obtain ⟨r, env, st, d, st', he, hs, hf, q⟩ := hh
  obtain ⟨⟨kds, s1⟩, h1, hf1⟩ := Option.bind_eq_some_iff.mp hf
  by_cases hz : kds.length ≤ 15
  case neg => rw [if_neg hz] at hf1; cases hf1
  rw [if_pos hz] at hf1
  cases hf1
  intro p hp
  obtain ⟨e0, hd0⟩ := hideNew (o := .dK []) hs hp
  refine pairsRead (he.ext e0) hd0.sim h1 fun r' H' kvs e1 q1 l1 => ?_
  obtain ⟨hd1, hk⟩ := hd0.ext e1 q1
  refine ⟨hk.trans upd_same, kvs, rfl, by rw [l1.len]; exact hz, ?_⟩
  have ee : Ex r' H' (r'.add p) (upd H' p (.dK (mergeK [] kvs))) := ⟨⟨[p], rfl⟩, fun a o w m => by rw [upd_ne (fun y => m (by rw [y]; exact hd1.av))]; exact w, fun a w m => absurd w m⟩
  obtain ⟨w1, w2, w3⟩ := hd1.add (o := .dK (mergeK [] kvs)) (ob := .dct (mergeD [] kds)) (e0.trans e1) hs hp ⟨hd1.av, _, upd_same, (RepK.merge l1 .nil).ex ee⟩
  exact q _ _ _ w1 w2 (w3 _ rfl)
/-- a list display, into the store -/
def fNewL (fa : FA) : F := fun env st => (fa env st).bind fun p => if p.1.length ≤ sizeLine then some (.ref p.2.length, p.2 ++ [.lst p.1]) else none
theorem de_newL {es : List Expr} {fa : FA} {pos : Pos} (h : DA X es fa) : DE X (.List es pos) (fNewL fa) := weakE (pe_lst h) fun σ H Q hh => by
  obtain ⟨r, env, st, d, st', he, hs, hf, q⟩ := hh
  obtain ⟨⟨ds, s1⟩, h1, hf1⟩ := Option.bind_eq_some_iff.mp hf
  by_cases hz : ds.length ≤ sizeLine
  case neg => rw [if_neg hz] at hf1; cases hf1
  rw [if_pos hz] at hf1
  cases hf1
  refine ⟨r, env, st, ds, s1, he, hs, h1, fun vs r1 H1 e1 q1 l1 => ⟨by rw [l1.len]; exact hz, fun p hp => ?_⟩⟩
  obtain ⟨e0, hd0⟩ := hideNew (o := .lst vs) q1 hp
  have ee : Ex r1 H1 ((r1.hide p).add p) (upd (upd H1 p (.lst vs)) p (.lst vs)) := by
    rw [upd_upd]
    refine ⟨⟨[p], rfl⟩, fun a o w m => same_alloc hp a o w, fun a w m => ?_⟩
    rcases w with w | w
    · exact absurd w m
    · rw [w]; exact hp
  obtain ⟨w1, w2, w3⟩ := hd0.add (o := .lst vs) (ob := .lst ds) e0 q1 hp ⟨hd0.av, _, upd_same, l1.ex ee⟩
  have key := q (.ref p) _ _ (e1.trans w1) w2 (w3 _ rfl)
  rw [upd_upd] at key
  exact key
/-- xs.append(e), xs of the store -/
def isLs : Option Ob → Bool | some (.lst _) => true | _ => false
def appAt (n : Nat) (d : D) (st : Store) : Option (D × Store) := match st[n]? with
  | some (.lst ds) => if ds.length < sizeLine then some (.non, st.set n (.lst (ds ++ [d]))) else none
  | _ => none
def fApp (fo fe : F) : F := fun env st => (fo env st).bind fun p => match p.1 with
  | .ref n => if isLs p.2[n]? = true then (fe env p.2).bind fun q => appAt n q.1 q.2 else none
  | _ => none
theorem de_append {o e : Expr} {fo fe : F} {apos cpos : Pos} (ho : DE X o fo) (hv : DE X e fe) (hbase : attributeBase o "append" X.env (eval o X.env) = eval o X.env := by rfl)
    (hfew : ((backTo cpos (starEach [e] X.env)).all (fun x => !x.1) && (backToKw cpos (keywordEach [] X.env)).all (fun x => x.1.isSome)
      && decide (([e] : List Expr).length + ([] : List Keyword).length + (if ([] : List Keyword).isEmpty then 0 else 1) < 30)) = true := by rfl)
    (hline : (apos.endLine == cpos.line) = true := by rfl) (hs : starEach [e] X.env = [(false, eval e X.env)] := by rfl) :
    DE X (.Call (.Attribute o "append" apos) [e] [] cpos) (fApp fo fe) :=
  weakE (pe_bm PySem.F.plainAttrs_list PySem.F.slot_list_append PySem.F.type_list_append mt_append ho (pa_cons hv pa_nil hs) hbase hfew hline hs rfl) fun σ H Q hh => by
  obtain ⟨r, env, st, d, st', he, hs, hf, q⟩ := hh
  obtain ⟨⟨x, s1⟩, h1, hf1⟩ := Option.bind_eq_some_iff.mp hf
  cases x with
  | ref n =>
    have hf1' : (if isLs s1[n]? = true then (fe env s1).bind fun q => appAt n q.1 q.2 else none) = some (d, st') := hf1
    by_cases hl1 : isLs s1[n]? = true
    case neg => rw [if_neg hl1] at hf1'; cases hf1'
    rw [if_pos hl1] at hf1'
    obtain ⟨⟨y, s2⟩, h2, hf2⟩ := Option.bind_eq_some_iff.mp hf1'
    have hf3 : appAt n y s2 = some (d, st') := hf2
    unfold appAt at hf3
    split at hf3
    · rename_i ds hst
      split at hf3
      · rename_i hl
        cases hf3
        refine ⟨r, env, st, _, s1, he, hs, h1, fun xv r1 H1 e1 q1 p1 => ?_⟩
        obtain ⟨p, rfl, hp⟩ := p1.refI
        refine ⟨.inl ⟨rfl, ?_⟩, r1, env, s1, y, s2, he.ext e1, q1, h2, fun yv r2 H2 e2 q2 p2 => ?_⟩
        · unfold isLs at hl1
          split at hl1
          · rename_i es hes
            obtain ⟨av, xs, hx, l⟩ := q1.ob n p _ hp hes
            exact ⟨xs, .of hx⟩
          · cases hl1
        · have hp2 := e2.get hp
          obtain ⟨av, xs, hx, l⟩ := q2.ob n p _ hp2 hst
          refine ⟨p, xs, yv, rfl, rfl, hx, by rw [l.len]; exact hl, ?_⟩
          have ee : Ex r2 H2 r2 (upd H2 p (.lst (xs ++ [yv]))) := ⟨⟨[], by simp⟩, fun a o w m => by rw [upd_ne (fun y => m (by rw [y]; exact av))]; exact w, fun a w m => absurd w m⟩
          obtain ⟨w1, w2⟩ := q2.set (o := .lst (xs ++ [yv])) (ob := .lst (ds ++ [y])) hp2 av ⟨av, _, upd_same, (l.append (.cons p2 .nil)).ex ee⟩ (fun _ _ z => by rw [hx] at z; cases z)
          exact q _ _ _ ((e1.trans e2).trans w1) w2 .non
      · cases hf3
    · cases hf3
  | _ => cases hf1
end
end DL
namespace DL
open PySem PySem.Spec PyProof.Rows L2
variable {K : PySem.W.Frag}
/-! ### a def -/
abbrev FM := List D → Store → Option (D × Store)
/-- a def computes m (nothing is raised) -/
structure FnD (P : Program) (w : World) (K : PySem.W.Frag) (mg : Str → Option Value) (base : Heap) (k : Nat) (f : Addr) (fd : FuncData) (ps : List Str) (m : FM) : Prop where
  run : ∀ (A : Around) (outer : List Env) (s : Shared) (H : Hp) (args : Args) (us : List Value) (vs : List V) (Q : VK) (rho : Rf) (ds : List D) (st st' : Store) (d : D),
    A.guards = some [] → Room k A → Env0 P w K mg base A outer s H → BindsTo s fd args (ps.zip us) → Vals vs us → vs.length = ps.length → RepL K rho H vs ds → Sim K rho H st → m ds st = some (d, st') →
    (∀ v rho' H', Ext rho H rho' H' → Sim K rho' H' st' → Rep K rho' H' v d → Q v H') → codeAny (model P w) A (.call (.ref f) args) (CR CX0 outer P w H s Q E0) s
theorem FnD.up {P : Program} {w : World} {mg : Str → Option Value} {base : Heap} {j k : Nat} {f : Addr} {fd : FuncData} {ps : List Str} {m : FM} (h : FnD P w K mg base j f fd ps m) (l : j ≤ k) : FnD P w K mg base k f fd ps m :=
  ⟨fun A outer s H args us vs Q rho ds st st' d hg hr => h.run A outer s H args us vs Q rho ds st st' d hg (hr.mono l)⟩
/-- a body's context -/
abbrev cxD (P : Program) (w : World) (K : PySem.W.Frag) (mg : Str → Option Value) (base : Heap) (N : List Str) (qual : Str) (sc : Scope) (f : Addr) (cd : Value) (A : Around) (outer : List Env) (s : Shared) (H : Hp) : Cx :=
  (cxOf CX0 P w K mg base N qual sc f cd A outer s H E0).nox
def startD (n : Nat) (ds : List D) : Lo := ds.map some ++ List.replicate (n - ds.length) none
def outM : Option (Out × Lo × Store) → Option (D × Store)
  | some (.rt d, _, s) => some (d, s)
  | some (.nx, _, s) => some (.non, s)
  | _ => none
def mOf (n : Nat) (g : FS) : FM := fun ds st => outM (g (startD n ds) st)
theorem start_env {r : Rf} {H : Hp} {vs : List V} {ds : List D} {N : List Str} (l : RepL K r H vs ds) (hn : vs.length ≤ N.length) : EnvR K r H (startD N.length ds) (L2.start N vs) := by
  refine ⟨?_, fun i d h => ?_⟩
  · unfold startD L2.start
    rw [List.length_append, List.length_append, List.length_map, List.length_map, List.length_replicate, List.length_replicate, l.len]
  · unfold startD at h
    unfold L2.start
    by_cases hi : i < ds.length
    · rw [List.getElem?_append_left (by rw [List.length_map]; exact hi), List.getElem?_map] at h
      obtain ⟨d', h1, h2⟩ := Option.map_eq_some_iff.mp h
      cases h2
      obtain ⟨v, h3, h4⟩ := l.get h1
      refine ⟨v, ?_, h4⟩
      rw [List.getElem?_append_left (by rw [List.length_map, l.len]; exact hi), List.getElem?_map, h3]; rfl
    · rw [List.getElem?_append_right (by rw [List.length_map]; omega), List.getElem?_replicate] at h
      split at h <;> cases h
theorem FnD.of {P : Program} {w : World} {mg : Str → Option Value} {base : Heap} {x qual : Str} {sd : Stmt} {f : Addr} {fd : FuncData} {N ps : List Str} {k : Nat} {g : FS} (F : Fun K x qual sd f fd) (S : FnScope N ps (defScope sd))
    (hb : ∀ (cd : Value) (A : Around) (outer : List Env) (s : Shared) (H : Hp), GX (cxD P w K mg base N qual (defScope sd) f cd A outer s H) k → DSs (cxD P w K mg base N qual (defScope sd) f cd A outer s H) (fun _ _ _ _ => False) (defBody sd) g) :
    FnD P w K mg base (k + 1) f fd ps (mOf N.length g) := by
  obtain ⟨oc, od, kV, doc, pm, an, cd, ct, osl, rfl, lk, hcd⟩ := F.ex
  refine ⟨fun A outer s H args us vs Q rho ds st st' d hgd hr e0 hbind rv hlen rds hs hm hq => ?_⟩
  have hps : ps.length ≤ N.length := by
    have := congrArg List.length S.pre
    rw [List.length_take] at this
    omega
  have KX : K.In s.heap := e0.mod.kin.keeps fun b o e => (e0.bs b o e).1
  have lim : s.heap.NoLimit := e0.mod.nolimit.keeps fun b o e => (e0.bs b o e).1
  have kinds : ∀ y ∈ ps.zip us, (defScope sd).names.lookup y.1 = some .local ∨ ((defScope sd).names.lookup y.1 = some .cell ∧ ((cellsFrom (s.heap.objs.size + 1) (defScope sd).names []).lookup y.1).isSome = true) := fun ⟨n, v⟩ hy =>
    (S.par n (List.of_mem_zip hy).1).elim .inl fun q => .inr ⟨q, PySem.W.cellsFrom_some _ _ _ (.inl q)⟩
  refine codeAny_call_function hr.depth (KX _ _ lk) rfl S.co S.gen rfl (PySem.W.codeRec_of KX hcd) (hbind _ _ _ _ (wpAny_newFunctionEnv_cells S.kind kinds fun env he s1 x => ?_))
  subst he
  refine ⟨lim.keeps x.toInCall.keep, codeAny_func ?_⟩
  have gx : GX (cxD P w K mg base N qual (defScope sd) f cd A outer s H) k := ⟨rfl, S.nd, hr.deeper _, hgd⟩
  have I0 : Inv (cxOf CX0 P w K mg base N qual (defScope sd) f cd A outer s H E0) [] (L2.start N vs) H s1 := inv_start S hr.hd e0 hlen rv x
  -- what the body does
  obtain ⟨o, env', h1, h2⟩ : ∃ o env', g (startD N.length ds) st = some (o, env', st') ∧ (o = .rt d ∨ (o = .nx ∧ d = .non)) := by
    unfold mOf at hm
    cases z : g (startD N.length ds) st with
    | none => rw [z] at hm; cases hm
    | some q =>
      obtain ⟨o, e, s2⟩ := q
      rw [z] at hm
      cases o with
      | rt d' => cases hm; exact ⟨_, _, rfl, .inl rfl⟩
      | nx => cases hm; exact ⟨_, _, rfl, .inr ⟨rfl, rfl⟩⟩
      | bk => cases hm
      | ct => cases hm
      | er _ _ _ => cases hm
  have run := (hb cd A outer s H gx).run [] s1 (L2.start N vs) H { nx := fun _ H' => Q .non H', rt := Q } (I0.wish _) ⟨rho, _, st, o, env', st', start_env rds (by omega), hs, h1, by
    rcases h2 with e | ⟨e, e2⟩
    · subst e
      exact hq
    · subst e e2
      exact fun σ' r' H' ex _ hs' => hq .non r' H' ex hs' .non⟩
  refine wpAny_mono run (fun fl s' q => ?_) fun _ _ z => False.elim z
  have back : ∀ {σ' : L2.St} {H' : Hp} {v : V} {u : Value}, Inv (cxD P w K mg base N qual (defScope sd) f cd A outer s H) [] σ' H' s' → RelV v u → Q v H' → CE outer P w H s Q u s' := fun {σ' H' v u} J r z => ⟨v, H', J.os, J.bare, J.base, J.hok, r, z⟩
  cases fl with
  | ret u =>
    obtain ⟨v, σ', H', J, r, z⟩ := q
    exact back J r z
  | next =>
    obtain ⟨σ', H', J, z⟩ := q
    exact back (v := V.non) (u := Value.none) J rfl z
  | brk => obtain ⟨_, _, _, z⟩ := q; exact z.elim
  | cont => obtain ⟨_, _, _, z⟩ := q; exact z.elim
/-! ### a call -/
def fCall (m : FM) (fa : FA) : F := fun env st => (fa env st).bind fun p => m p.1 p.2
section
variable {X : Cx} {W : WXd} {k : Nat} {f : Addr} {fd : FuncData} {ps : List Str} {m : FM} {x : Str} {p pos : Pos} {e : Expr} {es : List Expr}
theorem runD {pins : List (Addr × Obj)} {σ : L2.St} {H : Hp} {s : Shared} {Q : VK} {us : List Value} {vs : List V} {rho : Rf} {ds : List D} {st st' : Store} {d : D} (Fd : FnD X.prog X.w X.K X.mg X.base k f fd ps m) (gx : GX X k) (hb : Binds X.K fd ps [])
    (I : Inv X pins σ H s) (r : Vals vs us) (hl : vs.length = ps.length) (rd : RepL X.K rho H vs ds) (hs : Sim X.K rho H st) (hm : m ds st = some (d, st')) (hq : ∀ v rho' H', Ext rho H rho' H' → Sim X.K rho' H' st' → Rep X.K rho' H' v d → Q v H') :
    wpAny (model X.prog X.w) X.A (call (.ref f) us) (EP X pins σ Q) X.xe s := by
  have hu : us.length = ps.length := by rw [← r.length]; exact hl
  have hbt : BindsTo s fd ⟨us, []⟩ (ps.zip us) := by
    have := hb s us I.kIn (by rw [List.append_nil]; exact hu)
    rwa [List.append_nil] at this
  refine wpAny_call (codeAny_mono (Fd.run X.A X.stack s H ⟨us, []⟩ us vs Q rho ds st st' d gx.gd gx.room I.env0 hbt r hl rd hs hm hq) fun z s' hz => ?_)
  cases z with
  | error e => exact False.elim hz
  | ok fl =>
    cases fl with
    | ret u => exact I.after hz
    | next => exact False.elim hz
    | brk => exact False.elim hz
    | cont => exact False.elim hz
/-- f(e, ..), every parameter given by place -/
theorem de_call (Fd : FnD X.prog X.w X.K X.mg X.base k f fd ps m) (gx : GX X k) (hg : Gl X x) (hm : X.mg x = some (.ref f)) (hk : PySem.W.keepIn X.K (.ref f) = true) (hb : Binds X.K fd ps []) {fa : FA}
    (ha : DA X (e :: es) fa) (hl : (e :: es).length = ps.length := by rfl) (hdb : (x == ("__debug__" : Str)) = false := by decide) (he : starEach (e :: es) X.env = (false, eval e X.env) :: starEach es X.env := by rfl) (hpl : (backTo pos (starEach es X.env)).any (·.1) = false := by rfl)
    (hn : ∀ env st ds st', fa env st = some (ds, st') → ds.length = (e :: es).length) :
    DE X (.Call (.Name x p) (e :: es) [] pos) (fCall m fa) := by
  refine ⟨fun pins s σ H Q I h => wpAny_Call_Name_kw (ld_glob I hg hm ?_ hdb)⟩
  obtain ⟨r, env, st, d, st', he', hs, hf, q⟩ := h
  obtain ⟨⟨ds, s1⟩, h1, h2⟩ := Option.bind_eq_some_iff.mp hf
  refine PySem.W.callWith_K (h₀ := X.base) I.ok.mod.kin hk (thn (ha.run pos pins s σ H (fun vs H1 => ∃ r1, Ext r H r1 H1 ∧ Sim X.K r1 H1 s1 ∧ RepL X.K r1 H1 vs ds) I ⟨r, env, st, ds, s1, he', hs, h1, fun vs r1 H1 e1 q1 l1 => ⟨r1, e1, q1, l1⟩⟩) fun us sa hz => ?_) he hpl
  obtain ⟨vs, H1, I1, rv, r1, e1, q1, l1⟩ := hz
  exact ⟨I1.kIn, runD Fd gx hb I1 rv (by rw [l1.len, hn _ _ _ _ h1]; exact hl) l1 q1 h2 fun v r2 H2 e2 q2 p2 => q v r2 H2 (e1.trans e2) q2 p2⟩
end
theorem aNil_n : ∀ (env : Lo) (st : Store) (ds : List D) (st' : Store), aNil env st = some (ds, st') → ds.length = 0 := fun _ _ _ _ h => by cases h; rfl
theorem aCons_n {f : F} {g : FA} {n : Nat} (h : ∀ (env : Lo) (st : Store) (ds : List D) (st' : Store), g env st = some (ds, st') → ds.length = n) :
    ∀ (env : Lo) (st : Store) (ds : List D) (st' : Store), aCons f g env st = some (ds, st') → ds.length = n + 1 := fun env st ds st' hh => by
  obtain ⟨x, s1, ys, s2, h1, h2, e⟩ := aCons_some hh
  cases e
  rw [List.length_cons, h _ _ _ _ h2]
/-! ### the law's end -/
theorem law_end {P : Program} {w : World} {mg mb : Str → Option Value} {k : Nat} {fa a : Addr} {fd : FuncData} {x : Str} {m : FM} {s1 : Shared} {vs : List Value} {ns : List Int}
    (KX : K.In s1.heap) (hns : s1.heap.Ns mainGlobals mg) (hb : s1.heap.Ns builtinsNs mb) (hbb : ∀ x : Str, x ≠ "__name__" → mb x = bootBuiltins x) (hlim : s1.heap.NoLimit) (hg : s1.gens = #[])
    (ha : s1.heap.get? a = some { cls := .type "list", data := .seq vs.toArray }) (hi : IntsAre vs ns) (hl : ns.length ≤ sizeLine) (hr : Room k callerA)
    (Fd : ∀ base : Heap, K.In base → base.Ns mainGlobals mg → FnD P w K mg base k fa fd [x] m) (hbind : ∀ (s : Shared) (u : Value), BindsTo s fd ⟨[u], []⟩ [(x, u)])
    (hm : ∃ st', m [.scr ns] [] = some (.bl true, st')) :
    codeAny (model P w) callerA (.call (.ref fa) ⟨[.ref a], []⟩) (fun r s' => r = .ok (.ret (.bool true)) ∧ OldK s1.heap s'.heap ∧ s'.os = s1.os ∧ AllBare s'.gens) s1 := by
  obtain ⟨st', hm⟩ := hm
  have rv := vals_ints hi
  have lenV := hi.length
  let ob : Obj := { cls := .type "list", data := .seq vs.toArray }
  let emp : Rf := ⟨[], fun _ => False, fun _ => False⟩
  -- what is tracked: nothing, or the script alone
  have go : ∀ H : Hp, (∀ b u, H b = some u → b = a ∧ u = .frz ob (.lst (ns.map V.int))) → (H a ≠ none → K.lookup a = none) → Rep K emp H (.ref a) (.scr ns) →
      codeAny (model P w) callerA (.call (.ref fa) ⟨[.ref a], []⟩) (fun r s' => r = .ok (.ret (.bool true)) ∧ OldK s1.heap s'.heap ∧ s'.os = s1.os ∧ AllBare s'.gens) s1 := by
    intro H hH hK hrep
    have hok : HOk P w H s1.heap := fun b u e => by
      obtain ⟨rfl, rfl⟩ := hH b u e
      exact ⟨ha, by rw [List.length_map]; exact hl, vs, _, rv, ha⟩
    have keepNs : ∀ {b : Addr} {m : Str → Option Value}, s1.heap.Ns b m → (hidT s1.heap H).Ns b m := fun {b m} ⟨o, es, ep, e, d, r⟩ => by
      refine ⟨o, es, ep, hidT_get e ?_, d, r⟩
      cases q : H b with
      | none => rfl
      | some u =>
        obtain ⟨rfl, _⟩ := hH b u q
        rw [ha] at e
        cases e
        cases (show Data.seq vs.toArray _ = Data.dict es ep from d)
    have KB : K.In (hidT s1.heap H) := fun b o e => hidT_get (KX b o e) (by
      cases q : H b with
      | none => rfl
      | some u =>
        obtain ⟨rfl, _⟩ := hH b u q
        rw [hK (by rw [q]; simp)] at e
        cases e)
    have e0 : Env0 P w K mg (hidT s1.heap H) callerA [] s1 H :=
      ⟨rfl, ⟨KB, keepNs hns, ⟨mb, keepNs hb, hbb⟩, let ⟨mc, h1, h2⟩ := hlim; ⟨mc, keepNs h1, h2⟩⟩, fun b o e => of_hidT e, Nat.le_of_eq (hidT_size _ _), trivial, fun b hb => absurd (show b ∈ ([] : List Addr) from hb) (by simp), hok, .of_eq hg⟩
    have sim : Sim K emp H [] := ⟨rfl, List.nodup_nil, fun n a o h => by simp [emp] at h, fun p h => h.elim, fun p h => (by cases h), fun p h => h.elim⟩
    refine codeAny_mono ((Fd _ KB (keepNs hns)).run callerA [] s1 H ⟨[.ref a], []⟩ [.ref a] [.ref a] (fun v _ => v = .bl true) emp [.scr ns] [] st' (.bl true) rfl hr e0 (hbind s1 (.ref a)) (.cons rfl .nil) rfl (.cons hrep .nil) sim hm (fun v _ _ _ _ h => by cases h; rfl)) fun r s' h => ?_
    cases r with
    | error e => exact False.elim h
    | ok fl =>
      cases fl with
      | next => exact False.elim h
      | brk => exact False.elim h
      | cont => exact False.elim h
      | ret u =>
        obtain ⟨v, H', os, bare, un, hok', r', q⟩ := h
        subst q
        obtain rfl : u = Value.bool true := r'
        refine ⟨rfl, OldK.of_keep fun b o e => ?_, os, bare⟩
        cases q : H b with
        | none => exact un.keep b o e q (fun z => absurd (show b ∈ ([] : List Addr) from z) (by simp)) (by simp)
        | some u =>
          obtain ⟨rfl, rfl⟩ := hH b u q
          obtain ⟨e2, _⟩ := hok' b _ (un.frzs b _ _ q)
          rw [ha] at e
          cases e
          exact e2
  cases hk : K.lookup a with
  | some o =>
    have e := KX a o hk
    rw [ha] at e
    cases e
    exact go (fun _ => none) (fun _ _ h => by cases h) (fun h => absurd rfl h) (.scrK hk rfl rfl rfl (by rw [List.size_toArray, lenV]; exact hl) (by simpa using rv))
  | none =>
    refine go (fun b => if b = a then some (.frz ob (.lst (ns.map V.int))) else none) (fun b u h => ?_) (fun _ => hk) (.scr (if_pos rfl) fun h => h)
    by_cases z : b = a
    · have := (if_pos z).symm.trans h
      cases this
      exact ⟨z, rfl⟩
    · have := (if_neg z).symm.trans h
      cases this
/-- the goal that k_head leaves -/
theorem walkD {l : PySem.W.OpenLaw} {n k : Nat} {q : Program} {loose : List Str} {XP : (Str → Option Value) → Heap → Prop} {YP : World → Heap → Prop} {d : DefRec} {KK : Params → PySem.W.Frag} {x : Str} {m : FM}
    (hn : l.most = some n) (hn2 : n ≤ sizeLine) (hdf : d.params.defaults = []) (hr : Room k callerA) (hY : ∀ (w : World) (h : Heap), YP w h → (KK w.params).In h)
    (Fd : ∀ (w : World) (mg : Str → Option Value) (fa : Addr) (h : Heap), (KK w.params).In h → h.Ns mainGlobals mg → mg d.name = some (.ref fa) →
      ∃ fd : FuncData, (∀ (s : Shared) (u : Value), BindsTo s fd ⟨[u], []⟩ [(x, u)]) ∧ ∀ base : Heap, (KK w.params).In base → base.Ns mainGlobals mg → FnD l.prog w (KK w.params) mg base k fa fd [x] m)
    (hm : ∀ ns : List Int, ns.length ≤ n → (∀ z ∈ ns, Builtin.Int.intBits z ≤ 1048576) → ∃ st', m [.scr ns] [] = some (.bl true, st')) :
    PySem.W.WalkO q loose XP YP l.row.toRowW d [] (fun f vs => PySem.call f vs) := by
  refine Att.attach_callB hn hdf fun w s0 s1 mg mb fa o pm cd doc a vs ns G Y ho hd hcd hmg hobj hints hlen hbits hg => ?_
  obtain ⟨fd, hb, hF⟩ := Fd w mg fa _ (hY w _ Y) G.T.g hmg
  exact law_end (hY w _ Y) G.T.g G.T.b G.T.builtins G.T.nolimit hg hobj hints (Nat.le_trans hlen hn2) hr hF hb (hm ns hlen hbits)
end DL
namespace DL
open PySem PySem.Spec PyProof.Rows L2
variable {K : PySem.W.Frag}
/-! ### built-ins -/
section
variable {X : Cx} {W : WXd}
theorem CallOk.or {f : Value} {g g' : List D → Store → Option D} (h : CallOk X f g) (h' : CallOk X f g') : CallOk X f (fun ds st => (g ds st).or (g' ds st)) := by
  obtain ⟨r, hr, k⟩ := h
  obtain ⟨r', hr', k'⟩ := h'
  refine ⟨_, hr.or hr', fun rho H xs ds d st Q rl si e q => ?_⟩
  cases z : g ds st with
  | some c =>
    simp only [z, Option.some_or] at e
    cases e
    exact .inl (k rho H xs ds _ st Q rl si z q)
  | none =>
    simp only [z, Option.none_or] at e
    exact .inr (k' rho H xs ds d st Q rl si e q)
/-- len -/
def lenL : List D → Store → Option D := fun ds st => match ds with
  | [.str x] => if x.length ≤ sizeLine then some (.int x.length) else none
  | [.lst xs] => some (.int xs.length)
  | [.tup xs] => some (.int xs.length)
  | [.scr ns] => some (.int ns.length)
  | [.ref n] => (match st[n]? with | some (.lst xs) => some (.int xs.length) | _ => none)
  | _ => none
theorem lst1 {r : Rf} {H : Hp} {vs : List V} {d : D} (l : RepL K r H vs [d]) : ∃ v, vs = [v] ∧ Rep K r H v d := by
  cases l with
  | cons a b => cases b; exact ⟨_, rfl, a⟩
theorem lst2 {r : Rf} {H : Hp} {vs : List V} {d e : D} (l : RepL K r H vs [d, e]) : ∃ v u, vs = [v, u] ∧ Rep K r H v d ∧ Rep K r H u e := by
  cases l with
  | cons a b =>
    obtain ⟨u, rfl, c⟩ := lst1 b
    exact ⟨_, u, rfl, a, c⟩
theorem ok_lenL : CallOk X (.builtin "len") lenL := ⟨_, call_len, fun rho H xs ds d st Q rl si e q => by
  unfold lenL at e
  split at e
  · obtain ⟨v, rfl, p⟩ := lst1 rl
    cases p
    split at e
    · rename_i hl
      cases e
      exact ⟨_, _, rfl, ⟨hl, rfl⟩, q _ H (fun _ _ h => h) (.int _)⟩
    · cases e
  · obtain ⟨v, rfl, p⟩ := lst1 rl
    cases e
    cases p with
    | lst a b c => exact ⟨_, _, rfl, .inl ⟨_, .of a, rfl⟩, by rw [c.len]; exact q _ H (fun _ _ h => h) (.int _)⟩
  · obtain ⟨v, rfl, p⟩ := lst1 rl
    cases e
    obtain ⟨a, us, rfl, s, l⟩ := p.sqT
    exact ⟨_, _, rfl, .inr ⟨_, s, rfl⟩, by rw [l.len]; exact q _ H (fun _ _ h => h) (.int _)⟩
  · rename_i ns
    obtain ⟨v, rfl, p⟩ := lst1 rl
    cases e
    obtain ⟨a, rfl, s⟩ := p.scrL
    exact ⟨_, _, rfl, .inl ⟨_, s, rfl⟩, by rw [List.length_map]; exact q _ H (fun _ _ h => h) (.int _)⟩
  · obtain ⟨v, rfl, p⟩ := lst1 rl
    obtain ⟨a, rfl, hp⟩ := p.refI
    split at e
    · rename_i xs hst
      cases e
      obtain ⟨av, us, hx, l⟩ := si.ob _ a _ hp hst
      exact ⟨_, _, rfl, .inl ⟨_, .of hx, rfl⟩, by rw [l.len]; exact q _ H (fun _ _ h => h) (.int _)⟩
    · cases e
  · cases e⟩
theorem call_lenK : CallR X (.builtin "len") (fun xs H Q => ∃ p kvs, xs = [.ref p] ∧ Rd H p (.dK kvs) ∧ Q (.int kvs.length) H) := by
  intro pins s σ H xs us Q I r h
  obtain ⟨p, kvs, rfl, hp, q⟩ := h
  obtain ⟨u, rfl, rx⟩ := vals1 r
  cases rx
  exact d_len I hp fun t s' I' => ⟨.int kvs.length, H, I', ⟨t, rfl⟩, q⟩
def lenK : List D → Store → Option D := fun ds st => match ds with
  | [.dct kvs] => some (.int kvs.length)
  | [.ref n] => (match st[n]? with | some (.dct kvs) => some (.int kvs.length) | some (.ldc kvs) => some (.int kvs.length) | _ => none)
  | _ => none
theorem ok_lenK : CallOk X (.builtin "len") lenK := ⟨_, call_lenK, fun rho H xs ds d st Q rl si e q => by
  unfold lenK at e
  split at e
  · obtain ⟨v, rfl, p⟩ := lst1 rl
    cases e
    cases p with
    | dct a b c => exact ⟨_, _, rfl, .inr ⟨_, a⟩, by rw [c.len]; exact q _ H (fun _ _ h => h) (.int _)⟩
  · obtain ⟨v, rfl, p⟩ := lst1 rl
    obtain ⟨a, rfl, hp⟩ := p.refI
    split at e
    · rename_i xs hst
      cases e
      obtain ⟨av, us, hx, l⟩ := si.ob _ a _ hp hst
      exact ⟨_, _, rfl, .inl hx, by rw [l.len]; exact q _ H (fun _ _ h => h) (.int _)⟩
    · rename_i xs hst
      cases e
      obtain ⟨av, lk, o, us, hx, l⟩ := si.ob _ a _ hp hst
      exact ⟨_, _, rfl, .inr ⟨_, hx⟩, by rw [l.len]; exact q _ H (fun _ _ h => h) (.int _)⟩
    · cases e
  · cases e⟩
def bLen : List D → Store → Option D := fun ds st => (lenL ds st).or (lenK ds st)
theorem ok_len : CallOk X (.builtin "len") bLen := ok_lenL.or ok_lenK
/-- list(x) -/
def listSeq : List D → Store → Option D := fun ds st => match ds with
  | [.lst xs] => some (.lst xs)
  | [.tup xs] => some (.lst xs)
  | [.scr ns] => some (.lst (ns.map .int))
  | [.ref n] => (match st[n]? with | some (.lst xs) => some (.lst xs) | _ => none)
  | _ => none
theorem fresh_lst {r : Rf} {H : Hp} {st : Store} {p : Addr} {vs : List V} {ds : List D} (si : Sim K r H st) (hp : H p = none) (l : RepL K r H vs ds) : Rep K r (upd H p (.lst vs)) (.ref p) (.lst ds) := .lst upd_same (si.free hp) (l.ex (Ex.same r (same_alloc hp)))
theorem fresh_tup {r : Rf} {H : Hp} {st : Store} {p : Addr} {o : Obj} {vs : List V} {ds : List D} (si : Sim K r H st) (hp : H p = none) (hz : o.dict = none) (l : RepL K r H vs ds) : Rep K r (upd H p (.frz o (.tup vs))) (.ref p) (.tup ds) := .tup upd_same hz (si.free hp) (l.ex (Ex.same r (same_alloc hp)))
theorem ok_listSeq : CallOk X (.type "list") listSeq := ⟨_, call_list_of, fun rho H xs ds d st Q rl si e q => by
  unfold listSeq at e
  split at e
  · obtain ⟨v, rfl, p⟩ := lst1 rl
    cases e
    cases p with
    | lst a b c => exact ⟨_, _, rfl, .inl (.of a), fun l hl => q _ _ (same_alloc hl) (fresh_lst si hl c)⟩
  · obtain ⟨v, rfl, p⟩ := lst1 rl
    cases e
    obtain ⟨a, us, rfl, s, l⟩ := p.sqT
    exact ⟨_, _, rfl, .inr s, fun p hl => q _ _ (same_alloc hl) (fresh_lst si hl l)⟩
  · obtain ⟨v, rfl, p⟩ := lst1 rl
    cases e
    obtain ⟨a, rfl, s⟩ := p.scrL
    exact ⟨_, _, rfl, .inl s, fun p hl => q _ _ (same_alloc hl) (fresh_lst si hl (RepL.ofInts _))⟩
  · obtain ⟨v, rfl, p⟩ := lst1 rl
    obtain ⟨a, rfl, hp⟩ := p.refI
    split at e
    · rename_i xs hst
      cases e
      obtain ⟨av, us, hx, l⟩ := si.ob _ a _ hp hst
      exact ⟨_, _, rfl, .inl (.of hx), fun p hl => q _ _ (same_alloc hl) (fresh_lst si hl l)⟩
    · cases e
  · cases e⟩
theorem call_list_txt (hc : X.calm = true) : CallR X (.type "list") (fun xs H Q => ∃ x, xs = [.str x] ∧ x.length ≤ sizeLine ∧ ∀ p, H p = none → Q (.ref p) (upd H p (.lst (x.cps.toList.map fun c => V.str ⟨#[c]⟩)))) := by
  intro pins s σ H xs us Q I r h
  obtain ⟨x, rfl, hz, q⟩ := h
  obtain ⟨u, rfl, t, rfl⟩ := vals1 r
  refine call_list_str (I.ok.hd hc) x t (fun h' tk acc c' hk hS hacc => ?_) hz
  refine ⟨.ref s.heap.objs.size, _, I.laid (t' := tk) hk (Nat.le_refl _) ?_, rfl, q _ (I.hok.fresh (Nat.le_refl _))⟩
  refine ⟨by rw [List.length_map, Array.length_toList]; exact hz, acc.toList, c', ?_, by simpa using hS⟩
  refine vals_of_at ?_ fun j v w hv hw => ?_
  · rw [List.length_map, Array.length_toList, Array.length_toList, hacc.1]
  · obtain ⟨c, t2, h1, h2⟩ := hacc.2 j w (by simpa using hw)
    rw [List.getElem?_map] at hv
    have : x.cps.toList[j]? = some c := by simpa using h1
    rw [this] at hv
    cases hv
    exact ⟨t2, h2⟩
def listTxt : List D → Store → Option D := fun ds _ => match ds with
  | [.str x] => if x.length ≤ sizeLine then some (.lst (x.cps.toList.map fun c => .str ⟨#[c]⟩)) else none
  | _ => none
theorem RepL.signs {r : Rf} {H : Hp} : ∀ l : List Nat, RepL K r H (l.map fun c => V.str ⟨#[c]⟩) (l.map fun c => D.str ⟨#[c]⟩)
  | [] => .nil
  | c :: l => .cons (.str _) (RepL.signs l)
theorem ok_listTxt {k : Nat} (g : GX X k) : CallOk X (.type "list") listTxt := ⟨_, call_list_txt g.calm, fun rho H xs ds d st Q rl si e q => by
  unfold listTxt at e
  split at e
  · obtain ⟨v, rfl, p⟩ := lst1 rl
    cases p
    split at e
    · rename_i hl
      cases e
      exact ⟨_, rfl, hl, fun p hp => q _ _ (same_alloc hp) (fresh_lst si hp (RepL.signs _))⟩
    · cases e
  · cases e⟩
def bList : List D → Store → Option D := fun ds st => (listSeq ds st).or (listTxt ds st)
theorem ok_list {k : Nat} (g : GX X k) : CallOk X (.type "list") bList := ok_listSeq.or (ok_listTxt g)
/-- tuple(x) -/
def bTuple : List D → Store → Option D := fun ds st => match ds with
  | [.lst xs] => some (.tup xs)
  | [.tup xs] => some (.tup xs)
  | [.ref n] => (match st[n]? with | some (.lst xs) => some (.tup xs) | _ => none)
  | _ => none
theorem ok_tuple : CallOk X (.type "tuple") bTuple := ⟨_, call_tupF, fun rho H xs ds d st Q rl si e q => by
  unfold bTuple at e
  split at e
  · obtain ⟨v, rfl, p⟩ := lst1 rl
    cases e
    cases p with
    | lst a b c => exact ⟨_, _, rfl, .inl ⟨.of a, fun l o hl hz => q _ _ (same_alloc hl) (fresh_tup si hl hz c)⟩⟩
  · obtain ⟨v, rfl, p⟩ := lst1 rl
    cases e
    obtain ⟨a, us, rfl, s, l⟩ := p.sqT
    exact ⟨_, _, rfl, .inr ⟨s, q _ H (fun _ _ h => h) p⟩⟩
  · obtain ⟨v, rfl, p⟩ := lst1 rl
    obtain ⟨a, rfl, hp⟩ := p.refI
    split at e
    · rename_i xs hst
      cases e
      obtain ⟨av, us, hx, l⟩ := si.ob _ a _ hp hst
      exact ⟨_, _, rfl, .inl ⟨.of hx, fun p o hl hz => q _ _ (same_alloc hl) (fresh_tup si hl hz l)⟩⟩
    · cases e
  · cases e⟩
def bMax : List D → Store → Option D := fun ds _ => match ds with | [.int i, .int j] => some (.int (if j > i then j else i)) | _ => none
def bMin : List D → Store → Option D := fun ds _ => match ds with | [.int i, .int j] => some (.int (if j < i then j else i)) | _ => none
theorem ok_max {k : Nat} (g : GX X k) : CallOk X (.builtin "max") bMax := ⟨_, call_max2 g.calm, fun rho H xs ds d st Q rl si e q => by
  unfold bMax at e
  split at e
  · obtain ⟨v, u, rfl, p1, p2⟩ := lst2 rl
    cases p1
    cases p2
    cases e
    exact ⟨_, _, rfl, q _ H (fun _ _ h => h) (.int _)⟩
  · cases e⟩
theorem ok_min {k : Nat} (g : GX X k) : CallOk X (.builtin "min") bMin := ⟨_, call_min2 g.calm, fun rho H xs ds d st Q rl si e q => by
  unfold bMin at e
  split at e
  · obtain ⟨v, u, rfl, p1, p2⟩ := lst2 rl
    cases p1
    cases p2
    cases e
    exact ⟨_, _, rfl, q _ H (fun _ _ h => h) (.int _)⟩
  · cases e⟩
/-- sep.join(texts) -/
def strsD : List D → Option (List Str)
  | [] => some []
  | .str x :: ds => (strsD ds).map (x :: ·)
  | _ :: _ => none
theorem RepL.strs' {r : Rf} {H : Hp} : ∀ {ds : List D} {vs : List V} {ys : List Str}, RepL K r H vs ds → strsD ds = some ys → vs = ys.map V.str
  | [], _, _, .nil, h => by cases h; rfl
  | .str b :: ds, _, _, .cons (.str _) l, h => by
    obtain ⟨c, h1, h2⟩ := Option.map_eq_some_iff.mp (show (strsD ds).map (b :: ·) = _ from h)
    subst h2
    rw [List.map_cons, RepL.strs' l h1]
  | .non :: _, _, _, _, h => by cases h
  | .int _ :: _, _, _, _, h => by cases h
  | .bl _ :: _, _, _, _, h => by cases h
  | .tup _ :: _, _, _, _, h => by cases h
  | .lst _ :: _, _, _, _, h => by cases h
  | .dct _ :: _, _, _, _, h => by cases h
  | .scr _ :: _, _, _, _, h => by cases h
  | .ref _ :: _, _, _, _, h => by cases h
def fMt (g : D → List D → Option D) (fo : F) (fa : FA) : F := fun env st => (fo env st).bind fun p => (fa env p.2).bind fun q => (g p.1 q.1).map fun d => (d, q.2)
/-- one argument; the receiver keeps its type -/
theorem de_mt {T id : String} {name : Str} {g : D → List D → Option D} {r : V → List V → Hp → VK → Prop} {o e : Expr} {es : List Expr} {fo : F} {fa : FA} {apos cpos : Pos}
    (hm : MtR X id r) (ty : ∀ (rho : Rf) (H : Hp) (x : V) (a : D) ds d, Rep X.K rho H x a → g a ds = some d → tyV X.K T x H)
    (ok : ∀ (rho : Rf) (H : Hp) (x : V) (xs : List V) (a : D) (ds : List D) (d : D) (st : Store) (Q : VK), Rep X.K rho H x a → RepL X.K rho H xs ds → Sim X.K rho H st → g a ds = some d → (∀ v H', Same H H' → Rep X.K rho H' v d → Q v H') → r x xs H Q)
    (pa : PlainAttrs T) (slot : Slot T name id) (hty : typeOf (.builtin id) = pure (.type "method_descriptor")) (ho : DE X o fo) (ha : DA X (e :: es) fa)
    (hbase : attributeBase o name X.env (eval o X.env) = eval o X.env := by rfl)
    (hfew : ((backTo cpos (starEach (e :: es) X.env)).all (fun x => !x.1) && (backToKw cpos (keywordEach [] X.env)).all (fun x => x.1.isSome)
      && decide ((e :: es).length + ([] : List Keyword).length + (if ([] : List Keyword).isEmpty then 0 else 1) < 30)) = true := by rfl)
    (hline : (apos.endLine == cpos.line) = true := by rfl) (hs : starEach (e :: es) X.env = (false, eval e X.env) :: starEach es X.env := by rfl) (hplain : (backTo cpos (starEach es X.env)).any (·.1) = false := by rfl) :
    DE X (.Call (.Attribute o name apos) (e :: es) [] cpos) (fMt g fo fa) :=
  weakE (pe_bm pa slot hty hm ho ha hbase hfew hline hs hplain) fun σ H Q hh => by
  obtain ⟨r', env, st, d, st', he, hs, hf, q⟩ := hh
  obtain ⟨⟨x, s1⟩, h1, hf1⟩ := Option.bind_eq_some_iff.mp hf
  obtain ⟨⟨ys, s2⟩, h2, hf2⟩ := Option.bind_eq_some_iff.mp hf1
  obtain ⟨d', h3, hf3⟩ := Option.map_eq_some_iff.mp hf2
  cases hf3
  exact ⟨r', env, st, x, s1, he, hs, h1, fun u r1 H1 e1 q1 p1 => ⟨ty r1 H1 u x ys d p1 h3, r1, env, s1, ys, _, he.ext e1, q1, h2, fun us r2 H2 e2 q2 l2 =>
    ok r2 H2 u us x ys d _ Q (p1.ext e2) l2 q2 h3 fun w H3 sm pw => q w r2 H3 ((e1.trans e2).trans (q2.ext sm)) (q2.same sm) pw⟩⟩
def joinD : D → List D → Option D := fun a ds => match a, ds with
  | .str x, [.lst xs] => (strsD xs).bind fun ys => if (ys.map (·.length)).sum + ys.length * x.length ≤ 16777216 then some (.str (Txt.join x ys)) else none
  | _, _ => none
theorem strTy {g : D → List D → Option D} (h : ∀ a ds d, g a ds = some d → ∃ x, a = .str x) : ∀ (rho : Rf) (H : Hp) (x : V) (a : D) ds d, Rep X.K rho H x a → g a ds = some d → tyV X.K "str" x H := fun rho H x a ds d ra e => by
  obtain ⟨z, rfl⟩ := h a ds d e
  cases ra
  exact rfl
theorem joinOk : ∀ (rho : Rf) (H : Hp) (x : V) (xs : List V) (a : D) (ds : List D) (d : D) (st : Store) (Q : VK), Rep X.K rho H x a → RepL X.K rho H xs ds → Sim X.K rho H st → joinD a ds = some d → (∀ v H', Same H H' → Rep X.K rho H' v d → Q v H') →
    ∃ a p, ∃ ys : List Str, x = .str a ∧ xs = [.ref p] ∧ (SqL X.K H p (ys.map V.str) ∨ SqT X.K H p (ys.map V.str)) ∧ (ys.map (·.length)).sum + ys.length * a.length ≤ 16777216 ∧ Q (.str (Txt.join a ys)) H := by
  intro rho H x xs a ds d st Q ra rl si e q
  unfold joinD at e
  split at e
  · rename_i z zs
    obtain ⟨ys, h1, h2⟩ := Option.bind_eq_some_iff.mp e
    split at h2
    · rename_i hl
      cases h2
      cases ra
      obtain ⟨v, rfl, p⟩ := lst1 rl
      cases p with
      | lst g1 g2 g3 =>
        have := g3.strs' h1
        subst this
        exact ⟨z, _, ys, rfl, rfl, .inl (.of g1), hl, q _ H (fun _ _ h => h) (.str _)⟩
    · cases h2
  · cases e
theorem joinTy : ∀ (rho : Rf) (H : Hp) (x : V) (a : D) ds d, Rep X.K rho H x a → joinD a ds = some d → tyV X.K "str" x H := strTy fun a ds d e => by
  unfold joinD at e
  split at e
  · exact ⟨_, rfl⟩
  · cases e
/-! ### one value -/
def fUn (g : D → Option D) (fa : F) : F := fun env st => (fa env st).bind fun p => (g p.1).map fun d => (d, p.2)
def negI : D → Option D | .int i => some (.int (-i)) | _ => none
theorem de_neg {a : Expr} {fa : F} {pos : Pos} (ha : DE X a fa) : DE X (.UnaryOp .USub a pos) (fUn negI fa) := weakE (pe_un un_neg ha) fun σ H Q hh => by
  obtain ⟨r', env, st, d, st', he, hs, hf, q⟩ := hh
  obtain ⟨⟨x, s1⟩, h1, hf1⟩ := Option.bind_eq_some_iff.mp hf
  obtain ⟨d', h2, hf2⟩ := Option.map_eq_some_iff.mp hf1
  cases hf2
  refine ⟨r', env, st, x, _, he, hs, h1, fun u r1 H1 e1 q1 p1 => ?_⟩
  cases x with
  | int i =>
    cases h2
    cases p1
    exact ⟨i, rfl, q _ r1 H1 e1 q1 (.int _)⟩
  | _ => cases h2
/-- isinstance(x, T), T a built-in type -/
def tyOb : Option Ob → Option String | some (.lst _) => some "list" | some (.dct _) => some "dict" | some (.ldc _) => some "dict" | _ => none
def tyD : D → Store → Option String := fun d st => match d with
  | .non => some "NoneType" | .bl _ => some "bool" | .int _ => some "int" | .str _ => some "str" | .tup _ => some "tuple" | .lst _ => some "list" | .dct _ => some "dict" | .scr _ => some "list"
  | .ref n => tyOb st[n]?
def isiB (a T : String) : Bool := a == T || (a == "bool" && T == "int")
def fIsi (T : String) (f : F) : F := fun env st => (f env st).bind fun p => (tyD p.1 p.2).map fun a => (.bl (isiB a T), p.2)
theorem tyX_of {r : Rf} {H : Hp} {v : V} {d : D} {st : Store} {t : String} (h : Rep K r H v d) (si : Sim K r H st) (e : tyD d st = some t) : TyX K H v (.type t) := by
  cases d with
  | non => cases h; cases e; exact .base .non
  | bl b => cases h; cases e; exact .base (.bl b)
  | int b => cases h; cases e; exact .base (.int b)
  | str b => cases h; cases e; exact .base (.str b)
  | tup ds =>
    cases e
    cases h with
    | tup a z b c => exact .fTuple a
    | tupP a b c => exact .base (.tup a)
    | tupK a b z c d f l => exact .kTuple a b
  | lst ds =>
    cases e
    cases h with
    | lst a b c => exact .base (.lst a)
  | dct ds =>
    cases e
    cases h with
    | dct a b c => exact .fDict a
  | scr ns =>
    cases e
    cases h with
    | scr a b => exact .base (.frz a)
    | scrK a b c d e f => exact .kList a b
  | ref n =>
    obtain ⟨a, rfl, hp⟩ := h.refI
    have e' : tyOb st[n]? = some t := e
    unfold tyOb at e'
    split at e'
    · rename_i xs hst
      cases e'
      obtain ⟨av, us, hx, l⟩ := si.ob n a _ hp hst
      exact .base (.lst hx)
    · rename_i xs hst
      cases e'
      obtain ⟨av, us, hx, l⟩ := si.ob n a _ hp hst
      exact .base (.dK hx)
    · rename_i xs hst
      cases e'
      obtain ⟨av, lk, o, us, hx, l⟩ := si.ob n a _ hp hst
      exact .fDict hx
    · cases e'
def tyNames : List String := ["NoneType", "bool", "int", "str", "tuple", "list", "dict"]
theorem kit_all : ∀ a ∈ tyNames, ∀ T ∈ tyNames, kitB a T = some (isiB a T) := by decide +kernel
theorem tyD_mem {d : D} {st : Store} {t : String} (e : tyD d st = some t) : t ∈ tyNames := by
  cases d with
  | ref n =>
    have e' : tyOb st[n]? = some t := e
    unfold tyOb at e'
    split at e' <;> cases e' <;> decide
  | _ => cases e; decide
theorem de_isi {a : Expr} {fa : F} {T : String} {x : Str} {p p2 pos : Pos} (ha : DE X a fa) (hT : T ∈ tyNames) (hg : Gl X "isinstance") (hm : X.mg "isinstance" = none) (hg2 : Gl X x) (hm2 : X.mg x = none) (hv : bootBuiltins x = some (.type T)) (hn : x ≠ "__name__" := by decide) (hdb : (x == ("__debug__" : Str)) = false := by decide)
    (hs : starEach [a, .Name x p2] X.env = (false, eval a X.env) :: starEach [.Name x p2] X.env := by rfl) (hs2 : starEach [.Name x p2] X.env = [(false, eval (.Name x p2) X.env)] := by rfl) (hpl : (backTo pos (starEach [.Name x p2] X.env)).any (·.1) = false := by rfl) :
    DE X (.Call (.Name "isinstance" p) [a, .Name x p2] [] pos) (fIsi T fa) :=
  weakE (pe_callB call_isi hg hm PyProof.Rows.boot_isinstance (pa_cons ha (pa_cons (pe_bltn (v := .ty T) hg2 hm2 hv rfl hn hdb) pa_nil hs2) hs) (by decide) (by decide) hs hpl) fun σ H Q hh => by
  obtain ⟨r', env, st, d, st', he, hs, hf, q⟩ := hh
  obtain ⟨⟨y, s1⟩, h1, hf1⟩ := Option.bind_eq_some_iff.mp hf
  obtain ⟨t, h2, hf2⟩ := Option.map_eq_some_iff.mp hf1
  cases hf2
  refine ⟨r', env, st, y, _, he, hs, h1, fun u r1 H1 e1 q1 p1 => ?_⟩
  exact ⟨u, .ty T, .type t, .type T, isiB t T, rfl, .ty T, tyX_of p1 q1 h2, kit_ty (kit_all t (tyD_mem h2) T hT), q _ r1 H1 e1 q1 (.bl _)⟩
/-! ### in, not in: flat items -/
def eqF : D → D → Option Bool
  | .non, .non => some true | .non, .bl _ => some false | .non, .int _ => some false | .non, .str _ => some false
  | .bl _, .non => some false | .bl a, .bl b => some (a == b) | .bl a, .int b => some ((if a then 1 else 0) == b) | .bl _, .str _ => some false
  | .int _, .non => some false | .int a, .bl b => some (a == (if b then 1 else 0)) | .int a, .int b => some (a == b) | .int _, .str _ => some false
  | .str _, .non => some false | .str _, .bl _ => some false | .str _, .int _ => some false | .str a, .str b => some (a == b)
  | _, _ => none
/-- is x among the items -/
def anyF (x : D) : List D → Option Bool
  | [] => some false
  | y :: ys => (eqF y x).bind fun b => (anyF x ys).map fun c => b || c
def flatD : D → Bool | .non => true | .bl _ => true | .int _ => true | .str _ => true | _ => false
def inSeq (neg : Bool) : D → D → Option D := fun x y => match y with
  | .lst ds => if flatD x then (anyF x ds).map fun b => .bl (if neg then !b else b) else none
  | .tup ds => if flatD x then (anyF x ds).map fun b => .bl (if neg then !b else b) else none
  | _ => none
theorem eqF_rep {r : Rf} {H : Hp} {v u : V} {a b : D} {k : Bool} (ra : Rep K r H v a) (rb : Rep K r H u b) (e : eqF a b = some k) : eqV v u = k ∧ flatV v = true ∧ flatV u = true := by
  cases a <;> cases b <;> first
    | cases e; done
    | (cases ra; cases rb; cases e; exact ⟨rfl, rfl, rfl⟩)
theorem anyF_rep {r : Rf} {H : Hp} {x : V} {a : D} (ra : Rep K r H x a) : ∀ {ds : List D} {vs : List V} {k : Bool}, RepL K r H vs ds → anyF a ds = some k → inV x vs = k ∧ vs.all flatV = true
  | [], _, _, .nil, e => by cases e; exact ⟨rfl, rfl⟩
  | d :: ds, _, k, .cons p l, e => by
    obtain ⟨b, h1, h2⟩ := Option.bind_eq_some_iff.mp (show ((eqF d a).bind fun b => (anyF a ds).map fun c => b || c) = some k from e)
    obtain ⟨c, h3, h4⟩ := Option.map_eq_some_iff.mp h2
    obtain ⟨g1, g2⟩ := anyF_rep ra l h3
    obtain ⟨g3, g4, _⟩ := eqF_rep p ra h1
    refine ⟨?_, by rw [List.all_cons, g4, g2]; rfl⟩
    unfold inV at g1 ⊢
    rw [List.any_cons, g3, g1]; exact h4
theorem flat_rep {r : Rf} {H : Hp} {x : V} {a : D} (ra : Rep K r H x a) (h : flatD a = true) : flatV x = true := by
  cases a <;> first
    | cases h; done
    | (cases ra; rfl)
theorem inSeq_ok (neg : Bool) {rho : Rf} {H : Hp} {x y : V} {a b d : D} {Q : VK} (ra : Rep K rho H x a) (rb : Rep K rho H y b) (e : inSeq neg a b = some d) (q : ∀ v H', Same H H' → Rep K rho H' v d → Q v H') : rIn K neg x y H Q := by
  cases b with
  | lst ds =>
    have e' : (if flatD a then (anyF a ds).map fun b => D.bl (if neg then !b else b) else none) = some d := e
    by_cases fl : flatD a = true
    case neg => rw [if_neg fl] at e'; cases e'
    rw [if_pos fl] at e'
    obtain ⟨k, h1, h2⟩ := Option.map_eq_some_iff.mp e'
    subst h2
    cases rb with
    | lst g1 g2 g3 =>
      obtain ⟨z1, z2⟩ := anyF_rep ra g3 h1
      refine ⟨_, _, rfl, .inl (.of g1), flat_rep ra fl, z2, ?_⟩
      rw [z1]; exact q _ H (fun _ _ h => h) (.bl _)
  | tup ds =>
    have e' : (if flatD a then (anyF a ds).map fun b => D.bl (if neg then !b else b) else none) = some d := e
    by_cases fl : flatD a = true
    case neg => rw [if_neg fl] at e'; cases e'
    rw [if_pos fl] at e'
    obtain ⟨k, h1, h2⟩ := Option.map_eq_some_iff.mp e'
    subst h2
    obtain ⟨p, us, rfl, s, l⟩ := rb.sqT
    obtain ⟨z1, z2⟩ := anyF_rep ra l h1
    refine ⟨_, _, rfl, .inr s, flat_rep ra fl, z2, ?_⟩
    rw [z1]; exact q _ H (fun _ _ h => h) (.bl _)
  | _ => cases e
theorem ok_in : OpOk X (compareOp .In) (inSeq false) := ⟨_, op_in_seq, fun rho H x y a b d st Q si ra rb e q => inSeq_ok false ra rb e q⟩
theorem ok_notin : OpOk X (compareOp .NotIn) (inSeq true) := ⟨_, op_notIn_seq, fun rho H x y a b d st Q si ra rb e q => inSeq_ok true ra rb e q⟩
end
end DL
namespace DL
open PySem PySem.Spec PyProof.Rows L2
variable {K : PySem.W.Frag}
section
variable {X : Cx} {W : WXd}
theorem GX.blk {k : Nat} (g : GX X k) {s : Shared} {H : Hp} {sc : Scope} {ce : Env} {fp : List Addr} : GX (X.blk s H sc ce fp) k := ⟨g.calm, g.nd, g.room, g.gd⟩
/-- a, b = x, y -/
def par2 (i j : Nat) (ds : List D) (env : Lo) : Option Lo := match ds with | [x, y] => some ((env.set i (some x)).set j (some y)) | _ => none
def par3 (i j l : Nat) (ds : List D) (env : Lo) : Option Lo := match ds with | [x, y, z] => some (((env.set i (some x)).set j (some y)).set l (some z)) | _ => none
theorem par2_some {i j : Nat} {ds : List D} {env e : Lo} (h : par2 i j ds env = some e) : ∃ x y, ds = [x, y] ∧ e = (env.set i (some x)).set j (some y) := by
  unfold par2 at h
  split at h
  · cases h; exact ⟨_, _, rfl, rfl⟩
  · cases h
def sPar (f : List D → Lo → Option Lo) (fa : FA) : FS := fun env st => (fa env st).bind fun p => (f p.1 env).map fun e => (.nx, e, p.2)
theorem ds_par2 (i j : Nat) {x y : Str} {a b : Expr} {fa : FA} {px py pt pos : Pos} {kt k2 : Nat} {pt2 : Pos} {k : Nat} (g : GX X k) (hi : X.N[i]? = some x) (hj : X.N[j]? = some y) (hij : i ≠ j)
    (hx : X.env.scope.names.lookup x = some .local) (hy : X.env.scope.names.lookup y = some .local) (ha : DA X [a, b] fa)
    (hw : swappedStores [.Tuple [.Name x px, .Name y py] kt pt] (.Tuple [a, b] k2 pt2) X.env = pure (some [x, y]) := by rfl)
    (hs : swapsWithSole [.Tuple [.Name x px, .Name y py] kt pt] (.Tuple [a, b] k2 pt2) pos.line X.env = pure false := by rfl) :
    DS X W (.Assign [.Tuple [.Name x px, .Name y py] kt pt] (.Tuple [a, b] k2 pt2) pos) (sPar (par2 i j) fa) := weakS (ps_par g.calm g.nd hi hj hij hx hy ha hw hs) fun D' σ H hh => by
  obtain ⟨r, env, st, o, env', st', he, hs, hf, q⟩ := hh
  obtain ⟨⟨ds, s1⟩, h1, h2⟩ := Option.bind_eq_some_iff.mp hf
  obtain ⟨e1, h3, h4⟩ := Option.map_eq_some_iff.mp h2
  cases h4
  obtain ⟨a, b, rfl, rfl⟩ := par2_some h3
  refine ⟨r, env, st, _, _, he, hs, h1, fun vs r1 H1 x1 q1 l1 => ?_⟩
  obtain ⟨v, u, rfl, p1, p2⟩ := lst2 l1
  exact ⟨v, u, rfl, q _ r1 H1 x1 (((he.ext x1).set p1 i).set p2 j) q1⟩
end
end DL
/-! The laws' tape of draws, once for all laws. -/
namespace DL
open PySem PySem.Spec PyProof.Rows L2
open Builtin.Int (intBits)
def gTape : FS := (sSeq (sAsg (fOp opAdd (fC (.int 97)) (fOp opMul (fVar 1) (fC (.int 31)))) (gN 2)) (sSeq (sFor (iOf asScr (fVar 0)) (gN 3) (sAsg (fOp opAdd (fOp modI (fOp powI (fOp opAdd (fOp opAdd (fOp opMul (fVar 2) (fC (.int 30011))) (fOp opMul (fVar 3) (fVar 3))) (fC (.int 7))) (fC (.int 2))) (fC (.int 2147483563))) (fC (.int 2))) (gN 2))) (sSeq (sAsg (fIfE (fAndT (fTest (fOp opLt (fVar 1) (fMk bLen (aCons (fVar 0) aNil)))) (fTest (fOp opGe (fSub (fVar 0) (fVar 1)) (fOp powI (fC (.int 10)) (fC (.int 18)))))) (fOp subI (fSub (fVar 0) (fVar 1)) (fOp powI (fC (.int 10)) (fC (.int 18)))) (fC (.int 0))) (gN 4)) (sRet (fDict (((fC (.str (Str.ofString "digits"))), (fVar 4)) :: (((fC (.str (Str.ofString "mixed"))), (fVar 2)) :: [])))))))
def gPick : FS := (sSeq (sIf (fTest (fOp opGe (fSub (fVar 0) (fC (.str (Str.ofString "digits")))) (fVar 1))) (sSeq (sAsg (fOp modI (fSub (fVar 0) (fC (.str (Str.ofString "digits")))) (fVar 1)) (gN 2)) (sSeq (sPut (fVar 0) (fC (.str (Str.ofString "digits"))) (fOp fdivI (fSub (fVar 0) (fC (.str (Str.ofString "digits")))) (fVar 1))) (sRet (fVar 2)))) sNil) (sSeq (sPut (fVar 0) (fC (.str (Str.ofString "mixed"))) (fOp modI (fOp opAdd (fOp opMul (fSub (fVar 0) (fC (.str (Str.ofString "mixed")))) (fC (.int 40014))) (fC (.int 1013))) (fC (.int 2147483563)))) (sRet (fOp modI (fOp fdivI (fOp modI (fOp powI (fOp modI (fOp powI (fSub (fVar 0) (fC (.str (Str.ofString "mixed")))) (fC (.int 2))) (fC (.int 2147483399))) (fC (.int 3))) (fC (.int 998244353))) (fC (.int 5))) (fVar 1)))))
def mTape : FM := mOf 5 gTape
def mPick : FM := mOf 3 gPick
def gOne : FS := (sRet (fSub (fVar 1) (fCall mPick (aCons (fVar 0) (aCons (fMk bLen (aCons (fVar 1) aNil)) aNil)))))
def mOne : FM := mOf 2 gOne
abbrev kD : Key := .inr (Str.ofString "digits")
abbrev kM : Key := .inr (Str.ofString "mixed")
theorem kDM : ¬ Str.ofString "digits" = Str.ofString "mixed" := by decide
theorem kMD : ¬ Str.ofString "mixed" = Str.ofString "digits" := by decide
/-- the tape's pairs -/
def tapeKV (a b : Int) : List (Key × D) := [(kD, .int a), (kM, .int b)]
theorem tape_valD (a b : Int) : valD (tapeKV a b) kD = some (.int a) := by simp [valD, tapeKV]
theorem tape_valM (a b : Int) : valD (tapeKV a b) kM = some (.int b) := by simp [valD, tapeKV, kDM]
theorem tape_putD (a b c : Int) : putD (tapeKV a b) kD (.int c) = tapeKV c b := by simp [putD, tapeKV, kDM, kMD]
theorem tape_putM (a b c : Int) : putD (tapeKV a b) kM (.int c) = tapeKV a c := by simp [putD, tapeKV, kDM, kMD]
/-- the tape at n -/
structure Tp (st : Store) (n : Nat) : Prop where
  at_ : ∃ a b : Int, st[n]? = some (.dct (tapeKV a b)) ∧ 0 ≤ a ∧ 0 ≤ b ∧ b < 4294967296
/-- nothing else has changed -/
structure Fr (n : Nat) (st st' : Store) : Prop where
  len : st.length ≤ st'.length
  at_ : ∀ m, m ≠ n → m < st.length → st'[m]? = st[m]?
theorem Fr.refl (n : Nat) (st : Store) : Fr n st st := ⟨Nat.le_refl _, fun _ _ _ => rfl⟩
theorem Fr.trans {n : Nat} {a b c : Store} (x : Fr n a b) (y : Fr n b c) : Fr n a c := ⟨Nat.le_trans x.len y.len, fun m h1 h2 => (y.at_ m h1 (Nat.lt_of_lt_of_le h2 x.len)).trans (x.at_ m h1 h2)⟩
theorem Fr.set {n : Nat} {st : Store} (o : Ob) : Fr n st (st.set n o) := ⟨by rw [List.length_set]; exact Nat.le_refl _, fun m h _ => by rw [List.getElem?_set_ne (Ne.symm h)]⟩
theorem Tp.lt {st : Store} {n : Nat} (h : Tp st n) : n < st.length := let ⟨_, _, e, _⟩ := h.at_; (List.getElem?_eq_some_iff.mp e).1
theorem bits32 {x : Int} (h0 : 0 ≤ x) (h1 : x < 4294967296) : intBits x ≤ 32 := intBits_le_iff.mpr (by omega)
theorem opAdd_int (a b : Int) : opAdd (.int a) (.int b) = some (.int (a + b)) := by simp [opAdd, orD, addI, onI]
theorem opMul_int {a b : Int} {m n : Nat} (ha : intBits a ≤ m) (hb : intBits b ≤ n) (h : m + n ≤ 134217728) : opMul (.int a) (.int b) = some (.int (a * b)) := by
  have : intBits a + intBits b ≤ 134217728 := by omega
  simp [opMul, orD, mulI, onI, this]
theorem modI_int {a b : Int} (h : 0 < b) : modI (.int a) (.int b) = some (.int (a % b)) := by simp [modI, onI, h]
theorem fdivI_int {a b : Int} (h : 0 < b) (h2 : b < 1073741824) : fdivI (.int a) (.int b) = some (.int (a / b)) := by simp [fdivI, onI, h, h2]
theorem powI_int {a b : Int} {m : Nat} (h0 : 0 ≤ b) (ha : intBits a ≤ m) (h : (m : Int) * b ≤ 134217728) : powI (.int a) (.int b) = some (.int (a ^ b.toNat)) := by
  have : (intBits a : Int) * b ≤ 134217728 := Int.le_trans (Int.mul_le_mul_of_nonneg_right (Int.ofNat_le.mpr ha) h0) h
  simp [powI, onI, h0, this]
theorem opGe_int (a b : Int) : opGe (.int a) (.int b) = some (.bl (decide (b ≤ a))) := by simp [opGe, orD, geI, onI]
theorem opLt_int (a b : Int) : opLt (.int a) (.int b) = some (.bl (decide (a < b))) := by simp [opLt, orD, ltI, onI]
theorem opLe_int (a b : Int) : opLe (.int a) (.int b) = some (.bl (decide (a ≤ b))) := by simp [opLe, orD, leI, onI]
theorem opGt_int (a b : Int) : opGt (.int a) (.int b) = some (.bl (decide (b < a))) := by simp [opGt, orD, gtI, onI]
theorem subI_int (a b : Int) : subI (.int a) (.int b) = some (.int (a - b)) := by simp [subI, onI]
theorem subTape {st : Store} {n : Nat} {a b : Int} (h : st[n]? = some (.dct (tapeKV a b))) : ixD (.ref n) (.str (Str.ofString "digits")) st = some (.int a) ∧ ixD (.ref n) (.str (Str.ofString "mixed")) st = some (.int b) := by
  constructor
  · unfold ixD
    simp only [h, asKey, Option.bind_some]
    exact tape_valD a b
  · unfold ixD
    simp only [h, asKey, Option.bind_some]
    exact tape_valM a b
theorem put_ref {env : Lo} {st s1 s2 s3 : Store} {fo fk fv : F} {d : D} {n : Nat} {kd : D} {k : Key} {kvs : List (Key × D)} (h1 : fv env st = some (d, s1)) (h2 : fo env s1 = some (.ref n, s2)) (h3 : fk env s2 = some (kd, s3)) (hk : asKey kd = some k)
    (hs : s3[n]? = some (.dct kvs)) (hl : kvs.length < 1000) : sPut fo fk fv env st = some (.nx, env, s3.set n (.dct (putD kvs k d))) := by
  have : kvs.length < sizeLine := Nat.lt_of_lt_of_le hl (by decide)
  simp [sPut, h1, h2, h3, hs, hk, this]
theorem pick_ok {st : Store} {n : Nat} {s : Int} (t : Tp st n) (h0 : 0 < s) (h1 : s < 1073741824) : ∃ r st', mPick [.ref n, .int s] st = some (.int r, st') ∧ 0 ≤ r ∧ r < s ∧ Tp st' n ∧ Fr n st st' ∧ st'.length = st.length := by
  obtain ⟨a, b, e, ha, hb, hb2⟩ := t.at_
  have hn := t.lt
  obtain ⟨g1, g2⟩ := subTape e
  by_cases c : s ≤ a
  · refine ⟨a % s, st.set n (.dct (tapeKV (a / s) b)), ?_, Int.emod_nonneg _ (by omega), Int.emod_lt_of_pos _ h0, ⟨a / s, b, by rw [List.getElem?_set_self hn], Int.ediv_nonneg ha (by omega), hb, hb2⟩, .set _, by rw [List.length_set]⟩
    have p : ∀ env : Lo, env[0]? = some (some (.ref n)) → env[1]? = some (some (.int s)) → sPut (fVar 0) (fC (.str (Str.ofString "digits"))) (fOp fdivI (fSub (fVar 0) (fC (.str (Str.ofString "digits")))) (fVar 1)) env st = some (.nx, env, st.set n (.dct (tapeKV (a / s) b))) := fun env x y => by
      rw [← tape_putD a b]
      refine put_ref (s1 := st) (s2 := st) (s3 := st) (kd := .str (Str.ofString "digits")) ?_ ?_ rfl rfl e (by simp [tapeKV])
      · simp [fOp, fSub, fVar, fC, x, y, g1, fdivI_int h0 h1]
      · simp [fVar, x]
    simp [mPick, mOf, gPick, outM, startD, sSeq, sIf, fTest, asB, fOp, fSub, fVar, fC, g1, opGe_int, c, sAsg, modI_int h0, gN]
    rw [p _ rfl rfl]
    simp [sRet, fVar]
  · have hm : 0 ≤ (b * 40014 + 1013) % 2147483563 := Int.emod_nonneg _ (by decide)
    have hm2 : (b * 40014 + 1013) % 2147483563 < 2147483563 := Int.emod_lt_of_pos _ (by decide)
    have gset : (st.set n (.dct (tapeKV a ((b * 40014 + 1013) % 2147483563))))[n]? = some (.dct (tapeKV a ((b * 40014 + 1013) % 2147483563))) := by rw [List.getElem?_set_self hn]
    obtain ⟨_, g3⟩ := subTape gset
    have p : ∀ env : Lo, env[0]? = some (some (.ref n)) → sPut (fVar 0) (fC (.str (Str.ofString "mixed"))) (fOp modI (fOp opAdd (fOp opMul (fSub (fVar 0) (fC (.str (Str.ofString "mixed")))) (fC (.int 40014))) (fC (.int 1013))) (fC (.int 2147483563))) env st = some (.nx, env, st.set n (.dct (tapeKV a ((b * 40014 + 1013) % 2147483563)))) := fun env x => by
      rw [← tape_putM a b]
      refine put_ref (s1 := st) (s2 := st) (s3 := st) (kd := .str (Str.ofString "mixed")) ?_ ?_ rfl rfl e (by simp [tapeKV])
      · simp [fOp, fSub, fVar, fC, x, g2, opMul_int (bits32 hb hb2) (bits32 (x := 40014) (by decide) (by decide)) (by decide), opAdd_int, modI_int (b := 2147483563) (by decide)]
      · simp [fVar, x]
    generalize hw : (b * 40014 + 1013) % 2147483563 = w at *
    have b1 : intBits w ≤ 32 := bits32 hm (by omega)
    have h5 : 0 ≤ w ^ 2 % 2147483399 := Int.emod_nonneg _ (by decide)
    have h6 : w ^ 2 % 2147483399 < 2147483399 := Int.emod_lt_of_pos _ (by decide)
    have b2 : intBits (w ^ 2 % 2147483399) ≤ 32 := bits32 h5 (by omega)
    refine ⟨(w ^ 2 % 2147483399) ^ 3 % 998244353 / 5 % s, st.set n (.dct (tapeKV a w)), ?_, Int.emod_nonneg _ (by omega), Int.emod_lt_of_pos _ h0, ⟨a, w, gset, ha, hm, by omega⟩, .set _, by rw [List.length_set]⟩
    simp [mPick, mOf, gPick, outM, startD, sSeq, sIf, fTest, asB, fOp, fSub, fVar, fC, g1, opGe_int, c, sNil]
    rw [p _ rfl]
    have q1 := powI_int (a := w) (b := 2) (by decide) b1 (by decide)
    have q2 := powI_int (a := w ^ 2 % 2147483399) (b := 3) (by decide) b2 (by decide)
    simp only [show (2 : Int).toNat = 2 from rfl, show (3 : Int).toNat = 3 from rfl] at q1 q2
    simp [sRet, fOp, fSub, fVar, fC, g3, q1, modI_int (b := 2147483399) (by decide), q2, modI_int (b := 998244353) (by decide), fdivI_int (b := 5) (by decide) (by decide), modI_int h0]
theorem atI_lt {α : Type} {xs : List α} {i : Int} (h0 : 0 ≤ i) (h1 : i < xs.length) : ∃ d, L2.atI xs i = some d ∧ d ∈ xs := by
  have hi : i.toNat < xs.length := by omega
  refine ⟨xs[i.toNat], ?_, List.getElem_mem hi⟩
  have := atI_nat (xs := xs) (j := i.toNat) (List.getElem?_eq_getElem hi)
  rwa [Int.toNat_of_nonneg h0] at this
theorem one_ok {st : Store} {n : Nat} {xs : List D} (t : Tp st n) (h0 : 0 < xs.length) (h1 : xs.length < 1073741824) : ∃ d st', mOne [.ref n, .lst xs] st = some (d, st') ∧ d ∈ xs ∧ Tp st' n ∧ Fr n st st' ∧ st'.length = st.length := by
  obtain ⟨r, st', h, hr0, hr1, t', f, l⟩ := pick_ok t (s := (xs.length : Int)) (by omega) (by omega)
  obtain ⟨d, hd, hm⟩ := atI_lt hr0 hr1
  refine ⟨d, st', ?_, hm, t', f, l⟩
  simp [mOne, mOf, gOne, outM, startD, sRet, fSub, fVar, fCall, aCons, aNil, fMk, bLen, lenL, h, ixD, hd]
abbrev bTape : FS := (sAsg (fOp opAdd (fOp modI (fOp powI (fOp opAdd (fOp opAdd (fOp opMul (fVar 2) (fC (.int 30011))) (fOp opMul (fVar 3) (fVar 3))) (fC (.int 7))) (fC (.int 2))) (fC (.int 2147483563))) (fC (.int 2))) (gN 2))
theorem tape_loop {s t y : Option D} {st : Store} : ∀ (ns : List Int), (∀ z ∈ ns, intBits z ≤ 1048576) → ∀ (m : Int) (x : Option D), 0 ≤ m → m < 4294967296 →
    ∃ m' x', loopS (gN 3) bTape (ns.map .int) [s, t, some (.int m), x, y] st = some (.nx, [s, t, some (.int m'), x', y], st) ∧ 0 ≤ m' ∧ m' < 4294967296
  | [], _, m, x, h0, h1 => ⟨m, x, rfl, h0, h1⟩
  | z :: ns, hb, m, x, h0, h1 => by
    have hz := hb z List.mem_cons_self
    have b1 : intBits (m * 30011) ≤ 32 + 32 := intBits_mul_le (bits32 h0 h1) (bits32 (x := 30011) (by decide) (by decide))
    have b2 : intBits (z * z) ≤ 1048576 + 1048576 := intBits_mul_le hz hz
    have b3 : intBits (m * 30011 + z * z) ≤ 2097152 + 1 := Nat.le_trans (intBits_add_le b1 b2) (by decide)
    have b4 : intBits (m * 30011 + z * z + 7) ≤ 2097153 + 1 := Nat.le_trans (intBits_add_le b3 (bits32 (x := 7) (by decide) (by decide))) (by decide)
    have q := powI_int (a := m * 30011 + z * z + 7) (b := 2) (by decide) b4 (by decide)
    have h2 : 0 ≤ (m * 30011 + z * z + 7) ^ (2 : Int).toNat % 2147483563 := Int.emod_nonneg _ (by decide)
    have h3 : (m * 30011 + z * z + 7) ^ (2 : Int).toNat % 2147483563 < 2147483563 := Int.emod_lt_of_pos _ (by decide)
    obtain ⟨m', x', e, g0, g1⟩ := tape_loop (s := s) (t := t) (y := y) (st := st) ns (fun w hw => hb w (List.mem_cons_of_mem _ hw)) ((m * 30011 + z * z + 7) ^ (2 : Int).toNat % 2147483563 + 2) (some (.int z)) (by omega) (by omega)
    refine ⟨m', x', ?_, g0, g1⟩
    rw [← e, List.map_cons]
    generalize (m * 30011 + z * z + 7) ^ (2 : Int).toNat = w at *
    simp [loopS, gN, bTape, sAsg, fOp, fVar, fC, opMul_int (bits32 h0 h1) (bits32 (x := 30011) (by decide) (by decide)) (by decide), opMul_int hz hz (by decide), opAdd_int, q, modI_int (b := 2147483563) (by decide)]
theorem tape_ok {st : Store} {ns : List Int} {s : Int} (hb : ∀ z ∈ ns, intBits z ≤ 1048576) (h0 : 0 ≤ s) (h1 : s < 1000) : ∃ st', mTape [.scr ns, .int s] st = some (.ref st.length, st') ∧ st'.length = st.length + 1 ∧ Tp st' st.length ∧ ∀ m, m < st.length → st'[m]? = st[m]? := by
  obtain ⟨m', x', e, g0, g1⟩ := tape_loop (s := some (.scr ns)) (t := some (.int s)) (y := none) (st := st) ns hb (97 + s * 31) none (by omega) (by omega)
  have q := powI_int (a := 10) (b := 18) (by decide) (bits32 (by decide) (by decide)) (by decide)
  have b1 : intBits s ≤ 32 := bits32 h0 (by omega)
  -- the digits
  obtain ⟨d, hd, hd0⟩ : ∃ d : Int, (fIfE (fAndT (fTest (fOp opLt (fVar 1) (fMk bLen (aCons (fVar 0) aNil)))) (fTest (fOp opGe (fSub (fVar 0) (fVar 1)) (fOp powI (fC (.int 10)) (fC (.int 18)))))) (fOp subI (fSub (fVar 0) (fVar 1)) (fOp powI (fC (.int 10)) (fC (.int 18)))) (fC (.int 0)))
      [some (.scr ns), some (.int s), some (.int m'), x', none] st = some (.int d, st) ∧ 0 ≤ d := by
    by_cases c : s < ns.length
    · obtain ⟨z, hz, _⟩ := atI_lt h0 c
      by_cases c2 : (1000000000000000000 : Int) ≤ z
      · exact ⟨z - 1000000000000000000, by simp [fIfE, fAndT, fTest, fOp, fVar, fMk, aCons, aNil, bLen, lenL, opLt_int, asB, c, fSub, ixD, hz, fC, q, opGe_int, c2, subI_int], by omega⟩
      · exact ⟨0, by simp [fIfE, fAndT, fTest, fOp, fVar, fMk, aCons, aNil, bLen, lenL, opLt_int, asB, c, fSub, ixD, hz, fC, q, opGe_int, c2], by omega⟩
    · exact ⟨0, by simp [fIfE, fAndT, fTest, fOp, fVar, fMk, aCons, aNil, bLen, lenL, opLt_int, asB, c, fC], by omega⟩
  refine ⟨st ++ [.dct (tapeKV d m')], ?_, by simp, ⟨d, m', by simp, hd0, g0, g1⟩, fun m hm => by rw [List.getElem?_append_left hm]⟩
  have e' : loopS (gN 3) bTape (ns.map D.int) [some (.scr ns), some (.int s), some (.int (97 + s * 31)), none, none] st = some (.nx, [some (.scr ns), some (.int s), some (.int m'), x', none], st) := e
  simp only [bTape] at e'
  simp [mTape, mOf, gTape, outM, startD, sSeq, sAsg, fOp, fVar, fC, opMul_int b1 (bits32 (x := 31) (by decide) (by decide)) (by decide), opAdd_int, gN, sFor, iOf, asScr, e', hd]
  simp [sRet, fDict, evP, fC, fVar, asKey, mergeD, putD, kDM, tapeKV]
end DL
/-! Plain texts, flat values, loops with an invariant. -/
namespace DL
open PySem PySem.Spec PyProof.Rows L2 TL
open Builtin.Int (intBits)
/-- at most n signs, all of ASCII -/
def GS (n : Nat) (x : Str) : Prop := x.length ≤ n ∧ ∀ c ∈ tl x, c < 128
theorem GS.mono {m n : Nat} {x : Str} (h : GS m x) (l : m ≤ n) : GS n x := ⟨Nat.le_trans h.1 l, h.2⟩
theorem GS.append {m n : Nat} {x y : Str} (a : GS m x) (b : GS n y) : GS (m + n) (x ++ y) := by
  refine ⟨?_, fun c hc => ?_⟩
  · rw [len_tl, tl_append, List.length_append, ← len_tl, ← len_tl]
    have := a.1
    have := b.1
    omega
  · rw [tl_append] at hc
    rcases List.mem_append.mp hc with h | h
    · exact a.2 c h
    · exact b.2 c h
theorem joinL_nil : ∀ ps : List (List Nat), joinL [] ps = ps.flatten
  | [] => rfl
  | [p] => by simp [joinL]
  | p :: q :: r => by
    have := joinL_nil (q :: r)
    simp only [joinL] at this ⊢
    rw [this]
    simp
theorem tl_join0 (ps : List Str) : tl (Txt.join (Str.ofString "") ps) = (ps.map tl).flatten := by
  rw [join_eq, tl_join, show tl (Str.ofString "") = [] from rfl, joinL_nil]
theorem GS.join {m : Nat} : ∀ {ps : List Str}, (∀ p ∈ ps, GS m p) → GS (ps.length * m) (Txt.join (Str.ofString "") ps) := fun {ps} h => by
  unfold GS
  rw [len_tl, tl_join0]
  induction ps with
  | nil => exact ⟨Nat.zero_le _, fun c hc => by cases hc⟩
  | cons p ps ih =>
    obtain ⟨i1, i2⟩ := ih fun q hq => h q (List.mem_cons_of_mem _ hq)
    obtain ⟨j1, j2⟩ := h p List.mem_cons_self
    rw [len_tl] at j1
    refine ⟨?_, fun c hc => ?_⟩
    · rw [List.map_cons, List.flatten_cons, List.length_append, List.length_cons, Nat.succ_mul]
      omega
    · rw [List.map_cons, List.flatten_cons] at hc
      rcases List.mem_append.mp hc with z | z
      · exact j2 c z
      · exact i2 c z
theorem GS.ok {n : Nat} {x : Str} (h : GS n x) : SeqAt.shaped (.str x) = true := by
  have : PyData.canLay0 (.str x) = true := by
    unfold PyData.canLay0
    unfold PyData.strOk
    rw [Array.all_eq_true]
    intro i hi
    have := h.2 x.cps[i] (by unfold tl; simp)
    exact decide_eq_true (by omega)
  unfold SeqAt.shaped
  rw [this]
  simp [PyData.depth]
/-- a flat value: None, an int, a text of at most n signs -/
def FV (n : Nat) : D → Prop | .non => True | .int _ => True | .str x => GS n x | _ => False
theorem FV.mono {m n : Nat} (l : m ≤ n) : ∀ {d : D}, FV m d → FV n d
  | .non, _ => trivial
  | .int _, _ => trivial
  | .str _, h => GS.mono h l
  | .bl _, h => h.elim
  | .tup _, h => h.elim
  | .lst _, h => h.elim
  | .dct _, h => h.elim
  | .scr _, h => h.elim
  | .ref _, h => h.elim
def vEq : D → D → Bool | .non, .non => true | .int a, .int b => a == b | .str a, .str b => a == b | _, _ => false
theorem opEq_fv {m n : Nat} {a b : D} (ha : FV m a) (hb : FV n b) : opEq a b = some (.bl (vEq a b)) := by
  cases a <;> cases b <;> first
    | exact ha.elim
    | exact hb.elim
    | skip
  all_goals simp only [opEq, toPy, Option.bind_some]
  all_goals first
    | rfl
    | (rw [if_pos ⟨rfl, GS.ok hb⟩]; rfl)
    | (rw [if_pos ⟨GS.ok ha, rfl⟩]; rfl)
    | (rw [if_pos ⟨GS.ok ha, GS.ok hb⟩]; rfl)
theorem opNe_fv {m n : Nat} {a b : D} (ha : FV m a) (hb : FV n b) : opNe a b = some (.bl (!vEq a b)) := by
  cases a <;> cases b <;> first
    | exact ha.elim
    | exact hb.elim
    | skip
  all_goals simp only [opNe, toPy, Option.bind_some]
  all_goals first
    | rfl
    | (rw [if_pos ⟨rfl, GS.ok hb⟩]; rfl)
    | (rw [if_pos ⟨GS.ok ha, rfl⟩]; rfl)
    | (rw [if_pos ⟨GS.ok ha, GS.ok hb⟩]; rfl)
theorem opEq_int (a b : Int) : opEq (.int a) (.int b) = some (.bl (a == b)) := opEq_fv (m := 0) (n := 0) (a := .int a) (b := .int b) trivial trivial
theorem opNe_int (a b : Int) : opNe (.int a) (.int b) = some (.bl (!(a == b))) := opNe_fv (m := 0) (n := 0) (a := .int a) (b := .int b) trivial trivial
theorem opAdd_str {a b : Str} (h : a.length + b.length ≤ 16777216) : opAdd (.str a) (.str b) = some (.str (a ++ b)) := by
  have : a.length + b.length ≤ sizeLine := by rw [sizeLine_eq]; exact h
  simp [opAdd, orD, addI, addS, onI, onS, this]
/-! ### loops -/
/-- a for that runs through, by what holds between the turns -/
theorem loopS_inv {tg : FG} {body : FS} (I : Lo → Store → Prop) : ∀ {ds : List D}, (∀ d ∈ ds, ∀ env st, I env st → ∃ e1, tg d env = some e1 ∧ ∃ o e2 s2, body e1 st = some (o, e2, s2) ∧ (o = .nx ∨ o = .ct) ∧ I e2 s2) →
    ∀ {env : Lo} {st : Store}, I env st → ∃ e2 s2, loopS tg body ds env st = some (.nx, e2, s2) ∧ I e2 s2
  | [], _, env, st, i => ⟨env, st, rfl, i⟩
  | d :: ds, h, env, st, i => by
    obtain ⟨e1, h1, o, e2, s2, h2, ho, i2⟩ := h d List.mem_cons_self env st i
    obtain ⟨e3, s3, h3, i3⟩ := loopS_inv I (fun d hd => h d (List.mem_cons_of_mem _ hd)) i2
    refine ⟨e3, s3, ?_, i3⟩
    rcases ho with rfl | rfl
    · simp [loopS, h1, h2, h3]
    · simp [loopS, h1, h2, h3]
theorem rg_len (lo hi : Int) : (rg lo hi).length = (hi - lo).toNat := by simp [rg]
theorem rg_mem {lo hi : Int} {d : D} (h : d ∈ rg lo hi) : ∃ i : Int, d = .int i ∧ lo ≤ i ∧ i < hi := by
  unfold rg at h
  obtain ⟨k, hk, e⟩ := List.mem_map.mp h
  subst e
  have := List.mem_range.mp hk
  exact ⟨_, rfl, by omega, by omega⟩
theorem asR1_ok {n : Int} (h0 : 0 ≤ n) (h1 : n < 1000000) : asR1 [.int n] = some (rg 0 n) := by
  have : -(2 ^ 62) ≤ n ∧ n < 2 ^ 62 := by omega
  simp only [asR1, if_pos this]
end DL
namespace DL
open PySem PySem.Spec PyProof.Rows L2 TL
/-- .. that lay nothing -/
theorem loopC_draw2 {is : List Nat} {bd : FB} {f : F} {n : Nat} {P : D → Prop} {env : Lo} : ∀ {ds : List D}, (∀ d ∈ ds, ∃ vs, bd d = some vs ∧ ∀ st, Tp st n → ∃ v st', f (setL is vs env) st = some (v, st') ∧ P v ∧ Tp st' n ∧ Fr n st st' ∧ st'.length = st.length) →
    ∀ {st : Store}, Tp st n → ∃ vs st', loopC is bd tTrue f ds env st = some (vs, st') ∧ vs.length = ds.length ∧ (∀ v ∈ vs, P v) ∧ Tp st' n ∧ Fr n st st' ∧ st'.length = st.length
  | [], _, st, t => ⟨[], st, rfl, rfl, fun _ h => (by cases h), t, .refl _ _, rfl⟩
  | d :: ds, h, st, t => by
    obtain ⟨ws, hb, hf⟩ := h d List.mem_cons_self
    obtain ⟨v, s1, h1, pv, t1, f1, l1⟩ := hf st t
    obtain ⟨vs, s2, h2, l2, p2, t2, f2, g2⟩ := loopC_draw2 (fun d hd => h d (List.mem_cons_of_mem _ hd)) t1
    refine ⟨v :: vs, s2, by simp [loopC, hb, tTrue, h1, h2], by simp [l2], fun w hw => ?_, t2, f1.trans f2, by rw [g2, l1]⟩
    rcases List.mem_cons.mp hw with rfl | hw
    · exact pv
    · exact p2 w hw
end DL
/-! More operations: nested data in a list or tuple, pairs in order, slices of texts, repr, a def that answers nothing. -/
namespace DL
open PySem PySem.Spec PyProof.Rows L2 TL
variable {K : PySem.W.Frag}
/-- at fuel 0 -/
theorem FnD.nil {P : Program} {w : World} {mg : Str → Option Value} {base : Heap} {k : Nat} {f : Addr} {fd : FuncData} {ps : List Str} : FnD P w K mg base k f fd ps (fun _ _ => none) :=
  ⟨fun _ _ _ _ _ _ _ _ _ _ _ _ _ _ _ _ _ _ _ _ _ h => by cases h⟩
section
variable {X : Cx} {W : WXd}
/-! ### in, nested data -/
def inPy (neg : Bool) : D → D → Option D := fun x y => (toPy x).bind fun p => match y with
  | .lst ds => (toPyL ds).bind fun qs => if SeqAt.shaped p = true ∧ SeqAt.shaped (.list qs) = true then some (.bl (if neg then !(qs.any fun z => PyData.eqv z p) else qs.any fun z => PyData.eqv z p)) else none
  | .tup ds => (toPyL ds).bind fun qs => if SeqAt.shaped p = true ∧ SeqAt.shaped (.tuple qs) = true then some (.bl (if neg then !(qs.any fun z => PyData.eqv z p) else qs.any fun z => PyData.eqv z p)) else none
  | _ => none
def rInPy (K : PySem.W.Frag) (neg : Bool) : R2 := fun x y H Q => ∃ d ds, Dp K H x d ∧ ((Dp K H y (.list ds) ∧ SeqAt.shaped (.list ds) = true) ∨ (Dp K H y (.tuple ds) ∧ SeqAt.shaped (.tuple ds) = true)) ∧ SeqAt.shaped d = true ∧
  Q (.bl (if neg then !(ds.any fun z => PyData.eqv z d) else ds.any fun z => PyData.eqv z d)) H
theorem op_inPy (hu : X.A.units + 65 < cLine) : OpR X (compareOp .In) (rInPy X.K false) := by
  intro pins s σ H x y v u Q I rx ry h
  obtain ⟨d, ds, hd, he, sd, q⟩ := h
  obtain ⟨as, r1⟩ := Dp.reads I d x v hd rx
  rcases he with ⟨he, se⟩ | ⟨he, se⟩
  · obtain ⟨bs, r2⟩ := Dp.reads I (.list ds) y u he ry
    exact SeqAt.in_list_reads r2 r1 (SeqAt.canLay_of_shaped se) (SeqAt.canLay_of_shaped sd) (room_in_shaped sd hu) ⟨.bl _, H, I, rfl, q⟩
  · obtain ⟨bs, r2⟩ := Dp.reads I (.tuple ds) y u he ry
    exact SeqAt.in_tuple_reads r2 r1 (SeqAt.canLay_of_shaped se) (SeqAt.canLay_of_shaped sd) (room_in_shaped sd hu) ⟨.bl _, H, I, rfl, q⟩
theorem inPy_ok (neg : Bool) {rho : Rf} {H : Hp} {x y : V} {a b d : D} {Q : VK} (ra : Rep K rho H x a) (rb : Rep K rho H y b) (e : inPy neg a b = some d) (q : ∀ v H', Same H H' → Rep K rho H' v d → Q v H') : rInPy K neg x y H Q := by
  obtain ⟨p, h1, h2⟩ := Option.bind_eq_some_iff.mp e
  split at h2
  · rename_i ds
    obtain ⟨qs, h3, h4⟩ := Option.bind_eq_some_iff.mp h2
    split at h4
    · rename_i sh
      cases h4
      exact ⟨p, qs, ra.dp h1, .inl ⟨rb.dp (show (toPyL ds).map PyData.list = some (.list qs) by rw [h3]; rfl), sh.2⟩, sh.1, q _ H (fun _ _ h => h) (.bl _)⟩
    · cases h4
  · rename_i ds
    obtain ⟨qs, h3, h4⟩ := Option.bind_eq_some_iff.mp h2
    split at h4
    · rename_i sh
      cases h4
      exact ⟨p, qs, ra.dp h1, .inr ⟨rb.dp (show (toPyL ds).map PyData.tuple = some (.tuple qs) by rw [h3]; rfl), sh.2⟩, sh.1, q _ H (fun _ _ h => h) (.bl _)⟩
    · cases h4
  · cases h2
def opIn : D → D → Option D := orD (inSeq false) (inPy false)
theorem ok_inD {k : Nat} (g : GX X k) : OpOk X (compareOp .In) opIn := ok_in.or ⟨_, op_inPy (by have := g.room.un; omega), fun rho H x y a b d st Q si ra rb e q => inPy_ok false ra rb e q⟩
/-! ### (a, b) < (c, d), flat -/
section
open PySem.AutoSeq1 (wpAny_loadPart')
open PySem.MeetsSeq PySem.MeetsSeq2 PySem.MeetsSeq3 PySem.SeqAt
/-- two pairs whose first items differ: these alone are asked -/
theorem pair_first {p q : Addr} {x0 x1 y0 y1 : Value} {i1 i2 : Nat} {d1 d2 : Option Addr} {t1 t2 : Array (Option Value)} {k : Bool} : Meets (Builtin.«tuple.__lt__» ⟨[.ref p, .ref q], []⟩) (fun A R s =>
    s.heap.get? p = some ⟨.type "tuple", d1, .seq #[x0, x1] i1, t1⟩ ∧ s.heap.get? q = some ⟨.type "tuple", d2, .seq #[y0, y1] i2, t2⟩ ∧ EqAt A.in1 s x0 y0 false ∧ RcLt A.in1 s x0 y0 k ∧ R (.ok (.ret (.bool k))) s) := .of_wp fun P w A R s hh => by
  obtain ⟨hp, g, d, tk, os⟩ := s
  obtain ⟨g1, g2, differ, less, done⟩ := hh
  have sub := AutoSeq1.sub_tuple_tuple
  wp_walk using wpAny_loadPart' g1, wpAny_loadPart' g2, wpAny_forIn_list _ (fun todo acc now => acc.1 = none ∧ now = ⟨hp, g, d, tk, os⟩ ∧ todo = [(x0, y0), (x1, y1)]) _
  case turn =>
    rintro ⟨u, v⟩ todo acc now ⟨e1, rfl, e2⟩
    injection e2 with e3 _
    injection e3 with eu ev
    subst eu ev
    refine wpAny_bind (differ P w _ _ ?_)
    have ask := less P w
    wp_walk using ask
    exact ⟨_, rfl, done⟩
  case fin =>
    rintro ⟨_, _⟩ now ⟨_, _, e2⟩
    cases e2
  case h =>
    exact ⟨rfl, rfl, rfl⟩
end
/-- a < b of two of one kind -/
def ltF : V → V → Option Bool
  | .int a, .int b => some (decide (a < b))
  | .str a, .str b => some (decide (a.cps.toList < b.cps.toList))
  | _, _ => none
theorem rcLt_V {A : Around} {s : Shared} {x y : V} {v u : Value} {k : Bool} (rx : RelV x v) (ry : RelV y u) (e : ltF x y = some k) : SeqAt.RcLt A s v u k := by
  unfold ltF at e
  split at e
  · cases e
    obtain ⟨t, rfl⟩ := rx
    obtain ⟨t', rfl⟩ := ry
    exact fun _ _ _ _ h => PyProof.Rows.lt_int h
  · cases e
    obtain ⟨t, rfl⟩ := rx
    obtain ⟨t', rfl⟩ := ry
    exact fun _ _ _ _ h => PySem.P.lt_str h
  · cases e
/-- the order of two pairs -/
def lt2V (a b c d : V) : Option Bool := if eqV a c = true then (if eqV b d = true then some false else ltF b d) else ltF a c
def rLt2 (K : PySem.W.Frag) : R2 := fun x y H Q => ∃ p q a b c d k, x = .ref p ∧ y = .ref q ∧ SqT K H p [a, b] ∧ SqT K H q [c, d] ∧ flatV a = true ∧ flatV b = true ∧ flatV c = true ∧ flatV d = true ∧ lt2V a b c d = some k ∧ Q (.bl k) H
theorem op_lt2 (hu : X.A.units < cLine) : OpR X (compareOp .Lt) (rLt2 X.K) := by
  intro pins s σ H x y v u Q I rx ry h
  obtain ⟨p, q, a, b, c, d, k, rfl, rfl, hp, hq, fa, fb, fc, fd, hk, hQ⟩ := h
  cases rx
  cases ry
  obtain ⟨its, r1, p1, _⟩ := I.tuple hp
  obtain ⟨its2, r2, p2, _⟩ := I.tuple hq
  cases r1 with
  | @cons _ ua _ us1 ra t1 =>
  cases t1 with
  | @cons _ ub _ us2 rb t2 =>
  cases t2
  cases r2 with
  | @cons _ uc _ us3 rc t3 =>
  cases t3 with
  | @cons _ ud _ us4 rd t4 =>
  cases t4
  obtain ⟨⟨cls, dd, data, sl⟩, ho, hc, n, hd⟩ := id p1
  obtain ⟨⟨cls2, dd2, data2, sl2⟩, ho2, hc2, n2, hd2⟩ := id p2
  simp only at hc hd hc2 hd2
  subst hc hd hc2 hd2
  let e : Nat → Bool := fun j => match j with | 0 => eqV a c | _ => eqV b d
  let r : Nat → Bool := fun j => match j with | 0 => (ltF a c).getD false | _ => (ltF b d).getD false
  by_cases ac : eqV a c = true
  · by_cases bd : eqV b d = true
    · have hk' : k = false := by unfold lt2V at hk; rw [if_pos ac, if_pos bd] at hk; cases hk; rfl
      subst hk'
      refine richCompare_meets_room (op := .Lt) ⟨_, ho, rfl⟩ ⟨_, ho2, rfl⟩ PySem.F.slot_tuple_lt PySem.F.entry_tuple_lt (PySem.F.args_tuple_lt_2 _ _) (SeqAt.tuple_ltAt p q #[ua, ub] #[uc, ud] n n2 dd dd2 sl sl2 (fun _ => true) (fun _ => false))
        ⟨ho, ho2, fun j h1 h2 => ?_, fun j h1 h2 z => (by cases z), ⟨(fun x => nomatch x), ⟨.bl false, H, I, rfl, hQ⟩⟩⟩ hu
      match j, h1, h2 with
      | 0, _, _ =>
        rw [← ac]
        exact eqAt_V ra rc fa fc
      | 1, _, _ =>
        rw [← bd]
        exact eqAt_V rb rd fb fd
    · have bd' : eqV b d = false := by simpa using bd
      have hk' : ltF b d = some k := by unfold lt2V at hk; rw [if_pos ac, if_neg bd] at hk; exact hk
      refine richCompare_meets_room (op := .Lt) ⟨_, ho, rfl⟩ ⟨_, ho2, rfl⟩ PySem.F.slot_tuple_lt PySem.F.entry_tuple_lt (PySem.F.args_tuple_lt_2 _ _) (SeqAt.tuple_ltAt p q #[ua, ub] #[uc, ud] n n2 dd dd2 sl sl2 (fun j => j == 0) (fun _ => k))
        ⟨ho, ho2, fun j h1 h2 => ?_, fun j h1 h2 z => ?_, ⟨(fun x => nomatch x), ⟨.bl k, H, I, rfl, hQ⟩⟩⟩ hu
      · match j, h1, h2 with
        | 0, _, _ =>
          show SeqAt.EqAt X.A.in1 s ua uc true
          rw [← ac]
          exact eqAt_V ra rc fa fc
        | 1, _, _ =>
          show SeqAt.EqAt X.A.in1 s ub ud false
          rw [← bd']
          exact eqAt_V rb rd fb fd
      · match j, h1, h2, z with
        | 1, _, _, _ => exact rcLt_V rb rd hk'
  · have ac' : eqV a c = false := by simpa using ac
    have hk' : ltF a c = some k := by unfold lt2V at hk; rw [if_neg ac] at hk; exact hk
    exact richCompare_meets_room (op := .Lt) ⟨_, ho, rfl⟩ ⟨_, ho2, rfl⟩ PySem.F.slot_tuple_lt PySem.F.entry_tuple_lt (PySem.F.args_tuple_lt_2 _ _) pair_first
      ⟨ho, ho2, by rw [← ac']; exact eqAt_V ra rc fa fc, rcLt_V ra rc hk', ⟨(fun x => nomatch x), ⟨.bl k, H, I, rfl, hQ⟩⟩⟩ hu
def lt2 : D → D → Option D := fun x y => match x, y with
  | .tup [a, b], .tup [c, d] => (eqF a c).bind fun e => (eqF b d).bind fun e2 => if e = true then (if e2 = true then some (.bl false) else (orD ltI ltS) b d) else (orD ltI ltS) a c
  | _, _ => none
theorem ltF_of {r : Rf} {H : Hp} {x y : V} {a b d : D} (ra : Rep K r H x a) (rb : Rep K r H y b) (e : (orD ltI ltS) a b = some d) : ∃ k, d = .bl k ∧ ltF x y = some k ∧ flatV x = true ∧ flatV y = true := by
  cases a <;> cases b <;> first
    | cases e; done
    | (cases ra; cases rb; cases e; exact ⟨_, rfl, rfl, rfl, rfl⟩)
theorem ok_lt2 {k : Nat} (g : GX X k) : OpOk X (compareOp .Lt) lt2 := ⟨_, op_lt2 g.room.units0, fun rho H x y m n d st Q si rm rn e q => by
  unfold lt2 at e
  split at e
  · rename_i a b c d'
    obtain ⟨p, us, rfl, s1, l1⟩ := rm.sqT
    obtain ⟨p', us', rfl, s2, l2⟩ := rn.sqT
    obtain ⟨va, vb, rfl, ra, rb⟩ := lst2 l1
    obtain ⟨vc, vd, rfl, rc, rd⟩ := lst2 l2
    obtain ⟨e1, h1, h2⟩ := Option.bind_eq_some_iff.mp e
    obtain ⟨e2, h3, h4⟩ := Option.bind_eq_some_iff.mp h2
    obtain ⟨g1, f1, f2⟩ := eqF_rep ra rc h1
    obtain ⟨g2, f3, f4⟩ := eqF_rep rb rd h3
    have mk : ∀ j, lt2V va vb vc vd = some j → Q (.bl j) H → rLt2 X.K (.ref p) (.ref p') H Q := fun j hj hq => ⟨p, p', va, vb, vc, vd, j, rfl, rfl, s1, s2, f1, f3, f2, f4, hj, hq⟩
    cases e1 with
    | false =>
      rw [if_neg Bool.false_ne_true] at h4
      obtain ⟨j, rfl, lj, _, _⟩ := ltF_of ra rc h4
      exact mk j (by unfold lt2V; rw [if_neg (by rw [g1]; exact Bool.false_ne_true)]; exact lj) (q _ H (fun _ _ h => h) (.bl _))
    | true =>
      rw [if_pos rfl] at h4
      cases e2 with
      | true =>
        rw [if_pos rfl] at h4
        cases h4
        exact mk false (by unfold lt2V; rw [if_pos g1, if_pos g2]) (q _ H (fun _ _ h => h) (.bl _))
      | false =>
        rw [if_neg Bool.false_ne_true] at h4
        obtain ⟨j, rfl, lj, _, _⟩ := ltF_of rb rd h4
        exact mk j (by unfold lt2V; rw [if_pos g1, if_neg (by rw [g2]; exact Bool.false_ne_true)]; exact lj) (q _ H (fun _ _ h => h) (.bl _))
  · cases e⟩
def opLtD : D → D → Option D := orD opLt lt2
theorem ok_ltD {k : Nat} (g : GX X k) : OpOk X (compareOp .Lt) opLtD := ok_lt.or (ok_lt2 g)
/-! ### z[lo:hi] of a text -/
/-! ### repr -/
/-- what repr shows of x, if it is no more than may be shown -/
def shownD (d : PyData) : Option D := if d.hasDict = false ∧ d.showable = true ∧ d.depth ≤ 64 ∧ d.shown.length ≤ sizeLine then some (.str d.shown) else none
end
end DL
/-! Small data: what may be compared and shown. -/
namespace DL
open PySem PySem.Spec PyProof.Rows L2 TL
variable {K : PySem.W.Frag}
section
variable {X : Cx} {W : WXd}
def opNeS : D → D → Option D := onS (fun _ _ => True) fun i j => .bl (!decide (i = j))
theorem ok_neS : OpOk X (compareOp .NotEq) opNeS := ⟨_, op_ne, fun rho H x y a b d st Q si ra rb e q => by
  obtain ⟨i, j, rfl, rfl, z, rfl⟩ := onS_some e
  cases ra
  cases rb
  refine ⟨rfl, ?_⟩
  have : decide (V.str i = V.str j) = decide (i = j) := by by_cases h : i = j <;> simp [h]
  rw [this]
  exact q _ H (fun _ _ h => h) (.bl _)⟩
theorem opNeS_same (x : Str) : opNeS (.str x) (.str x) = some (.bl false) := by simp [opNeS, onS]
end
/-- small data: of depth dp at most, of weight wt at most -/
def Sm (dp wt : Nat) (d : D) : Prop := ∃ p, toPy d = some p ∧ p.canLay0 = true ∧ p.depth ≤ dp ∧ p.weight ≤ wt ∧ p.intsShort 13 = true ∧ p.showable = true
def SmL (dp wt : Nat) (ds : List D) : Prop := ∃ ps, toPyL ds = some ps ∧ PyData.canLayAll0 ps = true ∧ PyData.depthAll ps ≤ dp ∧ PyData.weightAll ps ≤ wt ∧ PyData.intsShortAll 13 ps = true ∧ PyData.showableAll ps = true
theorem Sm.mono {dp wt dp' wt' : Nat} {d : D} (h : Sm dp wt d) (a : dp ≤ dp') (b : wt ≤ wt') : Sm dp' wt' d := let ⟨p, h1, h2, h3, h4, h5⟩ := h; ⟨p, h1, h2, Nat.le_trans h3 a, Nat.le_trans h4 b, h5⟩
theorem SmL.mono {dp wt dp' wt' : Nat} {d : List D} (h : SmL dp wt d) (a : dp ≤ dp') (b : wt ≤ wt') : SmL dp' wt' d := let ⟨p, h1, h2, h3, h4, h5⟩ := h; ⟨p, h1, h2, Nat.le_trans h3 a, Nat.le_trans h4 b, h5⟩
theorem SmL.nil : SmL 0 0 [] := ⟨[], rfl, rfl, Nat.le_refl _, Nat.le_refl _, rfl, rfl⟩
theorem SmL.cons {dp wt wt' : Nat} {d : D} {ds : List D} (h : Sm dp wt d) (t : SmL dp wt' ds) : SmL dp (wt + 1 + wt') (d :: ds) := by
  obtain ⟨p, h1, h2, h3, h4, h5, h6⟩ := h
  obtain ⟨ps, t1, t2, t3, t4, t5, t6⟩ := t
  refine ⟨p :: ps, by simp [toPyL, h1, t1], by simp [PyData.canLayAll0, h2, t2], ?_, ?_, by simp [PyData.intsShortAll, h5, t5], by simp [PyData.showableAll, h6, t6]⟩
  · rw [PyData.depthAll]
    exact Nat.max_le.mpr ⟨h3, t3⟩
  · rw [PyData.weightAll]
    omega
theorem SmL.all {dp wt : Nat} : ∀ {ds : List D}, (∀ d ∈ ds, Sm dp wt d) → SmL dp (ds.length * (wt + 1)) ds
  | [], _ => SmL.nil.mono (Nat.zero_le _) (Nat.zero_le _)
  | d :: ds, h => (SmL.cons (h d List.mem_cons_self) (SmL.all fun x hx => h x (List.mem_cons_of_mem _ hx))).mono (Nat.le_refl _) (by rw [List.length_cons, Nat.succ_mul]; omega)
theorem Sm.tup {dp wt : Nat} {ds : List D} (h : SmL dp wt ds) : Sm (dp + 1) wt (.tup ds) := by
  obtain ⟨ps, t1, t2, t3, t4, t5, t6⟩ := h
  exact ⟨.tuple ps, by simp [toPy, t1], by simpa [PyData.canLay0] using t2, by simpa [PyData.depth] using t3, by simpa [PyData.weight] using t4, by simpa [PyData.intsShort] using t5, by simpa [PyData.showable] using t6⟩
theorem Sm.lst {dp wt : Nat} {ds : List D} (h : SmL dp wt ds) : Sm (dp + 1) wt (.lst ds) := by
  obtain ⟨ps, t1, t2, t3, t4, t5, t6⟩ := h
  exact ⟨.list ps, by simp [toPy, t1], by simpa [PyData.canLay0] using t2, by simpa [PyData.depth] using t3, by simpa [PyData.weight] using t4, by simpa [PyData.intsShort] using t5, by simpa [PyData.showable] using t6⟩
theorem Sm.non : Sm 0 0 .non := ⟨.none, rfl, rfl, Nat.le_refl _, Nat.le_refl _, rfl, rfl⟩
theorem Sm.bl (b : Bool) : Sm 0 0 (.bl b) := ⟨.bool b, rfl, rfl, Nat.le_refl _, Nat.le_refl _, rfl, rfl⟩
theorem Sm.int {i : Int} (h : -1000000000000 < i ∧ i < 1000000000000) : Sm 0 40 (.int i) := by
  have hn : i.natAbs < 10 ^ 12 := by omega
  have hl : i.natAbs.log2 < 40 := by
    by_cases z : i.natAbs = 0
    · rw [z]; decide
    · exact (Nat.log2_lt z).mpr (by omega)
  refine ⟨.int i, rfl, rfl, Nat.le_refl _, ?_, ?_, ?_⟩
  · rw [PyData.weight]
    split
    · exact Nat.zero_le _
    · omega
  · rw [PyData.intsShort, PyData.shown]
    have h0 := int_text_length_le10 (a := i) (k := 12) (by decide) hn
    refine decide_eq_true ?_
    rw [PySem.ofString_length]
    exact h0
  · rw [PyData.showable]
    exact decide_eq_true (by omega)
theorem Sm.str {n : Nat} {x : Str} (h : GS n x) : Sm 0 n (.str x) := by
  refine ⟨.str x, rfl, ?_, Nat.le_refl _, ?_, rfl, rfl⟩
  · have := h.ok
    unfold SeqAt.shaped at this
    exact (Bool.and_eq_true_iff.mp this).1
  · rw [PyData.weight]
    exact h.1
theorem Sm.shaped {dp wt : Nat} {d : D} (h : Sm dp wt d) (l : dp ≤ 64) : ∃ p, toPy d = some p ∧ SeqAt.shaped p = true := by
  obtain ⟨p, h1, h2, h3, h4, h5, h6⟩ := h
  refine ⟨p, h1, ?_⟩
  unfold SeqAt.shaped
  rw [h2, decide_eq_true (Nat.le_trans h3 l)]
  rfl
theorem Sm.shown {dp wt : Nat} {d : D} (h : Sm dp wt d) (l : dp ≤ 64) (m : wt ≤ 1048576) : ∃ x, (toPy d).bind shownD = some (.str x) := by
  obtain ⟨p, h1, h2, h3, h4, h5, h6⟩ := h
  have hl : PyData.layable0 p = true := by
    unfold PyData.layable0
    rw [h2, decide_eq_true (Nat.le_trans h3 l), decide_eq_true (show p.weight ≤ 2 ^ 20 from Nat.le_trans h4 m)]
    rfl
  have hs : p.shown.length ≤ sizeLine := Nat.le_trans (shown_le13 hl h5) (by rw [sizeLine_eq]; decide)
  have hd := PyData.hasDict_of_layable hl
  exact ⟨p.shown, by rw [h1, Option.bind_some]; unfold shownD; rw [if_pos ⟨hd, h6, Nat.le_trans h3 l, hs⟩]⟩
end DL
/-! == of anything and a text; a tuple and (). -/
namespace DL
open PySem PySem.Spec PyProof.Rows L2 TL
end DL
/-! repr of anything. -/
namespace DL
open PySem PySem.Spec PyProof.Rows L2 TL
variable {K : PySem.W.Frag}
mutual
def toPyR : D → Option PyData
  | .non => some .none
  | .bl b => some (.bool b)
  | .int i => some (.int i)
  | .str x => some (.str x)
  | .tup ds => (toPyRL ds).map .tuple
  | .lst ds => (toPyRL ds).map .list
  | .dct [] => some (.dict [])
  | .dct (_ :: _) => none
  | .scr _ => none
  | .ref _ => none
def toPyRL : List D → Option (List PyData)
  | [] => some []
  | d :: ds => (toPyR d).bind fun p => (toPyRL ds).map fun q => p :: q
end
section
variable {X : Cx} {W : WXd} {pins : List (Addr × Obj)} {σ : L2.St} {H : Hp} {s : Shared} {rho : Rf}
theorem dict_nil (I : Inv X pins σ H s) {a : Addr} {xs : List (Key × V)} (h : Rd H a (.dK xs)) (e : xs = []) : ∃ o es ep, s.heap.get? a = some o ∧ o.cls = .type "dict" ∧ o.data = .dict es ep ∧ es.toList = [] ∧ (a == sysModules) = false := by
  subst e
  obtain ⟨_, ns, vs, kv, ⟨o, es, ep, ho, ⟨hc, _, _⟩, hd, _, hp, _⟩⟩ := (show ObjOk X.prog X.w H s.heap a (.dK []) from h.ok I.hok)
  unfold KV at kv
  cases kv
  refine ⟨o, es, ep, ho, hc, hd, ?_, ns⟩
  generalize es.toList = l at *
  cases hp
  rfl
/-- what can be read back, with what shows it -/
def Shows (X : Cx) (s : Shared) (u : Value) (p : PyData) : Prop := (∃ as, Reads s.heap u p as) ∧ ∃ bs, ReadAtMost s.heap p.depth bs ∧ ReprK X.prog X.w bs s.heap p.depth u p.shown
def ShowsL (X : Cx) (s : Shared) (us : List Value) (ps : List PyData) : Prop := (∃ as, ReadsAll s.heap us ps as) ∧ ∃ bs, ReadAtMost s.heap (PyData.depthAll ps) bs ∧ ReprAllK X.prog X.w bs s.heap (PyData.depthAll ps) us (PyData.shownAll ps)
theorem shows_flat {u : Value} {p : PyData} (r : Reads s.heap u p []) (h : ReprIs X.prog X.w u p.shown) : Shows X s u p := ⟨⟨[], r⟩, [], (fun _ z => nomatch z), .of_is h _ _ _⟩
mutual
theorem shows_of (I : Inv X pins σ H s) : ∀ (d : D) {v : V} {u : Value} {p : PyData}, Rep X.K rho H v d → RelV v u → toPyR d = some p → p.showable = true → p.shown.length ≤ sizeLine → Shows X s u p
  | .non, _, _, _, r, rv, e, _, _ => by
    cases r
    cases rv
    cases e
    exact shows_flat .none .none
  | .bl b, _, _, _, r, rv, e, _, _ => by
    cases r
    cases rv
    cases e
    exact shows_flat (.bool b) (.bool b)
  | .int i, _, _, _, r, rv, e, sh, _ => by
    cases r
    obtain ⟨t, rfl⟩ := rv
    cases e
    exact shows_flat (.int i t) (.int t (of_decide_eq_true (show decide (i.natAbs.log2 < 1920) = true from sh)))
  | .str x, _, _, _, r, rv, e, _, z => by
    cases r
    obtain ⟨t, rfl⟩ := rv
    cases e
    exact shows_flat (.str x t) (.str x t z)
  | .scr _, _, _, _, _, _, e, _, _ => by cases e
  | .ref _, _, _, _, _, _, e, _, _ => by cases e
  | .dct (_ :: _), _, _, _, _, _, e, _, _ => by cases e
  | .dct [], _, _, _, r, rv, e, _, _ => by
    cases e
    cases r with
    | dct g1 g2 g3 =>
      cases g3
      cases rv
      obtain ⟨o, es, ep, ho, hc, hd, hn, hs⟩ := dict_nil I (.inr ⟨_, g1⟩) rfl
      have rd : Reads s.heap (.ref _) (.dict []) _ := .dict (as := []) (bs := []) ho hc hd (by rw [hn]; exact .nil) (by rw [hn]; exact .nil)
      exact ⟨⟨_, rd⟩, [_], fun b hb => by
        rw [List.mem_singleton.mp hb]
        exact ⟨_, _, rd, Nat.le_refl _⟩, ReprK.dict (d := 0) ho hc hd hs (by simp) (by rw [hn]; exact .nil)⟩
  | .tup ds, _, _, _, r, rv, e, sh, z => by
    obtain ⟨ps, e1, e2⟩ := Option.map_eq_some_iff.mp (show (toPyRL ds).map PyData.tuple = some _ from e)
    subst e2
    obtain ⟨a, us, rfl, sq, l⟩ := r.sqT
    cases rv
    obtain ⟨its, r1, ⟨o, ho, hc, n, hd⟩, _⟩ := I.tuple sq
    obtain ⟨⟨as, ra⟩, bs, hb, hk⟩ := showsL_of I ds l r1 e1 sh fun t ht => Nat.le_trans (tupleText_mem_le ht) z
    have rd : Reads s.heap (.ref a) (.tuple ps) as := .tuple ho hc hd ra
    have na : a ∉ bs := not_mem_of_deeper rd (Nat.lt_succ_self _) hb
    exact ⟨⟨as, rd⟩, a :: bs, ReadAtMost.cons rd (Nat.le_succ _) hb, ReprK.tuple ho hc hd na hk⟩
  | .lst ds, _, _, _, r, rv, e, sh, z => by
    obtain ⟨ps, e1, e2⟩ := Option.map_eq_some_iff.mp (show (toPyRL ds).map PyData.list = some _ from e)
    subst e2
    cases r with
    | lst g1 g2 g3 =>
      rename_i a us
      cases rv
      obtain ⟨its, r1, ⟨⟨o, n, ho, hc, hx, hd⟩, hz⟩⟩ := I.list (.of g1)
      obtain ⟨⟨as, ra⟩, bs, hb, hk⟩ := showsL_of I ds g3 r1 e1 sh fun t ht => Nat.le_trans (listText_mem_le ht) z
      have rd : Reads s.heap (.ref a) (.list ps) (a :: as) := .list ho hc hd ra
      have na : a ∉ bs := not_mem_of_deeper rd (Nat.lt_succ_self _) hb
      refine ⟨⟨_, rd⟩, a :: bs, ReadAtMost.cons rd (Nat.le_succ _) hb, ?_⟩
      cases its with
      | nil =>
        cases ra
        exact ReprK.listEmpty ho hc hd
      | cons w ws => exact ReprK.list ho hc hd na (by simpa using hk.length_eq) fun i y q => hk.item i y (by simpa using q)
theorem showsL_of (I : Inv X pins σ H s) : ∀ (ds : List D) {vs : List V} {us : List Value} {ps : List PyData}, RepL X.K rho H vs ds → Vals vs us → toPyRL ds = some ps → PyData.showableAll ps = true → (∀ t ∈ PyData.shownAll ps, t.length ≤ sizeLine) → ShowsL X s us ps
  | [], _, _, _, .nil, .nil, e, _, _ => by
    cases e
    exact ⟨⟨[], .nil⟩, [], (fun _ z => nomatch z), .nil⟩
  | d :: ds, _, _, ps, .cons r l, .cons rv rt, e, sh, z => by
    obtain ⟨p, e1, e2⟩ := Option.bind_eq_some_iff.mp (show ((toPyR d).bind fun p => (toPyRL ds).map fun q => p :: q) = some ps from e)
    obtain ⟨qs, e3, e4⟩ := Option.map_eq_some_iff.mp e2
    subst e4
    have sh2 : p.showable = true ∧ PyData.showableAll qs = true := Bool.and_eq_true_iff.mp (show (p.showable && PyData.showableAll qs) = true from sh)
    obtain ⟨⟨as, ra⟩, b1, hb1, k1⟩ := shows_of I d r rv e1 sh2.1 (z _ (List.mem_cons_self (a := p.shown) (l := PyData.shownAll qs)))
    obtain ⟨⟨as2, ra2⟩, b2, hb2, k2⟩ := showsL_of I ds l rt e3 sh2.2 fun t ht => z t (List.mem_cons_of_mem _ ht)
    refine ⟨⟨as ++ as2, .cons ra ra2⟩, b1 ++ b2, ReadAtMost.append (hb1.mono (Nat.le_max_left _ _)) (hb2.mono (Nat.le_max_right _ _)), ?_⟩
    exact .cons ((k1.more fun b h => List.mem_append_left _ h).level_le (Nat.le_max_left _ _)) (k2.more_le (fun b h => List.mem_append_right _ h) (Nat.le_max_right _ _))
end
end
section
variable {X : Cx} {W : WXd}
def rRepr (K : PySem.W.Frag) : List V → Hp → VK → Prop := fun xs H Q => ∃ rho v d p, xs = [v] ∧ Rep K rho H v d ∧ toPyR d = some p ∧ p.showable = true ∧ p.depth ≤ 64 ∧ p.shown.length ≤ sizeLine ∧ Q (.str p.shown) H
theorem call_reprA {k : Nat} (g : GX X k) : CallR X (.builtin "repr") (rRepr X.K) := by
  intro pins s σ H xs us Q I r h
  obtain ⟨rho, v, d, p, rfl, rp, e, sh, dp, z, q⟩ := h
  obtain ⟨u, rfl, rv⟩ := vals1 r
  have hu := g.room.un
  have fin : ∀ h' (w : Tok) (tk : Nat), (∀ b o, s.heap.get? b = some o → h'.get? b = some o) → EP X pins σ Q (.str p.shown w) { s with heap := h', toks := tk } := fun h' w tk hk => ⟨.str p.shown, H, I.kept hk, ⟨_, rfl⟩, q⟩
  cases d with
  | non =>
    cases rp
    cases rv
    cases e
    exact PySem.P.repr_of_none ⟨.str _, H, I.tok _, ⟨_, rfl⟩, q⟩
  | bl b =>
    cases rp
    cases rv
    cases e
    exact PySem.P.repr_of_bool ⟨.str _, H, I.tok _, ⟨_, rfl⟩, q⟩
  | int i =>
    cases rp
    obtain ⟨t, rfl⟩ := rv
    cases e
    exact PySem.P.repr_of_int (of_decide_eq_true (show decide (i.natAbs.log2 < 1920) = true from sh)) ⟨.str _, H, I.tok _, ⟨_, rfl⟩, q⟩
  | str x =>
    cases rp
    obtain ⟨t, rfl⟩ := rv
    cases e
    exact PySem.P.repr_of_str ⟨.str _, H, I.tok _, ⟨_, rfl⟩, q⟩ z
  | scr ns => cases e
  | ref n => cases e
  | dct kvs =>
    cases kvs with
    | cons _ _ => cases e
    | nil =>
      cases e
      cases rp with
      | dct g1 g2 g3 =>
        cases g3
        cases rv
        obtain ⟨o, es, ep, ho, hc, hd, hn, hs⟩ := dict_nil I (.inr ⟨_, g1⟩) rfl
        exact call_repr_slot (by omega) ⟨o, ho, hc⟩ PySem.F.slot_dict_repr (call_dict_reprK (as := []) (d := 0) (ps := []) ho hc hd hs (by simp) (by rw [hn]; exact .nil) g.gd (fun b _ => Clear.nil b) (by show X.A.units + 1 + 1 < cLine; omega) (fun _ _ e => e) (fun h' u tk hk => ⟨_, _, rfl, fin h' u tk hk⟩) z)
  | tup ds =>
    obtain ⟨ps, e1, e2⟩ := Option.map_eq_some_iff.mp (show (toPyRL ds).map PyData.tuple = some _ from e)
    subst e2
    obtain ⟨a, us, rfl, sq, l⟩ := rp.sqT
    cases rv
    obtain ⟨its, r1, ⟨o, ho, hc, n, hd⟩, _⟩ := I.tuple sq
    obtain ⟨⟨as, ra⟩, bs, hb, hk⟩ := showsL_of I ds l r1 e1 sh fun t ht => Nat.le_trans (tupleText_mem_le ht) z
    have rd : Reads s.heap (.ref a) (.tuple ps) as := .tuple ho hc hd ra
    have na : a ∉ bs := not_mem_of_deeper rd (Nat.lt_succ_self _) hb
    have dd : PyData.depthAll ps + 1 ≤ 64 := dp
    exact call_repr_slot (by omega) ⟨o, ho, hc⟩ PySem.F.slot_tuple_repr (call_tuple_reprK ho hc hd na hk g.gd (fun b _ => Clear.nil b) (by show X.A.units + 1 + (PyData.depthAll ps + 1) < cLine; omega) (fun _ _ e => e) (fun h' u tk hk => ⟨_, _, rfl, fin h' u tk hk⟩) z)
  | lst ds =>
    obtain ⟨ps, e1, e2⟩ := Option.map_eq_some_iff.mp (show (toPyRL ds).map PyData.list = some _ from e)
    subst e2
    cases rp with
    | lst g1 g2 g3 =>
      rename_i a us
      cases rv
      obtain ⟨its, r1, ⟨⟨o, n, ho, hc, hx, hd⟩, hz⟩⟩ := I.list (.of g1)
      obtain ⟨⟨as, ra⟩, bs, hb, hk⟩ := showsL_of I ds g3 r1 e1 sh fun t ht => Nat.le_trans (listText_mem_le ht) z
      have rd : Reads s.heap (.ref a) (.list ps) (a :: as) := .list ho hc hd ra
      have na : a ∉ bs := not_mem_of_deeper rd (Nat.lt_succ_self _) hb
      have dd : PyData.depthAll ps + 1 ≤ 64 := dp
      refine call_repr_slot (by omega) ⟨o, ho, hc⟩ PySem.F.slot_list_repr.toG ?_
      cases its with
      | nil =>
        cases ra
        exact call_list_repr_empty ⟨o, ho, hc⟩ ho hd ⟨_, _, rfl, fin s.heap _ _ fun _ _ e => e⟩
      | cons w ws => exact call_list_reprK ho hc hd na (by simpa using hk.length_eq) (fun i y q => hk.item i y (by simpa using q)) g.gd (fun b _ => Clear.nil b) (by show X.A.units + 1 + (PyData.depthAll ps + 1) < cLine; omega) (fun _ _ e => e) (fun h' u tk hk => ⟨_, _, rfl, fin h' u tk hk⟩) z
/-- repr(d), of anything -/
def bReprA : List D → Store → Option D := fun ds _ => match ds with
  | [d] => (toPyR d).bind fun p => if p.showable = true ∧ p.depth ≤ 64 ∧ p.shown.length ≤ sizeLine then some (.str p.shown) else none
  | _ => none
theorem ok_reprA {k : Nat} (g : GX X k) : CallOk X (.builtin "repr") bReprA := ⟨_, call_reprA g, fun rho H xs ds d st Q rl si e q => by
  unfold bReprA at e
  split at e
  · rename_i y
    obtain ⟨v, rfl, p⟩ := lst1 rl
    obtain ⟨z, h1, h2⟩ := Option.bind_eq_some_iff.mp e
    by_cases c : z.showable = true ∧ z.depth ≤ 64 ∧ z.shown.length ≤ sizeLine
    · rw [if_pos c] at h2
      cases h2
      exact ⟨rho, v, y, z, rfl, p, h1, c.1, c.2.1, c.2.2, q _ H (fun _ _ h => h) (.str _)⟩
    · rw [if_neg c] at h2
      cases h2
  · cases e⟩
end
/-! ### measures -/
mutual
/-- what may be shown: no great ints, texts of ASCII -/
def okD : D → Bool
  | .non => true
  | .bl _ => true
  | .int i => decide (i.natAbs < 10 ^ 62)
  | .str x => (tl x).all fun c => decide (c < 128)
  | .tup ds => okL ds
  | .lst ds => okL ds
  | .dct [] => true
  | .dct (_ :: _) => false
  | .scr _ => false
  | .ref _ => false
def okL : List D → Bool
  | [] => true
  | d :: ds => okD d && okL ds
end
mutual
def wD : D → Nat
  | .int _ => 210
  | .str x => x.length
  | .tup ds => wL ds
  | .lst ds => wL ds
  | _ => 0
def wL : List D → Nat
  | [] => 0
  | d :: ds => wD d + 1 + wL ds
end
mutual
def hD : D → Nat
  | .tup ds => hL ds + 1
  | .lst ds => hL ds + 1
  | .dct _ => 1
  | _ => 0
def hL : List D → Nat
  | [] => 0
  | d :: ds => max (hD d) (hL ds)
end
mutual
theorem ok_pyR : ∀ (d : D), okD d = true → ∃ p, toPyR d = some p ∧ p.showable = true ∧ p.leavesShort 70 = true ∧ p.depth ≤ hD d ∧ p.weight ≤ wD d
  | .non, _ => ⟨_, rfl, rfl, rfl, Nat.le_refl _, Nat.le_refl _⟩
  | .bl b, _ => ⟨_, rfl, rfl, rfl, Nat.le_refl _, Nat.le_refl _⟩
  | .int i, h => by
    have hn : i.natAbs < 10 ^ 62 := of_decide_eq_true h
    have hl : i.natAbs.log2 < 207 := by
      by_cases z : i.natAbs = 0
      · rw [z]; decide
      · exact (Nat.log2_lt z).mpr (Nat.lt_trans hn (by decide))
    refine ⟨.int i, rfl, ?_, ?_, Nat.le_refl _, ?_⟩
    · rw [PyData.showable]
      exact decide_eq_true (by omega)
    · rw [PyData.leavesShort, PyData.shown]
      have h0 := int_text_length_le10 (a := i) (k := 62) (by decide) hn
      refine decide_eq_true ?_
      rw [PySem.ofString_length]
      omega
    · rw [PyData.weight, wD]
      split
      · exact Nat.zero_le _
      · omega
  | .str x, h => by
    refine ⟨.str x, rfl, rfl, ?_, Nat.le_refl _, ?_⟩
    · rw [PyData.leavesShort]
      exact List.all_eq_true.mpr fun c hc => decide_eq_true (Nat.lt_trans (of_decide_eq_true (List.all_eq_true.mp h c hc)) (by decide))
    · rw [PyData.weight, wD]
      exact Nat.le_refl _
  | .dct [], _ => ⟨.dict [], rfl, rfl, rfl, Nat.le_refl _, Nat.le_refl _⟩
  | .dct (_ :: _), h => by cases h
  | .scr _, h => by cases h
  | .ref _, h => by cases h
  | .tup ds, h => by
    obtain ⟨ps, h1, h2, h3, h4, h5⟩ := ok_pyRL ds h
    exact ⟨.tuple ps, by show (toPyRL ds).map _ = _; rw [h1]; rfl, h2, h3, Nat.succ_le_succ h4, h5⟩
  | .lst ds, h => by
    obtain ⟨ps, h1, h2, h3, h4, h5⟩ := ok_pyRL ds h
    exact ⟨.list ps, by show (toPyRL ds).map _ = _; rw [h1]; rfl, h2, h3, Nat.succ_le_succ h4, h5⟩
theorem ok_pyRL : ∀ (ds : List D), okL ds = true → ∃ ps, toPyRL ds = some ps ∧ PyData.showableAll ps = true ∧ PyData.leavesShortAll 70 ps = true ∧ PyData.depthAll ps ≤ hL ds ∧ PyData.weightAll ps ≤ wL ds
  | [], _ => ⟨[], rfl, rfl, rfl, Nat.le_refl _, Nat.le_refl _⟩
  | d :: ds, h => by
    obtain ⟨a, b⟩ := Bool.and_eq_true_iff.mp (show (okD d && okL ds) = true from h)
    obtain ⟨p, h1, h2, h3, h4, h5⟩ := ok_pyR d a
    obtain ⟨ps, g1, g2, g3, g4, g5⟩ := ok_pyRL ds b
    refine ⟨p :: ps, by show (toPyR d).bind _ = _; rw [h1, g1]; rfl, by rw [PyData.showableAll, h2, g2]; rfl, by rw [PyData.leavesShortAll, h3, g3]; rfl, ?_, ?_⟩
    · rw [PyData.depthAll, hL]
      exact Nat.max_le.mpr ⟨Nat.le_trans h4 (Nat.le_max_left _ _), Nat.le_trans g4 (Nat.le_max_right _ _)⟩
    · rw [PyData.weightAll, wL]
      omega
end
theorem repr_any {d : D} (h : okD d = true) (l : hD d ≤ 64) (m : wD d ≤ 200000) : ∃ x, ∀ st, bReprA [d] st = some (.str x) := by
  obtain ⟨p, h1, h2, h3, h4, h5⟩ := ok_pyR d h
  have hs : p.shown.length ≤ sizeLine := by
    have := PyData.shown_le 70 (by decide) p h3
    have h6 : (70 + 2) * p.weight ≤ 72 * 200000 := Nat.mul_le_mul_left 72 (Nat.le_trans h5 m)
    rw [sizeLine_eq]
    omega
  exact ⟨p.shown, fun st => by show (toPyR d).bind _ = _; rw [h1, Option.bind_some, if_pos ⟨h2, Nat.le_trans h4 l, hs⟩]⟩
theorem okL_mem {ds : List D} : okL ds = true ↔ ∀ d ∈ ds, okD d = true := by
  induction ds with
  | nil => exact ⟨fun _ _ h => (by cases h), fun _ => rfl⟩
  | cons d ds ih =>
    show (okD d && okL ds) = true ↔ _
    rw [Bool.and_eq_true, ih]
    simp
theorem wL_mem {ds : List D} {d : D} (h : d ∈ ds) : wD d + 1 ≤ wL ds := by
  induction ds with
  | nil => cases h
  | cons e es ih =>
    rw [wL]
    rcases List.mem_cons.mp h with rfl | h
    · omega
    · have := ih h
      omega
end DL
/-! A list of the store: an item replaced; walked for good; tuples times an int. -/
namespace DL
open PySem PySem.Spec PyProof.Rows L2 TL
variable {K : PySem.W.Frag}
section
variable {X : Cx} {W : WXd} {tg iter : Expr}
def Rf.drop (r : Rf) (a : Addr) : Rf := ⟨r.adr, fun p => r.av p ∧ p ≠ a, r.lk⟩
theorem drop_ext {r : Rf} {H : Hp} {a : Addr} (h : a ∈ r.adr) : Ext r H (r.drop a) H :=
  ⟨⟨⟨[], by simp [Rf.drop]⟩, fun _ _ z _ => z, fun _ z n => absurd z.1 n⟩, fun p v n => ⟨rfl, ⟨v, fun e => n (e ▸ h)⟩, n⟩, fun _ => Iff.rfl, fun _ _ => rfl⟩
theorem drop_sim {r : Rf} {H : Hp} {st : Store} (s : Sim K r H st) {n : Nat} {a : Addr} (h : r.adr[n]? = some a) : Sim K (r.drop a) H (st.set n .dead) := by
  refine ⟨by rw [List.length_set]; exact s.len, s.nd, fun m b o h1 h2 => ?_, fun p v => s.there p v.1, s.old, s.lkd⟩
  by_cases z : n = m
  · subst z
    by_cases hl : n < st.length
    · rw [List.getElem?_set_self hl] at h2
      cases h2
      trivial
    · rw [List.getElem?_eq_none (by rw [List.length_set]; omega)] at h2
      cases h2
  · rw [List.getElem?_set_ne z] at h2
    have nb : b ≠ a := fun y => z (by
      subst y
      obtain ⟨l1, e1⟩ := List.getElem?_eq_some_iff.mp h
      obtain ⟨l2, e2⟩ := List.getElem?_eq_some_iff.mp h1
      exact (List.getElem_inj s.nd).mp (e1.trans e2.symm))
    exact (s.ob m b o h1 h2).ex (drop_ext (List.mem_of_getElem? h)).toEx fun v => ⟨rfl, v, nb⟩
theorem RepL.set {r : Rf} {H : Hp} {v : V} {d : D} (q : Rep K r H v d) : ∀ {vs : List V} {ds : List D} (j : Nat), RepL K r H vs ds → RepL K r H (vs.set j v) (ds.set j d)
  | _, _, _, .nil => .nil
  | _, _, 0, .cons a b => .cons q b
  | _, _, j + 1, .cons a b => .cons a (RepL.set q j b)
/-- o[i] = v, o a list of the store -/
def sPutL (fo fk fv : F) : FS := fun env st => (fv env st).bind fun p => (fo env p.2).bind fun q => (fk env q.2).bind fun w => match q.1, w.1 with
  | .ref n, .int i => (match w.2[n]? with
    | some (.lst ds) => (ixN ds.length i).bind fun j => some (.nx, env, w.2.set n (.lst (ds.set j p.1)))
    | _ => none)
  | _, _ => none
theorem ds_putL {o i value : Expr} {fo fk fv : F} {pos pos' : Pos} (ho : DE X o fo) (hi : DE X i fk) (hv : DE X value fv) (hs : swapsWithSole [.Subscript o i pos'] value pos.line X.env = pure false := by rfl) (hw : swappedStores [.Subscript o i pos'] value X.env = pure none := by rfl)
    (h1 : (assignEach [.Subscript o i pos'] X.env).map (·.2) = [assign (.Subscript o i pos') X.env] := by rfl)
    (ha : ∀ v, assign (.Subscript o i pos') X.env v = (do let ov ← holding [v] (eval o X.env); let iv ← holding [v, ov] (eval i X.env); standAt pos'; holding [v, ov, iv] (setItem ov iv v); release [v, ov, iv] []) := by intro _; rfl) :
    DS X W (.Assign [.Subscript o i pos'] value pos) (sPutL fo fk fv) := weakS (ps_asg hv (pg_sub ho hi set_list ha) hs hw h1) fun D' σ H hh => by
  obtain ⟨r, env, st, out, env', st', he, hs, hf, q⟩ := hh
  obtain ⟨⟨x, s1⟩, h1, hf1⟩ := Option.bind_eq_some_iff.mp hf
  obtain ⟨⟨y, s2⟩, h2, hf2⟩ := Option.bind_eq_some_iff.mp hf1
  obtain ⟨⟨z, s3⟩, h3, hf3⟩ := Option.bind_eq_some_iff.mp hf2
  cases y with
  | ref n =>
    cases z with
    | int k =>
      simp only at hf3
      split at hf3
      · rename_i ds hst
        obtain ⟨j, hj, hf4⟩ := Option.bind_eq_some_iff.mp hf3
        cases hf4
        refine ⟨r, env, st, x, s1, he, hs, h1, fun xv r1 H1 e1 q1 p1 => ⟨r1, env, s1, _, s2, he.ext e1, q1, h2, fun yv r2 H2 e2 q2 p2 => ⟨r2, env, s2, _, s3, (he.ext e1).ext e2, q2, h3, fun zv r3 H3 e3 q3 p3 => ?_⟩⟩⟩
        cases p3
        obtain ⟨p, rfl, hp⟩ := (p2.ext e3).refI
        obtain ⟨av, xs, hx, l⟩ := q3.ob _ p _ hp hst
        have px : Rep X.K r3 H3 xv x := (p1.ext e2).ext e3
        refine ⟨p, xs, k, j, rfl, rfl, hx, by rw [l.len]; exact hj, ?_⟩
        have ee : Ex r3 H3 r3 (upd H3 p (.lst (xs.set j xv))) := ⟨⟨[], by simp⟩, fun a o w m => by rw [upd_ne (fun y => m (by rw [y]; exact av))]; exact w, fun a w m => absurd w m⟩
        obtain ⟨w1, w2⟩ := q3.set (o := .lst (xs.set j xv)) (ob := .lst (ds.set j x)) hp av ⟨av, _, upd_same, (RepL.set px j l).ex ee⟩ (fun _ _ z => by rw [hx] at z; cases z)
        exact q σ r3 _ (((e1.trans e2).trans e3).trans w1) ((((he.ext e1).ext e2).ext e3).ext w1) w2
      · cases hf3
    | _ => cases hf3
  | _ => cases hf3
end
end DL
/-! Instances of own classes: objects of the store. -/
namespace DL
open PySem PySem.Spec PyProof.Rows L2 TL
variable {K : PySem.W.Frag}
/-- the class c, at C -/
structure ClsAt (K : PySem.W.Frag) (c : Str) (C : Addr) : Prop where
  at_ : PySem.W.nsIn K mainGlobals c = some (some (.ref C))
  cls : Cls K C
/-- the instance at n, of class c -/
def insAt (c : Str) (n : Nat) (st : Store) : Option (List (Str × D)) := match st[n]? with
  | some (.ins c' fs) => if c' = c then some fs else none
  | _ => none
theorem insAt_some {c : Str} {n : Nat} {st : Store} {fs : List (Str × D)} (h : insAt c n st = some fs) : st[n]? = some (.ins c fs) := by
  unfold insAt at h
  split at h
  · rename_i c' gs e
    by_cases z : c' = c
    · rw [if_pos z] at h
      cases h
      rw [← z]
      exact e
    · rw [if_neg z] at h
      cases h
  · cases h
theorem fields_get {r : Rf} {H : Hp} {f : Str} : ∀ {vs : List (Str × V)} {fs : List (Str × D)} {d : D}, vs.map (·.1) = fs.map (·.1) → RepL K r H (vs.map (·.2)) (fs.map (·.2)) → fs.lookup f = some d → ∃ v, vs.lookup f = some v ∧ Rep K r H v d
  | [], [], d, _, _, h => by cases h
  | (g, v) :: vs, (g', e) :: fs, d, n, l, h => by
    injection n with n1 n2
    have n1' : g = g' := n1
    subst n1'
    cases l with
    | cons a b =>
      rw [List.lookup_cons] at h ⊢
      cases z : f == g with
      | true =>
        rw [z] at h
        cases h
        exact ⟨v, rfl, a⟩
      | false =>
        rw [z] at h
        exact fields_get n2 b h
theorem fields_none {f : Str} : ∀ {vs : List (Str × V)} {fs : List (Str × D)}, vs.map (·.1) = fs.map (·.1) → fs.lookup f = none → vs.lookup f = none
  | [], [], _, _ => rfl
  | (g, v) :: vs, (g', e) :: fs, n, h => by
    injection n with n1 n2
    have n1' : g = g' := n1
    subst n1'
    rw [List.lookup_cons] at h ⊢
    cases z : f == g with
    | true =>
      rw [z] at h
      cases h
    | false =>
      rw [z] at h
      exact fields_none n2 h
/-- a field set -/
def putFD (f : Str) (d : D) : List (Str × D) → List (Str × D)
  | [] => [(f, d)]
  | (g, x) :: r => if g = f then (g, d) :: r else (g, x) :: putFD f d r
theorem fields_put {r : Rf} {H : Hp} {f : Str} {v : V} {d : D} (q : Rep K r H v d) : ∀ {vs : List (Str × V)} {fs : List (Str × D)}, vs.map (·.1) = fs.map (·.1) → RepL K r H (vs.map (·.2)) (fs.map (·.2)) →
    (putF f v vs).map (·.1) = (putFD f d fs).map (·.1) ∧ RepL K r H ((putF f v vs).map (·.2)) ((putFD f d fs).map (·.2))
  | [], [], _, _ => ⟨rfl, .cons q .nil⟩
  | (g, x) :: vs, (g', e) :: fs, n, l => by
    injection n with n1 n2
    have n1' : g = g' := n1
    subst n1'
    cases l with
    | cons a b =>
      unfold putF putFD
      by_cases z : g = f
      · rw [if_pos z, if_pos z]
        exact ⟨by rw [List.map_cons, List.map_cons, n2], .cons q b⟩
      · rw [if_neg z, if_neg z]
        obtain ⟨h1, h2⟩ := fields_put q n2 b
        exact ⟨by rw [List.map_cons, List.map_cons, h1], .cons a h2⟩
section
variable {X : Cx} {W : WXd}
/-- o.f -/
def fFld (c f : Str) (fo : F) : F := fun env st => (fo env st).bind fun p => match p.1 with
  | .ref n => (insAt c n p.2).bind fun fs => (fs.lookup f).map fun d => (d, p.2)
  | _ => none
theorem de_fld {c f : Str} {C : Addr} {e : Expr} {fo : F} {pos : Pos} (hc : ClsAt X.K c C) (na : NoAttr X.K C f) (he : DE X e fo) (hb : attributeBase e f X.env (eval e X.env) = eval e X.env := by rfl) : DE X (.Attribute e f pos) (fFld c f fo) :=
  weakE (pe_fld he hb) fun σ H Q hh => by
  obtain ⟨r, env, st, d, st', he, hs, hf, q⟩ := hh
  obtain ⟨⟨x, s1⟩, h1, h2⟩ := Option.bind_eq_some_iff.mp hf
  cases x with
  | ref n =>
    obtain ⟨fs, h3, h4⟩ := Option.bind_eq_some_iff.mp (show ((insAt c n s1).bind fun fs => (fs.lookup f).map fun d => (d, s1)) = some (d, st') from h2)
    obtain ⟨d', h5, h6⟩ := Option.map_eq_some_iff.mp h4
    cases h6
    refine ⟨r, env, st, _, _, he, hs, h1, fun v r1 H1 e1 q1 p1 => ?_⟩
    obtain ⟨a, rfl, ha⟩ := p1.refI
    obtain ⟨av, C', dx, vs, hn, hx, nm, l⟩ := q1.ob _ a _ ha (insAt_some h3)
    rw [hc.at_] at hn
    cases hn
    obtain ⟨w, hw, rw'⟩ := fields_get nm l h5
    exact ⟨a, C, dx, vs, w, rfl, hx, hc.cls, na, hw, q w r1 H1 e1 q1 rw'⟩
  | _ => cases h2
/-- o.f = e -/
def sFldD (c f : Str) (fo fv : F) : FS := fun env st => (fv env st).bind fun p => (fo env p.2).bind fun q => match q.1 with
  | .ref n => (insAt c n q.2).bind fun fs => if fs.length < 1000 then some (.nx, env, q.2.set n (.ins c (putFD f p.1 fs))) else none
  | _ => none
theorem ds_fld {c f : Str} {C : Addr} {o value : Expr} {fo fv : F} {pos pos' : Pos} (hc : ClsAt X.K c C) (na : NoAttr X.K C f) (ho : DE X o fo) (hv : DE X value fv) (hs : swapsWith value (some (.Attribute o f pos')) pos.line X.env = pure false := by rfl) :
    DS X W (.Assign [.Attribute o f pos'] value pos) (sFldD c f fo fv) := weakS (ps_fld ho hv hs) fun D' σ H hh => by
  obtain ⟨r, env, st, out, env', st', he, hs, hf, q⟩ := hh
  obtain ⟨⟨x, s1⟩, h1, hf1⟩ := Option.bind_eq_some_iff.mp hf
  obtain ⟨⟨y, s2⟩, h2, hf2⟩ := Option.bind_eq_some_iff.mp hf1
  cases y with
  | ref n =>
    obtain ⟨fs, h3, h4⟩ := Option.bind_eq_some_iff.mp (show ((insAt c n s2).bind fun fs => if fs.length < 1000 then some (Out.nx, env, s2.set n (.ins c (putFD f x fs))) else none) = some (out, env', st') from hf2)
    by_cases hl : fs.length < 1000
    case neg => rw [if_neg hl] at h4; cases h4
    rw [if_pos hl] at h4
    cases h4
    refine ⟨r, env, st, x, s1, he, hs, h1, fun xv r1 H1 e1 q1 p1 => ⟨r1, env, s1, _, s2, he.ext e1, q1, h2, fun yv r2 H2 e2 q2 p2 => ?_⟩⟩
    obtain ⟨a, rfl, ha⟩ := p2.refI
    obtain ⟨av, C', dx, vs, hn, hx, nm, l⟩ := q2.ob _ a _ ha (insAt_some h3)
    have hn0 := hn
    rw [hc.at_] at hn
    cases hn
    have px : Rep X.K r2 H2 xv x := p1.ext e2
    have lv : vs.length = fs.length := by
      have := congrArg List.length nm
      rwa [List.length_map, List.length_map] at this
    obtain ⟨g1, g2⟩ := fields_put (f := f) px nm l
    refine ⟨a, C, dx, vs, rfl, hx, hc.cls, na, by rw [lv]; exact hl, ?_⟩
    have ee : Ex r2 H2 r2 (upd H2 a (.ins C dx (putF f xv vs))) := ⟨⟨[], by simp⟩, fun b o w m => by rw [upd_ne (fun y => m (by rw [y]; exact av))]; exact w, fun b w m => absurd w m⟩
    obtain ⟨w1, w2⟩ := q2.set (o := .ins C dx (putF f xv vs)) (ob := .ins c (putFD f x fs)) ha av ⟨av, C, dx, _, hn0, upd_same, g1, g2.ex ee⟩ (fun _ _ z => by rw [hx] at z; cases z)
    exact q σ r2 _ ((e1.trans e2).trans w1) (((he.ext e1).ext e2).ext w1) w2
  | _ => cases hf2
/-- o.m(e, ..) -/
def noF (m : Str) (o : Option (List (Str × D))) : Bool := match o with | some fs => (fs.lookup m).isNone | none => false
def fMeth (c m : Str) (mm : FM) (fo : F) (fa : FA) : F := fun env st => (fo env st).bind fun p => match p.1 with
  | .ref n => if noF m (insAt c n p.2) = true then (fa env p.2).bind fun q => mm (.ref n :: q.1) q.2 else none
  | _ => none
variable {k : Nat} {f C : Addr} {fd : FuncData} {ps : List Str} {mm : FM} {c m : Str} {apos pos : Pos} {o e : Expr} {es : List Expr}
theorem de_meth {pl : Sem Bool} (hc : ClsAt X.K c C) (hm : Meth X.K C m f) (Fd : FnD X.prog X.w X.K X.mg X.base k f fd ps mm) (gx : GX X k) (hb : Binds X.K fd ps []) {fo : F} {fa : FA} (ho : DE X o fo) (ha : DA X (e :: es) fa) (hl : (e :: es).length + 1 = ps.length := by rfl)
    (hst : starEach (e :: es) X.env = (false, eval e X.env) :: starEach es X.env := by rfl) (hpl : (backTo pos (starEach es X.env)).any (·.1) = false := by rfl)
    (ht : eval (.Call (.Attribute o m apos) (e :: es) [] pos) X.env = (do let ov ← eval o X.env; standAt apos.atName; let (f, first) ← holding [ov] (getMethod ov m pl); callWith pos f first (backTo pos (starEach (e :: es) X.env)) (backToKw pos (keywordEach [] X.env))) := by rfl)
    (hn : ∀ env st ds st', fa env st = some (ds, st') → ds.length = (e :: es).length) :
    DE X (.Call (.Attribute o m apos) (e :: es) [] pos) (fMeth c m mm fo fa) := by
  refine ⟨fun pins s σ H Q I h => ?_⟩
  obtain ⟨r, env, st, d, st', he', hs, hf, q⟩ := h
  obtain ⟨⟨x, s1⟩, h1, h2⟩ := Option.bind_eq_some_iff.mp hf
  cases x with
  | ref n =>
    have h2' : (if noF m (insAt c n s1) = true then (fa env s1).bind fun q => mm (.ref n :: q.1) q.2 else none) = some (d, st') := h2
    by_cases hz : noF m (insAt c n s1) = true
    case neg => rw [if_neg hz] at h2'; cases h2'
    rw [if_pos hz] at h2'
    obtain ⟨⟨ds, s2⟩, h3, h4⟩ := Option.bind_eq_some_iff.mp h2'
    refine PySem.W.methodCall_KW (pl := pl) (thn (ho.run pins s σ H (fun v H1 => ∃ a r1 C' dx vs, v = .ref a ∧ r1.adr[n]? = some a ∧ H1 a = some (.ins C' dx vs) ∧ C' = C ∧ vs.lookup m = none ∧ Ext r H r1 H1 ∧ Sim X.K r1 H1 s1) I ⟨r, env, st, _, s1, he', hs, h1, fun v r1 H1 e1 q1 p1 => ?_⟩) fun u sa hq => ?_) ht
    · obtain ⟨a, rfl, hadr⟩ := p1.refI
      cases hi : insAt c n s1 with
      | none => rw [hi] at hz; cases hz
      | some fs =>
        rw [hi] at hz
        obtain ⟨av, C', dx, vs, hn', hx, nm, l⟩ := q1.ob _ a _ hadr (insAt_some hi)
        rw [hc.at_] at hn'
        cases hn'
        exact ⟨a, r1, C, dx, vs, rfl, hadr, hx, rfl, fields_none nm (Option.isNone_iff_eq_none.mp hz), e1, q1⟩
    · obtain ⟨x, H1, I1, rx, a, r1, C', dx, vs, rfl, hadr, hx, rfl, hno, e1, q1⟩ := hq
      cases rx
      refine getmeth_ok I1 hx hc.cls hm hno ?_
      refine PySem.W.callWith_K (first := [.ref a]) (h₀ := X.base) I.ok.mod.kin hm.kp (thn (ha.run pos pins sa σ H1 (fun vs H2 => ∃ r2, Ext r1 H1 r2 H2 ∧ Sim X.K r2 H2 s2 ∧ RepL X.K r2 H2 vs ds) I1 ⟨r1, env, s1, ds, s2, he'.ext e1, q1, h3, fun vs r2 H2 e2 q2 l2 => ⟨r2, e2, q2, l2⟩⟩) fun us sb hz => ?_) hst hpl
      obtain ⟨vs2, H2, I2, rv, r2, e2, q2, l2⟩ := hz
      exact ⟨I2.kIn, runD (us := .ref a :: us) (vs := .ref a :: vs2) Fd gx hb I2 (.cons rfl rv) (by rw [List.length_cons, l2.len, hn _ _ _ _ h3]; exact hl) (.cons (.ref (e2.get hadr)) l2) q2 h4 fun v r3 H3 e3 q3 p3 => q v r3 H3 ((e1.trans e2).trans e3) q3 p3⟩
  | _ => cases h2
/-- C(e, ..) -/
theorem make_guards {A : Around} {C : Addr} {us : List Value} {kw : List (Str × Value)} : (A.under (.builtin "type.__call__" ⟨.ref C :: us, kw⟩)).guards = A.guards := by
  first
    | rfl
    | simp [Around.under, Code.weight, Code.isCreation, Code.isGuard, Code.isCaller, Code.frames, Code.isFrame, guardIds]
/-- the new instance, on both levels -/
theorem made_sim {r : Rf} {H : Hp} {st : Store} {x dx : Addr} (hs : Sim X.K r H st) (hc : PySem.W.nsIn X.K mainGlobals c = some (some (.ref C))) (nx : H x = none) (nd : H dx = none) (ne : dx ≠ x) :
    ∃ r1, Ext r H r1 (upd (upd H dx (.own x)) x (.ins C dx [])) ∧ Sim X.K r1 (upd (upd H dx (.own x)) x (.ins C dx [])) (st ++ [.ins c []]) ∧ Rep X.K r1 (upd (upd H dx (.own x)) x (.ins C dx [])) (.ref x) (.ref st.length) := by
  have a1 : Same H (upd H dx (.own x)) := same_alloc nd
  have nx1 : upd H dx (.own x) x = none := by rw [upd_ne (Ne.symm ne)]; exact nx
  have q1 := hs.same a1
  obtain ⟨e0, hd0⟩ := hideNew (o := .ins C dx []) q1 nx1
  obtain ⟨w1, w2, w3⟩ := hd0.add (o := .ins C dx []) (ob := .ins c []) e0 q1 nx1 ⟨hd0.av, C, dx, [], hc, upd_same, rfl, .nil⟩
  rw [upd_upd] at w1 w2 w3
  exact ⟨_, (hs.ext a1).trans w1, w2, w3 _ rfl⟩
theorem runMake {pins : List (Addr × Obj)} {σ : L2.St} {H : Hp} {s : Shared} {Q : VK} {us : List Value} {vs : List V} {rho : Rf} {ds : List D} {st st' : Store} (M : Mk X.K C f) (hc : PySem.W.nsIn X.K mainGlobals c = some (some (.ref C)))
    (Fd : FnD X.prog X.w X.K X.mg X.base k f fd ps mm) (gx : GX X (k + 1)) (hb : Binds X.K fd ps []) (I : Inv X pins σ H s) (r : Vals vs us) (hl : vs.length + 1 = ps.length) (rd : RepL X.K rho H vs ds) (hs : Sim X.K rho H st)
    (hm : mm (.ref st.length :: ds) (st ++ [.ins c []]) = some (.non, st')) (hq : ∀ v rho' H', Ext rho H rho' H' → Sim X.K rho' H' st' → Rep X.K rho' H' v (.ref st.length) → Q v H') :
    wpAny (model X.prog X.w) X.A (call (.ref C) us) (EP X pins σ Q) X.xe s := by
  obtain ⟨r1, e1, s1, p1⟩ := made_sim (c := c) (C := C) hs hc (I.hok.fresh (Nat.le_succ s.heap.objs.size)) (I.hok.fresh (Nat.le_refl s.heap.objs.size)) (Nat.ne_of_lt (Nat.lt_succ_self s.heap.objs.size))
  have I2 := Inv.made (C := C) I
  have r2 : Vals (V.ref (s.heap.objs.size + 1) :: vs) (Value.ref (s.heap.objs.size + 1) :: us) := .cons rfl r
  have hu : (Value.ref (s.heap.objs.size + 1) :: us).length = ps.length := by rw [List.length_cons, ← r.length]; exact hl
  have hbt := hb { s with heap := (s.heap.push PySem.W.emptyDict).push (PySem.W.instObj C s.heap.objs.size) } (Value.ref (s.heap.objs.size + 1) :: us) I2.kIn (by rw [List.append_nil]; exact hu)
  rw [List.append_nil] at hbt
  refine wpAny_call (make_map (f := f) I.kIn M.makes M.init (beq_iff_eq.mp M.fn) (codeAny_mono (Fd.run _ X.stack _ _ ⟨Value.ref (s.heap.objs.size + 1) :: us, []⟩ (Value.ref (s.heap.objs.size + 1) :: us) _ (fun v H2 => v = .non ∧ Q (.ref (s.heap.objs.size + 1)) H2) r1 (.ref st.length :: ds) _ st' .non (make_guards.trans gx.gd) (gx.room.make C us [])
    (I2.env0.make C us []) hbt r2 (by rw [List.length_cons]; exact hl) (.cons p1 (rd.ext e1)) s1 hm fun v r3 H3 e3 q3 p3 => ?_) fun z s' hz => ?_))
  · cases p3
    exact ⟨rfl, hq _ r3 H3 (e1.trans e3) q3 (p1.ext e3)⟩
  · cases z with
    | error e => exact False.elim hz
    | ok fl =>
      cases fl with
      | ret u =>
        obtain ⟨v, H', I3, rv, ev, q3⟩ := I2.after hz
        subst ev
        exact ⟨rv, ⟨V.ref (s.heap.objs.size + 1), H', I3, rfl, q3⟩⟩
      | next => exact False.elim hz
      | brk => exact False.elim hz
      | cont => exact False.elim hz
def fMake (c : Str) (mi : FM) (fa : FA) : F := fun env st => (fa env st).bind fun q => (mi (.ref q.2.length :: q.1) (q.2 ++ [.ins c []])).bind fun z => match z.1 with | .non => some (.ref q.2.length, z.2) | _ => none
theorem de_make {x : Str} {p : Pos} (M : Mk X.K C f) (hc : PySem.W.nsIn X.K mainGlobals c = some (some (.ref C))) (Fd : FnD X.prog X.w X.K X.mg X.base k f fd ps mm) (gx : GX X (k + 1)) (hg : Gl X x) (hm : X.mg x = some (.ref C)) (hb : Binds X.K fd ps []) {fa : FA} (ha : DA X (e :: es) fa) (hl : (e :: es).length + 1 = ps.length := by rfl)
    (hdb : (x == ("__debug__" : Str)) = false := by decide) (he : starEach (e :: es) X.env = (false, eval e X.env) :: starEach es X.env := by rfl) (hpl : (backTo pos (starEach es X.env)).any (·.1) = false := by rfl)
    (hn : ∀ env st ds st', fa env st = some (ds, st') → ds.length = (e :: es).length) :
    DE X (.Call (.Name x p) (e :: es) [] pos) (fMake c mm fa) := by
  refine ⟨fun pins s σ H Q I h => wpAny_Call_Name_kw (ld_glob I hg hm ?_ hdb)⟩
  obtain ⟨r, env, st, d, st', he', hs, hf, q⟩ := h
  obtain ⟨⟨ds, s1⟩, h1, h2⟩ := Option.bind_eq_some_iff.mp hf
  obtain ⟨⟨z, s2⟩, h3, h4⟩ := Option.bind_eq_some_iff.mp h2
  have ez : z = .non ∧ d = .ref s1.length ∧ st' = s2 := by
    cases z with
    | non => cases h4; exact ⟨rfl, rfl, rfl⟩
    | _ => cases h4
  obtain ⟨rfl, rfl, rfl⟩ := ez
  refine PySem.W.callWith_K (h₀ := X.base) I.ok.mod.kin M.kp (thn (ha.run pos pins s σ H (fun vs H1 => ∃ r1, Ext r H r1 H1 ∧ Sim X.K r1 H1 s1 ∧ RepL X.K r1 H1 vs ds) I ⟨r, env, st, ds, s1, he', hs, h1, fun vs r1 H1 e1 q1 l1 => ⟨r1, e1, q1, l1⟩⟩) fun us sa hz => ?_) he hpl
  obtain ⟨vs, H1, I1, rv, r1, e1, q1, l1⟩ := hz
  exact ⟨I1.kIn, runMake M hc Fd gx hb I1 rv (by rw [l1.len, hn _ _ _ _ h1]; exact hl) l1 q1 h3 fun v r2 H2 e2 q2 p2 => q v r2 H2 (e1.trans e2) q2 p2⟩
end
end DL
/-! Defs that may raise an own error with one field. -/
namespace DL
open PySem PySem.Spec PyProof.Rows L2 TL
variable {K : PySem.W.Frag}
inductive Rs | val (d : D) | er (c f : Str) (d : D)
abbrev FMX := List D → Store → Option (Rs × Store)
def outX : Option (Out × Lo × Store) → Option (Rs × Store)
  | some (.rt d, _, s) => some (.val d, s)
  | some (.nx, _, s) => some (.val .non, s)
  | some (.er c f d, _, s) => some (.er c f d, s)
  | _ => none
def mOfX (n : Nat) (g : FS) : FMX := fun ds st => outX (g (startD n ds) st)
/-- both ways out -/
def RsOk (K : PySem.W.Frag) (rho : Rf) (H : Hp) (st' : Store) (Q : VK) (E : XK) : Rs → Prop
  | .val d => ∀ v rho' H', Ext rho H rho' H' → Sim K rho' H' st' → Rep K rho' H' v d → Q v H'
  | .er c f d => ∀ rho' H' C dd, Ext rho H rho' H' → Sim K rho' H' st' → ErrAt K rho' H' c f d C dd → E (.ref C) (some dd) H'
structure FnX (P : Program) (w : World) (K : PySem.W.Frag) (mg : Str → Option Value) (base : Heap) (k : Nat) (f : Addr) (fd : FuncData) (ps : List Str) (m : FMX) : Prop where
  run : ∀ (A : Around) (outer : List Env) (s : Shared) (H : Hp) (args : Args) (us : List Value) (vs : List V) (Q : VK) (E : XK) (rho : Rf) (ds : List D) (st st' : Store) (z : Rs),
    A.guards = some [] → Room k A → Env0 P w K mg base A outer s H → BindsTo s fd args (ps.zip us) → Vals vs us → vs.length = ps.length → RepL K rho H vs ds → Sim K rho H st → m ds st = some (z, st') →
    RsOk K rho H st' Q E z → codeAny (model P w) A (.call (.ref f) args) (CR (L2.CX P w) outer P w H s Q E) s
theorem FnX.up {P : Program} {w : World} {mg : Str → Option Value} {base : Heap} {j k : Nat} {f : Addr} {fd : FuncData} {ps : List Str} {m : FMX} (h : FnX P w K mg base j f fd ps m) (l : j ≤ k) : FnX P w K mg base k f fd ps m :=
  ⟨fun A outer s H args us vs Q E rho ds st st' z hg hr => h.run A outer s H args us vs Q E rho ds st st' z hg (hr.mono l)⟩
abbrev cxX (P : Program) (w : World) (K : PySem.W.Frag) (mg : Str → Option Value) (base : Heap) (N : List Str) (qual : Str) (sc : Scope) (f : Addr) (cd : Value) (A : Around) (outer : List Env) (s : Shared) (H : Hp) (E : XK) : Cx :=
  cxOf (L2.CX P w) P w K mg base N qual sc f cd A outer s H E
/-- where the errors of a body go -/
abbrev wE (E : XK) : WXd := fun cls d _ H => E cls d H
theorem FnX.of {P : Program} {w : World} {mg : Str → Option Value} {base : Heap} {x qual : Str} {sd : Stmt} {f : Addr} {fd : FuncData} {N ps : List Str} {k : Nat} {g : FS} (F : Fun K x qual sd f fd) (S : FnScope N ps (defScope sd))
    (hb : ∀ (cd : Value) (A : Around) (outer : List Env) (s : Shared) (H : Hp) (E : XK), GX (cxX P w K mg base N qual (defScope sd) f cd A outer s H E) k → DSs (cxX P w K mg base N qual (defScope sd) f cd A outer s H E) (wE E) (defBody sd) g) :
    FnX P w K mg base (k + 1) f fd ps (mOfX N.length g) := by
  obtain ⟨oc, od, kV, doc, pm, an, cd, ct, osl, rfl, lk, hcd⟩ := F.ex
  refine ⟨fun A outer s H args us vs Q E rho ds st st' z hgd hr e0 hbind rv hlen rds hs hm hq => ?_⟩
  have hps : ps.length ≤ N.length := by
    have := congrArg List.length S.pre
    rw [List.length_take] at this
    omega
  have KX : K.In s.heap := e0.mod.kin.keeps fun b o e => (e0.bs b o e).1
  have lim : s.heap.NoLimit := e0.mod.nolimit.keeps fun b o e => (e0.bs b o e).1
  have kinds : ∀ y ∈ ps.zip us, (defScope sd).names.lookup y.1 = some .local ∨ ((defScope sd).names.lookup y.1 = some .cell ∧ ((cellsFrom (s.heap.objs.size + 1) (defScope sd).names []).lookup y.1).isSome = true) := fun ⟨n, v⟩ hy =>
    (S.par n (List.of_mem_zip hy).1).elim .inl fun q => .inr ⟨q, PySem.W.cellsFrom_some _ _ _ (.inl q)⟩
  refine codeAny_call_function hr.depth (KX _ _ lk) rfl S.co S.gen rfl (PySem.W.codeRec_of KX hcd) (hbind _ _ _ _ (wpAny_newFunctionEnv_cells S.kind kinds fun env he s1 x => ?_))
  subst he
  refine ⟨lim.keeps x.toInCall.keep, codeAny_func ?_⟩
  have gx : GX (cxX P w K mg base N qual (defScope sd) f cd A outer s H E) k := ⟨rfl, S.nd, hr.deeper _, hgd⟩
  have I0 : Inv (cxX P w K mg base N qual (defScope sd) f cd A outer s H E) [] (L2.start N vs) H s1 := inv_start S hr.hd e0 hlen rv x
  obtain ⟨o, env', h1, h2⟩ : ∃ o env', g (startD N.length ds) st = some (o, env', st') ∧ OutOk K (wE E) rho H { nx := fun _ H' => Q .non H', rt := Q } env' st' o := by
    unfold mOfX at hm
    cases q0 : g (startD N.length ds) st with
    | none => rw [q0] at hm; cases hm
    | some q =>
      obtain ⟨o, e, s2⟩ := q
      rw [q0] at hm
      cases o with
      | rt d' => cases hm; exact ⟨_, _, rfl, hq⟩
      | nx => cases hm; exact ⟨_, _, rfl, fun σ' r' H' ex _ hs' => hq .non r' H' ex hs' .non⟩
      | er c f d => cases hm; exact ⟨_, _, rfl, fun σ' r' H' C dd ex _ hs' er => hq r' H' C dd ex hs' er⟩
      | bk => cases hm
      | ct => cases hm
  have run := (hb cd A outer s H E gx).run [] s1 (L2.start N vs) H { nx := fun _ H' => Q .non H', rt := Q } I0 ⟨rho, _, st, o, env', st', start_env rds (by omega), hs, h1, h2⟩
  have back : ∀ {σ' : L2.St} {H' : Hp} {v : V} {u : Value} {s' : Shared}, Inv (cxX P w K mg base N qual (defScope sd) f cd A outer s H E) [] σ' H' s' → RelV v u → Q v H' → CE outer P w H s Q u s' := fun {σ' H' v u s'} J r z => ⟨v, H', J.os, J.bare, J.base, J.hok, r, z⟩
  refine wpAny_mono run (fun fl s' q => ?_) fun _ _ z => z
  cases fl with
  | ret u =>
    obtain ⟨v, σ', H', J, r, z⟩ := q
    exact back J r z
  | next =>
    obtain ⟨σ', H', J, z⟩ := q
    exact back (v := V.non) (u := Value.none) J rfl z
  | brk => obtain ⟨_, _, _, z⟩ := q; exact z.elim
  | cont => obtain ⟨_, _, _, z⟩ := q; exact z.elim
/-! ### what is called may raise -/
def fCallX (m : FMX) (fa : FA) : Lo → Store → Option (Rs × Store) := fun env st => (fa env st).bind fun p => m p.1 p.2
/-- an expression that may raise -/
abbrev FX := Lo → Store → Option (Rs × Store)
def tX (K : PySem.W.Frag) (W : WXd) (f : FX) : TE := fun σ H Q => ∃ r env st z st', EnvR K r H env σ ∧ Sim K r H st ∧ f env st = some (z, st') ∧ RsOk K r H st' Q (fun cls d H' => W cls d σ H') z
abbrev DX (X : Cx) (W : WXd) (e : Expr) (f : FX) : Prop := PE X e (tX X.K W f)
section
variable {X : Cx} {W : WXd} {k : Nat} {f : Addr} {fd : FuncData} {ps : List Str} {m : FMX} {x : Str} {p pos : Pos} {e : Expr} {es : List Expr}
theorem runX {pins : List (Addr × Obj)} {σ : L2.St} {H : Hp} {s : Shared} {Q : VK} {us : List Value} {vs : List V} {rho : Rf} {ds : List D} {st st' : Store} {z : Rs} (Fd : FnX X.prog X.w X.K X.mg X.base k f fd ps m) (gx : GX X k) (hb : Binds X.K fd ps []) (tk : L2.Takes X W)
    (I : Inv X pins σ H s) (r : Vals vs us) (hl : vs.length = ps.length) (rd : RepL X.K rho H vs ds) (hs : Sim X.K rho H st) (hm : m ds st = some (z, st')) (hq : RsOk X.K rho H st' Q (fun cls d H' => W cls d σ H') z) :
    wpAny (model X.prog X.w) X.A (call (.ref f) us) (EP X pins σ Q) X.xe s := by
  have hu : us.length = ps.length := by rw [← r.length]; exact hl
  have hbt : BindsTo s fd ⟨us, []⟩ (ps.zip us) := by
    have := hb s us I.kIn (by rw [List.append_nil]; exact hu)
    rwa [List.append_nil] at this
  refine wpAny_call (codeAny_mono (Fd.run X.A X.stack s H ⟨us, []⟩ us vs Q (fun cls d H' => W cls d σ H') rho ds st st' z gx.gd gx.room I.env0 hbt r hl rd hs hm hq) fun y s' hz => ?_)
  cases y with
  | error e => exact L2.passAt tk σ pins H s e s' I hz
  | ok fl =>
    cases fl with
    | ret u => exact I.after hz
    | next => exact False.elim hz
    | brk => exact False.elim hz
    | cont => exact False.elim hz
theorem RsOk.ext {rho rho1 : Rf} {H H1 : Hp} {st' : Store} {Q : VK} {E : XK} (e : Ext rho H rho1 H1) : ∀ {z : Rs}, RsOk K rho H st' Q E z → RsOk K rho1 H1 st' Q E z
  | .val _, h => fun v r' H' e' a b => h v r' H' (e.trans e') a b
  | .er _ _ _, h => fun r' H' C dd e' a b => h r' H' C dd (e.trans e') a b
/-- return f(e, ..); f(e, ..); x = f(e, ..) -/
def sRetX (f : FX) : FS := fun env st => (f env st).map fun p => match p.1 with | .val d => (.rt d, env, p.2) | .er c fl d => (.er c fl d, env, p.2)
def sDropX (f : FX) : FS := fun env st => (f env st).map fun p => match p.1 with | .val _ => (.nx, env, p.2) | .er c fl d => (.er c fl d, env, p.2)
def sAsgX (f : FX) (g : FG) : FS := fun env st => (f env st).bind fun p => match p.1 with | .val d => (g d env).map fun e1 => (.nx, e1, p.2) | .er c fl d => some (.er c fl d, env, p.2)
theorem ds_asgX {tg e : Expr} {f : FX} {g : FG} {pos : Pos} (he : DX X W e f) (hg : DG X tg g) (hs : swapsWithSole [tg] e pos.line X.env = pure false := by rfl) (hw : swappedStores [tg] e X.env = pure none := by rfl)
    (h1 : (assignEach [tg] X.env).map (·.2) = [assign tg X.env] := by rfl) : DS X W (.Assign [tg] e pos) (sAsgX f g) := weakS (ps_asg he hg hs hw h1) fun D' σ H hh => by
  obtain ⟨r, env, st, o, env', st', he, hs, hf, q⟩ := hh
  obtain ⟨⟨z, s1⟩, h1, h2⟩ := Option.bind_eq_some_iff.mp hf
  cases z with
  | val d =>
    obtain ⟨e1, h3, h4⟩ := Option.map_eq_some_iff.mp (show ((g d env).map fun e1 => (Out.nx, e1, s1)) = some (o, env', st') from h2)
    cases h4
    exact ⟨r, env, st, _, _, he, hs, h1, fun v r1 H1 x1 q1 p1 => ⟨r1, env, d, _, he.ext x1, p1, h3, fun σ' he' => q σ' r1 H1 x1 he' q1⟩⟩
  | er c fl d =>
    cases h2
    exact ⟨r, env, st, _, _, he, hs, h1, fun r' H' C dd ex hs' er => q σ r' H' C dd ex (he.ext ex) hs' er⟩
end
end DL
/-! Targets that are tuples, zip, starred displays, ord, what is never run. -/
namespace DL
open PySem PySem.Spec PyProof.Rows L2 TL
variable {K : PySem.W.Frag}
/-! ### targets -/
def TgsOk (K : PySem.W.Frag) (g : TGs) (is : List Nat) (bd : List D → Option (List D)) : Prop := ∀ r H xs ds σ (Q : L2.St → Hp → Prop) vals, RepL K r H xs ds → bd ds = some vals → (∀ vs, RepL K r H vs vals → Q (setL is vs σ) H) → g xs σ H Q
def bNil : List D → Option (List D) := fun ds => match ds with | [] => some [] | _ => none
def bCons (b : FB) (c : List D → Option (List D)) : List D → Option (List D) := fun ds => match ds with | d :: r => (b d).bind fun x => (c r).map fun y => x ++ y | [] => none
def bTup (n : Nat) (c : List D → Option (List D)) : FB := fun d => match d with | .tup ds => if ds.length = n then c ds else none | _ => none
theorem tgs_nil : TgsOk K gNil [] bNil := fun r H xs ds σ Q vals hr hb q => by
  cases ds with
  | nil =>
    cases hr
    cases hb
    exact ⟨rfl, q [] .nil⟩
  | cons _ _ => cases hb
/-- as many slots as values -/
def BdN (n : Nat) (b : FB) : Prop := ∀ d v, b d = some v → v.length = n
theorem b1_n : BdN 1 b1 := fun d v h => by cases h; rfl
theorem setL_app {α : Type} : ∀ (is js : List Nat) (vs us : List α) (σ : List (Option α)), is.length = vs.length → setL (is ++ js) (vs ++ us) σ = setL js us (setL is vs σ)
  | [], js, [], us, σ, _ => rfl
  | i :: is, js, v :: vs, us, σ, h => by
    show setL (is ++ js) (vs ++ us) (σ.set i (some v)) = setL js us (setL is vs (σ.set i (some v)))
    exact setL_app is js vs us _ (Nat.succ.inj h)
  | [], js, v :: vs, us, σ, h => by cases h
  | i :: is, js, [], us, σ, h => by cases h
theorem tgs_cons {g : TG} {gs : TGs} {is js : List Nat} {b : FB} {c : List D → Option (List D)} (h1 : TgOk K g is b) (hn : BdN is.length b) (h2 : TgsOk K gs js c) : TgsOk K (gCons g gs) (is ++ js) (bCons b c) := fun r H xs ds σ Q vals hr hb q => by
  cases ds with
  | nil => cases hb
  | cons d ds =>
    cases hr with
    | cons ra rb =>
      obtain ⟨x, hx, hb2⟩ := Option.bind_eq_some_iff.mp (show ((b d).bind fun x => (c ds).map fun y => x ++ y) = some vals from hb)
      obtain ⟨y, hy, e⟩ := Option.map_eq_some_iff.mp hb2
      subst e
      refine ⟨_, _, rfl, h1 r H _ d σ _ x ra hx fun vs rv => h2 r H _ ds _ Q y rb hy fun us ru => ?_⟩
      have hl : is.length = vs.length := by rw [rv.len, hn d x hx]
      rw [← setL_app is js vs us σ hl]
      exact q _ (rv.append ru)
theorem tg_tup {gs : TGs} {is : List Nat} {n : Nat} {c : List D → Option (List D)} (h : TgsOk K gs is c) : TgOkR K (RepI K) (gTup K n gs) is (bTup n c) := fun r H x d σ Q vals hr hb q => by
  obtain ⟨a, xs, ds, e, ed, s, l⟩ := hr
  subst ed
  have hb' : (if ds.length = n then c ds else none) = some vals := hb
  by_cases hl : ds.length = n
  · rw [if_pos hl] at hb'
    exact ⟨a, xs, e, s, by rw [l.len]; exact hl, h r H xs ds σ Q vals l hb' q⟩
  · rw [if_neg hl] at hb'
    cases hb'
theorem Rep.repI {r : Rf} {H : Hp} {v : V} {ds : List D} (h : Rep K r H v (.tup ds)) : RepI K r H v (.tup ds) := by
  obtain ⟨a, xs, e, s, l⟩ := h.sqT
  exact ⟨a, xs, ds, e, rfl, s, l⟩
theorem tg_tupR {gs : TGs} {is : List Nat} {n : Nat} {c : List D → Option (List D)} (h : TgsOk K gs is c) : TgOk K (gTup K n gs) is (bTup n c) := fun r H x d σ Q vals hr hb q => by
  cases d with
  | tup ds => exact tg_tup h r H x _ σ Q vals hr.repI hb q
  | _ => cases hb
theorem bTup_n {n m : Nat} {c : List D → Option (List D)} (h : ∀ ds v, c ds = some v → v.length = m) : BdN m (bTup n c) := fun d v e => by
  cases d with
  | tup ds =>
    have e' : (if ds.length = n then c ds else none) = some v := e
    by_cases hl : ds.length = n
    · rw [if_pos hl] at e'
      exact h ds v e'
    · rw [if_neg hl] at e'
      cases e'
  | _ => cases e
theorem bNil_n : ∀ ds v, bNil ds = some v → v.length = 0 := fun ds v e => by
  cases ds with
  | nil => cases e; rfl
  | cons _ _ => cases e
theorem bCons_n {k m : Nat} {b : FB} {c : List D → Option (List D)} (h1 : BdN k b) (h : ∀ ds v, c ds = some v → v.length = m) : ∀ ds v, bCons b c ds = some v → v.length = k + m := fun ds v e => by
  cases ds with
  | nil => cases e
  | cons d ds =>
    obtain ⟨x, hx, hb2⟩ := Option.bind_eq_some_iff.mp (show ((b d).bind fun x => (c ds).map fun y => x ++ y) = some v from e)
    obtain ⟨y, hy, e⟩ := Option.map_eq_some_iff.mp hb2
    subst e
    rw [List.length_append, h1 d x hx, h ds y hy]
section
variable {X : Cx} {W : WXd} {tg iter : Expr}
/-! ### zip -/
def pairs2 : List D → List D → List D
  | a :: as, b :: bs => .tup [a, b] :: pairs2 as bs
  | _, _ => []
theorem pairs2_len : ∀ as bs : List D, (pairs2 as bs).length = min as.length bs.length
  | [], _ => by simp [pairs2]
  | _ :: _, [] => by simp [pairs2]
  | a :: as, b :: bs => by
    show (pairs2 as bs).length + 1 = _
    rw [pairs2_len as bs, List.length_cons, List.length_cons]
    omega
theorem pairs2_get : ∀ {as bs : List D} {i : Nat} {d : D}, (pairs2 as bs)[i]? = some d → ∃ a b, as[i]? = some a ∧ bs[i]? = some b ∧ d = .tup [a, b]
  | [], _, i, d, h => by simp [pairs2] at h
  | _ :: _, [], i, d, h => by simp [pairs2] at h
  | a :: as, b :: bs, 0, d, h => by
    have e := Option.some.inj (show some (D.tup [a, b]) = some d from h)
    exact ⟨a, b, rfl, rfl, e.symm⟩
  | a :: as, b :: bs, i + 1, d, h => pairs2_get (as := as) (bs := bs) (i := i) (show (pairs2 as bs)[i]? = some d from h)
def asZip : List D → Option (List D) | [.tup as, .tup bs] => some (pairs2 as bs) | _ => none
theorem di_zip {a b : Expr} {fa : FA} {elts : List Expr} {kk : Nat} {tpos p pos : Pos} (hg : Gl X "zip") (hm : X.mg "zip" = none) (ha : DA X [a, b] fa)
    (hs : starEach [a, b] X.env = (false, eval a X.env) :: starEach [b] X.env := by rfl) (hpl : (backTo pos (starEach [b] X.env)).any (·.1) = false := by rfl) :
    DIR X (RepI X.K) (.Tuple elts kk tpos) (.Call (.Name "zip" p) [a, b] [] pos) (iOfA asZip fa) := weakI (RZ.pi_zipA hg hm ha hs hpl) fun σ H R hh => by
  obtain ⟨r, env, st, ds, st', he, hs, hf, q⟩ := hh
  obtain ⟨xs, h1, h2⟩ := iOfA_some hf
  refine ⟨r, env, st, xs, st', he, hs, h1, fun v r1 H1 e1 q1 p1 => ?_⟩
  unfold asZip at h2
  split at h2
  · rename_i as bs
    cases h2
    obtain ⟨u, w, rfl, pa, pb⟩ := lst2 p1
    obtain ⟨a', us, rfl, sa, la⟩ := pa.sqT
    obtain ⟨b', ws, rfl, sb, lb⟩ := pb.sqT
    have pa1 := pa
    have pb1 := pb
    refine ⟨a', b', us, ws, rfl, .inr ⟨sa, sb, q _ r1 H1 e1 q1 fun r2 H2 st2 e2 s2 => ?_⟩⟩
    -- the tuples stand as they stood
    have hk : ∀ {c : Addr} {ys : List V} {es : List D}, SqT X.K H1 c ys → RepL X.K r1 H1 ys es → Rep X.K r1 H1 (.ref c) (.tup es) → ∃ zs, SqT X.K H2 c zs ∧ RepL X.K r2 H2 zs es := fun {c ys es} _ _ p => by
      obtain ⟨c', zs, e', s', l'⟩ := (p.ext e2).sqT
      cases e'
      exact ⟨zs, s', l'⟩
    obtain ⟨us2, sa2, la2⟩ := hk sa la pa1
    obtain ⟨ws2, sb2, lb2⟩ := hk sb lb pb1
    refine ⟨fun i hi => ⟨us2, ws2, sa2, sb2, ?_⟩, fun i d hd => ?_⟩
    · rw [pairs2_len] at hi
      rw [la2.len, lb2.len]
      omega
    · obtain ⟨x, y, hx, hy, ed⟩ := pairs2_get hd
      obtain ⟨vx, hvx, rx⟩ := la2.get hx
      obtain ⟨vy, hvy, ry⟩ := lb2.get hy
      refine ⟨⟨us2, ws2, vx, vy, sa2, sb2, hvx, hvy⟩, fun v H3 ⟨T, x', y', ev, hT, eH, w1, w2⟩ => ?_⟩
      subst ev
      subst eH
      have ex : x' = vx := by
        have := w1 us2 sa2
        rw [hvx] at this
        exact (Option.some.inj this).symm
      have ey : y' = vy := by
        have := w2 ws2 sb2
        rw [hvy] at this
        exact (Option.some.inj this).symm
      subst ex ey
      have sm : Same H2 (upd H2 T (.tup [x', y'])) := same_alloc hT
      exact ⟨r2, s2.ext sm, s2.same sm, T, [x', y'], [x, y], rfl, ed, .inl (.inl upd_same), .cons (rx.ext (s2.ext sm)) (.cons (ry.ext (s2.ext sm)) .nil)⟩
  · cases h2
/-! ### (*xs, a) -/
def asSeq : D → Store → Option (List D) := fun d st => match d with
  | .lst ds => some ds
  | .tup ds => some ds
  | .ref n => (match st[n]? with | some (.lst ds) => some ds | _ => none)
  | _ => none
def aStar (f : F) (g : FA) : FA := fun env st => (f env st).bind fun p => (asSeq p.1 p.2).bind fun ds => (g env p.2).map fun q => (ds ++ q.1, q.2)
theorem asSeq_rep {r : Rf} {H : Hp} {v : V} {d : D} {st : Store} {ds : List D} (h : Rep K r H v d) (si : Sim K r H st) (e : asSeq d st = some ds) : ∃ p xs, v = .ref p ∧ (SqT K H p xs ∨ SqL K H p xs) ∧ RepL K r H xs ds := by
  unfold asSeq at e
  split at e
  · cases e
    cases h with
    | lst a b c => exact ⟨_, _, rfl, .inr (.of a), c⟩
  · cases e
    obtain ⟨a, xs, e, s, l⟩ := h.sqT
    exact ⟨a, xs, e, .inl s, l⟩
  · rename_i n
    obtain ⟨a, rfl, ha⟩ := h.refI
    split at e
    · rename_i es hst
      cases e
      obtain ⟨av, xs, hx, l⟩ := si.ob _ a _ ha hst
      exact ⟨a, xs, rfl, .inr (.of hx), l⟩
    · cases e
  · cases e
theorem da_star {e : Expr} {p : Pos} {es : List Expr} {f : F} {g : FA} (h : DE X e f) (t : DA X es g) (hs : starEach (.Starred e p :: es) X.env = (true, eval e X.env) :: starEach es X.env := by rfl) : DA X (.Starred e p :: es) (aStar f g) :=
  weakA (StX.pa_star h t hs) fun σ H Q hh => by
  obtain ⟨r, env, st, ds, st', he, hs, hf, q⟩ := hh
  obtain ⟨⟨x, s1⟩, h1, hf1⟩ := Option.bind_eq_some_iff.mp hf
  obtain ⟨xs, h2, hf2⟩ := Option.bind_eq_some_iff.mp hf1
  obtain ⟨⟨ys, s2⟩, h3, hf3⟩ := Option.map_eq_some_iff.mp hf2
  cases hf3
  refine ⟨r, env, st, x, s1, he, hs, h1, fun u r1 H1 e1 q1 p1 => ?_⟩
  obtain ⟨p, us, eu, sq, l⟩ := asSeq_rep p1 q1 h2
  exact ⟨p, us, eu, sq, r1, env, s1, ys, _, he.ext e1, q1, h3, fun ws r2 H2 e2 q2 l2 => q (us ++ ws) r2 H2 (e1.trans e2) q2 ((l.ext e2).append l2)⟩
/-! ### ord -/
def bOrd : List D → Store → Option D := fun ds _ => match ds with | [.str x] => if x.length = 1 then some (.int (x.cps.getD 0 0 : Nat)) else none | _ => none
theorem ok_ord : CallOk X (.builtin "ord") bOrd := ⟨_, call_ord, fun rho H xs ds d st Q rl si e q => by
  unfold bOrd at e
  split at e
  · split at e
    · rename_i z hz
      cases e
      obtain ⟨v, rfl, p⟩ := lst1 rl
      cases p
      exact ⟨_, rfl, hz, q _ H (fun _ _ h => h) (.int _)⟩
    · cases e
  · cases e⟩
/-! ### what is never run -/
def sNever : FS := fun _ _ => none
end
end DL
/-! A list of the store is walked (as long as it stands as it stood); a dict is locked and walked. -/
namespace DL
open PySem PySem.Spec PyProof.Rows L2 TL
/-- the walk goes on while the store is as P says -/
noncomputable def okP (P : Store → Prop) (st : Store) : Bool := @decide (P st) (Classical.propDecidable _)
theorem okP_t {P : Store → Prop} {st : Store} (h : P st) : okP P st = true := @decide_eq_true _ (Classical.propDecidable _) h
theorem okP_p {P : Store → Prop} {st : Store} (h : okP P st = true) : P st := @of_decide_eq_true _ (Classical.propDecidable _) h
variable {K : PySem.W.Frag}
abbrev FIg := Lo → Store → Option (List D × (Store → Prop) × Store)
def ItOkG (K : PySem.W.Frag) (R : RD) (P : Store → Prop) (J : It) (r : Rf) (H : Hp) (ds : List D) : Prop :=
  ∀ r1 H1 st1, Ext r H r1 H1 → Sim K r1 H1 st1 → P st1 → (∀ i, ds.length ≤ i → J.stop i H1) ∧
    ∀ (i : Nat) d, ds[i]? = some d → J.go i H1 ∧ ∀ x H2, J.yld i H1 x H2 → ∃ r2, Ext r1 H1 r2 H2 ∧ Sim K r2 H2 st1 ∧ R r2 H2 x d
def tIG (K : PySem.W.Frag) (RR : RD) (f : FIg) : TI := fun σ H R => ∃ r env st ds P st', EnvR K r H env σ ∧ Sim K r H st ∧ f env st = some (ds, P, st') ∧ ∀ J r' H', Ext r H r' H' → Sim K r' H' st' → ItOkG K RR P J r' H' ds → R J H'
abbrev DIG (X : Cx) (RR : RD) (tg iter : Expr) (f : FIg) : Prop := PI X tg iter (tIG X.K RR f)
noncomputable def loopSG (P : Store → Prop) (tg : FG) (body : FS) : List D → Lo → Store → Option (Out × Lo × Store)
  | [], env, st => if okP P st = true then some (.nx, env, st) else none
  | d :: ds, env, st => if okP P st = true then (tg d env).bind fun e1 => (body e1 st).bind fun p => match p with
    | (.nx, e2, s2) => loopSG P tg body ds e2 s2
    | (.ct, e2, s2) => loopSG P tg body ds e2 s2
    | (.bk, e2, s2) => some (.nx, e2, s2)
    | (.rt v, e2, s2) => some (.rt v, e2, s2)
    | (.er c f v, e2, s2) => some (.er c f v, e2, s2) else none
noncomputable def sForG (fi : FIg) (tg : FG) (body : FS) : FS := fun env st => (fi env st).bind fun p => loopSG p.2.1 tg body p.1 env p.2.2
noncomputable def loopCG (P : Store → Prop) (is : List Nat) (bd : FB) (t : FT) (f : F) : List D → Lo → Store → Option (List D × Store)
  | [], _, st => if okP P st = true then some ([], st) else none
  | d :: ds, env, st => if okP P st = true then (bd d).bind fun vs => (t (setL is vs env) st).bind fun p => if p.1 = true then (f (setL is vs env) p.2).bind fun q => (loopCG P is bd t f ds env q.2).map fun z => (q.1 :: z.1, z.2) else loopCG P is bd t f ds env p.2 else none
noncomputable def fCompG (fi : FIg) (is : List Nat) (bd : FB) (t : FT) (f : F) : F := fun env st => (fi env st).bind fun p => (loopCG p.2.1 is bd t f p.1 (wipeL env is) p.2.2).bind fun q => if q.1.length ≤ sizeLine then some (.lst q.1, q.2) else none
theorem compReadsG {RR : RD} {fi : FIg} {is : List Nat} {bd : FB} {g : TG} {t : FT} {f : F} (hg : TgOkR K RR g is bd) (σ : L2.St) (H : Hp) (Q : VK) (hh : tD K (fCompG fi is bd t f) σ H Q) : tLc (tIG K RR fi) g (tT K t) (tD K f) is σ H Q := by
  obtain ⟨r, env, st, d, st', he, hs, hf, q⟩ := hh
  obtain ⟨⟨ds, P, s1⟩, h1, h2⟩ := Option.bind_eq_some_iff.mp hf
  obtain ⟨⟨zs, s2⟩, h3, h4⟩ := Option.bind_eq_some_iff.mp h2
  by_cases hz : zs.length ≤ sizeLine
  case neg => rw [if_neg hz] at h4; cases h4
  rw [if_pos hz] at h4
  cases h4
  refine ⟨r, env, st, ds, P, s1, he, hs, h1, fun J r1 H1 e1 q1 j1 Dl hD => ?_⟩
  have m0 := Mkg.start (o := .lst []) q1 hD
  refine ⟨fun k m H2 => m = ds.length - k ∧ k ≤ ds.length ∧ ∃ r2 st2 acc us ys, Mkg K r1 H1 Dl r2 H2 st2 ∧ EnvR K r2 H2 (DL.wipeL env is) (wipe σ is) ∧ H2 Dl = some (.lst us) ∧ RepL K r2 H2 us acc ∧
    loopCG P is bd t f (ds.drop k) (DL.wipeL env is) st2 = some (ys, s2) ∧ acc ++ ys = zs, ⟨_, rfl, Nat.zero_le _, r1.hide Dl, s1, [], [], zs, m0, ((he.ext e1).ext m0.ex).wipeL is, upd_same, .nil, h3, rfl⟩, ?_⟩
  rintro k m H2 ⟨rfl, hk, r2, st2, acc, us, ys, mk, wp, hus, racc, hl, hcat⟩
  by_cases hlt : k < ds.length
  case neg =>
    have e : k = ds.length := by omega
    subst e
    rw [List.drop_length] at hl
    unfold loopCG at hl
    by_cases hP : okP P st2 = true
    case neg => rw [if_neg hP] at hl; cases hl
    rw [if_pos hP] at hl
    obtain ⟨jst, jgo⟩ := j1 r2 H2 st2 mk.ex mk.sim (okP_p hP)
    cases hl
    rw [List.append_nil] at hcat
    subst hcat
    obtain ⟨w1, w2, w3⟩ := mk.show q1 hD
    exact .inl ⟨jst _ (Nat.le_refl _), q (.ref Dl) (r2.shown Dl) H2 (e1.trans w1) w2 (.lst hus (fun z => z.2 rfl) (racc.ex w3))⟩
  case pos =>
    have hd : ds[k]? = some ds[k] := List.getElem?_eq_getElem hlt
    rw [List.drop_eq_getElem_cons hlt] at hl
    unfold loopCG at hl
    by_cases hP : okP P st2 = true
    case neg => rw [if_neg hP] at hl; cases hl
    rw [if_pos hP] at hl
    obtain ⟨jst, jgo⟩ := j1 r2 H2 st2 mk.ex mk.sim (okP_p hP)
    obtain ⟨vals, hv, hl1⟩ := Option.bind_eq_some_iff.mp hl
    obtain ⟨⟨b, st3⟩, hb, hl2⟩ := Option.bind_eq_some_iff.mp hl1
    obtain ⟨j2, j3⟩ := jgo k _ hd
    refine .inr ⟨j2, fun H' => k + 1 ≤ ds.length ∧ ∃ r2 st2 acc us ys, Mkg K r1 H1 Dl r2 H' st2 ∧ EnvR K r2 H' (DL.wipeL env is) (wipe σ is) ∧ H' Dl = some (.lst us) ∧ RepL K r2 H' us acc ∧
      loopCG P is bd t f (ds.drop (k + 1)) (DL.wipeL env is) st2 = some (ys, s2) ∧ acc ++ ys = zs, fun H' ⟨hk', w⟩ => ⟨ds.length - (k + 1), by omega, rfl, hk', w⟩, fun x H3 y => ?_⟩
    obtain ⟨r3, e3, s3, rx⟩ := j3 x H3 y
    have wp3 := wp.ext e3
    refine hg r3 H3 x _ _ _ vals rx hv fun vs rvs => ⟨wipe_setL σ is vs, ?_⟩
    · have he3 : EnvR K r3 H3 (DL.setL is vals (DL.wipeL env is)) (DL.setL is vs (wipe σ is)) := wp3.setL rvs
      refine ⟨r3, _, st2, b, st3, he3, s3, hb, fun r4 H4 e4 s4 => ?_⟩
      cases b with
      | false =>
        rw [if_neg Bool.false_ne_true] at hl2 ⊢
        obtain ⟨m4, k4⟩ := mk.step (e3.trans e4) s4
        exact ⟨hlt, r4, st3, acc, us, ys, m4, wp3.ext e4, k4.trans hus, racc.ext (e3.trans e4), hl2, hcat⟩
      | true =>
        rw [if_pos rfl] at hl2 ⊢
        obtain ⟨⟨yd, st4⟩, hy, hl3⟩ := Option.bind_eq_some_iff.mp hl2
        obtain ⟨⟨ys', st5⟩, hl4, hl5⟩ := Option.map_eq_some_iff.mp hl3
        cases hl5
        refine ⟨r4, _, st3, yd, st4, he3.ext e4, s4, hy, fun yv r5 H5 e5 s5 ry => ?_⟩
        have e25 : Ext r2 H2 r5 H5 := (e3.trans e4).trans e5
        obtain ⟨m5, k5⟩ := mk.step e25 s5
        obtain ⟨m6, g1⟩ := m5.put q1 hD (.lst (us ++ [yv]))
        refine ⟨us, k5.trans hus, ?_, hlt, r5, st4, acc ++ [yd], us ++ [yv], ys', m6, ((wp3.ext e4).ext e5).exx g1, upd_same, ((racc.ext e25).ex g1).append (.cons (ry.ex g1) .nil), hl4, by rw [← hcat, List.append_assoc]; rfl⟩
        rw [racc.len]
        have : (acc ++ yd :: ys').length ≤ sizeLine := by rw [hcat]; exact hz
        rw [List.length_append, List.length_cons] at this
        omega
section
variable {X : Cx} {W : WXd} {tg iter : Expr}
theorem de_lcG {RR : RD} {elt : Expr} {ifs : List Expr} {scope : Scope} {own : List (Str × Nat)} {pos : Pos} {fi : FIg} {bd : FB} {g : TG} {t : FT} {f : F} (hc : X.calm = true) (hN : X.N.Nodup) (hi : DIG X RR tg iter fi) (ok : BlkOk X.N X.env.scope scope own)
    (tk : TgOkR X.K RR g (own.map (·.2)) bd)
    (hg : ∀ (s : Shared) (H : Hp) (C : Addr) (cl : List (Str × Addr)) (fp : List Addr), PG (X.blk s H scope (compEnvC scope cl C X.env) fp) tg g) (ht : ∀ (s : Shared) (H : Hp) (C : Addr) (cl : List (Str × Addr)) (fp : List Addr), DTs (X.blk s H scope (compEnvC scope cl C X.env) fp) ifs t)
    (he : ∀ (s : Shared) (H : Hp) (C : Addr) (cl : List (Str × Addr)) (fp : List Addr), DE (X.blk s H scope (compEnvC scope cl C X.env) fp) elt f) (hs : ∀ x, foldedSetIterable iter X.env x = pure x := by intro _; rfl) :
    DE X (.ListComp elt [⟨tg, iter, ifs, 0⟩] scope pos) (fCompG fi (own.map (·.2)) bd t f) := weakE (pe_lc hc hN hi ok hg ht he hs) fun σ H Q hh => compReadsG tk σ H Q hh
/-- a list of the store, as long as it stands as it stood -/
def iRefL (f : F) : FIg := fun env st => (f env st).bind fun p => match p.1 with
  | .ref n => (match p.2[n]? with | some (.lst ds) => some (ds, (fun s => s[n]? = some (.lst ds)), p.2) | _ => none)
  | _ => none
theorem di_refL {f : F} (h : DE X iter f) : DIG X (Rep X.K) tg iter (iRefL f) := weakI (pi_list h) fun σ H R hh => by
  obtain ⟨r, env, st, ds, P, st', he, hs, hf, q⟩ := hh
  obtain ⟨⟨d, s1⟩, h1, h2⟩ := Option.bind_eq_some_iff.mp hf
  cases d with
  | ref n =>
    have h2' : (match s1[n]? with | some (.lst ds) => some (ds, (fun s : Store => s[n]? = some (.lst ds)), s1) | _ => none) = some (ds, P, st') := h2
    split at h2'
    · rename_i es hst
      cases h2'
      refine ⟨r, env, st, _, _, he, hs, h1, fun v r1 H1 e1 q1 p1 => ?_⟩
      obtain ⟨a, rfl, ha⟩ := p1.refI
      obtain ⟨av, xs, hx, l⟩ := q1.ob _ a _ ha hst
      refine ⟨a, rfl, ⟨xs, .of hx⟩, q _ r1 H1 e1 q1 fun r2 H2 st2 e2 s2 hP => ?_⟩
      obtain ⟨av2, ys, hy, l2⟩ := s2.ob _ a _ (e2.get ha) hP
      have sq : SqL X.K H2 a ys := .of hy
      refine ⟨fun i hi => ⟨ys, sq, by rw [l2.len]; exact hi⟩, fun i d hd => ?_⟩
      obtain ⟨v, hv, rv⟩ := l2.get hd
      exact ⟨⟨ys, v, sq, hv⟩, fun x H3 ⟨e, y⟩ => by
        subst e
        have := y ys sq
        rw [hv] at this
        cases this
        exact ⟨r2, .refl _ _, s2, rv⟩⟩
    · cases h2'
  | _ => cases h2
end
/-! the walk of a list that stands: as of any other -/
theorem loopCG_map {P : Store → Prop} {is : List Nat} {bd : FB} {f : F} {g : D → D} {env : Lo} {st : Store} (hP : P st) : ∀ {ds : List D}, (∀ d ∈ ds, ∃ vs, bd d = some vs ∧ f (setL is vs env) st = some (g d, st)) → loopCG P is bd tTrue f ds env st = some (ds.map g, st)
  | [], _ => by unfold loopCG; rw [if_pos (okP_t hP)]; rfl
  | d :: ds, h => by
    obtain ⟨ws, hb, hf⟩ := h d List.mem_cons_self
    have := loopCG_map hP (ds := ds) fun d hd => h d (List.mem_cons_of_mem _ hd)
    simp [loopCG, hb, tTrue, hf, this, okP_t hP]
end DL
/-! enumerate over a tuple, over a list. -/
namespace DL
open PySem PySem.Spec PyProof.Rows L2 TL
theorem enum_new1 {v : Value} {o : Obj} {HH : Heap → Prop} (B : Begins v o HH) : Meets (Builtin.«enumerate.__new__» ⟨[.type "enumerate", v], []⟩) (fun _ R s => HH s.heap ∧ R (.ok (.ret (.ref (s.heap.push o).objs.size))) { s with heap := (s.heap.push o).push { cls := .type "enumerate", data := .fields #[.none, .bool false, .ref s.heap.objs.size, rawInt 0, .none, .none] } }) :=
  .of_wp fun prog w A R s h => by
  obtain ⟨hp, g, d, tk, os⟩ := s
  obtain ⟨hH, hR⟩ := h
  have sb := sub_enumerate
  have it1 : ∀ {A' : Around} {E' : Value → Shared → Prop} {Q' : Value → Shared → Prop}, Q' (.ref hp.objs.size) ⟨hp.push o, g, d, tk, os⟩ → wpAny (model prog w) A' (pyIter v) Q' E' ⟨hp, g, d, tk, os⟩ := fun z => B.iter prog w _ _ ⟨hp, g, d, tk, os⟩ _ hH z
  wp_walk using it1
  refine wpAny_stack_any fun stk => wpAny_pure ?_
  split
  · rename_i c _ _ _ _ _
    cases (c == Value.type "enumerate") <;> (wp_walk using it1; exact ⟨_, rfl, hR⟩)
  · wp_walk using it1
    exact ⟨_, rfl, hR⟩
theorem call_enum1 {prog : Program} {w : World} {A : Around} {E : Value → Shared → Prop} {s : Shared} {v : Value} {o : Obj} {HH : Heap → Prop} {Q : Value → Shared → Prop} (B : Begins v o HH) (hH : HH s.heap)
    (hQ : ∀ h', IsEnum h' (s.heap.objs.size + 1) s.heap.objs.size 0 .none → h'.get? s.heap.objs.size = some o → (∀ b ob, s.heap.get? b = some ob → h'.get? b = some ob) → Q (.ref (s.heap.objs.size + 1)) { s with heap := h' }) : wpAny (model prog w) A (call (.type "enumerate") [v]) Q E s := by
  have sz : (s.heap.push o).objs.size = s.heap.objs.size + 1 := Heap.size_push ..
  have en : IsEnum ((s.heap.push o).push { cls := .type "enumerate", data := .fields #[.none, .bool false, .ref s.heap.objs.size, rawInt 0, .none, .none] }) (s.heap.objs.size + 1) s.heap.objs.size 0 .none := by
    have z := Heap.get?_push_size (s.heap.push o) (o := { cls := .type "enumerate", data := .fields #[.none, .bool false, .ref s.heap.objs.size, rawInt 0, .none, .none] }) rfl
    rw [sz] at z
    exact z
  refine callType_new F.called_enumerate (by decide) (F.typeCall_enumerate_1 _) (F.newCall_enumerate_1 _) (fun ob => F.args_object_init_2 ob _) F.entry_enumerate_new (enum_new1 B) ⟨hH, ?_⟩
  show _ ∧ _
  rw [sz]
  exact ⟨⟨_, en, rfl⟩, hQ _ en (Heap.get?_push_of_some _ (Heap.get?_push_size _ B.free)) fun b ob z => Heap.get?_push_of_some _ (Heap.get?_push_of_some _ z)⟩
/-- the tuple at a, its items behind their numbers -/
def IteT (K : PySem.W.Frag) (a : Addr) : It :=
  ⟨fun k H => ∃ (xs : List V) (x : V), SqT K H a xs ∧ xs[k]? = some x, fun k H v H' => ∃ T x, v = .ref T ∧ H T = none ∧ H' = upd H T (.tup [.int (k : Nat), x]) ∧ ∀ xs, SqT K H a xs → xs[k]? = some x, fun k H => ∃ xs : List V, SqT K H a xs ∧ xs.length ≤ k⟩
theorem apart_ti {h : Heap} {a it : Addr} {its : Array Value} {i : Nat} (p : h.IsTuple a its) (q : h.IsTupleIter it a i) : a ≠ it := fun z => by
  obtain ⟨o, e1, c1, n, d1⟩ := p
  obtain ⟨o2, e2, c2, d2⟩ := q
  rw [z, e2] at e1
  cases e1
  rw [d1] at d2
  cases d2
theorem apart_en {h : Heap} {a e it : Addr} {its : Array Value} {i : Int} {old : Value} (p : h.IsTuple a its) (q : IsEnum h e it i old) : e ≠ a := fun z => by
  obtain ⟨o, e1, c1, n, d1⟩ := p
  have q' : h.get? e = _ := q
  rw [z, e1] at q'
  cases q'
  cases d1
theorem turn_enumT {P : Program} {w : World} {K : PySem.W.Frag} {elts : List Expr} {kk : Nat} {tpos : Pos} (a e it : Addr) :
    Turn P w K (.Tuple elts kk tpos) (IteT K a) [e, it] e (fun i h => (∃ old, IsEnum h e it ((i : Nat) : Int) old) ∧ h.IsTupleIter it a i ∧ e ≠ it) where
  mem := List.mem_cons_self
  obj := fun i h ⟨⟨old, en⟩, ⟨o, ho, hc, hd⟩, _⟩ b hb => by
    rcases List.mem_cons.mp hb with z | z
    · exact ⟨_, by rw [z]; exact en, fun v q => by cases (show Data.fields _ = Data.cell v from q)⟩
    · exact ⟨o, by rw [List.mem_singleton.mp z]; exact ho, fun v q => by rw [hd] at q; cases q⟩
  keep := fun i h h' ⟨⟨old, en⟩, ti, ne⟩ k => ⟨⟨old, k e List.mem_cons_self _ en⟩, ti.at fun o q => k it (List.mem_cons_of_mem _ List.mem_cons_self) o q, ne⟩
  item := by
    intro X hP hw hK hc i pins s σ H E I hf ⟨⟨old, en⟩, ti, ne⟩ ⟨xs, x, sq, hx⟩
    subst hP hw hK
    obtain ⟨its, rv, p, hz⟩ := I.tuple sq
    have p' : s.heap.IsTuple a its.toArray := p
    obtain ⟨u, hu, ru⟩ := rv.get hx
    have le : e < s.heap.objs.size := Heap.lt_size en
    have li : it < s.heap.objs.size := by
      obtain ⟨_, q, _⟩ := ti
      exact Heap.lt_size q
    have hlt : i < its.toArray.size := by
      have := (List.getElem?_eq_some_iff.mp hu).1
      simpa using this
    refine wpAny_pyNext_enum_itemD (Draws.tuple (A := X.A.in1) (I.ok.hd hc) it a (apart_ti p' ti) its.toArray) en ⟨ti, p'⟩ hlt ne (fun hm => ?_) fun y h' tk hy ho st' hT hsz hk => ?_
    · rcases List.mem_cons.mp hm with z | z
      · exact ne z
      · exact apart_en p' en (List.mem_singleton.mp z)
    · have ey : y = u := by
        have h2 : its[i]? = some y := by simpa using hy
        rw [hu] at h2
        exact (Option.some.inj h2).symm
      subst ey
      refine ⟨_, rfl, wpAny_letOwnedTupleGo_enum (s := { s with heap := h', toks := tk + 1 }) ho fun h'' en' sb => ?_⟩
      have tup : h''.get? s.heap.objs.size = some { cls := .type "tuple", data := .seq #[.int i tk, y] } := (sb.2 _ (Nat.ne_of_gt le)).trans hT
      have ok2 : ObjOk X.prog X.w (upd H s.heap.objs.size (.tup [.int (i : Nat), x])) h'' s.heap.objs.size (.tup [.int (i : Nat), x]) :=
        ⟨by show 2 ≤ sizeLine; decide, [.int i tk, y], .cons ⟨tk, rfl⟩ (.cons ru .nil), ⟨_, tup, rfl, _, rfl⟩⟩
      have I1 : Inv X pins σ (upd H s.heap.objs.size (.tup [.int (i : Nat), x])) { s with heap := h'', toks := tk + 1 } :=
        I.turnedNew (ch := [e, it]) (fun b ob hb q => (sb.2 b (fun z => hb (by rw [z]; exact List.mem_cons_self))).trans (hk b ob (fun z => hb (by rw [z]; exact List.mem_cons_self)) (fun z => hb (by rw [z]; exact List.mem_cons_of_mem _ List.mem_cons_self)) q)) hf (Nat.le_refl _) ok2
      have en2 : IsEnum h'' e it (((i + 1 : Nat) : Int)) y := by
        rw [show ((i + 1 : Nat) : Int) = (i : Int) + 1 by omega]
        exact en'
      refine ⟨.ref s.heap.objs.size, _, I1, rfl, ⟨_, x, rfl, I.hok.fresh (Nat.le_refl _), rfl, fun ys hys => by rw [I.tuple_inj hys sq]; exact hx⟩, ⟨⟨y, en2⟩, st'.1.at fun o q => (sb.2 it (Ne.symm ne)).trans q, ne⟩, fun b hb => ?_⟩
      have lb : b < s.heap.objs.size := by
        rcases List.mem_cons.mp hb with z | z
        · rw [z]; exact le
        · rw [List.mem_singleton.mp z]; exact li
      rw [upd_ne (Nat.ne_of_lt lb)]
      exact (hf b hb).1
  done := by
    intro X hP hw hK hc i pins s σ H E I hf ⟨⟨old, en⟩, ti, ne⟩ ⟨xs, sq, hx⟩
    subst hP hw hK
    obtain ⟨its, rv, p, hz⟩ := I.tuple sq
    have p' : s.heap.IsTuple a its.toArray := p
    obtain ⟨f0, f1, f2, f3, f4, f5⟩ := hf it (List.mem_cons_of_mem _ List.mem_cons_self)
    have hl := rv.length
    unfold pyNext
    refine wpAny_bind (wpAny_attempt (wpAny_callSpecial?_slot (name := Str.ofString "__next__") ⟨_, en, rfl⟩ F.slot_enumerate_next (wpAny_call_entry F.slot_enumerate_next ⟨_, en, rfl⟩ F.entry_enumerate_next ?_ (F.args_enumerate_next_1 _))))
    show wpAny _ _ (field (.ref e) 2 >>= _) _ _ _
    refine wpAny_bind (wpAny_field en rfl (x := .ref it) rfl ?_)
    refine wpAny_bind (wpAny_nextOf_tuple_end (I.ok.hd hc) ti p' (by simp; omega) fun h' x eb ⟨o, ho, hcl⟩ => ?_)
    refine wpAny_bind (wpAny_isInstance (T := "StopIteration") (b := true) ⟨o, ho, hcl⟩ isSubtype_stop ?_)
    exact wpAny_pure ⟨rfl, I.turned (t' := s.toks) (fun b ob hb q => eb b ob hb q) f0 f1 f3 f4 f5⟩
  self := fun A i s Q E ⟨⟨_, en⟩, _⟩ h => wpAny_pyIter_enum en h
section
variable {X : Cx}
theorem pi_enumT {e : Expr} {ta : TA} {p pos tpos : Pos} {elts : List Expr} {kk : Nat} (hg : Gl X "enumerate") (hm : X.mg "enumerate" = none) (ha : PA X [e] ta) (hs : starEach [e] X.env = [(false, eval e X.env)] := by rfl) :
    PI X (.Tuple elts kk tpos) (.Call (.Name "enumerate" p) [e] [] pos) (fun σ H R => ta σ H fun vs H1 => ∃ a xs, vs = [.ref a] ∧ SqT X.K H1 a xs ∧ R (IteT X.K a) H1) := by
  refine ⟨fun pins s σ H R I h => Call_ (ld_blt I hg hm boot_enumerate (PyProof.Rows.callWith_type1 (thn (ha.run pos pins s σ H _ I h) fun us s1 ⟨vs, H1, I1, r1, a, xs, ex, sq, q⟩ => ?_) hs rfl))⟩
  subst ex
  obtain ⟨u, rfl, ru⟩ := vals1 r1
  cases ru
  obtain ⟨its, rv, pt, hz⟩ := I1.tuple sq
  refine call_enum1 (begins_tuple a its.toArray) (show s1.heap.IsTuple a its.toArray from pt) fun h' en hti hk => wpAny_pyIter_enum en ?_
  have I2 : Inv X pins σ H1 { s1 with heap := h' } := I1.kept (t' := s1.toks) hk
  refine ⟨s1.heap.objs.size + 1, [s1.heap.objs.size + 1, s1.heap.objs.size], _, _, H1, rfl, I2, turn_enumT a (s1.heap.objs.size + 1) s1.heap.objs.size, ⟨⟨.none, en⟩, ⟨_, hti, rfl, rfl⟩, Nat.succ_ne_self _⟩, fun b hb => ?_, q⟩
  have lb : s1.heap.objs.size ≤ b := by
    rcases List.mem_cons.mp hb with z | z
    · rw [z]; exact Nat.le_add_right _ _
    · rw [List.mem_singleton.mp z]; exact Nat.le_refl _
  exact I1.fpOk lb (I1.hok.fresh lb)
/-- i, x of enumerate(t) -/
theorem pairUp_get : ∀ {ds : List D} {n i : Nat} {d : D}, (pairUp n ds)[i]? = some d → ∃ x, ds[i]? = some x ∧ d = .tup [.int ((n + i : Nat) : Int), x]
  | [], n, i, d, h => by simp [pairUp] at h
  | a :: as, n, 0, d, h => ⟨a, rfl, (Option.some.inj (show some (D.tup [.int (n : Int), a]) = some d from h)).symm⟩
  | a :: as, n, i + 1, d, h => by
    obtain ⟨x, h1, h2⟩ := pairUp_get (ds := as) (n := n + 1) (i := i) (show (pairUp (n + 1) as)[i]? = some d from h)
    exact ⟨x, h1, by rw [h2]; congr 4; omega⟩
theorem pairUp_len : ∀ (ds : List D) (n : Nat), (pairUp n ds).length = ds.length
  | [], _ => rfl
  | _ :: ds, n => congrArg Nat.succ (pairUp_len ds (n + 1))
def asEnT : List D → Option (List D) | [.tup ds] => some (pairUp 0 ds) | _ => none
theorem di_enumT {e : Expr} {fa : FA} {p pos tpos : Pos} {elts : List Expr} {kk : Nat} (hg : Gl X "enumerate") (hm : X.mg "enumerate" = none) (ha : DA X [e] fa) (hs : starEach [e] X.env = [(false, eval e X.env)] := by rfl) :
    DIR X (RepI X.K) (.Tuple elts kk tpos) (.Call (.Name "enumerate" p) [e] [] pos) (iOfA asEnT fa) := weakI (pi_enumT hg hm ha hs) fun σ H R hh => by
  obtain ⟨r, env, st, ds, st', he, hs, hf, q⟩ := hh
  obtain ⟨xs, h1, h2⟩ := iOfA_some hf
  refine ⟨r, env, st, xs, st', he, hs, h1, fun v r1 H1 e1 q1 p1 => ?_⟩
  unfold asEnT at h2
  split at h2
  · rename_i as
    cases h2
    obtain ⟨u, rfl, pa⟩ := lst1 p1
    obtain ⟨a', us, rfl, sa, la⟩ := pa.sqT
    refine ⟨a', us, rfl, sa, q _ r1 H1 e1 q1 fun r2 H2 st2 e2 s2 => ?_⟩
    obtain ⟨c, us2, ec, sa2, la2⟩ := (pa.ext e2).sqT
    cases ec
    refine ⟨fun i hi => ⟨us2, sa2, by rw [pairUp_len] at hi; rw [la2.len]; exact hi⟩, fun i d hd => ?_⟩
    obtain ⟨x, hx, ed⟩ := pairUp_get hd
    obtain ⟨vx, hvx, rx⟩ := la2.get hx
    refine ⟨⟨us2, vx, sa2, hvx⟩, fun v H3 ⟨T, x', ev, hT, eH, w1⟩ => ?_⟩
    subst ev
    subst eH
    have ex : x' = vx := by
      have := w1 us2 sa2
      rw [hvx] at this
      exact (Option.some.inj this).symm
    subst ex
    have sm : Same H2 (upd H2 T (.tup [.int (i : Nat), x'])) := same_alloc hT
    exact ⟨r2, s2.ext sm, s2.same sm, T, [.int (i : Nat), x'], [.int (i : Nat), x], rfl, by rw [ed, Nat.zero_add], .inl (.inl upd_same), .cons (.int _) (.cons (rx.ext (s2.ext sm)) .nil)⟩
  · cases h2
end
end DL
/-! The order of nested tuples: the first place that differs decides, none behind it is asked. -/
namespace DL
open PySem PySem.Spec PyProof.Rows L2 TL
section
open PySem.AutoSeq1 (wpAny_loadPart')
open PySem.MeetsSeq PySem.MeetsSeq2 PySem.MeetsSeq3 PySem.SeqAt
/-- two rows in order, place by place -/
inductive LexAt (A : Around) (s : Shared) : List Value → List Value → Bool → Prop
  | nil2 : LexAt A s [] [] false
  | nilL {u : Value} {us : List Value} : LexAt A s [] (u :: us) true
  | nilR {v : Value} {vs : List Value} : LexAt A s (v :: vs) [] false
  | diff {v u : Value} {vs us : List Value} {k : Bool} : EqAt A s v u false → RcLt A s v u k → LexAt A s (v :: vs) (u :: us) k
  | same {v u : Value} {vs us : List Value} {k : Bool} : EqAt A s v u true → LexAt A s vs us k → LexAt A s (v :: vs) (u :: us) k
theorem tup_lex {p q : Addr} {xs ys : Array Value} {n1 n2 : Nat} {d1 d2 : Option Addr} {t1 t2 : Array (Option Value)} {k : Bool} : Meets (Builtin.«tuple.__lt__» ⟨[.ref p, .ref q], []⟩) (fun A R s =>
    s.heap.get? p = some ⟨.type "tuple", d1, .seq xs n1, t1⟩ ∧ s.heap.get? q = some ⟨.type "tuple", d2, .seq ys n2, t2⟩ ∧ LexAt A.in1 s xs.toList ys.toList k ∧ R (.ok (.ret (.bool k))) s) := .of_wp fun P w A R s hh => by
  obtain ⟨hp, g, d, tk, os⟩ := s
  obtain ⟨g1, g2, lex, done⟩ := hh
  have sub := AutoSeq1.sub_tuple_tuple
  wp_walk using wpAny_loadPart' g1, wpAny_loadPart' g2, wpAny_forIn_list _ (fun todo acc now => acc.1 = none ∧ now = ⟨hp, g, d, tk, os⟩ ∧ ∃ (i : Nat) (vs us : List Value), todo = vs.zip us ∧ xs.size = i + vs.length ∧ ys.size = i + us.length ∧ LexAt A.in1 ⟨hp, g, d, tk, os⟩ vs us k) _
  case turn =>
    rintro ⟨y, x⟩ todo acc now ⟨e1, rfl, i, vs, us, hz, l1, l2, lx⟩
    cases lx with
    | nil2 => cases hz
    | nilL => cases hz
    | nilR => cases hz
    | diff de dr =>
      injection hz with h1 h2
      injection h1 with h3 h4
      subst h3 h4
      refine wpAny_bind (de P w _ _ ?_)
      have ask := dr P w
      wp_walk using ask
      exact ⟨_, rfl, done⟩
    | same se lr =>
      injection hz with h1 h2
      injection h1 with h3 h4
      subst h3 h4
      refine wpAny_bind (se P w _ _ ?_)
      wp_walk
      exact ⟨rfl, rfl, i + 1, _, _, h2, by rw [l1, List.length_cons]; omega, by rw [l2, List.length_cons]; omega, lr⟩
  case fin =>
    rintro ⟨b1, b2⟩ now ⟨e1, rfl, i, vs, us, hz, l1, l2, lx⟩
    simp only at e1
    subst e1
    have hk : k = decide (xs.size < ys.size) := by
      cases lx with
      | nil2 => simp only [List.length_nil] at l1 l2; rw [l1, l2]; simp
      | nilL => simp only [List.length_nil, List.length_cons] at l1 l2; rw [l1, l2]; simp
      | nilR => simp only [List.length_nil, List.length_cons] at l1 l2; rw [l1, l2]; simp
      | diff de dr => cases hz
      | same se lr => cases hz
    wp_walk
    exact ⟨_, rfl, by simpa [Builtin.Tuple.tupleCompareSizes, ← hk] using done⟩
  case h =>
    exact ⟨rfl, rfl, 0, xs.toList, ys.toList, rfl, by simp, by simp, lex⟩
end
/-! the order of data -/
mutual
def pyLt : PyData → PyData → Option Bool
  | .int a, .int b => some (decide (a < b))
  | .str a, .str b => some (decide (a.cps.toList < b.cps.toList))
  | .tuple xs, .tuple ys => pyLtL xs ys
  | _, _ => none
def pyLtL : List PyData → List PyData → Option Bool
  | [], [] => some false
  | [], _ :: _ => some true
  | _ :: _, [] => some false
  | x :: xs, y :: ys => if PyData.eqv x y = true then pyLtL xs ys else pyLt x y
end
theorem pyLt_tup (xs ys : List PyData) : pyLt (.tuple xs) (.tuple ys) = pyLtL xs ys := by rw [pyLt]
theorem pyLtL_cons (x y : PyData) (xs ys : List PyData) : pyLtL (x :: xs) (y :: ys) = if PyData.eqv x y = true then pyLtL xs ys else pyLt x y := by rw [pyLtL]
/-- what may be compared -/
inductive PyLt : PyData → PyData → Bool → Prop
  | int (a b : Int) : PyLt (.int a) (.int b) (decide (a < b))
  | str (a b : Str) : PyLt (.str a) (.str b) (decide (a.cps.toList < b.cps.toList))
  | tup {xs ys : List PyData} {k : Bool} : pyLtL xs ys = some k → PyLt (.tuple xs) (.tuple ys) k
theorem pyLt_inv {dx dy : PyData} {k : Bool} (e : pyLt dx dy = some k) : PyLt dx dy k := by
  unfold pyLt at e
  split at e
  · cases e; exact .int _ _
  · cases e; exact .str _ _
  · exact .tup e
  · cases e
theorem lex_of (A : Around) (s : Shared) (ok : PyData → PyData → Prop) (hlt : ∀ (x y : PyData) (v u : Value) (as bs : List Addr) (k : Bool), ok x y → Reads s.heap v x as → Reads s.heap u y bs → pyLt x y = some k → SeqAt.RcLt A s v u k)
    (heq : ∀ (x y : PyData) (v u : Value) (as bs : List Addr), ok x y → Reads s.heap v x as → Reads s.heap u y bs → SeqAt.EqAt A s v u (PyData.eqv x y)) :
    ∀ (xs ys : List PyData) (vs us : List Value) (as bs : List Addr) (k : Bool), (∀ x ∈ xs, ∀ y ∈ ys, ok x y) → ReadsAll s.heap vs xs as → ReadsAll s.heap us ys bs → pyLtL xs ys = some k → LexAt A s vs us k := by
  intro xs
  induction xs with
  | nil =>
    intro ys vs us as bs k _ r1 r2 e
    cases r1
    cases ys with
    | nil =>
      cases r2
      rw [pyLtL] at e
      cases e
      exact .nil2
    | cons y ys =>
      cases r2
      rw [pyLtL] at e
      cases e
      exact .nilL
  | cons x xs ih =>
    intro ys vs us as bs k o r1 r2 e
    cases r1 with
    | cons a1 b1 =>
    cases ys with
    | nil =>
      cases r2
      rw [pyLtL] at e
      cases e
      exact .nilR
    | cons y ys =>
      cases r2 with
      | cons a2 b2 =>
      rw [pyLtL_cons] at e
      have oxy := o x List.mem_cons_self y List.mem_cons_self
      have eq := heq x y _ _ _ _ oxy a1 a2
      by_cases z : PyData.eqv x y = true
      · rw [if_pos z] at e
        rw [z] at eq
        exact .same eq (ih ys _ _ _ _ k (fun x hx y hy => o x (List.mem_cons_of_mem _ hx) y (List.mem_cons_of_mem _ hy)) b1 b2 e)
      · rw [if_neg z] at e
        simp only [Bool.not_eq_true] at z
        rw [z] at eq
        exact .diff eq (hlt x y _ _ _ _ k oxy a1 a2 e)
theorem canLay_mem : ∀ {xs : List PyData}, PyData.canLayAll0 xs = true → ∀ x ∈ xs, x.canLay0 = true
  | [], _, x, h => by cases h
  | y :: ys, c, x, h => by
    rw [PyData.canLayAll0] at c
    obtain ⟨c1, c2⟩ := Bool.and_eq_true_iff.mp c
    rcases List.mem_cons.mp h with e | h
    · rw [e]; exact c1
    · exact canLay_mem c2 x h
theorem depth_mem : ∀ {xs : List PyData}, ∀ x ∈ xs, x.depth ≤ PyData.depthAll xs
  | [], x, h => by cases h
  | y :: ys, x, h => by
    rw [PyData.depthAll]
    rcases List.mem_cons.mp h with e | h
    · rw [e]; exact Nat.le_max_left _ _
    · exact Nat.le_trans (depth_mem x h) (Nat.le_max_right _ _)
theorem rcLt_n : ∀ (n : Nat) (dx dy : PyData) (A : Around) (s : Shared) (v u : Value) (as bs : List Addr) (k : Bool), dx.depth ≤ n → Reads s.heap v dx as → Reads s.heap u dy bs → dx.canLay0 = true → dy.canLay0 = true → A.units + n < cLine → pyLt dx dy = some k → SeqAt.RcLt A s v u k := by
  intro n
  induction n with
  | zero =>
    intro dx dy A s v u as bs k hd r1 r2 c1 c2 hu e
    cases pyLt_inv e with
    | int a b =>
      cases r1
      cases r2
      exact fun _ _ _ _ h => PyProof.Rows.lt_int h
    | str a b =>
      cases r1
      cases r2
      exact fun _ _ _ _ h => PySem.P.lt_str h
    | tup e2 =>
      rw [PyData.depth] at hd
      exact absurd hd (by omega)
  | succ n ih =>
    intro dx dy A s v u as bs k hd r1 r2 c1 c2 hu e
    cases pyLt_inv e with
    | int a b =>
      cases r1
      cases r2
      exact fun _ _ _ _ h => PyProof.Rows.lt_int h
    | str a b =>
      cases r1
      cases r2
      exact fun _ _ _ _ h => PySem.P.lt_str h
    | tup e2 =>
      rename_i xs ys
      rw [PyData.depth] at hd
      rw [PyData.canLay0] at c1 c2
      cases r1 with
      | tuple ho hc hdd ra =>
      cases r2 with
      | tuple ho2 hc2 hd2 rb =>
      rename_i p o vv n1 q o2 vv2 n2
      obtain ⟨cls, dd, data, sl⟩ := o
      obtain ⟨cls2, dd2, data2, sl2⟩ := o2
      simp only at hc hdd hc2 hd2
      subst hc hdd hc2 hd2
      have hu' : A.in1.units + n < cLine := by
        show A.units + 1 + n < cLine
        omega
      have lx := lex_of A.in1 s (fun x y => x ∈ xs ∧ y ∈ ys) (fun x y v u as bs k o a1 a2 e => ih x y A.in1 s v u as bs k (Nat.le_trans (depth_mem x o.1) (by omega)) a1 a2 (canLay_mem c1 x o.1) (canLay_mem c2 y o.2) hu' e)
        (fun x y v u as bs o a1 a2 => SeqAt.eqAt_reads x y A.in1 s v u as bs a1 a2 (canLay_mem c1 x o.1) (canLay_mem c2 y o.2) (by
          have h1 := depth_mem x o.1
          have h2 := Nat.min_le_left x.depth y.depth
          omega)) xs ys _ _ _ _ k (fun x hx y hy => ⟨hx, hy⟩) ra rb e2
      exact fun P w E Q h => richCompare_meets_room (op := .Lt) ⟨_, ho, rfl⟩ ⟨_, ho2, rfl⟩ PySem.F.slot_tuple_lt PySem.F.entry_tuple_lt (PySem.F.args_tuple_lt_2 _ _) tup_lex ⟨ho, ho2, lx, ⟨(fun x => nomatch x), h⟩⟩ (by omega)
theorem rcLt_py (dx dy : PyData) (A : Around) (s : Shared) (v u : Value) (as bs : List Addr) (k : Bool) (r1 : Reads s.heap v dx as) (r2 : Reads s.heap u dy bs) (c1 : dx.canLay0 = true) (c2 : dy.canLay0 = true) (hu : A.units + dx.depth < cLine) (e : pyLt dx dy = some k) : SeqAt.RcLt A s v u k :=
  rcLt_n dx.depth dx dy A s v u as bs k (Nat.le_refl _) r1 r2 c1 c2 hu e
section
variable {X : Cx}
/-- a < b of nested data -/
def ltN : D → D → Option D := fun a b => (toPy a).bind fun p => (toPy b).bind fun q => if SeqAt.shaped p = true ∧ SeqAt.shaped q = true then (pyLt p q).map .bl else none
theorem op_ltN (hu : X.A.units + 64 < cLine) : OpR X (compareOp .Lt) (fun x y H Q => ∃ p q k, Dp X.K H x p ∧ Dp X.K H y q ∧ SeqAt.shaped p = true ∧ SeqAt.shaped q = true ∧ pyLt p q = some k ∧ Q (.bl k) H) := by
  intro pins s σ H x y v u Q I rx ry h
  obtain ⟨p, q, k, hp, hq, sp, sq, hk, hQ⟩ := h
  obtain ⟨as, r1⟩ := Dp.reads I p x v hp rx
  obtain ⟨bs, r2⟩ := Dp.reads I q y u hq ry
  have dp := SeqAt.depth_of_shaped sp
  exact rcLt_py p q X.A s v u as bs k r1 r2 (SeqAt.canLay_of_shaped sp) (SeqAt.canLay_of_shaped sq) (by omega) hk X.prog X.w _ _ ⟨.bl k, H, I, rfl, hQ⟩
theorem ok_ltN {k : Nat} (g : GX X k) : OpOk X (compareOp .Lt) ltN := ⟨_, op_ltN (by have := g.room.un; omega), fun rho H x y a b d st Q si ra rb e q => by
  obtain ⟨p, h1, h2⟩ := Option.bind_eq_some_iff.mp e
  obtain ⟨p2, h3, h4⟩ := Option.bind_eq_some_iff.mp h2
  by_cases z : SeqAt.shaped p = true ∧ SeqAt.shaped p2 = true
  · rw [if_pos z] at h4
    obtain ⟨k, h5, h6⟩ := Option.map_eq_some_iff.mp h4
    subst h6
    exact ⟨p, p2, k, ra.dp h1, rb.dp h3, z.1, z.2, h5, q _ H (fun _ _ h => h) (.bl k)⟩
  · rw [if_neg z] at h4
    cases h4⟩
/-! bool - bool -/
theorem sub_bb (a b : Bool) : Gives (Builtin.«int.__sub__» ⟨[.bool a, .bool b], []⟩) (.int ((if a = true then (1 : Int) else 0) - if b = true then (1 : Int) else 0)) :=
  .of_wp fun M A E s Q h => by
  obtain ⟨hp, g, d, tk, os⟩ := s
  wp_walk
  exact ⟨_, rfl, h⟩
def subB : D → D → Option D := fun a b => match a, b with | .bl x, .bl y => some (.int ((if x = true then (1 : Int) else 0) - if y = true then (1 : Int) else 0)) | _, _ => none
theorem op_subB : OpR X (binaryOp .Sub) (fun x y H Q => ∃ a b, x = .bl a ∧ y = .bl b ∧ Q (.int ((if a = true then (1 : Int) else 0) - if b = true then (1 : Int) else 0)) H) := by
  intro pins s σ H x y v u Q I rx ry h
  obtain ⟨a, b, rfl, rfl, q⟩ := h
  cases rx
  cases ry
  exact binaryOp_gives (op := .Sub) (T := "bool") rfl rfl F.fills_bool_sub F.slot_bool_sub F.entry_int_sub (F.args_int_sub_2 _ _) (sub_bb a b) trivial ⟨.int _, H, I.tok _, ⟨_, rfl⟩, q⟩
theorem ok_subB : OpOk X (binaryOp .Sub) subB := ⟨_, op_subB, fun rho H x y a b d st Q si ra rb e q => by
  unfold subB at e
  split at e
  · cases e
    cases ra
    cases rb
    exact ⟨_, _, rfl, rfl, q _ H (fun _ _ h => h) (.int _)⟩
  · cases e⟩
/-! ==, != where a list of the store stands on a side -/
end
end DL
/-! Lists that are written no more become values; zip of such lists. -/
namespace DL
open PySem PySem.Spec PyProof.Rows L2
section
variable {X : Cx} {W : WXd} {tg iter : Expr}
theorem Rep.sqLv {K : PySem.W.Frag} {r : Rf} {H : Hp} {v : V} {ds : List D} (h : Rep K r H v (.lst ds)) : ∃ a xs, v = .ref a ∧ SqL K H a xs ∧ RepL K r H xs ds := by
  cases h with
  | lst a b c => exact ⟨_, _, rfl, .of a, c⟩
/-- local i's list is a value from here on -/
def sFrzL (i : Nat) : FS := fun env st => match env[i]? with
  | some (some (.ref n)) => (match st[n]? with | some (.lst ds) => some (.nx, env.set i (some (.lst ds)), st.set n .dead) | _ => none)
  | _ => none
theorem ds_frzL (i : Nat) {s : Stmt} {g : FS} (h : DS X W s g) : DS X W s (sSeq (sFrzL i) g) := weakS h fun D' σ H hh => by
  obtain ⟨r, env, st, o, env', st', he, hs, hf, q⟩ := hh
  obtain ⟨⟨o1, e1, s1⟩, h1, h2⟩ := Option.bind_eq_some_iff.mp hf
  unfold sFrzL at h1
  split at h1
  · rename_i n hn
    split at h1
    · rename_i ds hst
      cases h1
      obtain ⟨v, hv, rv⟩ := he.at_ i _ hn
      obtain ⟨a, rfl, ha⟩ := rv.refI
      obtain ⟨av, xs, hx, l⟩ := hs.ob _ a _ ha hst
      have ex := drop_ext (H := H) (List.mem_of_getElem? ha)
      have na : ¬ (r.drop a).av a := fun z => z.2 rfl
      have he2 := (he.ext ex).set (Rep.lst hx na (l.ext ex)) i
      have es : σ.set i (some (V.ref a)) = σ := by
        refine List.ext_getElem? fun j => ?_
        by_cases z : i = j
        · subst z
          rw [List.getElem?_set_self (List.getElem?_eq_some_iff.mp hv).1, hv]
        · rw [List.getElem?_set_ne z]
      rw [es] at he2
      exact ⟨_, _, _, o, env', st', he2, drop_sim hs ha, h2, q.ext ex⟩
    · cases h1
  · cases h1
end
end DL
/-! Sets of ints that live for one expression: how many they are, in order. -/
namespace DL
open PySem PySem.Spec PyProof.Rows L2
section
variable {X : Cx}
/-! ### ints -/
/-! ### sorted(set(t)), t a tuple of ints -/
def ins (k : Int) : List Int → List Int
  | [] => [k]
  | a :: l => if k < a then k :: a :: l else if k = a then a :: l else a :: ins k l
/-! ### tuple(range(n)) -/
/-! ### x in xs, xs a list of the store -/
end
end DL
/-! Dicts: frozen, read, walked, locked and walked, comprehended, copied, sorted. -/
namespace DL
open PySem PySem.Spec PyProof.Rows L2 TL
variable {K : PySem.W.Frag}
/-! ### what a dict holds -/
def dctAt : D → Store → Option (List (Key × D)) := fun d st => match d with
  | .dct kvs => some kvs
  | .ref n => (match st[n]? with | some (.dct kvs) => some kvs | some (.ldc kvs) => some kvs | _ => none)
  | _ => none
def dropD (kvs : List (Key × D)) (k : Key) : List (Key × D) := kvs.filter fun kv => decide (kv.1 ≠ k)
theorem RepK.drop {r : Rf} {H : Hp} {k : Key} : ∀ {vs : List (Key × V)} {ds : List (Key × D)}, RepK K r H vs ds → RepK K r H (dropK vs k) (dropD ds k)
  | _, _, .nil => .nil
  | _, _, .cons (k := k0) a b => by
    unfold dropK dropD
    rw [List.filter_cons, List.filter_cons]
    by_cases z : k0 = k
    · have : decide (k0 ≠ k) = false := decide_eq_false (fun q => q z)
      simp only [this]
      exact RepK.drop b
    · have : decide (k0 ≠ k) = true := decide_eq_true z
      simp only [this, if_true]
      exact .cons a (RepK.drop b)
theorem RepK.get {r : Rf} {H : Hp} : ∀ {vs : List (Key × V)} {ds : List (Key × D)}, RepK K r H vs ds → ∀ {i : Nat} {k : Key} {d : D}, ds[i]? = some (k, d) → ∃ v, vs[i]? = some (k, v) ∧ Rep K r H v d
  | _, _, .nil, i, k, d, h => by simp at h
  | _, _, .cons a b, 0, k, d, h => by
    have e := Option.some.inj h
    cases e
    exact ⟨_, rfl, a⟩
  | _, _, .cons a b, i + 1, k, d, h => RepK.get b (i := i) h
end DL
/-! t[::-1], xs[::-1]. -/
namespace DL
open PySem PySem.Spec PyProof.Rows L2 HT
section
variable {X : Cx}
theorem RepL.reverse {r : Rf} {H : Hp} {K : PySem.W.Frag} : ∀ {vs : List V} {ds : List D}, RepL K r H vs ds → RepL K r H vs.reverse ds.reverse
  | _, _, .nil => .nil
  | _, _, .cons a b => by rw [List.reverse_cons, List.reverse_cons]; exact (RepL.reverse b).append (.cons a .nil)
/-- xs[::-1] of a list by value or of the store: a new list by value -/
def lstAt : D → Store → Option (List D) := fun d st => match d with
  | .lst ds => some ds
  | .scr ns => some (ns.map D.int)
  | .ref n => (match st[n]? with | some (.lst ds) => some ds | _ => none)
  | _ => none
theorem lstRd {r : Rf} {H : Hp} {v : V} {d : D} {st : Store} {ds : List D} {K : PySem.W.Frag} (h : Rep K r H v d) (si : Sim K r H st) (e : lstAt d st = some ds) : ∃ a xs, v = .ref a ∧ SqL K H a xs ∧ RepL K r H xs ds := by
  unfold lstAt at e
  split at e
  · cases e
    exact h.sqLv
  · cases e
    obtain ⟨a, rfl, h2⟩ := h.scrL
    exact ⟨a, _, rfl, h2, .ofInts _⟩
  · rename_i n
    split at e
    · rename_i es hst
      cases e
      obtain ⟨a, rfl, ha⟩ := h.refI
      obtain ⟨av, xs, hx, l⟩ := si.ob _ a _ ha hst
      exact ⟨a, xs, rfl, .of hx, l⟩
    · cases e
  · cases e
def fRevL (f : F) : F := fun env st => (f env st).bind fun p => (lstAt p.1 p.2).map fun ds => (.lst ds.reverse, p.2)
theorem de_revL {e : Expr} {f : F} {k : Nat} {p1 p2 p3 pos : Pos} (he : DE X e f) : DE X (.Subscript e (.Slice none none (some (.UnaryOp .USub (.Constant (.int 1) k p1) p2)) p3) pos) (fRevL f) := weakE (pe_revL he) fun σ H Q hh => by
  obtain ⟨r, env, st, d, st', he, hs, hf, q⟩ := hh
  obtain ⟨⟨x, s1⟩, h1, h2⟩ := Option.bind_eq_some_iff.mp hf
  obtain ⟨ds, h3, h4⟩ := Option.map_eq_some_iff.mp h2
  cases h4
  refine ⟨r, env, st, _, _, he, hs, h1, fun v r1 H1 e1 q1 p1 => ?_⟩
  obtain ⟨a, xs, rfl, sq, l⟩ := lstRd p1 q1 h3
  exact ⟨a, xs, rfl, sq, fun p hp => q _ r1 _ (e1.trans (q1.ext (same_alloc hp))) (q1.same (same_alloc hp)) (fresh_lst q1 hp l.reverse)⟩
end
end DL
/-! o.m(), len(o) by an own __len__. -/
namespace DL
open PySem PySem.Spec PyProof.Rows L2 TL
section
variable {X : Cx} {W : WXd}
variable {k : Nat} {f C : Addr} {fd : FuncData} {ps : List Str} {mm : FM} {c m : Str} {apos pos : Pos} {o e : Expr} {es : List Expr}
/-- a def called within a built-in -/
theorem runD1 {pins : List (Addr × Obj)} {σ : L2.St} {H : Hp} {s : Shared} {Q : VK} {us : List Value} {vs : List V} {rho : Rf} {ds : List D} {st st' : Store} {d : D} {E : Value → Shared → Prop} (Fd : FnD X.prog X.w X.K X.mg X.base k f fd ps mm) (gx : GX X (k + 1)) (hb : Binds X.K fd ps [])
    (I : Inv X pins σ H s) (r : Vals vs us) (hl : vs.length = ps.length) (rd : RepL X.K rho H vs ds) (hs : Sim X.K rho H st) (hm : mm ds st = some (d, st')) (hq : ∀ v rho' H', Ext rho H rho' H' → Sim X.K rho' H' st' → Rep X.K rho' H' v d → Q v H') :
    wpAny (model X.prog X.w) X.A.in1 (call (.ref f) us) (EP X pins σ Q) E s := by
  have hu : us.length = ps.length := by rw [← r.length]; exact hl
  have hbt : BindsTo s fd ⟨us, []⟩ (ps.zip us) := by
    have := hb s us I.kIn (by rw [List.append_nil]; exact hu)
    rwa [List.append_nil] at this
  have e0 : Env0 X.prog X.w X.K X.mg X.base X.A.in1 X.stack s H := by
    have e := I.env0
    exact ⟨e.frames, e.mod, e.bs, e.bsz, e.funs, e.frf, e.hok, e.bare⟩
  refine wpAny_call (codeAny_mono (Fd.run X.A.in1 X.stack s H ⟨us, []⟩ us vs Q rho ds st st' d gx.gd gx.room.in1 e0 hbt r hl rd hs hm hq) fun z s' hz => ?_)
  cases z with
  | error e => exact False.elim hz
  | ok fl =>
    cases fl with
    | ret u => exact I.after hz
    | next => exact False.elim hz
    | brk => exact False.elim hz
    | cont => exact False.elim hz
/-- len(o) -/
def fLenO (c : Str) (mm : FM) (fo : F) : F := fun env st => (fo env st).bind fun p => match p.1 with
  | .ref n => (insAt c n p.2).bind fun _ => (mm [.ref n] p.2).bind fun z => match z.1 with | .int i => if 0 ≤ i ∧ i < 2 ^ 62 then some (.int i, z.2) else none | _ => none
  | _ => none
theorem de_lenO {p : Pos} (hc : ClsAt X.K c C) (hs : PySem.W.findIn X.K (.ref C) "__len__" = some (some (.ref f))) (hfn : PySem.W.typeIn X.K (.ref f) = some (.type "function")) (Fd : FnD X.prog X.w X.K X.mg X.base k f fd ps mm) (gx : GX X (k + 1)) (hb : Binds X.K fd ps [])
    (hg : Gl X "len") (hm : X.mg "len" = none) {fo : F} (ho : DE X e fo) (hl : 1 = ps.length := by rfl) (he : starEach [e] X.env = (false, eval e X.env) :: starEach [] X.env := by rfl) : DE X (.Call (.Name "len" p) [e] [] pos) (fLenO c mm fo) := by
  let rr : List V → Hp → VK → Prop := fun xs H Q => ∃ a dx fs rho n st z st', xs = [.ref a] ∧ H a = some (.ins C dx fs) ∧ rho.adr[n]? = some a ∧ Sim X.K rho H st ∧ mm [.ref n] st = some (.int z, st') ∧ 0 ≤ z ∧ z < 2 ^ 62 ∧ ∀ rho' H', Ext rho H rho' H' → Sim X.K rho' H' st' → Q (.int z) H'
  have hr : CallR X (.builtin "len") rr := by
    intro pins s σ H xs us Q I r h
    obtain ⟨a, dx, fs, rho, n, st, z, st', rfl, ha, hn, hsim, hm, z0, z1, q⟩ := h
    obtain ⟨u, rfl, rx⟩ := vals1 r
    obtain rfl : u = Value.ref a := rx
    obtain ⟨mA, J, _⟩ := ins_get I.hok ha
    obtain ⟨od, J, _⟩ := J.look
    have sp : PySem.W.Looks (model X.prog X.w) s.heap (specialOf (.ref a) "__len__") (some (.ref f)) := J.type.andThen (PySem.W.looks_findIn I.kIn hs)
    refine Calls.call_function_entry kind_len plain_len entry_len (args_len1 _) ?_
    unfold Builtin.«len»
    refine wpAny_bind (m := oneArg "len" _) (wpAny_pure ?_)
    have hc : ∀ {Q' : Option Value → Shared → Prop} {E : Value → Shared → Prop}, wpAny (model X.prog X.w) X.A.in1 (call (.ref f) [.ref a]) (fun v s' => Q' (some v) s') E s → wpAny (model X.prog X.w) X.A.in1 (callSpecial? (.ref a) "__len__") Q' E s := fun q => by
      unfold callSpecial?
      refine wpAny_bind (sp.here ?_)
      refine wpAny_holding ?_
      refine wpAny_bind ((PySem.W.bind_fn I.kIn _ hfn).here ?_)
      exact wpAny_bind (wpAny_mono q (fun v s' z => wpAny_pure z) fun _ _ z => z)
    refine wpAny_bind (m := callSpecial? (.ref a) (PySem.Str.ofString "__len__")) (hc (wpAny_mono (runD1 (Q := fun v H' => v = .int z ∧ Q (.int z) H') (us := [.ref a]) (vs := [.ref a]) Fd gx hb I (.cons rfl .nil) hl (.cons (.ref hn) .nil) hsim hm fun v r3 H3 e3 q3 p3 => ?_) (fun v s' hv => ?_) fun _ _ x => x))
    · cases p3
      exact ⟨rfl, q r3 H3 e3 q3⟩
    · obtain ⟨x, H', I', rx, rfl, q'⟩ := hv
      obtain ⟨t, rfl⟩ := rx
      refine wpAny_bind (wpAny_holding (wpAny_pure ?_))
      refine wpAny_bind (wpAny_letGo ?_)
      show wpAny _ _ (if z < 0 then _ else _) _ _ _
      rw [if_neg (by omega)]
      show wpAny _ _ (if z ≥ 2 ^ 63 then _ else _) _ _ _
      rw [if_neg (by omega)]
      exact wpAny_bind (wpAny_mkInt (wpAny_pure ⟨_, rfl, .int z, H', I'.tok _, ⟨_, rfl⟩, q'⟩))
  exact weakE (pe_callB hr hg hm (by decide +kernel) (pa_cons ho pa_nil he) (he := he)) fun σ H Q hh => by
    obtain ⟨r, env, st, d, st', he, hs, hf, q⟩ := hh
    obtain ⟨⟨x, s1⟩, h1, h2⟩ := Option.bind_eq_some_iff.mp hf
    cases x with
    | ref n =>
      obtain ⟨fs, h3, h4⟩ := Option.bind_eq_some_iff.mp (show ((insAt c n s1).bind fun _ => (mm [.ref n] s1).bind fun z => match z.1 with | .int i => if 0 ≤ i ∧ i < 2 ^ 62 then some (D.int i, z.2) else none | _ => none) = some (d, st') from h2)
      obtain ⟨⟨z, s2⟩, h5, h6⟩ := Option.bind_eq_some_iff.mp h4
      cases z with
      | int i =>
        have h6' : (if 0 ≤ i ∧ i < 2 ^ 62 then some (D.int i, s2) else none) = some (d, st') := h6
        by_cases hi : 0 ≤ i ∧ i < 2 ^ 62
        case neg => rw [if_neg hi] at h6'; cases h6'
        rw [if_pos hi] at h6'
        cases h6'
        refine ⟨r, env, st, _, s1, he, hs, h1, fun v r1 H1 e1 q1 p1 => ?_⟩
        obtain ⟨a, rfl, hadr⟩ := p1.refI
        obtain ⟨av, C', dx, vs, hn', hx, nm, l⟩ := q1.ob _ a _ hadr (insAt_some h3)
        rw [hc.at_] at hn'
        cases hn'
        exact ⟨a, dx, vs, r1, n, s1, i, _, rfl, hx, hadr, q1, h5, hi.1, hi.2, fun rho' H' e' s' => q _ rho' H' (e1.trans e') s' (.int i)⟩
      | _ => cases h6
    | _ => cases h2
end
end DL
/-! sorted(d.items()), d's keys ints. -/
namespace DL
open PySem PySem.Spec PyProof.Rows L2 Srt SrtO L2.DX
/-! the order -/
/-! tuples (int, thing), by the int -/
section
variable {prog : Program} {w : World} {A : Around} {E : Value → Shared → Prop} {s : Shared}
def IsIt (h : Heap) (v : Value) (x : Int) (z : Value) : Prop := ∃ a o t n, v = .ref a ∧ h.get? a = some o ∧ o.cls = .type "tuple" ∧ o.data = .seq #[.int x t, z] n
theorem IsIt.keeps {h h' : Heap} {v z : Value} {x : Int} (p : IsIt h v x z) (k : ∀ b o, h.get? b = some o → o.cls = .type "tuple" → h'.get? b = some o) : IsIt h' v x z := by
  obtain ⟨a, o, t, n, e, ho, hc, hd⟩ := p
  exact ⟨a, o, t, n, e, k _ _ ho hc, hc, hd⟩
end
end DL
/-! Dicts and lists of the store: copies, keys, sorted, clear, insert. -/
namespace DL
open PySem PySem.Spec PyProof.Rows L2 L2.DX
variable {K : PySem.W.Frag}
/-- a new object of the store -/
theorem newOb {r : Rf} {H : Hp} {st : Store} {p : Addr} {o : HO} {ob : Ob} (hs : Sim K r H st) (hp : H p = none) (hob : ∀ r' H', Ex r H r' H' → r'.av p → H' p = some o → ObR K r' H' p ob) :
    ∃ r', Ext r H r' (upd H p o) ∧ Sim K r' (upd H p o) (st ++ [ob]) ∧ Rep K r' (upd H p o) (.ref p) (.ref st.length) := by
  obtain ⟨e0, hd0⟩ := hideNew (o := o) hs hp
  have ex : Ex (r.hide p) (upd H p o) ((r.hide p).add p) (upd (upd H p o) p o) := ⟨⟨[p], rfl⟩, fun q x z n => by rw [upd_upd]; exact z, fun q z n => absurd z n⟩
  obtain ⟨w1, w2, w3⟩ := hd0.add (o := o) (ob := ob) e0 hs hp (hob _ _ (e0.toEx.trans ex) hd0.av upd_same)
  rw [upd_upd] at w1 w2 w3
  exact ⟨_, w1, w2, w3 _ rfl⟩
theorem newLst {r : Rf} {H : Hp} {st : Store} {p : Addr} {xs : List V} {ds : List D} (hs : Sim K r H st) (hp : H p = none) (l : RepL K r H xs ds) :
    ∃ r', Ext r H r' (upd H p (.lst xs)) ∧ Sim K r' (upd H p (.lst xs)) (st ++ [.lst ds]) ∧ Rep K r' (upd H p (.lst xs)) (.ref p) (.ref st.length) :=
  newOb hs hp fun _ _ e v h => ⟨v, _, h, l.ex e⟩
section
variable {X : Cx} {W : WXd}
/-! ### dict(d) -/
/-! ### list(d): the keys -/
/-! ### sorted(d), the keys ints -/
def intKs : List (Key × D) → Option (List Int)
  | [] => some []
  | (.inl i, _) :: l => (intKs l).map (i :: ·)
  | _ :: _ => none
/-! ### sorted(d.items()) -/
/-! ### d.clear() -/
/-! ### xs.insert(i, x) -/
def insAtL (xs : List D) (i : Int) (d : D) : List D := xs.take i.toNat ++ [d] ++ xs.drop i.toNat
def fIns (fo fi fe : F) : F := fun env st => (fo env st).bind fun p => match p.1 with
  | .ref n => if isLs p.2[n]? = true then (fi env p.2).bind fun q => (fe env q.2).bind fun w => match q.1, w.2[n]? with
    | .int i, some (.lst xs) => if xs.length < sizeLine ∧ 0 ≤ i ∧ i < 2 ^ 62 then some (.non, w.2.set n (.lst (insAtL xs i w.1))) else none
    | _, _ => none else none
  | _ => none
theorem RepL.insAt {r : Rf} {H : Hp} {vs : List V} {ds : List D} {v : V} {d : D} (l : RepL K r H vs ds) (q : Rep K r H v d) (i : Nat) : RepL K r H (vs.take i ++ [v] ++ vs.drop i) (ds.take i ++ [d] ++ ds.drop i) := ((l.take i).append (.cons q .nil)).append (l.drop i)
theorem de_insert {o i e : Expr} {fo fi fe : F} {apos cpos : Pos} (ho : DE X o fo) (hi : DE X i fi) (hv : DE X e fe) (hbase : attributeBase o "insert" X.env (eval o X.env) = eval o X.env := by rfl)
    (hfew : ((backTo cpos (starEach [i, e] X.env)).all (fun x => !x.1) && (backToKw cpos (keywordEach [] X.env)).all (fun x => x.1.isSome)
      && decide (([i, e] : List Expr).length + ([] : List Keyword).length + (if ([] : List Keyword).isEmpty then 0 else 1) < 30)) = true := by rfl)
    (hline : (apos.endLine == cpos.line) = true := by rfl) (hs : starEach [i, e] X.env = (false, eval i X.env) :: starEach [e] X.env := by rfl) (hs2 : starEach [e] X.env = (false, eval e X.env) :: starEach [] X.env := by rfl) (hpl : (backTo cpos (starEach [e] X.env)).any (·.1) = false := by rfl) :
    DE X (.Call (.Attribute o "insert" apos) [i, e] [] cpos) (fIns fo fi fe) :=
  weakE (pe_bm PySem.F.plainAttrs_list PySem.F.slot_list_insert PySem.F.type_list_insert mt_insert ho (pa_cons hi (pa_cons hv pa_nil hs2) hs) hbase hfew hline hs hpl) fun σ H Q hh => by
  obtain ⟨r, env, st, d, st', he, hs, hf, q⟩ := hh
  obtain ⟨⟨x, s1⟩, h1, hf1⟩ := Option.bind_eq_some_iff.mp hf
  cases x with
  | ref n =>
    have hf1' : (if isLs s1[n]? = true then (fi env s1).bind fun q => (fe env q.2).bind fun w => match q.1, w.2[n]? with
      | .int i, some (.lst xs) => if xs.length < sizeLine ∧ 0 ≤ i ∧ i < 2 ^ 62 then some (D.non, w.2.set n (.lst (insAtL xs i w.1))) else none
      | _, _ => none else none) = some (d, st') := hf1
    by_cases hl1 : isLs s1[n]? = true
    case neg => rw [if_neg hl1] at hf1'; cases hf1'
    rw [if_pos hl1] at hf1'
    obtain ⟨⟨y, s2⟩, h2, hf2⟩ := Option.bind_eq_some_iff.mp hf1'
    obtain ⟨⟨z, s3⟩, h3, hf3⟩ := Option.bind_eq_some_iff.mp hf2
    dsimp only at hf3
    split at hf3
    · rename_i iv xs hst
      by_cases hc : xs.length < sizeLine ∧ 0 ≤ iv ∧ iv < 2 ^ 62
      case neg => rw [if_neg hc] at hf3; cases hf3
      rw [if_pos hc] at hf3
      cases hf3
      refine ⟨r, env, st, _, s1, he, hs, h1, fun v r1 H1 e1 q1 p1 => ?_⟩
      obtain ⟨a, rfl, ha⟩ := p1.refI
      refine ⟨?_, r1, env, s1, _, s2, he.ext e1, q1, h2, fun v2 r2 H2 e2 q2 p2 => ⟨r2, env, s2, z, s3, (he.ext e1).ext e2, q2, h3, fun v3 r3 H3 e3 q3 p3 => ?_⟩⟩
      · cases hq : s1[n]? with
        | none => rw [hq] at hl1; cases hl1
        | some ob =>
          rw [hq] at hl1
          cases ob with
          | lst us =>
            obtain ⟨av, ys, hx, l⟩ := q1.ob _ a _ ha hq
            exact .inl ⟨rfl, ys, .of hx⟩
          | _ => cases hl1
      · cases p2
        have ha3 := (e2.toEx.trans e3.toEx).get ha
        obtain ⟨av, ys, hx, l⟩ := q3.ob _ a _ ha3 hst
        refine ⟨a, ys, iv, v3, rfl, rfl, hx, by rw [l.len]; exact hc.1, hc.2.1, Int.lt_trans hc.2.2 (by decide), ?_⟩
        have ee : Ex r3 H3 r3 (upd H3 a (.lst (ys.take iv.toNat ++ [v3] ++ ys.drop iv.toNat))) := ⟨⟨[], by simp⟩, fun b o w m => by rw [upd_ne (fun y => m (by rw [y]; exact av))]; exact w, fun b w m => absurd w m⟩
        obtain ⟨w1, w2⟩ := q3.set (o := .lst (ys.take iv.toNat ++ [v3] ++ ys.drop iv.toNat)) (ob := .lst (insAtL xs iv z)) ha3 av ⟨av, _, upd_same, (l.insAt p3 _).ex ee⟩ (fun _ _ z => by rw [hx] at z; cases z)
        exact q _ r3 _ (((e1.trans e2).trans e3).trans w1) w2 .non
    · cases hf3
  | _ => cases hf1
end
end DL
/-! A dict of the store is locked while a statement or an expression runs. -/
namespace DL
open PySem PySem.Spec PyProof.Rows L2
end DL
/-! {k: v for x in xs if ..}: a new dict of the store. -/
namespace DL
open PySem PySem.Spec PyProof.Rows L2
variable {K : PySem.W.Frag}
theorem upd_self {H : Hp} {p : Addr} {o : HO} (h : H p = some o) : upd H p o = H := by
  funext b
  by_cases z : b = p
  · rw [z, upd_same, h]
  · rw [upd_ne z]
end DL
/-! len(set(t)) of a tuple of texts. -/
namespace DL
open PySem PySem.Spec PyProof.Rows L2
end DL
/-! == and != of dicts, list(range(n)), sorted(set(xs)) of a list of ints, d.update(e). -/
namespace DL
open PySem PySem.Spec PyProof.Rows L2 L2.DX
end DL
/-! sorted(set(xs)) of a list of ints, list(range(n)). -/
namespace DL
open PySem PySem.Spec PyProof.Rows L2 L2.DX
end DL
/-! d.update(e). -/
namespace DL
open PySem PySem.Spec PyProof.Rows L2 L2.DX
end DL
/-! a, b = xs, xs a list by value. -/
namespace DL
open PySem PySem.Spec PyProof.Rows L2
end DL
/-! Sets of ints that are kept in the store: set(xs), k in s. -/
namespace DL
open PySem PySem.Spec PyProof.Rows L2
end DL
/-! xs.extend(e), min(d). -/
namespace DL
open PySem PySem.Spec PyProof.Rows L2
section
variable {X : Cx}
/-- repr(xs), xs a list of the store -/
def bReprS : List D → Store → Option D := fun ds st => match ds with
  | [.ref n] => (match st[n]? with | some (.lst xs) => bReprA [.lst xs] st | _ => none)
  | _ => none
theorem bare_ex {r : Rf} {H : Hp} : Ex r H ⟨r.adr, fun _ => False, r.lk⟩ H := ⟨⟨[], by simp⟩, fun _ _ h _ => h, fun _ h _ => h.elim⟩
theorem ok_reprS {k : Nat} (g : GX X k) : CallOk X (.builtin "repr") bReprS := ⟨_, call_reprA g, fun rho H xs ds d st Q rl si e q => by
  unfold bReprS at e
  split at e
  · rename_i n
    obtain ⟨v, rfl, p⟩ := lst1 rl
    split at e
    · rename_i ys hst
      obtain ⟨a, rfl, ha⟩ := p.refI
      obtain ⟨av, zs, hx, l⟩ := si.ob _ a _ ha hst
      unfold bReprA at e
      obtain ⟨z, h1, h2⟩ := Option.bind_eq_some_iff.mp e
      by_cases c : z.showable = true ∧ z.depth ≤ 64 ∧ z.shown.length ≤ sizeLine
      · rw [if_pos c] at h2
        cases h2
        exact ⟨⟨rho.adr, fun _ => False, rho.lk⟩, .ref a, .lst ys, z, rfl, .lst hx (fun h => h) (l.ex bare_ex), h1, c.1, c.2.1, c.2.2, q _ H (fun _ _ h => h) (.str _)⟩
      · rw [if_neg c] at h2
        cases h2
    · cases e
  · cases e⟩
def bReprAS : List D → Store → Option D := fun ds st => (bReprA ds st).or (bReprS ds st)
theorem ok_reprAS {k : Nat} (g : GX X k) : CallOk X (.builtin "repr") bReprAS := (ok_reprA g).or (ok_reprS g)
end
end DL
/-! Dicts with int keys as maps: lookups after writes, equal maps have equal items. -/
namespace DL
open PySem PySem.Spec PyProof.Rows L2
abbrev KL := List (Key × D)
def gt (l : KL) (i : Int) : Option D := valD l (.inl i)
theorem valD_nil (k : Key) : valD [] k = none := rfl
theorem valD_cons (k j : Key) (v : D) (l : KL) : valD ((k, v) :: l) j = if k = j then some v else valD l j := by
  unfold valD
  by_cases h : k = j <;> simp [List.find?_cons, h]
theorem valD_app (l m : KL) (j : Key) : valD (l ++ m) j = (valD l j).or (valD m j) := by
  induction l with
  | nil => simp [valD_nil]
  | cons p l ih =>
    obtain ⟨k, v⟩ := p
    rw [List.cons_append, valD_cons, valD_cons, ih]
    by_cases h : k = j <;> simp [h]
theorem valD_none {l : KL} {k : Key} : valD l k = none ↔ k ∉ l.map (·.1) := by
  induction l with
  | nil => simp [valD_nil]
  | cons p l ih =>
    obtain ⟨j, v⟩ := p
    rw [valD_cons]
    by_cases h : j = k
    · simp [h]
    · have h' : ¬ k = j := fun e => h e.symm
      simp only [h, if_false, ih, List.map_cons, List.mem_cons, h', false_or]
theorem valD_some {l : KL} {k : Key} {v : D} : (l.map (·.1)).Nodup → (valD l k = some v ↔ (k, v) ∈ l) := by
  induction l with
  | nil => simp [valD_nil]
  | cons p l ih =>
    obtain ⟨j, u⟩ := p
    intro nd
    have nd' := List.nodup_cons.mp (show (j :: l.map (·.1)).Nodup from nd)
    rw [valD_cons, List.mem_cons]
    by_cases h : j = k
    · subst h
      have : (j, v) ∉ l := fun m => nd'.1 (List.mem_map.mpr ⟨_, m, rfl⟩)
      simp [this, eq_comm]
    · have : (k, v) ≠ (j, u) := fun e => h (by injection e with a b; exact a.symm)
      simp [h, ih nd'.2, this]
theorem valD_map (k : Key) (v : D) (l : KL) (j : Key) : valD (l.map fun kv => if kv.1 = k then (kv.1, v) else kv) j = if k = j then (valD l j).map (fun _ => v) else valD l j := by
  induction l with
  | nil => simp [valD_nil]
  | cons p l ih =>
    obtain ⟨i, u⟩ := p
    rw [List.map_cons]
    by_cases h : i = k
    · subst h
      simp only [if_true, valD_cons, ih]
      by_cases h2 : i = j <;> simp [h2]
    · simp only [h, if_false, valD_cons, ih]
      by_cases h2 : i = j
      · subst h2
        have : ¬ k = i := fun e => h e.symm
        simp [this]
      · simp [h2]
theorem any_key {l : KL} {k : Key} : (l.any fun kv => decide (kv.1 = k)) = (valD l k).isSome := by
  induction l with
  | nil => rfl
  | cons p l ih =>
    obtain ⟨i, u⟩ := p
    rw [List.any_cons, ih, valD_cons]
    by_cases h : i = k <;> simp [h]
theorem valD_put (l : KL) (k j : Key) (v : D) : valD (putD l k v) j = if k = j then some v else valD l j := by
  unfold putD
  rw [any_key]
  cases hs : valD l k with
  | some u =>
    simp only [Option.isSome_some, if_true]
    rw [valD_map]
    by_cases h : k = j
    · subst h; simp [hs]
    · simp [h]
  | none =>
    simp only [Option.isSome_none, Bool.false_eq_true, if_false]
    rw [valD_app, valD_cons, valD_nil]
    by_cases h : k = j
    · subst h; simp [hs]
    · simp [h]
theorem keys_put (l : KL) (k : Key) (v : D) : (putD l k v).map (·.1) = if (valD l k).isSome = true then l.map (·.1) else l.map (·.1) ++ [k] := by
  unfold putD
  rw [any_key]
  cases valD l k with
  | some u =>
    simp only [Option.isSome_some, if_true, List.map_map]
    refine List.map_congr_left fun p _ => ?_
    by_cases h : p.1 = k <;> simp [h]
  | none => simp
/-- int keys of U, each once -/
structure okK (U : List Int) (l : KL) : Prop where
  mem : ∀ p ∈ l, ∃ i ∈ U, p.1 = .inl i
  nd : (l.map (·.1)).Nodup
theorem okK.nil {U : List Int} : okK U [] := ⟨fun _ h => (by cases h), .nil⟩
theorem okK.put {U : List Int} {l : KL} (h : okK U l) {i : Int} (hi : i ∈ U) (v : D) : okK U (putD l (.inl i) v) := by
  refine ⟨fun p hp => ?_, ?_⟩
  · have hm : p.1 ∈ (putD l (.inl i) v).map (·.1) := List.mem_map.mpr ⟨p, hp, rfl⟩
    rw [keys_put] at hm
    have key : p.1 ∈ l.map (·.1) → ∃ j ∈ U, p.1 = .inl j := fun m => by
      obtain ⟨q, hq, e⟩ := List.mem_map.mp m
      obtain ⟨j, hj, e2⟩ := h.mem q hq
      exact ⟨j, hj, e.symm.trans e2⟩
    split at hm
    · exact key hm
    · rcases List.mem_append.mp hm with m | m
      · exact key m
      · exact ⟨i, hi, List.mem_singleton.mp m⟩
  · rw [keys_put]
    split
    · exact h.nd
    · rename_i hs
      have : valD l (.inl i) = none := by
        cases q : valD l (.inl i) with
        | none => rfl
        | some _ => rw [q] at hs; exact absurd rfl hs
      exact List.nodup_append.mpr ⟨h.nd, by simp, fun a ha b hb e => by
        rw [List.mem_singleton.mp hb] at e
        exact valD_none.mp this (e ▸ ha)⟩
theorem okK.drop {U : List Int} {l : KL} (h : okK U l) (k : Key) : okK U (dropD l k) :=
  ⟨fun p hp => h.mem p (List.mem_filter.mp hp).1, List.Sublist.nodup (List.Sublist.map (fun p : Key × D => p.1) List.filter_sublist) h.nd⟩
theorem okK.cons {U : List Int} {l : KL} {p : Key × D} (h : okK U (p :: l)) : okK U l := ⟨fun q hq => h.mem q (List.mem_cons_of_mem _ hq), (List.nodup_cons.mp (show (p.1 :: l.map (·.1)).Nodup from h.nd)).2⟩
theorem nodup_sub {α : Type} [DecidableEq α] : ∀ {l u : List α}, l.Nodup → (∀ x ∈ l, x ∈ u) → l.length ≤ u.length
  | [], _, _, _ => Nat.zero_le _
  | a :: l, u, nd, h => by
    have nd' := List.nodup_cons.mp nd
    have ha := h a List.mem_cons_self
    have := nodup_sub (u := u.erase a) nd'.2 fun x hx => (List.mem_erase_of_ne (fun e : x = a => nd'.1 (by rw [← e]; exact hx))).mpr (h x (List.mem_cons_of_mem _ hx))
    rw [List.length_erase_of_mem ha] at this
    have hp : 0 < u.length := List.length_pos_of_mem ha
    rw [List.length_cons]
    omega
theorem okK.ints {U : List Int} : ∀ {l : KL}, okK U l → ∃ ks, intKs l = some ks ∧ l.map (·.1) = ks.map Sum.inl ∧ ks.Nodup ∧ (∀ i ∈ ks, i ∈ U) ∧ ks.length = l.length
  | [], _ => ⟨[], rfl, rfl, .nil, fun _ h => (by cases h), rfl⟩
  | (k, v) :: l, h => by
    obtain ⟨ks, h1, h2, h3, h4, h5⟩ := okK.ints h.cons
    obtain ⟨i, hi, e⟩ := h.mem _ List.mem_cons_self
    have e' : k = .inl i := e
    subst e'
    refine ⟨i :: ks, by show (intKs l).map (i :: ·) = _; rw [h1]; rfl, by rw [List.map_cons, List.map_cons, h2], List.nodup_cons.mpr ⟨fun m => ?_, h3⟩, fun j hj => ?_, by simp [h5]⟩
    · have nd := List.nodup_cons.mp (show (Sum.inl i :: l.map (·.1)).Nodup from h.nd)
      exact nd.1 (by rw [h2]; exact List.mem_map.mpr ⟨i, m, rfl⟩)
    · rcases List.mem_cons.mp hj with rfl | hj
      · exact hi
      · exact h4 j hj
theorem okK.len {U : List Int} {l : KL} (h : okK U l) : l.length ≤ U.length := by
  obtain ⟨ks, _, _, nd, m, e⟩ := h.ints
  rw [← e]
  exact nodup_sub nd m
end DL
namespace DL
open PySem PySem.Spec PyProof.Rows L2
/-- what the store begins with stays there -/
def FXat (X st : Store) : Prop := ∀ (m : Nat) (o : Ob), X[m]? = some o → st[m]? = some o
theorem FXat.len {X st : Store} (h : FXat X st) {m : Nat} (hm : m < X.length) : m < st.length := by
  have := h m _ (List.getElem?_eq_getElem hm)
  exact (List.getElem?_eq_some_iff.mp this).1
theorem FXat.of {X a b : Store} (h : FXat X a) (g : ∀ m, m < X.length → m < a.length → b[m]? = a[m]?) : FXat X b := fun m o e => by
  have hm := (List.getElem?_eq_some_iff.mp e).1
  rw [g m hm (h.len hm)]
  exact h m o e
theorem FXat.le {X st : Store} (h : FXat X st) : X.length ≤ st.length := by
  rcases Nat.eq_zero_or_pos X.length with z | z
  · omega
  · have := h.len (m := X.length - 1) (by omega)
    omega
theorem FXat.refl (X : Store) : FXat X X := fun _ _ e => e
theorem FXat.app {X a : Store} (h : FXat X a) (l : Store) : FXat X (a ++ l) := h.of fun m _ hl => List.getElem?_append_left hl
end DL
namespace DL
open PySem PySem.Spec PyProof.Rows L2
/-- objects that are to stay as they are -/
abbrev KX := Nat → Option Ob
def KXat (X : KX) (st : Store) : Prop := ∀ (m : Nat) (o : Ob), X m = some o → st[m]? = some o
theorem KXat.lt {X : KX} {st : Store} (h : KXat X st) {m : Nat} {o : Ob} (e : X m = some o) : m < st.length := (List.getElem?_eq_some_iff.mp (h m o e)).1
theorem KXat.of {X : KX} {a b : Store} (h : KXat X a) (g : ∀ m o, X m = some o → m < a.length → b[m]? = a[m]?) : KXat X b := fun m o e => by
  rw [g m o e (h.lt e)]
  exact h m o e
theorem KXat.app {X : KX} {a : Store} (h : KXat X a) (l : Store) : KXat X (a ++ l) := h.of fun m _ _ hl => List.getElem?_append_left hl
theorem KXat.new {X : KX} {st : Store} (h : KXat X st) {m : Nat} (hm : st.length ≤ m) : X m = none := by
  cases e : X m with
  | none => rfl
  | some o => have := h.lt e; omega
theorem KXat.ne {X : KX} {m n : Nat} {o : Ob} (e : X m = some o) (z : X n = none) : m ≠ n := fun y => by rw [y, z] at e; cases e
theorem KXat.set {X : KX} {a : Store} (h : KXat X a) {m : Nat} (hm : X m = none) (o : Ob) : KXat X (a.set m o) := h.of fun k o e _ => List.getElem?_set_ne (Ne.symm (KXat.ne e hm))
end DL
/-! Own errors with one field: made, raised. -/
namespace DL
open PySem PySem.W PySem.Calls PyProof.Rows PySem.HandSPX
def xA (f : Str) (p1 p2 : Pos) : Arguments := { posonlyargs := [], args := [{ arg := "self", annotation := none, pos := p1 }, { arg := f, annotation := none, pos := p2 }], vararg := none, kwonlyargs := [], kw_defaults := [], kwarg := none, defaults := [] }
def xB (f : Str) (q1 q2 q3 q4 : Pos) : List Stmt := [.Assign [.Attribute (.Name "self" q1) f q2] (.Name f q3) q4]
def xS (f : Str) : Scope := { kind := .function, names := [(PySem.Str.ofString "self", .local), (f, .local)], isGenerator := false, isCoroutine := false, more := [] }
/-- the class c of errors with the field f, at C; its __init__ (full name q) at fI -/
structure ErrTxt (K : Frag) (c q f : Str) (C fI : Addr) : Prop where
  nf : (f == ("self" : Str)) = false
  nd : (f == ("__debug__" : Str)) = false
  bd : ∀ (q : Str) (doc pm : Value) (an : Option Addr) (cdv ct : Value) (p1 p2 q1 q2 q3 q4 : Pos) (x v : Value), bindArgs (fnOf "__init__" q (xA f p1 p2) (xB f q1 q2 q3 q4) (xS f) .none .none doc pm an cdv ct) ⟨[x, v], []⟩ = pure [(("self" : Str), x), (f, v)]
  aC : nsIn K mainGlobals c = some (some (.ref C))
  cls : ∃ nm qn N bs bm sn sub ab col dd k0 k1 k2 k3 k5, K.lookup C = some (excClassObj nm qn C N bs bm true sn sub ab col dd k0 k1 k2 k3 k5 "ValueError.__new__") ∧ refsVE bm = true
  sa : findIn K (.ref C) "__setattr__" = some (some (.builtin "object.__setattr__"))
  ga : findIn K (.ref C) "__getattribute__" = some (some (.builtin "BaseException.__getattribute__"))
  gg : findIn K (.ref C) "__getattr__" = some none
  noN : findIn K (.ref C) f = some none
  iC : findIn K (.ref C) "__init__" = some (some (.ref fI))
  tC : typeIn K (.ref fI) = some (.type "function")
  kC : keepIn K (.ref C) = true
  exC : subIn K (.ref C) (.type "BaseException") = some true
  tyC : typeIn K (.ref C) = some (.type "type")
  hdC : hasDictIn K C = true
  te : exmOne K (.ref C) (.ref C) = some true
  fn : ∃ (oc : Value) (od : Option Addr) (doc pm : Value) (an : Option Addr) (cdv ct : Value) (osl : Array (Option Value)) (p1 p2 q1 q2 q3 q4 : Pos),
    K.lookup fI = some ⟨oc, od, .func (fnOf "__init__" q (xA f p1 p2) (xB f q1 q2 q3 q4) (xS f) .none .none doc pm an cdv ct), osl⟩ ∧ codeIn K cdv q = true
/-- an error of the class at S is what «except S» names -/
theorem exm_self {K : PySem.W.Frag} {S : Addr} (h1 : PySem.W.subIn K (.ref S) (.type "BaseException") = some true) (h2 : PySem.W.isClsIn K S = true) (h3 : PySem.W.typeIn K (.ref S) = some (.type "type")) (h4 : PySem.W.subIn K (.ref S) (.ref S) = some true) :
    PySem.W.exmOne K (.ref S) (.ref S) = some true := by
  have e1 : (PySem.W.subIn K (.ref S) (.type "BaseException") == some true) = true := by rw [h1] <;> rfl
  have e2 : ((PySem.W.clsIn K S).isSome && PySem.W.typeIn K (.ref S) == some (.type "type")) = true := by
    have h2' : (PySem.W.clsIn K S).isSome = true := h2
    rw [h2', h3] <;> rfl
  show (if (PySem.W.subIn K (.ref S) (.type "BaseException") == some true) = true then (if ((PySem.W.clsIn K S).isSome && PySem.W.typeIn K (.ref S) == some (.type "type")) = true then PySem.W.subIn K (.ref S) (.ref S) else none) else none) = some true
  rw [if_pos e1, if_pos e2]
  exact h4
theorem one_size (v : Value) : [v].length ≤ sizeLine := by
  rw [sizeLine_eq]
  exact (by decide : 1 ≤ 16777216)
theorem ldC {M : Model} {s : Shared} {name : Str} {scope : Scope} {L a : Addr} {cd : Value} {m : Str → Option Value} {x : Str} {pos : Pos} {v : Value} {Q : Value → Shared → Prop} {A : Around} {E : Value → Shared → Prop} (hn : s.heap.Ns L m) (hv : m x = some v) (h : Q v s)
    (hk : scope.kind = .function) (hl : (envOfC name scope L a cd).kindOf x = some .local) (hd : (x == ("__debug__" : Str)) = false) :
    wpAny M A (eval (.Name x pos) (envOfC name scope L a cd)) Q E s := wpAny_Name (wpAny_loadName_local hk hl hn hv h) hd
structure InitEnd (h h' : Heap) (x C dx t1 : Addr) (f : Str) (v : Value) : Prop where
  keep : ∀ b o, b ≠ x → h.get? b = some o → h'.get? b = some o
  obj : h'.get? x = some { cls := .ref C, dict := some dx, data := .fields #[.ref t1, .none, .none, .none, .bool false, .none] }
  dbig : h.objs.size ≤ dx
  dne : dx ≠ x
  ns : h'.Ns1 dx (fun y => if y = f then some v else none)
structure OwnMade (h h' : Heap) (e C d : Addr) (f : Str) (v : Value) : Prop where
  keep : ∀ b o, h.get? b = some o → h'.get? b = some o
  new : h.objs.size ≤ e
  obj : ∃ oe vs, h'.get? e = some oe ∧ oe.cls = .ref C ∧ oe.dict = some d ∧ oe.data = .fields vs ∧ vs[1]? = some .none
  dbig : h.objs.size ≤ d
  dne : d ≠ e
  ns : h'.Ns1 d (fun y => if y = f then some v else none)
section
variable {prog : Program} {w : World} {A : Around} {E : Value → Shared → Prop} {R : Result → Shared → Prop} {s : Shared} {K : Frag} {c q f : Str} {C fI : Addr}
theorem kS_self (name : Str) (L a : Addr) (cd : Value) : (envOfC name (xS f) L a cd).kindOf "self" = some .local := rfl
theorem kS_f (hf : (f == ("self" : Str)) = false) (name : Str) (L a : Addr) (cd : Value) : (envOfC name (xS f) L a cd).kindOf f = some .local := by
  show List.lookup f [(PySem.Str.ofString "self", NameKind.local), (f, NameKind.local)] = some .local
  rw [List.lookup_cons, show (f == PySem.Str.ofString "self") = false from hf]
  simp [List.lookup]
theorem bind_at (hf : (f == ("self" : Str)) = false) (name : Str) (L a : Addr) (cd x v : Value) :
    bindL (envOfC name (xS f) L a cd).kindOf [(("self" : Str), x), (f, v)] (fun _ => none) f = some v ∧ bindL (envOfC name (xS f) L a cd).kindOf [(("self" : Str), x), (f, v)] (fun _ => none) "self" = some x := by
  have ne : ¬ (("self" : Str) = f) := fun z => by
    rw [← z] at hf
    exact absurd hf (by decide)
  constructor
  · rw [bindL, bindL, bindL, if_pos (kS_f hf name L a cd)]
    exact if_pos rfl
  · rw [bindL, bindL, bindL, if_pos (kS_f hf name L a cd), if_pos (kS_self name L a cd)]
    exact (if_neg ne).trans (if_pos rfl)
theorem err_init (T : ErrTxt K c q f C fI) {x t0 : Addr} {v : Value} (X : K.In s.heap) (hlim : s.heap.NoLimit) (hx : s.heap.get? x = some (excO C t0)) (hnx : K.lookup x = none) (hroom : A.depth < recursionLimit)
    (hq : ∀ h' tk dx, InitEnd s.heap h' x C dx t0 f v → R (.ok (.ret .none)) { s with heap := h', toks := tk }) :
    codeAny (model prog w) A (.call (.ref fI) ⟨[.ref x, v], []⟩) R s := by
  obtain ⟨oc, od, doc, pm, an, cdv, ct, osl, p1, p2, q1, q2, q3, q4, ho, hcd⟩ := T.fn
  obtain ⟨nm, qn, N, bs, bm, sn, sub, ab, col, dd, k0, k1, k2, k3, k5, hC, hbm⟩ := T.cls
  have hcl : clsIn K C = some { name := nm, bases := bs, mro := .ref C :: bm, ns := N, qualname := qn, hasDict := true, slotNames := sn, subclasses := sub, abstract := ab, collection := col, hasDel := false } := by unfold clsIn; rw [hC] <;> rfl
  have nf := T.nf
  refine Att.call_fn (binds := [(("self" : Str), .ref x), (f, v)]) X hlim ho hcd hroom (BindsTo.of_eq (T.bd q doc pm an cdv ct p1 p2 q1 q2 q3 q4 (.ref x) v)) (by
    have e1 : List.lookup ("self" : Str) (xS f).names = some .local := rfl
    have e2 : List.lookup f (xS f).names = some .local := kS_f nf "" 0 0 .none
    simp only [List.all_cons, List.all_nil, e1, e2]; rfl) (fun s₁ IC => ?_) rfl rfl rfl
  obtain ⟨h₁, tk₁, rfl⟩ := IC.toInCall.same
  have k : ∀ b o, s.heap.get? b = some o → h₁.get? b = some o := IC.toInCall.keep
  have hn := IC.toInCall.ns
  have hxL : s.heap.objs.size ≠ x := Nat.ne_of_gt (Heap.lt_size hx)
  have X₁ : K.In h₁ := X.keeps k
  have hx₁ := k _ _ hx
  have ba := bind_at nf q s.heap.objs.size fI cdv (.ref x) v
  -- self.f = f
  show wpAny _ _ (execs _ _) _ _ _
  refine wpAny_execs_cons (plainObj_wpAny_Assign_Attribute ?_)
  refine ldC (v := v) hn ba.1 (ldC (v := .ref x) hn ba.2 ?_ rfl (kS_self _ _ _ _) (by decide)) rfl (kS_f nf _ _ _ _) T.nd
  refine set_plain X₁ (ox := excO C t0) (od := none) ⟨hx₁, rfl, rfl, trivial⟩ T.sa ?_
  refine exc_osa X₁ hx₁ hcl (show refsVE (.ref C :: bm) = true from hbm) rfl T.noN (fun h₃ tk₃ dx k₃ dn dne hx₃ hn₃ => ?_)
  show wpAny _ _ (execs _ _) _ _ _
  have z : s.heap.objs.size < h₁.objs.size := hn.lt
  exact wpAny_execs_nil (hq h₃ tk₃ dx ⟨fun b o hb e => k₃ b o hb (k b o e), hx₃, Nat.le_of_lt (Nat.lt_of_lt_of_le z dn), dne, hn₃⟩)
theorem err_made (T : ErrTxt K c q f C fI) {v : Value} (X : K.In s.heap) (hlim : s.heap.NoLimit) (hroom : A.depth + 1 < recursionLimit)
    (hq : ∀ h' tk e d, OwnMade s.heap h' e C d f v → R (.ok (.ret (.ref e))) { s with heap := h', toks := tk }) :
    codeAny (model prog w) A (.call (.ref C) ⟨[v], []⟩) R s := by
  obtain ⟨nm, qn, N, bs, bm, sn, sub, ab, col, dd, k0, k1, k2, k3, k5, hC, hbm⟩ := T.cls
  obtain ⟨hp, g, dr, tk, os⟩ := s
  have k : ∀ b o, hp.get? b = some o → ((hp.push (kdv_tup [v])).push (excO C hp.objs.size)).get? b = some o := fun b o e => Heap.get?_push_of_some _ (Heap.get?_push_of_some _ e)
  have hget : ((hp.push (kdv_tup [v])).push (excO C hp.objs.size)).get? (hp.objs.size + 1) = some (excO C hp.objs.size) := by heap_get
  have hnx : K.lookup (hp.objs.size + 1) = none := by
    cases e : K.lookup (hp.objs.size + 1) with
    | none => rfl
    | some o =>
      have z : hp.get? (hp.objs.size + 1) = some o := X _ _ e
      exact absurd (Nat.lt_of_succ_lt (Heap.lt_size z)) (Nat.lt_irrefl _)
  refine call_own F.excBase_ValueError (fun X => refsVE_contains X bm hbm) (X _ _ hC) (looks_findIn X T.iC) (fun self => bind_fn X self T.tC) (one_size v) ?_
  refine err_init (s := ⟨(hp.push (kdv_tup [v])).push (excO C hp.objs.size), g, dr, tk, os⟩) T (X.keeps k) (hlim.keeps k) hget hnx ?_ fun h' tk' dx ⟨k', hx, dn, dne, hns⟩ => ?_
  · show A.depth + 1 < recursionLimit
    exact hroom
  · have old : ∀ b o, hp.get? b = some o → h'.get? b = some o := fun b o e => k' b o (Nat.ne_of_lt (Nat.lt_succ_of_lt (Heap.lt_size e))) (k b o e)
    have z : hp.objs.size + 1 + 1 ≤ dx := by
      first
        | (simpa only [Heap.size_push] using dn)
        | exact dn
        | (have q := dn; rw [Heap.size_push, Heap.size_push] at q; exact q)
    exact ⟨rfl, hq h' tk' (hp.objs.size + 1) dx ⟨old, Nat.le_succ _, ⟨_, _, hx, rfl, rfl, rfl, rfl⟩, Nat.le_trans (Nat.le_trans (Nat.le_succ _) (Nat.le_succ _)) z, dne, hns⟩⟩
end
end DL
/-! raise C(e); methods that may raise; for in such defs; try .. except C as n. -/
namespace DL
open PySem PySem.Spec PyProof.Rows L2 TL
theorem relO_err {v : V} {v' : PySem.Value} (r : RelV v v') (f g : Str) : RelO (List.lookup g [(f, v)]) (if g = f then some v' else none) := by
  by_cases hw : g = f
  · subst hw
    rw [if_pos rfl]
    have q : List.lookup g [(g, v)] = some v := by simp [List.lookup]
    rw [q]
    exact r
  · rw [if_neg hw]
    have qw : (g == f) = false := by simpa using hw
    have q2 : List.lookup g [(f, v)] = none := by simp [List.lookup, qw]
    rw [q2]
    trivial
section
variable {X : Cx} {W : WXd} {C fI : Addr} {c q f : Str}
/-- C(e) -/
def tMkErr (C : Addr) (f : Str) (ta : TA) : L2.St → Hp → XK → Prop := fun σ H Q => ta σ H fun vs H1 => ∃ v, vs = [v] ∧ ∀ d, H1 d = none → Q (.ref C) (some d) (upd H1 d (.xd [(f, v)]))
theorem pmk_err {a : Expr} {ta : TA} {p pos : Pos} {k : Nat} (T : ErrTxt X.K c q f C fI) (gC : X.mg c = some (.ref C)) (hr : Room k X.A) (ha : PA X [a] ta) (hg : Gl X c := by rfl)
    (hdb : (c == ("__debug__" : Str)) = false := by decide)
    (he : starEach (a :: []) X.env = (false, eval a X.env) :: starEach [] X.env := by rfl) (hpl : (backTo pos (starEach [] X.env)).any (·.1) = false := by rfl) :
    PMk X (.Call (.Name c p) [a] [] pos) (tMkErr C f ta) := by
  intro pins s σ H Q I h
  refine wpAny_Call_Name_kw (ld_glob I hg gC ?_ hdb)
  refine PySem.W.callWith_K (h₀ := X.base) I.ok.mod.kin T.kC (thn (ha.run pos pins s σ H _ I h) fun us s1 hh => ?_) he hpl
  obtain ⟨vs, H1, I1, r1, v, ev, q1⟩ := hh
  subst ev
  refine ⟨I1.kIn, ?_⟩
  cases r1 with
  | cons rv rn =>
    rename_i v' us'
    cases rn
    show wpAny _ _ (call (.ref C) [v']) _ _ _
    have hlim := I1.nolimit
    obtain ⟨hp, g, dr, tk, os⟩ := s1
    refine wpAny_call (err_made T I1.kIn hlim (by have := hr.dp; omega) fun h' tk' e d M => ?_)
    show MkP X pins σ Q (.ref e) ⟨h', g, dr, tk', os⟩
    obtain ⟨oe, fv, hoe, hc, hd, hdat, h1⟩ := M.obj
    have hns := M.ns
    obtain ⟨G', g1, g2⟩ := restrict h' fun b => decide (b ≠ e)
    have gk : ∀ b, b ≠ e → G'.get? b = h'.get? b := fun b hb => g1 b (decide_eq_true hb)
    have ge : G'.get? e = none := g2 e (by simp)
    have old : ∀ b o, hp.get? b = some o → G'.get? b = some o := fun b o q => (gk b (Nat.ne_of_lt (Nat.lt_of_lt_of_le (Heap.lt_size q) M.new))).trans (M.keep b o q)
    have ob : ObjOk X.prog X.w (upd H1 d (.xd [(f, v)])) G' d (.xd [(f, v)]) :=
      ⟨_, hns.at (fun o q => (gk d M.dne).trans q), fun g => relO_err rv f g⟩
    have J : Inv X pins σ (upd H1 d (.xd [(f, v)])) ⟨G', g, dr, tk', os⟩ := I1.laid (t' := tk') old M.dbig ob
    refine ⟨e, oe, fv, ⟨G', g, dr, tk', os⟩, _, .ref C, some d, rfl, J, fun b o q => ?_, ge, hoe, ⟨hc, hd⟩, hdat, h1, ?_, rfl, I1.bare, raises_own T.exC T.tyC, q1 d (I1.hok.fresh M.dbig)⟩
    · by_cases hb : b = e
      · have q' : G'.get? b = some o := q
        rw [hb, ge] at q'; cases q'
      · exact (gk b hb).symm.trans q
    · rw [upd_ne (Ne.symm M.dne)]
      exact I1.hok.fresh M.new
/-- raise C(e) -/
def tRaiseErr (C : Addr) (f : Str) (W : WXd) (ta : TA) : TS := fun _ σ H => tMkErr C f ta σ H fun cls d H' => W cls d σ H'
theorem ps_raiseErr {a : Expr} {ta : TA} {p pos pos2 : Pos} {k : Nat} (hc : X.calm = true) (T : ErrTxt X.K c q f C fI) (gC : X.mg c = some (.ref C)) (hr : Room k X.A) (tk : L2.Takes X W) (ha : PA X [a] ta) (hg : Gl X c := by rfl)
    (hdb : (c == ("__debug__" : Str)) = false := by decide)
    (he : starEach (a :: []) X.env = (false, eval a X.env) :: starEach [] X.env := by rfl) (hpl : (backTo pos (starEach [] X.env)).any (·.1) = false := by rfl) :
    PS X (.Raise (some (.Call (.Name c p) [a] [] pos)) none pos2) (tRaiseErr C f W ta) := ps_raise hc tk (pmk_err T gC hr ha hg hdb he hpl)
def sRaise (c f : Str) (fa : FA) : FS := fun env st => (fa env st).bind fun p => match p.1 with | [d] => some (.er c f d, env, p.2) | _ => none
/-- a new object that no value is: the dict of an error -/
theorem ds_raise {a : Expr} {fa : FA} {p pos pos2 : Pos} {k : Nat} (hc : X.calm = true) (T : ErrTxt X.K c q f C fI) (gC : X.mg c = some (.ref C)) (gx : GX X k) (tk : L2.Takes X W) (ha : DA X [a] fa) (hg : Gl X c := by rfl)
    (hdb : (c == ("__debug__" : Str)) = false := by decide)
    (he : starEach (a :: []) X.env = (false, eval a X.env) :: starEach [] X.env := by rfl) (hpl : (backTo pos (starEach [] X.env)).any (·.1) = false := by rfl) :
    DS X W (.Raise (some (.Call (.Name c p) [a] [] pos)) none pos2) (sRaise c f fa) := weakS (ps_raiseErr hc T gC gx.room tk ha hg hdb he hpl) fun D' σ H hh => by
  obtain ⟨r, env, st, o, env', st', he, hs, hf, q⟩ := hh
  obtain ⟨⟨ds, s1⟩, h1, h2⟩ := Option.bind_eq_some_iff.mp hf
  cases ds with
  | nil => cases h2
  | cons d ds =>
    cases ds with
    | cons _ _ => cases h2
    | nil =>
      cases h2
      refine ⟨r, env, st, [d], _, he, hs, h1, fun vs r1 H1 e1 q1 l1 => ?_⟩
      cases l1 with
      | cons rv rn =>
        cases rn
        rename_i v
        refine ⟨v, rfl, fun dd hd => ?_⟩
        have sm : Same H1 (upd H1 dd (.xd [(f, v)])) := same_alloc hd
        exact q σ r1 _ C dd (e1.trans (q1.ext sm)) ((he.ext e1).ext (q1.ext sm)) (q1.same sm) ⟨T.aC, v, upd_same, rv.ext (q1.ext sm)⟩
/-- o.m(e, ..) where m may raise -/
def fMethX (c m : Str) (mm : FMX) (fo : F) (fa : FA) : FX := fun env st => (fo env st).bind fun p => match p.1 with
  | .ref n => if noF m (insAt c n p.2) = true then (fa env p.2).bind fun q => mm (.ref n :: q.1) q.2 else none
  | _ => none
variable {k : Nat} {fm Cc : Addr} {fd : FuncData} {ps : List Str} {mm : FMX} {cc m : Str} {apos pos : Pos} {o e : Expr} {es : List Expr}
theorem dx_meth {pl : Sem Bool} (hc : ClsAt X.K cc Cc) (hm : Meth X.K Cc m fm) (Fd : FnX X.prog X.w X.K X.mg X.base k fm fd ps mm) (gx : GX X k) (hb : Binds X.K fd ps []) (tk : L2.Takes X W) {fo : F} {fa : FA} (ho : DE X o fo) (ha : DA X (e :: es) fa) (hl : (e :: es).length + 1 = ps.length := by rfl)
    (hst : starEach (e :: es) X.env = (false, eval e X.env) :: starEach es X.env := by rfl) (hpl : (backTo pos (starEach es X.env)).any (·.1) = false := by rfl)
    (ht : eval (.Call (.Attribute o m apos) (e :: es) [] pos) X.env = (do let ov ← eval o X.env; standAt apos.atName; let (f, first) ← holding [ov] (getMethod ov m pl); callWith pos f first (backTo pos (starEach (e :: es) X.env)) (backToKw pos (keywordEach [] X.env))) := by rfl)
    (hn : ∀ env st ds st', fa env st = some (ds, st') → ds.length = (e :: es).length) :
    DX X W (.Call (.Attribute o m apos) (e :: es) [] pos) (fMethX cc m mm fo fa) := by
  refine ⟨fun pins s σ H Q I h => ?_⟩
  obtain ⟨r, env, st, z, st', he', hs, hf, q⟩ := h
  obtain ⟨⟨x, s1⟩, h1, h2⟩ := Option.bind_eq_some_iff.mp hf
  cases x with
  | ref n =>
    have h2' : (if noF m (insAt cc n s1) = true then (fa env s1).bind fun q => mm (.ref n :: q.1) q.2 else none) = some (z, st') := h2
    by_cases hz : noF m (insAt cc n s1) = true
    case neg => rw [if_neg hz] at h2'; cases h2'
    rw [if_pos hz] at h2'
    obtain ⟨⟨ds, s2⟩, h3, h4⟩ := Option.bind_eq_some_iff.mp h2'
    refine PySem.W.methodCall_KW (pl := pl) (thn (ho.run pins s σ H (fun v H1 => ∃ a r1 C' dx vs, v = .ref a ∧ r1.adr[n]? = some a ∧ H1 a = some (.ins C' dx vs) ∧ C' = Cc ∧ vs.lookup m = none ∧ Ext r H r1 H1 ∧ Sim X.K r1 H1 s1) I ⟨r, env, st, _, s1, he', hs, h1, fun v r1 H1 e1 q1 p1 => ?_⟩) fun u sa hq => ?_) ht
    · obtain ⟨a, rfl, hadr⟩ := p1.refI
      cases hi : insAt cc n s1 with
      | none => rw [hi] at hz; cases hz
      | some fs =>
        rw [hi] at hz
        obtain ⟨av, C', dx, vs, hn', hx, nm, l⟩ := q1.ob _ a _ hadr (insAt_some hi)
        rw [hc.at_] at hn'
        cases hn'
        exact ⟨a, r1, Cc, dx, vs, rfl, hadr, hx, rfl, fields_none nm (Option.isNone_iff_eq_none.mp hz), e1, q1⟩
    · obtain ⟨x, H1, I1, rx, a, r1, C', dx, vs, rfl, hadr, hx, rfl, hno, e1, q1⟩ := hq
      cases rx
      refine getmeth_ok I1 hx hc.cls hm hno ?_
      refine PySem.W.callWith_K (first := [.ref a]) (h₀ := X.base) I.ok.mod.kin hm.kp (thn (ha.run pos pins sa σ H1 (fun vs H2 => ∃ r2, Ext r1 H1 r2 H2 ∧ Sim X.K r2 H2 s2 ∧ RepL X.K r2 H2 vs ds) I1 ⟨r1, env, s1, ds, s2, he'.ext e1, q1, h3, fun vs r2 H2 e2 q2 l2 => ⟨r2, e2, q2, l2⟩⟩) fun us sb hz => ?_) hst hpl
      obtain ⟨vs2, H2, I2, rv, r2, e2, q2, l2⟩ := hz
      exact ⟨I2.kIn, runX (us := .ref a :: us) (vs := .ref a :: vs2) Fd gx hb tk I2 (.cons rfl rv) (by rw [List.length_cons, l2.len, hn _ _ _ _ h3]; exact hl) (.cons (.ref (e2.get hadr)) l2) q2 h4 (q.ext (e1.trans e2))⟩
  | _ => cases h2
end
end DL
/-! try: .. except C as n: .. -/
namespace DL
open PySem PySem.Spec PyProof.Rows L2 TL
section
variable {X : Cx} {W : WXd} {C fI : Addr} {c q f : Str}
def tErrFld (f : Str) (C a : Addr) (cls : PySem.Value) (d : Option Addr) (te : TE) : TE := fun σ H Q => te σ H fun x H1 => x = .ref a ∧ cls = .ref C ∧ ∃ (dd : Addr) (v : V), d = some dd ∧ H1 dd = some (.xd [(f, v)]) ∧ Q v H1
theorem pe_errFld {a : Addr} {oe : Obj} {cls : PySem.Value} {d : Option Addr} {pn : List (Addr × Obj)} {e : Expr} {te : TE} {pos : Pos} (T : ErrTxt X.K c q f C fI) (hz : Zc cls d oe) (hf : ∃ vs, oe.data = .fields vs) (he : PE (X.suite a ((a, oe) :: pn)) e te)
    (hb : attributeBase e f X.env (eval e X.env) = eval e X.env := by rfl) :
    PE (X.suite a ((a, oe) :: pn)) (.Attribute e f pos) (tErrFld f C a cls d te) := by
  refine ⟨fun pins s σ H Q I h => ?_⟩
  refine attr_of hb (thn (he.run pins s σ H _ I h) fun u s1 hh => ?_)
  obtain ⟨x, H1, I1, rx, ex, ec, dd, v, ed, ea, q⟩ := hh
  subst ex
  obtain rfl : u = Value.ref a := rx
  subst ec
  subst ed
  obtain ⟨ha, _⟩ := I1.pin (a, oe) (List.mem_append_left _ List.mem_cons_self)
  obtain ⟨vs, hd⟩ := hf
  have hx : ObjOk X.prog X.w H1 s1.heap dd (.xd [(f, v)]) := I1.hok dd _ ea
  obtain ⟨mA, hns, hr⟩ := hx
  obtain ⟨od, ho, hl⟩ := lookIn_ns hns
  have l : List.lookup f [(f, v)] = some v := by simp [List.lookup]
  obtain ⟨u, hu, ru⟩ := RelO.some_of (v := v) (o := mA f) (by rw [← l]; exact hr f)
  have J : PySem.W.InstAt s1.heap a oe C (some od) := ⟨ha, hz.1, by unfold PySem.W.notCls; rw [hd] <;> rfl, by rw [hz.2]; exact ho⟩
  exact HandSPX.exc_get I1.kIn J T.ga T.gg T.exC (PySem.W.findObj_own T.hdC T.noN rfl (by rw [hl, hu])) (handed_of ru) ⟨v, H1, I1.tok _, ru, q⟩
/-- the suite's reading: the payload is handed to h; slot i holds the exception -/
def tSu (K : PySem.W.Frag) (i : Nat) (c f : Str) (h : D → FS) (a : Addr) (cls : PySem.Value) (d : Option Addr) : TS := fun D' σ H => ∃ r env st o env' st' pay C dd, cls = .ref C ∧ d = some dd ∧ σ[i]? = some (some (.ref a)) ∧ ErrAt K r H c f pay C dd ∧
  EnvR K r H env σ ∧ Sim K r H st ∧ h pay env st = some (o, env', st') ∧ OutOk K (fun _ _ _ _ => False) r H D' env' st' o
abbrev DSu (X : Cx) (i : Nat) (c f : Str) (ss : List Stmt) (h : D → FS) : Prop := ∀ (a : Addr) (oe : Obj) (cls : PySem.Value) (d : Option Addr) (pn : List (Addr × Obj)), Zc cls d oe → (∃ vs, oe.data = .fields vs) → PSs (X.suite a ((a, oe) :: pn)) ss (tSu X.K i c f h a cls d)
def wipeO (i : Nat) : Out × Lo × Store → Option (Out × Lo × Store)
  | (.er _ _ _, _, _) => none
  | (o, e, s) => some (o, e.set i none, s)
def sTry (g : FS) (c f : Str) (i : Nat) (h : D → FS) : FS := fun env st => (g env st).bind fun p => match p with
  | (.er c' f' d, e1, s1) => if c' = c ∧ f' = f ∧ i < e1.length then (h d (e1.set i none) s1).bind (wipeO i) else none
  | q => some q
theorem EnvR.hold {K : PySem.W.Frag} {r : Rf} {H : Hp} {env : Lo} {σ : L2.St} (h : EnvR K r H env σ) (i : Nat) (v : V) : EnvR K r H (env.set i none) (σ.set i (some v)) := by
  refine ⟨by rw [List.length_set, List.length_set]; exact h.len, fun j c e => ?_⟩
  by_cases z : i = j
  · subst z
    by_cases hi : i < env.length
    · rw [List.getElem?_set_self hi] at e
      cases e
    · rw [List.getElem?_eq_none (by rw [List.length_set]; omega)] at e
      cases e
  · rw [List.getElem?_set_ne z] at e
    obtain ⟨u, a, b⟩ := h.at_ j c e
    exact ⟨u, by rw [List.getElem?_set_ne z]; exact a, b⟩
theorem ds_try {n : Str} {i : Nat} {body suite : List Stmt} {b₀ : Stmt} {np pos pos' : Pos} {g : FS} {h : D → FS} (T : ErrTxt X.K c q f C fI) (gC : X.mg c = some (.ref C)) (hs : X.stack = X.env :: X.outer) (hf : X.env.frame = some X.env.locals) (hN : X.N.Nodup) (hi : X.N[i]? = some n) (hln : X.env.kindOf n = some .local)
    (hg : Gl X c) (hdb : (c == ("__debug__" : Str)) = false) {Wout : WXd} (tk : L2.Takes X Wout)
    (hb : ∀ (W : WXd) (pn : List (Addr × Obj)) (xe : PySem.Value → Shared → Prop), L2.Takes (X.tr pn xe) W → PassesOwn (model X.prog X.w) X.A X.env xe → DSs (X.tr pn xe) W body g)
    (hsu : DSu X i c f (b₀ :: suite) h) :
    DS X W (.Try body [.ExceptHandler (some (.Name c np)) (some n) (b₀ :: suite) pos'] [] [] pos) (sTry g c f i h) :=
  weakS (ps_try_as (tb := fun W => tS X.K W g) (ts := fun a cls d => tSu X.K i c f h a cls d) (Wout := Wout) hs hf hN hi hln ⟨hg, hdb, .inl gC⟩ tk (fun W pn xe tk' po => hb W pn xe tk' po) hsu) fun D' σ H hh => by
  obtain ⟨r, env, st, o, env', st', he, hsi, hf', q⟩ := hh
  obtain ⟨⟨o1, e1, s1⟩, h1, h2⟩ := Option.bind_eq_some_iff.mp hf'
  refine ⟨r, env, st, o1, e1, s1, he, hsi, h1, ?_⟩
  cases o1 with
  | nx => cases h2; exact q
  | bk => cases h2; exact q
  | ct => cases h2; exact q
  | rt d => cases h2; exact q
  | er c' f' d =>
    have h2' : (if c' = c ∧ f' = f ∧ i < e1.length then (h d (e1.set i none) s1).bind (wipeO i) else none) = some (o, env', st') := h2
    by_cases hc : c' = c ∧ f' = f ∧ i < e1.length
    case neg => rw [if_neg hc] at h2'; cases h2'
    rw [if_pos hc] at h2'
    obtain ⟨rfl, rfl, hlt⟩ := hc
    obtain ⟨⟨o2, e2, s2⟩, h3, h4⟩ := Option.bind_eq_some_iff.mp h2'
    intro σ' r' H' C' dd ex he' hs' er
    have eC : C' = C := by
      have := er.1.symm.trans T.aC
      cases this
      rfl
    subst eC
    refine ⟨true, T.te, fun _ a ha => ?_, fun z => by cases z⟩
    refine ⟨r', e1.set i none, s1, o2, e2, s2, d, C', dd, rfl, rfl, ?_, er, he'.hold i _, hs', h3, ?_⟩
    · exact List.getElem?_set_self (by rw [← he'.len]; exact hlt)
    · cases o2 with
      | nx => cases h4; exact fun σ2 r2 H2 x2 a2 b2 => q _ r2 H2 (ex.trans x2) (a2.wipe i) b2
      | bk => cases h4; exact fun σ2 r2 H2 x2 a2 b2 => q _ r2 H2 (ex.trans x2) (a2.wipe i) b2
      | ct => cases h4; exact fun σ2 r2 H2 x2 a2 b2 => q _ r2 H2 (ex.trans x2) (a2.wipe i) b2
      | rt d2 => cases h4; exact fun v r2 H2 x2 b2 p2 => q v r2 H2 (ex.trans x2) b2 p2
      | er _ _ _ => cases h4
/-! suites -/
/-- x = (k, n.f), k a text -/
def hAsgT (j : Nat) (k : Str) (pay : D) : FS := fun env st => some (.nx, env.set j (some (.tup [.str k, pay])), st)
theorem hs_asgT {i j : Nat} {n x k : Str} {kk : Nat} {x1 : Nat} {p1 p2 p3 p4 p5 pos : Pos} (T : ErrTxt X.K c q f C fI) (hN : X.N.Nodup) (hi : X.N[i]? = some n) (hv : Vis X.env.scope n) (hj : X.N[j]? = some x) (hx : Loc X.env.scope x) (hl : X.env.scope.names.lookup x = some .local)
    (hd1 : (n == ("__debug__" : Str)) = false) (hd2 : (n == ("__classdict__" : Str)) = false)
    (hb : attributeBase (.Name n p1) f X.env (eval (.Name n p1) X.env) = eval (.Name n p1) X.env := by rfl)
    (h1 : swapsWithSole [.Name x p3] (.Tuple [.Constant (.str k) kk p4, .Attribute (.Name n p1) f p2] x1 p5) pos.line X.env = pure false := by rfl) (h2 : swappedStores [.Name x p3] (.Tuple [.Constant (.str k) kk p4, .Attribute (.Name n p1) f p2] x1 p5) X.env = pure none := by rfl) (h3 : (assignEach [.Name x p3] X.env).map (·.2) = [assign (.Name x p3) X.env] := by rfl) :
    DSu X i c f [.Assign [.Name x p3] (.Tuple [.Constant (.str k) kk p4, .Attribute (.Name n p1) f p2] x1 p5) pos] (hAsgT j k) := fun a oe cls d pn hz hf =>
  weakSs (pss_one (ps_asg (X := X.suite a ((a, oe) :: pn)) (pe_tupF (pa_cons pe_str (pa_cons (pe_errFld T hz hf (pe_var (X := X.suite a ((a, oe) :: pn)) hi hv hd1 hd2) hb) pa_nil))) (pg_name hN hj hx (.inr hl)) h1 h2 h3)) fun D' σ H hh => by
  obtain ⟨r, env, st, o, env', st', pay, C', dd, ec, ed, hσ, er, he, hs, hf', q⟩ := hh
  cases hf'
  obtain ⟨e1, v, e2, e3⟩ := er
  have := e1.symm.trans T.aC
  cases this
  refine ⟨_, hσ, rfl, ec, dd, v, ed, e2, by show 2 ≤ sizeLine; decide, fun p o hp hz' => ?_⟩
  have sm := same_alloc (o := .frz o (.tup [.str k, v])) hp
  have ex := hs.ext sm
  exact q _ r _ ex ((he.ext ex).set (.tup upd_same hz' (hs.free hp) (.cons (.str k) (.cons (e3.ext ex) .nil))) j) (hs.same sm)
end
theorem gxTr {X : Cx} {k : Nat} (g : GX X k) (pn : List (Addr × Obj)) (xe : PySem.Value → Shared → Prop) : GX (X.tr pn xe) k := ⟨g.calm, g.nd, g.room, g.gd⟩
end DL
/-! Arguments by name. -/
namespace DL
open PySem PySem.Spec PyProof.Rows L2 TL
variable {K : PySem.W.Frag}
def pickL {α : Type} (is : List Nat) (xs : List α) : List α := is.filterMap fun i => xs[i]?
/-- how a call with n values by place and the names ks binds -/
structure KB (K : PySem.W.Frag) (fd : FuncData) (ps ks : List Str) (n : Nat) (is : List Nat) : Prop where
  to : ∀ (s : Shared) (us ws : List PySem.Value), K.In s.heap → us.length = n → ws.length = ks.length → BindsTo s fd ⟨us, ks.zip ws⟩ (ps.zip (pickL is (us ++ ws)))
  len : ∀ xs : List D, xs.length = n + ks.length → (pickL is xs).length = ps.length
end DL
/-! A list by value or of the store walked; list(x) into the store; xs.clear(). -/
namespace DL
open PySem PySem.Spec PyProof.Rows L2 TL
end DL
/-! t * 1. -/
namespace DL
open PySem PySem.Spec PyProof.Rows L2 TL
end DL
/-! == and != of instances by an own __eq__; isinstance of an own class; C(k = v). -/
namespace DL
open PySem PySem.Spec PyProof.Rows L2 TL
end DL
/-! == and != of lists, tuples and dicts that hold lists, tuples and dicts: by value or of the store. -/
namespace DL
open PySem PySem.Spec PyProof.Rows L2 TL PySem.SeqAt MeetsSeq MeetsSeq2 MeetsSeq3 SeqRoads2
end DL
namespace DL
open PySem PySem.Spec PyProof.Rows L2 TL
end DL
namespace DL
open PySem PySem.Spec PyProof.Rows L2 TL L2.DX
end DL
namespace DL
open PySem PySem.Spec PyProof.Rows L2 TL L2.DX
section
variable {X : Cx} {pins : List (Addr × Obj)} {σ : L2.St} {H : Hp} {s : Shared} {rho : Rf} {st : Store}
theorem RepK.mem {kv : List (Key × V)} {ks : List (Key × D)} (h : RepK X.K rho H kv ks) {k : Key} {d : D} (m : (k, d) ∈ ks) : ∃ v, (k, v) ∈ kv ∧ Rep X.K rho H v d := by
  induction kv generalizing ks with
  | nil => cases h; cases m
  | cons p kv ih =>
    cases h with
    | cons a b =>
      rcases List.mem_cons.mp m with e | m
      · cases e; exact ⟨_, List.mem_cons_self, a⟩
      · obtain ⟨v, h1, h2⟩ := ih b m
        exact ⟨v, List.mem_cons_of_mem _ h1, h2⟩
end
end DL
/-! C(k = v, ..) -/
namespace DL
open PySem PySem.Spec PyProof.Rows L2 TL
end DL
/-! walking a body statement by statement; what has changed in the store. -/
namespace DL
open PySem PySem.Spec PyProof.Rows L2 TL
theorem at_some {α : Type} {l : List α} {n : Nat} {x : α} (h : l[n]? = some x) : n < l.length := (List.getElem?_eq_some_iff.mp h).1
theorem Tp.of {a b : Store} {n : Nat} (h : Tp a n) (e : b[n]? = a[n]?) : Tp b n := by
  obtain ⟨x, y, k1, k2, k3, k4⟩ := h.at_
  exact ⟨x, y, by rw [e]; exact k1, k2, k3, k4⟩
theorem seq_nx {f g : FS} {e e2 : Lo} {s s2 : Store} (h : f e s = some (.nx, e2, s2)) : sSeq f g e s = g e2 s2 := by
  rw [sSeq, h]; rfl
/-- what is there stays, but for the cells named; the store grows -/
structure Fm (ex : List Nat) (st st' : Store) : Prop where
  le : st.length ≤ st'.length
  at_ : ∀ m, m < st.length → m ∉ ex → st'[m]? = st[m]?
theorem Fm.refl (ex : List Nat) (st : Store) : Fm ex st st := ⟨Nat.le_refl _, fun _ _ _ => rfl⟩
theorem Fm.trans {ex : List Nat} {a b c : Store} (h : Fm ex a b) (g : Fm ex b c) : Fm ex a c := ⟨Nat.le_trans h.le g.le, fun m hm hn => (g.at_ m (Nat.lt_of_lt_of_le hm h.le) hn).trans (h.at_ m hm hn)⟩
theorem Fm.mono {ex ey : List Nat} {a b : Store} (h : Fm ex a b) (s : ∀ m ∈ ex, m ∈ ey) : Fm ey a b := ⟨h.le, fun m hm hn => h.at_ m hm fun z => hn (s m z)⟩
theorem Fm.app (ex : List Nat) (st l : Store) : Fm ex st (st ++ l) := ⟨by simp, fun m hm _ => List.getElem?_append_left hm⟩
theorem Fm.set {ex : List Nat} {st s : Store} (f : Fm ex st s) {n : Nat} (h : n ∈ ex ∨ st.length ≤ n) (o : Ob) : Fm ex st (s.set n o) := ⟨by rw [List.length_set]; exact f.le, fun m hm hn => by
  rw [List.getElem?_set_ne]
  · exact f.at_ m hm hn
  intro e
  subst e
  rcases h with h | h
  · exact hn h
  · omega⟩
theorem Fm.get {ex : List Nat} {st st' : Store} (f : Fm ex st st') {m : Nat} {o : Ob} (h : st[m]? = some o) (hn : m ∉ ex) : st'[m]? = some o := by rw [f.at_ m (at_some h) hn]; exact h
theorem loopS_inv' {tg : FG} {body : FS} (I : Lo → Store → Prop) : ∀ {ds : List D}, (∀ d ∈ ds, ∀ env st, I env st → ∃ e1, tg d env = some e1 ∧ ∃ e2 s2, body e1 st = some (.nx, e2, s2) ∧ I e2 s2) →
    ∀ {env : Lo} {st : Store}, I env st → ∃ e2 s2, loopS tg body ds env st = some (.nx, e2, s2) ∧ I e2 s2
  | [], _, env, st, i => ⟨env, st, rfl, i⟩
  | d :: ds, h, env, st, i => by
    obtain ⟨e1, h1, e2, s2, h2, i2⟩ := h d List.mem_cons_self env st i
    obtain ⟨e3, s3, h3, i3⟩ := loopS_inv' I (ds := ds) (fun d hd => h d (List.mem_cons_of_mem _ hd)) i2
    exact ⟨e3, s3, by simp [loopS, h1, h2, h3], i3⟩
theorem it1 {m : Int} (h0 : 0 ≤ m) (h1 : m < 1000) (env : Lo) (st : Store) : iOfA asR1 (aCons (fC (.int m)) aNil) env st = some (rg 0 m, st) := by
  have ra := asR1_ok (n := m) h0 (by omega)
  simp [iOfA, aCons, aNil, fC, ra]
theorem for_nx {fi : FI} {g : FG} {b : FS} {ds : List D} {e e2 : Lo} {s s1 s2 : Store} (h : fi e s = some (ds, s1)) (k : loopS g b ds e s1 = some (.nx, e2, s2)) : sFor fi g b e s = some (.nx, e2, s2) := by
  rw [sFor, h]
  exact k
theorem asg_call2 {M : FM} {i j : Nat} {a c d : D} {g : FG} {e e2 : Lo} {s s1 : Store} (ha : e[i]? = some (some a)) (hc : e[j]? = some (some c)) (h : M [a, c] s = some (d, s1)) (hg : g d e = some e2) : sAsg (fCall M (aCons (fVar i) (aCons (fVar j) aNil))) g e s = some (.nx, e2, s1) := by
  simp [sAsg, fCall, aCons, aNil, fVar, ha, hc, h, hg]
end DL
namespace DL
open PySem PySem.Spec PyProof.Rows L2
/-! where the plain def answers, the one that may raise answers the same -/
def LeS (f fx : FS) : Prop := ∀ e s z, f e s = some z → fx e s = some z
def LeM (m : FM) (mx : FMX) : Prop := ∀ ds s d s', m ds s = some (d, s') → mx ds s = some (.val d, s')
theorem LeS.refl (f : FS) : LeS f f := fun _ _ _ h => h
theorem LeS.never (g : FS) : LeS sNever g := fun e s z h => by cases h
theorem LeS.seq {f fx g gx : FS} (h : LeS f fx) (k : LeS g gx) : LeS (sSeq f g) (sSeq fx gx) := fun e s z hz => by
  obtain ⟨⟨o, e1, s1⟩, h1, h2⟩ := Option.bind_eq_some_iff.mp hz
  rw [sSeq, h _ _ _ h1]
  cases o with
  | nx => exact k _ _ _ h2
  | bk => exact h2
  | ct => exact h2
  | rt d => exact h2
  | er c f d => exact h2
theorem LeM.call {m : FM} {mx : FMX} (h : LeM m mx) {fa : FA} {e : Lo} {s : Store} {d : D} {s' : Store} (hz : fCall m fa e s = some (d, s')) : fCallX mx fa e s = some (.val d, s') := by
  obtain ⟨⟨xs, s1⟩, h1, h2⟩ := Option.bind_eq_some_iff.mp hz
  rw [fCallX, h1]
  exact h _ _ _ _ h2
/-- an expression and the one that may raise -/
def LeE (f : F) (fx : FX) : Prop := ∀ e s d s', f e s = some (d, s') → fx e s = some (.val d, s')
theorem LeE.drop {f : F} {fx : FX} (h : LeE f fx) : LeS (sDrop f) (sDropX fx) := fun e s z hz => by
  obtain ⟨⟨d, s1⟩, h1, h2⟩ := Option.map_eq_some_iff.mp hz
  subst h2
  rw [sDropX, h _ _ _ _ h1]; rfl
theorem LeE.ret {f : F} {fx : FX} (h : LeE f fx) : LeS (sRet f) (sRetX fx) := fun e s z hz => by
  obtain ⟨⟨d, s1⟩, h1, h2⟩ := Option.map_eq_some_iff.mp hz
  subst h2
  rw [sRetX, h _ _ _ _ h1]; rfl
end DL
/-! arguments that may raise -/
namespace DL
open PySem PySem.Spec PyProof.Rows L2
end DL
/-! d.pop(k) of a dict of the store -/
namespace DL
open PySem PySem.Spec PyProof.Rows L2
end DL
/-! where the def that may raise raises nothing, the plain one answers the same -/
namespace DL
open PySem PySem.Spec PyProof.Rows L2
def isEr : Out → Bool | .er _ _ _ => true | _ => false
def GeS (f fx : FS) : Prop := ∀ e s o e' s', fx e s = some (o, e', s') → isEr o = false → f e s = some (o, e', s')
def GeM (m : FM) (mx : FMX) : Prop := ∀ ds s d s', mx ds s = some (.val d, s') → m ds s = some (d, s')
theorem GeS.refl (f : FS) : GeS f f := fun _ _ _ _ _ h _ => h
theorem GeS.seq {f fx g gx : FS} (h : GeS f fx) (k : GeS g gx) : GeS (sSeq f g) (sSeq fx gx) := fun e s o e' s' hz n => by
  obtain ⟨⟨o1, e1, s1⟩, h1, h2⟩ := Option.bind_eq_some_iff.mp hz
  cases o1 with
  | nx =>
    rw [sSeq, h _ _ _ _ _ h1 rfl]
    exact k _ _ _ _ _ h2 n
  | bk => rw [sSeq, h _ _ _ _ _ h1 rfl]; exact h2
  | ct => rw [sSeq, h _ _ _ _ _ h1 rfl]; exact h2
  | rt d => rw [sSeq, h _ _ _ _ _ h1 rfl]; exact h2
  | er c f d => cases h2; cases n
theorem GeM.call {m : FM} {mx : FMX} (h : GeM m mx) {fa : FA} {e : Lo} {s : Store} {d : D} {s' : Store} (hz : fCallX mx fa e s = some (.val d, s')) : fCall m fa e s = some (d, s') := by
  obtain ⟨⟨xs, s1⟩, h1, h2⟩ := Option.bind_eq_some_iff.mp hz
  rw [fCall, h1]
  exact h _ _ _ _ h2
/-- an expression and the one that may raise -/
def GeE (f : F) (fx : DL.FX) : Prop := ∀ e s d s', fx e s = some (.val d, s') → f e s = some (d, s')
theorem GeE.drop {f : F} {fx : DL.FX} (h : GeE f fx) : GeS (sDrop f) (sDropX fx) := fun e s o e' s' hz n => by
  obtain ⟨⟨z, s1⟩, h1, h2⟩ := Option.map_eq_some_iff.mp hz
  cases z with
  | val d => cases h2; rw [sDrop, h _ _ _ _ h1]; rfl
  | er c fl d => cases h2; cases n
theorem GeE.ret {f : F} {fx : DL.FX} (h : GeE f fx) : GeS (sRet f) (sRetX fx) := fun e s o e' s' hz n => by
  obtain ⟨⟨z, s1⟩, h1, h2⟩ := Option.map_eq_some_iff.mp hz
  cases z with
  | val d => cases h2; rw [sRet, h _ _ _ _ h1]; rfl
  | er c fl d => cases h2; cases n
end DL
/-! lists of comprehensions and slices, into the store; starred targets; defs with keyword-only defaults -/
namespace DL
open PySem PySem.Spec PyProof.Rows L2
variable {K : PySem.W.Frag}
def fCompR (fi : FI) (is : List Nat) (bd : FB) (t : FT) (f : F) : F := fun env st => (fi env st).bind fun p => (loopC is bd t f p.1 (wipeL env is) p.2).bind fun q => if q.1.length ≤ sizeLine then some (.ref q.2.length, q.2 ++ [.lst q.1]) else none
theorem compReadsR {RR : RD} {fi : FI} {is : List Nat} {bd : FB} {g : TG} {t : FT} {f : F} (hg : TgOkR K RR g is bd) (σ : L2.St) (H : Hp) (Q : VK) (hh : tD K (fCompR fi is bd t f) σ H Q) : tLc (tIR K RR fi) g (tT K t) (tD K f) is σ H Q := by
  obtain ⟨r, env, st, d, st', he, hs, hf, q⟩ := hh
  obtain ⟨⟨ds, s1⟩, h1, h2⟩ := Option.bind_eq_some_iff.mp hf
  obtain ⟨⟨zs, s2⟩, h3, h4⟩ := Option.bind_eq_some_iff.mp h2
  by_cases hz : zs.length ≤ sizeLine
  case neg => rw [if_neg hz] at h4; cases h4
  rw [if_pos hz] at h4
  cases h4
  refine ⟨r, env, st, ds, s1, he, hs, h1, fun J r1 H1 e1 q1 j1 Dl hD => ?_⟩
  have m0 := Mkg.start (o := .lst []) q1 hD
  refine ⟨fun k m H2 => m = ds.length - k ∧ k ≤ ds.length ∧ ∃ r2 st2 acc us ys, Mkg K r1 H1 Dl r2 H2 st2 ∧ EnvR K r2 H2 (DL.wipeL env is) (wipe σ is) ∧ H2 Dl = some (.lst us) ∧ RepL K r2 H2 us acc ∧
    loopC is bd t f (ds.drop k) (DL.wipeL env is) st2 = some (ys, s2) ∧ acc ++ ys = zs, ⟨_, rfl, Nat.zero_le _, r1.hide Dl, s1, [], [], zs, m0, ((he.ext e1).ext m0.ex).wipeL is, upd_same, .nil, h3, rfl⟩, ?_⟩
  rintro k m H2 ⟨rfl, hk, r2, st2, acc, us, ys, mk, wp, hus, racc, hl, hcat⟩
  obtain ⟨jst, jgo⟩ := j1 r2 H2 st2 mk.ex mk.sim
  by_cases hlt : k < ds.length
  case neg =>
    have e : k = ds.length := by omega
    subst e
    rw [List.drop_length] at hl
    cases hl
    rw [List.append_nil] at hcat
    subst hcat
    have hid : Hid K r2 H2 _ Dl := ⟨mk.av, mk.na, mk.nl, mk.sim⟩
    have us2 := upd_self hus
    have exa : Ex r2 H2 (r2.add Dl) (upd H2 Dl (.lst us)) := ⟨⟨[Dl], rfl⟩, fun q x z n => by rw [us2]; exact z, fun q z n => absurd z n⟩
    obtain ⟨w1, w2, w3⟩ := hid.add (o := .lst us) (ob := .lst _) mk.ex q1 hD ⟨hid.av, us, upd_same, racc.ex exa⟩
    have key := q (.ref Dl) _ _ (e1.trans w1) w2 (w3 _ rfl)
    rw [us2] at key
    exact .inl ⟨jst _ (Nat.le_refl _), key⟩
  case pos =>
    have hd : ds[k]? = some ds[k] := List.getElem?_eq_getElem hlt
    rw [List.drop_eq_getElem_cons hlt] at hl
    obtain ⟨vals, hv, hl1⟩ := Option.bind_eq_some_iff.mp hl
    obtain ⟨⟨b, st3⟩, hb, hl2⟩ := Option.bind_eq_some_iff.mp hl1
    obtain ⟨j2, j3⟩ := jgo k _ hd
    refine .inr ⟨j2, fun H' => k + 1 ≤ ds.length ∧ ∃ r2 st2 acc us ys, Mkg K r1 H1 Dl r2 H' st2 ∧ EnvR K r2 H' (DL.wipeL env is) (wipe σ is) ∧ H' Dl = some (.lst us) ∧ RepL K r2 H' us acc ∧
      loopC is bd t f (ds.drop (k + 1)) (DL.wipeL env is) st2 = some (ys, s2) ∧ acc ++ ys = zs, fun H' ⟨hk', w⟩ => ⟨ds.length - (k + 1), by omega, rfl, hk', w⟩, fun x H3 y => ?_⟩
    obtain ⟨r3, e3, s3, rx⟩ := j3 x H3 y
    have wp3 := wp.ext e3
    refine hg r3 H3 x _ _ _ vals rx hv fun vs rvs => ⟨wipe_setL σ is vs, ?_⟩
    · have he3 : EnvR K r3 H3 (DL.setL is vals (DL.wipeL env is)) (DL.setL is vs (wipe σ is)) := wp3.setL rvs
      refine ⟨r3, _, st2, b, st3, he3, s3, hb, fun r4 H4 e4 s4 => ?_⟩
      cases b with
      | false =>
        rw [if_neg Bool.false_ne_true] at hl2 ⊢
        obtain ⟨m4, k4⟩ := mk.step (e3.trans e4) s4
        exact ⟨hlt, r4, st3, acc, us, ys, m4, wp3.ext e4, k4.trans hus, racc.ext (e3.trans e4), hl2, hcat⟩
      | true =>
        rw [if_pos rfl] at hl2 ⊢
        obtain ⟨⟨yd, st4⟩, hy, hl3⟩ := Option.bind_eq_some_iff.mp hl2
        obtain ⟨⟨ys', st5⟩, hl4, hl5⟩ := Option.map_eq_some_iff.mp hl3
        cases hl5
        refine ⟨r4, _, st3, yd, st4, he3.ext e4, s4, hy, fun yv r5 H5 e5 s5 ry => ?_⟩
        have e25 : Ext r2 H2 r5 H5 := (e3.trans e4).trans e5
        obtain ⟨m5, k5⟩ := mk.step e25 s5
        obtain ⟨m6, g1⟩ := m5.put q1 hD (.lst (us ++ [yv]))
        refine ⟨us, k5.trans hus, ?_, hlt, r5, st4, acc ++ [yd], us ++ [yv], ys', m6, ((wp3.ext e4).ext e5).exx g1, upd_same, ((racc.ext e25).ex g1).append (.cons (ry.ex g1) .nil), hl4, by rw [← hcat, List.append_assoc]; rfl⟩
        rw [racc.len]
        have : (acc ++ yd :: ys').length ≤ sizeLine := by rw [hcat]; exact hz
        rw [List.length_append, List.length_cons] at this
        omega
/-! ### a[lo:hi] of a list by value, into the store -/
end DL
/-! keyword-only parameters with defaults; a starred target at the end -/
namespace DL
open PySem PySem.Spec PyProof.Rows L2
/-! ### defaults -/
/-! the same of a def that may raise -/
end DL
/-! a, b, *rest = t -/
namespace DL
open PySem PySem.Spec PyProof.Rows L2
/-! ### the target -/
end DL
/-! is anything in a list of ints. -/
namespace DL
open PySem PySem.Spec PyProof.Rows L2 TL
end DL
/-! [x, ..] * n -/
namespace DL
open PySem PySem.Spec PyProof.Rows L2 TL
end DL
/-! while; del xs[i]; xs.pop() -/
namespace DL
open PySem PySem.Spec PyProof.Rows L2 TL
def loopW (t : FT) (b : FS) : Nat → Lo → Store → Option (Out × Lo × Store)
  | 0, _, _ => none
  | n + 1, env, st => (t env st).bind fun p => if p.1 = true then (b env p.2).bind fun q => match q with
    | (.nx, e2, s2) => loopW t b n e2 s2
    | (.ct, e2, s2) => loopW t b n e2 s2
    | (.bk, e2, s2) => some (.nx, e2, s2)
    | (.rt v, e2, s2) => some (.rt v, e2, s2)
    | (.er c f v, e2, s2) => some (.er c f v, e2, s2) else some (.nx, env, p.2)
open Classical in
noncomputable def sWhile (t : FT) (b : FS) : FS := fun env st => if h : ∃ n, (loopW t b n env st).isSome = true then loopW t b h.choose env st else none
theorem loopW_mono {t : FT} {b : FS} : ∀ {n m : Nat} {env : Lo} {st : Store} {z : Out × Lo × Store}, n ≤ m → loopW t b n env st = some z → loopW t b m env st = some z
  | 0, _, _, _, _, _, h => by cases h
  | n + 1, 0, _, _, _, hm, _ => by omega
  | n + 1, m + 1, env, st, z, hm, h => by
    rw [loopW] at h ⊢
    obtain ⟨⟨c, s1⟩, h1, h2⟩ := Option.bind_eq_some_iff.mp h
    rw [h1]
    simp only [Option.bind_some] at h2 ⊢
    by_cases hc : c = true
    · rw [if_pos hc] at h2 ⊢
      obtain ⟨⟨o, e2, s2⟩, h3, h4⟩ := Option.bind_eq_some_iff.mp h2
      rw [h3]
      simp only [Option.bind_some]
      cases o with
      | nx => exact loopW_mono (by omega) h4
      | ct => exact loopW_mono (by omega) h4
      | bk => exact h4
      | rt v => exact h4
      | er c f v => exact h4
    · rw [if_neg hc] at h2 ⊢
      exact h2
theorem while_of {t : FT} {b : FS} {n : Nat} {env : Lo} {st : Store} {z : Out × Lo × Store} (h : loopW t b n env st = some z) : sWhile t b env st = some z := by
  have ex : ∃ n, (loopW t b n env st).isSome = true := ⟨n, by rw [h]; rfl⟩
  rw [sWhile, dif_pos ex]
  obtain ⟨z', hz⟩ := Option.isSome_iff_exists.mp ex.choose_spec
  rw [hz]
  rcases Nat.le_total n ex.choose with l | l
  · have := loopW_mono l h
    rw [hz] at this
    exact this
  · have := loopW_mono l hz
    rw [h] at this
    exact this.symm
theorem while_some {t : FT} {b : FS} {env : Lo} {st : Store} {z : Out × Lo × Store} (h : sWhile t b env st = some z) : ∃ n, loopW t b n env st = some z := by
  unfold sWhile at h
  split at h
  · exact ⟨_, h⟩
  · cases h
section
variable {X : Cx} {W : WXd}
theorem ds_while {c : Expr} {body : List Stmt} {t : FT} {b : FS} {pos : Pos} (hp : PassesOwn (model X.prog X.w) X.A X.env X.xe) (hc : DT X c t) (hb : DSs X W body b) : DS X W (.While c body [] pos) (sWhile t b) := weakS (ps_while hp hc hb) fun D' σ H hh => by
  obtain ⟨r, env, st, o, env', st', he, hs, hf, q⟩ := hh
  obtain ⟨n, hn⟩ := while_some hf
  refine ⟨fun m σ2 H2 => ∃ r2 env2 st2, Ext r H r2 H2 ∧ EnvR X.K r2 H2 env2 σ2 ∧ Sim X.K r2 H2 st2 ∧ loopW t b m env2 st2 = some (o, env', st'), ⟨n, r, env, st, .refl _ _, he, hs, hn⟩, ?_⟩
  rintro m σ2 H2 ⟨r2, env2, st2, e2, he2, hs2, h3⟩
  cases m with
  | zero => cases h3
  | succ m =>
    rw [loopW] at h3
    obtain ⟨⟨k, s3⟩, h4, h5⟩ := Option.bind_eq_some_iff.mp h3
    refine ⟨r2, env2, st2, k, s3, he2, hs2, h4, fun r3 H3 e3 hs3 => ?_⟩
    simp only at h5
    cases k with
    | false =>
      rw [if_neg (by decide)] at h5 ⊢
      cases h5
      exact q σ2 r3 H3 (e2.trans e3) (he2.ext e3) hs3
    | true =>
      rw [if_pos rfl] at h5 ⊢
      obtain ⟨⟨o4, env4, st4⟩, g2, h6⟩ := Option.bind_eq_some_iff.mp h5
      refine ⟨fun σ' H' => ∃ r2 env2 st2, Ext r H r2 H' ∧ EnvR X.K r2 H' env2 σ' ∧ Sim X.K r2 H' st2 ∧ loopW t b m env2 st2 = some (o, env', st'), fun σ' H' w => ⟨m, Nat.lt_succ_self _, w⟩, ?_⟩
      refine ⟨r3, env2, s3, o4, env4, st4, he2.ext e3, hs3, g2, ?_⟩
      cases o4 with
      | nx => exact fun σ' r' H' e' a c => ⟨r', env4, st4, (e2.trans e3).trans e', a, c, h6⟩
      | ct => exact fun σ' r' H' e' a c => ⟨r', env4, st4, (e2.trans e3).trans e', a, c, h6⟩
      | bk =>
        cases h6
        exact fun σ' r' H' e' a c => q σ' r' H' ((e2.trans e3).trans e') a c
      | rt v =>
        cases h6
        exact fun v r' H' e' a c => q v r' H' ((e2.trans e3).trans e') a c
      | er c' f' v =>
        cases h6
        exact fun σ' r' H' C dd e' a c z => q σ' r' H' C dd ((e2.trans e3).trans e') a c z
end
end DL
/-! sorted(xs, key=f), the keys nested tuples of any shapes that Python can order; f may change what it owns. -/
namespace DL
open PySem PySem.Spec PyProof.Rows L2 TL
end DL
/-! the keys asked one by one: what holds between two calls is one's own word J -/
namespace DL
open PySem PySem.Spec PyProof.Rows L2 TL
end DL
/-! a lambda of one parameter: made, and called -/
namespace DL
open PySem PySem.Spec PyProof.Rows L2 TL LamX
end DL
/-! sorted(e, key=lambda p: body) -/
namespace DL
open PySem PySem.Spec PyProof.Rows L2 TL LamX
end DL
/-! sorted(e, key=lambda p: body): the rule -/
namespace DL
open PySem PySem.Spec PyProof.Rows L2 TL LamX
end DL
/-! the end of a law whose program holds lambdas; a def's own code object -/
namespace DL
open PySem PySem.Spec PyProof.Rows L2 TL LamX
end DL
/-! code objects and tables read off the written part -/
namespace DL
open PySem PySem.Spec PyProof.Rows L2 TL LamX
end DL
/-! Dicts of the store: their items, their values as lists; a dict of a list of pairs; a walk of a dict that may be a value. -/
namespace DL
open PySem PySem.Spec PyProof.Rows L2 L2.DX
end DL
/-! repr of dicts whose values hold no list and no dict, and of tuples of such dicts. -/
namespace DL
open PySem PySem.Spec PyProof.Rows L2 TL
variable {K : PySem.W.Frag}
mutual
/-- no list, no dict inside -/
def noL : D → Bool
  | .tup ds => noLL ds
  | .lst _ => false
  | .dct _ => false
  | _ => true
def noLL : List D → Bool
  | [] => true
  | d :: ds => noL d && noLL ds
end
theorem noLL_iff {ds : List D} : noLL ds = true ↔ ∀ d ∈ ds, noL d = true := by
  induction ds with
  | nil => exact ⟨fun _ _ h => (by cases h), fun _ => rfl⟩
  | cons d ds ih =>
    show (noL d && noLL ds) = true ↔ _
    rw [Bool.and_eq_true, ih]
    simp
/-! ### measures -/
end DL
/-! {**a, **b}. -/
namespace DL
open PySem PySem.Spec PyProof.Rows L2 L2.DX
end DL
/-! {**a, **b} as an expression. -/
namespace DL
open PySem PySem.Spec PyProof.Rows L2 L2.DX
end DL
/-! xs.pop(i) of a list of the store. -/
namespace DL
open PySem PySem.Spec PyProof.Rows L2 L2.DX
variable {K : PySem.W.Frag}
section
variable {X : Cx} {W : WXd}
theorem RepL.erase {r : Rf} {H : Hp} : ∀ {vs : List V} {ds : List D}, RepL K r H vs ds → ∀ k, RepL K r H (vs.eraseIdx k) (ds.eraseIdx k)
  | _, _, .nil, _ => .nil
  | _, _, .cons a b, 0 => b
  | _, _, .cons a b, k + 1 => .cons a (b.erase k)
end
end DL
/-! repr of a tuple that may hold lists of the store. -/
namespace DL
open PySem PySem.Spec PyProof.Rows L2 TL
end DL
namespace DL
open PySem PySem.Spec PyProof.Rows L2 TL
/-! what is shown and holds no list and no dict may be compared -/
end DL
/-! xs.pop() of a list of the store -/
namespace DL
open PySem PySem.Spec PyProof.Rows L2 L2.DX
end DL
/-! a dict comprehension over a list of the store -/
namespace DL
open PySem PySem.Spec PyProof.Rows L2
end DL
/-! a slice of what may raise -/
namespace DL
open PySem PySem.Spec PyProof.Rows L2
end DL
/-! xs.index(y), xs a list of ints -/
namespace DL
open PySem PySem.Spec PyProof.Rows L2 L2.DX
end DL
/-! sorted(xs) of a list of ints by value; del xs[i] of a list of the store; a slice of a list of the store, by value. -/
namespace DL
open PySem PySem.Spec PyProof.Rows L2 L2.DX
variable {K : PySem.W.Frag}
section
variable {X : Cx} {W : WXd}
def sDelI (fo fi : F) : FS := fun env st => (fo env st).bind fun p => (fi env p.2).bind fun q => match p.1, q.1 with
  | .ref n, .int i => (match q.2[n]? with
    | some (.lst xs) => if 0 ≤ i ∧ i < 1000000 ∧ i.toNat < xs.length then some (.nx, env, q.2.set n (.lst (xs.eraseIdx i.toNat))) else none
    | _ => none)
  | _, _ => none
theorem ds_delI {o i : Expr} {fo fi : F} {tpos pos : Pos} (ho : DE X o fo) (hi : DE X i fi) : DS X W (.Delete [.Subscript o i tpos] pos) (sDelI fo fi) := weakS (ps_delL ho hi) fun D' σ H hh => by
  obtain ⟨r, env, st, out, env', st', he, hs, hf, q⟩ := hh
  obtain ⟨⟨x, s1⟩, h1, hf1⟩ := Option.bind_eq_some_iff.mp hf
  obtain ⟨⟨y, s2⟩, h2, hf2⟩ := Option.bind_eq_some_iff.mp hf1
  cases x with
  | ref n =>
    cases y with
    | int iv =>
      simp only at hf2
      split at hf2
      · rename_i xs hst
        by_cases hc : 0 ≤ iv ∧ iv < 1000000 ∧ iv.toNat < xs.length
        case neg => rw [if_neg hc] at hf2; cases hf2
        rw [if_pos hc] at hf2
        cases hf2
        refine ⟨r, env, st, _, s1, he, hs, h1, fun v r1 H1 e1 q1 p1 => ⟨r1, env, s1, _, s2, he.ext e1, q1, h2, fun v2 r2 H2 e2 q2 p2 => ?_⟩⟩
        obtain ⟨a, rfl, ha⟩ := (p1.ext e2).refI
        cases p2
        obtain ⟨av, ys, hx, l⟩ := q2.ob _ a _ ha hst
        have si : seqIndex? iv ys.length = some iv.toNat := by
          rw [l.len]
          unfold seqIndex?
          have n0 : ¬ iv < 0 := by omega
          have n1 : iv < xs.length := by omega
          simp [n0]
          omega
        refine ⟨a, ys, iv, iv.toNat, rfl, rfl, hx, by omega, by omega, si, ?_⟩
        have ee : Ex r2 H2 r2 (upd H2 a (.lst (ys.eraseIdx iv.toNat))) := ⟨⟨[], by simp⟩, fun b o w m => by rw [upd_ne (fun y => m (by rw [y]; exact av))]; exact w, fun b w m => absurd w m⟩
        obtain ⟨w1, w2⟩ := q2.set (o := .lst (ys.eraseIdx iv.toNat)) (ob := .lst (xs.eraseIdx iv.toNat)) ha av ⟨av, _, upd_same, (l.erase _).ex ee⟩ (fun _ _ z => by rw [hx] at z; cases z)
        exact q σ r2 _ ((e1.trans e2).trans w1) (((he.ext e1).ext e2).ext w1) w2
      · cases hf2
    | _ => cases hf2
  | _ => cases hf2
/-- xs[lo:hi] of a list of the store -/
def fSliceO (fa : F) (lo hi : FO) : F := fun env st => (fa env st).bind fun p => (lo env p.2).bind fun q => (hi env q.2).bind fun w => match p.1 with
  | .ref n => (match w.2[n]? with | some (.lst ds) => some (.lst (cutD ds q.1 w.1), w.2) | _ => none)
  | _ => none
theorem de_sliceO {a : Expr} {lo hi : Option Expr} {fa : F} {fl fh : FO} {p2 pos : Pos} (ha : DE X a fa) (hl : DO' X lo fl) (hh : DO' X hi fh) : DE X (.Subscript a (.Slice lo hi none p2) pos) (fSliceO fa fl fh) :=
  weakE (pe_slice sl_list ha hl hh) fun σ H Q hh => by
  obtain ⟨r, env, st, d, st', he, hs, hf, q⟩ := hh
  obtain ⟨⟨x, s1⟩, h1, hf1⟩ := Option.bind_eq_some_iff.mp hf
  obtain ⟨⟨i, s2⟩, h2, hf2⟩ := Option.bind_eq_some_iff.mp hf1
  obtain ⟨⟨j, s3⟩, h3, hf3⟩ := Option.bind_eq_some_iff.mp hf2
  cases x with
  | ref n =>
    simp only at hf3
    split at hf3
    · rename_i ds hst
      cases hf3
      refine ⟨r, env, st, _, s1, he, hs, h1, fun u r1 H1 e1 q1 p1 => ⟨r1, env, s1, i, s2, he.ext e1, q1, h2, fun r2 H2 e2 q2 => ⟨r2, env, s2, j, _, (he.ext e1).ext e2, q2, h3, fun r3 H3 e3 q3 => ?_⟩⟩⟩
      have p3 := (p1.ext e2).ext e3
      have e13 := (e1.trans e2).trans e3
      obtain ⟨a, rfl, ha⟩ := p3.refI
      obtain ⟨av, ys, hx, l⟩ := q3.ob _ a _ ha hst
      exact ⟨_, _, rfl, .of hx, fun p hp => q _ _ _ (e13.trans (q3.ext (same_alloc hp))) (q3.same (same_alloc hp)) (.lst upd_same (q3.free hp) ((l.cut i j).ex (Ex.same r3 (same_alloc hp))))⟩
    · cases hf3
  | _ => cases hf3
end
end DL
/-! enumerate over a list by value -/
namespace DL
open PySem PySem.Spec PyProof.Rows L2 L2.DX
variable {K : PySem.W.Frag}
section
variable {X : Cx} {W : WXd}
def asEnL : List D → Option (List D) | [.lst ds] => some (pairUp 0 ds) | _ => none
theorem Rep.lstE {r : Rf} {H : Hp} {v : V} {ds : List D} (h : Rep K r H v (.lst ds)) : ∃ (a : Addr) (xs : List V), v = .ref a ∧ SqL K H a xs ∧ RepL K r H xs ds := by
  cases h with
  | lst g1 g2 g3 => exact ⟨_, _, rfl, .of g1, g3⟩
theorem di_enumL {e : Expr} {fa : FA} {p pos tpos : Pos} {elts : List Expr} {kk : Nat} (hg : Gl X "enumerate") (hm : X.mg "enumerate" = none) (ha : DA X [e] fa) (hs : starEach [e] X.env = [(false, eval e X.env)] := by rfl) :
    DIR X (RepI X.K) (.Tuple elts kk tpos) (.Call (.Name "enumerate" p) [e] [] pos) (iOfA asEnL fa) := weakI (pi_enum hg hm ha hs) fun σ H R hh => by
  obtain ⟨r, env, st, ds, st', he, hs, hf, q⟩ := hh
  obtain ⟨xs, h1, h2⟩ := iOfA_some hf
  refine ⟨r, env, st, xs, st', he, hs, h1, fun v r1 H1 e1 q1 p1 => ?_⟩
  unfold asEnL at h2
  split at h2
  · rename_i as
    cases h2
    obtain ⟨u, rfl, pa⟩ := lst1 p1
    obtain ⟨a', us, rfl, sa, la⟩ := pa.lstE
    refine ⟨a', us, rfl, sa, q _ r1 H1 e1 q1 fun r2 H2 st2 e2 s2 => ?_⟩
    obtain ⟨c, us2, ec, sa2, la2⟩ := (pa.ext e2).lstE
    cases ec
    refine ⟨fun i hi => ⟨us2, sa2, by rw [pairUp_len] at hi; rw [la2.len]; exact hi⟩, fun i d hd => ?_⟩
    obtain ⟨x, hx, ed⟩ := pairUp_get hd
    obtain ⟨vx, hvx, rx⟩ := la2.get hx
    refine ⟨⟨us2, vx, sa2, hvx⟩, fun v H3 ⟨T, x', ev, hT, eH, w1⟩ => ?_⟩
    subst ev
    subst eH
    have ex : x' = vx := by
      have := w1 us2 sa2
      rw [hvx] at this
      exact (Option.some.inj this).symm
    subst ex
    have sm : Same H2 (upd H2 T (.tup [.int (i : Nat), x'])) := same_alloc hT
    exact ⟨r2, s2.ext sm, s2.same sm, T, [.int (i : Nat), x'], [.int (i : Nat), x], rfl, by rw [ed, Nat.zero_add], .inl (.inl upd_same), .cons (.int _) (.cons (rx.ext (s2.ext sm)) .nil)⟩
  · cases h2
end
end DL
/-! xs[lo:hi] of a list of the store, xs[::-1] of a list by value: both into the store -/
namespace DL
open PySem PySem.Spec PyProof.Rows L2 L2.DX
variable {K : PySem.W.Frag}
section
variable {X : Cx} {W : WXd}
def fSliceOR (fa : F) (lo hi : FO) : F := fun env st => (fa env st).bind fun p => (lo env p.2).bind fun q => (hi env q.2).bind fun w => match p.1 with
  | .ref n => (match w.2[n]? with | some (.lst ds) => some (.ref w.2.length, w.2 ++ [.lst (cutD ds q.1 w.1)]) | _ => none)
  | _ => none
theorem de_sliceOR {a : Expr} {lo hi : Option Expr} {fa : F} {fl fh : FO} {p2 pos : Pos} (ha : DE X a fa) (hl : DO' X lo fl) (hh : DO' X hi fh) : DE X (.Subscript a (.Slice lo hi none p2) pos) (fSliceOR fa fl fh) :=
  weakE (pe_slice sl_list ha hl hh) fun σ H Q hh => by
  obtain ⟨r, env, st, d, st', he, hs, hf, q⟩ := hh
  obtain ⟨⟨x, s1⟩, h1, hf1⟩ := Option.bind_eq_some_iff.mp hf
  obtain ⟨⟨i, s2⟩, h2, hf2⟩ := Option.bind_eq_some_iff.mp hf1
  obtain ⟨⟨j, s3⟩, h3, hf3⟩ := Option.bind_eq_some_iff.mp hf2
  cases x with
  | ref n =>
    simp only at hf3
    split at hf3
    · rename_i ds hst
      cases hf3
      refine ⟨r, env, st, _, s1, he, hs, h1, fun u r1 H1 e1 q1 p1 => ⟨r1, env, s1, i, s2, he.ext e1, q1, h2, fun r2 H2 e2 q2 => ⟨r2, env, s2, j, s3, (he.ext e1).ext e2, q2, h3, fun r3 H3 e3 q3 => ?_⟩⟩⟩
      have p3 := (p1.ext e2).ext e3
      have e13 := (e1.trans e2).trans e3
      obtain ⟨a, rfl, ha⟩ := p3.refI
      obtain ⟨av, ys, hx, l⟩ := q3.ob _ a _ ha hst
      refine ⟨_, _, rfl, .of hx, fun p hp => ?_⟩
      obtain ⟨r', w1, w2, w3⟩ := newLst q3 hp (l.cut i j)
      exact q _ r' _ (e13.trans w1) w2 w3
    · cases hf3
  | _ => cases hf3
def fRevLR (f : F) : F := fun env st => (f env st).bind fun p => (lstAt p.1 p.2).map fun ds => (.ref p.2.length, p.2 ++ [.lst ds.reverse])
theorem de_revLR {e : Expr} {f : F} {k : Nat} {p1 p2 p3 pos : Pos} (he : DE X e f) : DE X (.Subscript e (.Slice none none (some (.UnaryOp .USub (.Constant (.int 1) k p1) p2)) p3) pos) (fRevLR f) := weakE (pe_revL he) fun σ H Q hh => by
  obtain ⟨r, env, st, d, st', he, hs, hf, q⟩ := hh
  obtain ⟨⟨x, s1⟩, h1, h2⟩ := Option.bind_eq_some_iff.mp hf
  obtain ⟨ds, h3, h4⟩ := Option.map_eq_some_iff.mp h2
  cases h4
  refine ⟨r, env, st, _, _, he, hs, h1, fun v r1 H1 e1 q1 p1 => ?_⟩
  obtain ⟨a, xs, rfl, sq, l⟩ := lstRd p1 q1 h3
  refine ⟨a, xs, rfl, sq, fun p hp => ?_⟩
  obtain ⟨r', w1, w2, w3⟩ := newLst q1 hp l.reverse
  exact q _ r' _ (e1.trans w1) w2 w3
end
section
variable {X : Cx} {W : WXd} {tg iter : Expr}
/-- y = [elt for x in xs if ..] on one line, into the store -/
theorem ds_setLcR {RR : RD} {i : Nat} {y : Str} {py : Pos} {elt : Expr} {ifs : List Expr} {scope : Scope} {own : List (Str × Nat)} {pos spos : Pos} {fi : FI} {bd : FB} {g : TG} {t : FT} {f : F} (hc : X.calm = true) (hN : X.N.Nodup) (hy : X.N[i]? = some y) (hyl : X.env.scope.names.lookup y = some .local)
    (hsw : swapsWith (.ListComp elt [⟨tg, iter, ifs, 0⟩] scope pos) (some (.Name y py)) spos.line X.env = pure true) (hi : DIR X RR tg iter fi) (ok : BlkOk X.N X.env.scope scope own)
    (tk : TgOkR X.K RR g (own.map (·.2)) bd)
    (hg : ∀ (s : Shared) (H : Hp) (C : Addr) (cl : List (Str × Addr)) (fp : List Addr), PG (X.blk s H scope (compEnvC scope cl C X.env) fp) tg g) (ht : ∀ (s : Shared) (H : Hp) (C : Addr) (cl : List (Str × Addr)) (fp : List Addr), DTs (X.blk s H scope (compEnvC scope cl C X.env) fp) ifs t)
    (he : ∀ (s : Shared) (H : Hp) (C : Addr) (cl : List (Str × Addr)) (fp : List Addr), DE (X.blk s H scope (compEnvC scope cl C X.env) fp) elt f) (hs : ∀ x, foldedSetIterable iter X.env x = pure x := by intro _; rfl) :
    DS X W (.Assign [.Name y py] (.ListComp elt [⟨tg, iter, ifs, 0⟩] scope pos) spos) (sAsg (fCompR fi (own.map (·.2)) bd t f) (gN i)) := weakS (ps_setLc hc hN hy hyl hsw hi ok hg ht he hs) fun D' σ H hh => by
  obtain ⟨r, env, st, o, env', st', he, hs, hf, q⟩ := hh
  obtain ⟨⟨d, s1⟩, h1, h2⟩ := Option.bind_eq_some_iff.mp hf
  obtain ⟨e1, h3, h4⟩ := Option.map_eq_some_iff.mp h2
  cases h4
  cases h3
  exact compReadsR tk σ H _ ⟨r, env, st, d, _, he, hs, h1, fun v r1 H1 x1 q1 p1 => q _ r1 H1 x1 ((he.ext x1).set p1 i) q1⟩
end
end DL
/-! sorted by key into the store; defs with lambdas that may raise; a pair whose second may raise. -/
namespace DL
open PySem PySem.Spec PyProof.Rows L2 TL LamX
variable {K : PySem.W.Frag}
section
variable {X : Cx} {W : WXd}
/-- (s, f(..)): the second may raise -/
def fPairX (s : Str) (f : FX) : FX := fun env st => (f env st).map fun p => match p.1 with | .val d => (.val (.tup [.str s, d]), p.2) | .er c fl d => (.er c fl d, p.2)
theorem dx_pair {s : Str} {e : Expr} {f : FX} {k1 x1 : Nat} {sp pos : Pos} (h : DX X W e f) (hs2 : starEach [e] X.env = (false, eval e X.env) :: starEach [] X.env := by rfl) : DX X W (.Tuple [.Constant (.str s) k1 sp, e] x1 pos) (fPairX s f) :=
  weakE (pe_tupF (pa_cons pe_str (pa_cons h pa_nil hs2))) fun σ H Q hh => by
  obtain ⟨r, env, st, z, st', he, hs, hf, q⟩ := hh
  obtain ⟨⟨z0, s1⟩, h1, h2⟩ := Option.map_eq_some_iff.mp hf
  show tX X.K W f σ H fun y H1 => ([V.str s, y]).length ≤ sizeLine ∧ Fz Q H1 [V.str s, y]
  cases z0 with
  | val d =>
    cases h2
    refine ⟨r, env, st, .val d, _, he, hs, h1, fun v r1 H1 e1 q1 p1 => ⟨(show 2 ≤ sizeLine by decide), fun p o hp hz => ?_⟩⟩
    have sm := same_alloc (H := H1) (p := p) (o := .frz o (.tup [V.str s, v])) hp
    exact q _ r1 _ (e1.trans (q1.ext sm)) (q1.same sm) (.tup upd_same hz (q1.free hp) (.cons (.str s) (.cons (p1.ex (Ex.same r1 sm)) .nil)))
  | er c fl d =>
    cases h2
    exact ⟨r, env, st, .er c fl d, _, he, hs, h1, fun r' H' C dd ex hs' er => q r' H' C dd ex hs' er⟩
end
end DL
namespace LW
open PySem PySem.Spec PyProof.Rows L2 DL
def topS (i : Nat) : Stmt := PySem.Challenge.pw_steadypages_k25_listing.main.body.getD i (.Pass ⟨0, 0, 0, 0⟩)
abbrev s_kind_place : Stmt := topS 1
abbrev N_kind_place : List Str := ["value"]
theorem sc_kind_place : FnScope N_kind_place ["value"] (defScope s_kind_place) := ⟨rfl, rfl, rfl, by decide +kernel, rfl, by decide +kernel, by decide +kernel⟩
abbrev s_value_place : Stmt := topS 7
abbrev N_value_place : List Str := ["value", "descending", "kind", "codes", "sign"]
theorem sc_value_place : FnScope N_value_place ["value", "descending"] (defScope s_value_place) := ⟨rfl, rfl, rfl, by decide +kernel, rfl, by decide +kernel, by decide +kernel⟩
abbrev s_key_place : Stmt := topS 6
abbrev N_key_place : List Str := ["view", "key", "places", "value", "column", "descending"]
theorem sc_key_place : FnScope N_key_place ["view", "key"] (defScope s_key_place) := ⟨rfl, rfl, rfl, by decide +kernel, rfl, by decide +kernel, by decide +kernel⟩
abbrev s_first_from : Stmt := topS 10
abbrev N_first_from : List Str := ["places", "place", "low", "high", "middle"]
theorem sc_first_from : FnScope N_first_from ["places", "place"] (defScope s_first_from) := ⟨rfl, rfl, rfl, by decide +kernel, rfl, by decide +kernel, by decide +kernel⟩
abbrev s__law_tape : Stmt := topS 12
abbrev N__law_tape : List Str := ["script", "start", "mixed", "cell", "digits"]
theorem sc__law_tape : FnScope N__law_tape ["script", "start"] (defScope s__law_tape) := ⟨rfl, rfl, rfl, by decide +kernel, rfl, by decide +kernel, by decide +kernel⟩
abbrev s__law_pick : Stmt := topS 13
abbrev N__law_pick : List Str := ["tape", "size", "found"]
theorem sc__law_pick : FnScope N__law_pick ["tape", "size"] (defScope s__law_pick) := ⟨rfl, rfl, rfl, by decide +kernel, rfl, by decide +kernel, by decide +kernel⟩
abbrev s__law_one_of : Stmt := topS 14
abbrev N__law_one_of : List Str := ["tape", "items"]
theorem sc__law_one_of : FnScope N__law_one_of ["tape", "items"] (defScope s__law_one_of) := ⟨rfl, rfl, rfl, by decide +kernel, rfl, by decide +kernel, by decide +kernel⟩
abbrev s__law_value : Stmt := topS 15
abbrev N__law_value : List Str := ["tape", "signs", "some", "turn"]
theorem sc__law_value : FnScope N__law_value ["tape"] (defScope s__law_value) := ⟨rfl, rfl, rfl, by decide +kernel, rfl, by decide +kernel, by decide +kernel⟩
abbrev s__law_values : Stmt := topS 16
abbrev N__law_values : List Str := ["tape", "width", "column"]
theorem sc__law_values : FnScope N__law_values ["tape", "width"] (defScope s__law_values) := ⟨rfl, rfl, rfl, by decide +kernel, rfl, by decide +kernel, by decide +kernel⟩
abbrev s__law_test : Stmt := topS 17
abbrev N__law_test : List Str := ["tape", "width", "column", "kind", "many", "turn"]
theorem sc__law_test : FnScope N__law_test ["tape", "width"] (defScope s__law_test) := ⟨rfl, rfl, rfl, by decide +kernel, rfl, by decide +kernel, by decide +kernel⟩
abbrev s__law_condition : Stmt := topS 18
abbrev N__law_condition : List Str := ["tape", "width", "depth", "kind", "parts"]
theorem sc__law_condition : FnScope N__law_condition ["tape", "width", "depth"] (defScope s__law_condition) := ⟨rfl, rfl, rfl, by decide +kernel, rfl, by decide +kernel, by decide +kernel⟩
abbrev s__law_view : Stmt := topS 19
abbrev N__law_view : List Str := ["tape", "width", "condition", "order", "turn", "column", "shown", "pair"]
theorem sc__law_view : FnScope N__law_view ["tape", "width"] (defScope s__law_view) := ⟨rfl, rfl, rfl, by decide +kernel, rfl, by decide +kernel, by decide +kernel⟩
abbrev s__law_rank : Stmt := topS 20
abbrev N__law_rank : List Str := ["value"]
theorem sc__law_rank : FnScope N__law_rank ["value"] (defScope s__law_rank) := ⟨rfl, rfl, rfl, by decide +kernel, rfl, by decide +kernel, by decide +kernel⟩
abbrev s__law_key : Stmt := topS 21
abbrev N__law_key : List Str := ["view", "number", "values", "column", "falling"]
theorem sc__law_key : FnScope N__law_key ["view", "number", "values"] (defScope s__law_key) := ⟨rfl, rfl, rfl, by decide +kernel, rfl, by decide +kernel, by decide +kernel⟩
abbrev s__law_sign : Stmt := topS 22
abbrev N__law_sign : List Str := ["view", "first", "second", "place", "pair", "left", "right"]
theorem sc__law_sign : FnScope N__law_sign ["view", "first", "second"] (defScope s__law_sign) := ⟨rfl, rfl, rfl, by decide +kernel, rfl, by decide +kernel, by decide +kernel⟩
abbrev s__law_past : Stmt := topS 23
abbrev N__law_past : List Str := ["view", "mark", "key", "sign"]
theorem sc__law_past : FnScope N__law_past ["view", "mark", "key"] (defScope s__law_past) := ⟨rfl, rfl, rfl, by decide +kernel, rfl, by decide +kernel, by decide +kernel⟩
abbrev s__law_mark : Stmt := topS 24
abbrev N__law_mark : List Str := ["tape", "view", "width", "kind", "key"]
theorem sc__law_mark : FnScope N__law_mark ["tape", "view", "width"] (defScope s__law_mark) := ⟨rfl, rfl, rfl, by decide +kernel, rfl, by decide +kernel, by decide +kernel⟩
abbrev s__law_marks : Stmt := topS 25
abbrev N__law_marks : List Str := ["tape", "view", "width", "first", "second", "sign"]
theorem sc__law_marks : FnScope N__law_marks ["tape", "view", "width"] (defScope s__law_marks) := ⟨rfl, rfl, rfl, by decide +kernel, rfl, by decide +kernel, by decide +kernel⟩
abbrev s__law_keys : Stmt := topS 26
abbrev N__law_keys : List Str := ["tape", "view", "width", "size", "turn"]
theorem sc__law_keys : FnScope N__law_keys ["tape", "view", "width", "size"] (defScope s__law_keys) := ⟨rfl, rfl, rfl, by decide +kernel, rfl, by decide +kernel, by decide +kernel⟩
abbrev s__law_inserted : Stmt := topS 27
abbrev N__law_inserted : List Str := ["view", "pairs", "key", "changed", "found", "place", "pair"]
theorem sc__law_inserted : FnScope N__law_inserted ["view", "pairs", "key", "changed"] (defScope s__law_inserted) := ⟨rfl, rfl, rfl, by decide +kernel, rfl, by decide +kernel, by decide +kernel⟩
abbrev s_Listing_key_at : Stmt := inClass (topS 9) 6
abbrev N_Listing_key_at : List Str := ["self", "place"]
theorem sc_Listing_key_at : FnScope N_Listing_key_at ["self", "place"] (defScope s_Listing_key_at) := ⟨rfl, rfl, rfl, by decide +kernel, rfl, by decide +kernel, by decide +kernel⟩
abbrev s__law_at : Stmt := topS 28
abbrev N__law_at : List Str := ["listing", "place", "found", "e"]
theorem sc__law_at : FnScope N__law_at ["listing", "place"] (defScope s__law_at) := ⟨rfl, rfl, rfl, by decide +kernel, rfl, by decide +kernel, by decide +kernel⟩
abbrev s_Listing___len__ : Stmt := inClass (topS 9) 1
abbrev N_Listing___len__ : List Str := ["self"]
theorem sc_Listing___len__ : FnScope N_Listing___len__ ["self"] (defScope s_Listing___len__) := ⟨rfl, rfl, rfl, by decide +kernel, rfl, by decide +kernel, by decide +kernel⟩
abbrev s_Listing__holds : Stmt := inClass (topS 9) 4
abbrev N_Listing__holds : List Str := ["self", "rank", "place"]
theorem sc_Listing__holds : FnScope N_Listing__holds ["self", "rank", "place"] (defScope s_Listing__holds) := ⟨rfl, rfl, rfl, by decide +kernel, rfl, by decide +kernel, by decide +kernel⟩
abbrev s_Listing_rank_of : Stmt := inClass (topS 9) 5
abbrev N_Listing_rank_of : List Str := ["self", "mark", "place", "rank"]
theorem sc_Listing_rank_of : FnScope N_Listing_rank_of ["self", "mark"] (defScope s_Listing_rank_of) := ⟨rfl, rfl, rfl, by decide +kernel, rfl, by decide +kernel, by decide +kernel⟩
abbrev s_Listing__versions_between : Stmt := inClass (topS 9) 9
abbrev N_Listing__versions_between : List Str := ["self", "low", "high"]
theorem sc_Listing__versions_between : FnScope N_Listing__versions_between ["self", "low", "high"] (defScope s_Listing__versions_between) := ⟨rfl, rfl, rfl, by decide +kernel, rfl, by decide +kernel, by decide +kernel⟩
abbrev s_Listing_count_between : Stmt := inClass (topS 9) 7
abbrev N_Listing_count_between : List Str := ["self", "low", "high"]
theorem sc_Listing_count_between : FnScope N_Listing_count_between ["self", "low", "high"] (defScope s_Listing_count_between) := ⟨rfl, rfl, rfl, by decide +kernel, rfl, by decide +kernel, by decide +kernel⟩
abbrev s_Listing_unchanged_between : Stmt := inClass (topS 9) 8
abbrev N_Listing_unchanged_between : List Str := ["self", "low", "high", "version", "changed"]
theorem sc_Listing_unchanged_between : FnScope N_Listing_unchanged_between ["self", "low", "high", "version"] (defScope s_Listing_unchanged_between) := ⟨rfl, rfl, rfl, by decide +kernel, rfl, by decide +kernel, by decide +kernel⟩
abbrev s_Listing_keys_before : Stmt := inClass (topS 9) 11
abbrev N_Listing_keys_before : List Str := ["self", "mark", "limit", "rank"]
theorem sc_Listing_keys_before : FnScope N_Listing_keys_before ["self", "mark", "limit"] (defScope s_Listing_keys_before) := ⟨rfl, rfl, rfl, by decide +kernel, rfl, by decide +kernel, by decide +kernel⟩
abbrev s_Listing_keys_after : Stmt := inClass (topS 9) 10
abbrev N_Listing_keys_after : List Str := ["self", "mark", "limit", "rank"]
theorem sc_Listing_keys_after : FnScope N_Listing_keys_after ["self", "mark", "limit"] (defScope s_Listing_keys_after) := ⟨rfl, rfl, rfl, by decide +kernel, rfl, by decide +kernel, by decide +kernel⟩
abbrev s__law_marks_right : Stmt := topS 29
abbrev N__law_marks_right : List Str := ["tape", "listing", "view", "factor", "pairs", "low", "high", "ranks", "inside", "version", "limit", "turn", "after", "before", "mark", "pair"]
theorem sc__law_marks_right : FnScope N__law_marks_right ["tape", "listing", "view", "factor", "pairs"] (defScope s__law_marks_right) := ⟨rfl, rfl, rfl, by decide +kernel, rfl, by decide +kernel, by decide +kernel⟩
abbrev s_Listing___init__ : Stmt := inClass (topS 9) 0
abbrev N_Listing___init__ : List Str := ["self", "view"]
theorem sc_Listing___init__ : FnScope N_Listing___init__ ["self", "view"] (defScope s_Listing___init__) := ⟨rfl, rfl, rfl, by decide +kernel, rfl, by decide +kernel, by decide +kernel⟩
abbrev s_Listing_drop_key : Stmt := inClass (topS 9) 3
abbrev N_Listing_drop_key : List Str := ["self", "key", "place", "rank"]
theorem sc_Listing_drop_key : FnScope N_Listing_drop_key ["self", "key"] (defScope s_Listing_drop_key) := ⟨rfl, rfl, rfl, by decide +kernel, rfl, by decide +kernel, by decide +kernel⟩
abbrev s_Listing_add_key : Stmt := inClass (topS 9) 2
abbrev N_Listing_add_key : List Str := ["self", "key", "changed", "place", "rank"]
theorem sc_Listing_add_key : FnScope N_Listing_add_key ["self", "key", "changed"] (defScope s_Listing_add_key) := ⟨rfl, rfl, rfl, by decide +kernel, rfl, by decide +kernel, by decide +kernel⟩
abbrev s_law : Stmt := topS 30
abbrev N_law : List Str := ["script", "start", "tape", "width", "view", "listing", "factor", "pairs", "key", "there", "changed", "place", "pair"]
theorem sc_law : FnScope N_law ["script"] (defScope s_law) := ⟨rfl, rfl, rfl, by decide +kernel, rfl, by decide +kernel, by decide +kernel⟩
/-- what the top has left -/
structure Txt (K : PySem.W.Frag) (mg : Str → Option Value) where
  a_kind_place : Addr
  f_kind_place : FuncData
  F_kind_place : Fun K "kind_place" "kind_place" s_kind_place a_kind_place f_kind_place
  b_kind_place : Binds K f_kind_place ["value"] []
  g_kind_place : mg "kind_place" = some (.ref a_kind_place)
  a_value_place : Addr
  f_value_place : FuncData
  F_value_place : Fun K "value_place" "value_place" s_value_place a_value_place f_value_place
  b_value_place : Binds K f_value_place ["value", "descending"] []
  g_value_place : mg "value_place" = some (.ref a_value_place)
  a_key_place : Addr
  f_key_place : FuncData
  F_key_place : Fun K "key_place" "key_place" s_key_place a_key_place f_key_place
  b_key_place : Binds K f_key_place ["view", "key"] []
  g_key_place : mg "key_place" = some (.ref a_key_place)
  a_first_from : Addr
  f_first_from : FuncData
  F_first_from : Fun K "first_from" "first_from" s_first_from a_first_from f_first_from
  b_first_from : Binds K f_first_from ["places", "place"] []
  g_first_from : mg "first_from" = some (.ref a_first_from)
  a__law_tape : Addr
  f__law_tape : FuncData
  F__law_tape : Fun K "_law_tape" "_law_tape" s__law_tape a__law_tape f__law_tape
  b__law_tape : Binds K f__law_tape ["script", "start"] []
  g__law_tape : mg "_law_tape" = some (.ref a__law_tape)
  a__law_pick : Addr
  f__law_pick : FuncData
  F__law_pick : Fun K "_law_pick" "_law_pick" s__law_pick a__law_pick f__law_pick
  b__law_pick : Binds K f__law_pick ["tape", "size"] []
  g__law_pick : mg "_law_pick" = some (.ref a__law_pick)
  a__law_one_of : Addr
  f__law_one_of : FuncData
  F__law_one_of : Fun K "_law_one_of" "_law_one_of" s__law_one_of a__law_one_of f__law_one_of
  b__law_one_of : Binds K f__law_one_of ["tape", "items"] []
  g__law_one_of : mg "_law_one_of" = some (.ref a__law_one_of)
  a__law_value : Addr
  f__law_value : FuncData
  F__law_value : Fun K "_law_value" "_law_value" s__law_value a__law_value f__law_value
  b__law_value : Binds K f__law_value ["tape"] []
  g__law_value : mg "_law_value" = some (.ref a__law_value)
  a__law_values : Addr
  f__law_values : FuncData
  F__law_values : Fun K "_law_values" "_law_values" s__law_values a__law_values f__law_values
  b__law_values : Binds K f__law_values ["tape", "width"] []
  g__law_values : mg "_law_values" = some (.ref a__law_values)
  a__law_test : Addr
  f__law_test : FuncData
  F__law_test : Fun K "_law_test" "_law_test" s__law_test a__law_test f__law_test
  b__law_test : Binds K f__law_test ["tape", "width"] []
  g__law_test : mg "_law_test" = some (.ref a__law_test)
  a__law_condition : Addr
  f__law_condition : FuncData
  F__law_condition : Fun K "_law_condition" "_law_condition" s__law_condition a__law_condition f__law_condition
  b__law_condition : Binds K f__law_condition ["tape", "width", "depth"] []
  g__law_condition : mg "_law_condition" = some (.ref a__law_condition)
  a__law_view : Addr
  f__law_view : FuncData
  F__law_view : Fun K "_law_view" "_law_view" s__law_view a__law_view f__law_view
  b__law_view : Binds K f__law_view ["tape", "width"] []
  g__law_view : mg "_law_view" = some (.ref a__law_view)
  a__law_rank : Addr
  f__law_rank : FuncData
  F__law_rank : Fun K "_law_rank" "_law_rank" s__law_rank a__law_rank f__law_rank
  b__law_rank : Binds K f__law_rank ["value"] []
  g__law_rank : mg "_law_rank" = some (.ref a__law_rank)
  a__law_key : Addr
  f__law_key : FuncData
  F__law_key : Fun K "_law_key" "_law_key" s__law_key a__law_key f__law_key
  b__law_key : Binds K f__law_key ["view", "number", "values"] []
  g__law_key : mg "_law_key" = some (.ref a__law_key)
  a__law_sign : Addr
  f__law_sign : FuncData
  F__law_sign : Fun K "_law_sign" "_law_sign" s__law_sign a__law_sign f__law_sign
  b__law_sign : Binds K f__law_sign ["view", "first", "second"] []
  g__law_sign : mg "_law_sign" = some (.ref a__law_sign)
  a__law_past : Addr
  f__law_past : FuncData
  F__law_past : Fun K "_law_past" "_law_past" s__law_past a__law_past f__law_past
  b__law_past : Binds K f__law_past ["view", "mark", "key"] []
  g__law_past : mg "_law_past" = some (.ref a__law_past)
  a__law_mark : Addr
  f__law_mark : FuncData
  F__law_mark : Fun K "_law_mark" "_law_mark" s__law_mark a__law_mark f__law_mark
  b__law_mark : Binds K f__law_mark ["tape", "view", "width"] []
  g__law_mark : mg "_law_mark" = some (.ref a__law_mark)
  a__law_marks : Addr
  f__law_marks : FuncData
  F__law_marks : Fun K "_law_marks" "_law_marks" s__law_marks a__law_marks f__law_marks
  b__law_marks : Binds K f__law_marks ["tape", "view", "width"] []
  g__law_marks : mg "_law_marks" = some (.ref a__law_marks)
  a__law_keys : Addr
  f__law_keys : FuncData
  F__law_keys : Fun K "_law_keys" "_law_keys" s__law_keys a__law_keys f__law_keys
  b__law_keys : Binds K f__law_keys ["tape", "view", "width", "size"] []
  g__law_keys : mg "_law_keys" = some (.ref a__law_keys)
  a__law_inserted : Addr
  f__law_inserted : FuncData
  F__law_inserted : Fun K "_law_inserted" "_law_inserted" s__law_inserted a__law_inserted f__law_inserted
  b__law_inserted : Binds K f__law_inserted ["view", "pairs", "key", "changed"] []
  g__law_inserted : mg "_law_inserted" = some (.ref a__law_inserted)
  a_Listing_key_at : Addr
  f_Listing_key_at : FuncData
  F_Listing_key_at : Fun K "key_at" "Listing.key_at" s_Listing_key_at a_Listing_key_at f_Listing_key_at
  b_Listing_key_at : Binds K f_Listing_key_at ["self", "place"] []
  a__law_at : Addr
  f__law_at : FuncData
  F__law_at : Fun K "_law_at" "_law_at" s__law_at a__law_at f__law_at
  b__law_at : Binds K f__law_at ["listing", "place"] []
  g__law_at : mg "_law_at" = some (.ref a__law_at)
  a_Listing___len__ : Addr
  f_Listing___len__ : FuncData
  F_Listing___len__ : Fun K "__len__" "Listing.__len__" s_Listing___len__ a_Listing___len__ f_Listing___len__
  b_Listing___len__ : Binds K f_Listing___len__ ["self"] []
  a_Listing__holds : Addr
  f_Listing__holds : FuncData
  F_Listing__holds : Fun K "_holds" "Listing._holds" s_Listing__holds a_Listing__holds f_Listing__holds
  b_Listing__holds : Binds K f_Listing__holds ["self", "rank", "place"] []
  a_Listing_rank_of : Addr
  f_Listing_rank_of : FuncData
  F_Listing_rank_of : Fun K "rank_of" "Listing.rank_of" s_Listing_rank_of a_Listing_rank_of f_Listing_rank_of
  b_Listing_rank_of : Binds K f_Listing_rank_of ["self", "mark"] []
  a_Listing__versions_between : Addr
  f_Listing__versions_between : FuncData
  F_Listing__versions_between : Fun K "_versions_between" "Listing._versions_between" s_Listing__versions_between a_Listing__versions_between f_Listing__versions_between
  b_Listing__versions_between : Binds K f_Listing__versions_between ["self", "low", "high"] []
  a_Listing_count_between : Addr
  f_Listing_count_between : FuncData
  F_Listing_count_between : Fun K "count_between" "Listing.count_between" s_Listing_count_between a_Listing_count_between f_Listing_count_between
  b_Listing_count_between : Binds K f_Listing_count_between ["self", "low", "high"] []
  a_Listing_unchanged_between : Addr
  f_Listing_unchanged_between : FuncData
  F_Listing_unchanged_between : Fun K "unchanged_between" "Listing.unchanged_between" s_Listing_unchanged_between a_Listing_unchanged_between f_Listing_unchanged_between
  b_Listing_unchanged_between : Binds K f_Listing_unchanged_between ["self", "low", "high", "version"] []
  a_Listing_keys_before : Addr
  f_Listing_keys_before : FuncData
  F_Listing_keys_before : Fun K "keys_before" "Listing.keys_before" s_Listing_keys_before a_Listing_keys_before f_Listing_keys_before
  b_Listing_keys_before : Binds K f_Listing_keys_before ["self", "mark", "limit"] []
  a_Listing_keys_after : Addr
  f_Listing_keys_after : FuncData
  F_Listing_keys_after : Fun K "keys_after" "Listing.keys_after" s_Listing_keys_after a_Listing_keys_after f_Listing_keys_after
  b_Listing_keys_after : Binds K f_Listing_keys_after ["self", "mark", "limit"] []
  a__law_marks_right : Addr
  f__law_marks_right : FuncData
  F__law_marks_right : Fun K "_law_marks_right" "_law_marks_right" s__law_marks_right a__law_marks_right f__law_marks_right
  b__law_marks_right : Binds K f__law_marks_right ["tape", "listing", "view", "factor", "pairs"] []
  g__law_marks_right : mg "_law_marks_right" = some (.ref a__law_marks_right)
  a_Listing___init__ : Addr
  f_Listing___init__ : FuncData
  F_Listing___init__ : Fun K "__init__" "Listing.__init__" s_Listing___init__ a_Listing___init__ f_Listing___init__
  b_Listing___init__ : Binds K f_Listing___init__ ["self", "view"] []
  a_Listing_drop_key : Addr
  f_Listing_drop_key : FuncData
  F_Listing_drop_key : Fun K "drop_key" "Listing.drop_key" s_Listing_drop_key a_Listing_drop_key f_Listing_drop_key
  b_Listing_drop_key : Binds K f_Listing_drop_key ["self", "key"] []
  a_Listing_add_key : Addr
  f_Listing_add_key : FuncData
  F_Listing_add_key : Fun K "add_key" "Listing.add_key" s_Listing_add_key a_Listing_add_key f_Listing_add_key
  b_Listing_add_key : Binds K f_Listing_add_key ["self", "key", "changed"] []
  a_law : Addr
  f_law : FuncData
  F_law : Fun K "law" "law" s_law a_law f_law
  b_law : Binds K f_law ["script"] []
  g_law : mg "law" = some (.ref a_law)
  C_Listing : Addr
  K_Listing : ClsAt K "Listing" C_Listing
  g_Listing : mg "Listing" = some (.ref C_Listing)
  na_Listing__keys : NoAttr K C_Listing "_keys"
  na_Listing__places : NoAttr K C_Listing "_places"
  na_Listing__versions : NoAttr K C_Listing "_versions"
  na_Listing__view : NoAttr K C_Listing "_view"
  M_Listing__holds : Meth K C_Listing "_holds" a_Listing__holds
  M_Listing__versions_between : Meth K C_Listing "_versions_between" a_Listing__versions_between
  M_Listing_add_key : Meth K C_Listing "add_key" a_Listing_add_key
  M_Listing_count_between : Meth K C_Listing "count_between" a_Listing_count_between
  M_Listing_drop_key : Meth K C_Listing "drop_key" a_Listing_drop_key
  M_Listing_key_at : Meth K C_Listing "key_at" a_Listing_key_at
  M_Listing_keys_after : Meth K C_Listing "keys_after" a_Listing_keys_after
  M_Listing_keys_before : Meth K C_Listing "keys_before" a_Listing_keys_before
  M_Listing_rank_of : Meth K C_Listing "rank_of" a_Listing_rank_of
  M_Listing_unchanged_between : Meth K C_Listing "unchanged_between" a_Listing_unchanged_between
  mk_Listing : Mk K C_Listing a_Listing___init__
  fi_Listing : PySem.W.findIn K (.ref C_Listing) "__len__" = some (some (.ref a_Listing___len__))
  ty_Listing : PySem.W.typeIn K (.ref a_Listing___len__) = some (.type "function")
  X_BadCount : Addr
  I_BadCount : Addr
  E_BadCount : ErrTxt K "BadCount" "BadCount.__init__" "count" X_BadCount I_BadCount
  ge_BadCount : mg "BadCount" = some (.ref X_BadCount)
  n_enumerate : mg "enumerate" = none
  n_isinstance : mg "isinstance" = none
  n_len : mg "len" = none
  n_list : mg "list" = none
  n_max : mg "max" = none
  n_min : mg "min" = none
  n_ord : mg "ord" = none
  n_range : mg "range" = none
  n_repr : mg "repr" = none
  n_str : mg "str" = none
  n_tuple : mg "tuple" = none
  n_zip : mg "zip" = none
variable {P : Program} {w : World} {K : PySem.W.Frag} {mg : Str → Option Value} {base : Heap}
noncomputable abbrev q_kind_place_0t_0 : FS := (sRet (fC (.int 0)))
noncomputable abbrev q_kind_place_0 : FS := (sIf (fTest (fOp opIs (fVar 0) (fC .non))) q_kind_place_0t_0 sNil)
noncomputable abbrev q_kind_place_1t_0 : FS := (sRet (fC (.int 2)))
noncomputable abbrev q_kind_place_1 : FS := (sIf (fTest (fIsi "str" (fVar 0))) q_kind_place_1t_0 sNil)
noncomputable abbrev q_kind_place_2 : FS := (sRet (fC (.int 1)))
noncomputable def g_kind_place : FS := (sSeq q_kind_place_0 (sSeq q_kind_place_1 q_kind_place_2))
noncomputable def m_kind_place : FM := mOf N_kind_place.length g_kind_place
theorem d_kind_place (T : Txt K mg) : FnD P w K mg base 1 T.a_kind_place T.f_kind_place ["value"] m_kind_place := FnD.of T.F_kind_place sc_kind_place fun cd A outer s H gx => (ds_cons (ds_if (dt_cmp ok_is (de_var 0) de_non) (ds_one (ds_ret de_int)) ds_nil) (ds_cons (ds_if (dt_val (de_isi (T := "str") (de_var 0) (by decide) (by rfl) T.n_isinstance (by rfl) T.n_str (by decide +kernel))) (ds_one (ds_ret de_int)) ds_nil) (ds_one (ds_ret de_int))))
noncomputable abbrev q_value_place_0 : FS := (sAsg (fCall m_kind_place (aCons (fVar 0) aNil)) (gN 2))
noncomputable abbrev q_value_place_1t_0 : FS := (sRet (fMk mkTup (aCons (fVar 2) aNil)))
noncomputable abbrev q_value_place_1 : FS := (sIf (fTest (fOp opIs (fVar 0) (fC .non))) q_value_place_1t_0 sNil)
noncomputable abbrev q_value_place_2t_0 : FS := (sRet (fMk mkTup (aCons (fVar 2) (aCons (fVar 0) aNil))))
noncomputable abbrev q_value_place_2 : FS := (sIf (fNotT (fTest (fVar 1))) q_value_place_2t_0 sNil)
noncomputable abbrev q_value_place_3t_0 : FS := (sAsg (fComp (iOf asStr (fVar 0)) [4] b1 tTrue (fUn negI (fMk bOrd (aCons (fVar 4) aNil)))) (gN 3))
noncomputable abbrev q_value_place_3t_1 : FS := (sRet (fMk mkTup (aCons (fUn negI (fVar 2)) (aCons (fMk mkTup (aStar (fVar 3) (aCons (fC (.int 1)) aNil))) aNil))))
noncomputable abbrev q_value_place_3 : FS := (sIf (fTest (fIsi "str" (fVar 0))) (sSeq q_value_place_3t_0 q_value_place_3t_1) sNil)
noncomputable abbrev q_value_place_4 : FS := (sRet (fMk mkTup (aCons (fUn negI (fVar 2)) (aCons (fUn negI (fVar 0)) aNil))))
noncomputable def g_value_place : FS := (sSeq q_value_place_0 (sSeq q_value_place_1 (sSeq q_value_place_2 (sSeq q_value_place_3 q_value_place_4))))
noncomputable def m_value_place : FM := mOf N_value_place.length g_value_place
theorem d_value_place (T : Txt K mg) : FnD P w K mg base 2 T.a_value_place T.f_value_place ["value", "descending"] m_value_place := FnD.of T.F_value_place sc_value_place fun cd A outer s H gx => (ds_cons (ds_asg (de_call ((d_kind_place T).up (by decide)) gx (by rfl) T.g_kind_place T.F_kind_place.kp T.b_kind_place (da_cons (de_var 0) da_nil) (hn := (aCons_n aNil_n))) (dg_name 2 gx.nd)) (ds_cons (ds_if (dt_cmp ok_is (de_var 0) de_non) (ds_one (ds_ret (de_tup (da_cons (de_var 2) da_nil)))) ds_nil) (ds_cons (ds_if (dt_not (dt_val (de_var 1))) (ds_one (ds_ret (de_tup (da_cons (de_var 2) (da_cons (de_var 0) da_nil))))) ds_nil) (ds_cons (ds_if (dt_val (de_isi (T := "str") (de_var 0) (by decide) (by rfl) T.n_isinstance (by rfl) T.n_str (by decide +kernel))) (ds_cons (ds_setLc (own := [("sign", 4)]) (i := 3) gx.calm gx.nd rfl rfl (sw_true rfl rfl rfl (by decide +kernel)) (di_str (de_var 0)) (blkOk_by (N := N_value_place) (sc := defScope s_value_place) (by decide +kernel)) (tg1 4) (fun _ _ _ _ _ => (pg_name (i := 4) gx.nd rfl (.inl rfl))) (fun _ _ _ _ _ => dts_nil) (fun _ _ _ _ _ => (de_neg (de_callB (id := "ord") ok_ord (by rfl) T.n_ord (by decide +kernel) (da_cons (de_var 4) da_nil))))) (ds_one (ds_ret (de_tup (da_cons (de_neg (de_var 2)) (da_cons (de_tup (da_star (de_var 3) (da_cons de_int da_nil))) da_nil)))))) ds_nil) (ds_one (ds_ret (de_tup (da_cons (de_neg (de_var 2)) (da_cons (de_neg (de_var 0)) da_nil)))))))))
noncomputable abbrev q_key_place_0 : FS := (sAsg (fComp (iOfA asZip (aCons (fVar 1) (aCons (fSub (fVar 0) (fC (.int 1))) aNil))) [3, 4, 5] (bTup 2 (bCons b1 (bCons (bTup 2 (bCons b1 (bCons b1 bNil))) bNil))) tTrue (fCall m_value_place (aCons (fVar 3) (aCons (fVar 5) aNil)))) (gN 2))
noncomputable abbrev q_key_place_1 : FS := (sRet (fMk mkTup (aStar (fVar 2) (aCons (fSub (fVar 1) (fUn negI (fC (.int 1)))) aNil))))
noncomputable def g_key_place : FS := (sSeq q_key_place_0 q_key_place_1)
noncomputable def m_key_place : FM := mOf N_key_place.length g_key_place
theorem d_key_place (T : Txt K mg) : FnD P w K mg base 3 T.a_key_place T.f_key_place ["view", "key"] m_key_place := FnD.of T.F_key_place sc_key_place fun cd A outer s H gx => (ds_cons (ds_setLc (own := [("value", 3), ("column", 4), ("descending", 5)]) (i := 2) gx.calm gx.nd rfl rfl (sw_true rfl rfl rfl (by decide +kernel)) (di_zip (by rfl) T.n_zip (da_cons (de_var 1) (da_cons (de_sub gx (de_var 0) de_int) da_nil))) (blkOk_by (N := N_key_place) (sc := defScope s_key_place) (by decide +kernel)) (tg_tup (n := 2) (tgs_cons (tg1 3) b1_n (tgs_cons (tg_tupR (n := 2) (tgs_cons (tg1 4) b1_n (tgs_cons (tg1 5) b1_n tgs_nil))) (bTup_n (bCons_n b1_n (bCons_n b1_n bNil_n))) tgs_nil))) (fun _ _ _ _ _ => (pg_tup (n := 2) gx.calm (pgs_cons (pg_name (i := 3) gx.nd rfl (.inl rfl)) (pgs_cons (pg_tup (n := 2) gx.calm (pgs_cons (pg_name (i := 4) gx.nd rfl (.inl rfl)) (pgs_cons (pg_name (i := 5) gx.nd rfl (.inl rfl)) pgs_nil))) pgs_nil)))) (fun _ _ _ _ _ => dts_nil) (fun _ _ _ _ _ => (de_call ((d_value_place T).up (by decide)) gx.blk (by rfl) T.g_value_place T.F_value_place.kp T.b_value_place (da_cons (de_var 3) (da_cons (de_var 5) da_nil)) (hn := (aCons_n (aCons_n aNil_n)))))) (ds_one (ds_ret (de_tup (da_star (de_var 2) (da_cons (de_sub gx (de_var 1) (de_neg de_int)) da_nil))))))
noncomputable abbrev q_first_from_0 : FS := (sAsg (fC (.int 0)) (gN 2))
noncomputable abbrev q_first_from_1 : FS := (sAsg (fMk bLen (aCons (fVar 0) aNil)) (gN 3))
noncomputable abbrev q_first_from_2w_0 : FS := (sAsg (fOp fdivI (fOp opAdd (fVar 2) (fVar 3)) (fC (.int 2))) (gN 4))
noncomputable abbrev q_first_from_2w_1t_0 : FS := (sAsg (fOp opAdd (fVar 4) (fC (.int 1))) (gN 2))
noncomputable abbrev q_first_from_2w_1e_0 : FS := (sAsg (fVar 4) (gN 3))
noncomputable abbrev q_first_from_2w_1 : FS := (sIf (fTest (fOp ltN (fSub (fVar 0) (fVar 4)) (fVar 1))) q_first_from_2w_1t_0 q_first_from_2w_1e_0)
noncomputable abbrev q_first_from_2 : FS := (sWhile (fTest (fOp opLt (fVar 2) (fVar 3))) (sSeq q_first_from_2w_0 q_first_from_2w_1))
noncomputable abbrev q_first_from_3 : FS := (sRet (fVar 2))
noncomputable def g_first_from : FS := (sSeq q_first_from_0 (sSeq q_first_from_1 (sSeq q_first_from_2 q_first_from_3)))
noncomputable def m_first_from : FM := mOf N_first_from.length g_first_from
theorem d_first_from (T : Txt K mg) : FnD P w K mg base 1 T.a_first_from T.f_first_from ["places", "place"] m_first_from := FnD.of T.F_first_from sc_first_from fun cd A outer s H gx => (ds_cons (ds_asg de_int (dg_name 2 gx.nd)) (ds_cons (ds_asg (de_callB (id := "len") ok_len (by rfl) T.n_len (by decide +kernel) (da_cons (de_var 0) da_nil)) (dg_name 3 gx.nd)) (ds_cons (ds_while PassesOwn.never (dt_cmp ok_lt (de_var 2) (de_var 3)) (ds_cons (ds_asg (de_op ok_fdivI (de_op ok_add (de_var 2) (de_var 3)) de_int) (dg_name 4 gx.nd)) (ds_one (ds_if (dt_cmp (ok_ltN gx) (de_sub gx (de_var 0) (de_var 4)) (de_var 1)) (ds_one (ds_asg (de_op ok_add (de_var 4) de_int) (dg_name 2 gx.nd))) (ds_one (ds_asg (de_var 4) (dg_name 3 gx.nd))))))) (ds_one (ds_ret (de_var 2))))))
noncomputable abbrev q__law_tape_0 : FS := (sAsg (fOp opAdd (fC (.int 97)) (fOp opMul (fVar 1) (fC (.int 31)))) (gN 2))
noncomputable abbrev q__law_tape_1l_0 : FS := (sAsg (fOp opAdd (fOp modI (fOp powI (fOp opAdd (fOp opAdd (fOp opMul (fVar 2) (fC (.int 30011))) (fOp opMul (fVar 3) (fVar 3))) (fC (.int 7))) (fC (.int 2))) (fC (.int 2147483563))) (fC (.int 2))) (gN 2))
noncomputable abbrev q__law_tape_1 : FS := (sFor (iOf asScr (fVar 0)) (gN 3) q__law_tape_1l_0)
noncomputable abbrev q__law_tape_2 : FS := (sAsg (fIfE (fAndT (fTest (fOp opLt (fVar 1) (fMk bLen (aCons (fVar 0) aNil)))) (fTest (fOp opGe (fSub (fVar 0) (fVar 1)) (fOp powI (fC (.int 10)) (fC (.int 18)))))) (fOp subI (fSub (fVar 0) (fVar 1)) (fOp powI (fC (.int 10)) (fC (.int 18)))) (fC (.int 0))) (gN 4))
noncomputable abbrev q__law_tape_3 : FS := (sRet (fDict (((fC (.str (Str.ofString "digits"))), (fVar 4)) :: (((fC (.str (Str.ofString "mixed"))), (fVar 2)) :: []))))
noncomputable def g__law_tape : FS := (sSeq q__law_tape_0 (sSeq q__law_tape_1 (sSeq q__law_tape_2 q__law_tape_3)))
noncomputable def m__law_tape : FM := mOf N__law_tape.length g__law_tape
theorem d__law_tape (T : Txt K mg) : FnD P w K mg base 1 T.a__law_tape T.f__law_tape ["script", "start"] m__law_tape := FnD.of T.F__law_tape sc__law_tape fun cd A outer s H gx => (ds_cons (ds_asg (de_op ok_add de_int (de_op ok_mul (de_var 1) de_int)) (dg_name 2 gx.nd)) (ds_cons (ds_forR PassesOwn.never gx.calm (di_scr (de_var 0)) (dg_name 3 gx.nd) (ds_one (ds_asg (de_op ok_add (de_op ok_modI (de_op ok_powI (de_op ok_add (de_op ok_add (de_op ok_mul (de_var 2) de_int) (de_op ok_mul (de_var 3) (de_var 3))) de_int) de_int) de_int) de_int) (dg_name 2 gx.nd)))) (ds_cons (ds_asg (de_if (dt_w (dw_and (dt_cmp ok_lt (de_var 1) (de_callB (id := "len") ok_len (by rfl) T.n_len (by decide +kernel) (da_cons (de_var 0) da_nil))) (dw_and1 (dt_cmp ok_ge (de_sub gx (de_var 0) (de_var 1)) (de_op ok_powI de_int de_int))))) (de_op ok_subI (de_sub gx (de_var 0) (de_var 1)) (de_op ok_powI de_int de_int)) de_int) (dg_name 4 gx.nd)) (ds_one (ds_ret (de_dict (.cons de_str (de_var 4) (.cons de_str (de_var 2) .nil))))))))
noncomputable abbrev q__law_pick_0t_0 : FS := (sAsg (fOp modI (fSub (fVar 0) (fC (.str (Str.ofString "digits")))) (fVar 1)) (gN 2))
noncomputable abbrev q__law_pick_0t_1 : FS := (sPut (fVar 0) (fC (.str (Str.ofString "digits"))) (fOp fdivI (fSub (fVar 0) (fC (.str (Str.ofString "digits")))) (fVar 1)))
noncomputable abbrev q__law_pick_0t_2 : FS := (sRet (fVar 2))
noncomputable abbrev q__law_pick_0 : FS := (sIf (fTest (fOp opGe (fSub (fVar 0) (fC (.str (Str.ofString "digits")))) (fVar 1))) (sSeq q__law_pick_0t_0 (sSeq q__law_pick_0t_1 q__law_pick_0t_2)) sNil)
noncomputable abbrev q__law_pick_1 : FS := (sPut (fVar 0) (fC (.str (Str.ofString "mixed"))) (fOp modI (fOp opAdd (fOp opMul (fSub (fVar 0) (fC (.str (Str.ofString "mixed")))) (fC (.int 40014))) (fC (.int 1013))) (fC (.int 2147483563))))
noncomputable abbrev q__law_pick_2 : FS := (sRet (fOp modI (fOp fdivI (fOp modI (fOp powI (fOp modI (fOp powI (fSub (fVar 0) (fC (.str (Str.ofString "mixed")))) (fC (.int 2))) (fC (.int 2147483399))) (fC (.int 3))) (fC (.int 998244353))) (fC (.int 5))) (fVar 1)))
noncomputable def g__law_pick : FS := (sSeq q__law_pick_0 (sSeq q__law_pick_1 q__law_pick_2))
noncomputable def m__law_pick : FM := mOf N__law_pick.length g__law_pick
theorem d__law_pick (T : Txt K mg) : FnD P w K mg base 1 T.a__law_pick T.f__law_pick ["tape", "size"] m__law_pick := FnD.of T.F__law_pick sc__law_pick fun cd A outer s H gx => (ds_cons (ds_if (dt_cmp ok_ge (de_sub gx (de_var 0) de_str) (de_var 1)) (ds_cons (ds_asg (de_op ok_modI (de_sub gx (de_var 0) de_str) (de_var 1)) (dg_name 2 gx.nd)) (ds_cons (ds_put gx (de_var 0) de_str (de_op ok_fdivI (de_sub gx (de_var 0) de_str) (de_var 1))) (ds_one (ds_ret (de_var 2))))) ds_nil) (ds_cons (ds_put gx (de_var 0) de_str (de_op ok_modI (de_op ok_add (de_op ok_mul (de_sub gx (de_var 0) de_str) de_int) de_int) de_int)) (ds_one (ds_ret (de_op ok_modI (de_op ok_fdivI (de_op ok_modI (de_op ok_powI (de_op ok_modI (de_op ok_powI (de_sub gx (de_var 0) de_str) de_int) de_int) de_int) de_int) de_int) (de_var 1))))))
noncomputable abbrev q__law_one_of_0 : FS := (sRet (fSub (fVar 1) (fCall m__law_pick (aCons (fVar 0) (aCons (fMk bLen (aCons (fVar 1) aNil)) aNil)))))
noncomputable def g__law_one_of : FS := q__law_one_of_0
noncomputable def m__law_one_of : FM := mOf N__law_one_of.length g__law_one_of
theorem d__law_one_of (T : Txt K mg) : FnD P w K mg base 2 T.a__law_one_of T.f__law_one_of ["tape", "items"] m__law_one_of := FnD.of T.F__law_one_of sc__law_one_of fun cd A outer s H gx => (ds_one (ds_ret (de_sub gx (de_var 1) (de_call ((d__law_pick T).up (by decide)) gx (by rfl) T.g__law_pick T.F__law_pick.kp T.b__law_pick (da_cons (de_var 0) (da_cons (de_callB (id := "len") ok_len (by rfl) T.n_len (by decide +kernel) (da_cons (de_var 1) da_nil)) da_nil)) (hn := (aCons_n (aCons_n aNil_n)))))))
noncomputable abbrev q__law_value_0t_0 : FS := (sAsg (fC (.str (Str.ofString " !#$&'()*+,-./0123456789:;<=>?@ABCDEFGHIJKLMNOPQRSTUVWXYZ[]^_{|}~"))) (gN 1))
noncomputable abbrev q__law_value_0t_1 : FS := (sAsg (fMk bList (aCons (fOp opAdd (fVar 1) (fC (.str (Str.ofString "abcdefghijklmnopqrstuvwxyz")))) aNil)) (gN 1))
noncomputable abbrev q__law_value_0t_2 : FS := (sRet (fMt joinD (fC (.str (Str.ofString ""))) (aCons (fComp (iOfA asR1 (aCons (fOp opAdd (fC (.int 1)) (fCall m__law_pick (aCons (fVar 0) (aCons (fC (.int 20)) aNil)))) aNil)) [3] b1 tTrue (fCall m__law_one_of (aCons (fVar 0) (aCons (fVar 1) aNil)))) aNil)))
noncomputable abbrev q__law_value_0 : FS := (sIf (fTest (fOp opEq (fCall m__law_pick (aCons (fVar 0) (aCons (fC (.int 24)) aNil))) (fC (.int 0)))) (sSeq q__law_value_0t_0 (sSeq q__law_value_0t_1 q__law_value_0t_2)) sNil)
noncomputable abbrev q__law_value_1 : FS := (sAsg (fMk mkLst (aCons (fC .non) (aCons (fC (.int 0)) (aCons (fC (.int 1)) (aCons (fC (.int 2)) (aCons (fOp subI (fC (.int 0)) (fC (.int 1))) (aCons (fC (.int 1)) (aCons (fC (.int 2)) (aCons (fOp powI (fC (.int 10)) (fC (.int 9))) (aCons (fOp subI (fC (.int 0)) (fOp powI (fC (.int 10)) (fC (.int 9)))) (aCons (fC (.str (Str.ofString ""))) (aCons (fC (.str (Str.ofString "a"))) (aCons (fC (.str (Str.ofString "ab"))) (aCons (fC (.str (Str.ofString "b"))) (aCons (fC (.str (Str.ofString "a b"))) (aCons (fC (.str (Str.ofString "A"))) (aCons (fC (.str (Str.ofString "~"))) (aCons (fOp opMul (fC (.str (Str.ofString "z"))) (fC (.int 20))) aNil)))))))))))))))))) (gN 2))
noncomputable abbrev q__law_value_2 : FS := (sAsg (fOp opAdd (fVar 2) (fMk mkLst (aCons (fOp opMul (fC (.str (Str.ofString "z"))) (fC (.int 19))) (aCons (fC (.str (Str.ofString "customer one"))) (aCons (fC (.str (Str.ofString "customer two"))) (aCons (fC (.str (Str.ofString "1"))) (aCons (fC (.str (Str.ofString "-1"))) (aCons (fC (.int 2)) (aCons (fC (.str (Str.ofString "abc"))) (aCons (fC (.str (Str.ofString "abd"))) aNil)))))))))) (gN 2))
noncomputable abbrev q__law_value_3 : FS := (sRet (fCall m__law_one_of (aCons (fVar 0) (aCons (fVar 2) aNil))))
noncomputable def g__law_value : FS := (sSeq q__law_value_0 (sSeq q__law_value_1 (sSeq q__law_value_2 q__law_value_3)))
noncomputable def m__law_value : FM := mOf N__law_value.length g__law_value
theorem d__law_value (T : Txt K mg) : FnD P w K mg base 3 T.a__law_value T.f__law_value ["tape"] m__law_value := FnD.of T.F__law_value sc__law_value fun cd A outer s H gx => (ds_cons (ds_if (dt_cmp (ok_eq gx) (de_call ((d__law_pick T).up (by decide)) gx (by rfl) T.g__law_pick T.F__law_pick.kp T.b__law_pick (da_cons (de_var 0) (da_cons de_int da_nil)) (hn := (aCons_n (aCons_n aNil_n)))) de_int) (ds_cons (ds_asg de_str (dg_name 1 gx.nd)) (ds_cons (ds_asg (de_callTy (T := "list") (ok_list gx) (by rfl) T.n_list (by decide +kernel) (da_cons (de_op ok_add (de_var 1) de_str) da_nil)) (dg_name 1 gx.nd)) (ds_one (ds_ret (de_mt mt_join joinTy joinOk PySem.F.plainAttrs_str PySem.F.slot_str_join PySem.F.type_str_join de_str (da_cons (de_lc (own := [("turn", 3)]) gx.calm gx.nd (di_range1 (by rfl) T.n_range (da_cons (de_op ok_add de_int (de_call ((d__law_pick T).up (by decide)) gx (by rfl) T.g__law_pick T.F__law_pick.kp T.b__law_pick (da_cons (de_var 0) (da_cons de_int da_nil)) (hn := (aCons_n (aCons_n aNil_n))))) da_nil)) (blkOk_by (N := N__law_value) (sc := defScope s__law_value) (by decide +kernel)) (tg1 3) (fun _ _ _ _ _ => (pg_name (i := 3) gx.nd rfl (.inl rfl))) (fun _ _ _ _ _ => dts_nil) (fun _ _ _ _ _ => (de_call ((d__law_one_of T).up (by decide)) gx.blk (by rfl) T.g__law_one_of T.F__law_one_of.kp T.b__law_one_of (da_cons (de_var 0) (da_cons (de_var 1) da_nil)) (hn := (aCons_n (aCons_n aNil_n)))))) da_nil)))))) ds_nil) (ds_cons (ds_asg (de_lst (da_cons de_non (da_cons de_int (da_cons de_int (da_cons de_int (da_cons (de_op ok_subI de_int de_int) (da_cons de_int (da_cons de_int (da_cons (de_op ok_powI de_int de_int) (da_cons (de_op ok_subI de_int (de_op ok_powI de_int de_int)) (da_cons de_str (da_cons de_str (da_cons de_str (da_cons de_str (da_cons de_str (da_cons de_str (da_cons de_str (da_cons (de_op ok_mul de_str de_int) da_nil)))))))))))))))))) (dg_name 2 gx.nd)) (ds_cons (ds_asg (de_op ok_add (de_var 2) (de_lst (da_cons (de_op ok_mul de_str de_int) (da_cons de_str (da_cons de_str (da_cons de_str (da_cons de_str (da_cons de_int (da_cons de_str (da_cons de_str da_nil)))))))))) (dg_name 2 gx.nd)) (ds_one (ds_ret (de_call ((d__law_one_of T).up (by decide)) gx (by rfl) T.g__law_one_of T.F__law_one_of.kp T.b__law_one_of (da_cons (de_var 0) (da_cons (de_var 2) da_nil)) (hn := (aCons_n (aCons_n aNil_n)))))))))
noncomputable abbrev q__law_values_0 : FS := (sRet (fMk bTuple (aCons (fComp (iOfA asR1 (aCons (fVar 1) aNil)) [2] b1 tTrue (fCall m__law_value (aCons (fVar 0) aNil))) aNil)))
noncomputable def g__law_values : FS := q__law_values_0
noncomputable def m__law_values : FM := mOf N__law_values.length g__law_values
theorem d__law_values (T : Txt K mg) : FnD P w K mg base 4 T.a__law_values T.f__law_values ["tape", "width"] m__law_values := FnD.of T.F__law_values sc__law_values fun cd A outer s H gx => (ds_one (ds_ret (de_callTy (T := "tuple") ok_tuple (by rfl) T.n_tuple (by decide +kernel) (da_cons (de_lc (own := [("column", 2)]) gx.calm gx.nd (di_range1 (by rfl) T.n_range (da_cons (de_var 1) da_nil)) (blkOk_by (N := N__law_values) (sc := defScope s__law_values) (by decide +kernel)) (tg1 2) (fun _ _ _ _ _ => (pg_name (i := 2) gx.nd rfl (.inl rfl))) (fun _ _ _ _ _ => dts_nil) (fun _ _ _ _ _ => (de_call ((d__law_value T).up (by decide)) gx.blk (by rfl) T.g__law_value T.F__law_value.kp T.b__law_value (da_cons (de_var 0) da_nil) (hn := (aCons_n aNil_n))))) da_nil))))
noncomputable abbrev q__law_test_0 : FS := (sPar (par2 2 3) (aCons (fCall m__law_pick (aCons (fVar 0) (aCons (fVar 1) aNil))) (aCons (fCall m__law_pick (aCons (fVar 0) (aCons (fC (.int 6)) aNil))) aNil)))
noncomputable abbrev q__law_test_1t_0 : FS := (sRet (fMk mkTup (aCons (fC (.str (Str.ofString "all"))) aNil)))
noncomputable abbrev q__law_test_1 : FS := (sIf (fTest (fOp opEq (fVar 3) (fC (.int 0)))) q__law_test_1t_0 sNil)
noncomputable abbrev q__law_test_2t_0 : FS := (sRet (fMk mkTup (aCons (fC (.str (Str.ofString "equal"))) (aCons (fVar 2) (aCons (fCall m__law_value (aCons (fVar 0) aNil)) aNil)))))
noncomputable abbrev q__law_test_2 : FS := (sIf (fTest (fOp opEq (fVar 3) (fC (.int 1)))) q__law_test_2t_0 sNil)
noncomputable abbrev q__law_test_3t_0 : FS := (sRet (fMk mkTup (aCons (fC (.str (Str.ofString "less"))) (aCons (fVar 2) (aCons (fCall m__law_value (aCons (fVar 0) aNil)) aNil)))))
noncomputable abbrev q__law_test_3 : FS := (sIf (fTest (fOp opLt (fVar 3) (fC (.int 4)))) q__law_test_3t_0 sNil)
noncomputable abbrev q__law_test_4t_0 : FS := (sRet (fMk mkTup (aCons (fC (.str (Str.ofString "starts"))) (aCons (fVar 2) (aCons (fCall m__law_one_of (aCons (fVar 0) (aCons (fMk mkLst (aCons (fC (.str (Str.ofString "a"))) (aCons (fC (.str (Str.ofString "ab"))) (aCons (fC (.str (Str.ofString "b"))) (aCons (fC (.str (Str.ofString "A"))) (aCons (fC (.str (Str.ofString " "))) (aCons (fC (.str (Str.ofString "1"))) (aCons (fC (.str (Str.ofString "-"))) (aCons (fC (.str (Str.ofString "N"))) (aCons (fC (.str (Str.ofString "customer"))) (aCons (fC (.str (Str.ofString "abc"))) aNil))))))))))) aNil))) aNil)))))
noncomputable abbrev q__law_test_4 : FS := (sIf (fTest (fOp opEq (fVar 3) (fC (.int 4)))) q__law_test_4t_0 sNil)
noncomputable abbrev q__law_test_5 : FS := (sAsg (fOp opAdd (fC (.int 1)) (fCall m__law_one_of (aCons (fVar 0) (aCons (fMk mkLst (aCons (fCall m__law_pick (aCons (fVar 0) (aCons (fC (.int 4)) aNil))) (aCons (fOp opAdd (fC (.int 4)) (fCall m__law_pick (aCons (fVar 0) (aCons (fC (.int 4)) aNil)))) aNil))) aNil)))) (gN 4))
noncomputable abbrev q__law_test_6 : FS := (sRet (fMk mkTup (aCons (fC (.str (Str.ofString "one_of"))) (aCons (fVar 2) (aCons (fMk bTuple (aCons (fComp (iOfA asR1 (aCons (fVar 4) aNil)) [5] b1 tTrue (fCall m__law_value (aCons (fVar 0) aNil))) aNil)) aNil)))))
noncomputable def g__law_test : FS := (sSeq q__law_test_0 (sSeq q__law_test_1 (sSeq q__law_test_2 (sSeq q__law_test_3 (sSeq q__law_test_4 (sSeq q__law_test_5 q__law_test_6))))))
noncomputable def m__law_test : FM := mOf N__law_test.length g__law_test
theorem d__law_test (T : Txt K mg) : FnD P w K mg base 4 T.a__law_test T.f__law_test ["tape", "width"] m__law_test := FnD.of T.F__law_test sc__law_test fun cd A outer s H gx => (ds_cons (ds_par2 2 3 gx rfl rfl (by decide) rfl rfl (da_cons (de_call ((d__law_pick T).up (by decide)) gx (by rfl) T.g__law_pick T.F__law_pick.kp T.b__law_pick (da_cons (de_var 0) (da_cons (de_var 1) da_nil)) (hn := (aCons_n (aCons_n aNil_n)))) (da_cons (de_call ((d__law_pick T).up (by decide)) gx (by rfl) T.g__law_pick T.F__law_pick.kp T.b__law_pick (da_cons (de_var 0) (da_cons de_int da_nil)) (hn := (aCons_n (aCons_n aNil_n)))) da_nil))) (ds_cons (ds_if (dt_cmp (ok_eq gx) (de_var 3) de_int) (ds_one (ds_ret (de_tup (da_cons de_str da_nil)))) ds_nil) (ds_cons (ds_if (dt_cmp (ok_eq gx) (de_var 3) de_int) (ds_one (ds_ret (de_tup (da_cons de_str (da_cons (de_var 2) (da_cons (de_call ((d__law_value T).up (by decide)) gx (by rfl) T.g__law_value T.F__law_value.kp T.b__law_value (da_cons (de_var 0) da_nil) (hn := (aCons_n aNil_n))) da_nil)))))) ds_nil) (ds_cons (ds_if (dt_cmp ok_lt (de_var 3) de_int) (ds_one (ds_ret (de_tup (da_cons de_str (da_cons (de_var 2) (da_cons (de_call ((d__law_value T).up (by decide)) gx (by rfl) T.g__law_value T.F__law_value.kp T.b__law_value (da_cons (de_var 0) da_nil) (hn := (aCons_n aNil_n))) da_nil)))))) ds_nil) (ds_cons (ds_if (dt_cmp (ok_eq gx) (de_var 3) de_int) (ds_one (ds_ret (de_tup (da_cons de_str (da_cons (de_var 2) (da_cons (de_call ((d__law_one_of T).up (by decide)) gx (by rfl) T.g__law_one_of T.F__law_one_of.kp T.b__law_one_of (da_cons (de_var 0) (da_cons (de_lst (da_cons de_str (da_cons de_str (da_cons de_str (da_cons de_str (da_cons de_str (da_cons de_str (da_cons de_str (da_cons de_str (da_cons de_str (da_cons de_str da_nil))))))))))) da_nil)) (hn := (aCons_n (aCons_n aNil_n)))) da_nil)))))) ds_nil) (ds_cons (ds_asg (de_op ok_add de_int (de_call ((d__law_one_of T).up (by decide)) gx (by rfl) T.g__law_one_of T.F__law_one_of.kp T.b__law_one_of (da_cons (de_var 0) (da_cons (de_lst (da_cons (de_call ((d__law_pick T).up (by decide)) gx (by rfl) T.g__law_pick T.F__law_pick.kp T.b__law_pick (da_cons (de_var 0) (da_cons de_int da_nil)) (hn := (aCons_n (aCons_n aNil_n)))) (da_cons (de_op ok_add de_int (de_call ((d__law_pick T).up (by decide)) gx (by rfl) T.g__law_pick T.F__law_pick.kp T.b__law_pick (da_cons (de_var 0) (da_cons de_int da_nil)) (hn := (aCons_n (aCons_n aNil_n))))) da_nil))) da_nil)) (hn := (aCons_n (aCons_n aNil_n))))) (dg_name 4 gx.nd)) (ds_one (ds_ret (de_tup (da_cons de_str (da_cons (de_var 2) (da_cons (de_callTy (T := "tuple") ok_tuple (by rfl) T.n_tuple (by decide +kernel) (da_cons (de_lc (own := [("turn", 5)]) gx.calm gx.nd (di_range1 (by rfl) T.n_range (da_cons (de_var 4) da_nil)) (blkOk_by (N := N__law_test) (sc := defScope s__law_test) (by decide +kernel)) (tg1 5) (fun _ _ _ _ _ => (pg_name (i := 5) gx.nd rfl (.inl rfl))) (fun _ _ _ _ _ => dts_nil) (fun _ _ _ _ _ => (de_call ((d__law_value T).up (by decide)) gx.blk (by rfl) T.g__law_value T.F__law_value.kp T.b__law_value (da_cons (de_var 0) da_nil) (hn := (aCons_n aNil_n))))) da_nil)) da_nil))))))))))))
noncomputable def g__law_condition (rec_ : FM) : FS := (sSeq (sAsg (fCall m__law_pick (aCons (fVar 0) (aCons (fC (.int 6)) aNil))) (gN 3)) (sSeq (sIf (fOrT (fTest (fOp opEq (fVar 2) (fC (.int 0)))) (fTest (fOp opLt (fVar 3) (fC (.int 2))))) (sRet (fCall m__law_test (aCons (fVar 0) (aCons (fVar 1) aNil)))) sNil) (sSeq (sIf (fTest (fOp opEq (fVar 3) (fC (.int 2)))) (sRet (fMk mkTup (aCons (fC (.str (Str.ofString "not"))) (aCons (fCall rec_ (aCons (fVar 0) (aCons (fVar 1) (aCons (fOp subI (fVar 2) (fC (.int 1))) aNil)))) aNil)))) sNil) (sSeq (sAsg (fMk mkTup (aCons (fCall rec_ (aCons (fVar 0) (aCons (fVar 1) (aCons (fOp subI (fVar 2) (fC (.int 1))) aNil)))) (aCons (fCall rec_ (aCons (fVar 0) (aCons (fVar 1) (aCons (fOp subI (fVar 2) (fC (.int 1))) aNil)))) aNil))) (gN 4)) (sRet (fOp opAdd (fMk mkTup (aCons (fCall m__law_one_of (aCons (fVar 0) (aCons (fMk mkLst (aCons (fC (.str (Str.ofString "and"))) (aCons (fC (.str (Str.ofString "or"))) aNil))) aNil))) aNil)) (fVar 4)))))))
noncomputable def m__law_condition : Nat → FM
  | 0 => fun _ _ => none
  | n + 1 => mOf N__law_condition.length (g__law_condition (m__law_condition n))
theorem d__law_condition (T : Txt K mg) : ∀ n : Nat, FnD P w K mg base (4 + n) T.a__law_condition T.f__law_condition ["tape", "width", "depth"] (m__law_condition n)
  | 0 => FnD.nil
  | n + 1 => by
    have ih : FnD P w K mg base (4 + n) T.a__law_condition T.f__law_condition ["tape", "width", "depth"] (m__law_condition n) := d__law_condition T n
    exact FnD.of (k := 4 + n) T.F__law_condition sc__law_condition fun cd A outer s H gx => (ds_cons (ds_asg (de_call ((d__law_pick T).up (by omega)) gx (by rfl) T.g__law_pick T.F__law_pick.kp T.b__law_pick (da_cons (de_var 0) (da_cons de_int da_nil)) (hn := (aCons_n (aCons_n aNil_n)))) (dg_name 3 gx.nd)) (ds_cons (ds_if (dt_w (dw_or (dt_cmp (ok_eq gx) (de_var 2) de_int) (dw_or1 (dt_cmp ok_lt (de_var 3) de_int)))) (ds_one (ds_ret (de_call ((d__law_test T).up (by omega)) gx (by rfl) T.g__law_test T.F__law_test.kp T.b__law_test (da_cons (de_var 0) (da_cons (de_var 1) da_nil)) (hn := (aCons_n (aCons_n aNil_n)))))) ds_nil) (ds_cons (ds_if (dt_cmp (ok_eq gx) (de_var 3) de_int) (ds_one (ds_ret (de_tup (da_cons de_str (da_cons (de_call ih gx (by rfl) T.g__law_condition T.F__law_condition.kp T.b__law_condition (da_cons (de_var 0) (da_cons (de_var 1) (da_cons (de_op ok_subI (de_var 2) de_int) da_nil))) (hn := (aCons_n (aCons_n (aCons_n aNil_n))))) da_nil))))) ds_nil) (ds_cons (ds_asg (de_tup (da_cons (de_call ih gx (by rfl) T.g__law_condition T.F__law_condition.kp T.b__law_condition (da_cons (de_var 0) (da_cons (de_var 1) (da_cons (de_op ok_subI (de_var 2) de_int) da_nil))) (hn := (aCons_n (aCons_n (aCons_n aNil_n))))) (da_cons (de_call ih gx (by rfl) T.g__law_condition T.F__law_condition.kp T.b__law_condition (da_cons (de_var 0) (da_cons (de_var 1) (da_cons (de_op ok_subI (de_var 2) de_int) da_nil))) (hn := (aCons_n (aCons_n (aCons_n aNil_n))))) da_nil))) (dg_name 4 gx.nd)) (ds_one (ds_ret (de_op ok_add (de_tup (da_cons (de_call ((d__law_one_of T).up (by omega)) gx (by rfl) T.g__law_one_of T.F__law_one_of.kp T.b__law_one_of (da_cons (de_var 0) (da_cons (de_lst (da_cons de_str (da_cons de_str da_nil))) da_nil)) (hn := (aCons_n (aCons_n aNil_n)))) da_nil)) (de_var 4))))))))
noncomputable abbrev q__law_view_0 : FS := (sAsg (fMk mkTup (aCons (fC (.str (Str.ofString "all"))) aNil)) (gN 2))
noncomputable abbrev q__law_view_1t_0 : FS := (sAsg (fCall (m__law_condition 5) (aCons (fVar 0) (aCons (fVar 1) (aCons (fC (.int 2)) aNil)))) (gN 2))
noncomputable abbrev q__law_view_1 : FS := (sIf (fTest (fOp opEq (fCall m__law_pick (aCons (fVar 0) (aCons (fC (.int 2)) aNil))) (fC (.int 0)))) q__law_view_1t_0 sNil)
noncomputable abbrev q__law_view_2 : FS := (sAsg (fNewL aNil) (gN 3))
noncomputable abbrev q__law_view_3l_0 : FS := (sAsg (fCall m__law_pick (aCons (fVar 0) (aCons (fVar 1) aNil))) (gN 5))
noncomputable abbrev q__law_view_3l_1t_0 : FS := (sDrop (fApp (fVar 3) (fMk mkTup (aCons (fVar 5) (aCons (fOp opEq (fCall m__law_pick (aCons (fVar 0) (aCons (fC (.int 2)) aNil))) (fC (.int 0))) aNil)))))
noncomputable abbrev q__law_view_3l_1 : FS := (sIf (fAndT (fTest (fOp opLt (fMk bLen (aCons (fVar 3) aNil)) (fC (.int 4)))) (fTest (fOp (inSeq true) (fVar 5) (fCompG (iRefL (fVar 3)) [7] b1 tTrue (fSub (fVar 7) (fC (.int 0))))))) q__law_view_3l_1t_0 sNil)
noncomputable abbrev q__law_view_3 : FS := (sFor (iOfA asR1 (aCons (fCall m__law_pick (aCons (fVar 0) (aCons (fC (.int 7)) aNil))) aNil)) (gN 4) (sSeq q__law_view_3l_0 q__law_view_3l_1))
noncomputable abbrev q__law_view_4 : FS := (sAsg (fMk bTuple (aCons (fComp (iOfA asR1 (aCons (fVar 1) aNil)) [5] b1 (fTest (fOp opGt (fCall m__law_pick (aCons (fVar 0) (aCons (fC (.int 3)) aNil))) (fC (.int 0)))) (fVar 5)) aNil)) (gN 6))
noncomputable abbrev q__law_view_5 : FS := (sRet (fMk mkTup (aCons (fVar 2) (aCons (fMk bTuple (aCons (fVar 3) aNil)) (aCons (fVar 6) aNil)))))
noncomputable def g__law_view : FS := (sSeq q__law_view_0 (sSeq q__law_view_1 (sSeq q__law_view_2 (sSeq q__law_view_3 (sSeq q__law_view_4 q__law_view_5)))))
noncomputable def m__law_view : FM := mOf N__law_view.length g__law_view
theorem d__law_view (T : Txt K mg) : FnD P w K mg base 10 T.a__law_view T.f__law_view ["tape", "width"] m__law_view := FnD.of T.F__law_view sc__law_view fun cd A outer s H gx => (ds_cons (ds_asg (de_tup (da_cons de_str da_nil)) (dg_name 2 gx.nd)) (ds_cons (ds_if (dt_cmp (ok_eq gx) (de_call ((d__law_pick T).up (by decide)) gx (by rfl) T.g__law_pick T.F__law_pick.kp T.b__law_pick (da_cons (de_var 0) (da_cons de_int da_nil)) (hn := (aCons_n (aCons_n aNil_n)))) de_int) (ds_one (ds_asg (de_call ((d__law_condition T 5).up (by decide)) gx (by rfl) T.g__law_condition T.F__law_condition.kp T.b__law_condition (da_cons (de_var 0) (da_cons (de_var 1) (da_cons de_int da_nil))) (hn := (aCons_n (aCons_n (aCons_n aNil_n))))) (dg_name 2 gx.nd))) ds_nil) (ds_cons (ds_asg (de_newL da_nil) (dg_name 3 gx.nd)) (ds_cons (ds_forR PassesOwn.never gx.calm (di_range1 (by rfl) T.n_range (da_cons (de_call ((d__law_pick T).up (by decide)) gx (by rfl) T.g__law_pick T.F__law_pick.kp T.b__law_pick (da_cons (de_var 0) (da_cons de_int da_nil)) (hn := (aCons_n (aCons_n aNil_n)))) da_nil)) (dg_name 4 gx.nd) (ds_cons (ds_asg (de_call ((d__law_pick T).up (by decide)) gx (by rfl) T.g__law_pick T.F__law_pick.kp T.b__law_pick (da_cons (de_var 0) (da_cons (de_var 1) da_nil)) (hn := (aCons_n (aCons_n aNil_n)))) (dg_name 5 gx.nd)) (ds_one (ds_if (dt_w (dw_and (dt_cmp ok_lt (de_callB (id := "len") ok_len (by rfl) T.n_len (by decide +kernel) (da_cons (de_var 3) da_nil)) de_int) (dw_and1 (dt_cmp ok_notin (de_var 5) (de_lcG (own := [("pair", 7)]) gx.calm gx.nd (di_refL (de_var 3)) (blkOk_by (N := N__law_view) (sc := defScope s__law_view) (by decide +kernel)) (tg1 7) (fun _ _ _ _ _ => (pg_name (i := 7) gx.nd rfl (.inl rfl))) (fun _ _ _ _ _ => dts_nil) (fun _ _ _ _ _ => (de_sub gx.blk (de_var 7) de_int))))))) (ds_one (ds_expr (de_append (de_var 3) (de_tup (da_cons (de_var 5) (da_cons (de_cmp (ok_eq gx) (de_call ((d__law_pick T).up (by decide)) gx (by rfl) T.g__law_pick T.F__law_pick.kp T.b__law_pick (da_cons (de_var 0) (da_cons de_int da_nil)) (hn := (aCons_n (aCons_n aNil_n)))) de_int) da_nil)))))) ds_nil)))) (ds_cons (ds_asg (de_callTy (T := "tuple") ok_tuple (by rfl) T.n_tuple (by decide +kernel) (da_cons (de_lc (own := [("column", 5)]) gx.calm gx.nd (di_range1 (by rfl) T.n_range (da_cons (de_var 1) da_nil)) (blkOk_by (N := N__law_view) (sc := defScope s__law_view) (by decide +kernel)) (tg1 5) (fun _ _ _ _ _ => (pg_name (i := 5) gx.nd rfl (.inl rfl))) (fun _ _ _ _ _ => (dts_one (dt_cmp ok_gt (de_call ((d__law_pick T).up (by decide)) gx.blk (by rfl) T.g__law_pick T.F__law_pick.kp T.b__law_pick (da_cons (de_var 0) (da_cons de_int da_nil)) (hn := (aCons_n (aCons_n aNil_n)))) de_int))) (fun _ _ _ _ _ => (de_var 5))) da_nil)) (dg_name 6 gx.nd)) (ds_one (ds_ret (de_tup (da_cons (de_var 2) (da_cons (de_callTy (T := "tuple") ok_tuple (by rfl) T.n_tuple (by decide +kernel) (da_cons (de_var 3) da_nil)) (da_cons (de_var 6) da_nil)))))))))))
noncomputable abbrev q__law_rank_0t_0 : FS := (sRet (fMk mkTup (aCons (fC (.int 0)) (aCons (fC (.int 0)) aNil))))
noncomputable abbrev q__law_rank_0 : FS := (sIf (fTest (fOp opIs (fVar 0) (fC .non))) q__law_rank_0t_0 sNil)
noncomputable abbrev q__law_rank_1 : FS := (sRet (fIfE (fTest (fIsi "str" (fVar 0))) (fMk mkTup (aCons (fC (.int 2)) (aCons (fVar 0) aNil))) (fMk mkTup (aCons (fC (.int 1)) (aCons (fVar 0) aNil)))))
noncomputable def g__law_rank : FS := (sSeq q__law_rank_0 q__law_rank_1)
noncomputable def m__law_rank : FM := mOf N__law_rank.length g__law_rank
theorem d__law_rank (T : Txt K mg) : FnD P w K mg base 1 T.a__law_rank T.f__law_rank ["value"] m__law_rank := FnD.of T.F__law_rank sc__law_rank fun cd A outer s H gx => (ds_cons (ds_if (dt_cmp ok_is (de_var 0) de_non) (ds_one (ds_ret (de_tup (da_cons de_int (da_cons de_int da_nil))))) ds_nil) (ds_one (ds_ret (de_if (dt_val (de_isi (T := "str") (de_var 0) (by decide) (by rfl) T.n_isinstance (by rfl) T.n_str (by decide +kernel))) (de_tup (da_cons de_int (da_cons (de_var 0) da_nil))) (de_tup (da_cons de_int (da_cons (de_var 0) da_nil)))))))
noncomputable abbrev q__law_key_0 : FS := (sRet (fOp opAdd (fMk bTuple (aCons (fComp (iOf asT (fSub (fVar 0) (fC (.int 1)))) [3, 4] (bTup 2 (bCons b1 (bCons b1 bNil))) tTrue (fSub (fVar 2) (fVar 3))) aNil)) (fMk mkTup (aCons (fVar 1) aNil))))
noncomputable def g__law_key : FS := q__law_key_0
noncomputable def m__law_key : FM := mOf N__law_key.length g__law_key
theorem d__law_key (T : Txt K mg) : FnD P w K mg base 1 T.a__law_key T.f__law_key ["view", "number", "values"] m__law_key := FnD.of T.F__law_key sc__law_key fun cd A outer s H gx => (ds_one (ds_ret (de_op ok_add (de_callTy (T := "tuple") ok_tuple (by rfl) T.n_tuple (by decide +kernel) (da_cons (de_lc (own := [("column", 3), ("falling", 4)]) gx.calm gx.nd (di_tup (de_sub gx (de_var 0) de_int)) (blkOk_by (N := N__law_key) (sc := defScope s__law_key) (by decide +kernel)) (tg_tupR (n := 2) (tgs_cons (tg1 3) b1_n (tgs_cons (tg1 4) b1_n tgs_nil))) (fun _ _ _ _ _ => (pg_tup (n := 2) gx.calm (pgs_cons (pg_name (i := 3) gx.nd rfl (.inl rfl)) (pgs_cons (pg_name (i := 4) gx.nd rfl (.inl rfl)) pgs_nil)))) (fun _ _ _ _ _ => dts_nil) (fun _ _ _ _ _ => (de_sub gx.blk (de_var 2) (de_var 3)))) da_nil)) (de_tup (da_cons (de_var 1) da_nil)))))
noncomputable abbrev q__law_sign_0l_0 : FS := (sPar (par2 5 6) (aCons (fCall m__law_rank (aCons (fSub (fVar 1) (fVar 3)) aNil)) (aCons (fCall m__law_rank (aCons (fSub (fVar 2) (fVar 3)) aNil)) aNil)))
noncomputable abbrev q__law_sign_0l_1t_0 : FS := (sRet (fIfE (fTest (fOp opEq (fOp opLtD (fVar 5) (fVar 6)) (fSub (fVar 4) (fC (.int 1))))) (fC (.int 1)) (fOp subI (fC (.int 0)) (fC (.int 1)))))
noncomputable abbrev q__law_sign_0l_1 : FS := (sIf (fTest (fOp opNe (fVar 5) (fVar 6))) q__law_sign_0l_1t_0 sNil)
noncomputable abbrev q__law_sign_0 : FS := (sFor (iOfA asEnT (aCons (fSub (fVar 0) (fC (.int 1))) aNil)) (gT 2 (gCons' (gN 3) (gCons' (gN 4) gNil'))) (sSeq q__law_sign_0l_0 q__law_sign_0l_1))
noncomputable abbrev q__law_sign_1 : FS := (sRet (fOp subB (fOp opGt (fSub (fVar 1) (fUn negI (fC (.int 1)))) (fSub (fVar 2) (fUn negI (fC (.int 1))))) (fOp opLt (fSub (fVar 1) (fUn negI (fC (.int 1)))) (fSub (fVar 2) (fUn negI (fC (.int 1)))))))
noncomputable def g__law_sign : FS := (sSeq q__law_sign_0 q__law_sign_1)
noncomputable def m__law_sign : FM := mOf N__law_sign.length g__law_sign
theorem d__law_sign (T : Txt K mg) : FnD P w K mg base 2 T.a__law_sign T.f__law_sign ["view", "first", "second"] m__law_sign := FnD.of T.F__law_sign sc__law_sign fun cd A outer s H gx => (ds_cons (ds_forR PassesOwn.never gx.calm (di_enumT (by rfl) T.n_enumerate (da_cons (de_sub gx (de_var 0) de_int) da_nil)) (dg_tupI gx.calm (dgs_cons (dg_name 3 gx.nd) (dgs_cons (dg_name 4 gx.nd) dgs_nil))) (ds_cons (ds_par2 5 6 gx rfl rfl (by decide) rfl rfl (da_cons (de_call ((d__law_rank T).up (by decide)) gx (by rfl) T.g__law_rank T.F__law_rank.kp T.b__law_rank (da_cons (de_sub gx (de_var 1) (de_var 3)) da_nil) (hn := (aCons_n aNil_n))) (da_cons (de_call ((d__law_rank T).up (by decide)) gx (by rfl) T.g__law_rank T.F__law_rank.kp T.b__law_rank (da_cons (de_sub gx (de_var 2) (de_var 3)) da_nil) (hn := (aCons_n aNil_n))) da_nil))) (ds_one (ds_if (dt_cmp (ok_ne gx) (de_var 5) (de_var 6)) (ds_one (ds_ret (de_if (dt_cmp (ok_eq gx) (de_cmp (ok_ltD gx) (de_var 5) (de_var 6)) (de_sub gx (de_var 4) de_int)) de_int (de_op ok_subI de_int de_int)))) ds_nil)))) (ds_one (ds_ret (de_op ok_subB (de_cmp ok_gt (de_sub gx (de_var 1) (de_neg de_int)) (de_sub gx (de_var 2) (de_neg de_int))) (de_cmp ok_lt (de_sub gx (de_var 1) (de_neg de_int)) (de_sub gx (de_var 2) (de_neg de_int)))))))
noncomputable abbrev q__law_past_0t_0 : FS := (sRet (fOp opEq (fVar 1) (fMk mkTup (aCons (fC (.str (Str.ofString "start"))) aNil))))
noncomputable abbrev q__law_past_0 : FS := (sIf (fTest (fOp opEq (fMk bLen (aCons (fVar 1) aNil)) (fC (.int 1)))) q__law_past_0t_0 sNil)
noncomputable abbrev q__law_past_1 : FS := (sAsg (fCall m__law_sign (aCons (fVar 0) (aCons (fVar 2) (aCons (fSub (fVar 1) (fC (.int 1))) aNil)))) (gN 3))
noncomputable abbrev q__law_past_2 : FS := (sRet (fOr (fOp opGt (fVar 3) (fC (.int 0))) (fAnd (fOp opEq (fVar 3) (fC (.int 0))) (fOp opEq (fSub (fVar 1) (fC (.int 0))) (fC (.str (Str.ofString "before")))))))
noncomputable def g__law_past : FS := (sSeq q__law_past_0 (sSeq q__law_past_1 q__law_past_2))
noncomputable def m__law_past : FM := mOf N__law_past.length g__law_past
theorem d__law_past (T : Txt K mg) : FnD P w K mg base 3 T.a__law_past T.f__law_past ["view", "mark", "key"] m__law_past := FnD.of T.F__law_past sc__law_past fun cd A outer s H gx => (ds_cons (ds_if (dt_cmp (ok_eq gx) (de_callB (id := "len") ok_len (by rfl) T.n_len (by decide +kernel) (da_cons (de_var 1) da_nil)) de_int) (ds_one (ds_ret (de_cmp (ok_eq gx) (de_var 1) (de_tup (da_cons de_str da_nil))))) ds_nil) (ds_cons (ds_asg (de_call ((d__law_sign T).up (by decide)) gx (by rfl) T.g__law_sign T.F__law_sign.kp T.b__law_sign (da_cons (de_var 0) (da_cons (de_var 2) (da_cons (de_sub gx (de_var 1) de_int) da_nil))) (hn := (aCons_n (aCons_n (aCons_n aNil_n))))) (dg_name 3 gx.nd)) (ds_one (ds_ret (de_or (de_cmp ok_gt (de_var 3) de_int) (de_one (de_and (de_cmp (ok_eq gx) (de_var 3) de_int) (de_one (de_cmp (ok_eq gx) (de_sub gx (de_var 1) de_int) de_str)))))))))
noncomputable abbrev q__law_mark_0 : FS := (sAsg (fCall m__law_pick (aCons (fVar 0) (aCons (fC (.int 7)) aNil))) (gN 3))
noncomputable abbrev q__law_mark_1t_0 : FS := (sRet (fSub (fMk mkLst (aCons (fMk mkTup (aCons (fC (.str (Str.ofString "start"))) aNil)) (aCons (fMk mkTup (aCons (fC (.str (Str.ofString "end"))) aNil)) aNil))) (fVar 3)))
noncomputable abbrev q__law_mark_1 : FS := (sIf (fTest (fOp opLt (fVar 3) (fC (.int 2)))) q__law_mark_1t_0 sNil)
noncomputable abbrev q__law_mark_2 : FS := (sAsg (fCall m__law_key (aCons (fVar 1) (aCons (fOp opAdd (fC (.int 1)) (fCall m__law_pick (aCons (fVar 0) (aCons (fC (.int 9)) aNil)))) (aCons (fCall m__law_values (aCons (fVar 0) (aCons (fVar 2) aNil))) aNil)))) (gN 4))
noncomputable abbrev q__law_mark_3 : FS := (sRet (fMk mkTup (aCons (fCall m__law_one_of (aCons (fVar 0) (aCons (fMk mkLst (aCons (fC (.str (Str.ofString "before"))) (aCons (fC (.str (Str.ofString "after"))) aNil))) aNil))) (aCons (fVar 4) aNil))))
noncomputable def g__law_mark : FS := (sSeq q__law_mark_0 (sSeq q__law_mark_1 (sSeq q__law_mark_2 q__law_mark_3)))
noncomputable def m__law_mark : FM := mOf N__law_mark.length g__law_mark
theorem d__law_mark (T : Txt K mg) : FnD P w K mg base 5 T.a__law_mark T.f__law_mark ["tape", "view", "width"] m__law_mark := FnD.of T.F__law_mark sc__law_mark fun cd A outer s H gx => (ds_cons (ds_asg (de_call ((d__law_pick T).up (by decide)) gx (by rfl) T.g__law_pick T.F__law_pick.kp T.b__law_pick (da_cons (de_var 0) (da_cons de_int da_nil)) (hn := (aCons_n (aCons_n aNil_n)))) (dg_name 3 gx.nd)) (ds_cons (ds_if (dt_cmp ok_lt (de_var 3) de_int) (ds_one (ds_ret (de_sub gx (de_lst (da_cons (de_tup (da_cons de_str da_nil)) (da_cons (de_tup (da_cons de_str da_nil)) da_nil))) (de_var 3)))) ds_nil) (ds_cons (ds_asg (de_call ((d__law_key T).up (by decide)) gx (by rfl) T.g__law_key T.F__law_key.kp T.b__law_key (da_cons (de_var 1) (da_cons (de_op ok_add de_int (de_call ((d__law_pick T).up (by decide)) gx (by rfl) T.g__law_pick T.F__law_pick.kp T.b__law_pick (da_cons (de_var 0) (da_cons de_int da_nil)) (hn := (aCons_n (aCons_n aNil_n))))) (da_cons (de_call ((d__law_values T).up (by decide)) gx (by rfl) T.g__law_values T.F__law_values.kp T.b__law_values (da_cons (de_var 0) (da_cons (de_var 2) da_nil)) (hn := (aCons_n (aCons_n aNil_n)))) da_nil))) (hn := (aCons_n (aCons_n (aCons_n aNil_n))))) (dg_name 4 gx.nd)) (ds_one (ds_ret (de_tup (da_cons (de_call ((d__law_one_of T).up (by decide)) gx (by rfl) T.g__law_one_of T.F__law_one_of.kp T.b__law_one_of (da_cons (de_var 0) (da_cons (de_lst (da_cons de_str (da_cons de_str da_nil))) da_nil)) (hn := (aCons_n (aCons_n aNil_n)))) (da_cons (de_var 4) da_nil))))))))
noncomputable abbrev q__law_marks_0 : FS := (sPar (par2 3 4) (aCons (fCall m__law_mark (aCons (fVar 0) (aCons (fVar 1) (aCons (fVar 2) aNil)))) (aCons (fCall m__law_mark (aCons (fVar 0) (aCons (fVar 1) (aCons (fVar 2) aNil)))) aNil)))
noncomputable abbrev q__law_marks_1t_0 : FS := (sRet (fIfE (fAndT (fTest (fOp opNe (fVar 4) (fMk mkTup (aCons (fC (.str (Str.ofString "end"))) aNil)))) (fTest (fOp opNe (fVar 3) (fMk mkTup (aCons (fC (.str (Str.ofString "start"))) aNil))))) (fMk mkTup (aCons (fVar 4) (aCons (fVar 3) aNil))) (fMk mkTup (aCons (fMk mkTup (aCons (fC (.str (Str.ofString "start"))) aNil)) (aCons (fMk mkTup (aCons (fC (.str (Str.ofString "end"))) aNil)) aNil)))))
noncomputable abbrev q__law_marks_1 : FS := (sIf (fOrT (fTest (fOp opEq (fVar 3) (fMk mkTup (aCons (fC (.str (Str.ofString "end"))) aNil)))) (fTest (fOp opEq (fVar 4) (fMk mkTup (aCons (fC (.str (Str.ofString "start"))) aNil))))) q__law_marks_1t_0 sNil)
noncomputable abbrev q__law_marks_2t_0 : FS := (sAsg (fCall m__law_sign (aCons (fVar 1) (aCons (fSub (fVar 3) (fC (.int 1))) (aCons (fSub (fVar 4) (fC (.int 1))) aNil)))) (gN 5))
noncomputable abbrev q__law_marks_2t_1t_0 : FS := (sRet (fMk mkTup (aCons (fVar 4) (aCons (fVar 3) aNil))))
noncomputable abbrev q__law_marks_2t_1 : FS := (sIf (fOrT (fTest (fOp opGt (fVar 5) (fC (.int 0)))) (fAndT (fTest (fOp opEq (fVar 5) (fC (.int 0)))) (fTest (fOp opEq (fSub (fVar 3) (fC (.int 0))) (fC (.str (Str.ofString "after"))))))) q__law_marks_2t_1t_0 sNil)
noncomputable abbrev q__law_marks_2 : FS := (sIf (fAndT (fTest (fOp opEq (fMk bLen (aCons (fVar 3) aNil)) (fC (.int 2)))) (fTest (fOp opEq (fMk bLen (aCons (fVar 4) aNil)) (fC (.int 2))))) (sSeq q__law_marks_2t_0 q__law_marks_2t_1) sNil)
noncomputable abbrev q__law_marks_3 : FS := (sRet (fMk mkTup (aCons (fVar 3) (aCons (fVar 4) aNil))))
noncomputable def g__law_marks : FS := (sSeq q__law_marks_0 (sSeq q__law_marks_1 (sSeq q__law_marks_2 q__law_marks_3)))
noncomputable def m__law_marks : FM := mOf N__law_marks.length g__law_marks
theorem d__law_marks (T : Txt K mg) : FnD P w K mg base 6 T.a__law_marks T.f__law_marks ["tape", "view", "width"] m__law_marks := FnD.of T.F__law_marks sc__law_marks fun cd A outer s H gx => (ds_cons (ds_par2 3 4 gx rfl rfl (by decide) rfl rfl (da_cons (de_call ((d__law_mark T).up (by decide)) gx (by rfl) T.g__law_mark T.F__law_mark.kp T.b__law_mark (da_cons (de_var 0) (da_cons (de_var 1) (da_cons (de_var 2) da_nil))) (hn := (aCons_n (aCons_n (aCons_n aNil_n))))) (da_cons (de_call ((d__law_mark T).up (by decide)) gx (by rfl) T.g__law_mark T.F__law_mark.kp T.b__law_mark (da_cons (de_var 0) (da_cons (de_var 1) (da_cons (de_var 2) da_nil))) (hn := (aCons_n (aCons_n (aCons_n aNil_n))))) da_nil))) (ds_cons (ds_if (dt_w (dw_or (dt_cmp (ok_eq gx) (de_var 3) (de_tup (da_cons de_str da_nil))) (dw_or1 (dt_cmp (ok_eq gx) (de_var 4) (de_tup (da_cons de_str da_nil)))))) (ds_one (ds_ret (de_if (dt_w (dw_and (dt_cmp (ok_ne gx) (de_var 4) (de_tup (da_cons de_str da_nil))) (dw_and1 (dt_cmp (ok_ne gx) (de_var 3) (de_tup (da_cons de_str da_nil)))))) (de_tup (da_cons (de_var 4) (da_cons (de_var 3) da_nil))) (de_tup (da_cons (de_tup (da_cons de_str da_nil)) (da_cons (de_tup (da_cons de_str da_nil)) da_nil)))))) ds_nil) (ds_cons (ds_if (dt_w (dw_and (dt_cmp (ok_eq gx) (de_callB (id := "len") ok_len (by rfl) T.n_len (by decide +kernel) (da_cons (de_var 3) da_nil)) de_int) (dw_and1 (dt_cmp (ok_eq gx) (de_callB (id := "len") ok_len (by rfl) T.n_len (by decide +kernel) (da_cons (de_var 4) da_nil)) de_int)))) (ds_cons (ds_asg (de_call ((d__law_sign T).up (by decide)) gx (by rfl) T.g__law_sign T.F__law_sign.kp T.b__law_sign (da_cons (de_var 1) (da_cons (de_sub gx (de_var 3) de_int) (da_cons (de_sub gx (de_var 4) de_int) da_nil))) (hn := (aCons_n (aCons_n (aCons_n aNil_n))))) (dg_name 5 gx.nd)) (ds_one (ds_if (dt_w (dw_or (dt_cmp ok_gt (de_var 5) de_int) (dw_or1 (dt_w (dw_and (dt_cmp (ok_eq gx) (de_var 5) de_int) (dw_and1 (dt_cmp (ok_eq gx) (de_sub gx (de_var 3) de_int) de_str))))))) (ds_one (ds_ret (de_tup (da_cons (de_var 4) (da_cons (de_var 3) da_nil))))) ds_nil))) ds_nil) (ds_one (ds_ret (de_tup (da_cons (de_var 3) (da_cons (de_var 4) da_nil))))))))
noncomputable abbrev q__law_keys_0 : FS := (sRet (fComp (iOfA asR1 (aCons (fVar 3) aNil)) [4] b1 tTrue (fCall m__law_key (aCons (fVar 1) (aCons (fOp opAdd (fC (.int 1)) (fCall m__law_pick (aCons (fVar 0) (aCons (fC (.int 9)) aNil)))) (aCons (fCall m__law_values (aCons (fVar 0) (aCons (fVar 2) aNil))) aNil))))))
noncomputable def g__law_keys : FS := q__law_keys_0
noncomputable def m__law_keys : FM := mOf N__law_keys.length g__law_keys
theorem d__law_keys (T : Txt K mg) : FnD P w K mg base 5 T.a__law_keys T.f__law_keys ["tape", "view", "width", "size"] m__law_keys := FnD.of T.F__law_keys sc__law_keys fun cd A outer s H gx => (ds_one (ds_ret (de_lc (own := [("turn", 4)]) gx.calm gx.nd (di_range1 (by rfl) T.n_range (da_cons (de_var 3) da_nil)) (blkOk_by (N := N__law_keys) (sc := defScope s__law_keys) (by decide +kernel)) (tg1 4) (fun _ _ _ _ _ => (pg_name (i := 4) gx.nd rfl (.inl rfl))) (fun _ _ _ _ _ => dts_nil) (fun _ _ _ _ _ => (de_call ((d__law_key T).up (by decide)) gx.blk (by rfl) T.g__law_key T.F__law_key.kp T.b__law_key (da_cons (de_var 1) (da_cons (de_op ok_add de_int (de_call ((d__law_pick T).up (by decide)) gx.blk (by rfl) T.g__law_pick T.F__law_pick.kp T.b__law_pick (da_cons (de_var 0) (da_cons de_int da_nil)) (hn := (aCons_n (aCons_n aNil_n))))) (da_cons (de_call ((d__law_values T).up (by decide)) gx.blk (by rfl) T.g__law_values T.F__law_values.kp T.b__law_values (da_cons (de_var 0) (da_cons (de_var 2) da_nil)) (hn := (aCons_n (aCons_n aNil_n)))) da_nil))) (hn := (aCons_n (aCons_n (aCons_n aNil_n)))))))))
noncomputable abbrev q__law_inserted_0 : FS := (sAsg (fCompR (iOf asL (fVar 1)) [6] b1 (fTest (fOp opNe (fSub (fVar 6) (fC (.int 0))) (fVar 2))) (fVar 6)) (gN 4))
noncomputable abbrev q__law_inserted_1 : FS := (sAsg (fMk bLen (aCons (fCompG (iRefL (fVar 4)) [6] b1 (fTest (fOp opLt (fCall m__law_sign (aCons (fVar 0) (aCons (fSub (fVar 6) (fC (.int 0))) (aCons (fVar 2) aNil)))) (fC (.int 0)))) (fVar 6)) aNil)) (gN 5))
noncomputable abbrev q__law_inserted_2 : FS := (sDrop (fIns (fVar 4) (fVar 5) (fMk mkTup (aCons (fVar 2) (aCons (fVar 3) aNil)))))
noncomputable abbrev q__law_inserted_3 : FS := (sSeq (sFrzL 4) (sRet (fVar 4)))
noncomputable def g__law_inserted : FS := (sSeq q__law_inserted_0 (sSeq q__law_inserted_1 (sSeq q__law_inserted_2 q__law_inserted_3)))
noncomputable def m__law_inserted : FM := mOf N__law_inserted.length g__law_inserted
theorem d__law_inserted (T : Txt K mg) : FnD P w K mg base 3 T.a__law_inserted T.f__law_inserted ["view", "pairs", "key", "changed"] m__law_inserted := FnD.of T.F__law_inserted sc__law_inserted fun cd A outer s H gx => (ds_cons (ds_setLcR (own := [("pair", 6)]) (i := 4) gx.calm gx.nd rfl rfl (sw_true rfl rfl rfl (by decide +kernel)) (di_lst (de_var 1)) (blkOk_by (N := N__law_inserted) (sc := defScope s__law_inserted) (by decide +kernel)) (tg1 6) (fun _ _ _ _ _ => (pg_name (i := 6) gx.nd rfl (.inl rfl))) (fun _ _ _ _ _ => (dts_one (dt_cmp (ok_ne gx.blk) (de_sub gx.blk (de_var 6) de_int) (de_var 2)))) (fun _ _ _ _ _ => (de_var 6))) (ds_cons (ds_asg (de_callB (id := "len") ok_len (by rfl) T.n_len (by decide +kernel) (da_cons (de_lcG (own := [("pair", 6)]) gx.calm gx.nd (di_refL (de_var 4)) (blkOk_by (N := N__law_inserted) (sc := defScope s__law_inserted) (by decide +kernel)) (tg1 6) (fun _ _ _ _ _ => (pg_name (i := 6) gx.nd rfl (.inl rfl))) (fun _ _ _ _ _ => (dts_one (dt_cmp ok_lt (de_call ((d__law_sign T).up (by decide)) gx.blk (by rfl) T.g__law_sign T.F__law_sign.kp T.b__law_sign (da_cons (de_var 0) (da_cons (de_sub gx.blk (de_var 6) de_int) (da_cons (de_var 2) da_nil))) (hn := (aCons_n (aCons_n (aCons_n aNil_n))))) de_int))) (fun _ _ _ _ _ => (de_var 6))) da_nil)) (dg_name 5 gx.nd)) (ds_cons (ds_expr (de_insert (de_var 4) (de_var 5) (de_tup (da_cons (de_var 2) (da_cons (de_var 3) da_nil))))) (ds_one (ds_frzL 4 (ds_ret (de_var 4)))))))
noncomputable abbrev qx_Listing_key_at_0t_0 : FS := (sRaise "BadCount" "count" (aCons (fVar 1) aNil))
noncomputable abbrev qx_Listing_key_at_0 : FS := (sIf (fNotT (fTest (fChain opLe opLt (fC (.int 0)) (fVar 1) (fMk bLen (aCons (fFld "Listing" "_keys" (fVar 0)) aNil))))) qx_Listing_key_at_0t_0 sNil)
noncomputable abbrev qx_Listing_key_at_1 : FS := (sRet (fMk bTuple (aCons (fMk bList (aCons (fSub (fFld "Listing" "_keys" (fVar 0)) (fVar 1)) aNil)) aNil)))
noncomputable def gx_Listing_key_at : FS := (sSeq qx_Listing_key_at_0 qx_Listing_key_at_1)
noncomputable def mx_Listing_key_at : FMX := mOfX N_Listing_key_at.length gx_Listing_key_at
theorem dx_Listing_key_at (T : Txt K mg) : FnX P w K mg base 3 T.a_Listing_key_at T.f_Listing_key_at ["self", "place"] mx_Listing_key_at := FnX.of T.F_Listing_key_at sc_Listing_key_at fun cd A outer s H E gx => (ds_cons (ds_if (dt_not (dt_chain ok_le ok_lt de_int (de_var 1) (de_callB (id := "len") ok_len (by rfl) T.n_len (by decide +kernel) (da_cons (de_fld T.K_Listing T.na_Listing__keys (de_var 0)) da_nil)))) (ds_one (ds_raise gx.calm T.E_BadCount T.ge_BadCount gx (takes_of rfl rfl rfl rfl) (da_cons (de_var 1) da_nil))) ds_nil) (ds_one (ds_ret (de_callTy (T := "tuple") ok_tuple (by rfl) T.n_tuple (by decide +kernel) (da_cons (de_callTy (T := "list") (ok_list gx) (by rfl) T.n_list (by decide +kernel) (da_cons (de_sub gx (de_fld T.K_Listing T.na_Listing__keys (de_var 0)) (de_var 1)) da_nil)) da_nil)))))
noncomputable abbrev q__law_at_0 : FS := (sAsg (fC .non) (gN 2))
noncomputable abbrev q__law_at_1y_0 : FS := (sAsgX (fPairX (Str.ofString "key") (fMethX "Listing" "key_at" mx_Listing_key_at (fVar 0) (aCons (fVar 1) aNil))) (gN 2))
noncomputable abbrev q__law_at_1 : FS := (sTry q__law_at_1y_0 "BadCount" "count" 3 (hAsgT 2 (Str.ofString "error")))
noncomputable abbrev q__law_at_2 : FS := (sRet (fVar 2))
noncomputable def g__law_at : FS := (sSeq q__law_at_0 (sSeq q__law_at_1 q__law_at_2))
noncomputable def m__law_at : FM := mOf N__law_at.length g__law_at
theorem d__law_at (T : Txt K mg) : FnD P w K mg base 4 T.a__law_at T.f__law_at ["listing", "place"] m__law_at := FnD.of T.F__law_at sc__law_at fun cd A outer s H gx => (ds_cons (ds_asg de_non (dg_name 2 gx.nd)) (ds_cons (ds_try (i := 3) T.E_BadCount T.ge_BadCount rfl rfl gx.nd rfl rfl (by rfl) (by decide) takes0 (fun W pn xe tk po => (ds_one (ds_asgX (dx_pair (dx_meth T.K_Listing T.M_Listing_key_at ((dx_Listing_key_at T).up (by decide)) (gxTr gx pn xe) T.b_Listing_key_at tk (de_var 0) (da_cons (de_var 1) da_nil) (hn := (aCons_n aNil_n)))) (dg_name 2 (gxTr gx pn xe).nd)))) (hs_asgT T.E_BadCount gx.nd rfl (by first | exact Or.inl rfl | exact Or.inr (Or.inl rfl) | exact Or.inr (Or.inr rfl)) (j := 2) rfl (by first | exact Or.inl rfl | exact Or.inr rfl) rfl (by decide) (by decide))) (ds_one (ds_ret (de_var 2)))))
noncomputable abbrev q_Listing___len___0 : FS := (sRet (fMk bLen (aCons (fFld "Listing" "_keys" (fVar 0)) aNil)))
noncomputable def g_Listing___len__ : FS := q_Listing___len___0
noncomputable def m_Listing___len__ : FM := mOf N_Listing___len__.length g_Listing___len__
theorem d_Listing___len__ (T : Txt K mg) : FnD P w K mg base 1 T.a_Listing___len__ T.f_Listing___len__ ["self"] m_Listing___len__ := FnD.of T.F_Listing___len__ sc_Listing___len__ fun cd A outer s H gx => (ds_one (ds_ret (de_callB (id := "len") ok_len (by rfl) T.n_len (by decide +kernel) (da_cons (de_fld T.K_Listing T.na_Listing__keys (de_var 0)) da_nil))))
noncomputable abbrev q_Listing__holds_0 : FS := (sRet (fAnd (fOp opLt (fVar 1) (fMk bLen (aCons (fFld "Listing" "_places" (fVar 0)) aNil))) (fOp opEq (fSub (fFld "Listing" "_places" (fVar 0)) (fVar 1)) (fVar 2))))
noncomputable def g_Listing__holds : FS := q_Listing__holds_0
noncomputable def m_Listing__holds : FM := mOf N_Listing__holds.length g_Listing__holds
theorem d_Listing__holds (T : Txt K mg) : FnD P w K mg base 1 T.a_Listing__holds T.f_Listing__holds ["self", "rank", "place"] m_Listing__holds := FnD.of T.F_Listing__holds sc_Listing__holds fun cd A outer s H gx => (ds_one (ds_ret (de_and (de_cmp ok_lt (de_var 1) (de_callB (id := "len") ok_len (by rfl) T.n_len (by decide +kernel) (da_cons (de_fld T.K_Listing T.na_Listing__places (de_var 0)) da_nil))) (de_one (de_cmp (ok_eq gx) (de_sub gx (de_fld T.K_Listing T.na_Listing__places (de_var 0)) (de_var 1)) (de_var 2))))))
noncomputable abbrev q_Listing_rank_of_0t_0 : FS := (sRet (fC (.int 0)))
noncomputable abbrev q_Listing_rank_of_0 : FS := (sIf (fTest (fOp opEq (fSub (fVar 1) (fC (.int 0))) (fC (.str (Str.ofString "start"))))) q_Listing_rank_of_0t_0 sNil)
noncomputable abbrev q_Listing_rank_of_1t_0 : FS := (sRet (fMk bLen (aCons (fFld "Listing" "_keys" (fVar 0)) aNil)))
noncomputable abbrev q_Listing_rank_of_1 : FS := (sIf (fTest (fOp opEq (fSub (fVar 1) (fC (.int 0))) (fC (.str (Str.ofString "end"))))) q_Listing_rank_of_1t_0 sNil)
noncomputable abbrev q_Listing_rank_of_2 : FS := (sAsg (fCall m_key_place (aCons (fFld "Listing" "_view" (fVar 0)) (aCons (fSub (fVar 1) (fC (.int 1))) aNil))) (gN 2))
noncomputable abbrev q_Listing_rank_of_3 : FS := (sAsg (fCall m_first_from (aCons (fFld "Listing" "_places" (fVar 0)) (aCons (fVar 2) aNil))) (gN 3))
noncomputable abbrev q_Listing_rank_of_4t_0 : FS := (sRet (fOp opAdd (fVar 3) (fC (.int 1))))
noncomputable abbrev q_Listing_rank_of_4 : FS := (sIf (fAndT (fTest (fOp opEq (fSub (fVar 1) (fC (.int 0))) (fC (.str (Str.ofString "after"))))) (fTest (fMeth "Listing" "_holds" m_Listing__holds (fVar 0) (aCons (fVar 3) (aCons (fVar 2) aNil))))) q_Listing_rank_of_4t_0 sNil)
noncomputable abbrev q_Listing_rank_of_5 : FS := (sRet (fVar 3))
noncomputable def g_Listing_rank_of : FS := (sSeq q_Listing_rank_of_0 (sSeq q_Listing_rank_of_1 (sSeq q_Listing_rank_of_2 (sSeq q_Listing_rank_of_3 (sSeq q_Listing_rank_of_4 q_Listing_rank_of_5)))))
noncomputable def m_Listing_rank_of : FM := mOf N_Listing_rank_of.length g_Listing_rank_of
theorem d_Listing_rank_of (T : Txt K mg) : FnD P w K mg base 4 T.a_Listing_rank_of T.f_Listing_rank_of ["self", "mark"] m_Listing_rank_of := FnD.of T.F_Listing_rank_of sc_Listing_rank_of fun cd A outer s H gx => (ds_cons (ds_if (dt_cmp (ok_eq gx) (de_sub gx (de_var 1) de_int) de_str) (ds_one (ds_ret de_int)) ds_nil) (ds_cons (ds_if (dt_cmp (ok_eq gx) (de_sub gx (de_var 1) de_int) de_str) (ds_one (ds_ret (de_callB (id := "len") ok_len (by rfl) T.n_len (by decide +kernel) (da_cons (de_fld T.K_Listing T.na_Listing__keys (de_var 0)) da_nil)))) ds_nil) (ds_cons (ds_asg (de_call ((d_key_place T).up (by decide)) gx (by rfl) T.g_key_place T.F_key_place.kp T.b_key_place (da_cons (de_fld T.K_Listing T.na_Listing__view (de_var 0)) (da_cons (de_sub gx (de_var 1) de_int) da_nil)) (hn := (aCons_n (aCons_n aNil_n)))) (dg_name 2 gx.nd)) (ds_cons (ds_asg (de_call ((d_first_from T).up (by decide)) gx (by rfl) T.g_first_from T.F_first_from.kp T.b_first_from (da_cons (de_fld T.K_Listing T.na_Listing__places (de_var 0)) (da_cons (de_var 2) da_nil)) (hn := (aCons_n (aCons_n aNil_n)))) (dg_name 3 gx.nd)) (ds_cons (ds_if (dt_w (dw_and (dt_cmp (ok_eq gx) (de_sub gx (de_var 1) de_int) de_str) (dw_and1 (dt_val (de_meth T.K_Listing T.M_Listing__holds ((d_Listing__holds T).up (by decide)) gx T.b_Listing__holds (de_var 0) (da_cons (de_var 3) (da_cons (de_var 2) da_nil)) (hn := (aCons_n (aCons_n aNil_n)))))))) (ds_one (ds_ret (de_op ok_add (de_var 3) de_int))) ds_nil) (ds_one (ds_ret (de_var 3))))))))
noncomputable abbrev q_Listing__versions_between_0 : FS := (sRet (fSliceO (fFld "Listing" "_versions" (fVar 0)) (oSome (fMeth "Listing" "rank_of" m_Listing_rank_of (fVar 0) (aCons (fVar 1) aNil))) (oSome (fMeth "Listing" "rank_of" m_Listing_rank_of (fVar 0) (aCons (fVar 2) aNil)))))
noncomputable def g_Listing__versions_between : FS := q_Listing__versions_between_0
noncomputable def m_Listing__versions_between : FM := mOf N_Listing__versions_between.length g_Listing__versions_between
theorem d_Listing__versions_between (T : Txt K mg) : FnD P w K mg base 5 T.a_Listing__versions_between T.f_Listing__versions_between ["self", "low", "high"] m_Listing__versions_between := FnD.of T.F_Listing__versions_between sc_Listing__versions_between fun cd A outer s H gx => (ds_one (ds_ret (de_sliceO (de_fld T.K_Listing T.na_Listing__versions (de_var 0)) (do_some (de_meth T.K_Listing T.M_Listing_rank_of ((d_Listing_rank_of T).up (by decide)) gx T.b_Listing_rank_of (de_var 0) (da_cons (de_var 1) da_nil) (hn := (aCons_n aNil_n)))) (do_some (de_meth T.K_Listing T.M_Listing_rank_of ((d_Listing_rank_of T).up (by decide)) gx T.b_Listing_rank_of (de_var 0) (da_cons (de_var 2) da_nil) (hn := (aCons_n aNil_n)))))))
noncomputable abbrev q_Listing_count_between_0 : FS := (sRet (fMk bLen (aCons (fMeth "Listing" "_versions_between" m_Listing__versions_between (fVar 0) (aCons (fVar 1) (aCons (fVar 2) aNil))) aNil)))
noncomputable def g_Listing_count_between : FS := q_Listing_count_between_0
noncomputable def m_Listing_count_between : FM := mOf N_Listing_count_between.length g_Listing_count_between
theorem d_Listing_count_between (T : Txt K mg) : FnD P w K mg base 6 T.a_Listing_count_between T.f_Listing_count_between ["self", "low", "high"] m_Listing_count_between := FnD.of T.F_Listing_count_between sc_Listing_count_between fun cd A outer s H gx => (ds_one (ds_ret (de_callB (id := "len") ok_len (by rfl) T.n_len (by decide +kernel) (da_cons (de_meth T.K_Listing T.M_Listing__versions_between ((d_Listing__versions_between T).up (by decide)) gx T.b_Listing__versions_between (de_var 0) (da_cons (de_var 1) (da_cons (de_var 2) da_nil)) (hn := (aCons_n (aCons_n aNil_n)))) da_nil))))
noncomputable abbrev q_Listing_unchanged_between_0 : FS := (sRet (fMk bLen (aCons (fComp (iOf asL (fMeth "Listing" "_versions_between" m_Listing__versions_between (fVar 0) (aCons (fVar 1) (aCons (fVar 2) aNil)))) [4] b1 (fTest (fOp opLe (fVar 4) (fVar 3))) (fVar 4)) aNil)))
noncomputable def g_Listing_unchanged_between : FS := q_Listing_unchanged_between_0
noncomputable def m_Listing_unchanged_between : FM := mOf N_Listing_unchanged_between.length g_Listing_unchanged_between
theorem d_Listing_unchanged_between (T : Txt K mg) : FnD P w K mg base 6 T.a_Listing_unchanged_between T.f_Listing_unchanged_between ["self", "low", "high", "version"] m_Listing_unchanged_between := FnD.of T.F_Listing_unchanged_between sc_Listing_unchanged_between fun cd A outer s H gx => (ds_one (ds_ret (de_callB (id := "len") ok_len (by rfl) T.n_len (by decide +kernel) (da_cons (de_lc (own := [("changed", 4)]) gx.calm gx.nd (di_lst (de_meth T.K_Listing T.M_Listing__versions_between ((d_Listing__versions_between T).up (by decide)) gx T.b_Listing__versions_between (de_var 0) (da_cons (de_var 1) (da_cons (de_var 2) da_nil)) (hn := (aCons_n (aCons_n aNil_n))))) (blkOk_by (N := N_Listing_unchanged_between) (sc := defScope s_Listing_unchanged_between) (by decide +kernel)) (tg1 4) (fun _ _ _ _ _ => (pg_name (i := 4) gx.nd rfl (.inl rfl))) (fun _ _ _ _ _ => (dts_one (dt_cmp ok_le (de_var 4) (de_var 3)))) (fun _ _ _ _ _ => (de_var 4))) da_nil))))
noncomputable abbrev q_Listing_keys_before_0 : FS := (sAsg (fMeth "Listing" "rank_of" m_Listing_rank_of (fVar 0) (aCons (fVar 1) aNil)) (gN 3))
noncomputable abbrev q_Listing_keys_before_1 : FS := (sRet (fRevLR (fSliceO (fFld "Listing" "_keys" (fVar 0)) (oSome (fMk bMax (aCons (fC (.int 0)) (aCons (fOp subI (fVar 3) (fVar 2)) aNil)))) (oSome (fVar 3)))))
noncomputable def g_Listing_keys_before : FS := (sSeq q_Listing_keys_before_0 q_Listing_keys_before_1)
noncomputable def m_Listing_keys_before : FM := mOf N_Listing_keys_before.length g_Listing_keys_before
theorem d_Listing_keys_before (T : Txt K mg) : FnD P w K mg base 5 T.a_Listing_keys_before T.f_Listing_keys_before ["self", "mark", "limit"] m_Listing_keys_before := FnD.of T.F_Listing_keys_before sc_Listing_keys_before fun cd A outer s H gx => (ds_cons (ds_asg (de_meth T.K_Listing T.M_Listing_rank_of ((d_Listing_rank_of T).up (by decide)) gx T.b_Listing_rank_of (de_var 0) (da_cons (de_var 1) da_nil) (hn := (aCons_n aNil_n))) (dg_name 3 gx.nd)) (ds_one (ds_ret (de_revLR (de_sliceO (de_fld T.K_Listing T.na_Listing__keys (de_var 0)) (do_some (de_callB (id := "max") (ok_max gx) (by rfl) T.n_max (by decide +kernel) (da_cons de_int (da_cons (de_op ok_subI (de_var 3) (de_var 2)) da_nil)))) (do_some (de_var 3)))))))
noncomputable abbrev q_Listing_keys_after_0 : FS := (sAsg (fMeth "Listing" "rank_of" m_Listing_rank_of (fVar 0) (aCons (fVar 1) aNil)) (gN 3))
noncomputable abbrev q_Listing_keys_after_1 : FS := (sRet (fSliceOR (fFld "Listing" "_keys" (fVar 0)) (oSome (fVar 3)) (oSome (fOp opAdd (fVar 3) (fVar 2)))))
noncomputable def g_Listing_keys_after : FS := (sSeq q_Listing_keys_after_0 q_Listing_keys_after_1)
noncomputable def m_Listing_keys_after : FM := mOf N_Listing_keys_after.length g_Listing_keys_after
theorem d_Listing_keys_after (T : Txt K mg) : FnD P w K mg base 5 T.a_Listing_keys_after T.f_Listing_keys_after ["self", "mark", "limit"] m_Listing_keys_after := FnD.of T.F_Listing_keys_after sc_Listing_keys_after fun cd A outer s H gx => (ds_cons (ds_asg (de_meth T.K_Listing T.M_Listing_rank_of ((d_Listing_rank_of T).up (by decide)) gx T.b_Listing_rank_of (de_var 0) (da_cons (de_var 1) da_nil) (hn := (aCons_n aNil_n))) (dg_name 3 gx.nd)) (ds_one (ds_ret (de_sliceOR (de_fld T.K_Listing T.na_Listing__keys (de_var 0)) (do_some (de_var 3)) (do_some (de_op ok_add (de_var 3) (de_var 2)))))))
noncomputable abbrev q__law_marks_right_0t_0 : FS := (sRet (fC (.bl false)))
noncomputable abbrev q__law_marks_right_0 : FS := (sIf (fTest (fOp opNe (fLenO "Listing" m_Listing___len__ (fVar 1)) (fMk bLen (aCons (fVar 4) aNil)))) q__law_marks_right_0t_0 sNil)
noncomputable abbrev q__law_marks_right_1 : FS := (sAsg (fCall m__law_marks (aCons (fVar 0) (aCons (fVar 2) (aCons (fC (.int 5)) aNil)))) (gT 2 (gCons' (gN 5) (gCons' (gN 6) gNil'))))
noncomputable abbrev q__law_marks_right_2 : FS := (sAsg (fComp (iOf asL (fMk mkLst (aCons (fVar 5) (aCons (fVar 6) aNil)))) [14] b1 tTrue (fMk bLen (aCons (fComp (iOf asL (fVar 4)) [15] b1 (fNotT (fTest (fCall m__law_past (aCons (fVar 2) (aCons (fVar 14) (aCons (fSub (fVar 15) (fC (.int 0))) aNil)))))) (fVar 15)) aNil))) (gN 7))
noncomputable abbrev q__law_marks_right_3 : FS := (sAsg (fSlice (fVar 4) (oSome (fSub (fVar 7) (fC (.int 0)))) (oSome (fSub (fVar 7) (fC (.int 1))))) (gN 8))
noncomputable abbrev q__law_marks_right_4 : FS := (sAsg (fMk mkTup (aCons (fOp opAdd (fOp opMul (fVar 3) (fCall m__law_pick (aCons (fVar 0) (aCons (fC (.int 12)) aNil)))) (fCall m__law_pick (aCons (fVar 0) (aCons (fC (.int 2)) aNil)))) (aCons (fCall m__law_pick (aCons (fVar 0) (aCons (fC (.int 8)) aNil))) aNil))) (gT 2 (gCons' (gN 9) (gCons' (gN 10) gNil'))))
noncomputable abbrev q__law_marks_right_5t_0 : FS := (sRet (fC (.bl false)))
noncomputable abbrev q__law_marks_right_5 : FS := (sIf (fTest (fOp opNe (fMk mkLst (aCons (fMeth "Listing" "rank_of" m_Listing_rank_of (fVar 1) (aCons (fVar 5) aNil)) (aCons (fMeth "Listing" "rank_of" m_Listing_rank_of (fVar 1) (aCons (fVar 6) aNil)) (aCons (fMeth "Listing" "count_between" m_Listing_count_between (fVar 1) (aCons (fVar 5) (aCons (fVar 6) aNil))) aNil)))) (fOp opAdd (fVar 7) (fMk mkLst (aCons (fMk bLen (aCons (fVar 8) aNil)) aNil))))) q__law_marks_right_5t_0 sNil)
noncomputable abbrev q__law_marks_right_6t_0 : FS := (sRet (fC (.bl false)))
noncomputable abbrev q__law_marks_right_6 : FS := (sIf (fTest (fOp opNe (fMeth "Listing" "unchanged_between" m_Listing_unchanged_between (fVar 1) (aCons (fVar 5) (aCons (fVar 6) (aCons (fVar 9) aNil)))) (fMk bLen (aCons (fComp (iOf asL (fVar 8)) [15] b1 (fTest (fOp opLe (fSub (fVar 15) (fC (.int 1))) (fVar 9))) (fVar 15)) aNil)))) q__law_marks_right_6t_0 sNil)
noncomputable abbrev q__law_marks_right_7l_0 : FS := (sPar (par2 12 13) (aCons (fMeth "Listing" "keys_after" m_Listing_keys_after (fVar 1) (aCons (fVar 5) (aCons (fVar 10) aNil))) (aCons (fMeth "Listing" "keys_before" m_Listing_keys_before (fVar 1) (aCons (fVar 6) (aCons (fVar 10) aNil))) aNil)))
noncomputable abbrev q__law_marks_right_7l_1t_0 : FS := (sRet (fC (.bl false)))
noncomputable abbrev q__law_marks_right_7l_1 : FS := (sIf (fTest (fOp opNeS (fMk bReprAS (aCons (fVar 12) aNil)) (fMk bReprA (aCons (fSlice (fComp (iOf asL (fSlice (fVar 4) (oSome (fSub (fVar 7) (fC (.int 0)))) oNone)) [15] b1 tTrue (fSub (fVar 15) (fC (.int 0)))) oNone (oSome (fVar 10))) aNil)))) q__law_marks_right_7l_1t_0 sNil)
noncomputable abbrev q__law_marks_right_7l_2t_0 : FS := (sRet (fC (.bl false)))
noncomputable abbrev q__law_marks_right_7l_2 : FS := (sIf (fTest (fOp opNeS (fMk bReprAS (aCons (fVar 13) aNil)) (fMk bReprA (aCons (fSlice (fRevL (fComp (iOf asL (fSlice (fVar 4) oNone (oSome (fSub (fVar 7) (fC (.int 1)))))) [15] b1 tTrue (fSub (fVar 15) (fC (.int 0))))) oNone (oSome (fVar 10))) aNil)))) q__law_marks_right_7l_2t_0 sNil)
noncomputable abbrev q__law_marks_right_7l_3 : FS := (sDrop (fApp (fVar 12) (fC .non)))
noncomputable abbrev q__law_marks_right_7l_4 : FS := (sDrop (fApp (fVar 13) (fC .non)))
noncomputable abbrev q__law_marks_right_7 : FS := (sFor (iOfA asR1 (aCons (fC (.int 2)) aNil)) (gN 11) (sSeq q__law_marks_right_7l_0 (sSeq q__law_marks_right_7l_1 (sSeq q__law_marks_right_7l_2 (sSeq q__law_marks_right_7l_3 q__law_marks_right_7l_4)))))
noncomputable abbrev q__law_marks_right_8 : FS := (sRet (fC (.bl true)))
noncomputable def g__law_marks_right : FS := (sSeq q__law_marks_right_0 (sSeq q__law_marks_right_1 (sSeq q__law_marks_right_2 (sSeq q__law_marks_right_3 (sSeq q__law_marks_right_4 (sSeq q__law_marks_right_5 (sSeq q__law_marks_right_6 (sSeq q__law_marks_right_7 q__law_marks_right_8))))))))
noncomputable def m__law_marks_right : FM := mOf N__law_marks_right.length g__law_marks_right
theorem d__law_marks_right (T : Txt K mg) : FnD P w K mg base 7 T.a__law_marks_right T.f__law_marks_right ["tape", "listing", "view", "factor", "pairs"] m__law_marks_right := FnD.of T.F__law_marks_right sc__law_marks_right fun cd A outer s H gx => (ds_cons (ds_if (dt_cmp (ok_ne gx) (de_lenO T.K_Listing T.fi_Listing T.ty_Listing ((d_Listing___len__ T).up (by decide)) gx T.b_Listing___len__ (by rfl) T.n_len (de_var 1)) (de_callB (id := "len") ok_len (by rfl) T.n_len (by decide +kernel) (da_cons (de_var 4) da_nil))) (ds_one (ds_ret de_bl)) ds_nil) (ds_cons (ds_asg (de_call ((d__law_marks T).up (by decide)) gx (by rfl) T.g__law_marks T.F__law_marks.kp T.b__law_marks (da_cons (de_var 0) (da_cons (de_var 2) (da_cons de_int da_nil))) (hn := (aCons_n (aCons_n (aCons_n aNil_n))))) (dg_tup gx.calm (dgs_cons (dg_name 5 gx.nd) (dgs_cons (dg_name 6 gx.nd) dgs_nil)))) (ds_cons (ds_setLc (own := [("mark", 14)]) (i := 7) gx.calm gx.nd rfl rfl (sw_true rfl rfl rfl (by decide +kernel)) (di_lst (de_lst (da_cons (de_var 5) (da_cons (de_var 6) da_nil)))) (blkOk_by (N := N__law_marks_right) (sc := defScope s__law_marks_right) (by decide +kernel)) (tg1 14) (fun _ _ _ _ _ => (pg_name (i := 14) gx.nd rfl (by first | exact .inl rfl | exact .inr rfl))) (fun _ _ _ _ _ => dts_nil) (fun _ _ _ _ _ => (de_callB (id := "len") ok_len (by rfl) T.n_len (by decide +kernel) (da_cons (de_lc (own := [("pair", 15)]) gx.blk.calm gx.blk.nd (di_lst (de_var 4)) (blkOk_by (by kernel_rfl)) (tg1 15) (fun _ _ _ _ _ => (pg_name (i := 15) gx.blk.nd rfl (by first | exact .inl rfl | exact .inr rfl))) (fun _ _ _ _ _ => (dts_one (dt_not (dt_val (de_call ((d__law_past T).up (by decide)) gx.blk.blk (by rfl) T.g__law_past T.F__law_past.kp T.b__law_past (da_cons (de_var 2) (da_cons (de_var 14) (da_cons (de_sub gx.blk.blk (de_var 15) de_int) da_nil))) (hn := (aCons_n (aCons_n (aCons_n aNil_n))))))))) (fun _ _ _ _ _ => (de_var 15))) da_nil)))) (ds_cons (ds_asg (de_slice (de_var 4) (do_some (de_sub gx (de_var 7) de_int)) (do_some (de_sub gx (de_var 7) de_int))) (dg_name 8 gx.nd)) (ds_cons (ds_asg (de_tup (da_cons (de_op ok_add (de_op ok_mul (de_var 3) (de_call ((d__law_pick T).up (by decide)) gx (by rfl) T.g__law_pick T.F__law_pick.kp T.b__law_pick (da_cons (de_var 0) (da_cons de_int da_nil)) (hn := (aCons_n (aCons_n aNil_n))))) (de_call ((d__law_pick T).up (by decide)) gx (by rfl) T.g__law_pick T.F__law_pick.kp T.b__law_pick (da_cons (de_var 0) (da_cons de_int da_nil)) (hn := (aCons_n (aCons_n aNil_n))))) (da_cons (de_call ((d__law_pick T).up (by decide)) gx (by rfl) T.g__law_pick T.F__law_pick.kp T.b__law_pick (da_cons (de_var 0) (da_cons de_int da_nil)) (hn := (aCons_n (aCons_n aNil_n)))) da_nil))) (dg_tup gx.calm (dgs_cons (dg_name 9 gx.nd) (dgs_cons (dg_name 10 gx.nd) dgs_nil)))) (ds_cons (ds_if (dt_cmp (ok_ne gx) (de_lst (da_cons (de_meth T.K_Listing T.M_Listing_rank_of ((d_Listing_rank_of T).up (by decide)) gx T.b_Listing_rank_of (de_var 1) (da_cons (de_var 5) da_nil) (hn := (aCons_n aNil_n))) (da_cons (de_meth T.K_Listing T.M_Listing_rank_of ((d_Listing_rank_of T).up (by decide)) gx T.b_Listing_rank_of (de_var 1) (da_cons (de_var 6) da_nil) (hn := (aCons_n aNil_n))) (da_cons (de_meth T.K_Listing T.M_Listing_count_between ((d_Listing_count_between T).up (by decide)) gx T.b_Listing_count_between (de_var 1) (da_cons (de_var 5) (da_cons (de_var 6) da_nil)) (hn := (aCons_n (aCons_n aNil_n)))) da_nil)))) (de_op ok_add (de_var 7) (de_lst (da_cons (de_callB (id := "len") ok_len (by rfl) T.n_len (by decide +kernel) (da_cons (de_var 8) da_nil)) da_nil)))) (ds_one (ds_ret de_bl)) ds_nil) (ds_cons (ds_if (dt_cmp (ok_ne gx) (de_meth T.K_Listing T.M_Listing_unchanged_between ((d_Listing_unchanged_between T).up (by decide)) gx T.b_Listing_unchanged_between (de_var 1) (da_cons (de_var 5) (da_cons (de_var 6) (da_cons (de_var 9) da_nil))) (hn := (aCons_n (aCons_n (aCons_n aNil_n))))) (de_callB (id := "len") ok_len (by rfl) T.n_len (by decide +kernel) (da_cons (de_lc (own := [("pair", 15)]) gx.calm gx.nd (di_lst (de_var 8)) (blkOk_by (N := N__law_marks_right) (sc := defScope s__law_marks_right) (by decide +kernel)) (tg1 15) (fun _ _ _ _ _ => (pg_name (i := 15) gx.nd rfl (by first | exact .inl rfl | exact .inr rfl))) (fun _ _ _ _ _ => (dts_one (dt_cmp ok_le (de_sub gx.blk (de_var 15) de_int) (de_var 9)))) (fun _ _ _ _ _ => (de_var 15))) da_nil))) (ds_one (ds_ret de_bl)) ds_nil) (ds_cons (ds_forR PassesOwn.never gx.calm (di_range1 (by rfl) T.n_range (da_cons de_int da_nil)) (dg_name 11 gx.nd) (ds_cons (ds_par2 12 13 gx rfl rfl (by decide) rfl rfl (da_cons (de_meth T.K_Listing T.M_Listing_keys_after ((d_Listing_keys_after T).up (by decide)) gx T.b_Listing_keys_after (de_var 1) (da_cons (de_var 5) (da_cons (de_var 10) da_nil)) (hn := (aCons_n (aCons_n aNil_n)))) (da_cons (de_meth T.K_Listing T.M_Listing_keys_before ((d_Listing_keys_before T).up (by decide)) gx T.b_Listing_keys_before (de_var 1) (da_cons (de_var 6) (da_cons (de_var 10) da_nil)) (hn := (aCons_n (aCons_n aNil_n)))) da_nil))) (ds_cons (ds_if (dt_cmp ok_neS (de_callB (id := "repr") (ok_reprAS gx) (by rfl) T.n_repr (by decide +kernel) (da_cons (de_var 12) da_nil)) (de_callB (id := "repr") (ok_reprA gx) (by rfl) T.n_repr (by decide +kernel) (da_cons (de_slice (de_lc (own := [("pair", 15)]) gx.calm gx.nd (di_lst (de_slice (de_var 4) (do_some (de_sub gx (de_var 7) de_int)) do_none)) (blkOk_by (N := N__law_marks_right) (sc := defScope s__law_marks_right) (by decide +kernel)) (tg1 15) (fun _ _ _ _ _ => (pg_name (i := 15) gx.nd rfl (by first | exact .inl rfl | exact .inr rfl))) (fun _ _ _ _ _ => dts_nil) (fun _ _ _ _ _ => (de_sub gx.blk (de_var 15) de_int))) do_none (do_some (de_var 10))) da_nil))) (ds_one (ds_ret de_bl)) ds_nil) (ds_cons (ds_if (dt_cmp ok_neS (de_callB (id := "repr") (ok_reprAS gx) (by rfl) T.n_repr (by decide +kernel) (da_cons (de_var 13) da_nil)) (de_callB (id := "repr") (ok_reprA gx) (by rfl) T.n_repr (by decide +kernel) (da_cons (de_slice (de_revL (de_lc (own := [("pair", 15)]) gx.calm gx.nd (di_lst (de_slice (de_var 4) do_none (do_some (de_sub gx (de_var 7) de_int)))) (blkOk_by (N := N__law_marks_right) (sc := defScope s__law_marks_right) (by decide +kernel)) (tg1 15) (fun _ _ _ _ _ => (pg_name (i := 15) gx.nd rfl (by first | exact .inl rfl | exact .inr rfl))) (fun _ _ _ _ _ => dts_nil) (fun _ _ _ _ _ => (de_sub gx.blk (de_var 15) de_int)))) do_none (do_some (de_var 10))) da_nil))) (ds_one (ds_ret de_bl)) ds_nil) (ds_cons (ds_expr (de_append (de_var 12) de_non)) (ds_one (ds_expr (de_append (de_var 13) de_non)))))))) (ds_one (ds_ret de_bl))))))))))
noncomputable abbrev q_Listing___init___0 : FS := (sFldD "Listing" "_view" (fVar 0) (fVar 1))
noncomputable abbrev q_Listing___init___1 : FS := (sFldD "Listing" "_places" (fVar 0) (fNewL aNil))
noncomputable abbrev q_Listing___init___2 : FS := (sFldD "Listing" "_keys" (fVar 0) (fNewL aNil))
noncomputable abbrev q_Listing___init___3 : FS := (sFldD "Listing" "_versions" (fVar 0) (fNewL aNil))
noncomputable def g_Listing___init__ : FS := (sSeq q_Listing___init___0 (sSeq q_Listing___init___1 (sSeq q_Listing___init___2 q_Listing___init___3)))
noncomputable def m_Listing___init__ : FM := mOf N_Listing___init__.length g_Listing___init__
theorem d_Listing___init__ (T : Txt K mg) : FnD P w K mg base 1 T.a_Listing___init__ T.f_Listing___init__ ["self", "view"] m_Listing___init__ := FnD.of T.F_Listing___init__ sc_Listing___init__ fun cd A outer s H gx => (ds_cons (ds_fld T.K_Listing T.na_Listing__view (de_var 0) (de_var 1)) (ds_cons (ds_fld T.K_Listing T.na_Listing__places (de_var 0) (de_newL da_nil)) (ds_cons (ds_fld T.K_Listing T.na_Listing__keys (de_var 0) (de_newL da_nil)) (ds_one (ds_fld T.K_Listing T.na_Listing__versions (de_var 0) (de_newL da_nil))))))
noncomputable abbrev q_Listing_drop_key_0 : FS := (sAsg (fCall m_key_place (aCons (fFld "Listing" "_view" (fVar 0)) (aCons (fVar 1) aNil))) (gN 2))
noncomputable abbrev q_Listing_drop_key_1 : FS := (sAsg (fCall m_first_from (aCons (fFld "Listing" "_places" (fVar 0)) (aCons (fVar 2) aNil))) (gN 3))
noncomputable abbrev q_Listing_drop_key_2t_0 : FS := (sRet (fC (.bl false)))
noncomputable abbrev q_Listing_drop_key_2 : FS := (sIf (fNotT (fTest (fMeth "Listing" "_holds" m_Listing__holds (fVar 0) (aCons (fVar 3) (aCons (fVar 2) aNil))))) q_Listing_drop_key_2t_0 sNil)
noncomputable abbrev q_Listing_drop_key_3 : FS := (sDelI (fFld "Listing" "_places" (fVar 0)) (fVar 3))
noncomputable abbrev q_Listing_drop_key_4 : FS := (sDelI (fFld "Listing" "_keys" (fVar 0)) (fVar 3))
noncomputable abbrev q_Listing_drop_key_5 : FS := (sDelI (fFld "Listing" "_versions" (fVar 0)) (fVar 3))
noncomputable abbrev q_Listing_drop_key_6 : FS := (sRet (fC (.bl true)))
noncomputable def g_Listing_drop_key : FS := (sSeq q_Listing_drop_key_0 (sSeq q_Listing_drop_key_1 (sSeq q_Listing_drop_key_2 (sSeq q_Listing_drop_key_3 (sSeq q_Listing_drop_key_4 (sSeq q_Listing_drop_key_5 q_Listing_drop_key_6))))))
noncomputable def m_Listing_drop_key : FM := mOf N_Listing_drop_key.length g_Listing_drop_key
theorem d_Listing_drop_key (T : Txt K mg) : FnD P w K mg base 4 T.a_Listing_drop_key T.f_Listing_drop_key ["self", "key"] m_Listing_drop_key := FnD.of T.F_Listing_drop_key sc_Listing_drop_key fun cd A outer s H gx => (ds_cons (ds_asg (de_call ((d_key_place T).up (by decide)) gx (by rfl) T.g_key_place T.F_key_place.kp T.b_key_place (da_cons (de_fld T.K_Listing T.na_Listing__view (de_var 0)) (da_cons (de_var 1) da_nil)) (hn := (aCons_n (aCons_n aNil_n)))) (dg_name 2 gx.nd)) (ds_cons (ds_asg (de_call ((d_first_from T).up (by decide)) gx (by rfl) T.g_first_from T.F_first_from.kp T.b_first_from (da_cons (de_fld T.K_Listing T.na_Listing__places (de_var 0)) (da_cons (de_var 2) da_nil)) (hn := (aCons_n (aCons_n aNil_n)))) (dg_name 3 gx.nd)) (ds_cons (ds_if (dt_not (dt_val (de_meth T.K_Listing T.M_Listing__holds ((d_Listing__holds T).up (by decide)) gx T.b_Listing__holds (de_var 0) (da_cons (de_var 3) (da_cons (de_var 2) da_nil)) (hn := (aCons_n (aCons_n aNil_n)))))) (ds_one (ds_ret de_bl)) ds_nil) (ds_cons (ds_delI (de_fld T.K_Listing T.na_Listing__places (de_var 0)) (de_var 3)) (ds_cons (ds_delI (de_fld T.K_Listing T.na_Listing__keys (de_var 0)) (de_var 3)) (ds_cons (ds_delI (de_fld T.K_Listing T.na_Listing__versions (de_var 0)) (de_var 3)) (ds_one (ds_ret de_bl))))))))
noncomputable abbrev q_Listing_add_key_0 : FS := (sAsg (fCall m_key_place (aCons (fFld "Listing" "_view" (fVar 0)) (aCons (fVar 1) aNil))) (gN 3))
noncomputable abbrev q_Listing_add_key_1 : FS := (sAsg (fCall m_first_from (aCons (fFld "Listing" "_places" (fVar 0)) (aCons (fVar 3) aNil))) (gN 4))
noncomputable abbrev q_Listing_add_key_2t_0 : FS := (sPutL (fFld "Listing" "_versions" (fVar 0)) (fVar 4) (fVar 2))
noncomputable abbrev q_Listing_add_key_2e_0 : FS := (sDrop (fIns (fFld "Listing" "_places" (fVar 0)) (fVar 4) (fVar 3)))
noncomputable abbrev q_Listing_add_key_2e_1 : FS := (sDrop (fIns (fFld "Listing" "_keys" (fVar 0)) (fVar 4) (fVar 1)))
noncomputable abbrev q_Listing_add_key_2e_2 : FS := (sDrop (fIns (fFld "Listing" "_versions" (fVar 0)) (fVar 4) (fVar 2)))
noncomputable abbrev q_Listing_add_key_2 : FS := (sIf (fTest (fMeth "Listing" "_holds" m_Listing__holds (fVar 0) (aCons (fVar 4) (aCons (fVar 3) aNil)))) q_Listing_add_key_2t_0 (sSeq q_Listing_add_key_2e_0 (sSeq q_Listing_add_key_2e_1 q_Listing_add_key_2e_2)))
noncomputable def g_Listing_add_key : FS := (sSeq q_Listing_add_key_0 (sSeq q_Listing_add_key_1 q_Listing_add_key_2))
noncomputable def m_Listing_add_key : FM := mOf N_Listing_add_key.length g_Listing_add_key
theorem d_Listing_add_key (T : Txt K mg) : FnD P w K mg base 4 T.a_Listing_add_key T.f_Listing_add_key ["self", "key", "changed"] m_Listing_add_key := FnD.of T.F_Listing_add_key sc_Listing_add_key fun cd A outer s H gx => (ds_cons (ds_asg (de_call ((d_key_place T).up (by decide)) gx (by rfl) T.g_key_place T.F_key_place.kp T.b_key_place (da_cons (de_fld T.K_Listing T.na_Listing__view (de_var 0)) (da_cons (de_var 1) da_nil)) (hn := (aCons_n (aCons_n aNil_n)))) (dg_name 3 gx.nd)) (ds_cons (ds_asg (de_call ((d_first_from T).up (by decide)) gx (by rfl) T.g_first_from T.F_first_from.kp T.b_first_from (da_cons (de_fld T.K_Listing T.na_Listing__places (de_var 0)) (da_cons (de_var 3) da_nil)) (hn := (aCons_n (aCons_n aNil_n)))) (dg_name 4 gx.nd)) (ds_one (ds_if (dt_val (de_meth T.K_Listing T.M_Listing__holds ((d_Listing__holds T).up (by decide)) gx T.b_Listing__holds (de_var 0) (da_cons (de_var 4) (da_cons (de_var 3) da_nil)) (hn := (aCons_n (aCons_n aNil_n))))) (ds_one (ds_putL (de_fld T.K_Listing T.na_Listing__versions (de_var 0)) (de_var 4) (de_var 2))) (ds_cons (ds_expr (de_insert (de_fld T.K_Listing T.na_Listing__places (de_var 0)) (de_var 4) (de_var 3))) (ds_cons (ds_expr (de_insert (de_fld T.K_Listing T.na_Listing__keys (de_var 0)) (de_var 4) (de_var 1))) (ds_one (ds_expr (de_insert (de_fld T.K_Listing T.na_Listing__versions (de_var 0)) (de_var 4) (de_var 2))))))))))
noncomputable abbrev q_law_0l_0 : FS := (sAsg (fCall m__law_tape (aCons (fVar 0) (aCons (fVar 1) aNil))) (gN 2))
noncomputable abbrev q_law_0l_1 : FS := (sAsg (fOp opAdd (fC (.int 1)) (fCall m__law_pick (aCons (fVar 2) (aCons (fC (.int 5)) aNil)))) (gN 3))
noncomputable abbrev q_law_0l_2 : FS := (sAsg (fCall m__law_view (aCons (fVar 2) (aCons (fVar 3) aNil))) (gN 4))
noncomputable abbrev q_law_0l_3 : FS := (sPar (par2 5 6) (aCons (fMake "Listing" m_Listing___init__ (aCons (fVar 4) aNil)) (aCons (fCall m__law_one_of (aCons (fVar 2) (aCons (fMk mkLst (aCons (fC (.int 1)) (aCons (fC (.int 97)) (aCons (fOp powI (fC (.int 10)) (fC (.int 6))) aNil)))) aNil))) aNil)))
noncomputable abbrev q_law_0l_4 : FS := (sAsg (fMk mkLst aNil) (gN 7))
noncomputable abbrev q_law_0l_5l_0t_0t_0 : FS := (sAsg (fSub (fCall m__law_one_of (aCons (fVar 2) (aCons (fVar 7) aNil))) (fC (.int 0))) (gN 8))
noncomputable abbrev q_law_0l_5l_0t_0 : FS := (sIf (fAndT (fTest (fOp opNe (fVar 7) (fMk mkLst aNil))) (fTest (fOp opEq (fCall m__law_pick (aCons (fVar 2) (aCons (fC (.int 2)) aNil))) (fC (.int 0))))) q_law_0l_5l_0t_0t_0 sNil)
noncomputable abbrev q_law_0l_5l_0t_1 : FS := (sAsg (fOp opIn (fVar 8) (fComp (iOf asL (fVar 7)) [12] b1 tTrue (fSub (fVar 12) (fC (.int 0))))) (gN 9))
noncomputable abbrev q_law_0l_5l_0t_2t_0 : FS := (sRet (fC (.bl false)))
noncomputable abbrev q_law_0l_5l_0t_2 : FS := (sIf (fTest (fOp opNeS (fMk bReprA (aCons (fMeth "Listing" "drop_key" m_Listing_drop_key (fVar 5) (aCons (fVar 8) aNil)) aNil)) (fMk bReprA (aCons (fVar 9) aNil)))) q_law_0l_5l_0t_2t_0 sNil)
noncomputable abbrev q_law_0l_5l_0t_3 : FS := (sAsg (fComp (iOf asL (fVar 7)) [12] b1 (fTest (fOp opNe (fSub (fVar 12) (fC (.int 0))) (fVar 8))) (fVar 12)) (gN 7))
noncomputable abbrev q_law_0l_5l_0e_0 : FS := (sAsg (fOp opMul (fVar 6) (fCall m__law_pick (aCons (fVar 2) (aCons (fC (.int 12)) aNil)))) (gN 10))
noncomputable abbrev q_law_0l_5l_0e_1 : FS := (sDrop (fMeth "Listing" "add_key" m_Listing_add_key (fVar 5) (aCons (fVar 8) (aCons (fVar 10) aNil))))
noncomputable abbrev q_law_0l_5l_0e_2 : FS := (sAsg (fCall m__law_inserted (aCons (fVar 4) (aCons (fVar 7) (aCons (fVar 8) (aCons (fVar 10) aNil))))) (gN 7))
noncomputable abbrev q_law_0l_5l_0 : FS := (sIf (fTest (fOp opEq (fCall m__law_pick (aCons (fVar 2) (aCons (fC (.int 4)) aNil))) (fC (.int 0)))) (sSeq q_law_0l_5l_0t_0 (sSeq q_law_0l_5l_0t_1 (sSeq q_law_0l_5l_0t_2 q_law_0l_5l_0t_3))) (sSeq q_law_0l_5l_0e_0 (sSeq q_law_0l_5l_0e_1 q_law_0l_5l_0e_2)))
noncomputable abbrev q_law_0l_5l_1t_0 : FS := (sRet (fC (.bl false)))
noncomputable abbrev q_law_0l_5l_1 : FS := (sIf (fAndT (fTest (fOp opGt (fCall m__law_pick (aCons (fVar 2) (aCons (fC (.int 3)) aNil))) (fC (.int 0)))) (fNotT (fTest (fCall m__law_marks_right (aCons (fVar 2) (aCons (fVar 5) (aCons (fVar 4) (aCons (fVar 6) (aCons (fVar 7) aNil))))))))) q_law_0l_5l_1t_0 sNil)
noncomputable abbrev q_law_0l_5 : FS := (sFor (iOf asL (fCall m__law_keys (aCons (fVar 2) (aCons (fVar 4) (aCons (fVar 3) (aCons (fC (.int 24)) aNil)))))) (gN 8) (sSeq q_law_0l_5l_0 q_law_0l_5l_1))
noncomputable abbrev q_law_0l_6t_0 : FS := (sRet (fC (.bl false)))
noncomputable abbrev q_law_0l_6 : FS := (sIf (fOrT (fTest (fOp opNe (fLenO "Listing" m_Listing___len__ (fVar 5)) (fMk bLen (aCons (fVar 7) aNil)))) (fNotT (fTest (fCall m__law_marks_right (aCons (fVar 2) (aCons (fVar 5) (aCons (fVar 4) (aCons (fVar 6) (aCons (fVar 7) aNil))))))))) q_law_0l_6t_0 sNil)
noncomputable abbrev q_law_0l_7t_0 : FS := (sRet (fC (.bl false)))
noncomputable abbrev q_law_0l_7 : FS := (sIf (fTest (fOp opNe (fCall m__law_at (aCons (fMake "Listing" m_Listing___init__ (aCons (fVar 4) aNil)) (aCons (fC (.int 0)) aNil))) (fMk mkTup (aCons (fC (.str (Str.ofString "error"))) (aCons (fC (.int 0)) aNil))))) q_law_0l_7t_0 sNil)
noncomputable abbrev q_law_0l_8l_0t_0 : FS := (sRet (fC (.bl false)))
noncomputable abbrev q_law_0l_8l_0 : FS := (sIf (fAndT (fTest (fOp opNe (fVar 11) (fC (.int 0)))) (fTest (fOp opNe (fCall m__law_at (aCons (fVar 5) (aCons (fVar 11) aNil))) (fMk mkTup (aCons (fC (.str (Str.ofString "error"))) (aCons (fVar 11) aNil)))))) q_law_0l_8l_0t_0 sNil)
noncomputable abbrev q_law_0l_8 : FS := (sFor (iOf asL (fMk mkLst (aCons (fUn negI (fC (.int 1))) (aCons (fMk bLen (aCons (fVar 7) aNil)) (aCons (fOp opAdd (fMk bLen (aCons (fVar 7) aNil)) (fC (.int 5))) (aCons (fOp subI (fC (.int 0)) (fMk bLen (aCons (fVar 7) aNil))) aNil)))))) (gN 11) q_law_0l_8l_0)
noncomputable abbrev q_law_0l_9l_0t_0 : FS := (sRet (fC (.bl false)))
noncomputable abbrev q_law_0l_9l_0 : FS := (sIf (fTest (fOp opNeS (fMk bReprA (aCons (fCall m__law_at (aCons (fVar 5) (aCons (fVar 11) aNil))) aNil)) (fMk bReprA (aCons (fMk mkTup (aCons (fC (.str (Str.ofString "key"))) (aCons (fSub (fVar 12) (fC (.int 0))) aNil))) aNil)))) q_law_0l_9l_0t_0 sNil)
noncomputable abbrev q_law_0l_9 : FS := (sFor (iOfA asEnL (aCons (fVar 7) aNil)) (gT 2 (gCons' (gN 11) (gCons' (gN 12) gNil'))) q_law_0l_9l_0)
noncomputable abbrev q_law_0 : FS := (sFor (iOfA asR1 (aCons (fMk bMax (aCons (fC (.int 1)) (aCons (fMk bMin (aCons (fC (.int 3)) (aCons (fMk bLen (aCons (fVar 0) aNil)) aNil))) aNil))) aNil)) (gN 1) (sSeq q_law_0l_0 (sSeq q_law_0l_1 (sSeq q_law_0l_2 (sSeq q_law_0l_3 (sSeq q_law_0l_4 (sSeq q_law_0l_5 (sSeq q_law_0l_6 (sSeq q_law_0l_7 (sSeq q_law_0l_8 q_law_0l_9))))))))))
noncomputable abbrev q_law_1 : FS := (sRet (fC (.bl true)))
noncomputable def g_law : FS := (sSeq q_law_0 q_law_1)
noncomputable def m_law : FM := mOf N_law.length g_law
theorem d_law (T : Txt K mg) : FnD P w K mg base 11 T.a_law T.f_law ["script"] m_law := FnD.of T.F_law sc_law fun cd A outer s H gx => (ds_cons (ds_forR PassesOwn.never gx.calm (di_range1 (by rfl) T.n_range (da_cons (de_callB (id := "max") (ok_max gx) (by rfl) T.n_max (by decide +kernel) (da_cons de_int (da_cons (de_callB (id := "min") (ok_min gx) (by rfl) T.n_min (by decide +kernel) (da_cons de_int (da_cons (de_callB (id := "len") ok_len (by rfl) T.n_len (by decide +kernel) (da_cons (de_var 0) da_nil)) da_nil))) da_nil))) da_nil)) (dg_name 1 gx.nd) (ds_cons (ds_asg (de_call ((d__law_tape T).up (by decide)) gx (by rfl) T.g__law_tape T.F__law_tape.kp T.b__law_tape (da_cons (de_var 0) (da_cons (de_var 1) da_nil)) (hn := (aCons_n (aCons_n aNil_n)))) (dg_name 2 gx.nd)) (ds_cons (ds_asg (de_op ok_add de_int (de_call ((d__law_pick T).up (by decide)) gx (by rfl) T.g__law_pick T.F__law_pick.kp T.b__law_pick (da_cons (de_var 2) (da_cons de_int da_nil)) (hn := (aCons_n (aCons_n aNil_n))))) (dg_name 3 gx.nd)) (ds_cons (ds_asg (de_call ((d__law_view T).up (by decide)) gx (by rfl) T.g__law_view T.F__law_view.kp T.b__law_view (da_cons (de_var 2) (da_cons (de_var 3) da_nil)) (hn := (aCons_n (aCons_n aNil_n)))) (dg_name 4 gx.nd)) (ds_cons (ds_par2 5 6 gx rfl rfl (by decide) rfl rfl (da_cons (de_make T.mk_Listing T.K_Listing.at_ ((d_Listing___init__ T).up (by decide)) gx (by rfl) T.g_Listing T.b_Listing___init__ (da_cons (de_var 4) da_nil) (hn := (aCons_n aNil_n))) (da_cons (de_call ((d__law_one_of T).up (by decide)) gx (by rfl) T.g__law_one_of T.F__law_one_of.kp T.b__law_one_of (da_cons (de_var 2) (da_cons (de_lst (da_cons de_int (da_cons de_int (da_cons (de_op ok_powI de_int de_int) da_nil)))) da_nil)) (hn := (aCons_n (aCons_n aNil_n)))) da_nil))) (ds_cons (ds_asg (de_lst da_nil) (dg_name 7 gx.nd)) (ds_cons (ds_forR PassesOwn.never gx.calm (di_lst (de_call ((d__law_keys T).up (by decide)) gx (by rfl) T.g__law_keys T.F__law_keys.kp T.b__law_keys (da_cons (de_var 2) (da_cons (de_var 4) (da_cons (de_var 3) (da_cons de_int da_nil)))) (hn := (aCons_n (aCons_n (aCons_n (aCons_n aNil_n))))))) (dg_name 8 gx.nd) (ds_cons (ds_if (dt_cmp (ok_eq gx) (de_call ((d__law_pick T).up (by decide)) gx (by rfl) T.g__law_pick T.F__law_pick.kp T.b__law_pick (da_cons (de_var 2) (da_cons de_int da_nil)) (hn := (aCons_n (aCons_n aNil_n)))) de_int) (ds_cons (ds_if (dt_w (dw_and (dt_cmp (ok_ne gx) (de_var 7) (de_lst da_nil)) (dw_and1 (dt_cmp (ok_eq gx) (de_call ((d__law_pick T).up (by decide)) gx (by rfl) T.g__law_pick T.F__law_pick.kp T.b__law_pick (da_cons (de_var 2) (da_cons de_int da_nil)) (hn := (aCons_n (aCons_n aNil_n)))) de_int)))) (ds_one (ds_asg (de_sub gx (de_call ((d__law_one_of T).up (by decide)) gx (by rfl) T.g__law_one_of T.F__law_one_of.kp T.b__law_one_of (da_cons (de_var 2) (da_cons (de_var 7) da_nil)) (hn := (aCons_n (aCons_n aNil_n)))) de_int) (dg_name 8 gx.nd))) ds_nil) (ds_cons (ds_asg (de_cmp (ok_inD gx) (de_var 8) (de_lc (own := [("pair", 12)]) gx.calm gx.nd (di_lst (de_var 7)) (blkOk_by (N := N_law) (sc := defScope s_law) (by decide +kernel)) (tg1 12) (fun _ _ _ _ _ => (pg_name (i := 12) gx.nd rfl (.inl rfl))) (fun _ _ _ _ _ => dts_nil) (fun _ _ _ _ _ => (de_sub gx.blk (de_var 12) de_int)))) (dg_name 9 gx.nd)) (ds_cons (ds_if (dt_cmp ok_neS (de_callB (id := "repr") (ok_reprA gx) (by rfl) T.n_repr (by decide +kernel) (da_cons (de_meth T.K_Listing T.M_Listing_drop_key ((d_Listing_drop_key T).up (by decide)) gx T.b_Listing_drop_key (de_var 5) (da_cons (de_var 8) da_nil) (hn := (aCons_n aNil_n))) da_nil)) (de_callB (id := "repr") (ok_reprA gx) (by rfl) T.n_repr (by decide +kernel) (da_cons (de_var 9) da_nil))) (ds_one (ds_ret de_bl)) ds_nil) (ds_one (ds_setLc (own := [("pair", 12)]) (i := 7) gx.calm gx.nd rfl rfl (sw_true rfl rfl rfl (by decide +kernel)) (di_lst (de_var 7)) (blkOk_by (N := N_law) (sc := defScope s_law) (by decide +kernel)) (tg1 12) (fun _ _ _ _ _ => (pg_name (i := 12) gx.nd rfl (.inl rfl))) (fun _ _ _ _ _ => (dts_one (dt_cmp (ok_ne gx.blk) (de_sub gx.blk (de_var 12) de_int) (de_var 8)))) (fun _ _ _ _ _ => (de_var 12))))))) (ds_cons (ds_asg (de_op ok_mul (de_var 6) (de_call ((d__law_pick T).up (by decide)) gx (by rfl) T.g__law_pick T.F__law_pick.kp T.b__law_pick (da_cons (de_var 2) (da_cons de_int da_nil)) (hn := (aCons_n (aCons_n aNil_n))))) (dg_name 10 gx.nd)) (ds_cons (ds_expr (de_meth T.K_Listing T.M_Listing_add_key ((d_Listing_add_key T).up (by decide)) gx T.b_Listing_add_key (de_var 5) (da_cons (de_var 8) (da_cons (de_var 10) da_nil)) (hn := (aCons_n (aCons_n aNil_n))))) (ds_one (ds_asg (de_call ((d__law_inserted T).up (by decide)) gx (by rfl) T.g__law_inserted T.F__law_inserted.kp T.b__law_inserted (da_cons (de_var 4) (da_cons (de_var 7) (da_cons (de_var 8) (da_cons (de_var 10) da_nil)))) (hn := (aCons_n (aCons_n (aCons_n (aCons_n aNil_n)))))) (dg_name 7 gx.nd)))))) (ds_one (ds_if (dt_w (dw_and (dt_cmp ok_gt (de_call ((d__law_pick T).up (by decide)) gx (by rfl) T.g__law_pick T.F__law_pick.kp T.b__law_pick (da_cons (de_var 2) (da_cons de_int da_nil)) (hn := (aCons_n (aCons_n aNil_n)))) de_int) (dw_and1 (dt_not (dt_val (de_call ((d__law_marks_right T).up (by decide)) gx (by rfl) T.g__law_marks_right T.F__law_marks_right.kp T.b__law_marks_right (da_cons (de_var 2) (da_cons (de_var 5) (da_cons (de_var 4) (da_cons (de_var 6) (da_cons (de_var 7) da_nil))))) (hn := (aCons_n (aCons_n (aCons_n (aCons_n (aCons_n aNil_n)))))))))))) (ds_one (ds_ret de_bl)) ds_nil)))) (ds_cons (ds_if (dt_w (dw_or (dt_cmp (ok_ne gx) (de_lenO T.K_Listing T.fi_Listing T.ty_Listing ((d_Listing___len__ T).up (by decide)) gx T.b_Listing___len__ (by rfl) T.n_len (de_var 5)) (de_callB (id := "len") ok_len (by rfl) T.n_len (by decide +kernel) (da_cons (de_var 7) da_nil))) (dw_or1 (dt_not (dt_val (de_call ((d__law_marks_right T).up (by decide)) gx (by rfl) T.g__law_marks_right T.F__law_marks_right.kp T.b__law_marks_right (da_cons (de_var 2) (da_cons (de_var 5) (da_cons (de_var 4) (da_cons (de_var 6) (da_cons (de_var 7) da_nil))))) (hn := (aCons_n (aCons_n (aCons_n (aCons_n (aCons_n aNil_n)))))))))))) (ds_one (ds_ret de_bl)) ds_nil) (ds_cons (ds_if (dt_cmp (ok_ne gx) (de_call ((d__law_at T).up (by decide)) gx (by rfl) T.g__law_at T.F__law_at.kp T.b__law_at (da_cons (de_make T.mk_Listing T.K_Listing.at_ ((d_Listing___init__ T).up (by decide)) gx (by rfl) T.g_Listing T.b_Listing___init__ (da_cons (de_var 4) da_nil) (hn := (aCons_n aNil_n))) (da_cons de_int da_nil)) (hn := (aCons_n (aCons_n aNil_n)))) (de_tup (da_cons de_str (da_cons de_int da_nil)))) (ds_one (ds_ret de_bl)) ds_nil) (ds_cons (ds_forR PassesOwn.never gx.calm (di_lst (de_lst (da_cons (de_neg de_int) (da_cons (de_callB (id := "len") ok_len (by rfl) T.n_len (by decide +kernel) (da_cons (de_var 7) da_nil)) (da_cons (de_op ok_add (de_callB (id := "len") ok_len (by rfl) T.n_len (by decide +kernel) (da_cons (de_var 7) da_nil)) de_int) (da_cons (de_op ok_subI de_int (de_callB (id := "len") ok_len (by rfl) T.n_len (by decide +kernel) (da_cons (de_var 7) da_nil))) da_nil)))))) (dg_name 11 gx.nd) (ds_one (ds_if (dt_w (dw_and (dt_cmp (ok_ne gx) (de_var 11) de_int) (dw_and1 (dt_cmp (ok_ne gx) (de_call ((d__law_at T).up (by decide)) gx (by rfl) T.g__law_at T.F__law_at.kp T.b__law_at (da_cons (de_var 5) (da_cons (de_var 11) da_nil)) (hn := (aCons_n (aCons_n aNil_n)))) (de_tup (da_cons de_str (da_cons (de_var 11) da_nil))))))) (ds_one (ds_ret de_bl)) ds_nil))) (ds_one (ds_forR PassesOwn.never gx.calm (di_enumL (by rfl) T.n_enumerate (da_cons (de_var 7) da_nil)) (dg_tupI gx.calm (dgs_cons (dg_name 11 gx.nd) (dgs_cons (dg_name 12 gx.nd) dgs_nil))) (ds_one (ds_if (dt_cmp ok_neS (de_callB (id := "repr") (ok_reprA gx) (by rfl) T.n_repr (by decide +kernel) (da_cons (de_call ((d__law_at T).up (by decide)) gx (by rfl) T.g__law_at T.F__law_at.kp T.b__law_at (da_cons (de_var 5) (da_cons (de_var 11) da_nil)) (hn := (aCons_n (aCons_n aNil_n)))) da_nil)) (de_callB (id := "repr") (ok_reprA gx) (by rfl) T.n_repr (by decide +kernel) (da_cons (de_tup (da_cons de_str (da_cons (de_sub gx (de_var 12) de_int) da_nil))) da_nil))) (ds_one (ds_ret de_bl)) ds_nil)))))))))))))) (ds_one (ds_ret de_bl)))
end LW
namespace LW
open PySem PySem.Spec PyProof.Rows L2 DL TL
theorem e_pick : m__law_pick = mPick := rfl
theorem e_one : m__law_one_of = mOne := rfl
def asc (n : Nat) (x : Str) : Bool := decide (x.length ≤ n) && (tl x).all fun c => decide (c < 128)
theorem asc_gs {n : Nat} {x : Str} (h : asc n x = true) : GS n x := by
  unfold asc at h
  rw [Bool.and_eq_true] at h
  exact ⟨of_decide_eq_true h.1, fun c hc => of_decide_eq_true (List.all_eq_true.mp h.2 c hc)⟩
theorem gs_asc {n : Nat} {x : Str} (h : GS n x) : asc n x = true := by
  unfold asc
  rw [Bool.and_eq_true]
  exact ⟨decide_eq_true h.1, List.all_eq_true.mpr fun c hc => decide_eq_true (h.2 c hc)⟩
theorem eqL {a b : Str} {c : Bool} (ha : asc 16 a = true) (hb : asc 16 b = true) (h : (a == b) = c) : opEq (.str a) (.str b) = some (.bl c) := by
  rw [← h]
  exact opEq_fv (m := 16) (n := 16) (a := .str a) (b := .str b) (asc_gs ha) (asc_gs hb)
theorem qs : opEq (.str (Str.ofString "all")) (.str (Str.ofString "all")) = some (.bl true) ∧
  opEq (.str (Str.ofString "all")) (.str (Str.ofString "not")) = some (.bl false) ∧
  opEq (.str (Str.ofString "all")) (.str (Str.ofString "and")) = some (.bl false) ∧
  opEq (.str (Str.ofString "all")) (.str (Str.ofString "or")) = some (.bl false) ∧
  opEq (.str (Str.ofString "all")) (.str (Str.ofString "equal")) = some (.bl false) ∧
  opEq (.str (Str.ofString "all")) (.str (Str.ofString "less")) = some (.bl false) ∧
  opEq (.str (Str.ofString "all")) (.str (Str.ofString "starts")) = some (.bl false) ∧
  opEq (.str (Str.ofString "equal")) (.str (Str.ofString "all")) = some (.bl false) ∧
  opEq (.str (Str.ofString "equal")) (.str (Str.ofString "not")) = some (.bl false) ∧
  opEq (.str (Str.ofString "equal")) (.str (Str.ofString "and")) = some (.bl false) ∧
  opEq (.str (Str.ofString "equal")) (.str (Str.ofString "or")) = some (.bl false) ∧
  opEq (.str (Str.ofString "equal")) (.str (Str.ofString "equal")) = some (.bl true) ∧
  opEq (.str (Str.ofString "equal")) (.str (Str.ofString "less")) = some (.bl false) ∧
  opEq (.str (Str.ofString "equal")) (.str (Str.ofString "starts")) = some (.bl false) ∧
  opEq (.str (Str.ofString "less")) (.str (Str.ofString "all")) = some (.bl false) ∧
  opEq (.str (Str.ofString "less")) (.str (Str.ofString "not")) = some (.bl false) ∧
  opEq (.str (Str.ofString "less")) (.str (Str.ofString "and")) = some (.bl false) ∧
  opEq (.str (Str.ofString "less")) (.str (Str.ofString "or")) = some (.bl false) ∧
  opEq (.str (Str.ofString "less")) (.str (Str.ofString "equal")) = some (.bl false) ∧
  opEq (.str (Str.ofString "less")) (.str (Str.ofString "less")) = some (.bl true) ∧
  opEq (.str (Str.ofString "less")) (.str (Str.ofString "starts")) = some (.bl false) ∧
  opEq (.str (Str.ofString "starts")) (.str (Str.ofString "all")) = some (.bl false) ∧
  opEq (.str (Str.ofString "starts")) (.str (Str.ofString "not")) = some (.bl false) ∧
  opEq (.str (Str.ofString "starts")) (.str (Str.ofString "and")) = some (.bl false) ∧
  opEq (.str (Str.ofString "starts")) (.str (Str.ofString "or")) = some (.bl false) ∧
  opEq (.str (Str.ofString "starts")) (.str (Str.ofString "equal")) = some (.bl false) ∧
  opEq (.str (Str.ofString "starts")) (.str (Str.ofString "less")) = some (.bl false) ∧
  opEq (.str (Str.ofString "starts")) (.str (Str.ofString "starts")) = some (.bl true) ∧
  opEq (.str (Str.ofString "one_of")) (.str (Str.ofString "all")) = some (.bl false) ∧
  opEq (.str (Str.ofString "one_of")) (.str (Str.ofString "not")) = some (.bl false) ∧
  opEq (.str (Str.ofString "one_of")) (.str (Str.ofString "and")) = some (.bl false) ∧
  opEq (.str (Str.ofString "one_of")) (.str (Str.ofString "or")) = some (.bl false) ∧
  opEq (.str (Str.ofString "one_of")) (.str (Str.ofString "equal")) = some (.bl false) ∧
  opEq (.str (Str.ofString "one_of")) (.str (Str.ofString "less")) = some (.bl false) ∧
  opEq (.str (Str.ofString "one_of")) (.str (Str.ofString "starts")) = some (.bl false) ∧
  opEq (.str (Str.ofString "not")) (.str (Str.ofString "all")) = some (.bl false) ∧
  opEq (.str (Str.ofString "not")) (.str (Str.ofString "not")) = some (.bl true) ∧
  opEq (.str (Str.ofString "not")) (.str (Str.ofString "and")) = some (.bl false) ∧
  opEq (.str (Str.ofString "not")) (.str (Str.ofString "or")) = some (.bl false) ∧
  opEq (.str (Str.ofString "not")) (.str (Str.ofString "equal")) = some (.bl false) ∧
  opEq (.str (Str.ofString "not")) (.str (Str.ofString "less")) = some (.bl false) ∧
  opEq (.str (Str.ofString "not")) (.str (Str.ofString "starts")) = some (.bl false) ∧
  opEq (.str (Str.ofString "and")) (.str (Str.ofString "all")) = some (.bl false) ∧
  opEq (.str (Str.ofString "and")) (.str (Str.ofString "not")) = some (.bl false) ∧
  opEq (.str (Str.ofString "and")) (.str (Str.ofString "and")) = some (.bl true) ∧
  opEq (.str (Str.ofString "and")) (.str (Str.ofString "or")) = some (.bl false) ∧
  opEq (.str (Str.ofString "and")) (.str (Str.ofString "equal")) = some (.bl false) ∧
  opEq (.str (Str.ofString "and")) (.str (Str.ofString "less")) = some (.bl false) ∧
  opEq (.str (Str.ofString "and")) (.str (Str.ofString "starts")) = some (.bl false) ∧
  opEq (.str (Str.ofString "or")) (.str (Str.ofString "all")) = some (.bl false) ∧
  opEq (.str (Str.ofString "or")) (.str (Str.ofString "not")) = some (.bl false) ∧
  opEq (.str (Str.ofString "or")) (.str (Str.ofString "and")) = some (.bl false) ∧
  opEq (.str (Str.ofString "or")) (.str (Str.ofString "or")) = some (.bl true) ∧
  opEq (.str (Str.ofString "or")) (.str (Str.ofString "equal")) = some (.bl false) ∧
  opEq (.str (Str.ofString "or")) (.str (Str.ofString "less")) = some (.bl false) ∧
  opEq (.str (Str.ofString "or")) (.str (Str.ofString "starts")) = some (.bl false) :=
  ⟨eqL (by decide +kernel) (by decide +kernel) (by decide +kernel), eqL (by decide +kernel) (by decide +kernel) (by decide +kernel), eqL (by decide +kernel) (by decide +kernel) (by decide +kernel), eqL (by decide +kernel) (by decide +kernel) (by decide +kernel), eqL (by decide +kernel) (by decide +kernel) (by decide +kernel), eqL (by decide +kernel) (by decide +kernel) (by decide +kernel), eqL (by decide +kernel) (by decide +kernel) (by decide +kernel), eqL (by decide +kernel) (by decide +kernel) (by decide +kernel), eqL (by decide +kernel) (by decide +kernel) (by decide +kernel), eqL (by decide +kernel) (by decide +kernel) (by decide +kernel), eqL (by decide +kernel) (by decide +kernel) (by decide +kernel), eqL (by decide +kernel) (by decide +kernel) (by decide +kernel), eqL (by decide +kernel) (by decide +kernel) (by decide +kernel), eqL (by decide +kernel) (by decide +kernel) (by decide +kernel), eqL (by decide +kernel) (by decide +kernel) (by decide +kernel), eqL (by decide +kernel) (by decide +kernel) (by decide +kernel), eqL (by decide +kernel) (by decide +kernel) (by decide +kernel), eqL (by decide +kernel) (by decide +kernel) (by decide +kernel), eqL (by decide +kernel) (by decide +kernel) (by decide +kernel), eqL (by decide +kernel) (by decide +kernel) (by decide +kernel), eqL (by decide +kernel) (by decide +kernel) (by decide +kernel), eqL (by decide +kernel) (by decide +kernel) (by decide +kernel), eqL (by decide +kernel) (by decide +kernel) (by decide +kernel), eqL (by decide +kernel) (by decide +kernel) (by decide +kernel), eqL (by decide +kernel) (by decide +kernel) (by decide +kernel), eqL (by decide +kernel) (by decide +kernel) (by decide +kernel), eqL (by decide +kernel) (by decide +kernel) (by decide +kernel), eqL (by decide +kernel) (by decide +kernel) (by decide +kernel), eqL (by decide +kernel) (by decide +kernel) (by decide +kernel), eqL (by decide +kernel) (by decide +kernel) (by decide +kernel), eqL (by decide +kernel) (by decide +kernel) (by decide +kernel), eqL (by decide +kernel) (by decide +kernel) (by decide +kernel), eqL (by decide +kernel) (by decide +kernel) (by decide +kernel), eqL (by decide +kernel) (by decide +kernel) (by decide +kernel), eqL (by decide +kernel) (by decide +kernel) (by decide +kernel), eqL (by decide +kernel) (by decide +kernel) (by decide +kernel), eqL (by decide +kernel) (by decide +kernel) (by decide +kernel), eqL (by decide +kernel) (by decide +kernel) (by decide +kernel), eqL (by decide +kernel) (by decide +kernel) (by decide +kernel), eqL (by decide +kernel) (by decide +kernel) (by decide +kernel), eqL (by decide +kernel) (by decide +kernel) (by decide +kernel), eqL (by decide +kernel) (by decide +kernel) (by decide +kernel), eqL (by decide +kernel) (by decide +kernel) (by decide +kernel), eqL (by decide +kernel) (by decide +kernel) (by decide +kernel), eqL (by decide +kernel) (by decide +kernel) (by decide +kernel), eqL (by decide +kernel) (by decide +kernel) (by decide +kernel), eqL (by decide +kernel) (by decide +kernel) (by decide +kernel), eqL (by decide +kernel) (by decide +kernel) (by decide +kernel), eqL (by decide +kernel) (by decide +kernel) (by decide +kernel), eqL (by decide +kernel) (by decide +kernel) (by decide +kernel), eqL (by decide +kernel) (by decide +kernel) (by decide +kernel), eqL (by decide +kernel) (by decide +kernel) (by decide +kernel), eqL (by decide +kernel) (by decide +kernel) (by decide +kernel), eqL (by decide +kernel) (by decide +kernel) (by decide +kernel), eqL (by decide +kernel) (by decide +kernel) (by decide +kernel), eqL (by decide +kernel) (by decide +kernel) (by decide +kernel)⟩
/-- plain values -/
def pvB : D → Bool | .non => true | .int i => decide (-1000000000 ≤ i ∧ i ≤ 1000000000) | .str x => asc 40 x | _ => false
theorem pv_fv : ∀ {d : D}, pvB d = true → FV 40 d
  | .non, _ => trivial
  | .int _, _ => trivial
  | .str x, h => asc_gs h
  | .bl _, h => by cases h
  | .tup _, h => by cases h
  | .lst _, h => by cases h
  | .dct _, h => by cases h
  | .scr _, h => by cases h
  | .ref _, h => by cases h
theorem pv_sm : ∀ {d : D}, pvB d = true → Sm 0 40 d
  | .non, _ => Sm.non.mono (Nat.le_refl _) (Nat.zero_le _)
  | .int i, h => Sm.int (by have := of_decide_eq_true (show decide (-1000000000 ≤ i ∧ i ≤ 1000000000) = true from h); omega)
  | .str x, h => Sm.str (asc_gs h)
  | .bl _, h => by cases h
  | .tup _, h => by cases h
  | .lst _, h => by cases h
  | .dct _, h => by cases h
  | .scr _, h => by cases h
  | .ref _, h => by cases h
def kindP : D → Int | .non => 0 | .str _ => 2 | _ => 1
def vLt : D → D → Bool | .int a, .int b => decide (a < b) | .str a, .str b => decide (tl a < tl b) | _, _ => false
def cmpV (a b : D) : Int := if vEq a b = true then 0 else if kindP a = kindP b then (if vLt a b = true then -1 else 1) else if kindP a < kindP b then -1 else 1
theorem kp {m : Nat} {d : D} (h : FV m d) (st : Store) : m_kind_place [d] st = some (.int (kindP d), st) := by
  cases d <;> first
    | exact h.elim
    | (simp [m_kind_place, g_kind_place, mOf, outM, startD, sSeq, sIf, sRet, sNil, fVar, fC, fOp, fTest, asB, fIsi, tyD, isiB, orD, opIs, isN, isB, DL.isNon]; rfl)
theorem strsD_of : ∀ {vs : List D}, (∀ v ∈ vs, ∃ x, v = .str x ∧ GS 1 x) → ∃ ys, strsD vs = some ys ∧ ys.length = vs.length ∧ ∀ y ∈ ys, GS 1 y
  | [], _ => ⟨[], rfl, rfl, fun _ h => by cases h⟩
  | v :: vs, h => by
    obtain ⟨x, rfl, g⟩ := h v List.mem_cons_self
    obtain ⟨ys, h1, h2, h3⟩ := strsD_of fun w hw => h w (List.mem_cons_of_mem _ hw)
    refine ⟨x :: ys, by simp [strsD, h1], by simp [h2], fun y hy => ?_⟩
    rcases List.mem_cons.mp hy with rfl | hy
    · exact g
    · exact h3 y hy
theorem sum_le {m : Nat} : ∀ {ys : List Str}, (∀ y ∈ ys, GS m y) → (ys.map (·.length)).sum ≤ ys.length * m
  | [], _ => Nat.zero_le _
  | y :: ys, h => by
    have h1 := sum_le fun z hz => h z (List.mem_cons_of_mem _ hz)
    have h2 := (h y List.mem_cons_self).1
    rw [List.map_cons, List.sum_cons, List.length_cons, Nat.succ_mul]
    omega
theorem join_ok {m k : Nat} {vs : List D} (h : ∀ v ∈ vs, ∃ x, v = .str x ∧ GS 1 x) (hl : vs.length ≤ k) (hk : k ≤ 1000) : ∃ z, joinD (.str (Str.ofString "")) [.lst vs] = some (.str z) ∧ GS k z := by
  obtain ⟨ys, h1, h2, h3⟩ := strsD_of h
  have hs := sum_le h3
  have : (ys.map (·.length)).sum + ys.length * (Str.ofString "").length ≤ 16777216 := by
    rw [show (Str.ofString "").length = 0 from rfl]
    omega
  refine ⟨_, by simp only [joinD, h1, Option.bind_some]; rw [if_pos this], ?_⟩
  exact (GS.join h3).mono (by omega)
end LW
namespace LW
open PySem PySem.Spec PyProof.Rows L2 DL TL
theorem pv_str {x : Str} (h : GS 40 x) : pvB (.str x) = true := gs_asc h
theorem bits10 : Builtin.Int.intBits 10 ≤ 32 := bits32 (by decide) (by decide)
theorem pow109 : powI (.int 10) (.int 9) = some (.int 1000000000) := by
  have p := powI_int (a := 10) (b := 9) (by decide) bits10 (by decide)
  simpa using p
theorem mulz (k : Int) (h : 0 ≤ k ∧ k ≤ 1000) : opMul (.str (Str.ofString "z")) (.int k) = some (.str (Txt.mul (Str.ofString "z") k)) := by
  have : (Str.ofString "z").length ≤ 1000 := by decide
  simp [opMul, orD, mulI, onI, mulS, this, h.1, h.2]
theorem addL_ok {xs ys : List D} (h : xs.length + ys.length ≤ 1000) : opAdd (.lst xs) (.lst ys) = some (.lst (xs ++ ys)) := by
  have : xs.length + ys.length ≤ sizeLine := Nat.le_trans h (by decide)
  simp [opAdd, orD, addI, addS, addL, onI, onS, this]
theorem addT_ok {xs ys : List D} (h : xs.length + ys.length ≤ 1000) : opAdd (.tup xs) (.tup ys) = some (.tup (xs ++ ys)) := by
  have : xs.length + ys.length ≤ sizeLine := Nat.le_trans h (by decide)
  simp [opAdd, orD, addI, addS, addL, addT, onI, onS, this]
def someV : List D := [.non, .int 0, .int 1, .int 2, .int (-1), .int 1, .int 2, .int 1000000000, .int (-1000000000), .str (Str.ofString ""), .str (Str.ofString "a"), .str (Str.ofString "ab"), .str (Str.ofString "b"), .str (Str.ofString "a b"), .str (Str.ofString "A"), .str (Str.ofString "~"), .str (Txt.mul (Str.ofString "z") 20)]
def moreV : List D := [.str (Txt.mul (Str.ofString "z") 19), .str (Str.ofString "customer one"), .str (Str.ofString "customer two"), .str (Str.ofString "1"), .str (Str.ofString "-1"), .int 2, .str (Str.ofString "abc"), .str (Str.ofString "abd")]
theorem allV : (someV ++ moreV).all pvB = true := by decide +kernel
abbrev sgn1 : String := " !#$&'()*+,-./0123456789:;<=>?@ABCDEFGHIJKLMNOPQRSTUVWXYZ[]^_{|}~"
abbrev sgn2 : String := "abcdefghijklmnopqrstuvwxyz"
theorem value_ok {st : Store} {n : Nat} (t : Tp st n) : ∃ d st', m__law_value [.ref n] st = some (d, st') ∧ pvB d = true ∧ Tp st' n ∧ Fr n st st' ∧ st'.length = st.length := by
  obtain ⟨r, s1, h1, r0, r8, t1, f1, l1⟩ := pick_ok t (s := 24) (by decide) (by decide)
  by_cases c0 : r = 0
  · subst c0
    let sg : List D := (Str.ofString sgn1 ++ Str.ofString sgn2).cps.toList.map fun c => D.str ⟨#[c]⟩
    have hsg : ∀ v ∈ sg, ∃ x, v = .str x ∧ GS 1 x := fun v hv => by
      obtain ⟨c, hc, rfl⟩ := List.mem_map.mp hv
      refine ⟨_, rfl, Nat.le_refl _, fun y hy => ?_⟩
      have : y = c := by simpa using hy
      subst this
      have := List.all_eq_true.mp (show ((Str.ofString sgn1 ++ Str.ofString sgn2).cps.toList.all fun c => decide (c < 128)) = true by decide +kernel) y hc
      exact of_decide_eq_true this
    have ad : opAdd (.str (Str.ofString sgn1)) (.str (Str.ofString sgn2)) = some (.str (Str.ofString sgn1 ++ Str.ofString sgn2)) := opAdd_str (by decide +kernel)
    have bl : bList [.str (Str.ofString sgn1 ++ Str.ofString sgn2)] = fun _ => some (.lst sg) := by
      funext s
      have : (Str.ofString sgn1 ++ Str.ofString sgn2).length ≤ sizeLine := Nat.le_trans (show _ ≤ 1000 by decide +kernel) (by decide)
      simp [bList, listSeq, listTxt, this, sg]
    obtain ⟨r2, s2, h2, r20, r24, t2, f2, l2⟩ := pick_ok t1 (s := 20) (by decide) (by decide)
    obtain ⟨vs, s3, h3, l3, p3, t3, f3, q3⟩ := loopC_draw2 (is := [3]) (bd := b1) (f := fCall m__law_one_of (aCons (fVar 0) (aCons (fVar 1) aNil))) (n := n) (P := fun v => ∃ x, v = .str x ∧ GS 1 x)
      (env := [some (.ref n), some (.lst sg), none, none]) (ds := rg 0 (1 + r2)) (fun d hd => ⟨[d], rfl, fun s t => by
        obtain ⟨v, s', g1, g2, g3, g4, g5⟩ := one_ok (xs := sg) t (by decide +kernel) (by decide +kernel)
        exact ⟨v, s', by simp [fCall, aCons, aNil, fVar, setL, e_one, g1], hsg v g2, g3, g4, g5⟩⟩) t2
    obtain ⟨w, hw, gw⟩ := join_ok (m := 1) (k := 20) p3 (by rw [l3, rg_len]; omega) (by decide)
    have zc : vs.length ≤ sizeLine := Nat.le_trans (by rw [l3, rg_len]; omega) (show 20 ≤ sizeLine by decide)
    have ra := asR1_ok (n := 1 + r2) (by omega) (by omega)
    refine ⟨.str w, s3, ?_, pv_str (gw.mono (by decide)), t3, (f1.trans f2).trans f3, by rw [q3, l2, l1]⟩
    rw [e_one] at h3
    simp [m__law_value, g__law_value, mOf, outM, startD, sSeq, sAsg, gN, sIf, sRet, sNil, fCall, aCons, aNil, fVar, fC, fTest, fOp, e_pick, h1, opEq_int, asB, ad, fMk, bl, fMt, fComp, iOfA, h2, opAdd_int, ra, wipeL, e_one, h3, zc, hw]
  · have q0 : (r == 0) = false := by simp [c0]
    obtain ⟨d, s2, h2, m2, t2, f2, l2⟩ := one_ok (xs := someV ++ moreV) t1 (by decide) (by decide)
    refine ⟨d, s2, ?_, List.all_eq_true.mp allV d m2, t2, f1.trans f2, by rw [l2, l1]⟩
    have z1 : 17 ≤ sizeLine := by decide
    have z2 : 8 ≤ sizeLine := by decide
    have ad : opAdd (.lst someV) (.lst moreV) = some (.lst (someV ++ moreV)) := addL_ok (by decide)
    simp only [someV, moreV] at ad h2
    simp [m__law_value, g__law_value, mOf, outM, startD, sSeq, sAsg, gN, sIf, sRet, sNil, fCall, aCons, aNil, fVar, fC, fTest, fOp, e_pick, h1, opEq_int, asB, q0, fMk, mkLst, subI_int, pow109, mulz, z1, z2]
    simp at ad h2
    simp [ad, e_one, h2]
end LW
namespace LW
open PySem PySem.Spec PyProof.Rows L2 DL TL
inductive C where
  | all | eq (c : Nat) (v : D) | lt (c : Nat) (v : D) | st (c : Nat) (x : Str) | one (c : Nat) (us : List D) | not (p : C) | and (p q : C) | or (p q : C)
def nm (s : String) : D := .str (Str.ofString s)
def C.d : C → D
  | .all => .tup [.str (Str.ofString "all")]
  | .eq c v => .tup [.str (Str.ofString "equal"), .int c, v]
  | .lt c v => .tup [.str (Str.ofString "less"), .int c, v]
  | .st c x => .tup [.str (Str.ofString "starts"), .int c, .str x]
  | .one c us => .tup [.str (Str.ofString "one_of"), .int c, .tup us]
  | .not p => .tup [.str (Str.ofString "not"), p.d]
  | .and p q => .tup [.str (Str.ofString "and"), p.d, q.d]
  | .or p q => .tup [.str (Str.ofString "or"), p.d, q.d]
def C.ok (w : Nat) : C → Prop
  | .all => True
  | .eq c v => c < w ∧ pvB v = true
  | .lt c v => c < w ∧ pvB v = true
  | .st c x => c < w ∧ GS 10 x ∧ 0 < x.length
  | .one c us => c < w ∧ us.length ≤ 8 ∧ 0 < us.length ∧ ∀ u ∈ us, pvB u = true
  | .not p => p.ok w
  | .and p q => p.ok w ∧ q.ok w
  | .or p q => p.ok w ∧ q.ok w
def C.ht : C → Nat
  | .not p => p.ht + 1
  | .and p q => max p.ht q.ht + 1
  | .or p q => max p.ht q.ht + 1
  | _ => 1
theorem sm_name {s : String} (h : asc 16 (Str.ofString s) = true) (dp : Nat) : Sm dp 40 (.str (Str.ofString s)) := (Sm.str (asc_gs h)).mono (Nat.zero_le _) (by decide)
theorem values_ok {st : Store} {n : Nat} {w : Int} (t : Tp st n) (h0 : 0 ≤ w) (h1 : w ≤ 10) : ∃ vs st', m__law_values [.ref n, .int w] st = some (.tup vs, st') ∧ (vs.length : Int) = w ∧ (∀ v ∈ vs, pvB v = true) ∧ Tp st' n ∧ Fr n st st' ∧ st'.length = st.length := by
  obtain ⟨vs, s3, h3, l3, p3, t3, f3, q3⟩ := loopC_draw2 (is := [2]) (bd := b1) (f := fCall m__law_value (aCons (fVar 0) aNil)) (n := n) (P := fun v => pvB v = true)
    (env := [some (.ref n), some (.int w), none]) (ds := rg 0 w) (fun d hd => ⟨[d], rfl, fun s t => by
      obtain ⟨v, s', g1, g2, g3, g4, g5⟩ := value_ok t
      exact ⟨v, s', by simp [fCall, aCons, aNil, fVar, setL, g1], g2, g3, g4, g5⟩⟩) t
  rw [rg_len] at l3
  have zc : vs.length ≤ sizeLine := Nat.le_trans (by rw [l3]; omega) (show 10 ≤ sizeLine by decide)
  have ra := asR1_ok (n := w) h0 (by omega)
  refine ⟨vs, s3, ?_, by omega, p3, t3, f3, q3⟩
  simp [m__law_values, g__law_values, mOf, outM, startD, sRet, fMk, aCons, aNil, fComp, iOfA, fVar, ra, wipeL, h3, zc, bTuple]
def startsV : List D := [.str (Str.ofString "a"), .str (Str.ofString "ab"), .str (Str.ofString "b"), .str (Str.ofString "A"), .str (Str.ofString " "), .str (Str.ofString "1"), .str (Str.ofString "-"), .str (Str.ofString "N"), .str (Str.ofString "customer"), .str (Str.ofString "abc")]
def stB : D → Bool | .str x => asc 10 x && decide (0 < x.length) | _ => false
theorem allSt : startsV.all stB = true := by decide +kernel
theorem test_ok {st : Store} {n : Nat} {w : Int} (t : Tp st n) (h0 : 0 < w) (h1 : w ≤ 10) : ∃ c st', m__law_test [.ref n, .int w] st = some (C.d c, st') ∧ c.ok w.toNat ∧ c.ht = 1 ∧ Tp st' n ∧ Fr n st st' ∧ st'.length = st.length := by
  obtain ⟨co, s1, g1, c0, c1, t1, f1, l1⟩ := pick_ok t (s := w) h0 (by omega)
  obtain ⟨r, s2, g2, r0, r6, t2, f2, l2⟩ := pick_ok t1 (s := 6) (by decide) (by decide)
  have hc : ((co.toNat : Nat) : Int) = co := Int.toNat_of_nonneg c0
  have hlt : co.toNat < w.toNat := by omega
  have z1 : 1 ≤ sizeLine := by decide
  have z3 : 3 ≤ sizeLine := by decide
  have f12 := f1.trans f2
  have l12 : s2.length = st.length := by rw [l2, l1]
  by_cases k0 : r = 0
  · subst k0
    exact ⟨.all, s2, by simp [m__law_test, g__law_test, mOf, outM, startD, sSeq, sPar, par2, fCall, aCons, aNil, fVar, fC, e_pick, g1, g2, sIf, fTest, fOp, opEq_int, asB, sRet, fMk, mkTup, z1, C.d], trivial, rfl, t2, f12, l12⟩
  · have q0 : (r == 0) = false := by simp [k0]
    by_cases k1 : r = 1
    · subst k1
      obtain ⟨v, s3, g3, pv, t3, f3, l3⟩ := value_ok t2
      exact ⟨.eq co.toNat v, s3, by simp [m__law_test, g__law_test, mOf, outM, startD, sSeq, sPar, par2, fCall, aCons, aNil, fVar, fC, e_pick, g1, g2, sIf, sNil, fTest, fOp, opEq_int, asB, sRet, fMk, mkTup, z3, C.d, g3, hc], ⟨hlt, pv⟩, rfl, t3, f12.trans f3, by rw [l3, l12]⟩
    · have q1 : (r == 1) = false := by simp [k1]
      by_cases k4 : r < 4
      · obtain ⟨v, s3, g3, pv, t3, f3, l3⟩ := value_ok t2
        exact ⟨.lt co.toNat v, s3, by simp [m__law_test, g__law_test, mOf, outM, startD, sSeq, sPar, par2, fCall, aCons, aNil, fVar, fC, e_pick, g1, g2, sIf, sNil, fTest, fOp, opEq_int, opLt_int, asB, q0, q1, k4, sRet, fMk, mkTup, z3, C.d, g3, hc], ⟨hlt, pv⟩, rfl, t3, f12.trans f3, by rw [l3, l12]⟩
      · by_cases k5 : r = 4
        · subst k5
          obtain ⟨d, s3, g3, md, t3, f3, l3⟩ := one_ok (xs := startsV) t2 (by decide) (by decide)
          have hs := List.all_eq_true.mp allSt d md
          obtain ⟨x, rfl, gx⟩ : ∃ x, d = .str x ∧ (asc 10 x && decide (0 < x.length)) = true := by
            cases d <;> first
              | exact ⟨_, rfl, hs⟩
              | cases hs
          rw [Bool.and_eq_true] at gx
          have z10 : 10 ≤ sizeLine := by decide
          simp only [startsV] at g3
          exact ⟨.st co.toNat x, s3, by simp [m__law_test, g__law_test, mOf, outM, startD, sSeq, sPar, par2, fCall, aCons, aNil, fVar, fC, e_pick, e_one, g1, g2, sIf, sNil, fTest, fOp, opEq_int, opLt_int, asB, sRet, fMk, mkTup, mkLst, z3, z10, C.d, g3, hc], ⟨hlt, asc_gs gx.1, of_decide_eq_true gx.2⟩, rfl, t3, f12.trans f3, by rw [l3, l12]⟩
        · have q4 : (r == 4) = false := by simp [k5]
          obtain ⟨a, s3, g3, a0, a4, t3, f3, l3⟩ := pick_ok t2 (s := 4) (by decide) (by decide)
          obtain ⟨b, s4, g4, b0, b4, t4, f4, l4⟩ := pick_ok t3 (s := 4) (by decide) (by decide)
          obtain ⟨d, s5, g5, md, t5, f5, l5⟩ := one_ok (xs := [.int a, .int (4 + b)]) t4 (by simp) (by simp)
          obtain ⟨m, rfl, m0, m8⟩ : ∃ m : Int, d = .int m ∧ 0 ≤ m ∧ m < 8 := by
            simp only [List.mem_cons, List.not_mem_nil, or_false] at md
            rcases md with rfl | rfl
            · exact ⟨_, rfl, by omega, by omega⟩
            · exact ⟨_, rfl, by omega, by omega⟩
          obtain ⟨vs, s6, g6, l6, p6, t6, f6, q6⟩ := loopC_draw2 (is := [5]) (bd := b1) (f := fCall m__law_value (aCons (fVar 0) aNil)) (n := n) (P := fun v => pvB v = true)
            (env := [some (.ref n), some (.int w), some (.int co), some (.int r), some (.int (1 + m)), none]) (ds := rg 0 (1 + m)) (fun d hd => ⟨[d], rfl, fun s t => by
              obtain ⟨v, s', x1, x2, x3, x4, x5⟩ := value_ok t
              exact ⟨v, s', by simp [fCall, aCons, aNil, fVar, setL, x1], x2, x3, x4, x5⟩⟩) t5
          rw [rg_len] at l6
          have ra := asR1_ok (n := 1 + m) (by omega) (by omega)
          have z2 : 2 ≤ sizeLine := by decide
          have zc : vs.length ≤ sizeLine := Nat.le_trans (by rw [l6]; omega) (show 10 ≤ sizeLine by decide)
          refine ⟨.one co.toNat vs, s6, ?_, ⟨hlt, by omega, by omega, p6⟩, rfl, t6, (((f12.trans f3).trans f4).trans f5).trans f6, by rw [q6, l5, l4, l3, l12]⟩
          simp [m__law_test, g__law_test, mOf, outM, startD, sSeq, sPar, par2, fCall, aCons, aNil, fVar, fC, e_pick, e_one, g1, g2, g3, g4, sIf, sNil, sAsg, gN, fTest, fOp, opEq_int, opLt_int, opAdd_int, asB, q0, q1, k4, q4, sRet, fMk, mkTup, mkLst, z2, z3, C.d, hc, g5, fComp, iOfA, ra, wipeL]
          simp [g6, zc, bTuple, z3]
theorem cond_ok : ∀ (k : Nat) {st : Store} {n : Nat} {w dp : Int}, Tp st n → 0 < w → w ≤ 10 → 0 ≤ dp → dp < k → ∃ c st', m__law_condition k [.ref n, .int w, .int dp] st = some (C.d c, st') ∧ c.ok w.toNat ∧ c.ht ≤ k ∧ Tp st' n ∧ Fr n st st' ∧ st'.length = st.length
  | 0, _, _, _, _, _, _, _, h, h2 => by omega
  | k + 1, st, n, w, dp, t, h0, h1, h2, h3 => by
    obtain ⟨r, s1, g1, r0, r6, t1, f1, l1⟩ := pick_ok t (s := 6) (by decide) (by decide)
    by_cases c1 : dp = 0 ∨ r < 2
    · obtain ⟨c, s2, g2, ok, hh, t2, f2, l2⟩ := test_ok t1 h0 h1
      refine ⟨c, s2, ?_, ok, by omega, t2, f1.trans f2, by rw [l2, l1]⟩
      rcases c1 with rfl | c1
      · simp [m__law_condition, g__law_condition, mOf, outM, startD, sSeq, sAsg, gN, sIf, sRet, fCall, aCons, aNil, fVar, fC, e_pick, g1, fOrT, fTest, fOp, opEq_int, asB, g2]
      · by_cases z : dp = 0
        · subst z
          simp [m__law_condition, g__law_condition, mOf, outM, startD, sSeq, sAsg, gN, sIf, sRet, fCall, aCons, aNil, fVar, fC, e_pick, g1, fOrT, fTest, fOp, opEq_int, asB, g2]
        · have z' : (dp == 0) = false := by simp [z]
          simp [m__law_condition, g__law_condition, mOf, outM, startD, sSeq, sAsg, gN, sIf, sRet, fCall, aCons, aNil, fVar, fC, e_pick, g1, fOrT, fTest, fOp, opEq_int, opLt_int, c1, z', asB, g2]
    · have c2 : ¬ dp = 0 := fun z => c1 (.inl z)
      have c3 : ¬ r < 2 := fun z => c1 (.inr z)
      have q0 : (dp == 0) = false := by simp [c2]
      have z1 : 1 ≤ sizeLine := by decide
      have z2 : 2 ≤ sizeLine := by decide
      by_cases c4 : r = 2
      · subst c4
        obtain ⟨c, s2, g2, ok, hh, t2, f2, l2⟩ := cond_ok k t1 h0 h1 (show 0 ≤ dp - 1 by omega) (by omega)
        refine ⟨.not c, s2, ?_, ok, Nat.succ_le_succ hh, t2, f1.trans f2, by rw [l2, l1]⟩
        simp [m__law_condition, g__law_condition, mOf, outM, startD, sSeq, sAsg, gN, sIf, sNil, sRet, fCall, aCons, aNil, fVar, fC, e_pick, g1, fOrT, fTest, fOp, opEq_int, opLt_int, subI_int, asB, q0, g2, fMk, mkTup, z2, C.d]
      · have q2 : (r == 2) = false := by simp [c4]
        obtain ⟨c, s2, g2, ok2, hh2, t2, f2, l2⟩ := cond_ok k t1 h0 h1 (show 0 ≤ dp - 1 by omega) (by omega)
        obtain ⟨e, s3, g3, ok3, hh3, t3, f3, l3⟩ := cond_ok k t2 h0 h1 (show 0 ≤ dp - 1 by omega) (by omega)
        obtain ⟨d, s4, g4, md, t4, f4, l4⟩ := one_ok (xs := [.str (Str.ofString "and"), .str (Str.ofString "or")]) t3 (by simp) (by simp)
        have fin : ∀ x : Str, d = .str x → m__law_condition (k + 1) [.ref n, .int w, .int dp] st = some (.tup [.str x, c.d, e.d], s4) := fun x hx => by
          subst hx
          have ad : opAdd (.tup [.str x]) (.tup [c.d, e.d]) = some (.tup [.str x, c.d, e.d]) := addT_ok (by simp)
          simp [m__law_condition, g__law_condition, mOf, outM, startD, sSeq, sAsg, gN, sIf, sNil, sRet, fCall, aCons, aNil, fVar, fC, e_pick, e_one, g1, fOrT, fTest, fOp, opEq_int, opLt_int, subI_int, asB, q0, c3, q2, g2, g3, g4, fMk, mkTup, mkLst, z1, z2, ad]
        have fr := ((f1.trans f2).trans f3).trans f4
        have ln : s4.length = st.length := by rw [l4, l3, l2, l1]
        simp only [List.mem_cons, List.not_mem_nil, or_false] at md
        rcases md with hd | hd
        · exact ⟨.and c e, s4, fin _ hd, ⟨ok2, ok3⟩, Nat.succ_le_succ (Nat.max_le.mpr ⟨hh2, hh3⟩), t4, fr, ln⟩
        · exact ⟨.or c e, s4, fin _ hd, ⟨ok2, ok3⟩, Nat.succ_le_succ (Nat.max_le.mpr ⟨hh2, hh3⟩), t4, fr, ln⟩
end LW
namespace LW
open PySem PySem.Spec PyProof.Rows L2 DL TL
def atV (vs : List D) (c : Nat) : D := (vs[c]?).getD .non
theorem ix0 {a : D} {r : List D} : L2.atI (a :: r) 0 = some a := atI_nat (j := 0) rfl
theorem ix1 {a b : D} {r : List D} : L2.atI (a :: b :: r) 1 = some b := atI_nat (j := 1) rfl
/-- a text that starts so -/
def stV (x : Str) : D → Bool | .str z => Txt.startswith z x | _ => false
/-- what a condition means -/
def sat (vs : List D) : C → Bool
  | .all => true
  | .eq c v => vEq (atV vs c) v
  | .lt c v => decide (cmpV (atV vs c) v < 0)
  | .st c x => stV x (atV vs c)
  | .one c us => us.any fun u => vEq u (atV vs c)
  | .not p => !sat vs p
  | .and p q => sat vs p && sat vs q
  | .or p q => sat vs p || sat vs q
theorem at_val {vs : List D} {c : Nat} (h : c < vs.length) : L2.atI vs (c : Int) = some (atV vs c) := by
  rw [atI_nat (List.getElem?_eq_getElem h)]
  simp [atV, List.getElem?_eq_getElem h]
theorem mem_val {vs : List D} {c : Nat} (h : c < vs.length) : atV vs c ∈ vs := by
  simp [atV, List.getElem?_eq_getElem h]
/-! the law's own reading -/
def rkD : D → D
  | .non => .tup [.int 0, .int 0]
  | .str x => .tup [.int 2, .str x]
  | v => .tup [.int 1, v]
theorem rank_ok {v : D} (hv : pvB v = true) (st : Store) : m__law_rank [v] st = some (rkD v, st) := by
  have z2 : 2 ≤ sizeLine := by decide
  cases v with
  | non => simp [m__law_rank, g__law_rank, mOf, outM, startD, sSeq, sIf, sRet, sNil, fVar, fC, fTest, fOp, opIs, orD, isN, isB, DL.isNon, asB, fMk, mkTup, aCons, aNil, z2, rkD]
  | int i => simp [m__law_rank, g__law_rank, mOf, outM, startD, sSeq, sIf, sRet, sNil, fVar, fC, fTest, fOp, opIs, orD, isN, isB, DL.isNon, asB, fMk, mkTup, aCons, aNil, z2, rkD, fIfE, fIsi, tyD, isiB]
  | str i => simp [m__law_rank, g__law_rank, mOf, outM, startD, sSeq, sIf, sRet, sNil, fVar, fC, fTest, fOp, opIs, orD, isN, isB, DL.isNon, asB, fMk, mkTup, aCons, aNil, z2, rkD, fIfE, fIsi, tyD, isiB]
  | _ => cases hv
theorem rk_sm {v : D} (hv : pvB v = true) : Sm 1 100 (rkD v) := by
  cases v with
  | non => exact (Sm.tup (SmL.cons (Sm.int (i := 0) (by decide)) (SmL.cons (Sm.int (i := 0) (by decide)) SmL.nil))).mono (Nat.le_refl _) (by decide)
  | int i => exact (Sm.tup (SmL.cons (Sm.int (i := 1) (by decide)) (SmL.cons (pv_sm hv) SmL.nil))).mono (Nat.le_refl _) (by decide)
  | str i => exact (Sm.tup (SmL.cons (Sm.int (i := 2) (by decide)) (SmL.cons (pv_sm hv) SmL.nil))).mono (Nat.le_refl _) (by decide)
  | _ => cases hv
/-- the data of a rank -/
def rkP : D → PyData
  | .non => .tuple [.int 0, .int 0]
  | .str x => .tuple [.int 2, .str x]
  | .int i => .tuple [.int 1, .int i]
  | _ => .none
theorem rk_py {v : D} (hv : pvB v = true) : toPy (rkD v) = some (rkP v) := by
  cases v <;> first
    | rfl
    | (cases hv; done)
theorem rk_shaped {v : D} (hv : pvB v = true) : SeqAt.shaped (rkP v) = true := by
  obtain ⟨p, h1, h2⟩ := (rk_sm hv).shaped (by decide)
  rw [rk_py hv] at h1
  cases h1
  exact h2
theorem rk_eqv {v u : D} (hv : pvB v = true) (hu : pvB u = true) : PyData.eqv (rkP v) (rkP u) = vEq v u := by
  cases v <;> cases u <;> first
    | (cases hv; done)
    | (cases hu; done)
    | (simp [rkP, PyData.eqv, PyData.eqvAll, vEq]; done)
    | rfl
theorem rk_lt {v u : D} (hv : pvB v = true) (hu : pvB u = true) : opLtD (rkD v) (rkD u) = some (.bl (decide (cmpV v u < 0))) := by
  cases v <;> cases u <;> first
    | (cases hv; done)
    | (cases hu; done)
    | skip
  · simp [rkD, opLtD, opLt, orD, ltI, ltS, onI, onS, lt2, eqF, cmpV, vEq]
  · simp [rkD, opLtD, opLt, orD, ltI, ltS, onI, onS, lt2, eqF, cmpV, vEq, kindP]
  · simp [rkD, opLtD, opLt, orD, ltI, ltS, onI, onS, lt2, eqF, cmpV, vEq, kindP]
  · simp [rkD, opLtD, opLt, orD, ltI, ltS, onI, onS, lt2, eqF, cmpV, vEq, kindP]
  · rename_i i j
    by_cases e : i = j
    · simp [rkD, opLtD, opLt, orD, ltI, ltS, onI, onS, lt2, eqF, cmpV, vEq, kindP, vLt, e]
    · by_cases l : i < j <;> simp [rkD, opLtD, opLt, orD, ltI, ltS, onI, onS, lt2, eqF, cmpV, vEq, kindP, vLt, e, l]
  · simp [rkD, opLtD, opLt, orD, ltI, ltS, onI, onS, lt2, eqF, cmpV, vEq, kindP]
  · simp [rkD, opLtD, opLt, orD, ltI, ltS, onI, onS, lt2, eqF, cmpV, vEq, kindP]
  · simp [rkD, opLtD, opLt, orD, ltI, ltS, onI, onS, lt2, eqF, cmpV, vEq, kindP]
  · rename_i i j
    by_cases e : i = j
    · simp [rkD, opLtD, opLt, orD, ltI, ltS, onI, onS, lt2, eqF, cmpV, vEq, kindP, vLt, e]
    · have tt : tl i < tl j ↔ i.cps.toList < j.cps.toList := Iff.rfl
      by_cases l : i.cps.toList < j.cps.toList <;> simp [rkD, opLtD, opLt, orD, ltI, ltS, onI, onS, lt2, eqF, cmpV, vEq, kindP, vLt, e, l, tt]
theorem kindIn {s : String} {b : Bool} (h1 : opEq (.str (Str.ofString s)) (.str (Str.ofString "and")) = some (.bl true) ∨ True) (h : (Str.ofString "and" == Str.ofString s || Str.ofString "or" == Str.ofString s) = b) :
    inSeq false (.str (Str.ofString s)) (.tup [.str (Str.ofString "and"), .str (Str.ofString "or")]) = some (.bl b) := by
  subst h
  simp [inSeq, flatD, anyF, eqF]
theorem ks : inSeq false (.str (Str.ofString "and")) (.tup [.str (Str.ofString "and"), .str (Str.ofString "or")]) = some (.bl true) ∧ inSeq false (.str (Str.ofString "or")) (.tup [.str (Str.ofString "and"), .str (Str.ofString "or")]) = some (.bl true) ∧
    inSeq false (.str (Str.ofString "equal")) (.tup [.str (Str.ofString "and"), .str (Str.ofString "or")]) = some (.bl false) ∧ inSeq false (.str (Str.ofString "less")) (.tup [.str (Str.ofString "and"), .str (Str.ofString "or")]) = some (.bl false) ∧
    inSeq false (.str (Str.ofString "starts")) (.tup [.str (Str.ofString "and"), .str (Str.ofString "or")]) = some (.bl false) ∧ inSeq false (.str (Str.ofString "one_of")) (.tup [.str (Str.ofString "and"), .str (Str.ofString "or")]) = some (.bl false) :=
  ⟨kindIn (.inr trivial) (by decide +kernel), kindIn (.inr trivial) (by decide +kernel), kindIn (.inr trivial) (by decide +kernel), kindIn (.inr trivial) (by decide +kernel), kindIn (.inr trivial) (by decide +kernel), kindIn (.inr trivial) (by decide +kernel)⟩
end LW
namespace LW
open PySem PySem.Spec PyProof.Rows L2 DL TL
def okw (d : D) : Prop := okD d = true ∧ wD d ≤ 200000
theorem okw.mem {ds : List D} (h : okw (.tup ds)) {d : D} (m : d ∈ ds) : okw d := ⟨okL_mem.mp h.1 d m, by have := wL_mem m; have h2 : wL ds ≤ 200000 := h.2; omega⟩
theorem len_wL : ∀ ds : List D, ds.length ≤ wL ds
  | [] => Nat.le_refl _
  | d :: ds => by have := len_wL ds; rw [wL, List.length_cons]; omega
theorem okw.len {ds : List D} (h : okw (.tup ds)) : ds.length ≤ sizeLine := Nat.le_trans (len_wL ds) (Nat.le_trans h.2 (by rw [sizeLine_eq]; decide))
theorem opLe_int (a b : Int) : opLe (.int a) (.int b) = some (.bl (decide (a ≤ b))) := by simp [opLe, orD, leI, onI]
def isK (s : String) : D → Bool | .str x => x == Str.ofString s | _ => false
theorem isK_str (s : String) (x : Str) : isK s (.str x) = (x == Str.ofString s) := rfl
end LW
namespace LW
open PySem PySem.Spec PyProof.Rows L2 DL TL
/-! marks bent -/
def o2 : List D := [.str (Txt.mul (Str.ofString "x") 20), .str (Txt.mul (Str.ofString "x") 21), .int 1000000, .int 1000000000, .int 1000000001, .int (-1000000000), .int (-1000000001)]
theorem pow106 : powI (.int 10) (.int 6) = some (.int 1000000) := by
  have h : ((Builtin.Int.intBits 10 : Nat) : Int) * 6 ≤ 134217728 := by have := bits10; omega
  simp [powI, onI, h]
end LW
/-! What simp knows of the data level. -/
namespace DL
open PySem PySem.Spec PyProof.Rows L2 TL
@[simp] theorem u_mOf (n : Nat) (g : FS) (ds : List D) (st : Store) : mOf n g ds st = outM (g (startD n ds) st) := rfl
@[simp] theorem u_outM1 (d : D) (e : Lo) (s : Store) : outM (some (.rt d, e, s)) = some (d, s) := rfl
@[simp] theorem u_outM2 (e : Lo) (s : Store) : outM (some (.nx, e, s)) = some (.non, s) := rfl
@[simp] theorem u_startD (n : Nat) (ds : List D) : startD n ds = ds.map some ++ List.replicate (n - ds.length) none := rfl
@[simp] theorem u_sSeq (g h : FS) (env : Lo) (st : Store) : sSeq g h env st = (g env st).bind fun p => match p with | (.nx, e1, s1) => h e1 s1 | q => some q := rfl
@[simp] theorem u_sAsg (f : F) (g : FG) (env : Lo) (st : Store) : sAsg f g env st = (f env st).bind fun p => (g p.1 env).map fun e1 => (.nx, e1, p.2) := rfl
@[simp] theorem u_gN (i : Nat) (d : D) (env : Lo) : gN i d env = some (env.set i (some d)) := rfl
@[simp] theorem u_gT (n : Nat) (h : FGs) (ds : List D) (env : Lo) : gT n h (.tup ds) env = if ds.length = n then h ds env else none := rfl
@[simp] theorem u_gNil (env : Lo) : gNil' [] env = some env := rfl
@[simp] theorem u_gCons (g : FG) (h : FGs) (d : D) (r : List D) (env : Lo) : gCons' g h (d :: r) env = (g d env).bind fun e1 => h r e1 := rfl
@[simp] theorem u_sIf (t : FT) (g h : FS) (env : Lo) (st : Store) : sIf t g h env st = (t env st).bind fun p => if p.1 = true then g env p.2 else h env p.2 := rfl
@[simp] theorem u_sNil (env : Lo) (st : Store) : sNil env st = some (.nx, env, st) := rfl
@[simp] theorem u_sRet (f : F) (env : Lo) (st : Store) : sRet f env st = (f env st).map fun p => (.rt p.1, env, p.2) := rfl
@[simp] theorem u_sDrop (f : F) (env : Lo) (st : Store) : sDrop f env st = (f env st).map fun p => (.nx, env, p.2) := rfl
@[simp] theorem u_sRetN (env : Lo) (st : Store) : sRetN env st = some (.rt .non, env, st) := rfl
@[simp] theorem u_sBrk (env : Lo) (st : Store) : sBrk env st = some (.bk, env, st) := rfl
@[simp] theorem u_sCnt (env : Lo) (st : Store) : sCnt env st = some (.ct, env, st) := rfl
@[simp] theorem u_fVar (i : Nat) (env : Lo) (st : Store) : fVar i env st = match env[i]? with | some (some d) => some (d, st) | _ => none := rfl
@[simp] theorem u_fC (d : D) (env : Lo) (st : Store) : fC d env st = some (d, st) := rfl
@[simp] theorem u_fOp (g : D → D → Option D) (fa fb : F) (env : Lo) (st : Store) : fOp g fa fb env st = (fa env st).bind fun p => (fb env p.2).bind fun q => (g p.1 q.1).map fun d => (d, q.2) := rfl
@[simp] theorem u_fTest (f : F) (env : Lo) (st : Store) : fTest f env st = (f env st).bind fun p => (asB p.1).map fun b => (b, p.2) := rfl
@[simp] theorem u_asB (b : Bool) : asB (.bl b) = some b := rfl
@[simp] theorem u_fMk (g : List D → Store → Option D) (fa : FA) (env : Lo) (st : Store) : fMk g fa env st = (fa env st).bind fun p => (g p.1 p.2).map fun d => (d, p.2) := rfl
@[simp] theorem u_aNil (env : Lo) (st : Store) : aNil env st = some ([], st) := rfl
@[simp] theorem u_aCons (f : F) (g : FA) (env : Lo) (st : Store) : aCons f g env st = (f env st).bind fun p => (g env p.2).map fun q => (p.1 :: q.1, q.2) := rfl
@[simp] theorem u_aStar (f : F) (g : FA) (env : Lo) (st : Store) : aStar f g env st = (f env st).bind fun p => (asSeq p.1 p.2).bind fun ds => (g env p.2).map fun q => (ds ++ q.1, q.2) := rfl
@[simp] theorem u_asSeqL (ds : List D) (st : Store) : asSeq (.lst ds) st = some ds := rfl
@[simp] theorem u_asSeqT (ds : List D) (st : Store) : asSeq (.tup ds) st = some ds := rfl
@[simp] theorem u_fCall (m : FM) (fa : FA) (env : Lo) (st : Store) : fCall m fa env st = (fa env st).bind fun p => m p.1 p.2 := rfl
@[simp] theorem u_fAndT (f g : FT) (env : Lo) (st : Store) : fAndT f g env st = (f env st).bind fun p => if p.1 = true then g env p.2 else some (false, p.2) := rfl
@[simp] theorem u_fOrT (f g : FT) (env : Lo) (st : Store) : fOrT f g env st = (f env st).bind fun p => if p.1 = true then some (true, p.2) else g env p.2 := rfl
@[simp] theorem u_fNotT (f : FT) (env : Lo) (st : Store) : fNotT f env st = (f env st).map fun p => (!p.1, p.2) := rfl
@[simp] theorem u_fAnd (f g : F) (env : Lo) (st : Store) : fAnd f g env st = (f env st).bind fun p => (asB p.1).bind fun b => if b = true then g env p.2 else some (.bl false, p.2) := rfl
@[simp] theorem u_fOr (f g : F) (env : Lo) (st : Store) : fOr f g env st = (f env st).bind fun p => (asB p.1).bind fun b => if b = true then some (.bl true, p.2) else g env p.2 := rfl
@[simp] theorem u_fNot (f : F) (env : Lo) (st : Store) : fNot f env st = (f env st).bind fun p => (asB p.1).map fun b => (.bl (!b), p.2) := rfl
@[simp] theorem u_fIfE (t : FT) (f g : F) (env : Lo) (st : Store) : fIfE t f g env st = (t env st).bind fun p => if p.1 = true then f env p.2 else g env p.2 := rfl
@[simp] theorem u_fChain (g g' : D → D → Option D) (fa fb fc : F) (env : Lo) (st : Store) : fChain g g' fa fb fc env st = (fa env st).bind fun p => (fb env p.2).bind fun q => (g p.1 q.1).bind fun z => (asB z).bind fun k => if k = true then (fc env q.2).bind fun w => (g' q.1 w.1).map fun d => (d, w.2) else some (.bl false, q.2) := rfl
@[simp] theorem u_fSub (fa fb : F) (env : Lo) (st : Store) : fSub fa fb env st = (fa env st).bind fun p => (fb env p.2).bind fun q => (ixD p.1 q.1 q.2).map fun d => (d, q.2) := rfl
@[simp] theorem u_ixT (ds : List D) (i : Int) (st : Store) : ixD (.tup ds) (.int i) st = atI ds i := rfl
@[simp] theorem u_ixL (ds : List D) (i : Int) (st : Store) : ixD (.lst ds) (.int i) st = atI ds i := rfl
@[simp] theorem u_fSlice (fa : F) (lo hi : FO) (env : Lo) (st : Store) : fSlice fa lo hi env st = (fa env st).bind fun p => (lo env p.2).bind fun q => (hi env q.2).bind fun w => (slD p.1 q.1 w.1).map fun d => (d, w.2) := rfl
@[simp] theorem u_oNone (env : Lo) (st : Store) : oNone env st = some (none, st) := rfl
@[simp] theorem u_oSome (f : F) (env : Lo) (st : Store) : oSome f env st = (f env st).bind fun p => match p.1 with | .int i => some (some i, p.2) | _ => none := rfl
@[simp] theorem u_fMt (g : D → List D → Option D) (fo : F) (fa : FA) (env : Lo) (st : Store) : fMt g fo fa env st = (fo env st).bind fun p => (fa env p.2).bind fun q => (g p.1 q.1).map fun d => (d, q.2) := rfl
@[simp] theorem u_fUn (g : D → Option D) (fa : F) (env : Lo) (st : Store) : fUn g fa env st = (fa env st).bind fun p => (g p.1).map fun d => (d, p.2) := rfl
@[simp] theorem u_negI (i : Int) : negI (.int i) = some (.int (-i)) := rfl
@[simp] theorem u_fIsi (T : String) (f : F) (env : Lo) (st : Store) : fIsi T f env st = (f env st).bind fun p => (tyD p.1 p.2).map fun a => (.bl (isiB a T), p.2) := rfl
@[simp] theorem u_sPar (f : List D → Lo → Option Lo) (fa : FA) (env : Lo) (st : Store) : sPar f fa env st = (fa env st).bind fun p => (f p.1 env).map fun e => (.nx, e, p.2) := rfl
@[simp] theorem u_par2 (i j : Nat) (x y : D) (env : Lo) : par2 i j [x, y] env = some ((env.set i (some x)).set j (some y)) := rfl
@[simp] theorem u_par3 (i j l : Nat) (x y z : D) (env : Lo) : par3 i j l [x, y, z] env = some (((env.set i (some x)).set j (some y)).set l (some z)) := rfl
@[simp] theorem u_mkTup (ds : List D) (st : Store) : mkTup ds st = if ds.length ≤ sizeLine then some (.tup ds) else none := rfl
@[simp] theorem u_mkLst (ds : List D) (st : Store) : mkLst ds st = if ds.length ≤ sizeLine then some (.lst ds) else none := rfl
@[simp] theorem u_sFor (fi : FI) (tg : FG) (body : FS) (env : Lo) (st : Store) : sFor fi tg body env st = (fi env st).bind fun p => loopS tg body p.1 env p.2 := rfl
@[simp] theorem u_sForG (fi : FIg) (tg : FG) (body : FS) (env : Lo) (st : Store) : sForG fi tg body env st = (fi env st).bind fun p => loopSG p.2.1 tg body p.1 env p.2.2 := rfl
@[simp] theorem u_iOf (a : D → Option (List D)) (f : F) (env : Lo) (st : Store) : iOf a f env st = (f env st).bind fun p => (a p.1).map fun ds => (ds, p.2) := rfl
@[simp] theorem u_asL (ds : List D) : asL (.lst ds) = some ds := rfl
@[simp] theorem u_asT (ds : List D) : asT (.tup ds) = some ds := rfl
@[simp] theorem u_iOfA (a : List D → Option (List D)) (f : FA) (env : Lo) (st : Store) : iOfA a f env st = (f env st).bind fun p => (a p.1).map fun ds => (ds, p.2) := rfl
@[simp] theorem u_fComp (fi : FI) (is : List Nat) (bd : FB) (t : FT) (f : F) (env : Lo) (st : Store) : fComp fi is bd t f env st = (fi env st).bind fun p => (loopC is bd t f p.1 (wipeL env is) p.2).bind fun q => if q.1.length ≤ sizeLine then some (.lst q.1, q.2) else none := rfl
@[simp] theorem u_fCompG (fi : FIg) (is : List Nat) (bd : FB) (t : FT) (f : F) (env : Lo) (st : Store) : fCompG fi is bd t f env st = (fi env st).bind fun p => (loopCG p.2.1 is bd t f p.1 (wipeL env is) p.2.2).bind fun q => if q.1.length ≤ sizeLine then some (.lst q.1, q.2) else none := rfl
@[simp] theorem u_wipe0 (env : Lo) : wipeL env [] = env := rfl
@[simp] theorem u_wipe1 (env : Lo) (i : Nat) (is : List Nat) : wipeL env (i :: is) = (wipeL env is).set i none := rfl
@[simp] theorem u_setL0 {α : Type} (vs : List α) (env : List (Option α)) : setL [] vs env = env := rfl
@[simp] theorem u_setL1 {α : Type} (i : Nat) (is : List Nat) (v : α) (vs : List α) (env : List (Option α)) : setL (i :: is) (v :: vs) env = setL is vs (env.set i (some v)) := rfl
@[simp] theorem u_b1 (d : D) : b1 d = some [d] := rfl
@[simp] theorem u_bTup (n : Nat) (c : List D → Option (List D)) (ds : List D) : bTup n c (.tup ds) = if ds.length = n then c ds else none := rfl
@[simp] theorem u_bCons (b : FB) (c : List D → Option (List D)) (d : D) (r : List D) : bCons b c (d :: r) = (b d).bind fun x => (c r).map fun y => x ++ y := rfl
@[simp] theorem u_bNil : bNil [] = some [] := rfl
@[simp] theorem u_tTrue (env : Lo) (st : Store) : tTrue env st = some (true, st) := rfl
@[simp] theorem u_bTupleL (xs : List D) (st : Store) : bTuple [.lst xs] st = some (.tup xs) := rfl
@[simp] theorem u_bTupleT (xs : List D) (st : Store) : bTuple [.tup xs] st = some (.tup xs) := rfl
@[simp] theorem u_bTupleR (n : Nat) (st : Store) : bTuple [.ref n] st = match st[n]? with | some (.lst xs) => some (.tup xs) | _ => none := rfl
@[simp] theorem u_lenL (xs : List D) (st : Store) : bLen [.lst xs] st = some (.int xs.length) := rfl
@[simp] theorem u_lenT (xs : List D) (st : Store) : bLen [.tup xs] st = some (.int xs.length) := rfl
theorem len_ref {n : Nat} {st : Store} {xs : List D} (h : st[n]? = some (.lst xs)) : bLen [.ref n] st = some (.int xs.length) := by simp [bLen, lenL, lenK, h]
@[simp] theorem u_fNewL (fa : FA) (env : Lo) (st : Store) : fNewL fa env st = (fa env st).bind fun p => if p.1.length ≤ sizeLine then some (.ref p.2.length, p.2 ++ [.lst p.1]) else none := rfl
@[simp] theorem u_addI (a b : Int) : opAdd (.int a) (.int b) = some (.int (a + b)) := opAdd_int a b
@[simp] theorem u_subI (a b : Int) : subI (.int a) (.int b) = some (.int (a - b)) := subI_int a b
@[simp] theorem u_ltI (a b : Int) : opLt (.int a) (.int b) = some (.bl (decide (a < b))) := opLt_int a b
@[simp] theorem u_leI (a b : Int) : opLe (.int a) (.int b) = some (.bl (decide (a ≤ b))) := opLe_int a b
@[simp] theorem u_gtI (a b : Int) : opGt (.int a) (.int b) = some (.bl (decide (b < a))) := opGt_int a b
@[simp] theorem u_geI (a b : Int) : opGe (.int a) (.int b) = some (.bl (decide (b ≤ a))) := opGe_int a b
@[simp] theorem sl0 : 0 ≤ sizeLine := Nat.zero_le _
@[simp] theorem sl1 : 1 ≤ sizeLine := by decide
@[simp] theorem sl2 : 2 ≤ sizeLine := by decide
@[simp] theorem sl3 : 3 ≤ sizeLine := by decide
@[simp] theorem sl4 : 4 ≤ sizeLine := by decide
@[simp] theorem sl5 : 5 ≤ sizeLine := by decide
@[simp] theorem sl6 : 6 ≤ sizeLine := by decide
@[simp] theorem sl7 : 7 ≤ sizeLine := by decide
@[simp] theorem sl8 : 8 ≤ sizeLine := by decide
@[simp] theorem sl9 : 9 ≤ sizeLine := by decide
@[simp] theorem sl10 : 10 ≤ sizeLine := by decide
theorem sl_of {n : Nat} (h : n ≤ 1000000) : n ≤ sizeLine := Nat.le_trans h (by decide)
/-! data whose repr goes through -/
theorem okL_all : ∀ {ds : List D}, (∀ d ∈ ds, okD d = true) → okL ds = true
  | [], _ => rfl
  | d :: ds, h => by
    show (okD d && okL ds) = true
    rw [h d List.mem_cons_self, okL_all fun x hx => h x (List.mem_cons_of_mem _ hx)]; rfl
theorem wL_all {m : Nat} : ∀ {ds : List D}, (∀ d ∈ ds, wD d ≤ m) → wL ds ≤ ds.length * (m + 1)
  | [], _ => by simp [wL]
  | d :: ds, h => by
    have h1 := h d List.mem_cons_self
    have h2 := wL_all fun x hx => h x (List.mem_cons_of_mem _ hx)
    show wD d + 1 + wL ds ≤ _
    rw [List.length_cons, Nat.succ_mul]
    omega
theorem hL_all {m : Nat} : ∀ {ds : List D}, (∀ d ∈ ds, hD d ≤ m) → hL ds ≤ m
  | [], _ => by simp [hL]
  | d :: ds, h => by
    show max (hD d) (hL ds) ≤ m
    exact Nat.max_le.mpr ⟨h d List.mem_cons_self, hL_all fun x hx => h x (List.mem_cons_of_mem _ hx)⟩
/-- fit for repr: all at once -/
structure Fit (d : D) (h w : Nat) : Prop where
  ok : okD d = true
  hd : hD d ≤ h
  wd : wD d ≤ w
theorem Fit.mono {d : D} {h w h' w' : Nat} (f : Fit d h w) (a : h ≤ h') (b : w ≤ w') : Fit d h' w' := ⟨f.ok, Nat.le_trans f.hd a, Nat.le_trans f.wd b⟩
structure FitL (ds : List D) (h w : Nat) : Prop where
  ok : okL ds = true
  hd : hL ds ≤ h
  wd : wL ds ≤ w
theorem FitL.nil : FitL [] 0 0 := ⟨rfl, Nat.le_refl _, Nat.le_refl _⟩
theorem FitL.cons {d : D} {ds : List D} {h1 h2 w1 w2 : Nat} (a : Fit d h1 w1) (b : FitL ds h2 w2) : FitL (d :: ds) (max h1 h2) (w1 + 1 + w2) :=
  ⟨by show (okD d && okL ds) = true; rw [a.ok, b.ok]; rfl, Nat.max_le.mpr ⟨Nat.le_trans a.hd (Nat.le_max_left _ _), Nat.le_trans b.hd (Nat.le_max_right _ _)⟩, Nat.add_le_add (Nat.add_le_add a.wd (Nat.le_refl 1)) b.wd⟩
theorem FitL.all {ds : List D} {h w : Nat} (a : ∀ d ∈ ds, Fit d h w) : FitL ds h (ds.length * (w + 1)) := ⟨okL_all fun d hd => (a d hd).ok, hL_all fun d hd => (a d hd).hd, wL_all fun d hd => (a d hd).wd⟩
theorem FitL.mono {ds : List D} {h w h' w' : Nat} (f : FitL ds h w) (a : h ≤ h') (b : w ≤ w') : FitL ds h' w' := ⟨f.ok, Nat.le_trans f.hd a, Nat.le_trans f.wd b⟩
theorem FitL.append {ds es : List D} {h1 h2 w1 w2 : Nat} (a : FitL ds h1 w1) (b : FitL es h2 w2) : FitL (ds ++ es) (max h1 h2) (w1 + w2) := by
  induction ds generalizing w1 with
  | nil => exact b.mono (Nat.le_max_right _ _) (Nat.le_add_left _ _)
  | cons d ds ih =>
    obtain ⟨o1, o2⟩ := Bool.and_eq_true_iff.mp (show (okD d && okL ds) = true from a.ok)
    have hh := Nat.max_le.mp (show max (hD d) (hL ds) ≤ h1 from a.hd)
    have ww : wD d + 1 + wL ds ≤ w1 := a.wd
    have := ih (w1 := wL ds) ⟨o2, hh.2, Nat.le_refl _⟩
    exact ⟨by show (okD d && okL (ds ++ es)) = true; rw [o1, this.ok]; rfl, Nat.max_le.mpr ⟨Nat.le_trans hh.1 (Nat.le_max_left _ _), this.hd⟩, by
      have := this.wd
      show wD d + 1 + wL (ds ++ es) ≤ _
      omega⟩
theorem Fit.tup {ds : List D} {h w : Nat} (f : FitL ds h w) : Fit (.tup ds) (h + 1) w := ⟨f.ok, Nat.succ_le_succ f.hd, f.wd⟩
theorem Fit.lst {ds : List D} {h w : Nat} (f : FitL ds h w) : Fit (.lst ds) (h + 1) w := ⟨f.ok, Nat.succ_le_succ f.hd, f.wd⟩
theorem Fit.non : Fit .non 0 0 := ⟨rfl, Nat.le_refl _, Nat.le_refl _⟩
theorem Fit.bl (b : Bool) : Fit (.bl b) 0 0 := ⟨rfl, Nat.le_refl _, Nat.le_refl _⟩
theorem Fit.int {i : Int} (h : -1000000000000000 < i ∧ i < 1000000000000000) : Fit (.int i) 0 210 := by
  refine ⟨decide_eq_true (show i.natAbs < 10 ^ 62 from ?_), Nat.le_refl _, Nat.le_refl _⟩
  have : (1000000000000000 : Nat) ≤ 10 ^ 62 := by decide
  omega
theorem Fit.str {n : Nat} {x : Str} (h : GS n x) : Fit (.str x) 0 n := ⟨List.all_eq_true.mpr fun c hc => decide_eq_true (h.2 c hc), Nat.le_refl _, h.1⟩
theorem Fit.repr {d : D} {h w : Nat} (f : Fit d h w) (l : h ≤ 64) (m : w ≤ 200000) : ∃ x, ∀ st, bReprA [d] st = some (.str x) := repr_any f.ok (Nat.le_trans f.hd l) (Nat.le_trans f.wd m)
/-- a comprehension over data that are images -/
theorem loopC_over {α : Type} {is : List Nat} {bd : FB} {f : F} {φ ψ : α → D} {env : Lo} {st : Store} : ∀ {l : List α}, (∀ x ∈ l, ∃ vs, bd (φ x) = some vs ∧ f (setL is vs env) st = some (ψ x, st)) → loopC is bd tTrue f (l.map φ) env st = some (l.map ψ, st)
  | [], _ => rfl
  | x :: l, h => by
    obtain ⟨ws, hb, hf⟩ := h x List.mem_cons_self
    have := loopC_over (l := l) fun d hd => h d (List.mem_cons_of_mem _ hd)
    simp [loopC, hb, tTrue, hf, this]
/-! one statement behind the other -/
theorem seq_step {g h : FS} {env e1 : Lo} {st s1 : Store} (x : g env st = some (.nx, e1, s1)) : sSeq g h env st = h e1 s1 := by rw [u_sSeq, x]; rfl
theorem seq_ret {g h : FS} {env e1 : Lo} {st s1 : Store} {d : D} (x : g env st = some (.rt d, e1, s1)) : sSeq g h env st = some (.rt d, e1, s1) := by rw [u_sSeq, x]; rfl
theorem for_step {fi : FI} {tg : FG} {body : FS} {env : Lo} {st s1 : Store} {ds : List D} (x : fi env st = some (ds, s1)) : sFor fi tg body env st = loopS tg body ds env s1 := by rw [u_sFor, x]; rfl
/-- .. with the number of turns told -/
theorem loopS_cnt {tg : FG} {body : FS} {I : Nat → Lo → Store → Prop} : ∀ {ds : List D} {k : Nat}, (∀ m, m < k + ds.length → k ≤ m → ∀ d ∈ ds, ∀ env st, I m env st → ∃ e1, tg d env = some e1 ∧ ∃ e2 s2, body e1 st = some (.nx, e2, s2) ∧ I (m + 1) e2 s2) →
    ∀ {env : Lo} {st : Store}, I k env st → ∃ e2 s2, loopS tg body ds env st = some (.nx, e2, s2) ∧ I (k + ds.length) e2 s2
  | [], k, _, env, st, i => ⟨env, st, rfl, i⟩
  | d :: ds, k, h, env, st, i => by
    obtain ⟨e1, h1, e2, s2, h2, h4⟩ := h k (by simp) (Nat.le_refl _) d List.mem_cons_self env st i
    obtain ⟨e3, s3, h5, h6⟩ := loopS_cnt (ds := ds) (k := k + 1) (fun m hm hk d hd => h m (by simp at *; omega) (by omega) d (List.mem_cons_of_mem _ hd)) h4
    refine ⟨e3, s3, ?_, by rw [List.length_cons, Nat.add_comm ds.length 1, ← Nat.add_assoc]; exact h6⟩
    simp [loopS, h1, h2, h5]
/-! ints looked for among ints -/
theorem anyF_ints {a : Int} : ∀ ns : List Int, anyF (.int a) (ns.map D.int) = some (ns.contains a)
  | [] => rfl
  | n :: ns => by
    have ih := anyF_ints (a := a) ns
    simp [anyF, eqF, ih]
    by_cases e : n = a
    · simp [e]
    · have e' : ¬ a = n := fun z => e z.symm
      simp [e, e']
theorem inSeq_ints (neg : Bool) (a : Int) (ns : List Int) : inSeq neg (.int a) (.lst (ns.map .int)) = some (.bl (if neg then !ns.contains a else ns.contains a)) := by
  simp [inSeq, flatD, anyF_ints]
/-! the tape's frame, the store growing -/
theorem Tp.app {st : Store} {n : Nat} (t : Tp st n) (o : Ob) : Tp (st ++ [o]) n := by
  obtain ⟨a, b, h, x⟩ := t.at_
  exact ⟨a, b, by rw [List.getElem?_append_left t.lt]; exact h, x⟩
theorem Fr.app {n : Nat} {st : Store} (o : Ob) : Fr n st (st ++ [o]) := ⟨by simp, fun m _ h => by rw [List.getElem?_append_left h]⟩
theorem get_app {st : Store} {o : Ob} : (st ++ [o])[st.length]? = some o := by simp
theorem Tp.setNe {st : Store} {n k : Nat} (t : Tp st n) (h : k ≠ n) (o : Ob) : Tp (st.set k o) n := by
  obtain ⟨a, b, e, x⟩ := t.at_
  exact ⟨a, b, by rw [List.getElem?_set_ne h]; exact e, x⟩
end DL
namespace LW
open PySem PySem.Spec PyProof.Rows L2 DL TL
/-! views drawn -/
def vOrd (o : List (Nat × Bool)) : List D := o.map fun p => .tup [.int p.1, .bl p.2]
def vD (c : C) (o : List (Nat × Bool)) (sh : List Nat) : D := .tup [c.d, .tup (vOrd o), .tup (sh.map fun n : Nat => .int n)]
structure VOk (w : Nat) (c : C) (o : List (Nat × Bool)) (sh : List Nat) : Prop where
  co : c.ok w
  ch : c.ht ≤ 5
  ol : o.length ≤ 4
  oc : ∀ p ∈ o, p.1 < w
  sc : ∀ n ∈ sh, n < w
  sl : sh.length ≤ w
theorem loopC_pick {is : List Nat} {bd : FB} {t : FT} {f : F} {n : Nat} {P : D → Prop} {env : Lo} : ∀ {ds : List D}, (∀ d ∈ ds, ∃ vs, bd d = some vs ∧ ∀ st, Tp st n → ∃ b v st', t (setL is vs env) st = some (b, st') ∧ (b = true → f (setL is vs env) st' = some (v, st') ∧ P v) ∧ Tp st' n ∧ Fr n st st' ∧ st'.length = st.length) →
    ∀ {st : Store}, Tp st n → ∃ vs st', loopC is bd t f ds env st = some (vs, st') ∧ vs.length ≤ ds.length ∧ (∀ v ∈ vs, P v) ∧ Tp st' n ∧ Fr n st st' ∧ st'.length = st.length
  | [], _, st, tp => ⟨[], st, rfl, Nat.le_refl _, fun _ h => (by cases h), tp, .refl _ _, rfl⟩
  | d :: ds, h, st, tp => by
    obtain ⟨ws, hb, h1⟩ := h d List.mem_cons_self
    obtain ⟨b, v, s1, e1, e2, t1, f1, l1⟩ := h1 st tp
    obtain ⟨vs, s2, g1, g2, g3, g4, g5, g6⟩ := loopC_pick (fun d hd => h d (List.mem_cons_of_mem _ hd)) t1
    cases b with
    | false => exact ⟨vs, s2, by simp [loopC, hb, e1, g1], Nat.le_succ_of_le g2, g3, g4, f1.trans g5, by rw [g6, l1]⟩
    | true =>
      obtain ⟨e3, pv⟩ := e2 rfl
      exact ⟨v :: vs, s2, by simp [loopC, hb, e1, e3, g1], Nat.succ_le_succ g2, fun z hz => (List.mem_cons.mp hz).elim (fun y => y ▸ pv) (g3 z), g4, f1.trans g5, by rw [g6, l1]⟩
theorem nats_of : ∀ {vs : List D} {w : Nat}, (∀ v ∈ vs, ∃ k : Nat, v = .int k ∧ k < w) → ∃ sh : List Nat, vs = sh.map (fun n : Nat => D.int n) ∧ ∀ k ∈ sh, k < w
  | [], _, _ => ⟨[], rfl, fun _ h => by cases h⟩
  | v :: vs, w, h => by
    obtain ⟨k, rfl, hk⟩ := h v List.mem_cons_self
    obtain ⟨sh, rfl, hs⟩ := nats_of fun u hu => h u (List.mem_cons_of_mem _ hu)
    exact ⟨k :: sh, rfl, fun j hj => (List.mem_cons.mp hj).elim (fun e => e ▸ hk) (hs j)⟩
noncomputable abbrev bOrdL : FS := (sSeq (sAsg (fCall m__law_pick (aCons (fVar 0) (aCons (fVar 1) aNil))) (gN 5)) (sIf (fAndT (fTest (fOp opLt (fMk bLen (aCons (fVar 3) aNil)) (fC (.int 4)))) (fTest (fOp (inSeq true) (fVar 5) (fCompG (iRefL (fVar 3)) [7] b1 tTrue (fSub (fVar 7) (fC (.int 0))))))) (sDrop (fApp (fVar 3) (fMk mkTup (aCons (fVar 5) (aCons (fOp opEq (fCall m__law_pick (aCons (fVar 0) (aCons (fC (.int 2)) aNil))) (fC (.int 0))) aNil))))) sNil))
theorem ordL_ok {x2 x4 x5 x6 x7 : Option D} {n k : Nat} {w : Int} {o : List (Nat × Bool)} {st : Store} (t : Tp st n) (hn : k ≠ n) (h0 : 0 < w) (h1 : w ≤ 10) (hk : st[k]? = some (.lst (vOrd o))) (ol : o.length ≤ 4) (oc : ∀ p ∈ o, p.1 < w.toNat) :
    ∃ st' y5 o', bOrdL [some (.ref n), some (.int w), x2, some (.ref k), x4, x5, x6, x7] st = some (.nx, [some (.ref n), some (.int w), x2, some (.ref k), x4, y5, x6, x7], st') ∧ Tp st' n ∧ st'[k]? = some (.lst (vOrd o')) ∧ o'.length ≤ 4 ∧ (∀ p ∈ o', p.1 < w.toNat) ∧ st'.length = st.length ∧ ∀ m, m ≠ n → m ≠ k → m < st.length → st'[m]? = st[m]? := by
  have kl : k < st.length := (List.getElem?_eq_some_iff.mp hk).1
  obtain ⟨c, s1, g1, c0, c1, t1, f1, l1⟩ := pick_ok t (s := w) h0 (by omega)
  have hk1 : s1[k]? = some (.lst (vOrd o)) := by rw [f1.at_ k hn kl, hk]
  have ln := len_ref hk1
  have vl : (vOrd o).length = o.length := by simp [vOrd]
  have keep0 : ∀ m, m ≠ n → m ≠ k → m < st.length → s1[m]? = st[m]? := fun m a _ b => f1.at_ m a b
  by_cases c4 : o.length < 4
  case neg =>
    have c4' : ¬ ((o.length : Int) < 4) := by omega
    refine ⟨s1, some (.int c), o, ?_, t1, hk1, ol, oc, l1, keep0⟩
    simp [bOrdL, e_pick, g1, ln, vl, c4']
  case pos =>
    have c4' : ((o.length : Int) < 4) := by omega
    have lc := loopCG_map (P := fun s : Store => s[k]? = some (.lst (vOrd o))) (is := [7]) (bd := b1) (f := fSub (fVar 7) (fC (.int 0))) (g := fun d => match d with | .tup (a :: _) => a | _ => .non) (env := [some (.ref n), some (.int w), x2, some (.ref k), x4, some (.int c), x6, none]) (st := s1) hk1 (ds := vOrd o) (fun d hd => by
      obtain ⟨p, _, rfl⟩ := List.mem_map.mp hd
      exact ⟨_, rfl, by simp [ix0]⟩)
    have mp : (vOrd o).map (fun d => match d with | .tup (a :: _) => a | _ => .non) = (o.map fun p => (p.1 : Int)).map D.int := by simp [vOrd, Function.comp_def]
    rw [mp] at lc
    have z : o.length ≤ sizeLine := sl_of (by omega)
    have iq := inSeq_ints true c (o.map fun p => (p.1 : Int))
    by_cases cm : (o.map fun p => (p.1 : Int)).contains c = true
    · refine ⟨s1, some (.int c), o, ?_, t1, hk1, ol, oc, l1, keep0⟩
      rw [cm] at iq
      simp only [bOrdL, u_sSeq, u_sAsg, u_fCall, u_aCons, u_aNil, u_fVar, e_pick, u_gN]
      simp [g1, ln, vl, c4', iRefL, hk1]
      simp at lc iq
      simp [lc, z, iq]
    · simp only [Bool.not_eq_true] at cm
      rw [cm] at iq
      obtain ⟨b, s2, g2, b0, b2, t2, f2, l2⟩ := pick_ok t1 (s := 2) (by decide) (by decide)
      have hk2 : s2[k]? = some (.lst (vOrd o)) := by rw [f2.at_ k hn (by rw [l1]; exact kl), hk1]
      have kl2 : k < s2.length := by rw [l2, l1]; exact kl
      have zl : (vOrd o).length < sizeLine := by rw [vl]; exact Nat.lt_of_lt_of_le c4 (by decide)
      refine ⟨s2.set k (.lst (vOrd o ++ [.tup [.int c, .bl (b == 0)]])), some (.int c), o ++ [(c.toNat, b == 0)], ?_, t2.setNe hn _, ?_, by simp; omega, fun p hp => ?_, by rw [List.length_set, l2, l1], fun m a e d => ?_⟩
      · simp only [bOrdL, u_sSeq, u_sAsg, u_fCall, u_aCons, u_aNil, u_fVar, e_pick, u_gN]
        simp [g1, ln, vl, c4', iRefL, hk1]
        simp at lc iq
        simp [lc, z, iq, fApp, isLs, appAt, hk1, hk2, zl, g2, opEq_int]
      · rw [List.getElem?_set_self kl2]
        have : ((c.toNat : Nat) : Int) = c := Int.toNat_of_nonneg c0
        simp [vOrd, this]
      · rcases List.mem_append.mp hp with hp | hp
        · exact oc p hp
        · rw [List.mem_singleton.mp hp]
          show c.toNat < w.toNat
          omega
      · rw [List.getElem?_set_ne (fun z => e z.symm), f2.at_ m a (by rw [l1]; exact d), f1.at_ m a d]
theorem view_ok {n : Nat} {w : Int} {st : Store} (t : Tp st n) (h0 : 0 < w) (h1 : w ≤ 10) :
    ∃ c o sh st', m__law_view [.ref n, .int w] st = some (vD c o sh, st') ∧ VOk w.toNat c o sh ∧ Tp st' n ∧ Fr n st st' := by
  obtain ⟨r, s1, g1, r0, r2, t1, f1, l1⟩ := pick_ok t (s := 2) (by decide) (by decide)
  -- the condition
  obtain ⟨c, s2, gc, ok, hh, t2, f2, l2⟩ : ∃ c s2, (sIf (fTest (fOp opEq (fCall m__law_pick (aCons (fVar 0) (aCons (fC (.int 2)) aNil))) (fC (.int 0)))) (sAsg (fCall (m__law_condition 5) (aCons (fVar 0) (aCons (fVar 1) (aCons (fC (.int 2)) aNil)))) (gN 2)) sNil) [some (.ref n), some (.int w), some (.tup [.str (Str.ofString "all")]), none, none, none, none, none] st = some (.nx, [some (.ref n), some (.int w), some (C.d c), none, none, none, none, none], s2) ∧ c.ok w.toNat ∧ c.ht ≤ 5 ∧ Tp s2 n ∧ Fr n st s2 ∧ s2.length = st.length := by
    by_cases e : r = 0
    · subst e
      obtain ⟨c, s2, g2, ok, hh, t2, f2, l2⟩ := cond_ok 5 t1 (w := w) (dp := 2) h0 h1 (by decide) (by decide)
      exact ⟨c, s2, by simp [e_pick, g1, opEq_int, g2], ok, hh, t2, f1.trans f2, by rw [l2, l1]⟩
    · have e' : (r == 0) = false := by simp [e]
      exact ⟨.all, s1, by simp [e_pick, g1, opEq_int, e', C.d], trivial, by decide, t1, f1, l1⟩
  -- the order
  have hk : (s2 ++ [Ob.lst []])[s2.length]? = some (.lst (vOrd [])) := get_app
  have kn : s2.length ≠ n := fun z => by have := t2.lt; omega
  obtain ⟨j, s4, g4, j0, j7, t4, f4, l4⟩ := pick_ok (t2.app (.lst [])) (s := 7) (by decide) (by decide)
  have hk4 : s4[s2.length]? = some (.lst (vOrd [])) := by rw [f4.at_ _ kn (by simp), hk]
  have len4 : s4.length = s2.length + 1 := by rw [l4]; simp
  obtain ⟨e5, s5, g5, ⟨y4, y5, _, he5, _⟩, t5, ⟨o, hk5, ol, oc⟩, l5, fr5⟩ := loopS_inv (tg := gN 4) (body := bOrdL) (fun env s => (∃ y4 y5 o, env = [some (.ref n), some (.int w), some (C.d c), some (.ref s2.length), y4, y5, none, none] ∧ True) ∧ Tp s n ∧ (∃ o, s[s2.length]? = some (.lst (vOrd o)) ∧ o.length ≤ 4 ∧ ∀ p ∈ o, p.1 < w.toNat) ∧ s.length = s2.length + 1 ∧ ∀ m, m ≠ n → m < s2.length → s[m]? = s2[m]?) (ds := rg 0 j) (fun d hd env s i => by
    obtain ⟨⟨y4, y5, o', rfl, _⟩, tp, ⟨o, ho, ol, oc⟩, ln, fr⟩ := i
    obtain ⟨s', z5, o2, b1, b2, b3, b4, b5, b6, b7⟩ := ordL_ok (x2 := some (C.d c)) (x4 := some d) (x5 := y5) (x6 := none) (x7 := none) tp kn h0 h1 ho ol oc
    exact ⟨[some (.ref n), some (.int w), some (C.d c), some (.ref s2.length), some d, y5, none, none], by simp, .nx, _, s', b1, .inl rfl, ⟨_, _, o2, rfl, trivial⟩, b2, ⟨o2, b3, b4, b5⟩, by rw [b6, ln], fun m a b => by rw [b7 m a (by omega) (by omega), fr m a b]⟩)
    (env := [some (.ref n), some (.int w), some (C.d c), some (.ref s2.length), none, none, none, none]) (st := s4) ⟨⟨_, _, ([] : List (Nat × Bool)), rfl, trivial⟩, t4, ⟨[], hk4, by simp, fun _ h => by cases h⟩, len4, fun m a b => by rw [f4.at_ m a (by simp; omega), List.getElem?_append_left b]⟩
  subst he5
  -- the shown columns
  obtain ⟨vs, s6, g6, lv, pv, t6, f6, l6⟩ := loopC_pick (is := [5]) (bd := b1) (t := fTest (fOp opGt (fCall m__law_pick (aCons (fVar 0) (aCons (fC (.int 3)) aNil))) (fC (.int 0)))) (f := fVar 5) (n := n) (P := fun v => ∃ k : Nat, v = .int k ∧ k < w.toNat)
    (env := [some (.ref n), some (.int w), some (C.d c), some (.ref s2.length), y4, none, none, none]) (ds := rg 0 w) (fun d hd => by
      obtain ⟨i, rfl, i0, i1⟩ := rg_mem hd
      refine ⟨[.int i], rfl, fun s tp => ?_⟩
      obtain ⟨b, s', q1, q2, q3, q4, q5, q6⟩ := pick_ok tp (s := 3) (by decide) (by decide)
      exact ⟨decide (0 < b), .int i, s', by simp [e_pick, q1], fun _ => ⟨by simp, i.toNat, by rw [Int.toNat_of_nonneg i0], by omega⟩, q4, q5, q6⟩) t5
  obtain ⟨sh, rfl, hsh⟩ := nats_of pv
  rw [rg_len] at lv
  have ra := asR1_ok (n := w) (by omega) (by omega)
  have rj := asR1_ok (n := j) j0 (by omega)
  have zs : sh.length ≤ sizeLine := sl_of (by simp at lv; omega)
  have hk6 : s6[s2.length]? = some (.lst (vOrd o)) := by rw [f6.at_ _ kn (by rw [l5]; omega), hk5]
  refine ⟨c, o, sh, s6, ?_, ⟨ok, hh, ol, oc, hsh, by simp at lv; omega⟩, t6, ⟨by rw [l6, l5, l2]; omega, fun m a b => ?_⟩⟩
  · have q0 : (sAsg (fMk mkTup (aCons (fC (.str (Str.ofString "all"))) aNil)) (gN 2)) [some (.ref n), some (.int w), none, none, none, none, none, none] st = some (.nx, [some (.ref n), some (.int w), some (.tup [.str (Str.ofString "all")]), none, none, none, none, none], st) := by simp
    have q1 : (sAsg (fNewL aNil) (gN 3)) [some (.ref n), some (.int w), some (C.d c), none, none, none, none, none] s2 = some (.nx, [some (.ref n), some (.int w), some (C.d c), some (.ref s2.length), none, none, none, none], s2 ++ [.lst []]) := by simp
    have q2 : (iOfA asR1 (aCons (fCall m__law_pick (aCons (fVar 0) (aCons (fC (.int 7)) aNil))) aNil)) [some (.ref n), some (.int w), some (C.d c), some (.ref s2.length), none, none, none, none] (s2 ++ [.lst []]) = some (rg 0 j, s4) := by simp [e_pick, g4, rj]
    rw [show m__law_view [.ref n, .int w] st = outM (g__law_view [some (.ref n), some (.int w), none, none, none, none, none, none] st) from rfl, g__law_view, seq_step q0, seq_step gc, seq_step q1, seq_step ((for_step q2).trans g5)]
    simp [ra]
    simp [g6, zs, hk6, vD]
  · rw [f6.at_ m a (by rw [l5]; omega), fr5 m a (by rw [l2]; exact b), f2.at_ m a b]
end LW
namespace LW
open PySem PySem.Spec PyProof.Rows L2 DL TL
theorem fit_pv {d : D} (h : pvB d = true) : Fit d 0 210 := by
  cases d with
  | non => exact Fit.non.mono (Nat.le_refl _) (by decide)
  | int i => exact Fit.int (by have := of_decide_eq_true (show decide (-1000000000 ≤ i ∧ i ≤ 1000000000) = true from h); omega)
  | str x => exact (Fit.str (asc_gs h)).mono (Nat.le_refl _) (by decide)
  | _ => cases h
/-! keys -/
def kD (o : List (Nat × Bool)) (vs : List D) (i : Int) : D := .tup ((o.map fun p => atV vs p.1) ++ [.int i])
def shD (sh : List Nat) (vs : List D) : D := .tup (sh.map fun n => atV vs n)
theorem lkey_ok {c : C} {o : List (Nat × Bool)} {sh : List Nat} {vs : List D} {i : Int} (st : Store) (oc : ∀ p ∈ o, p.1 < vs.length) (ol : o.length ≤ 4) : m__law_key [vD c o sh, .int i, .tup vs] st = some (kD o vs i, st) := by
  have lc := loopC_over (φ := fun p : Nat × Bool => D.tup [.int p.1, .bl p.2]) (ψ := fun p => atV vs p.1) (is := [3, 4]) (bd := bTup 2 (bCons b1 (bCons b1 bNil))) (f := fSub (fVar 2) (fVar 3)) (env := [some (vD c o sh), some (.int i), some (.tup vs), none, none]) (st := st) (l := o) (fun p hp => ⟨[.int p.1, .bl p.2], by simp, by simp [at_val (oc p hp)]⟩)
  have z : o.length ≤ sizeLine := sl_of (by omega)
  have z1 : o.length + 1 ≤ sizeLine := sl_of (by omega)
  have ad : opAdd (.tup (o.map fun p => atV vs p.1)) (.tup [.int i]) = some (kD o vs i) := by rw [addT_ok (by simp; omega)]; rfl
  simp only [vD, vOrd] at lc ⊢
  simp [m__law_key, g__law_key, ix1]
  simp [lc, z, z1, ad]
end LW
namespace LW
open PySem PySem.Spec PyProof.Rows L2 DL TL
/-! the place of a value, of a key -/
def plD : D → Bool → D
  | .int i, false => .tup [.int 1, .int i]
  | .int i, true => .tup [.int (-1), .int (-i)]
  | .str x, false => .tup [.int 2, .str x]
  | .str x, true => .tup [.int (-2), .tup ((tl x).map (fun c : Nat => .int (-(c : Int))) ++ [.int 1])]
  | _, _ => .tup [.int 0]
theorem len_tlx (x : Str) : (tl x).length = x.length := (len_tl x).symm
theorem value_place_ok {v : D} (hv : pvB v = true) (d : Bool) (st : Store) : m_value_place [v, .bl d] st = some (plD v d, st) := by
  have k := kp (pv_fv hv) st
  cases v with
  | non => 
    have k' : m_kind_place [.non] st = some (.int 0, st) := k
    cases d <;> simp [m_value_place, g_value_place, k', opIs, orD, isN, isB, DL.isNon, plD]
  | int i =>
    have k' : m_kind_place [.int i] st = some (.int 1, st) := k
    cases d <;> simp [m_value_place, g_value_place, k', opIs, orD, isN, isB, DL.isNon, plD, tyD, isiB]
  | str x =>
    have k' : m_kind_place [.str x] st = some (.int 2, st) := k
    cases d with
    | false => simp [m_value_place, g_value_place, k', opIs, orD, isN, isB, DL.isNon, plD]
    | true =>
      have gx : GS 40 x := asc_gs hv
      have lc := loopC_over (φ := fun c : Nat => D.str ⟨#[c]⟩) (ψ := fun c : Nat => D.int (-(c : Int))) (is := [4]) (bd := b1) (f := fUn negI (fMk bOrd (aCons (fVar 4) aNil))) (env := [some (.str x), some (.bl true), some (.int 2), none, none]) (st := st) (l := tl x) (fun c hc => ⟨[.str ⟨#[c]⟩], rfl, by
        simp [bOrd, show (⟨#[c]⟩ : Str).length = 1 from rfl]⟩)
      have z : (tl x).length ≤ sizeLine := sl_of (by rw [len_tlx]; have := gx.1; omega)
      have z1 : (tl x).length + 1 ≤ sizeLine := sl_of (by rw [len_tlx]; have := gx.1; omega)
      have as : asStr (.str x) = some ((tl x).map fun c : Nat => D.str ⟨#[c]⟩) := rfl
      simp [m_value_place, g_value_place, k', opIs, orD, isN, isB, DL.isNon, plD, tyD, isiB, as]
      have zs : x.cps.size ≤ sizeLine := z
      have zs1 : x.cps.size + 1 ≤ sizeLine := z1
      simp [lc, zs, zs1]
  | _ => cases hv
/-- keys -/
def KD (ks : List D) (i : Int) : D := .tup (ks ++ [.int i])
def kpD (ks : List D) (o : List (Nat × Bool)) (i : Int) : D := .tup ((ks.zip o).map (fun x => plD x.1 x.2.2) ++ [.int i])
theorem pairs2_zip : ∀ {ks : List D} {o : List (Nat × Bool)} (r : List D), ks.length = o.length → pairs2 (ks ++ r) (vOrd o) = (ks.zip o).map fun x => .tup [x.1, .tup [.int x.2.1, .bl x.2.2]]
  | [], [], r, _ => by cases r <;> rfl
  | k :: ks, p :: o, r, h => by
    show D.tup [k, .tup [.int p.1, .bl p.2]] :: pairs2 (ks ++ r) (vOrd o) = _
    rw [pairs2_zip r (Nat.succ.inj h)]
    rfl
  | [], _ :: _, _, h => by cases h
  | _ :: _, [], _, h => by cases h
theorem last_at (ks : List D) (i : Int) : L2.atI (ks ++ [.int i]) (-1) = some (.int i) := by
  unfold L2.atI
  have : ixN (ks.length + 1) (-1) = some ks.length := by
    simp [ixN]
    omega
  simp [this]
theorem key_place_ok {c : C} {o : List (Nat × Bool)} {sh : List Nat} {ks : List D} {i : Int} (st : Store) (hl : ks.length = o.length) (ol : o.length ≤ 4) (hv : ∀ v ∈ ks, pvB v = true) : m_key_place [vD c o sh, KD ks i] st = some (kpD ks o i, st) := by
  have lc := loopC_over (φ := fun x : D × (Nat × Bool) => D.tup [x.1, .tup [.int x.2.1, .bl x.2.2]]) (ψ := fun x => plD x.1 x.2.2) (is := [3, 4, 5]) (bd := bTup 2 (bCons b1 (bCons (bTup 2 (bCons b1 (bCons b1 bNil))) bNil))) (f := fCall m_value_place (aCons (fVar 3) (aCons (fVar 5) aNil))) (env := [some (vD c o sh), some (KD ks i), none, none, none, none]) (st := st) (l := ks.zip o)
    (fun x hx => ⟨[x.1, .int x.2.1, .bl x.2.2], by simp, by simp [value_place_ok (hv x.1 (List.of_mem_zip hx).1)]⟩)
  have zl : (ks.zip o).length ≤ 4 := by rw [List.length_zip]; omega
  have z : (ks.zip o).length ≤ sizeLine := sl_of (by omega)
  have z1 : (ks.zip o).length + 1 ≤ sizeLine := sl_of (by omega)
  have p2 := pairs2_zip (ks := ks) (o := o) [.int i] hl
  have la := last_at ks i
  simp only [vD, KD] at lc ⊢
  simp [m_key_place, g_key_place, ix1, asZip, p2]
  simp at lc z z1
  simp [lc, z, z1, kpD, la]
/-! their data -/
def plP : D → Bool → PyData
  | .int i, false => .tuple [.int 1, .int i]
  | .int i, true => .tuple [.int (-1), .int (-i)]
  | .str x, false => .tuple [.int 2, .str x]
  | .str x, true => .tuple [.int (-2), .tuple ((tl x).map (fun c : Nat => .int (-(c : Int))) ++ [.int 1])]
  | _, _ => .tuple [.int 0]
theorem toPyL_ints {α : Type} (f : α → Int) : ∀ l : List α, toPyL (l.map fun c => D.int (f c)) = some (l.map fun c => PyData.int (f c))
  | [] => rfl
  | c :: l => by
    have ih := toPyL_ints f l
    simp [toPyL, toPy, ih]
theorem toPyL_app : ∀ {xs ys : List D} {ps qs : List PyData}, toPyL xs = some ps → toPyL ys = some qs → toPyL (xs ++ ys) = some (ps ++ qs)
  | [], _, _, _, h1, h2 => by cases h1; exact h2
  | x :: xs, ys, ps, qs, h1, h2 => by
    obtain ⟨p, h3, h4⟩ := Option.bind_eq_some_iff.mp (show ((toPy x).bind fun p => (toPyL xs).map fun q => p :: q) = some ps from h1)
    obtain ⟨q, h5, h6⟩ := Option.map_eq_some_iff.mp h4
    subst h6
    have := toPyL_app h5 h2
    show ((toPy x).bind fun p => (toPyL (xs ++ ys)).map fun q => p :: q) = _
    rw [h3, this]; rfl
theorem pl_py {v : D} (hv : pvB v = true) (d : Bool) : toPy (plD v d) = some (plP v d) := by
  cases v with
  | non => cases d <;> rfl
  | int i => cases d <;> rfl
  | str x =>
    cases d with
    | false => rfl
    | true =>
      have h := toPyL_app (toPyL_ints (fun c : Nat => -(c : Int)) (tl x)) (show toPyL [.int 1] = some [.int 1] from rfl)
      simp [plD, plP, toPy, toPyL, h]
  | _ => cases hv
theorem pl_sm {v : D} (hv : pvB v = true) (d : Bool) : Sm 2 3000 (plD v d) := by
  cases v with
  | non => cases d <;> exact (Sm.tup (SmL.cons (Sm.int (i := 0) (by decide)) SmL.nil)).mono (by decide) (by decide)
  | int i =>
    have hi := of_decide_eq_true (show decide (-1000000000 ≤ i ∧ i ≤ 1000000000) = true from hv)
    cases d with
    | false => exact (Sm.tup (SmL.cons (Sm.int (i := 1) (by decide)) (SmL.cons (Sm.int (i := i) (by omega)) SmL.nil))).mono (by decide) (by decide)
    | true => exact (Sm.tup (SmL.cons (Sm.int (i := -1) (by decide)) (SmL.cons (Sm.int (i := -i) (by omega)) SmL.nil))).mono (by decide) (by decide)
  | str x =>
    have gx : GS 40 x := asc_gs hv
    cases d with
    | false => exact (Sm.tup (SmL.cons (Sm.int (i := 2) (by decide)) (SmL.cons (Sm.str gx) SmL.nil))).mono (by decide) (by decide)
    | true =>
      have h1 : SmL 0 (((tl x).map (fun c : Nat => D.int (-(c : Int))) ++ [D.int 1]).length * 41) ((tl x).map (fun c : Nat => D.int (-(c : Int))) ++ [D.int 1]) := SmL.all fun y hy => by
        rcases List.mem_append.mp hy with hy | hy
        · obtain ⟨c, hc, rfl⟩ := List.mem_map.mp hy
          have := gx.2 c hc
          exact Sm.int (by omega)
        · rw [List.mem_singleton.mp hy]
          exact Sm.int (by decide)
      have l1 : ((tl x).map (fun c : Nat => D.int (-(c : Int))) ++ [D.int 1]).length * 41 ≤ 41 * 41 := Nat.mul_le_mul_right _ (by have h : x.cps.size ≤ 40 := gx.1; simp; omega)
      exact (Sm.tup (SmL.cons ((Sm.int (i := -2) (by decide)).mono (Nat.zero_le 1) (Nat.le_refl _)) (SmL.cons (Sm.tup (h1.mono (Nat.le_refl _) l1)) (SmL.nil.mono (Nat.zero_le 1) (Nat.le_refl _))))).mono (by decide) (by decide)
  | _ => cases hv
/-! equal places, places in order -/
theorem codes_eqv : ∀ as bs : List Nat, PyData.eqvAll (as.map (fun c : Nat => PyData.int (-(c : Int))) ++ [.int 1]) (bs.map (fun c : Nat => PyData.int (-(c : Int))) ++ [.int 1]) = decide (as = bs)
  | [], [] => by simp [PyData.eqvAll, PyData.eqv]
  | [], b :: bs => by
    have : ¬ (1 : Int) = -(b : Int) := by omega
    simp [PyData.eqvAll, PyData.eqv, this]
  | a :: as, [] => by
    have : ¬ -(a : Int) = (1 : Int) := by omega
    simp [PyData.eqvAll, PyData.eqv, this]
  | a :: as, b :: bs => by
    have ih := codes_eqv as bs
    have e : (-(a : Int) == -(b : Int)) = decide (a = b) := by
      by_cases z : a = b
      · simp [z]
      · have : ¬ -(a : Int) = -(b : Int) := by omega
        simp [z, this]
    simp only [List.map_cons, List.cons_append, PyData.eqvAll, PyData.eqv, ih, e]
    by_cases z : a = b <;> simp [z]
theorem codes_lt : ∀ as bs : List Nat, pyLtL (as.map (fun c : Nat => PyData.int (-(c : Int))) ++ [.int 1]) (bs.map (fun c : Nat => PyData.int (-(c : Int))) ++ [.int 1]) = some (decide (bs < as))
  | [], [] => by simp [pyLtL, PyData.eqv]
  | [], b :: bs => by
    have h1 : ¬ (1 : Int) = -(b : Int) := by omega
    have h2 : ¬ (1 : Int) < -(b : Int) := by omega
    simp [pyLtL, PyData.eqv, h1, pyLt, h2]
  | a :: as, [] => by
    have h1 : ¬ -(a : Int) = (1 : Int) := by omega
    have h2 : -(a : Int) < (1 : Int) := by omega
    simp [pyLtL, PyData.eqv, h1, pyLt, h2]
  | a :: as, b :: bs => by
    have ih := codes_lt as bs
    simp only [List.map_cons, List.cons_append, pyLtL, PyData.eqv]
    by_cases z : a = b
    · subst z
      simp [ih, List.cons_lt_cons_iff]
    · have h1 : ¬ -(a : Int) = -(b : Int) := by omega
      have h2 : (-(a : Int) < -(b : Int)) ↔ b < a := by omega
      have h3 : ¬ b = a := fun y => z y.symm
      simp [h1, pyLt, h2, List.cons_lt_cons_iff, h3]
theorem pl_eqv {v u : D} (hv : pvB v = true) (hu : pvB u = true) (d : Bool) : PyData.eqv (plP v d) (plP u d) = vEq v u := by
  cases v <;> cases u <;> first
    | (cases hv; done)
    | (cases hu; done)
    | skip
  · cases d <;> simp [plP, PyData.eqv, PyData.eqvAll, vEq]
  · cases d <;> simp [plP, PyData.eqv, PyData.eqvAll, vEq]
  · cases d <;> simp [plP, PyData.eqv, PyData.eqvAll, vEq]
  · cases d <;> simp [plP, PyData.eqv, PyData.eqvAll, vEq]
  · rename_i i j
    cases d with
    | false => simp [plP, PyData.eqv, PyData.eqvAll, vEq]
    | true =>
      simp [plP, PyData.eqv, PyData.eqvAll, vEq]
      by_cases z : i = j
      · simp [z]
      · have : ¬ -i = -j := by omega
        rw [show (-i == -j) = false from beq_eq_false_iff_ne.mpr this, show (i == j) = false from beq_eq_false_iff_ne.mpr z]
  · cases d <;> simp [plP, PyData.eqv, PyData.eqvAll, vEq]
  · cases d <;> simp [plP, PyData.eqv, PyData.eqvAll, vEq]
  · cases d <;> simp [plP, PyData.eqv, PyData.eqvAll, vEq]
  · rename_i x y
    cases d with
    | false => simp [plP, PyData.eqv, PyData.eqvAll, vEq]
    | true =>
      have ce := codes_eqv (tl x) (tl y)
      simp [plP, PyData.eqv, PyData.eqvAll, vEq]
      rw [ce]
      by_cases z : x = y
      · simp [z]
      · have : ¬ tl x = tl y := fun q => z (ext_tl q)
        simp [z, this]
theorem pl_lt {v u : D} (hv : pvB v = true) (hu : pvB u = true) (d : Bool) (ne : vEq v u = false) : pyLt (plP v d) (plP u d) = some (decide (cmpV v u < 0) != d) := by
  cases v <;> cases u <;> first
    | (cases hv; done)
    | (cases hu; done)
    | skip
  · cases ne
  · cases d <;> simp [plP, pyLt, pyLtL, PyData.eqv, cmpV, vEq, kindP]
  · cases d <;> simp [plP, pyLt, pyLtL, PyData.eqv, cmpV, vEq, kindP]
  · cases d <;> simp [plP, pyLt, pyLtL, PyData.eqv, cmpV, vEq, kindP]
  · rename_i i j
    have z : ¬ i = j := by simpa [vEq] using ne
    cases d with
    | false => by_cases l : i < j <;> simp [plP, pyLt, pyLtL, PyData.eqv, cmpV, vEq, kindP, vLt, z, l]
    | true =>
      have z' : ¬ -i = -j := by omega
      by_cases l : i < j
      · have l' : ¬ -i < -j := by omega
        simp [plP, pyLt, pyLtL, PyData.eqv, cmpV, vEq, kindP, vLt, z, z', l, l']
      · have l' : -i < -j := by omega
        simp [plP, pyLt, pyLtL, PyData.eqv, cmpV, vEq, kindP, vLt, z, z', l, l']
  · cases d <;> simp [plP, pyLt, pyLtL, PyData.eqv, cmpV, vEq, kindP]
  · cases d <;> simp [plP, pyLt, pyLtL, PyData.eqv, cmpV, vEq, kindP]
  · cases d <;> simp [plP, pyLt, pyLtL, PyData.eqv, cmpV, vEq, kindP]
  · rename_i x y
    have z : ¬ x = y := by simpa [vEq] using ne
    have zt : ¬ tl x = tl y := fun q => z (ext_tl q)
    cases d with
    | false => by_cases l : tl x < tl y <;> simp [plP, pyLt, pyLtL, PyData.eqv, cmpV, vEq, kindP, vLt, z, l, show x.cps.toList = tl x from rfl, show y.cps.toList = tl y from rfl]
    | true =>
      have ce := codes_eqv (tl x) (tl y)
      have cl := codes_lt (tl x) (tl y)
      have tri : tl x < tl y ↔ ¬ tl y < tl x := ⟨fun a b => absurd b (List.lt_asymm a), fun h => (by
        rcases Classical.em (tl x < tl y) with q | q
        · exact q
        · exact absurd (List.le_antisymm (List.not_lt.mp h) (List.not_lt.mp q)) zt)⟩
      by_cases l : tl x < tl y
      · have l' := tri.mp l
        simp [plP, pyLt, pyLtL, PyData.eqv, cmpV, vEq, kindP, vLt, z, l, ce, zt, cl, l']
      · have l' : tl y < tl x := Classical.byContradiction fun q => l (tri.mpr q)
        simp [plP, pyLt, pyLtL, PyData.eqv, cmpV, vEq, kindP, vLt, z, l, ce, zt, cl, l']
end LW
namespace LW
open PySem PySem.Spec PyProof.Rows L2 DL TL
/-! the order of keys -/
/-- by the places of (descending, left, right), then by the ids -/
def sgn : List (Bool × D × D) → Int → Int → Int
  | [], i, j => (if j < i then 1 else 0) - (if i < j then 1 else 0)
  | (d, a, b) :: r, i, j => if vEq a b = true then sgn r i j else if (decide (cmpV a b < 0) == d) = true then 1 else -1
def tri (ks ls : List D) (o : List (Nat × Bool)) : List (Bool × D × D) := ((ks.zip ls).zip o).map fun x => (x.2.2, x.1.1, x.1.2)
theorem tri_cons (a b : D) (ks ls : List D) (p : Nat × Bool) (o : List (Nat × Bool)) : tri (a :: ks) (b :: ls) (p :: o) = (p.2, a, b) :: tri ks ls o := rfl
def plL (ks : List D) (o : List (Nat × Bool)) : List PyData := (ks.zip o).map fun x => plP x.1 x.2.2
theorem plL_cons (a : D) (ks : List D) (p : Nat × Bool) (o : List (Nat × Bool)) : plL (a :: ks) (p :: o) = plP a p.2 :: plL ks o := rfl
theorem sgn_eqv : ∀ {ks ls : List D} {o : List (Nat × Bool)} (i j : Int), ks.length = o.length → ls.length = o.length → (∀ v ∈ ks, pvB v = true) → (∀ v ∈ ls, pvB v = true) →
    PyData.eqvAll (plL ks o ++ [.int i]) (plL ls o ++ [.int j]) = decide (sgn (tri ks ls o) i j = 0) ∧
    (sgn (tri ks ls o) i j ≠ 0 → pyLtL (plL ks o ++ [.int i]) (plL ls o ++ [.int j]) = some (decide (sgn (tri ks ls o) i j = -1))) ∧ (sgn (tri ks ls o) i j = 0 ∨ sgn (tri ks ls o) i j = 1 ∨ sgn (tri ks ls o) i j = -1)
  | [], [], [], i, j, _, _, _, _ => by
    show PyData.eqvAll [.int i] [.int j] = decide (sgn [] i j = 0) ∧ (sgn [] i j ≠ 0 → pyLtL [.int i] [.int j] = some (decide (sgn [] i j = -1))) ∧ (sgn [] i j = 0 ∨ sgn [] i j = 1 ∨ sgn [] i j = -1)
    by_cases e : i = j
    · subst e
      simp [sgn, PyData.eqvAll, PyData.eqv]
    · by_cases l : i < j
      · have l2 : ¬ j < i := by omega
        simp [sgn, PyData.eqvAll, PyData.eqv, pyLtL, pyLt, e, l, l2]
      · have l2 : j < i := by omega
        simp [sgn, PyData.eqvAll, PyData.eqv, pyLtL, pyLt, e, l, l2]
  | a :: ks, b :: ls, p :: o, i, j, h1, h2, hk, hl => by
    obtain ⟨g1, g2, g3⟩ := sgn_eqv (ks := ks) (ls := ls) (o := o) i j (Nat.succ.inj h1) (Nat.succ.inj h2) (fun v hv => hk v (List.mem_cons_of_mem _ hv)) fun v hv => hl v (List.mem_cons_of_mem _ hv)
    have ha := hk a List.mem_cons_self
    have hb := hl b List.mem_cons_self
    have e1 := pl_eqv ha hb p.2
    rw [tri_cons, plL_cons, plL_cons, List.cons_append, List.cons_append]
    by_cases e : vEq a b = true
    · have s : sgn ((p.2, a, b) :: tri ks ls o) i j = sgn (tri ks ls o) i j := if_pos e
      rw [s, PyData.eqvAll, e1, e, g1, pyLtL_cons, e1, if_pos e]
      exact ⟨Bool.true_and _, g2, g3⟩
    · simp only [Bool.not_eq_true] at e
      have e2 := pl_lt ha hb p.2 e
      have s : sgn ((p.2, a, b) :: tri ks ls o) i j = if (decide (cmpV a b < 0) == p.2) = true then 1 else -1 := if_neg (by rw [e]; exact Bool.false_ne_true)
      rw [s, PyData.eqvAll, e1, e, pyLtL_cons, e1, e, if_neg Bool.false_ne_true, e2]
      cases q : decide (cmpV a b < 0) <;> cases p.2 <;> simp
  | [], [], _ :: _, _, _, h, _, _, _ => by cases h
  | [], _ :: _, [], _, _, _, h, _, _ => by cases h
  | [], _ :: _, _ :: _, _, _, h, _, _, _ => by cases h
  | _ :: _, [], [], _, _, h, _, _, _ => by cases h
  | _ :: _, [], _ :: _, _, _, _, h, _, _ => by cases h
  | _ :: _, _ :: _, [], _, _, h, _, _, _ => by cases h
/-- a key as it is drawn -/
structure KOk (o : List (Nat × Bool)) (ks : List D) (i : Int) : Prop where
  l : ks.length = o.length
  v : ∀ v ∈ ks, pvB v = true
  i0 : -1000000 ≤ i
  i1 : i ≤ 1000000
theorem kp_py {o : List (Nat × Bool)} {ks : List D} {i : Int} (k : KOk o ks i) : toPy (kpD ks o i) = some (.tuple (plL ks o ++ [.int i])) := by
  have h : ∀ l : List (D × Nat × Bool), (∀ x ∈ l, pvB x.1 = true) → toPyL (l.map fun x => plD x.1 x.2.2) = some (l.map fun x => plP x.1 x.2.2) := by
    intro l
    induction l with
    | nil => intro _; rfl
    | cons x l ih =>
      intro hh
      show ((toPy (plD x.1 x.2.2)).bind fun p => (toPyL (l.map fun x => plD x.1 x.2.2)).map fun q => p :: q) = _
      rw [pl_py (hh x List.mem_cons_self), ih fun y hy => hh y (List.mem_cons_of_mem _ hy)]
      rfl
  have h1 := toPyL_app (h (ks.zip o) fun x hx => k.v x.1 (List.of_mem_zip hx).1) (show toPyL [.int i] = some [.int i] from rfl)
  show (toPyL _).map PyData.tuple = _
  rw [h1]; rfl
theorem kp_sm {o : List (Nat × Bool)} {ks : List D} {i : Int} (k : KOk o ks i) (ol : o.length ≤ 4) : Sm 3 20000 (kpD ks o i) := by
  have h1 : SmL 2 (((ks.zip o).map (fun x => plD x.1 x.2.2) ++ [D.int i]).length * 3001) ((ks.zip o).map (fun x => plD x.1 x.2.2) ++ [D.int i]) := SmL.all fun y hy => by
    rcases List.mem_append.mp hy with hy | hy
    · obtain ⟨x, hx, rfl⟩ := List.mem_map.mp hy
      exact pl_sm (k.v x.1 (List.of_mem_zip hx).1) x.2.2
    · rw [List.mem_singleton.mp hy]
      exact (Sm.int (by have := k.i0; have := k.i1; omega)).mono (by decide) (by decide)
  have hz : ((ks.zip o).map (fun x => plD x.1 x.2.2) ++ [D.int i]).length ≤ 5 := by simp; omega
  exact (Sm.tup h1).mono (by decide) (Nat.le_trans (Nat.mul_le_mul_right _ hz) (by decide))
theorem kp_shaped {o : List (Nat × Bool)} {ks : List D} {i : Int} (k : KOk o ks i) (ol : o.length ≤ 4) : SeqAt.shaped (.tuple (plL ks o ++ [.int i])) = true := by
  obtain ⟨p, h1, h2⟩ := (kp_sm k ol).shaped (by decide)
  rw [kp_py k] at h1
  cases h1
  exact h2
/-! the law's own reading -/
theorem rk_ne {v u : D} (hv : pvB v = true) (hu : pvB u = true) : opNe (rkD v) (rkD u) = some (.bl (!vEq v u)) := by
  simp [opNe, rk_py hv, rk_py hu, rk_shaped hv, rk_shaped hu, rk_eqv hv hu]
noncomputable abbrev bSign : FS := (sSeq (sPar (par2 5 6) (aCons (fCall m__law_rank (aCons (fSub (fVar 1) (fVar 3)) aNil)) (aCons (fCall m__law_rank (aCons (fSub (fVar 2) (fVar 3)) aNil)) aNil))) (sIf (fTest (fOp opNe (fVar 5) (fVar 6))) (sRet (fIfE (fTest (fOp opEq (fOp opLtD (fVar 5) (fVar 6)) (fSub (fVar 4) (fC (.int 1))))) (fC (.int 1)) (fOp subI (fC (.int 0)) (fC (.int 1))))) sNil))
theorem opEq_bl (a b : Bool) : opEq (.bl a) (.bl b) = some (.bl (a == b)) := by cases a <;> cases b <;> rfl
/-- the loop from place n on -/
theorem sign_loop {view : Option D} {K L : List D} {i j : Int} {st : Store} : ∀ {ks ls : List D} {o : List (Nat × Bool)} (n : Nat) (x3 x4 x5 x6 : Option D), ks.length = o.length → ls.length = o.length → (∀ v ∈ ks, pvB v = true) → (∀ v ∈ ls, pvB v = true) → K.drop n = ks ++ [.int i] → L.drop n = ls ++ [.int j] →
    ∃ y3 y4 y5 y6, loopS (gT 2 (gCons' (gN 3) (gCons' (gN 4) gNil'))) bSign (pairUp n (vOrd o)) [view, some (.tup K), some (.tup L), x3, x4, x5, x6] st = some (if (∀ x ∈ tri ks ls o, vEq x.2.1 x.2.2 = true) then .nx else .rt (.int (sgn (tri ks ls o) i j)), [view, some (.tup K), some (.tup L), y3, y4, y5, y6], st)
  | [], [], [], n, x3, x4, x5, x6, _, _, _, _, _, _ => ⟨x3, x4, x5, x6, by
    have : ∀ x ∈ tri [] [] [], vEq x.2.1 x.2.2 = true := fun x hx => by simp [tri] at hx
    rw [if_pos this]; rfl⟩
  | a :: ks, b :: ls, p :: o, n, x3, x4, x5, x6, h1, h2, hk, hl, dK, dL => by
    have ha := hk a List.mem_cons_self
    have hb := hl b List.mem_cons_self
    have aK : L2.atI K (n : Int) = some a := atI_nat (j := n) (by
      have := List.getElem?_drop (xs := K) (i := n) (j := 0)
      rw [dK] at this
      simpa using this.symm)
    have aL : L2.atI L (n : Int) = some b := atI_nat (j := n) (by
      have := List.getElem?_drop (xs := L) (i := n) (j := 0)
      rw [dL] at this
      simpa using this.symm)
    have step : (gT 2 (gCons' (gN 3) (gCons' (gN 4) gNil'))) (.tup [.int (n : Int), .tup [.int p.1, .bl p.2]]) [view, some (.tup K), some (.tup L), x3, x4, x5, x6] = some [view, some (.tup K), some (.tup L), some (.int n), some (.tup [.int p.1, .bl p.2]), x5, x6] := by simp
    have pu : pairUp n (vOrd (p :: o)) = .tup [.int (n : Int), .tup [.int p.1, .bl p.2]] :: pairUp (n + 1) (vOrd o) := rfl
    by_cases e : vEq a b = true
    · obtain ⟨y3, y4, y5, y6, ih⟩ := sign_loop (view := view) (K := K) (L := L) (i := i) (j := j) (st := st) (ks := ks) (ls := ls) (o := o) (n + 1) (some (.int n)) (some (.tup [.int p.1, .bl p.2])) (some (rkD a)) (some (rkD b)) (Nat.succ.inj h1) (Nat.succ.inj h2) (fun v hv => hk v (List.mem_cons_of_mem _ hv)) (fun v hv => hl v (List.mem_cons_of_mem _ hv)) (by rw [← List.drop_drop, dK]; rfl) (by rw [← List.drop_drop, dL]; rfl)
      have body : bSign [view, some (.tup K), some (.tup L), some (.int n), some (.tup [.int p.1, .bl p.2]), x5, x6] st = some (.nx, [view, some (.tup K), some (.tup L), some (.int n), some (.tup [.int p.1, .bl p.2]), some (rkD a), some (rkD b)], st) := by
        simp [aK, aL, rank_ok ha, rank_ok hb, rk_ne ha hb, e]
      refine ⟨y3, y4, y5, y6, ?_⟩
      rw [pu, loopS, step, Option.bind_some, body, Option.bind_some]
      simp only []
      rw [ih, tri_cons]
      have s : sgn ((p.2, a, b) :: tri ks ls o) i j = sgn (tri ks ls o) i j := if_pos e
      rw [s]
      have q : (∀ x ∈ (p.2, a, b) :: tri ks ls o, vEq x.2.1 x.2.2 = true) ↔ ∀ x ∈ tri ks ls o, vEq x.2.1 x.2.2 = true := ⟨fun h x hx => h x (List.mem_cons_of_mem _ hx), fun h x hx => (List.mem_cons.mp hx).elim (fun y => by rw [y]; exact e) (h x)⟩
      simp only [q]
    · simp only [Bool.not_eq_true] at e
      have lt := rk_lt ha hb
      have body : bSign [view, some (.tup K), some (.tup L), some (.int n), some (.tup [.int p.1, .bl p.2]), x5, x6] st = some (.rt (.int (if (decide (cmpV a b < 0) == p.2) = true then 1 else -1)), [view, some (.tup K), some (.tup L), some (.int n), some (.tup [.int p.1, .bl p.2]), some (rkD a), some (rkD b)], st) := by
        cases q : (decide (cmpV a b < 0) == p.2) <;> simp [aK, aL, rank_ok ha, rank_ok hb, rk_ne ha hb, e, lt, ix1, opEq_bl, q]
      refine ⟨some (.int n), some (.tup [.int p.1, .bl p.2]), some (rkD a), some (rkD b), ?_⟩
      rw [pu, loopS, step, Option.bind_some, body, Option.bind_some]
      simp only []
      have s : sgn (tri (a :: ks) (b :: ls) (p :: o)) i j = if (decide (cmpV a b < 0) == p.2) = true then 1 else -1 := if_neg (by rw [e]; exact Bool.false_ne_true)
      have nq : ¬ ∀ x ∈ tri (a :: ks) (b :: ls) (p :: o), vEq x.2.1 x.2.2 = true := fun h => by
        have := h (p.2, a, b) List.mem_cons_self
        rw [e] at this
        cases this
      rw [if_neg nq, s]
  | [], [], _ :: _, _, _, _, _, _, h, _, _, _, _, _ => by cases h
  | [], _ :: _, [], _, _, _, _, _, _, h, _, _, _, _ => by cases h
  | [], _ :: _, _ :: _, _, _, _, _, _, h, _, _, _, _, _ => by cases h
  | _ :: _, [], [], _, _, _, _, _, h, _, _, _, _, _ => by cases h
  | _ :: _, [], _ :: _, _, _, _, _, _, _, h, _, _, _, _ => by cases h
  | _ :: _, _ :: _, [], _, _, _, _, _, h, _, _, _, _, _ => by cases h
theorem sgn_all : ∀ {l : List (Bool × D × D)} {i j : Int}, (∀ x ∈ l, vEq x.2.1 x.2.2 = true) → sgn l i j = (if j < i then 1 else 0) - (if i < j then 1 else 0)
  | [], _, _, _ => rfl
  | x :: l, i, j, h => by
    obtain ⟨d, a, b⟩ := x
    have e : vEq a b = true := h (d, a, b) List.mem_cons_self
    rw [sgn, if_pos e]
    exact sgn_all fun y hy => h y (List.mem_cons_of_mem _ hy)
theorem sign_ok {c : C} {sh : List Nat} {o : List (Nat × Bool)} {ks ls : List D} {i j : Int} (k : KOk o ks i) (l : KOk o ls j) (st : Store) : m__law_sign [vD c o sh, KD ks i, KD ls j] st = some (.int (sgn (tri ks ls o) i j), st) := by
  obtain ⟨y3, y4, y5, y6, h⟩ := sign_loop (view := some (vD c o sh)) (K := ks ++ [.int i]) (L := ls ++ [.int j]) (i := i) (j := j) (st := st) 0 none none none none k.l l.l k.v l.v rfl rfl
  have q1 : (iOfA asEnT (aCons (fSub (fVar 0) (fC (.int 1))) aNil)) [some (vD c o sh), some (KD ks i), some (KD ls j), none, none, none, none] st = some (pairUp 0 (vOrd o), st) := by
    simp [vD, ix1, asEnT]
  rw [show m__law_sign [vD c o sh, KD ks i, KD ls j] st = outM (g__law_sign [some (vD c o sh), some (KD ks i), some (KD ls j), none, none, none, none] st) from rfl, g__law_sign]
  by_cases e : ∀ x ∈ tri ks ls o, vEq x.2.1 x.2.2 = true
  · rw [if_pos e] at h
    rw [seq_step ((for_step q1).trans h), sgn_all e]
    have la := last_at ks i
    have lb := last_at ls j
    by_cases h1 : j < i <;> by_cases h2 : i < j <;> simp [la, lb, DL.subB, h1, h2]
  · rw [if_neg e] at h
    rw [seq_ret ((for_step q1).trans h)]
    rfl
end LW
namespace LW
open PySem PySem.Spec PyProof.Rows L2 DL TL
/-! what is a mark -/
theorem opNe_int (a b : Int) : opNe (.int a) (.int b) = some (.bl (!(a == b))) := by
  have h1 : SeqAt.shaped (.int a) = true := rfl
  have h2 : SeqAt.shaped (.int b) = true := rfl
  simp [opNe, toPy, h1, h2, PyData.eqv]
theorem k_ne {a b : String} (h : (Str.ofString a == Str.ofString b) = false) {d : D} (e : isK a d = true) : isK b d = false := by
  cases d with
  | str x =>
    have z : x = Str.ofString a := by simpa [isK] using e
    subst z
    exact h
  | _ => cases e
theorem k4 {d : D} (e : (isK "start" d || isK "end" d) = true) : (isK "before" d || isK "after" d) = false := by
  rcases Bool.or_eq_true_iff.mp e with e | e
  · rw [k_ne (b := "before") (by decide +kernel) e, k_ne (b := "after") (by decide +kernel) e]; rfl
  · rw [k_ne (b := "before") (by decide +kernel) e, k_ne (b := "after") (by decide +kernel) e]; rfl
theorem in2 (neg : Bool) (a b : String) (x : Str) : inSeq neg (.str x) (.tup [.str (Str.ofString a), .str (Str.ofString b)]) = some (.bl (if neg = true then !(isK a (.str x) || isK b (.str x)) else (isK a (.str x) || isK b (.str x)))) := by
  have e : ∀ s : String, (Str.ofString s == x) = isK s (.str x) := fun s => by rw [isK_str]; exact Bool.beq_comm
  cases neg <;> simp [inSeq, flatD, anyF, eqF, e]
end LW
namespace LW
open PySem PySem.Spec PyProof.Rows L2 DL TL
theorem vEq_comm {a b : D} (ha : pvB a = true) (hb : pvB b = true) : vEq b a = vEq a b := by
  cases a <;> cases b <;> first
    | (cases ha; done)
    | (cases hb; done)
    | rfl
    | (simp only [vEq]; exact Bool.beq_comm)
theorem str_tri {x y : Str} (z : ¬ x = y) : tl y < tl x ↔ ¬ tl x < tl y := ⟨fun a b => absurd b (List.lt_asymm a), fun h => (by
  rcases Classical.em (tl y < tl x) with q | q
  · exact q
  · exact absurd (ext_tl (List.le_antisymm (List.not_lt.mp q) (List.not_lt.mp h))) z)⟩
theorem cmp_anti {a b : D} (ha : pvB a = true) (hb : pvB b = true) (ne : vEq a b = false) : decide (cmpV b a < 0) = !decide (cmpV a b < 0) := by
  cases a <;> cases b <;> first
    | (cases ha; done)
    | (cases hb; done)
    | (cases ne; done)
    | skip
  · simp [cmpV, vEq, kindP]
  · simp [cmpV, vEq, kindP]
  · simp [cmpV, vEq, kindP]
  · rename_i i j
    have z : ¬ i = j := by simpa [vEq] using ne
    have z' : ¬ j = i := fun q => z q.symm
    by_cases l : i < j
    · have l2 : ¬ j < i := by omega
      simp [cmpV, vEq, kindP, vLt, z, z', l, l2]
    · have l2 : j < i := by omega
      simp [cmpV, vEq, kindP, vLt, z, z', l, l2]
  · simp [cmpV, vEq, kindP]
  · simp [cmpV, vEq, kindP]
  · simp [cmpV, vEq, kindP]
  · rename_i x y
    have z : ¬ x = y := by simpa [vEq] using ne
    have z' : ¬ y = x := fun q => z q.symm
    have t := str_tri z
    by_cases l : tl x < tl y
    · have l2 : ¬ tl y < tl x := fun q => t.mp q l
      simp [cmpV, vEq, kindP, vLt, z, z', l, l2]
    · have l2 : tl y < tl x := t.mpr l
      simp [cmpV, vEq, kindP, vLt, z, z', l, l2]
theorem sgn_anti : ∀ {ks ls : List D} {o : List (Nat × Bool)} (i j : Int), ks.length = o.length → ls.length = o.length → (∀ v ∈ ks, pvB v = true) → (∀ v ∈ ls, pvB v = true) → sgn (tri ls ks o) j i = - sgn (tri ks ls o) i j
  | [], [], [], i, j, _, _, _, _ => by
    show (if i < j then 1 else 0) - (if j < i then 1 else 0) = -((if j < i then 1 else 0) - (if i < j then (1 : Int) else 0))
    omega
  | a :: ks, b :: ls, p :: o, i, j, h1, h2, hk, hl => by
    have ih := sgn_anti (ks := ks) (ls := ls) (o := o) i j (Nat.succ.inj h1) (Nat.succ.inj h2) (fun v hv => hk v (List.mem_cons_of_mem _ hv)) fun v hv => hl v (List.mem_cons_of_mem _ hv)
    have ha := hk a List.mem_cons_self
    have hb := hl b List.mem_cons_self
    rw [tri_cons, tri_cons, sgn, sgn, vEq_comm ha hb]
    by_cases e : vEq a b = true
    · rw [if_pos e, if_pos e, ih]
    · rw [if_neg e, if_neg e, cmp_anti ha hb (by simpa using e)]
      cases decide (cmpV a b < 0) <;> cases p.2 <;> rfl
  | [], [], _ :: _, _, _, h, _, _, _ => by cases h
  | [], _ :: _, [], _, _, _, h, _, _ => by cases h
  | [], _ :: _, _ :: _, _, _, h, _, _, _ => by cases h
  | _ :: _, [], [], _, _, h, _, _, _ => by cases h
  | _ :: _, [], _ :: _, _, _, _, h, _, _ => by cases h
  | _ :: _, _ :: _, [], _, _, h, _, _, _ => by cases h
theorem KD_sm {o : List (Nat × Bool)} {ks : List D} {i : Int} (k : KOk o ks i) (ol : o.length ≤ 4) : Sm 1 300 (KD ks i) := by
  have h1 : SmL 0 ((ks ++ [D.int i]).length * 41) (ks ++ [D.int i]) := SmL.all fun y hy => by
    rcases List.mem_append.mp hy with hy | hy
    · exact pv_sm (k.v y hy)
    · rw [List.mem_singleton.mp hy]
      exact Sm.int (by have := k.i0; have := k.i1; omega)
  have hz : (ks ++ [D.int i]).length ≤ 5 := by have := k.l; simp; omega
  exact (Sm.tup h1).mono (by decide) (Nat.le_trans (Nat.mul_le_mul_right _ hz) (by decide))
end LW
namespace LW
open PySem PySem.Spec PyProof.Rows L2 DL TL
/-! the order of keys is an order -/
theorem vEq_eq {a b : D} (ha : pvB a = true) (hb : pvB b = true) (e : vEq a b = true) : a = b := by
  cases a <;> cases b <;> first
    | rfl
    | (cases ha; done)
    | (cases hb; done)
    | (cases e; done)
    | (simp only [vEq] at e; rw [eq_of_beq e])
theorem vEq_self {a : D} (ha : pvB a = true) : vEq a a = true := by
  cases a <;> first
    | rfl
    | (cases ha; done)
    | exact beq_self_eq_true _
/-- a before b, in a column that does not fall -/
def lo : D → D → Bool
  | .non, .non => false
  | .non, _ => true
  | .int i, .int j => decide (i < j)
  | .int _, .str _ => true
  | .str x, .str y => decide (tl x < tl y)
  | _, _ => false
theorem cmp_lo {a b : D} (ha : pvB a = true) (hb : pvB b = true) (ne : vEq a b = false) : decide (cmpV a b < 0) = lo a b := by
  cases a <;> cases b <;> first
    | (cases ha; done)
    | (cases hb; done)
    | (cases ne; done)
    | skip
  · simp [cmpV, vEq, kindP, lo]
  · simp [cmpV, vEq, kindP, lo]
  · simp [cmpV, vEq, kindP, lo]
  · rename_i i j
    have z : ¬ i = j := by simpa [vEq] using ne
    by_cases l : i < j <;> simp [cmpV, vEq, kindP, vLt, z, l, lo]
  · simp [cmpV, vEq, kindP, lo]
  · simp [cmpV, vEq, kindP, lo]
  · simp [cmpV, vEq, kindP, lo]
  · rename_i x y
    have z : ¬ x = y := by simpa [vEq] using ne
    by_cases l : tl x < tl y <;> simp [cmpV, vEq, kindP, vLt, z, l, lo]
theorem lo_trans {a b c : D} (h1 : lo a b = true) (h2 : lo b c = true) : lo a c = true := by
  cases a <;> cases b <;> first
    | (cases h1; done)
    | skip
  all_goals (cases c <;> first
    | (cases h2; done)
    | rfl
    | skip)
  · have h1 := of_decide_eq_true h1
    have h2 := of_decide_eq_true h2
    exact decide_eq_true (by omega)
  · have h1 := of_decide_eq_true h1
    have h2 := of_decide_eq_true h2
    exact decide_eq_true (List.lt_trans h1 h2)
theorem lo_asym {a b : D} (h1 : lo a b = true) : lo b a = false := by
  cases a <;> cases b <;> first
    | (cases h1; done)
    | rfl
    | skip
  · have h1 := of_decide_eq_true h1
    exact decide_eq_false (by omega)
  · have h1 := of_decide_eq_true h1
    exact decide_eq_false (List.lt_asymm h1)
theorem lo_tot {a b : D} (ha : pvB a = true) (hb : pvB b = true) (ne : vEq a b = false) (h1 : lo a b = false) : lo b a = true := by
  cases a <;> cases b <;> first
    | (cases ha; done)
    | (cases hb; done)
    | (cases ne; done)
    | (cases h1; done)
    | rfl
    | skip
  · rename_i i j
    have z : ¬ i = j := by simpa [vEq] using ne
    have h1 := of_decide_eq_false h1
    exact decide_eq_true (by omega)
  · rename_i x y
    have z : ¬ x = y := by simpa [vEq] using ne
    have h1 := of_decide_eq_false h1
    exact decide_eq_true (Classical.byContradiction fun q => z (ext_tl (List.le_antisymm (List.not_lt.mp q) (List.not_lt.mp h1))))
abbrev Kt := List D × Int
def S (o : List (Nat × Bool)) (p q : Kt) : Int := sgn (tri p.1 q.1 o) p.2 q.2
theorem sgn_cons (d : Bool) (a b : D) (r : List (Bool × D × D)) (i j : Int) : sgn ((d, a, b) :: r) i j = if vEq a b = true then sgn r i j else if (decide (cmpV a b < 0) == d) = true then 1 else -1 := rfl
theorem sgn_trans : ∀ {ks ls ms : List D} {o : List (Nat × Bool)} (i j k : Int), ks.length = o.length → ls.length = o.length → ms.length = o.length → (∀ v ∈ ks, pvB v = true) → (∀ v ∈ ls, pvB v = true) → (∀ v ∈ ms, pvB v = true) →
    sgn (tri ks ls o) i j ≤ 0 → sgn (tri ls ms o) j k ≤ 0 → sgn (tri ks ms o) i k ≤ 0 ∧ (sgn (tri ks ls o) i j < 0 ∨ sgn (tri ls ms o) j k < 0 → sgn (tri ks ms o) i k < 0)
  | [], [], [], [], i, j, k, _, _, _, _, _, _ => by
    show (if j < i then 1 else 0) - (if i < j then 1 else 0) ≤ (0 : Int) → (if k < j then 1 else 0) - (if j < k then 1 else 0) ≤ (0 : Int) → (if k < i then 1 else 0) - (if i < k then 1 else 0) ≤ (0 : Int) ∧ ((if j < i then 1 else 0) - (if i < j then 1 else 0) < (0 : Int) ∨ (if k < j then 1 else 0) - (if j < k then 1 else 0) < (0 : Int) → (if k < i then 1 else 0) - (if i < k then 1 else 0) < (0 : Int))
    omega
  | a :: ks, b :: ls, c :: ms, p :: o, i, j, k, h1, h2, h3, hk, hl, hm => by
    have ih := sgn_trans (ks := ks) (ls := ls) (ms := ms) (o := o) i j k (Nat.succ.inj h1) (Nat.succ.inj h2) (Nat.succ.inj h3) (fun v hv => hk v (List.mem_cons_of_mem _ hv)) (fun v hv => hl v (List.mem_cons_of_mem _ hv)) fun v hv => hm v (List.mem_cons_of_mem _ hv)
    have ha := hk a List.mem_cons_self
    have hb := hl b List.mem_cons_self
    have hc := hm c List.mem_cons_self
    rw [tri_cons, tri_cons, tri_cons, sgn_cons, sgn_cons, sgn_cons]
    by_cases e1 : vEq a b = true
    · have := vEq_eq ha hb e1
      subst this
      rw [if_pos e1]
      by_cases e2 : vEq a c = true
      · rw [if_pos e2, if_pos e2]
        exact ih
      · rw [if_neg e2, if_neg e2]
        intro _ q
        exact ⟨q, fun _ => by
          revert q
          split <;> intro q
          · omega
          · decide⟩
    · have n1 : vEq a b = false := by simpa using e1
      rw [if_neg e1, cmp_lo ha hb n1]
      by_cases e2 : vEq b c = true
      · have := vEq_eq hb hc e2
        subst this
        rw [if_pos e2, if_neg e1, cmp_lo ha hb n1]
        intro q _
        exact ⟨q, fun _ => by
          revert q
          split <;> intro q
          · omega
          · decide⟩
      · have n2 : vEq b c = false := by simpa using e2
        rw [if_neg e2, cmp_lo hb hc n2]
        intro q1 q2
        have t1 : (lo a b == p.2) = false := by
          cases z : (lo a b == p.2) with
          | false => rfl
          | true => rw [z, if_pos rfl] at q1; omega
        have t2 : (lo b c == p.2) = false := by
          cases z : (lo b c == p.2) with
          | false => rfl
          | true => rw [z, if_pos rfl] at q2; omega
        have n3 : vEq a c = false := by
          cases z : vEq a c with
          | false => rfl
          | true =>
            have := vEq_eq ha hc z
            subst this
            exfalso
            cases hp : p.2 <;> rw [hp] at t1 t2
            · have l1 : lo a b = true := by simpa using t1
              have l2 : lo b a = true := by simpa using t2
              rw [lo_asym l1] at l2
              cases l2
            · have l1 : lo a b = false := by simpa using t1
              have l2 : lo b a = false := by simpa using t2
              rw [lo_tot ha hb n1 l1] at l2
              cases l2
        have t3 : (lo a c == p.2) = false := by
          cases hp : p.2 <;> rw [hp] at t1 t2
          · have l1 : lo a b = true := by simpa using t1
            have l2 : lo b c = true := by simpa using t2
            rw [lo_trans l1 l2]; rfl
          · have l1 : lo a b = false := by simpa using t1
            have l2 : lo b c = false := by simpa using t2
            have l3 := lo_trans (lo_tot hb hc n2 l2) (lo_tot ha hb n1 l1)
            rw [lo_asym l3]; rfl
        rw [if_neg (by rw [n3]; exact Bool.false_ne_true), cmp_lo ha hc n3, if_neg (by rw [t3]; exact Bool.false_ne_true)]
        exact ⟨by decide, fun _ => by decide⟩
  | [], [], [], _ :: _, _, _, _, h, _, _, _, _, _ => by cases h
  | [], _, _ :: _, [], _, _, _, _, _, h, _, _, _ => by cases h
  | [], _ :: _, _, [], _, _, _, _, h, _, _, _, _ => by cases h
  | _ :: _, _, _, [], _, _, _, h, _, _, _, _, _ => by cases h
  | [], _ :: _, _, _ :: _, _, _, _, h, _, _, _, _, _ => by cases h
  | [], _, _ :: _, _ :: _, _, _, _, h, _, _, _, _, _ => by cases h
  | _ :: _, [], _, _ :: _, _, _, _, _, h, _, _, _, _ => by cases h
  | _ :: _, _, [], _ :: _, _, _, _, _, _, h, _, _, _ => by cases h
end LW
namespace LW
open PySem PySem.Spec PyProof.Rows L2 DL TL
/-! marks and their order -/
inductive Mk where
  | st | en | k (p : Kt) (f : Bool)
def Mk.d : Mk → D
  | .st => .tup [nm "start"]
  | .en => .tup [nm "end"]
  | .k p false => .tup [nm "before", KD p.1 p.2]
  | .k p true => .tup [nm "after", KD p.1 p.2]
def Mk.pl (o : List (Nat × Bool)) : Mk → D
  | .st => .tup [.int 0]
  | .en => .tup [.int 2]
  | .k p false => .tup [.int 1, kpD p.1 o p.2, .int 0]
  | .k p true => .tup [.int 1, kpD p.1 o p.2, .int 1]
def Mk.ok (o : List (Nat × Bool)) : Mk → Prop
  | .k p _ => KOk o p.1 p.2
  | _ => True
theorem nmq : opEq (nm "start") (nm "start") = some (.bl true) ∧ opEq (nm "end") (nm "start") = some (.bl false) ∧ opEq (nm "end") (nm "end") = some (.bl true) ∧ opEq (nm "before") (nm "start") = some (.bl false) ∧ opEq (nm "before") (nm "end") = some (.bl false) ∧
    opEq (nm "before") (nm "before") = some (.bl true) ∧ opEq (nm "after") (nm "start") = some (.bl false) ∧ opEq (nm "after") (nm "end") = some (.bl false) ∧ opEq (nm "after") (nm "before") = some (.bl false) ∧ opEq (nm "start") (nm "end") = some (.bl false) ∧ opEq (nm "before") (nm "after") = some (.bl false) ∧ opEq (nm "after") (nm "after") = some (.bl true) :=
  ⟨eqL (by decide) (by decide) (by decide +kernel), eqL (by decide) (by decide) (by decide +kernel), eqL (by decide) (by decide) (by decide +kernel), eqL (by decide) (by decide) (by decide +kernel), eqL (by decide) (by decide) (by decide +kernel), eqL (by decide) (by decide) (by decide +kernel), eqL (by decide) (by decide) (by decide +kernel), eqL (by decide) (by decide) (by decide +kernel), eqL (by decide) (by decide) (by decide +kernel), eqL (by decide) (by decide) (by decide +kernel), eqL (by decide) (by decide) (by decide +kernel), eqL (by decide) (by decide) (by decide +kernel)⟩
def cmpI (f g : Bool) : Int := if f = g then 0 else if f = true then 1 else -1
def cmpM (o : List (Nat × Bool)) : Mk → Mk → Int
  | .st, .st => 0
  | .st, .en => -1
  | .st, .k _ _ => -1
  | .en, .st => 1
  | .en, .en => 0
  | .en, .k _ _ => 1
  | .k _ _, .st => 1
  | .k _ _, .en => -1
  | .k p f, .k q g => if S o p q = 0 then cmpI f g else S o p q
/-! places among the keys -/
theorem sgn_self : ∀ {ks : List D} {o : List (Nat × Bool)} (i : Int), (∀ v ∈ ks, pvB v = true) → sgn (tri ks ks o) i i = 0
  | [], _, i, _ => by
    show (if i < i then 1 else 0) - (if i < i then 1 else 0) = (0 : Int)
    omega
  | _ :: _, [], i, _ => by
    show (if i < i then 1 else 0) - (if i < i then 1 else 0) = (0 : Int)
    omega
  | a :: ks, p :: o, i, h => by
    rw [tri_cons, sgn_cons, if_pos (vEq_self (h a List.mem_cons_self))]
    exact sgn_self i fun v hv => h v (List.mem_cons_of_mem _ hv)
theorem S_trans {o : List (Nat × Bool)} {p q r : Kt} (hp : KOk o p.1 p.2) (hq : KOk o q.1 q.2) (hr : KOk o r.1 r.2) (h1 : S o p q ≤ 0) (h2 : S o q r ≤ 0) : S o p r ≤ 0 ∧ (S o p q < 0 ∨ S o q r < 0 → S o p r < 0) :=
  sgn_trans p.2 q.2 r.2 hp.l hq.l hr.l hp.v hq.v hr.v h1 h2
theorem S_anti {o : List (Nat × Bool)} {p q : Kt} (hp : KOk o p.1 p.2) (hq : KOk o q.1 q.2) : S o q p = - S o p q := sgn_anti p.2 q.2 hp.l hq.l hp.v hq.v
theorem S_self {o : List (Nat × Bool)} {p : Kt} (hp : KOk o p.1 p.2) : S o p p = 0 := sgn_self p.2 hp.v
def Mk.of (ks : List Kt) : Mk → Prop
  | .k p _ => p ∈ ks
  | _ => True
end LW
namespace LW
open PySem PySem.Spec PyProof.Rows L2 DL TL
def Py (d : D) : Prop := ∃ p, toPy d = some p ∧ SeqAt.shaped p = true
def nb (a b : D) : Bool := match opNe a b with | some (.bl b) => b | _ => false
theorem ne_py {a b : D} (ha : Py a) (hb : Py b) : opNe a b = some (.bl (nb a b)) := by
  obtain ⟨p, h1, t1⟩ := ha
  obtain ⟨q, h2, t2⟩ := hb
  have o : opNe a b = some (.bl (!PyData.eqv p q)) := by simp [opNe, h1, h2, t1, t2]
  have n : nb a b = !PyData.eqv p q := by simp [nb, o]
  rw [n]; exact o
theorem nb_self {a : D} (ha : Py a) : nb a a = false := by
  obtain ⟨p, h1, t1⟩ := ha
  have o : opNe a a = some (.bl (!PyData.eqv p p)) := by simp [opNe, h1, t1]
  have n : nb a a = !PyData.eqv p p := by simp [nb, o]
  rw [n, SeqAt.eqv_refl p (SeqAt.canLay_of_shaped t1)]; rfl
theorem py_non : Py .non := ⟨.none, rfl, by decide⟩
abbrev U9 : List Int := [1, 2, 3, 4, 5, 6, 7, 8, 9]
theorem z9 {n : Nat} (h : n ≤ 9) : n < sizeLine := Nat.lt_of_le_of_lt h (by decide)
theorem lt_old {st : Store} {n : Nat} {o : Ob} (h : st[n]? = some o) : n < st.length := (List.getElem?_eq_some_iff.mp h).1
theorem pv_noL {d : D} (h : pvB d = true) : noL d = true := by cases d <;> first | rfl | (cases h; done)
theorem loopC_fm {α : Type} {is : List Nat} {bd : FB} {t : FT} {f : F} {φ ψ : α → D} {p : α → Bool} {env : Lo} {st : Store} : ∀ {l : List α}, (∀ x ∈ l, ∃ vs, bd (φ x) = some vs ∧ t (setL is vs env) st = some (p x, st) ∧ f (setL is vs env) st = some (ψ x, st)) → loopC is bd t f (l.map φ) env st = some ((l.filter p).map ψ, st)
  | [], _ => rfl
  | x :: l, h => by
    obtain ⟨vs, h1, h2, h3⟩ := h x List.mem_cons_self
    have ih := loopC_fm (φ := φ) (ψ := ψ) (p := p) (l := l) fun y hy => h y (List.mem_cons_of_mem _ hy)
    rw [List.map_cons, loopC, h1, Option.bind_some, h2, Option.bind_some]
    cases q : p x with
    | true => simp only [if_true, h3, Option.bind_some, ih, Option.map_some, List.filter_cons, q, List.map_cons]
    | false => simp only [Bool.false_eq_true, if_false, ih, List.filter_cons, q]
theorem eq_py {a b : D} (ha : Py a) (hb : Py b) : opEq a b = some (.bl (!nb a b)) := by
  obtain ⟨p, h1, t1⟩ := ha
  obtain ⟨q, h2, t2⟩ := hb
  have o : opNe a b = some (.bl (!PyData.eqv p q)) := by simp [opNe, h1, h2, t1, t2]
  have o2 : opEq a b = some (.bl (PyData.eqv p q)) := by simp [opEq, h1, h2, t1, t2]
  have n : nb a b = !PyData.eqv p q := by simp [nb, o]
  rw [o2, n, Bool.not_not]
structure Rw (o : List (Nat × Bool)) (m : Nat) (i : Int) (d : D) : Prop where
  ex : ∃ us sh, d = .tup [KD us i, .tup sh] ∧ KOk o us i ∧ sh.length = m ∧ ∀ v ∈ sh, pvB v = true
def RwO (o : List (Nat × Bool)) (m : Nat) (i : Int) (d : D) : Prop := d = .non ∨ Rw o m i d
structure Gd (w : Nat) (d : D) : Prop where
  py : Py d
  ok : okD d = true
  nl : noL d = true
  hd : hD d ≤ 3
  wd : wD d ≤ w
theorem Gd.non {w : Nat} : Gd w .non := ⟨py_non, rfl, rfl, Nat.zero_le _, Nat.zero_le _⟩
theorem Rw.gd {o : List (Nat × Bool)} {m : Nat} {i : Int} {d : D} (h : Rw o m i d) (ol : o.length ≤ 4) (ml : m ≤ 10) : Gd 5000 d ∧ hD d ≤ 2 ∧ DL.isNon d = false := by
  obtain ⟨us, sh, rfl, k, sl, sv⟩ := h.ex
  have ul := k.l
  have ib : -1000000000000 < i ∧ i < 1000000000000 := by have := k.i0; have := k.i1; omega
  have f1 : FitL us 0 (us.length * 211) := FitL.all fun d hd => fit_pv (k.v d hd)
  have f2 : FitL sh 0 (sh.length * 211) := FitL.all fun d hd => fit_pv (sv d hd)
  have l1 : us.length * 211 ≤ 4 * 211 := Nat.mul_le_mul_right _ (by omega)
  have l2 : sh.length * 211 ≤ 10 * 211 := Nat.mul_le_mul_right _ (by omega)
  have f : Fit (.tup [KD us i, .tup sh]) 2 5000 := (Fit.tup (FitL.cons (Fit.tup (f1.append (FitL.cons (Fit.int (by omega)) FitL.nil))) (FitL.cons (Fit.tup f2) FitL.nil))).mono (by decide) (by omega)
  refine ⟨⟨?_, f.ok, ?_, Nat.le_trans f.hd (by decide), f.wd⟩, f.hd, rfl⟩
  · have a1 := SmL.all (dp := 0) (wt := 40) (ds := us ++ [D.int i]) fun d hd => by
      rcases List.mem_append.mp hd with m | m
      · exact pv_sm (k.v d m)
      · rw [List.mem_singleton.mp m]; exact Sm.int ib
    have a2 := SmL.all (dp := 0) (wt := 40) (ds := sh) fun d hd => pv_sm (sv d hd)
    exact (Sm.tup (SmL.cons (Sm.tup a1) (SmL.cons (Sm.tup a2) (SmL.nil.mono (Nat.zero_le 1) (Nat.le_refl _))))).shaped (by decide)
  · show noLL [KD us i, .tup sh] = true
    refine noLL_iff.mpr fun d hd => ?_
    simp only [List.mem_cons, List.not_mem_nil, or_false] at hd
    rcases hd with rfl | rfl
    · show noLL _ = true
      refine noLL_iff.mpr fun d hd => ?_
      rcases List.mem_append.mp hd with m | m
      · exact pv_noL (k.v d m)
      · rw [List.mem_singleton.mp m]; rfl
    · show noLL _ = true
      exact noLL_iff.mpr fun d hd => pv_noL (sv d hd)
theorem RwO.gd {o : List (Nat × Bool)} {m : Nat} {i : Int} {d : D} (h : RwO o m i d) (ol : o.length ≤ 4) (ml : m ≤ 10) : Gd 5000 d ∧ hD d ≤ 2 := by
  rcases h with rfl | h
  · exact ⟨Gd.non, Nat.zero_le _⟩
  · exact ⟨(h.gd ol ml).1, (h.gd ol ml).2.1⟩
def bk (d : D) : D := match d with | .tup [b, _] => b | _ => .non
def ak (d : D) : D := match d with | .tup [_, a] => a | _ => .non
structure PM (P : Int → D → Prop) (c : KL) : Prop where
  ok : okK U9 c
  ch : ∀ i d, gt c i = some d → d = .tup [bk d, ak d] ∧ P i (bk d) ∧ P i (ak d)
theorem PM.len {P : Int → D → Prop} {c : KL} (h : PM P c) : c.length ≤ 9 := h.ok.len
theorem PM.mem {P : Int → D → Prop} {c : KL} (h : PM P c) {kv : Key × D} (m : kv ∈ c) : ∃ i, kv.1 = .inl i ∧ i ∈ U9 ∧ gt c i = some kv.2 := by
  obtain ⟨i, hi, e⟩ := h.ok.mem kv m
  exact ⟨i, e, hi, by rw [gt, ← e]; exact (valD_some h.ok.nd).mpr m⟩
theorem PM.mono {P P' : Int → D → Prop} {c : KL} (h : PM P c) (f : ∀ i d, P i d → P' i d) : PM P' c := ⟨h.ok, fun i d e => let ⟨a, b, x⟩ := h.ch i d e; ⟨a, f _ _ b, f _ _ x⟩⟩
theorem PM.nil {P : Int → D → Prop} : PM P [] := ⟨.nil, fun i d e => by cases e⟩
theorem PM.put {P : Int → D → Prop} {c : KL} (h : PM P c) {i : Int} (hi : i ∈ U9) {b a : D} (hb : P i b) (ha : P i a) : PM P (putD c (.inl i) (.tup [b, a])) := by
  refine ⟨h.ok.put hi _, fun j d e => ?_⟩
  rw [gt, valD_put] at e
  by_cases z : (Sum.inl i : Key) = Sum.inl j
  · rw [if_pos z] at e
    injection z with z
    subst z
    cases e
    exact ⟨rfl, hb, ha⟩
  · rw [if_neg z] at e
    exact h.ch j d e
theorem gt_put (c : KL) (i j : Int) (d : D) : gt (putD c (.inl i) d) j = if i = j then some d else gt c j := by
  unfold gt
  rw [valD_put]
  by_cases e : i = j
  · rw [if_pos e, if_pos (by rw [e])]
  · rw [if_neg e, if_neg (fun z => e (by injection z))]
def past (o : List (Nat × Bool)) : Mk → Kt → Bool
  | .st, _ => true
  | .en, _ => false
  | .k p f, q => decide (0 < S o q p) || (decide (S o q p = 0) && !f)
def btw (o : List (Nat × Bool)) (a b : Mk) (q : Kt) : Bool := past o a q && !past o b q
theorem py_nm {s : String} (h : asc 16 (Str.ofString s) = true) : Py (.tup [nm s]) := (Sm.tup (SmL.cons (sm_name h 0) (SmL.nil.mono (Nat.zero_le _) (Nat.le_refl _)))).shaped (by decide)
theorem t_ss : opEq (.tup [nm "start"]) (.tup [nm "start"]) = some (.bl true) := by
  have p : Py (.tup [nm "start"]) := py_nm (by decide)
  rw [eq_py p p, nb_self p]; rfl
theorem t_es : opEq (.tup [nm "end"]) (.tup [nm "start"]) = some (.bl false) := by
  have p : Py (.tup [nm "start"]) := py_nm (by decide)
  have p2 : Py (.tup [nm "end"]) := py_nm (by decide)
  have : nb (.tup [nm "end"]) (.tup [nm "start"]) = true := by decide +kernel
  rw [eq_py p2 p, this]; rfl
theorem past_ok {a : Mk} {q : Kt} (hq : KOk o q.1 q.2) (ha : a.ok o) (st : Store) : m__law_past [vD c o sh, a.d, KD q.1 q.2] st = some (.bl (past o a q), st) := by
  obtain ⟨n1, n2, n3, n4, n5, n6, n7, n8, n9, n10, n11, n12⟩ := nmq
  have ts := t_ss
  have te := t_es
  simp only [nm] at *
  cases a with
  | st =>
    have e : (opEq (.int 1) (.int 1)) = some (.bl true) := opEq_int 1 1
    simp [m__law_past, g__law_past, Mk.d, nm, e, ts, past]
  | en =>
    have e : (opEq (.int 1) (.int 1)) = some (.bl true) := opEq_int 1 1
    simp [m__law_past, g__law_past, Mk.d, nm, e, te, past]
  | k p f =>
    have e : (opEq (.int 2) (.int 1)) = some (.bl false) := opEq_int 2 1
    have sg := sign_ok (c := c) (sh := sh) (o := o) (ks := q.1) (ls := p.1) (i := q.2) (j := p.2) hq ha st
    rw [show sgn (tri q.1 p.1 o) q.2 p.2 = S o q p from rfl] at sg
    have pe : past o (.k p f) q = (decide (0 < S o q p) || (decide (S o q p = 0) && !f)) := rfl
    rw [pe]
    generalize S o q p = s at sg ⊢
    have eg : opEq (.int s) (.int 0) = some (.bl (s == 0)) := opEq_int s 0
    cases f with
    | false =>
      by_cases y : 0 < s
      · simp [m__law_past, g__law_past, Mk.d, nm, e, ix0, ix1, sg, past, y]
      · by_cases z : s = 0
        · subst z; simp [m__law_past, g__law_past, Mk.d, nm, e, ix0, ix1, sg, past, eg, n6]
        · simp [m__law_past, g__law_past, Mk.d, nm, e, ix0, ix1, sg, past, y, eg, z]
    | true =>
      by_cases y : 0 < s
      · simp [m__law_past, g__law_past, Mk.d, nm, e, ix0, ix1, sg, past, y]
      · by_cases z : s = 0
        · subst z; simp [m__law_past, g__law_past, Mk.d, nm, e, ix0, ix1, sg, past, eg, n9]
        · simp [m__law_past, g__law_past, Mk.d, nm, e, ix0, ix1, sg, past, y, eg, z]
theorem py_mk {a : Mk} (h : a.ok o) (ol : o.length ≤ 4) : Py a.d := by
  cases a with
  | st => exact py_nm (by decide)
  | en => exact py_nm (by decide)
  | k p f =>
    have kk : KOk o p.1 p.2 := h
    have ul := kk.l
    have a1 := SmL.all (dp := 0) (wt := 40) (ds := p.1 ++ [D.int p.2]) fun d hd => by
      rcases List.mem_append.mp hd with m | m
      · exact pv_sm (kk.v d m)
      · rw [List.mem_singleton.mp m]; exact Sm.int (by have := kk.i0; have := kk.i1; omega)
    cases f with
    | false => exact (Sm.tup (SmL.cons (sm_name (s := "before") (by decide) 1) (SmL.cons (Sm.tup a1) (SmL.nil.mono (Nat.zero_le 1) (Nat.le_refl _))))).shaped (by decide)
    | true => exact (Sm.tup (SmL.cons (sm_name (s := "after") (by decide) 1) (SmL.cons (Sm.tup a1) (SmL.nil.mono (Nat.zero_le 1) (Nat.le_refl _))))).shaped (by decide)
theorem KOk_of {vs : List D} {i : Int} (oc : ∀ p ∈ o, p.1 < vs.length) (hv : ∀ v ∈ vs, pvB v = true) (hi : 1 ≤ i ∧ i ≤ 9) : KOk o (o.map fun p => atV vs p.1) i :=
  ⟨by simp, fun v h => by obtain ⟨p, hp, rfl⟩ := List.mem_map.mp h; exact hv _ (mem_val (oc p hp)), by omega, by omega⟩
theorem mark_ok {n : Nat} {w : Int} {st : Store} (t : Tp st n) (h0 : 0 < w) (h1 : w ≤ 10) (vo : VOk w.toNat c o sh) :
    ∃ (a : Mk) (st' : Store), m__law_mark [.ref n, vD c o sh, .int w] st = some (a.d, st') ∧ a.ok o ∧ Tp st' n ∧ Fr n st st' ∧ st'.length = st.length := by
  obtain ⟨r, s1, g1, r0, r7, t1, f1, l1⟩ := pick_ok t (s := 7) (by decide) (by decide)
  have c0 : q__law_mark_0 [some (.ref n), some (vD c o sh), some (.int w), none, none] st = some (.nx, [some (.ref n), some (vD c o sh), some (.int w), some (.int r), none], s1) := by simp [e_pick, g1]
  have run : m__law_mark [.ref n, vD c o sh, .int w] st = outM (sSeq q__law_mark_1 (sSeq q__law_mark_2 q__law_mark_3) [some (.ref n), some (vD c o sh), some (.int w), some (.int r), none] s1) := by
    rw [m__law_mark, g__law_mark]
    show outM (sSeq q__law_mark_0 _ [some (.ref n), some (vD c o sh), some (.int w), none, none] st) = _
    rw [seq_step c0]
  by_cases z : r < 2
  · rcases (show r = 0 ∨ r = 1 by omega) with rfl | rfl
    · refine ⟨.st, s1, ?_, trivial, t1, f1, l1⟩
      rw [run]
      simp [ix0, Mk.d, nm]
    · refine ⟨.en, s1, ?_, trivial, t1, f1, l1⟩
      rw [run]
      simp [ix1, Mk.d, nm]
  · obtain ⟨q, s2, g2, q0, q9, t2, f2, l2⟩ := pick_ok t1 (s := 9) (by decide) (by decide)
    obtain ⟨vs, s3, g3, lv, pv, t3, f3, l3⟩ := values_ok t2 (w := w) (by omega) h1
    have wn : w.toNat = vs.length := by omega
    rw [wn] at vo
    generalize hi : 1 + q = i
    have kk := lkey_ok (c := c) (sh := sh) (i := i) s3 vo.oc vo.ol
    obtain ⟨e, s4, g4, he, t4, f4, l4⟩ := one_ok t3 (xs := [nm "before", nm "after"]) (by decide) (by decide)
    have KK : KOk o (o.map fun p => atV vs p.1) i := KOk_of vo.oc pv (by omega)
    have c1 : q__law_mark_1 [some (.ref n), some (vD c o sh), some (.int w), some (.int r), none] s1 = some (.nx, [some (.ref n), some (vD c o sh), some (.int w), some (.int r), none], s1) := by simp [z]
    have c2 : q__law_mark_2 [some (.ref n), some (vD c o sh), some (.int w), some (.int r), none] s1 = some (.nx, [some (.ref n), some (vD c o sh), some (.int w), some (.int r), some (kD o vs i)], s3) := by
      simp [e_pick, g2, g3, hi, kk]
    have c3 : q__law_mark_3 [some (.ref n), some (vD c o sh), some (.int w), some (.int r), some (kD o vs i)] s3 = some (.rt (.tup [e, kD o vs i]), [some (.ref n), some (vD c o sh), some (.int w), some (.int r), some (kD o vs i)], s4) := by
      simp only [nm] at g4
      simp [e_one, g4]
    rw [seq_step c1, seq_step c2, c3] at run
    have fr := ((f1.trans f2).trans f3).trans f4
    simp only [List.mem_cons, List.not_mem_nil, or_false] at he
    rcases he with rfl | rfl
    · exact ⟨.k (o.map (fun p : Nat × Bool => atV vs p.1), i) false, s4, run, KK, t4, fr, by omega⟩
    · exact ⟨.k (o.map (fun p : Nat × Bool => atV vs p.1), i) true, s4, run, KK, t4, fr, by omega⟩
theorem marks_ok {n : Nat} {w : Int} {st : Store} (t : Tp st n) (h0 : 0 < w) (h1 : w ≤ 10) (vo : VOk w.toNat c o sh) :
    ∃ (a b : Mk) (st' : Store), m__law_marks [.ref n, vD c o sh, .int w] st = some (.tup [a.d, b.d], st') ∧ a.ok o ∧ b.ok o ∧ Tp st' n ∧ Fr n st st' ∧ st'.length = st.length := by
  obtain ⟨a, s1, g1, ha, t1, f1, l1⟩ := mark_ok t h0 h1 vo
  obtain ⟨b, s2, g2, hb, t2, f2, l2⟩ := mark_ok t1 h0 h1 vo
  have ol := vo.ol
  have pa := py_mk ha ol
  have pb := py_mk hb ol
  have ps : Py (.tup [nm "start"]) := py_nm (by decide)
  have pe : Py (.tup [nm "end"]) := py_nm (by decide)
  have e1 := eq_py pa pe
  have e2 := eq_py pb ps
  have e3 := ne_py pb pe
  have e4 := ne_py pa ps
  generalize nb a.d (.tup [nm "end"]) = n1 at e1
  generalize nb b.d (.tup [nm "start"]) = n2 at e2
  generalize nb b.d (.tup [nm "end"]) = n3 at e3
  generalize nb a.d (.tup [nm "start"]) = n4 at e4
  simp only [nm] at e1 e2 e3 e4
  have c0 : q__law_marks_0 [some (.ref n), some (vD c o sh), some (.int w), none, none, none] st = some (.nx, [some (.ref n), some (vD c o sh), some (.int w), some a.d, some b.d, none], s2) := by simp [g1, g2]
  have run : m__law_marks [.ref n, vD c o sh, .int w] st = outM (sSeq q__law_marks_1 (sSeq q__law_marks_2 q__law_marks_3) [some (.ref n), some (vD c o sh), some (.int w), some a.d, some b.d, none] s2) := by
    rw [m__law_marks, g__law_marks]
    show outM (sSeq q__law_marks_0 _ [some (.ref n), some (vD c o sh), some (.int w), none, none, none] st) = _
    rw [seq_step c0]
  have fr := f1.trans f2
  have ln : s2.length = st.length := by omega
  by_cases z : (!n1 || !n2) = true
  · have d1 : Mk.st.d = .tup [.str (Str.ofString "start")] := rfl
    have d2 : Mk.en.d = .tup [.str (Str.ofString "end")] := rfl
    have z1 : q__law_marks_1 [some (.ref n), some (vD c o sh), some (.int w), some a.d, some b.d, none] s2 = some (.rt (if (n3 && n4) = true then .tup [b.d, a.d] else .tup [Mk.st.d, Mk.en.d]), [some (.ref n), some (vD c o sh), some (.int w), some a.d, some b.d, none], s2) := by
      cases n1 <;> cases n2 <;> cases n3 <;> cases n4 <;> first | (exact absurd z (by decide)) | simp [e1, e2, e3, e4, d1, d2]
    rw [seq_ret z1] at run
    by_cases y : (n3 && n4) = true
    · rw [if_pos y] at run
      exact ⟨b, a, s2, run, hb, ha, t2, fr, ln⟩
    · rw [if_neg y] at run
      exact ⟨.st, .en, s2, run, trivial, trivial, t2, fr, ln⟩
  · have z1 : q__law_marks_1 [some (.ref n), some (vD c o sh), some (.int w), some a.d, some b.d, none] s2 = some (.nx, [some (.ref n), some (vD c o sh), some (.int w), some a.d, some b.d, none], s2) := by
      cases n1 <;> cases n2 <;> first | (exact absurd rfl z) | simp [e1, e2]
    rw [seq_step z1] at run
    have end3 : ∀ x5 : Option D, q__law_marks_3 [some (.ref n), some (vD c o sh), some (.int w), some a.d, some b.d, x5] s2 = some (.rt (.tup [a.d, b.d]), [some (.ref n), some (vD c o sh), some (.int w), some a.d, some b.d, x5], s2) := fun x5 => by simp
    have i12 : opEq (.int 1) (.int 2) = some (.bl false) := opEq_int 1 2
    have i22 : opEq (.int 2) (.int 2) = some (.bl true) := opEq_int 2 2
    have key : (∃ x5, q__law_marks_2 [some (.ref n), some (vD c o sh), some (.int w), some a.d, some b.d, none] s2 = some (.nx, [some (.ref n), some (vD c o sh), some (.int w), some a.d, some b.d, x5], s2)) ∨ ∃ x5, q__law_marks_2 [some (.ref n), some (vD c o sh), some (.int w), some a.d, some b.d, none] s2 = some (.rt (.tup [b.d, a.d]), [some (.ref n), some (vD c o sh), some (.int w), some a.d, some b.d, x5], s2) := by
      obtain ⟨m1, m2, m3, m4, m5, m6, m7, m8, m9, m10, m11, m12⟩ := nmq
      simp only [nm] at *
      cases a with
      | st => exact .inl ⟨none, by simp [Mk.d, nm, i12]⟩
      | en => exact .inl ⟨none, by simp [Mk.d, nm, i12]⟩
      | k p f =>
        cases b with
        | st => cases f <;> exact .inl ⟨none, by simp [Mk.d, nm, i12, i22]⟩
        | en => cases f <;> exact .inl ⟨none, by simp [Mk.d, nm, i12, i22]⟩
        | k q g =>
          have sg := sign_ok (c := c) (sh := sh) (o := o) (ks := p.1) (ls := q.1) (i := p.2) (j := q.2) ha hb s2
          generalize sgn (tri p.1 q.1 o) p.2 q.2 = s at sg
          have eg : opEq (.int s) (.int 0) = some (.bl (s == 0)) := opEq_int s 0
          have m13 : opEq (nm "after") (nm "after") = some (.bl true) := m12
          have m14 : opEq (nm "before") (nm "after") = some (.bl false) := m11
          simp only [nm] at m13 m14
          by_cases y : 0 < s
          · right
            cases f <;> cases g <;> exact ⟨some (.int s), by simp [Mk.d, nm, i22, ix1, ix0, sg, y]⟩
          · by_cases z : s = 0
            · subst z
              cases f with
              | true => right; cases g <;> exact ⟨some (.int 0), by simp [Mk.d, nm, i22, ix1, ix0, sg, eg, m13]⟩
              | false => left; cases g <;> exact ⟨some (.int 0), by simp [Mk.d, nm, i22, ix1, ix0, sg, eg, m14]⟩
            · left
              cases f <;> cases g <;> exact ⟨some (.int s), by simp [Mk.d, nm, i22, ix1, ix0, sg, eg, y, z]⟩
    rcases key with ⟨x5, k⟩ | ⟨e, k⟩
    · rw [seq_step k, end3] at run
      exact ⟨a, b, s2, run, ha, hb, t2, fr, ln⟩
    · rw [seq_ret k] at run
      exact ⟨b, a, s2, run, hb, ha, t2, fr, ln⟩
def At (ex : List Nat) (F : D) (fs : KL) (s : Store) : Prop := F = .dct fs ∨ ∃ q, F = .ref q ∧ q ∉ ex ∧ s[q]? = some (.dct fs)
theorem At.dct {ex : List Nat} {F : D} {fs : KL} {s : Store} (h : At ex F fs s) : dctAt F s = some fs := by
  rcases h with rfl | ⟨q, rfl, _, e⟩
  · rfl
  · simp [dctAt, e]
theorem At.keep {ex : List Nat} {F : D} {fs : KL} {s s' : Store} (h : At ex F fs s) (k : ∀ q o, q ∉ ex → s[q]? = some o → s'[q]? = some o) : At ex F fs s' := by
  rcases h with rfl | ⟨q, rfl, n, e⟩
  · exact .inl rfl
  · exact .inr ⟨q, rfl, n, k q _ n e⟩
structure CM (o : List (Nat × Bool)) (m : Nat) (ch : KL) : Prop where
  pm : PM (RwO o m) ch
  df : ∀ i d, gt ch i = some d → nb (bk d) (ak d) = true
  k7 : ∀ i, (gt ch i).isSome = true → 1 ≤ i ∧ i ≤ 7
theorem CM.nil : CM o m [] := ⟨PM.nil, fun i d e => (by cases e), fun i e => (by cases e)⟩
theorem u9_of {i : Int} (h : 1 ≤ i ∧ i ≤ 9) : i ∈ U9 := by simp only [U9, List.mem_cons, List.not_mem_nil, or_false]; omega
theorem CM.put {ch : KL} (h : CM o m ch) {i : Int} (hi : 1 ≤ i ∧ i ≤ 7) {b a : D} (hb : RwO o m i b) (ha : RwO o m i a) (ne : nb b a = true) : CM o m (putD ch (.inl i) (.tup [b, a])) := by
  refine ⟨h.pm.put (u9_of (by omega)) hb ha, fun j d e => ?_, fun j e => ?_⟩
  · rw [gt_put] at e
    by_cases z : i = j
    · rw [if_pos z] at e; cases e; exact ne
    · rw [if_neg z] at e; exact h.df j d e
  · rw [gt_put] at e
    by_cases z : i = j
    · subst z; exact hi
    · rw [if_neg z] at e; exact h.k7 j e
end LW
namespace LW
open PySem PySem.Spec PyProof.Rows L2 DL TL
variable {c : C} {o : List (Nat × Bool)} {sh : List Nat} {m : Nat}
/-! places as keys of a sort -/
def pk (o : List (Nat × Bool)) (p : Kt) : PyData := .tuple (plL p.1 o ++ [.int p.2])
theorem lt_self : ∀ (l : List PyData), PyData.canLayAll0 l = true → pyLtL l l = some false
  | [], _ => rfl
  | x :: l, h => by
    have h' : x.canLay0 = true ∧ PyData.canLayAll0 l = true := by simpa [PyData.canLayAll0] using h
    rw [pyLtL_cons, if_pos (SeqAt.eqv_refl x h'.1)]
    exact lt_self l h'.2
theorem lt_pk {p q : Kt} (hp : KOk o p.1 p.2) (hq : KOk o q.1 q.2) (ol : o.length ≤ 4) (h : S o p q = 0 → p = q) : pyLt (pk o p) (pk o q) = some (decide (S o p q < 0)) := by
  unfold pk
  rw [pyLt_tup]
  obtain ⟨_, g2, g3⟩ := sgn_eqv p.2 q.2 hp.l hq.l hp.v hq.v
  by_cases z : S o p q = 0
  · have e := h z
    subst e
    rw [S_self hp]
    have sh := SeqAt.canLay_of_shaped (kp_shaped hp ol)
    exact lt_self _ (by simpa [PyData.canLay0] using sh)
  · rw [g2 z]
    have g3' : S o p q = 0 ∨ S o p q = 1 ∨ S o p q = -1 := g3
    have : (sgn (tri p.1 q.1 o) p.2 q.2 = -1) ↔ S o p q < 0 := by
      show S o p q = -1 ↔ _
      omega
    rw [decide_eq_decide.mpr this]
/-- distinct ids: distinct keys -/
theorem sgn_zero : ∀ {l : List (Bool × D × D)} {i j : Int}, sgn l i j = 0 → i = j
  | [], i, j, h => by
    have h' : (if j < i then (1 : Int) else 0) - (if i < j then 1 else 0) = 0 := by
      rw [← sgn_all (l := []) (fun x hx => by cases hx)]; exact h
    by_cases a : j < i
    · rw [if_pos a, if_neg (by omega)] at h'; omega
    · by_cases b : i < j
      · rw [if_neg a, if_pos b] at h'; omega
      · omega
  | (d, a, b) :: r, i, j, h => by
    rw [sgn_cons] at h
    by_cases z : vEq a b = true
    · rw [if_pos z] at h; exact sgn_zero h
    · rw [if_neg z] at h
      split at h <;> omega
end LW
namespace LW
open PySem PySem.Spec PyProof.Rows L2 DL TL
variable {c : C} {o : List (Nat × Bool)} {sh : List Nat} {w : Nat}
/-! a window's rows, from the rows of a version -/
def kI (kv : Key × D) : Int := match kv.1 with | .inl i => i | .inr _ => 0
def vS (kv : Key × D) : List D := match kv.2 with | .tup vs => vs | _ => []
def del (o : List (Nat × Bool)) (sh : List Nat) (kv : Key × D) : D := .tup [kD o (vS kv) (kI kv), shD sh (vS kv)]
def dl (c : C) (o : List (Nat × Bool)) (sh : List Nat) (kv : Key × D) : D := if sat (vS kv) c = true then del o sh kv else .non
variable {x0 x2 x3 x4 x6 x7 x8 x9 x10 : Option D} {st : Store} {rows : KL} {k : Nat}
end LW
namespace LW
open PySem PySem.Spec PyProof.Rows L2 DL TL
variable {o : List (Nat × Bool)}
/-! keys that are alike are the same -/
theorem sgn_same : ∀ {ks ls : List D} {o : List (Nat × Bool)} {i j : Int}, ks.length = o.length → ls.length = o.length → (∀ v ∈ ks, pvB v = true) → (∀ v ∈ ls, pvB v = true) → sgn (tri ks ls o) i j = 0 → ks = ls ∧ i = j
  | [], [], [], i, j, _, _, _, _, h => ⟨rfl, sgn_zero h⟩
  | a :: ks, b :: ls, p :: o, i, j, h1, h2, hv, hu, h => by
    rw [tri_cons, sgn_cons] at h
    by_cases e : vEq a b = true
    · rw [if_pos e] at h
      obtain ⟨e1, e2⟩ := sgn_same (ks := ks) (ls := ls) (o := o) (by simpa using h1) (by simpa using h2) (fun v m => hv v (List.mem_cons_of_mem _ m)) (fun v m => hu v (List.mem_cons_of_mem _ m)) h
      exact ⟨by rw [e1, vEq_eq (hv a List.mem_cons_self) (hu b List.mem_cons_self) e], e2⟩
    · rw [if_neg e] at h
      split at h <;> cases h
  | [], _ :: _, [], _, _, _, h2, _, _, _ => by cases h2
  | _ :: _, _, [], _, _, h1, _, _, _, _ => by cases h1
  | [], _, _ :: _, _, _, h1, _, _, _, _ => by cases h1
  | _ :: _, [], _ :: _, _, _, _, h2, _, _, _ => by cases h2
theorem S_eq {p q : Kt} (hp : KOk o p.1 p.2) (hq : KOk o q.1 q.2) (h : S o p q = 0) : p = q := by
  obtain ⟨e1, e2⟩ := sgn_same hp.l hq.l hp.v hq.v h
  exact Prod.ext e1 e2
/-! a list cut by a property that its beginning has -/
section
variable {α : Type} {p r : α → Bool}
theorem pre_split : ∀ {L : List α}, L.Pairwise (fun x y => p y = true → p x = true) → L.take (L.filter p).length = L.filter p ∧ L.drop (L.filter p).length = L.filter fun x => !p x
  | [], _ => ⟨rfl, rfl⟩
  | x :: L, h => by
    obtain ⟨h1, h2⟩ := List.pairwise_cons.mp h
    obtain ⟨a, b⟩ := pre_split h2
    by_cases z : p x = true
    · rw [List.filter_cons, if_pos z, List.filter_cons, if_neg (by simp [z])]
      rw [List.length_cons, List.take_succ_cons, List.drop_succ_cons, a, b]
      exact ⟨rfl, rfl⟩
    · have e : L.filter p = [] := List.filter_eq_nil_iff.mpr fun y hy q => z (h1 y hy q)
      have e2 : L.filter (fun x => !p x) = L := List.filter_eq_self.mpr fun y hy => by
        have := List.filter_eq_nil_iff.mp e y hy
        simpa using this
      rw [List.filter_cons, if_neg z, List.filter_cons, if_pos (by simp [z]), e, e2]
      exact ⟨rfl, rfl⟩
theorem pre_at {L : List α} (h : L.Pairwise (fun x y => p y = true → p x = true)) {m : Nat} {x : α} (hm : L[m]? = some x) : p x = true ↔ m < (L.filter p).length := by
  obtain ⟨a, b⟩ := pre_split h
  constructor
  · intro q
    refine Classical.byContradiction fun n => ?_
    have : (L.drop (L.filter p).length)[m - (L.filter p).length]? = some x := by
      rw [List.getElem?_drop, show (L.filter p).length + (m - (L.filter p).length) = m by omega, hm]
    rw [b] at this
    have := (List.mem_filter.mp (List.mem_of_getElem? this)).2
    simp [q] at this
  · intro q
    have : (L.take (L.filter p).length)[m]? = some x := by rw [List.getElem?_take, if_pos q, hm]
    rw [a] at this
    exact (List.mem_filter.mp (List.mem_of_getElem? this)).2
theorem cut_mid : ∀ {L : List α}, L.Pairwise (fun x y => p y = true → p x = true) → L.Pairwise (fun x y => r y = true → r x = true) → (L.take (L.filter r).length).drop (L.filter p).length = L.filter fun x => !p x && r x
  | [], _, _ => by simp
  | x :: L, hp, hr => by
    obtain ⟨p1, p2⟩ := List.pairwise_cons.mp hp
    obtain ⟨r1, r2⟩ := List.pairwise_cons.mp hr
    have ih := cut_mid p2 r2
    have nil : ∀ {q : α → Bool}, (∀ y ∈ L, q y = true → q x = true) → ¬ q x = true → L.filter q = [] := fun h z => List.filter_eq_nil_iff.mpr fun y hy w => z (h y hy w)
    by_cases zr : r x = true
    · rw [List.filter_cons (p := r), if_pos zr, List.length_cons, List.take_succ_cons]
      by_cases zp : p x = true
      · rw [List.filter_cons (p := p), if_pos zp, List.length_cons, List.drop_succ_cons, ih, List.filter_cons, if_neg (by simp [zp])]
      · have e := nil p1 zp
        rw [e] at ih
        rw [List.filter_cons (p := p), if_neg zp, e, List.filter_cons, if_pos (by simp [zp, zr]), ← ih]
        rfl
    · have e := nil r1 zr
      rw [List.filter_cons (p := r), if_neg zr, e, List.length_nil, List.take_zero, List.drop_nil]
      refine (List.filter_eq_nil_iff.mpr fun y hy w => ?_).symm
      have w' : r y = true := by simp at w; exact w.2
      rcases List.mem_cons.mp hy with rfl | m
      · exact zr w'
      · exact zr (r1 y m w')
end
/-! the keys of a listing, each with its version -/
abbrev LsL := List (Kt × Int)
structure LOk (o : List (Nat × Bool)) (L : LsL) : Prop where
  ok : ∀ e ∈ L, KOk o e.1.1 e.1.2
  pw : L.Pairwise fun x y => S o x.1 y.1 < 0
theorem LOk.nil : LOk o [] := ⟨fun e h => (by cases h), .nil⟩
def ltK (o : List (Nat × Bool)) (q : Kt) (e : Kt × Int) : Bool := decide (S o e.1 q < 0)
def gtK (o : List (Nat × Bool)) (q : Kt) (e : Kt × Int) : Bool := decide (0 < S o e.1 q)
def rk (o : List (Nat × Bool)) (L : LsL) (q : Kt) : Nat := (L.filter (ltK o q)).length
def hasK (o : List (Nat × Bool)) (L : LsL) (q : Kt) : Bool := L.any fun e => decide (S o e.1 q = 0)
def putL (o : List (Nat × Bool)) (L : LsL) (q : Kt) (v : Int) : LsL := L.filter (ltK o q) ++ (q, v) :: L.filter (gtK o q)
def dropL (o : List (Nat × Bool)) (L : LsL) (q : Kt) : LsL := L.filter (ltK o q) ++ L.filter (gtK o q)
theorem pw_mem {α : Type} {R : α → α → Prop} {L : List α} (h : L.Pairwise R) {Q : α → α → Prop} (f : ∀ x ∈ L, ∀ y ∈ L, R x y → Q x y) : L.Pairwise Q := List.Pairwise.imp_of_mem (fun hx hy r => f _ hx _ hy r) h
theorem LOk.pre {L : LsL} (h : LOk o L) {q : Kt} (hq : KOk o q.1 q.2) : L.Pairwise (fun x y => ltK o q y = true → ltK o q x = true) := pw_mem h.pw fun x hx y hy r w => by
  have w' : S o y.1 q < 0 := by simpa [ltK] using w
  have := (S_trans (h.ok x hx) (h.ok y hy) hq (by omega) (by omega)).2 (.inl r)
  simpa [ltK] using this
theorem LOk.tri {L : LsL} (h : LOk o L) {q : Kt} (hq : KOk o q.1 q.2) : hasK o L q = (match L[rk o L q]? with | some e => decide (S o e.1 q = 0) | none => false) := by
  have pre := h.pre hq
  cases e : L[rk o L q]? with
  | none =>
    refine List.any_eq_false.mpr fun x hx => ?_
    obtain ⟨m, hm⟩ := List.mem_iff_getElem?.mp hx
    have : L.length ≤ rk o L q := List.getElem?_eq_none_iff.mp e
    have ml := (List.getElem?_eq_some_iff.mp hm).1
    have : ltK o q x = true := (pre_at pre hm).mpr (by show m < rk o L q; omega)
    have : S o x.1 q < 0 := by simpa [ltK] using this
    simp; omega
  | some y =>
    show _ = decide (S o y.1 q = 0)
    have ny : ¬ S o y.1 q < 0 := fun z => by
      have := (pre_at pre e).mp (by simpa [ltK] using z)
      exact Nat.lt_irrefl _ this
    have my := List.mem_of_getElem? e
    by_cases z : S o y.1 q = 0
    · rw [decide_eq_true z]
      exact List.any_eq_true.mpr ⟨y, my, by simpa using z⟩
    · rw [decide_eq_false z]
      refine List.any_eq_false.mpr fun x hx => ?_
      obtain ⟨m, hm⟩ := List.mem_iff_getElem?.mp hx
      have ox := h.ok x hx
      have oy := h.ok y my
      intro w
      have w' : S o x.1 q = 0 := by simpa using w
      have exq := S_eq ox hq w'
      have hml := (List.getElem?_eq_some_iff.mp hm)
      have hyl := (List.getElem?_eq_some_iff.mp e)
      rcases Nat.lt_trichotomy m (rk o L q) with c | c | c
      · have := (pre_at pre hm).mpr c
        have : S o x.1 q < 0 := by simpa [ltK] using this
        omega
      · rw [c, e] at hm
        cases hm
        exact z w'
      · have := List.pairwise_iff_getElem.mp h.pw _ _ hyl.1 hml.1 c
        rw [hyl.2, hml.2, exq] at this
        omega
theorem LOk.put {L : LsL} (h : LOk o L) {q : Kt} (hq : KOk o q.1 q.2) (v : Int) : LOk o (putL o L q v) := by
  refine ⟨fun e he => ?_, ?_⟩
  · rcases List.mem_append.mp he with m | m
    · exact h.ok e (List.mem_filter.mp m).1
    · rcases List.mem_cons.mp m with rfl | m
      · exact hq
      · exact h.ok e (List.mem_filter.mp m).1
  · refine List.pairwise_append.mpr ⟨h.pw.sublist List.filter_sublist, List.pairwise_cons.mpr ⟨fun y hy => ?_, h.pw.sublist List.filter_sublist⟩, fun x hx y hy => ?_⟩
    · obtain ⟨m, w⟩ := List.mem_filter.mp hy
      have : 0 < S o y.1 q := by simpa [gtK] using w
      have := S_anti (h.ok y m) hq
      show S o q y.1 < 0
      omega
    · obtain ⟨m, w⟩ := List.mem_filter.mp hx
      have w' : S o x.1 q < 0 := by simpa [ltK] using w
      rcases List.mem_cons.mp hy with rfl | hy
      · exact w'
      · obtain ⟨m2, w2⟩ := List.mem_filter.mp hy
        have w2' : 0 < S o y.1 q := by simpa [gtK] using w2
        have a := S_anti (h.ok y m2) hq
        exact (S_trans (h.ok x m) hq (h.ok y m2) (by omega) (by omega)).2 (.inl w')
theorem LOk.drop {L : LsL} (h : LOk o L) {q : Kt} (hq : KOk o q.1 q.2) : LOk o (dropL o L q) := by
  have s : (dropL o L q).Sublist (putL o L q 0) := List.Sublist.append (List.Sublist.refl _) (List.sublist_cons_self _ _)
  have k := h.put hq 0
  exact ⟨fun e he => k.ok e (s.subset he), k.pw.sublist s⟩
/-- what stands behind the place of a key -/
theorem LOk.behind {L : LsL} (h : LOk o L) {q : Kt} (hq : KOk o q.1 q.2) : L.take (rk o L q) = L.filter (ltK o q) ∧ (hasK o L q = false → L.drop (rk o L q) = L.filter (gtK o q)) ∧ (hasK o L q = true → rk o L q < L.length ∧ L.drop (rk o L q + 1) = L.filter (gtK o q)) := by
  obtain ⟨a, b⟩ := pre_split (h.pre hq)
  refine ⟨a, fun z => ?_, fun z => ?_⟩
  · show L.drop (L.filter (ltK o q)).length = _
    rw [b]
    refine List.filter_congr fun x hx => ?_
    have nz : ¬ S o x.1 q = 0 := by
      have := List.any_eq_false.mp z x hx
      simpa using this
    show (!decide (S o x.1 q < 0)) = decide (0 < S o x.1 q)
    by_cases w : S o x.1 q < 0
    · rw [decide_eq_true w, decide_eq_false (by omega)]; rfl
    · rw [decide_eq_false w, decide_eq_true (by omega)]; rfl
  · rw [h.tri hq] at z
    cases e : L[rk o L q]? with
    | none => rw [e] at z; cases z
    | some y =>
      rw [e] at z
      have z' : S o y.1 q = 0 := by simpa using z
      have yl := List.getElem?_eq_some_iff.mp e
      have eq := S_eq (h.ok y (List.mem_of_getElem? e)) hq z'
      refine ⟨yl.1, ?_⟩
      have dr : L.drop (rk o L q) = y :: L.drop (rk o L q + 1) := by rw [List.drop_eq_getElem_cons yl.1, yl.2]
      have b' : L.drop (rk o L q) = L.filter fun x => !ltK o q x := b
      have pwd : (L.drop (rk o L q)).Pairwise fun x y => S o x.1 y.1 < 0 := h.pw.sublist (List.drop_sublist _ _)
      rw [dr] at pwd
      obtain ⟨g1, _⟩ := List.pairwise_cons.mp pwd
      have mem : ∀ x ∈ L.drop (rk o L q + 1), x ∈ L := fun x hx => List.mem_of_mem_drop hx
      have all : (L.drop (rk o L q + 1)).filter (gtK o q) = L.drop (rk o L q + 1) := List.filter_eq_self.mpr fun x hx => by
        have := g1 x hx
        rw [eq] at this
        have a := S_anti (h.ok x (mem x hx)) hq
        simp [gtK]; omega
      have pre0 : (L.take (rk o L q)).filter (gtK o q) = [] := List.filter_eq_nil_iff.mpr fun x hx => by
        rw [show L.take (rk o L q) = _ from a] at hx
        have := (List.mem_filter.mp hx).2
        simp [ltK] at this
        simp [gtK]; omega
      have e2 : L.filter (gtK o q) = (L.take (rk o L q)).filter (gtK o q) ++ (L.drop (rk o L q)).filter (gtK o q) := by rw [← List.filter_append, List.take_append_drop]
      rw [e2, pre0, dr, List.filter_cons, if_neg (by simp [gtK, z']), all]
      rfl
/-- rank of a mark, what lies between two -/
def rankM (o : List (Nat × Bool)) (L : LsL) (a : Mk) : Nat := (L.filter fun e => !past o a e.1).length
theorem LOk.preM {L : LsL} (h : LOk o L) {a : Mk} (ha : a.ok o) : L.Pairwise (fun x y => (!past o a y.1) = true → (!past o a x.1) = true) := pw_mem h.pw fun x hx y hy r w => by
  cases a with
  | st => exact w
  | en => exact w
  | k p f =>
    have hp : KOk o p.1 p.2 := ha
    have ox := h.ok x hx
    have oy := h.ok y hy
    simp only [past, Bool.not_eq_true', Bool.or_eq_false_iff, Bool.and_eq_false_iff, decide_eq_false_iff_not, Bool.not_eq_false'] at w ⊢
    have t := S_trans ox oy hp (by omega) (by omega)
    have := t.2 (.inl r)
    exact ⟨by omega, .inl (by omega)⟩
theorem rank_k {L : LsL} (h : LOk o L) {q : Kt} (hq : KOk o q.1 q.2) (f : Bool) : rankM o L (.k q f) = rk o L q + (if f = true ∧ hasK o L q = true then 1 else 0) := by
  obtain ⟨a, b, c⟩ := h.behind hq
  cases f with
  | false =>
    have e : (L.filter fun e => !past o (.k q false) e.1) = L.filter (ltK o q) := List.filter_congr fun x hx => by
      show (!(decide (0 < S o x.1 q) || (decide (S o x.1 q = 0) && true))) = decide (S o x.1 q < 0)
      by_cases w : S o x.1 q < 0
      · rw [decide_eq_true w, decide_eq_false (by omega), decide_eq_false (by omega)]; rfl
      · rw [decide_eq_false w]
        by_cases z : S o x.1 q = 0
        · rw [decide_eq_true z]; simp
        · rw [decide_eq_true (show 0 < S o x.1 q by omega)]; rfl
    unfold rankM
    rw [e]
    simp [rk]
  | true =>
    have e : (L.filter fun e => !past o (.k q true) e.1) = L.filter fun x => !gtK o q x := List.filter_congr fun x hx => by
      show (!(decide (0 < S o x.1 q) || (decide (S o x.1 q = 0) && false))) = !decide (0 < S o x.1 q)
      simp
    have tot : (L.filter fun x => !gtK o q x).length + (L.filter (gtK o q)).length = L.length := by
      clear e a b c h
      induction L with
      | nil => rfl
      | cons x L ih =>
        rw [List.filter_cons, List.filter_cons]
        by_cases z : gtK o q x = true
        · simp only [z, Bool.not_true, Bool.false_eq_true, if_false, if_true, List.length_cons]; omega
        · have z' : gtK o q x = false := by simpa using z
          simp only [z', Bool.not_false, Bool.false_eq_true, if_false, if_true, List.length_cons]; omega
    unfold rankM
    rw [e]
    have rl : rk o L q ≤ L.length := List.length_filter_le _ _
    cases z : hasK o L q with
    | false =>
      have := b z
      have := congrArg List.length this
      rw [List.length_drop] at this
      simp
      omega
    | true =>
      obtain ⟨c1, c2⟩ := c z
      have := congrArg List.length c2
      rw [List.length_drop] at this
      simp
      omega
theorem mid_ok {L : LsL} (h : LOk o L) {a b : Mk} (ha : a.ok o) (hb : b.ok o) : (L.take (rankM o L b)).drop (rankM o L a) = L.filter fun e => btw o a b e.1 := by
  have := cut_mid (h.preM ha) (h.preM hb)
  rw [rankM, rankM, this]
  exact List.filter_congr fun x hx => by simp [btw]
theorem cutM {α : Type} {xs : List α} {i j : Nat} (hi : i ≤ xs.length) (hj : j ≤ xs.length) : DL.cutD xs (some (i : Int)) (some (j : Int)) = (xs.take j).drop i := by
  unfold DL.cutD
  rw [HT.sIx_nat, HT.sIx_nat, List.drop_take, Nat.min_eq_left hi, Nat.min_eq_left hj]
end LW
namespace LW
open PySem PySem.Spec PyProof.Rows L2 DL TL
variable {o : List (Nat × Bool)} {cn : C} {sh : List Nat} {s : Store} {t a b c : Nat} {L : LsL} {vd : D}
def lsF (vd : D) (a b c : Nat) : List (Str × D) := [("_view", vd), ("_places", .ref a), ("_keys", .ref b), ("_versions", .ref c)]
theorem lk_lv (vd : D) (a b c : Nat) : List.lookup ("_view" : Str) (lsF vd a b c) = some vd := rfl
theorem lk_lp (vd : D) (a b c : Nat) : List.lookup ("_places" : Str) (lsF vd a b c) = some (.ref a) := rfl
theorem lk_lk (vd : D) (a b c : Nat) : List.lookup ("_keys" : Str) (lsF vd a b c) = some (.ref b) := rfl
theorem lk_ls (vd : D) (a b c : Nat) : List.lookup ("_versions" : Str) (lsF vd a b c) = some (.ref c) := rfl
def plE (o : List (Nat × Bool)) (e : Kt × Int) : D := kpD e.1.1 o e.1.2
def ksE (e : Kt × Int) : D := KD e.1.1 e.1.2
def vsE (e : Kt × Int) : D := .int e.2
/-- a listing in the store -/
structure Lst (o : List (Nat × Bool)) (vd : D) (s : Store) (t a b c : Nat) (L : LsL) : Prop where
  ins : insAt "Listing" t s = some (lsF vd a b c)
  pl : s[a]? = some (.lst (L.map (plE o)))
  ks : s[b]? = some (.lst (L.map ksE))
  vs : s[c]? = some (.lst (L.map vsE))
  ok : LOk o L
  ab : a ≠ b
  ac : a ≠ c
  bc : b ≠ c
theorem Lst.noF (h : Lst o vd s t a b c L) {m : Str} (hm : List.lookup m (lsF vd a b c) = none) : DL.noF m (insAt "Listing" t s) = true := by
  rw [h.ins]
  simp [DL.noF, hm]
theorem Lst.fv (h : Lst o vd s t a b c L) {e : Lo} {j : Nat} (he : e[j]? = some (some (.ref t))) : fFld "Listing" "_view" (fVar j) e s = some (vd, s) := by
  simp [fFld, fVar, he, h.ins, lk_lv]
theorem Lst.fp (h : Lst o vd s t a b c L) {e : Lo} {j : Nat} (he : e[j]? = some (some (.ref t))) : fFld "Listing" "_places" (fVar j) e s = some (.ref a, s) := by
  simp [fFld, fVar, he, h.ins, lk_lp]
theorem Lst.fk (h : Lst o vd s t a b c L) {e : Lo} {j : Nat} (he : e[j]? = some (some (.ref t))) : fFld "Listing" "_keys" (fVar j) e s = some (.ref b, s) := by
  simp [fFld, fVar, he, h.ins, lk_lk]
theorem Lst.fs (h : Lst o vd s t a b c L) {e : Lo} {j : Nat} (he : e[j]? = some (some (.ref t))) : fFld "Listing" "_versions" (fVar j) e s = some (.ref c, s) := by
  simp [fFld, fVar, he, h.ins, lk_ls]
theorem atI_nat {α : Type} {xs : List α} {m : Nat} {x : α} (h : xs[m]? = some x) : L2.atI xs (m : Int) = some x := by
  have hl := (List.getElem?_eq_some_iff.mp h).1
  unfold L2.atI
  have : ixN xs.length (m : Int) = some m := by
    simp [ixN]
    omega
  rw [this]
  simpa using h
theorem lt_kp {p q : Kt} (hp : KOk o p.1 p.2) (hq : KOk o q.1 q.2) (ol : o.length ≤ 4) : ltN (kpD p.1 o p.2) (kpD q.1 o q.2) = some (.bl (decide (S o p q < 0))) := by
  have l := lt_pk hp hq ol (S_eq hp hq)
  unfold ltN
  rw [kp_py hp, kp_py hq]
  simp only [Option.bind_some]
  rw [if_pos ⟨kp_shaped hp ol, kp_shaped hq ol⟩]
  show (pyLt (pk o p) (pk o q)).map _ = _
  rw [l]; rfl
theorem eq_kp {p q : Kt} (hp : KOk o p.1 p.2) (hq : KOk o q.1 q.2) (ol : o.length ≤ 4) : opEq (kpD p.1 o p.2) (kpD q.1 o q.2) = some (.bl (decide (S o p q = 0))) := by
  unfold opEq
  rw [kp_py hp, kp_py hq]
  simp only [Option.bind_some]
  rw [if_pos ⟨kp_shaped hp ol, kp_shaped hq ol⟩]
  have := (sgn_eqv p.2 q.2 hp.l hq.l hp.v hq.v).1
  show some (D.bl (PyData.eqvAll (plL p.1 o ++ [.int p.2]) (plL q.1 o ++ [.int q.2]))) = _
  rw [this]; rfl
noncomputable abbrev ffT : FT := fTest (fOp opLt (fVar 2) (fVar 3))
noncomputable abbrev ffB : FS := sSeq q_first_from_2w_0 q_first_from_2w_1
theorem ff_loop (h : LOk o L) {q : Kt} (hq : KOk o q.1 q.2) (ol : o.length ≤ 4) (ha : s[a]? = some (.lst (L.map (plE o)))) (hL : L.length ≤ 1000) : ∀ (n : Nat) {lo hi : Nat} {x4 : Option D}, hi ≤ lo + n → lo ≤ rk o L q → rk o L q ≤ hi → hi ≤ L.length →
    ∃ y4, loopW ffT ffB (n + 1) [some (.ref a), some (kpD q.1 o q.2), some (.int (lo : Int)), some (.int (hi : Int)), x4] s = some (.nx, [some (.ref a), some (kpD q.1 o q.2), some (.int (rk o L q : Int)), some (.int (rk o L q : Int)), y4], s)
  | n, lo, hi, x4, h1, h2, h3, h4 => by
    obtain ⟨Q, hQ⟩ : ∃ Q, Q = kpD q.1 o q.2 := ⟨_, rfl⟩
    by_cases z : lo < hi
    · cases n with
      | zero => omega
      | succ n =>
        obtain ⟨m, hm⟩ : ∃ m, m = (lo + hi) / 2 := ⟨_, rfl⟩
        have ml : m < L.length := by omega
        obtain ⟨e, he⟩ : ∃ e, L[m]? = some e := ⟨L[m], List.getElem?_eq_getElem ml⟩
        have em := List.mem_of_getElem? he
        have pa := pre_at (h.pre hq) he
        have tt : ffT [some (.ref a), some Q, some (.int (lo : Int)), some (.int (hi : Int)), x4] s = some (true, s) := by
          have : (lo : Int) < hi := by omega
          simp [ffT, fTest, fOp, fVar, opLt_int, asB, this]
        have c0 : q_first_from_2w_0 [some (.ref a), some Q, some (.int (lo : Int)), some (.int (hi : Int)), x4] s = some (.nx, [some (.ref a), some Q, some (.int (lo : Int)), some (.int (hi : Int)), some (.int (m : Int))], s) := by
          have : ((lo : Int) + hi) / 2 = (m : Int) := by omega
          simp [q_first_from_2w_0, sAsg, fOp, fVar, fC, opAdd_int, fdivI, onI, gN, this]
        have ix : fSub (fVar 0) (fVar 4) [some (.ref a), some Q, some (.int (lo : Int)), some (.int (hi : Int)), some (.int (m : Int))] s = some (kpD e.1.1 o e.1.2, s) := by
          have : L2.atI (L.map (plE o)) (m : Int) = some (kpD e.1.1 o e.1.2) := atI_nat (by rw [List.getElem?_map, he]; rfl)
          generalize L.map (plE o) = PP at *
          simp [fSub, fVar, ixD, ha, this]
        have lt := lt_kp (h.ok e em) hq ol
        have tc : fTest (fOp ltN (fSub (fVar 0) (fVar 4)) (fVar 1)) [some (.ref a), some Q, some (.int (lo : Int)), some (.int (hi : Int)), some (.int (m : Int))] s = some (decide (S o e.1 q < 0), s) := by
          rw [fTest, fOp, ix]
          simp only [Option.bind_some, u_fVar, List.getElem?_cons_succ, List.getElem?_cons_zero, Option.map_some]
          rw [hQ, lt]
          rfl
        rw [← hQ]
        by_cases w : S o e.1 q < 0
        · have lm : m < rk o L q := pa.mp (by simpa [ltK] using w)
          obtain ⟨y4, ih⟩ := ff_loop h hq ol ha hL n (lo := m + 1) (hi := hi) (x4 := some (.int (m : Int))) (by omega) (by omega) h3 h4
          rw [← hQ] at ih
          refine ⟨y4, ?_⟩
          have c1 : q_first_from_2w_1 [some (.ref a), some Q, some (.int (lo : Int)), some (.int (hi : Int)), some (.int (m : Int))] s = some (.nx, [some (.ref a), some Q, some (.int ((m + 1 : Nat) : Int)), some (.int (hi : Int)), some (.int (m : Int))], s) := by
            rw [q_first_from_2w_1, u_sIf, tc, decide_eq_true w]
            simp only [Option.bind_some, if_true]
            simp [q_first_from_2w_1t_0, sAsg, fOp, fVar, fC, opAdd_int, gN]
          rw [loopW, tt]
          simp only [Option.bind_some, if_true]
          rw [ffB, seq_nx c0, c1]
          simp only [Option.bind_some]
          exact ih
        · have lm : rk o L q ≤ m := by
            refine Classical.byContradiction fun z => w ?_
            have := pa.mpr (by show m < rk o L q; omega)
            simpa [ltK] using this
          obtain ⟨y4, ih⟩ := ff_loop h hq ol ha hL n (lo := lo) (hi := m) (x4 := some (.int (m : Int))) (by omega) h2 lm (by omega)
          rw [← hQ] at ih
          refine ⟨y4, ?_⟩
          have c1 : q_first_from_2w_1 [some (.ref a), some Q, some (.int (lo : Int)), some (.int (hi : Int)), some (.int (m : Int))] s = some (.nx, [some (.ref a), some Q, some (.int (lo : Int)), some (.int (m : Int)), some (.int (m : Int))], s) := by
            rw [q_first_from_2w_1, u_sIf, tc, decide_eq_false w]
            simp only [Option.bind_some, Bool.false_eq_true, if_false]
            simp [q_first_from_2w_1e_0, sAsg, fVar, gN]
          rw [loopW, tt]
          simp only [Option.bind_some, if_true]
          rw [ffB, seq_nx c0, c1]
          simp only [Option.bind_some]
          exact ih
    · have e1 : lo = rk o L q := by omega
      have e2 : hi = rk o L q := by omega
      subst e1
      subst e2
      refine ⟨x4, ?_⟩
      rw [← hQ, loopW]
      have tt : ffT [some (.ref a), some Q, some (.int (rk o L q : Int)), some (.int (rk o L q : Int)), x4] s = some (false, s) := by
        simp [ffT, fTest, fOp, fVar, opLt_int, asB]
      rw [tt]
      simp
theorem first_ok (h : LOk o L) {q : Kt} (hq : KOk o q.1 q.2) (ol : o.length ≤ 4) (ha : s[a]? = some (.lst (L.map (plE o)))) (hL : L.length ≤ 1000) : m_first_from [.ref a, kpD q.1 o q.2] s = some (.int (rk o L q : Int), s) := by
  have rl : rk o L q ≤ L.length := List.length_filter_le _ _
  obtain ⟨y4, hw⟩ := ff_loop h hq ol ha hL L.length (lo := 0) (hi := L.length) (x4 := none) (by omega) (by omega) rl (Nat.le_refl _)
  have wl := while_of hw
  obtain ⟨Q, hQ⟩ : ∃ Q, Q = kpD q.1 o q.2 := ⟨_, rfl⟩
  rw [← hQ] at wl ⊢
  have c0 : q_first_from_0 [some (.ref a), some Q, none, none, none] s = some (.nx, [some (.ref a), some Q, some (.int 0), none, none], s) := by simp [q_first_from_0, sAsg, fC, gN]
  have c1 : q_first_from_1 [some (.ref a), some Q, some (.int 0), none, none] s = some (.nx, [some (.ref a), some Q, some (.int 0), some (.int (L.length : Int)), none], s) := by
    have e : (L.map (plE o)).length = L.length := List.length_map _
    generalize L.map (plE o) = PP at *
    simp [q_first_from_1, sAsg, fMk, bLen, lenL, lenK, aCons, aNil, fVar, ha, gN, e]
  rw [m_first_from, g_first_from]
  show outM (sSeq q_first_from_0 _ [some (.ref a), some Q, none, none, none] s) = _
  rw [seq_nx c0, seq_nx c1, seq_nx (show q_first_from_2 [some (.ref a), some Q, some (.int 0), some (.int (L.length : Int)), none] s = _ from wl)]
  simp [q_first_from_3, sRet, fVar, outM]
theorem holds_ok (h : Lst o vd s t a b c L) {q : Kt} (hq : KOk o q.1 q.2) (ol : o.length ≤ 4) (hL : L.length ≤ 1000) : m_Listing__holds [.ref t, .int (rk o L q : Int), kpD q.1 o q.2] s = some (.bl (hasK o L q), s) := by
  rw [h.ok.tri hq]
  obtain ⟨Q, hQ⟩ : ∃ Q, Q = kpD q.1 o q.2 := ⟨_, rfl⟩
  rw [← hQ]
  have f1 : fFld "Listing" "_places" (fVar 0) [some (.ref t), some (.int (rk o L q : Int)), some Q] s = some (.ref a, s) := h.fp rfl
  have pl := h.pl
  have el : (L.map (plE o)).length = L.length := List.length_map _
  have f2 : fMk bLen (aCons (fFld "Listing" "_places" (fVar 0)) aNil) [some (.ref t), some (.int (rk o L q : Int)), some Q] s = some (.int (L.length : Int), s) := by
    rw [u_fMk, aCons, f1]
    generalize L.map (plE o) = PP at *
    simp [bLen, lenL, lenK, aNil, pl, el]
  have f3 : fOp opLt (fVar 1) (fMk bLen (aCons (fFld "Listing" "_places" (fVar 0)) aNil)) [some (.ref t), some (.int (rk o L q : Int)), some Q] s = some (.bl (decide (rk o L q < L.length)), s) := by
    rw [fOp, show fVar 1 [some (D.ref t), some (.int (rk o L q : Int)), some Q] s = some (.int (rk o L q : Int), s) from rfl]
    simp only [Option.bind_some]
    rw [f2]
    simp [opLt_int]
  rw [m_Listing__holds, g_Listing__holds]
  show outM (q_Listing__holds_0 [some (.ref t), some (.int (rk o L q : Int)), some Q] s) = _
  rw [q_Listing__holds_0, u_sRet, fAnd, f3]
  cases e : L[rk o L q]? with
  | none =>
    have : ¬ rk o L q < L.length := by have := List.getElem?_eq_none_iff.mp e; omega
    rw [decide_eq_false this]
    simp [asB, outM]
  | some y =>
    have lt := (List.getElem?_eq_some_iff.mp e).1
    rw [decide_eq_true lt]
    have ix : fSub (fFld "Listing" "_places" (fVar 0)) (fVar 1) [some (.ref t), some (.int (rk o L q : Int)), some Q] s = some (kpD y.1.1 o y.1.2, s) := by
      have : L2.atI (L.map (plE o)) (rk o L q : Int) = some (kpD y.1.1 o y.1.2) := atI_nat (by rw [List.getElem?_map, e]; rfl)
      rw [fSub, f1]
      generalize L.map (plE o) = PP at *
      simp [fVar, ixD, pl, this]
    have eq := eq_kp (h.ok.ok y (List.mem_of_getElem? e)) hq ol
    simp only [asB, Option.bind_some, if_true]
    rw [fOp, ix]
    simp only [Option.bind_some, u_fVar, List.getElem?_cons_succ, List.getElem?_cons_zero, Option.map_some]
    rw [hQ, eq]
    rfl
theorem has_split (h : LOk o L) {q : Kt} (hq : KOk o q.1 q.2) (z : hasK o L q = true) : ∃ w : Int, L = L.filter (ltK o q) ++ (q, w) :: L.filter (gtK o q) ∧ (L.filter (ltK o q)).length = rk o L q := by
  obtain ⟨b1, _, b3⟩ := h.behind hq
  obtain ⟨lt, dr⟩ := b3 z
  rw [h.tri hq] at z
  have e : L[rk o L q]? = some L[rk o L q] := List.getElem?_eq_getElem lt
  rw [e] at z
  have z' : S o L[rk o L q].1 q = 0 := by simpa using z
  have eq := S_eq (h.ok _ (List.getElem_mem lt)) hq z'
  refine ⟨L[rk o L q].2, ?_, rfl⟩
  have : L = L.take (rk o L q) ++ L[rk o L q] :: L.drop (rk o L q + 1) := by
    rw [← List.drop_eq_getElem_cons lt, List.take_append_drop]
  rw [b1, dr] at this
  rw [show (q, L[rk o L q].2) = L[rk o L q] from Prod.ext eq.symm rfl]
  exact this
theorem no_split (h : LOk o L) {q : Kt} (hq : KOk o q.1 q.2) (z : hasK o L q = false) : L = L.filter (ltK o q) ++ L.filter (gtK o q) := by
  obtain ⟨b1, b2, _⟩ := h.behind hq
  rw [← b1, ← b2 z, List.take_append_drop]
theorem insAt_set {c : Str} {n m : Nat} {s : Store} {ob : Ob} {fs : List (Str × D)} (h : insAt c n s = some fs) (hm : ∃ ds, s[m]? = some (.lst ds)) : insAt c n (s.set m ob) = some fs := by
  have e := insAt_some h
  have ne : m ≠ n := fun z => by
    obtain ⟨ds, hd⟩ := hm
    rw [z, e] at hd; cases hd
  unfold insAt
  rw [List.getElem?_set_ne ne, e]
  simp
/-- what an operation changes -/
structure Ch3 (a b c : Nat) (s s' : Store) : Prop where
  len : s'.length = s.length
  at_ : ∀ q, q ≠ a → q ≠ b → q ≠ c → s'[q]? = s[q]?
theorem key_lst {q : Kt} (hq : KOk o q.1 q.2) (ol : o.length ≤ 4) (s : Store) : m_key_place [vD cn o sh, KD q.1 q.2] s = some (kpD q.1 o q.2, s) := key_place_ok s hq.l ol hq.v
theorem add_ok (h : Lst o (vD cn o sh) s t a b c L) {q : Kt} (hq : KOk o q.1 q.2) (ol : o.length ≤ 4) (hL : L.length ≤ 1000) (v : Int) :
    ∃ s', m_Listing_add_key [.ref t, KD q.1 q.2, .int v] s = some (.non, s') ∧ Lst o (vD cn o sh) s' t a b c (putL o L q v) ∧ Ch3 a b c s s' := by
  obtain ⟨V, hV⟩ : ∃ V, V = vD cn o sh := ⟨_, rfl⟩
  obtain ⟨Kq, hKq⟩ : ∃ K, K = KD q.1 q.2 := ⟨_, rfl⟩
  obtain ⟨Q, hQ⟩ : ∃ Q, Q = kpD q.1 o q.2 := ⟨_, rfl⟩
  have kp := key_lst (cn := cn) (sh := sh) hq ol s
  have ho := holds_ok h hq ol hL
  have ff := first_ok h.ok hq ol h.pl hL
  have ok' := h.ok.put hq v
  have rl : rk o L q ≤ L.length := List.length_filter_le _ _
  rw [← hV, ← hKq, ← hQ] at kp
  rw [← hQ] at ho ff
  rw [← hV] at h ⊢
  rw [← hKq]
  have nf := h.noF (m := "_holds") rfl
  have c0 : q_Listing_add_key_0 [some (.ref t), some Kq, some (.int v), none, none] s = some (.nx, [some (.ref t), some Kq, some (.int v), some Q, none], s) := by
    have f : fCall m_key_place (aCons (fFld "Listing" "_view" (fVar 0)) (aCons (fVar 1) aNil)) [some (.ref t), some Kq, some (.int v), none, none] s = some (Q, s) := by
      rw [fCall, aCons, h.fv rfl]
      simp only [Option.bind_some]
      simp [aCons, aNil, fVar, kp]
    rw [q_Listing_add_key_0, u_sAsg, f]
    rfl
  have c1 : q_Listing_add_key_1 [some (.ref t), some Kq, some (.int v), some Q, none] s = some (.nx, [some (.ref t), some Kq, some (.int v), some Q, some (.int (rk o L q : Int))], s) := by
    have f : fCall m_first_from (aCons (fFld "Listing" "_places" (fVar 0)) (aCons (fVar 3) aNil)) [some (.ref t), some Kq, some (.int v), some Q, none] s = some (.int (rk o L q : Int), s) := by
      rw [fCall, aCons, h.fp rfl]
      simp only [Option.bind_some]
      simp [aCons, aNil, fVar, ff]
    rw [q_Listing_add_key_1, u_sAsg, f]
    rfl
  have tt : fTest (fMeth "Listing" "_holds" m_Listing__holds (fVar 0) (aCons (fVar 4) (aCons (fVar 3) aNil))) [some (.ref t), some Kq, some (.int v), some Q, some (.int (rk o L q : Int))] s = some (hasK o L q, s) := by
    rw [fTest, fMeth, show fVar 0 [some (D.ref t), some Kq, some (.int v), some Q, some (.int (rk o L q : Int))] s = some (.ref t, s) from rfl]
    simp only [Option.bind_some]
    rw [nf]
    simp [aCons, aNil, fVar, ho, asB]
  have run : ∀ {s'}, q_Listing_add_key_2 [some (.ref t), some Kq, some (.int v), some Q, some (.int (rk o L q : Int))] s = some (.nx, [some (.ref t), some Kq, some (.int v), some Q, some (.int (rk o L q : Int))], s') → m_Listing_add_key [.ref t, Kq, .int v] s = some (.non, s') := fun {s'} c2 => by
    rw [m_Listing_add_key, g_Listing_add_key]
    show outM (sSeq q_Listing_add_key_0 _ [some (.ref t), some Kq, some (.int v), none, none] s) = _
    rw [seq_nx c0, seq_nx c1, c2]
    rfl
  cases z : hasK o L q with
  | true =>
    obtain ⟨w, hs, hl⟩ := has_split h.ok hq z
    rw [z] at tt
    obtain ⟨A, hA⟩ : ∃ A, A = L.filter (ltK o q) := ⟨_, rfl⟩
    obtain ⟨B, hB⟩ : ∃ B, B = L.filter (gtK o q) := ⟨_, rfl⟩
    have pu : putL o L q v = A ++ (q, v) :: B := by rw [putL, hA, hB]
    rw [← hA, ← hB] at hs
    rw [← hA] at hl
    have vs := h.vs
    have lt : rk o L q < L.length := by
      have := congrArg List.length hs
      rw [List.length_append, List.length_cons] at this
      omega
    have ev : L.map vsE = A.map vsE ++ vsE (q, w) :: B.map vsE := by
      conv => lhs; rw [hs]
      simp
    refine ⟨s.set c (.lst ((L.map vsE).set (rk o L q) (.int v))), run ?_, ⟨insAt_set h.ins ⟨_, vs⟩, ?_, ?_, ?_, ok', h.ab, h.ac, h.bc⟩, ⟨by simp, fun p _ _ pc => List.getElem?_set_ne (Ne.symm pc)⟩⟩
    · have f : fFld "Listing" "_versions" (fVar 0) [some (.ref t), some Kq, some (.int v), some Q, some (.int (rk o L q : Int))] s = some (.ref c, s) := h.fs rfl
      have ixn : ixN (L.map vsE).length (rk o L q : Int) = some (rk o L q) := by
        rw [List.length_map]
        simp [ixN]
        omega
      rw [q_Listing_add_key_2, sIf, tt]
      simp only [Option.bind_some, if_true]
      generalize L.map vsE = VV at *
      rw [q_Listing_add_key_2t_0, sPutL]
      simp only [show fVar 2 [some (D.ref t), some Kq, some (.int v), some Q, some (.int (rk o L q : Int))] s = some (.int v, s) from rfl, Option.bind_some, f, show fVar 4 [some (D.ref t), some Kq, some (.int v), some Q, some (.int (rk o L q : Int))] s = some (.int (rk o L q : Int), s) from rfl]
      simp [vs, ixn]
    · rw [List.getElem?_set_ne (Ne.symm h.ac), h.pl, pu]
      conv => lhs; rw [hs]
      simp [plE]
    · rw [List.getElem?_set_ne (Ne.symm h.bc), h.ks, pu]
      conv => lhs; rw [hs]
      simp [ksE]
    · rw [List.getElem?_set_self (lt_old vs), pu, ev, ← hl]
      simp [vsE, List.set_append]
  | false =>
    have hs := no_split h.ok hq z
    rw [z] at tt
    obtain ⟨A, hA⟩ : ∃ A, A = L.filter (ltK o q) := ⟨_, rfl⟩
    obtain ⟨B, hB⟩ : ∃ B, B = L.filter (gtK o q) := ⟨_, rfl⟩
    have pu : putL o L q v = A ++ (q, v) :: B := by rw [putL, hA, hB]
    have hl : rk o L q = A.length := by rw [hA]; rfl
    rw [← hA, ← hB] at hs
    have inl : ∀ (f : Kt × Int → D), insAtL (L.map f) (rk o L q : Int) (f (q, v)) = (putL o L q v).map f := fun f => by
      have ev : L.map f = A.map f ++ B.map f := by
        conv => lhs; rw [hs]
        simp
      rw [pu, insAtL, Int.toNat_natCast, ev, hl]
      simp
    have zl : ∀ f : Kt × Int → D, (L.map f).length < sizeLine := fun f => Nat.lt_of_le_of_lt (show _ ≤ 1000 by rw [List.length_map]; exact hL) (by decide)
    have r62 : (0 : Int) ≤ (rk o L q : Int) ∧ (rk o L q : Int) < 4611686018427387904 := by omega
    have i1 := inl (plE o)
    have i2 := inl ksE
    have i3 := inl vsE
    have z1 := zl (plE o)
    have z2 := zl ksE
    have z3 := zl vsE
    have e1 : plE o (q, v) = Q := hQ.symm
    have e2 : ksE (q, v) = Kq := hKq.symm
    have e3 : vsE (q, v) = .int v := rfl
    rw [e1] at i1
    rw [e2] at i2
    rw [e3] at i3
    obtain ⟨P1, hP1⟩ : ∃ P, P = (putL o L q v).map (plE o) := ⟨_, rfl⟩
    obtain ⟨P2, hP2⟩ : ∃ P, P = (putL o L q v).map ksE := ⟨_, rfl⟩
    obtain ⟨P3, hP3⟩ : ∃ P, P = (putL o L q v).map vsE := ⟨_, rfl⟩
    have pl := h.pl
    have ks := h.ks
    have vs := h.vs
    have f1 : fFld "Listing" "_places" (fVar 0) [some (.ref t), some Kq, some (.int v), some Q, some (.int (rk o L q : Int))] s = some (.ref a, s) := h.fp rfl
    have in1 : insAt "Listing" t (s.set a (.lst P1)) = some (lsF V a b c) := insAt_set h.ins ⟨_, pl⟩
    have ks1 : (s.set a (.lst P1))[b]? = some (.lst (L.map ksE)) := by rw [List.getElem?_set_ne h.ab]; exact ks
    have in2 : insAt "Listing" t ((s.set a (.lst P1)).set b (.lst P2)) = some (lsF V a b c) := insAt_set in1 ⟨_, ks1⟩
    have vs2 : ((s.set a (.lst P1)).set b (.lst P2))[c]? = some (.lst (L.map vsE)) := by rw [List.getElem?_set_ne h.bc, List.getElem?_set_ne h.ac]; exact vs
    have in3 : insAt "Listing" t (((s.set a (.lst P1)).set b (.lst P2)).set c (.lst P3)) = some (lsF V a b c) := insAt_set in2 ⟨_, vs2⟩
    have f2 : fFld "Listing" "_keys" (fVar 0) [some (.ref t), some Kq, some (.int v), some Q, some (.int (rk o L q : Int))] (s.set a (.lst P1)) = some (.ref b, s.set a (.lst P1)) := by
      simp [fFld, fVar, in1, lk_lk]
    have f3 : fFld "Listing" "_versions" (fVar 0) [some (.ref t), some Kq, some (.int v), some Q, some (.int (rk o L q : Int))] ((s.set a (.lst P1)).set b (.lst P2)) = some (.ref c, (s.set a (.lst P1)).set b (.lst P2)) := by
      simp [fFld, fVar, in2, lk_ls]
    have d1 : q_Listing_add_key_2e_0 [some (.ref t), some Kq, some (.int v), some Q, some (.int (rk o L q : Int))] s = some (.nx, [some (.ref t), some Kq, some (.int v), some Q, some (.int (rk o L q : Int))], s.set a (.lst P1)) := by
      rw [← hP1] at i1
      generalize L.map (plE o) = LL at *
      rw [q_Listing_add_key_2e_0, u_sDrop, fIns, f1]
      simp only [Option.bind_some, pl, isLs, if_true]
      simp [fVar, pl, z1, r62, i1]
    have d2 : q_Listing_add_key_2e_1 [some (.ref t), some Kq, some (.int v), some Q, some (.int (rk o L q : Int))] (s.set a (.lst P1)) = some (.nx, [some (.ref t), some Kq, some (.int v), some Q, some (.int (rk o L q : Int))], (s.set a (.lst P1)).set b (.lst P2)) := by
      rw [← hP2] at i2
      generalize L.map ksE = LL at *
      rw [q_Listing_add_key_2e_1, u_sDrop, fIns, f2]
      simp only [Option.bind_some, ks1, isLs, if_true]
      simp [fVar, ks1, z2, r62, i2]
    have d3 : q_Listing_add_key_2e_2 [some (.ref t), some Kq, some (.int v), some Q, some (.int (rk o L q : Int))] ((s.set a (.lst P1)).set b (.lst P2)) = some (.nx, [some (.ref t), some Kq, some (.int v), some Q, some (.int (rk o L q : Int))], ((s.set a (.lst P1)).set b (.lst P2)).set c (.lst P3)) := by
      rw [← hP3] at i3
      generalize L.map vsE = LL at *
      rw [q_Listing_add_key_2e_2, u_sDrop, fIns, f3]
      simp only [Option.bind_some, vs2, isLs, if_true]
      simp [fVar, vs2, z3, r62, i3]
    refine ⟨((s.set a (.lst P1)).set b (.lst P2)).set c (.lst P3), run ?_, ⟨in3, ?_, ?_, ?_, ok', h.ab, h.ac, h.bc⟩, ⟨by simp, fun p pa pb pc => by rw [List.getElem?_set_ne (Ne.symm pc), List.getElem?_set_ne (Ne.symm pb), List.getElem?_set_ne (Ne.symm pa)]⟩⟩
    · rw [q_Listing_add_key_2, sIf, tt]
      simp only [Option.bind_some, Bool.false_eq_true, if_false]
      rw [seq_nx d1, seq_nx d2, d3]
    · rw [List.getElem?_set_ne (Ne.symm h.ac), List.getElem?_set_ne (Ne.symm h.ab), List.getElem?_set_self (lt_old pl), hP1]
    · rw [List.getElem?_set_ne (Ne.symm h.bc), List.getElem?_set_self (by simpa using lt_old ks), hP2]
    · rw [List.getElem?_set_self (lt_old vs2), hP3]
theorem rankM_ok (h : Lst o (vD cn o sh) s t a b c L) {mk : Mk} (hm : mk.ok o) (ol : o.length ≤ 4) (hL : L.length ≤ 1000) : m_Listing_rank_of [.ref t, mk.d] s = some (.int (rankM o L mk : Int), s) := by
  obtain ⟨n1, n2, n3, n4, n5, n6, n7, n8, n9, n10, n11, n12⟩ := nmq
  simp only [nm] at *
  rw [m_Listing_rank_of, g_Listing_rank_of]
  cases mk with
  | st =>
    have i0 : L2.atI [nm "start"] 0 = some (nm "start") := ix0
    simp only [nm] at i0
    have c0 : q_Listing_rank_of_0 [some (.ref t), some (Mk.d .st), none, none] s = some (.rt (.int 0), [some (.ref t), some (Mk.d .st), none, none], s) := by
      simp [q_Listing_rank_of_0, sIf, fTest, fOp, fSub, fVar, fC, Mk.d, nm, ixD, i0, n1, asB, q_Listing_rank_of_0t_0, sRet]
    have r0 : rankM o L .st = 0 := by simp [rankM, past]
    show outM (sSeq q_Listing_rank_of_0 _ [some (.ref t), some (Mk.d .st), none, none] s) = _
    rw [u_sSeq, c0, r0]
    rfl
  | en =>
    have i0 : L2.atI [nm "end"] 0 = some (nm "end") := ix0
    simp only [nm] at i0
    have c0 : q_Listing_rank_of_0 [some (.ref t), some (Mk.d .en), none, none] s = some (.nx, [some (.ref t), some (Mk.d .en), none, none], s) := by
      simp [q_Listing_rank_of_0, sIf, fTest, fOp, fSub, fVar, fC, Mk.d, nm, ixD, i0, n2, asB, sNil]
    have r0 : rankM o L .en = L.length := by
      have e : (L.filter fun e => !past o .en e.1) = L := List.filter_eq_self.mpr fun e he => rfl
      unfold rankM
      rw [e]
    have f1 : fFld "Listing" "_keys" (fVar 0) [some (.ref t), some (Mk.d .en), none, none] s = some (.ref b, s) := h.fk rfl
    have ks := h.ks
    have el : (L.map ksE).length = L.length := List.length_map _
    have fl : fMk bLen (aCons (fFld "Listing" "_keys" (fVar 0)) aNil) [some (.ref t), some (Mk.d .en), none, none] s = some (.int (L.length : Int), s) := by
      rw [u_fMk, aCons, f1]
      generalize L.map ksE = PP at *
      simp [bLen, lenL, lenK, aNil, ks, el]
    have c1 : q_Listing_rank_of_1 [some (.ref t), some (Mk.d .en), none, none] s = some (.rt (.int (L.length : Int)), [some (.ref t), some (Mk.d .en), none, none], s) := by
      have tt : fTest (fOp opEq (fSub (fVar 1) (fC (.int 0))) (fC (.str (Str.ofString "end")))) [some (.ref t), some (Mk.d .en), none, none] s = some (true, s) := by
        simp [fTest, fOp, fSub, fVar, fC, Mk.d, nm, ixD, i0, n3, asB]
      rw [q_Listing_rank_of_1, sIf, tt]
      simp only [Option.bind_some, if_true]
      rw [q_Listing_rank_of_1t_0, u_sRet, fl]
      rfl
    show outM (sSeq q_Listing_rank_of_0 _ [some (.ref t), some (Mk.d .en), none, none] s) = _
    rw [seq_nx c0, u_sSeq, c1, r0]
    rfl
  | k q f =>
    have hq : KOk o q.1 q.2 := hm
    have kp := key_lst (cn := cn) (sh := sh) hq ol s
    have ff := first_ok h.ok hq ol h.pl hL
    have ho := holds_ok h hq ol hL
    obtain ⟨V, hV⟩ : ∃ V, V = vD cn o sh := ⟨_, rfl⟩
    obtain ⟨Kq, hKq⟩ : ∃ K, K = KD q.1 q.2 := ⟨_, rfl⟩
    obtain ⟨Q, hQ⟩ : ∃ Q, Q = kpD q.1 o q.2 := ⟨_, rfl⟩
    obtain ⟨W, hW⟩ : ∃ W, W = (if f = true then Str.ofString "after" else Str.ofString "before") := ⟨_, rfl⟩
    have ed : Mk.d (.k q f) = .tup [.str W, Kq] := by
      rw [hW, hKq]
      cases f <;> rfl
    rw [← hV, ← hKq, ← hQ] at kp
    rw [← hQ] at ho ff
    rw [← hV] at h
    have nf := h.noF (m := "_holds") rfl
    have i0 : L2.atI [D.str W, Kq] 0 = some (.str W) := ix0
    have i1 : L2.atI [D.str W, Kq] 1 = some Kq := ix1
    have w1 : opEq (.str W) (.str (Str.ofString "start")) = some (.bl false) := by rw [hW]; cases f <;> assumption
    have w2 : opEq (.str W) (.str (Str.ofString "end")) = some (.bl false) := by rw [hW]; cases f <;> assumption
    have w3 : opEq (.str W) (.str (Str.ofString "after")) = some (.bl f) := by rw [hW]; cases f <;> assumption
    rw [ed]
    obtain ⟨T, hT⟩ : ∃ T, T = D.tup [.str W, Kq] := ⟨_, rfl⟩
    have x0 : ∀ x2 x3 : Option D, fSub (fVar 1) (fC (.int 0)) [some (.ref t), some T, x2, x3] s = some (.str W, s) := fun x2 x3 => by simp [fSub, fVar, fC, hT, ixD, i0]
    have x1 : ∀ x2 x3 : Option D, fSub (fVar 1) (fC (.int 1)) [some (.ref t), some T, x2, x3] s = some (Kq, s) := fun x2 x3 => by simp [fSub, fVar, fC, hT, ixD, i1]
    rw [← hT]
    have c0 : q_Listing_rank_of_0 [some (.ref t), some T, none, none] s = some (.nx, [some (.ref t), some T, none, none], s) := by
      rw [q_Listing_rank_of_0, sIf, fTest, fOp, x0]
      simp [fC, w1, asB, sNil]
    have c1 : q_Listing_rank_of_1 [some (.ref t), some T, none, none] s = some (.nx, [some (.ref t), some T, none, none], s) := by
      rw [q_Listing_rank_of_1, sIf, fTest, fOp, x0]
      simp [fC, w2, asB, sNil]
    have c2 : q_Listing_rank_of_2 [some (.ref t), some T, none, none] s = some (.nx, [some (.ref t), some T, some Q, none], s) := by
      have f : fCall m_key_place (aCons (fFld "Listing" "_view" (fVar 0)) (aCons (fSub (fVar 1) (fC (.int 1))) aNil)) [some (.ref t), some T, none, none] s = some (Q, s) := by
        rw [fCall, aCons, h.fv rfl]
        simp only [Option.bind_some]
        rw [aCons, x1]
        simp [aNil, kp]
      rw [q_Listing_rank_of_2, u_sAsg, f]
      rfl
    have c3 : q_Listing_rank_of_3 [some (.ref t), some T, some Q, none] s = some (.nx, [some (.ref t), some T, some Q, some (.int (rk o L q : Int))], s) := by
      have f : fCall m_first_from (aCons (fFld "Listing" "_places" (fVar 0)) (aCons (fVar 2) aNil)) [some (.ref t), some T, some Q, none] s = some (.int (rk o L q : Int), s) := by
        rw [fCall, aCons, h.fp rfl]
        simp only [Option.bind_some]
        simp [aCons, aNil, fVar, ff]
      rw [q_Listing_rank_of_3, u_sAsg, f]
      rfl
    have th : fTest (fMeth "Listing" "_holds" m_Listing__holds (fVar 0) (aCons (fVar 3) (aCons (fVar 2) aNil))) [some (.ref t), some T, some Q, some (.int (rk o L q : Int))] s = some (hasK o L q, s) := by
      rw [fTest, fMeth, show fVar 0 [some (D.ref t), some T, some Q, some (.int (rk o L q : Int))] s = some (.ref t, s) from rfl]
      simp only [Option.bind_some]
      rw [nf]
      simp [aCons, aNil, fVar, ho, asB]
    have ta : fTest (fOp opEq (fSub (fVar 1) (fC (.int 0))) (fC (.str (Str.ofString "after")))) [some (.ref t), some T, some Q, some (.int (rk o L q : Int))] s = some (f, s) := by
      rw [fTest, fOp, x0]
      simp [fC, w3, asB]
    rw [rank_k h.ok hq f]
    show outM (sSeq q_Listing_rank_of_0 _ [some (.ref t), some T, none, none] s) = _
    rw [seq_nx c0, seq_nx c1, seq_nx c2, seq_nx c3, u_sSeq, q_Listing_rank_of_4, sIf, fAndT, ta]
    cases f with
    | false => simp [sNil, q_Listing_rank_of_5, sRet, fVar, outM]
    | true =>
      simp only [Option.bind_some, if_true]
      rw [th]
      cases z : hasK o L q with
      | false => simp [sNil, q_Listing_rank_of_5, sRet, fVar, outM]
      | true => simp [q_Listing_rank_of_4t_0, sRet, fOp, fVar, fC, opAdd_int, outM]
theorem between_vs (h : Lst o (vD cn o sh) s t a b c L) {m1 m2 : Mk} (h1 : m1.ok o) (h2 : m2.ok o) (ol : o.length ≤ 4) (hL : L.length ≤ 1000) : m_Listing__versions_between [.ref t, m1.d, m2.d] s = some (.lst ((L.filter fun e => btw o m1 m2 e.1).map vsE), s) := by
  have r1 := rankM_ok h h1 ol hL
  have r2 := rankM_ok h h2 ol hL
  have nf := h.noF (m := "rank_of") rfl
  have vs := h.vs
  have l1 : rankM o L m1 ≤ L.length := List.length_filter_le _ _
  have l2 : rankM o L m2 ≤ L.length := List.length_filter_le _ _
  have cu : DL.cutD (L.map vsE) (some (rankM o L m1 : Int)) (some (rankM o L m2 : Int)) = (L.filter fun e => btw o m1 m2 e.1).map vsE := by
    rw [cutM (by rw [List.length_map]; exact l1) (by rw [List.length_map]; exact l2), ← mid_ok h.ok h1 h2, List.map_drop, List.map_take]
  have f1 : fFld "Listing" "_versions" (fVar 0) [some (.ref t), some m1.d, some m2.d] s = some (.ref c, s) := h.fs rfl
  have g1 : fMeth "Listing" "rank_of" m_Listing_rank_of (fVar 0) (aCons (fVar 1) aNil) [some (.ref t), some m1.d, some m2.d] s = some (.int (rankM o L m1 : Int), s) := by
    rw [fMeth, show fVar 0 [some (D.ref t), some m1.d, some m2.d] s = some (.ref t, s) from rfl]
    simp only [Option.bind_some]
    rw [nf]
    simp [aCons, aNil, fVar, r1]
  have g2 : fMeth "Listing" "rank_of" m_Listing_rank_of (fVar 0) (aCons (fVar 2) aNil) [some (.ref t), some m1.d, some m2.d] s = some (.int (rankM o L m2 : Int), s) := by
    rw [fMeth, show fVar 0 [some (D.ref t), some m1.d, some m2.d] s = some (.ref t, s) from rfl]
    simp only [Option.bind_some]
    rw [nf]
    simp [aCons, aNil, fVar, r2]
  rw [m_Listing__versions_between, g_Listing__versions_between]
  show outM (q_Listing__versions_between_0 [some (.ref t), some m1.d, some m2.d] s) = _
  rw [q_Listing__versions_between_0, u_sRet, fSliceO, f1]
  simp only [Option.bind_some]
  generalize L.map vsE = VV at *
  simp only [oSome, g1, g2, Option.bind_some, Option.map_some, vs, cu]
  rfl
theorem unch_ok (h : Lst o (vD cn o sh) s t a b c L) {m1 m2 : Mk} (h1 : m1.ok o) (h2 : m2.ok o) (ol : o.length ≤ 4) (hL : L.length ≤ 1000) (v : Int) : m_Listing_unchanged_between [.ref t, m1.d, m2.d, .int v] s = some (.int (((L.filter fun e => btw o m1 m2 e.1).filter fun e => decide (e.2 ≤ v)).length : Int), s) := by
  have vb := between_vs h h1 h2 ol hL
  have nf := h.noF (m := "_versions_between") rfl
  obtain ⟨M, hM⟩ : ∃ M, M = L.filter fun e => btw o m1 m2 e.1 := ⟨_, rfl⟩
  rw [← hM] at vb ⊢
  have Ml : M.length ≤ L.length := by rw [hM]; exact List.length_filter_le _ _
  have it : iOf asL (fMeth "Listing" "_versions_between" m_Listing__versions_between (fVar 0) (aCons (fVar 1) (aCons (fVar 2) aNil))) [some (.ref t), some m1.d, some m2.d, some (.int v), none] s = some (M.map vsE, s) := by
    have f : fMeth "Listing" "_versions_between" m_Listing__versions_between (fVar 0) (aCons (fVar 1) (aCons (fVar 2) aNil)) [some (.ref t), some m1.d, some m2.d, some (.int v), none] s = some (.lst (M.map vsE), s) := by
      rw [fMeth, show fVar 0 [some (D.ref t), some m1.d, some m2.d, some (.int v), none] s = some (.ref t, s) from rfl]
      simp only [Option.bind_some]
      rw [nf]
      generalize M.map vsE = VV at *
      simp [aCons, aNil, fVar, vb]
    rw [u_iOf, f]
    rfl
  have lc := loopC_fm (φ := vsE) (ψ := vsE) (p := fun e => decide (e.2 ≤ v)) (is := [4]) (bd := b1) (t := fTest (fOp opLe (fVar 4) (fVar 3))) (f := fVar 4) (env := wipeL [some (.ref t), some m1.d, some m2.d, some (.int v), none] [4]) (st := s) (l := M) fun x hx => ⟨[vsE x], rfl, by
    have e : setL [4] [vsE x] (wipeL [some (.ref t), some m1.d, some m2.d, some (.int v), none] [4]) = [some (.ref t), some m1.d, some m2.d, some (.int v), some (.int x.2)] := rfl
    rw [e]
    simp [fTest, fOp, fVar, opLe_int, asB], rfl⟩
  have zl : (M.filter fun e => decide (e.2 ≤ v)).length ≤ sizeLine := Nat.le_trans (List.length_filter_le _ _) (sl_of (by omega))
  have fc : fComp (iOf asL (fMeth "Listing" "_versions_between" m_Listing__versions_between (fVar 0) (aCons (fVar 1) (aCons (fVar 2) aNil)))) [4] b1 (fTest (fOp opLe (fVar 4) (fVar 3))) (fVar 4) [some (.ref t), some m1.d, some m2.d, some (.int v), none] s = some (.lst ((M.filter fun e => decide (e.2 ≤ v)).map vsE), s) := by
    rw [u_fComp, it]
    simp only [Option.bind_some]
    rw [lc]
    simp [zl]
  rw [m_Listing_unchanged_between, g_Listing_unchanged_between]
  show outM (q_Listing_unchanged_between_0 [some (.ref t), some m1.d, some m2.d, some (.int v), none] s) = _
  rw [q_Listing_unchanged_between_0, u_sRet, u_fMk, aCons, fc]
  simp [aNil, bLen, lenL, lenK, outM]
end LW
namespace LW
open PySem PySem.Spec PyProof.Rows L2 DL TL
variable {c : C} {o : List (Nat × Bool)} {sh : List Nat} {s st : Store} {n t a b d : Nat} {L : LsL} {w : Nat}
theorem same_ne {d : D} (h : ∃ p, toPy d = some p ∧ SeqAt.shaped p = true) : opNe d d = some (.bl false) := by rw [ne_py h h, nb_self h]
theorem cmp_st {b : Mk} : cmpM o .st b ≤ 0 := by cases b <;> simp [cmpM]
theorem cmp_en {b : Mk} : cmpM o b .en ≤ 0 := by cases b <;> simp [cmpM]
theorem cmpI_le {f g : Bool} : cmpI f g ≤ 0 ↔ ¬(f = true ∧ g = false) := by cases f <;> cases g <;> decide
theorem cmp_kk {p q : Kt} {f g : Bool} : cmpM o (.k p f) (.k q g) = if S o p q = 0 then cmpI f g else S o p q := rfl
theorem cmp_le {p q : Kt} {f g : Bool} : cmpM o (.k p f) (.k q g) ≤ 0 ↔ S o p q < 0 ∨ (S o p q = 0 ∧ ¬(f = true ∧ g = false)) := by
  rw [cmp_kk]
  by_cases z : S o p q = 0
  · rw [if_pos z, cmpI_le]
    constructor
    · exact fun h => .inr ⟨z, h⟩
    · rintro (h | h)
      · omega
      · exact h.2
  · rw [if_neg z]
    constructor
    · exact fun h => .inl (by omega)
    · rintro (h | h)
      · omega
      · exact absurd h.1 z
theorem cmp_flip {a x : Mk} (ha : a.ok o) (hx : x.ok o) (h : ¬ cmpM o x a < 0) : cmpM o a x ≤ 0 := by
  cases a with
  | st => exact cmp_st
  | en => cases x with
    | st => exact absurd (show (-1 : Int) < 0 by decide) h
    | en => exact cmp_en
    | k q g => exact absurd (show (-1 : Int) < 0 by decide) h
  | k p f => cases x with
    | st => exact absurd (show (-1 : Int) < 0 by decide) h
    | en => exact cmp_en
    | k q g =>
      have an := S_anti (o := o) ha hx
      rw [cmp_kk] at h
      refine cmp_le.mpr ?_
      by_cases z : S o q p = 0
      · rw [if_pos z] at h
        refine .inr ⟨by omega, ?_⟩
        rintro ⟨rfl, rfl⟩
        exact h (by decide)
      · rw [if_neg z] at h
        exact .inl (by omega)
theorem cmp_trans {a b e : Mk} (ha : a.ok o) (hb : b.ok o) (he : e.ok o) (h1 : cmpM o a b ≤ 0) (h2 : cmpM o b e ≤ 0) : cmpM o a e ≤ 0 := by
  cases a with
  | st => exact cmp_st
  | en => cases b with
    | st => exact absurd h1 (by show ¬ (1 : Int) ≤ 0; decide)
    | en => exact h2
    | k q g => exact absurd h1 (by show ¬ (1 : Int) ≤ 0; decide)
  | k p f => cases e with
    | en => exact cmp_en
    | st => cases b with
      | st => exact h1
      | en => exact absurd h2 (by show ¬ (1 : Int) ≤ 0; decide)
      | k q g => exact absurd h2 (by show ¬ (1 : Int) ≤ 0; decide)
    | k r i => cases b with
      | st => exact absurd h1 (by show ¬ (1 : Int) ≤ 0; decide)
      | en => exact absurd h2 (by show ¬ (1 : Int) ≤ 0; decide)
      | k q g =>
        rcases cmp_le.mp h1 with a1 | ⟨a1, b1⟩ <;> rcases cmp_le.mp h2 with a2 | ⟨a2, b2⟩
        · exact cmp_le.mpr (.inl ((S_trans (o := o) ha hb he (by omega) (by omega)).2 (.inl a1)))
        · exact cmp_le.mpr (.inl ((S_trans (o := o) ha hb he (by omega) (by omega)).2 (.inl a1)))
        · exact cmp_le.mpr (.inl ((S_trans (o := o) ha hb he (by omega) (by omega)).2 (.inr a2)))
        · have t := (S_trans (o := o) ha hb he (by omega) (by omega)).1
          by_cases z : S o p r = 0
          · refine cmp_le.mpr (.inr ⟨z, ?_⟩)
            rintro ⟨rfl, rfl⟩
            cases g with
            | true => exact b2 ⟨rfl, rfl⟩
            | false => exact b1 ⟨rfl, rfl⟩
          · exact cmp_le.mpr (.inl (by omega))
/-! the other methods of a listing -/
theorem cutR {α : Type} {xs : List α} {r m : Nat} (hr : r ≤ xs.length) : DL.cutD xs (some (r : Int)) (some ((r : Int) + (m : Int))) = (xs.drop r).take m := by
  unfold DL.cutD
  rw [show (r : Int) + (m : Int) = ((r + m : Nat) : Int) by omega, HT.sIx_nat, HT.sIx_nat, Nat.min_eq_left hr]
  rw [List.take_eq_take_iff, List.length_drop]
  omega
theorem callR {e : Lo} {j i : Nat} {mk : Mk} (h : Lst o (vD c o sh) s t a b d L) (hm : mk.ok o) (ol : o.length ≤ 4) (hL : L.length ≤ 1000) (he : e[j]? = some (some (.ref t))) {f : F} (hf : f e s = some (mk.d, s)) : fMeth "Listing" "rank_of" m_Listing_rank_of (fVar j) (aCons f aNil) e s = some (.int (rankM o L mk : Int), s) := by
  have nf := h.noF (m := "rank_of") rfl
  rw [fMeth, u_fVar, he]
  simp only [Option.map_some, Option.bind_some]
  rw [nf]
  simp only [if_true]
  rw [aCons, hf]
  simp only [Option.bind_some, aNil, Option.map_some]
  exact rankM_ok h hm ol hL
theorem after_ok (h : Lst o (vD c o sh) s t a b d L) {mk : Mk} (hm : mk.ok o) (ol : o.length ≤ 4) (hL : L.length ≤ 1000) (lim : Nat) : m_Listing_keys_after [.ref t, mk.d, .int (lim : Int)] s = some (.ref s.length, s ++ [.lst (((L.drop (rankM o L mk)).take lim).map ksE)]) := by
  obtain ⟨M, hM⟩ : ∃ M, M = mk.d := ⟨_, rfl⟩
  have rl : rankM o L mk ≤ L.length := List.length_filter_le _ _
  have ks := h.ks
  have c0 : q_Listing_keys_after_0 [some (.ref t), some M, some (.int (lim : Int)), none] s = some (.nx, [some (.ref t), some M, some (.int (lim : Int)), some (.int (rankM o L mk : Int))], s) := by
    have f := callR (e := [some (.ref t), some M, some (.int (lim : Int)), none]) (j := 0) (i := 1) h hm ol hL rfl (f := fVar 1) (by rw [hM]; rfl)
    rw [q_Listing_keys_after_0, u_sAsg, f]
    rfl
  have cu : DL.cutD (L.map ksE) (some (rankM o L mk : Int)) (some ((rankM o L mk : Int) + (lim : Int))) = ((L.drop (rankM o L mk)).take lim).map ksE := by
    rw [cutR (by rw [List.length_map]; exact rl), List.map_take, List.map_drop]
  rw [m_Listing_keys_after, g_Listing_keys_after, ← hM]
  show outM (sSeq q_Listing_keys_after_0 _ [some (.ref t), some M, some (.int (lim : Int)), none] s) = _
  rw [seq_nx c0, q_Listing_keys_after_1, u_sRet, fSliceOR, h.fk rfl]
  generalize L.map ksE = KK at *
  simp [oSome, fVar, fOp, opAdd_int, ks, cu, outM]
theorem before_ok (h : Lst o (vD c o sh) s t a b d L) {mk : Mk} (hm : mk.ok o) (ol : o.length ≤ 4) (hL : L.length ≤ 1000) (lim : Nat) : m_Listing_keys_before [.ref t, mk.d, .int (lim : Int)] s = some (.ref s.length, s ++ [.lst ((((L.take (rankM o L mk)).drop (rankM o L mk - lim)).reverse).map ksE)]) := by
  obtain ⟨M, hM⟩ : ∃ M, M = mk.d := ⟨_, rfl⟩
  obtain ⟨R, hR⟩ : ∃ R, R = rankM o L mk := ⟨_, rfl⟩
  have rl : R ≤ L.length := by rw [hR]; exact List.length_filter_le _ _
  have ks := h.ks
  have c0 : q_Listing_keys_before_0 [some (.ref t), some M, some (.int (lim : Int)), none] s = some (.nx, [some (.ref t), some M, some (.int (lim : Int)), some (.int (R : Int))], s) := by
    have f := callR (e := [some (.ref t), some M, some (.int (lim : Int)), none]) (j := 0) (i := 1) h hm ol hL rfl (f := fVar 1) (by rw [hM]; rfl)
    rw [← hR] at f
    rw [q_Listing_keys_before_0, u_sAsg, f]
    rfl
  have mx : fMk bMax (aCons (fC (.int 0)) (aCons (fOp subI (fVar 3) (fVar 2)) aNil)) [some (.ref t), some M, some (.int (lim : Int)), some (.int (R : Int))] s = some (.int ((R - lim : Nat) : Int), s) := by
    by_cases z : lim ≤ R
    · by_cases z2 : lim = R
      · subst z2
        simp [fMk, aCons, aNil, fC, fOp, fVar, subI_int, bMax]
      · have e1 : (0 : Int) < (R : Int) - (lim : Int) := by omega
        have e2 : ((R - lim : Nat) : Int) = (R : Int) - (lim : Int) := by omega
        simp [fMk, aCons, aNil, fC, fOp, fVar, subI_int, bMax, e2]
        intro _
        omega
    · have e1 : ¬ (0 : Int) < (R : Int) - (lim : Int) := by omega
      have e2 : R - lim = 0 := by omega
      simp [fMk, aCons, aNil, fC, fOp, fVar, subI_int, bMax, e2]
      omega
  have cu : DL.cutD (L.map ksE) (some ((R - lim : Nat) : Int)) (some (R : Int)) = ((L.take R).drop (R - lim)).map ksE := by
    rw [cutM (by rw [List.length_map]; omega) (by rw [List.length_map]; exact rl), List.map_drop, List.map_take]
  rw [m_Listing_keys_before, g_Listing_keys_before, ← hM, ← hR, List.map_reverse]
  show outM (sSeq q_Listing_keys_before_0 _ [some (.ref t), some M, some (.int (lim : Int)), none] s) = _
  have sl : fSliceO (fFld "Listing" "_keys" (fVar 0)) (oSome (fMk bMax (aCons (fC (.int 0)) (aCons (fOp subI (fVar 3) (fVar 2)) aNil)))) (oSome (fVar 3)) [some (.ref t), some M, some (.int (lim : Int)), some (.int (R : Int))] s = some (.lst (((L.take R).drop (R - lim)).map ksE), s) := by
    rw [fSliceO, h.fk rfl]
    generalize L.map ksE = KK at *
    simp only [Option.bind_some, oSome, mx, Option.map_some, u_fVar, List.getElem?_cons_succ, List.getElem?_cons_zero, ks, cu]
  rw [seq_nx c0, q_Listing_keys_before_1, u_sRet, fRevLR, sl]
  rfl
theorem len_ls (h : Lst o (vD c o sh) s t a b d L) : m_Listing___len__ [.ref t] s = some (.int (L.length : Int), s) := by
  have ks := h.ks
  have el : (L.map ksE).length = L.length := List.length_map _
  have f1 : fFld "Listing" "_keys" (fVar 0) [some (.ref t)] s = some (.ref b, s) := h.fk rfl
  rw [m_Listing___len__, g_Listing___len__]
  show outM (q_Listing___len___0 [some (.ref t)] s) = _
  rw [q_Listing___len___0, u_sRet, u_fMk, aCons, f1]
  generalize L.map ksE = PP at *
  simp [bLen, lenL, lenK, aNil, ks, el, outM]
theorem keyat_ok (h : Lst o (vD c o sh) s t a b d L) (ol : o.length ≤ 4) {j : Nat} {e : Kt × Int} (he : L[j]? = some e) : mx_Listing_key_at [.ref t, .int (j : Int)] s = some (.val (ksE e), s) := by
  have ks := h.ks
  have el : (L.map ksE).length = L.length := List.length_map _
  have jl := (List.getElem?_eq_some_iff.mp he).1
  have kok := h.ok.ok e (List.mem_of_getElem? he)
  have f1 : fFld "Listing" "_keys" (fVar 0) [some (.ref t), some (.int (j : Int))] s = some (.ref b, s) := h.fk rfl
  have fl : fMk bLen (aCons (fFld "Listing" "_keys" (fVar 0)) aNil) [some (.ref t), some (.int (j : Int))] s = some (.int (L.length : Int), s) := by
    rw [u_fMk, aCons, f1]
    generalize L.map ksE = PP at *
    simp [bLen, lenL, lenK, aNil, ks, el]
  have ix : fSub (fFld "Listing" "_keys" (fVar 0)) (fVar 1) [some (.ref t), some (.int (j : Int))] s = some (ksE e, s) := by
    have : L2.atI (L.map ksE) (j : Int) = some (ksE e) := atI_nat (by rw [List.getElem?_map, he]; rfl)
    rw [fSub, f1]
    generalize L.map ksE = PP at *
    simp [fVar, ixD, ks, this]
  have z : (e.1.1 ++ [D.int e.1.2]).length ≤ sizeLine := by
    rw [List.length_append, kok.l]
    exact sl_of (by simp; omega)
  have tt : fTest (fChain opLe opLt (fC (.int 0)) (fVar 1) (fMk bLen (aCons (fFld "Listing" "_keys" (fVar 0)) aNil))) [some (.ref t), some (.int (j : Int))] s = some (true, s) := by
    have e1 : (0 : Int) ≤ (j : Int) := by omega
    have e2 : (j : Int) < (L.length : Int) := by omega
    generalize fMk bLen (aCons (fFld "Listing" "_keys" (fVar 0)) aNil) = G at *
    simp [fTest, fChain, fC, fVar, opLe_int, opLt_int, fl, asB, e1, e2]
  rw [mx_Listing_key_at, gx_Listing_key_at]
  show outX (sSeq qx_Listing_key_at_0 _ [some (.ref t), some (.int (j : Int))] s) = _
  have c0 : qx_Listing_key_at_0 [some (.ref t), some (.int (j : Int))] s = some (.nx, [some (.ref t), some (.int (j : Int))], s) := by
    rw [qx_Listing_key_at_0, sIf, fNotT, tt]
    rfl
  have c1 : fMk bTuple (aCons (fMk bList (aCons (fSub (fFld "Listing" "_keys" (fVar 0)) (fVar 1)) aNil)) aNil) [some (.ref t), some (.int (j : Int))] s = some (ksE e, s) := by
    rw [u_fMk, aCons, u_fMk, aCons, ix]
    simp [aNil, ksE, KD, bList, listSeq, bTuple, z]
  rw [seq_nx c0, qx_Listing_key_at_1, u_sRet, c1]
  rfl
theorem keyat_bad (h : Lst o (vD c o sh) s t a b d L) {p : Int} (hp : ¬ (0 ≤ p ∧ p < (L.length : Int))) : mx_Listing_key_at [.ref t, .int p] s = some (.er "BadCount" "count" (.int p), s) := by
  have ks := h.ks
  have el : (L.map ksE).length = L.length := List.length_map _
  have f1 : fFld "Listing" "_keys" (fVar 0) [some (.ref t), some (.int p)] s = some (.ref b, s) := h.fk rfl
  have fl : fMk bLen (aCons (fFld "Listing" "_keys" (fVar 0)) aNil) [some (.ref t), some (.int p)] s = some (.int (L.length : Int), s) := by
    rw [u_fMk, aCons, f1]
    generalize L.map ksE = PP at *
    simp [bLen, lenL, lenK, aNil, ks, el]
  have tt : fTest (fChain opLe opLt (fC (.int 0)) (fVar 1) (fMk bLen (aCons (fFld "Listing" "_keys" (fVar 0)) aNil))) [some (.ref t), some (.int p)] s = some (false, s) := by
    generalize fMk bLen (aCons (fFld "Listing" "_keys" (fVar 0)) aNil) = G at *
    by_cases e1 : (0 : Int) ≤ p
    · have e2 : ¬ p < (L.length : Int) := fun z => hp ⟨e1, z⟩
      simp [fTest, fChain, fC, fVar, opLe_int, opLt_int, fl, asB, e1, e2]
    · simp [fTest, fChain, fC, fVar, opLe_int, opLt_int, fl, asB, e1]
  rw [mx_Listing_key_at, gx_Listing_key_at]
  show outX (sSeq qx_Listing_key_at_0 _ [some (.ref t), some (.int p)] s) = _
  have c0 : qx_Listing_key_at_0 [some (.ref t), some (.int p)] s = some (.er "BadCount" "count" (.int p), [some (.ref t), some (.int p)], s) := by
    rw [qx_Listing_key_at_0, sIf, fNotT, tt]
    rfl
  rw [u_sSeq, c0]
  rfl
theorem lat_ok (h : Lst o (vD c o sh) s t a b d L) (ol : o.length ≤ 4) {j : Nat} {e : Kt × Int} (he : L[j]? = some e) : m__law_at [.ref t, .int (j : Int)] s = some (.tup [.str (Str.ofString "key"), ksE e], s) := by
  have ka := keyat_ok h ol he
  have nf := h.noF (m := "key_at") rfl
  have f : fMethX "Listing" "key_at" mx_Listing_key_at (fVar 0) (aCons (fVar 1) aNil) [some (.ref t), some (.int (j : Int)), some .non, none] s = some (.val (ksE e), s) := by
    rw [fMethX, show fVar 0 [some (D.ref t), some (.int (j : Int)), some .non, none] s = some (.ref t, s) from rfl]
    simp only [Option.bind_some]
    rw [nf]
    simp [aCons, aNil, fVar, ka]
  rw [m__law_at, g__law_at]
  show outM (sSeq q__law_at_0 _ [some (.ref t), some (.int (j : Int)), none, none] s) = _
  have c0 : q__law_at_0 [some (.ref t), some (.int (j : Int)), none, none] s = some (.nx, [some (.ref t), some (.int (j : Int)), some .non, none], s) := rfl
  have c1 : q__law_at_1 [some (.ref t), some (.int (j : Int)), some .non, none] s = some (.nx, [some (.ref t), some (.int (j : Int)), some (.tup [.str (Str.ofString "key"), ksE e]), none], s) := by
    rw [q__law_at_1, sTry, q__law_at_1y_0, sAsgX, fPairX, f]
    rfl
  rw [seq_nx c0, seq_nx c1]
  rfl
theorem lat_bad (h : Lst o (vD c o sh) s t a b d L) {p : Int} (hp : ¬ (0 ≤ p ∧ p < (L.length : Int))) : m__law_at [.ref t, .int p] s = some (.tup [.str (Str.ofString "error"), .int p], s) := by
  have ka := keyat_bad h hp
  have nf := h.noF (m := "key_at") rfl
  have f : fMethX "Listing" "key_at" mx_Listing_key_at (fVar 0) (aCons (fVar 1) aNil) [some (.ref t), some (.int p), some .non, none] s = some (.er "BadCount" "count" (.int p), s) := by
    rw [fMethX, show fVar 0 [some (D.ref t), some (.int p), some .non, none] s = some (.ref t, s) from rfl]
    simp only [Option.bind_some]
    rw [nf]
    simp [aCons, aNil, fVar, ka]
  rw [m__law_at, g__law_at]
  show outM (sSeq q__law_at_0 _ [some (.ref t), some (.int p), none, none] s) = _
  have c0 : q__law_at_0 [some (.ref t), some (.int p), none, none] s = some (.nx, [some (.ref t), some (.int p), some .non, none], s) := rfl
  have c1 : q__law_at_1 [some (.ref t), some (.int p), some .non, none] s = some (.nx, [some (.ref t), some (.int p), some (.tup [.str (Str.ofString "error"), .int p]), none], s) := by
    rw [q__law_at_1, sTry, q__law_at_1y_0, sAsgX, fPairX, f]
    rfl
  rw [seq_nx c0, seq_nx c1]
  rfl
theorem cbtw_ok (h : Lst o (vD c o sh) s t a b d L) {m1 m2 : Mk} (h1 : m1.ok o) (h2 : m2.ok o) (ol : o.length ≤ 4) (hL : L.length ≤ 1000) : m_Listing_count_between [.ref t, m1.d, m2.d] s = some (.int ((L.filter fun e => btw o m1 m2 e.1).length : Int), s) := by
  have vb := between_vs h h1 h2 ol hL
  have nf := h.noF (m := "_versions_between") rfl
  obtain ⟨M, hM⟩ : ∃ M, M = L.filter fun e => btw o m1 m2 e.1 := ⟨_, rfl⟩
  rw [← hM] at vb ⊢
  have el : (M.map vsE).length = M.length := List.length_map _
  have f : fMeth "Listing" "_versions_between" m_Listing__versions_between (fVar 0) (aCons (fVar 1) (aCons (fVar 2) aNil)) [some (.ref t), some m1.d, some m2.d] s = some (.lst (M.map vsE), s) := by
    rw [fMeth, show fVar 0 [some (D.ref t), some m1.d, some m2.d] s = some (.ref t, s) from rfl]
    simp only [Option.bind_some]
    rw [nf]
    generalize M.map vsE = VV at *
    simp [aCons, aNil, fVar, vb]
  rw [m_Listing_count_between, g_Listing_count_between]
  show outM (q_Listing_count_between_0 [some (.ref t), some m1.d, some m2.d] s) = _
  rw [q_Listing_count_between_0, u_sRet, u_fMk, aCons, f]
  generalize M.map vsE = VV at *
  simp [aNil, bLen, lenL, lenK, el, outM]
theorem drop_no (h : Lst o (vD c o sh) s t a b d L) {q : Kt} (hq : KOk o q.1 q.2) (ol : o.length ≤ 4) (hL : L.length ≤ 1000) (z : hasK o L q = false) : m_Listing_drop_key [.ref t, KD q.1 q.2] s = some (.bl false, s) := by
  obtain ⟨V, hV⟩ : ∃ V, V = vD c o sh := ⟨_, rfl⟩
  obtain ⟨Kq, hKq⟩ : ∃ K, K = KD q.1 q.2 := ⟨_, rfl⟩
  obtain ⟨Q, hQ⟩ : ∃ Q, Q = kpD q.1 o q.2 := ⟨_, rfl⟩
  have kp := key_lst (cn := c) (sh := sh) hq ol s
  have ho := holds_ok h hq ol hL
  have ff := first_ok h.ok hq ol h.pl hL
  rw [← hV, ← hKq, ← hQ] at kp
  rw [← hQ] at ho ff
  rw [← hV] at h
  rw [← hKq]
  have nf := h.noF (m := "_holds") rfl
  have c0 : q_Listing_drop_key_0 [some (.ref t), some Kq, none, none] s = some (.nx, [some (.ref t), some Kq, some Q, none], s) := by
    have f : fCall m_key_place (aCons (fFld "Listing" "_view" (fVar 0)) (aCons (fVar 1) aNil)) [some (.ref t), some Kq, none, none] s = some (Q, s) := by
      rw [fCall, aCons, h.fv rfl]
      simp only [Option.bind_some]
      simp [aCons, aNil, fVar, kp]
    rw [q_Listing_drop_key_0, u_sAsg, f]
    rfl
  have c1 : q_Listing_drop_key_1 [some (.ref t), some Kq, some Q, none] s = some (.nx, [some (.ref t), some Kq, some Q, some (.int (rk o L q : Int))], s) := by
    have f : fCall m_first_from (aCons (fFld "Listing" "_places" (fVar 0)) (aCons (fVar 2) aNil)) [some (.ref t), some Kq, some Q, none] s = some (.int (rk o L q : Int), s) := by
      rw [fCall, aCons, h.fp rfl]
      simp only [Option.bind_some]
      simp [aCons, aNil, fVar, ff]
    rw [q_Listing_drop_key_1, u_sAsg, f]
    rfl
  have tt : fTest (fMeth "Listing" "_holds" m_Listing__holds (fVar 0) (aCons (fVar 3) (aCons (fVar 2) aNil))) [some (.ref t), some Kq, some Q, some (.int (rk o L q : Int))] s = some (hasK o L q, s) := by
    rw [fTest, fMeth, show fVar 0 [some (D.ref t), some Kq, some Q, some (.int (rk o L q : Int))] s = some (.ref t, s) from rfl]
    simp only [Option.bind_some]
    rw [nf]
    simp [aCons, aNil, fVar, ho, asB]
  have c2 : q_Listing_drop_key_2 [some (.ref t), some Kq, some Q, some (.int (rk o L q : Int))] s = some (.rt (.bl false), [some (.ref t), some Kq, some Q, some (.int (rk o L q : Int))], s) := by
    rw [q_Listing_drop_key_2, sIf, fNotT, tt, z]
    rfl
  rw [m_Listing_drop_key, g_Listing_drop_key]
  show outM (sSeq q_Listing_drop_key_0 _ [some (.ref t), some Kq, none, none] s) = _
  rw [seq_nx c0, seq_nx c1, u_sSeq, c2]
  rfl
theorem drop_yes (h : Lst o (vD c o sh) s t a b d L) {q : Kt} (hq : KOk o q.1 q.2) (ol : o.length ≤ 4) (hL : L.length ≤ 1000) (z : hasK o L q = true) :
    ∃ s', m_Listing_drop_key [.ref t, KD q.1 q.2] s = some (.bl true, s') ∧ Lst o (vD c o sh) s' t a b d (dropL o L q) ∧ Ch3 a b d s s' := by
  obtain ⟨V, hV⟩ : ∃ V, V = vD c o sh := ⟨_, rfl⟩
  obtain ⟨Kq, hKq⟩ : ∃ K, K = KD q.1 q.2 := ⟨_, rfl⟩
  obtain ⟨Q, hQ⟩ : ∃ Q, Q = kpD q.1 o q.2 := ⟨_, rfl⟩
  have kp := key_lst (cn := c) (sh := sh) hq ol s
  have ho := holds_ok h hq ol hL
  have ff := first_ok h.ok hq ol h.pl hL
  have ok' := h.ok.drop hq
  rw [← hV, ← hKq, ← hQ] at kp
  rw [← hQ] at ho ff
  rw [← hV] at h ⊢
  rw [← hKq]
  have nf := h.noF (m := "_holds") rfl
  obtain ⟨R, hR⟩ : ∃ R, R = rk o L q := ⟨_, rfl⟩
  rw [← hR] at ho ff
  have c0 : q_Listing_drop_key_0 [some (.ref t), some Kq, none, none] s = some (.nx, [some (.ref t), some Kq, some Q, none], s) := by
    have f : fCall m_key_place (aCons (fFld "Listing" "_view" (fVar 0)) (aCons (fVar 1) aNil)) [some (.ref t), some Kq, none, none] s = some (Q, s) := by
      rw [fCall, aCons, h.fv rfl]
      simp only [Option.bind_some]
      simp [aCons, aNil, fVar, kp]
    rw [q_Listing_drop_key_0, u_sAsg, f]
    rfl
  have c1 : q_Listing_drop_key_1 [some (.ref t), some Kq, some Q, none] s = some (.nx, [some (.ref t), some Kq, some Q, some (.int (R : Int))], s) := by
    have f : fCall m_first_from (aCons (fFld "Listing" "_places" (fVar 0)) (aCons (fVar 2) aNil)) [some (.ref t), some Kq, some Q, none] s = some (.int (R : Int), s) := by
      rw [fCall, aCons, h.fp rfl]
      simp only [Option.bind_some]
      simp [aCons, aNil, fVar, ff]
    rw [q_Listing_drop_key_1, u_sAsg, f]
    rfl
  have tt : fTest (fMeth "Listing" "_holds" m_Listing__holds (fVar 0) (aCons (fVar 3) (aCons (fVar 2) aNil))) [some (.ref t), some Kq, some Q, some (.int (R : Int))] s = some (true, s) := by
    rw [fTest, fMeth, show fVar 0 [some (D.ref t), some Kq, some Q, some (.int (R : Int))] s = some (.ref t, s) from rfl]
    simp only [Option.bind_some]
    rw [nf]
    simp [aCons, aNil, fVar, ho, asB, z]
  have c2 : q_Listing_drop_key_2 [some (.ref t), some Kq, some Q, some (.int (R : Int))] s = some (.nx, [some (.ref t), some Kq, some Q, some (.int (R : Int))], s) := by
    rw [q_Listing_drop_key_2, sIf, fNotT, tt]
    rfl
  obtain ⟨w, hs, hl⟩ := has_split h.ok hq z
  obtain ⟨A, hA⟩ : ∃ A, A = L.filter (ltK o q) := ⟨_, rfl⟩
  obtain ⟨B, hB⟩ : ∃ B, B = L.filter (gtK o q) := ⟨_, rfl⟩
  have du : dropL o L q = A ++ B := by rw [dropL, hA, hB]
  rw [← hA, ← hB] at hs
  rw [← hA, ← hR] at hl
  have er : ∀ f : Kt × Int → D, (L.map f).eraseIdx R = (dropL o L q).map f := fun f => by
    have ev : L.map f = A.map f ++ f (q, w) :: B.map f := by
      conv => lhs; rw [hs]
      simp
    rw [du, ev, ← hl, List.map_append]
    have e0 : A.length = (A.map f).length := (List.length_map _).symm
    rw [e0, List.eraseIdx_append_of_length_le (Nat.le_refl _)]
    simp
  have lt : R < L.length := by
    have := congrArg List.length hs
    rw [List.length_append, List.length_cons] at this
    omega
  have i1 := er (plE o)
  have i2 := er ksE
  have i3 := er vsE
  obtain ⟨P1, hP1⟩ : ∃ P, P = (dropL o L q).map (plE o) := ⟨_, rfl⟩
  obtain ⟨P2, hP2⟩ : ∃ P, P = (dropL o L q).map ksE := ⟨_, rfl⟩
  obtain ⟨P3, hP3⟩ : ∃ P, P = (dropL o L q).map vsE := ⟨_, rfl⟩
  rw [← hP1] at i1
  rw [← hP2] at i2
  rw [← hP3] at i3
  have pl := h.pl
  have ks := h.ks
  have vs := h.vs
  have in1 : insAt "Listing" t (s.set a (.lst P1)) = some (lsF V a b d) := insAt_set h.ins ⟨_, pl⟩
  have ks1 : (s.set a (.lst P1))[b]? = some (.lst (L.map ksE)) := by rw [List.getElem?_set_ne h.ab]; exact ks
  have in2 : insAt "Listing" t ((s.set a (.lst P1)).set b (.lst P2)) = some (lsF V a b d) := insAt_set in1 ⟨_, ks1⟩
  have vs2 : ((s.set a (.lst P1)).set b (.lst P2))[d]? = some (.lst (L.map vsE)) := by rw [List.getElem?_set_ne h.bc, List.getElem?_set_ne h.ac]; exact vs
  have in3 : insAt "Listing" t (((s.set a (.lst P1)).set b (.lst P2)).set d (.lst P3)) = some (lsF V a b d) := insAt_set in2 ⟨_, vs2⟩
  have r6 : (0 : Int) ≤ (R : Int) ∧ (R : Int) < 1000000 := by omega
  have dl : ∀ {u : Store} {g : Nat} {f : F} {xs ys : List D}, f [some (.ref t), some Kq, some Q, some (.int (R : Int))] u = some (.ref g, u) → u[g]? = some (.lst xs) → xs.eraseIdx R = ys → R < xs.length → sDelI f (fVar 3) [some (.ref t), some Kq, some Q, some (.int (R : Int))] u = some (.nx, [some (.ref t), some Kq, some Q, some (.int (R : Int))], u.set g (.lst ys)) := fun {u g f xs ys} hf hu he hl => by
    rw [sDelI, hf]
    simp only [Option.bind_some, u_fVar, List.getElem?_cons_succ, List.getElem?_cons_zero, Option.map_some, hu]
    rw [if_pos ⟨r6.1, r6.2, by rw [Int.toNat_natCast]; exact hl⟩, Int.toNat_natCast, he]
  have f1 : fFld "Listing" "_places" (fVar 0) [some (.ref t), some Kq, some Q, some (.int (R : Int))] s = some (.ref a, s) := h.fp rfl
  have f2 : fFld "Listing" "_keys" (fVar 0) [some (.ref t), some Kq, some Q, some (.int (R : Int))] (s.set a (.lst P1)) = some (.ref b, s.set a (.lst P1)) := by
    simp [fFld, fVar, in1, lk_lk]
  have f3 : fFld "Listing" "_versions" (fVar 0) [some (.ref t), some Kq, some Q, some (.int (R : Int))] ((s.set a (.lst P1)).set b (.lst P2)) = some (.ref d, (s.set a (.lst P1)).set b (.lst P2)) := by
    simp [fFld, fVar, in2, lk_ls]
  have c3 := dl f1 pl i1 (by rw [List.length_map]; exact lt)
  have c4 := dl f2 ks1 i2 (by rw [List.length_map]; exact lt)
  have c5 := dl f3 vs2 i3 (by rw [List.length_map]; exact lt)
  refine ⟨((s.set a (.lst P1)).set b (.lst P2)).set d (.lst P3), ?_, ⟨in3, ?_, ?_, ?_, ok', h.ab, h.ac, h.bc⟩, ⟨by simp, fun p pa pb pc => by rw [List.getElem?_set_ne (Ne.symm pc), List.getElem?_set_ne (Ne.symm pb), List.getElem?_set_ne (Ne.symm pa)]⟩⟩
  · rw [m_Listing_drop_key, g_Listing_drop_key]
    show outM (sSeq q_Listing_drop_key_0 _ [some (.ref t), some Kq, none, none] s) = _
    rw [seq_nx c0, seq_nx c1, seq_nx c2, seq_nx (show q_Listing_drop_key_3 _ _ = _ from c3), seq_nx (show q_Listing_drop_key_4 _ _ = _ from c4), seq_nx (show q_Listing_drop_key_5 _ _ = _ from c5)]
    rfl
  · rw [List.getElem?_set_ne (Ne.symm h.ac), List.getElem?_set_ne (Ne.symm h.ab), List.getElem?_set_self (lt_old pl), hP1]
  · rw [List.getElem?_set_ne (Ne.symm h.bc), List.getElem?_set_self (by simpa using lt_old ks), hP2]
  · rw [List.getElem?_set_self (lt_old vs2), hP3]
end LW
namespace LW
open PySem PySem.Spec PyProof.Rows L2 DL TL
variable {c : C} {o : List (Nat × Bool)} {sh : List Nat} {s st : Store} {n t a b d : Nat} {L : LsL} {w : Nat} {V : D}
/-- the tape and a listing -/
structure Lw (o : List (Nat × Bool)) (V : D) (s : Store) (n t a b d : Nat) (L : LsL) : Prop where
  tp : Tp s n
  ls : Lst o V s t a b d L
  nt : n ≠ t
  na : n ≠ a
  nb : n ≠ b
  nd : n ≠ d
theorem Lst.same (h : Lst o V s t a b d L) {s' : Store} (et : s'[t]? = s[t]?) (ea : s'[a]? = s[a]?) (eb : s'[b]? = s[b]?) (ed : s'[d]? = s[d]?) : Lst o V s' t a b d L := by
  refine ⟨?_, by rw [ea]; exact h.pl, by rw [eb]; exact h.ks, by rw [ed]; exact h.vs, h.ok, h.ab, h.ac, h.bc⟩
  have := insAt_some h.ins
  unfold insAt
  rw [et, this]
  simp
theorem Lw.fr (h : Lw o V s n t a b d L) {s' : Store} (tp : Tp s' n) (f : Fr n s s') : Lw o V s' n t a b d L := by
  have it := lt_old (insAt_some h.ls.ins)
  exact ⟨tp, h.ls.same (f.at_ _ (Ne.symm h.nt) it) (f.at_ _ (Ne.symm h.na) (lt_old h.ls.pl)) (f.at_ _ (Ne.symm h.nb) (lt_old h.ls.ks)) (f.at_ _ (Ne.symm h.nd) (lt_old h.ls.vs)), h.nt, h.na, h.nb, h.nd⟩
theorem Lw.app (h : Lw o V s n t a b d L) (x : Store) : Lw o V (s ++ x) n t a b d L := by
  have g : ∀ q, q < s.length → (s ++ x)[q]? = s[q]? := fun q hq => List.getElem?_append_left hq
  exact ⟨Tp.of h.tp (g _ h.tp.lt), h.ls.same (g _ (lt_old (insAt_some h.ls.ins))) (g _ (lt_old h.ls.pl)) (g _ (lt_old h.ls.ks)) (g _ (lt_old h.ls.vs)), h.nt, h.na, h.nb, h.nd⟩
theorem Lw.ch {L' : LsL} (h : Lw o V s n t a b d L) {s' : Store} (ls : Lst o V s' t a b d L') (ch : Ch3 a b d s s') : Lw o V s' n t a b d L' := ⟨Tp.of h.tp (ch.at_ n h.na h.nb h.nd), ls, h.nt, h.na, h.nb, h.nd⟩
/-! keys drawn -/
def kdE (q : Kt) : D := KD q.1 q.2
def KeyD (o : List (Nat × Bool)) (v : D) : Prop := ∃ q : Kt, v = kdE q ∧ KOk o q.1 q.2 ∧ q.2 ≤ 9
theorem keys_of : ∀ {vs : List D}, (∀ v ∈ vs, KeyD o v) → ∃ qs : List Kt, vs = qs.map kdE ∧ ∀ q ∈ qs, KOk o q.1 q.2 ∧ q.2 ≤ 9
  | [], _ => ⟨[], rfl, fun _ h => (by cases h)⟩
  | v :: vs, h => by
    obtain ⟨q, rfl, h1⟩ := h v List.mem_cons_self
    obtain ⟨qs, rfl, h2⟩ := keys_of fun x hx => h x (List.mem_cons_of_mem _ hx)
    exact ⟨q :: qs, rfl, fun x hx => by
      rcases List.mem_cons.mp hx with rfl | m
      · exact h1
      · exact h2 x m⟩
theorem keys_ok {wi N : Int} (tp : Tp s n) (vo : VOk w c o sh) (hwi : wi = (w : Int)) (w10 : w ≤ 10) (h0 : 0 ≤ N) (h1 : N ≤ 100) :
    ∃ (qs : List Kt) (s' : Store), m__law_keys [.ref n, vD c o sh, .int wi, .int N] s = some (.lst (qs.map kdE), s') ∧ (qs.length : Int) = N ∧ (∀ q ∈ qs, KOk o q.1 q.2 ∧ q.2 ≤ 9) ∧ Tp s' n ∧ Fr n s s' ∧ s'.length = s.length := by
  obtain ⟨V, hV⟩ : ∃ V, V = vD c o sh := ⟨_, rfl⟩
  have a1 := asR1_ok (n := N) h0 (by omega)
  obtain ⟨vs, s', g, hl, hp, t', f', l'⟩ := loopC_draw2 (is := [4]) (bd := b1) (n := n) (P := KeyD o) (f := fCall m__law_key (aCons (fVar 1) (aCons (fOp opAdd (fC (.int 1)) (fCall m__law_pick (aCons (fVar 0) (aCons (fC (.int 9)) aNil)))) (aCons (fCall m__law_values (aCons (fVar 0) (aCons (fVar 2) aNil))) aNil)))) (env := wipeL [some (.ref n), some V, some (.int wi), some (.int N), none] [4]) (ds := rg 0 N) (fun x hx => by
    obtain ⟨i, rfl, _, _⟩ := rg_mem hx
    refine ⟨[.int i], rfl, fun u tu => ?_⟩
    obtain ⟨r, u1, g1, r0, r1, t1, f1, l1⟩ := pick_ok tu (s := 9) (by decide) (by decide)
    obtain ⟨us, u2, g2, vl, pv, t2, f2, l2⟩ := values_ok t1 (w := wi) (by omega) (by omega)
    have e : setL [4] [D.int i] (wipeL [some (.ref n), some V, some (.int wi), some (.int N), none] [4]) = [some (.ref n), some V, some (.int wi), some (.int N), some (.int i)] := rfl
    have wn : w = us.length := by omega
    have kk := lkey_ok (c := c) (sh := sh) (i := 1 + r) u2 (vs := us) (by rw [← wn]; exact vo.oc) vo.ol
    refine ⟨kD o us (1 + r), u2, ?_, ⟨(o.map fun p => atV us p.1, 1 + r), rfl, KOk_of (by rw [← wn]; exact vo.oc) pv (by omega), by show 1 + r ≤ 9; omega⟩, t2, f1.trans f2, by omega⟩
    rw [e]
    have fp : fOp opAdd (fC (.int 1)) (fCall m__law_pick (aCons (fVar 0) (aCons (fC (.int 9)) aNil))) [some (.ref n), some V, some (.int wi), some (.int N), some (.int i)] u = some (.int (1 + r), u1) := by
      have f : fCall m__law_pick (aCons (fVar 0) (aCons (fC (.int 9)) aNil)) [some (.ref n), some V, some (.int wi), some (.int N), some (.int i)] u = some (.int r, u1) := g1
      rw [fOp]
      simp only [u_fC, Option.bind_some, f, opAdd_int, Option.map_some]
    have fv : fCall m__law_values (aCons (fVar 0) (aCons (fVar 2) aNil)) [some (.ref n), some V, some (.int wi), some (.int N), some (.int i)] u1 = some (.tup us, u2) := g2
    rw [fCall, aCons, show fVar 1 [some (.ref n), some V, some (.int wi), some (.int N), some (.int i)] u = some (V, u) from rfl]
    simp only [Option.bind_some]
    rw [aCons, fp]
    simp only [Option.bind_some]
    rw [aCons, fv]
    simp only [Option.bind_some, aNil, Option.map_some]
    rw [hV]
    exact kk) tp
  obtain ⟨qs, rfl, hq⟩ := keys_of hp
  have hl' : qs.length = (rg 0 N).length := by simpa using hl
  rw [rg_len] at hl'
  refine ⟨qs, s', ?_, by omega, hq, t', f', l'⟩
  have zl : qs.length ≤ sizeLine := sl_of (by omega)
  rw [← hV, m__law_keys, g__law_keys]
  show outM (q__law_keys_0 [some (.ref n), some V, some (.int wi), some (.int N), none] s) = _
  have it : iOfA asR1 (aCons (fVar 3) aNil) [some (.ref n), some V, some (.int wi), some (.int N), none] s = some (rg 0 N, s) := by
    rw [u_iOfA, show aCons (fVar 3) aNil [some (.ref n), some V, some (.int wi), some (.int N), none] s = some ([.int N], s) from rfl]
    simp only [Option.bind_some, a1, Option.map_some]
  rw [q__law_keys_0, u_sRet, u_fComp, it]
  simp only [Option.bind_some]
  rw [g]
  simp [zl, outM]
/-! marks in their order -/
structure Mks (o : List (Nat × Bool)) (ms : List Mk) : Prop where
  ok : ∀ m ∈ ms, m.ok o
  pw : ms.Pairwise fun x y => cmpM o x y ≤ 0
def insM (o : List (Nat × Bool)) (ms : List Mk) (m : Mk) : List Mk := ms.filter (fun x => decide (cmpM o x m < 0)) ++ m :: ms.filter fun x => !decide (cmpM o x m < 0)
theorem Mks.ins {ms : List Mk} (h : Mks o ms) {m : Mk} (hm : m.ok o) : Mks o (insM o ms m) := by
  refine ⟨fun x hx => ?_, ?_⟩
  · rcases List.mem_append.mp hx with z | z
    · exact h.ok x (List.mem_filter.mp z).1
    · rcases List.mem_cons.mp z with rfl | z
      · exact hm
      · exact h.ok x (List.mem_filter.mp z).1
  · refine List.pairwise_append.mpr ⟨h.pw.sublist List.filter_sublist, List.pairwise_cons.mpr ⟨fun y hy => ?_, h.pw.sublist List.filter_sublist⟩, fun x hx y hy => ?_⟩
    · obtain ⟨my, z⟩ := List.mem_filter.mp hy
      have z' : ¬ cmpM o y m < 0 := by simpa using z
      exact cmp_flip hm (h.ok y my) z'
    · obtain ⟨mx, z⟩ := List.mem_filter.mp hx
      have z' : cmpM o x m < 0 := by simpa using z
      rcases List.mem_cons.mp hy with rfl | hy
      · omega
      · obtain ⟨my, z2⟩ := List.mem_filter.mp hy
        have z2' : ¬ cmpM o y m < 0 := by simpa using z2
        exact cmp_trans (h.ok x mx) hm (h.ok y my) (by omega) (cmp_flip hm (h.ok y my) z2')
theorem loopCG_flt {α : Type} {P : Store → Prop} {is : List Nat} {bd : FB} {t : FT} {f : F} {φ : α → D} {p : α → Bool} {env : Lo} {st : Store} (hP : P st) : ∀ {l : List α}, (∀ x ∈ l, ∃ vs, bd (φ x) = some vs ∧ t (setL is vs env) st = some (p x, st) ∧ f (setL is vs env) st = some (φ x, st)) → loopCG P is bd t f (l.map φ) env st = some ((l.filter p).map φ, st)
  | [], _ => by rw [List.map_nil, loopCG, if_pos (by simpa [okP] using hP)]; rfl
  | x :: l, h => by
    obtain ⟨vs, h1, h2, h3⟩ := h x List.mem_cons_self
    have ih := loopCG_flt (φ := φ) (p := p) hP (l := l) fun y hy => h y (List.mem_cons_of_mem _ hy)
    rw [List.map_cons, loopCG, if_pos (by simpa [okP] using hP), h1, Option.bind_some, h2, Option.bind_some]
    cases q : p x with
    | true => simp only [if_true, h3, Option.bind_some, ih, Option.map_some, List.filter_cons, q, List.map_cons]
    | false => simp only [Bool.false_eq_true, if_false, ih, List.filter_cons, q]
end LW
namespace LW
open PySem PySem.Spec PyProof.Rows L2 DL TL
variable {c : C} {o : List (Nat × Bool)} {sh : List Nat} {s st : Store} {n t a b d : Nat} {L : LsL} {w : Nat} {V : D}
/-! keys as values -/
theorem pv_eqv {a b : D} {p q : PyData} (ha : pvB a = true) (hb : pvB b = true) (h1 : toPy a = some p) (h2 : toPy b = some q) : PyData.eqv p q = true ↔ a = b := by
  cases a <;> cases b <;> first
    | (cases ha; done)
    | (cases hb; done)
    | (cases h1; cases h2; simp [PyData.eqv])
theorem pvs_eqv : ∀ {as bs : List D} {ps qs : List PyData}, (∀ v ∈ as, pvB v = true) → (∀ v ∈ bs, pvB v = true) → toPyL as = some ps → toPyL bs = some qs → (PyData.eqvAll ps qs = true ↔ as = bs)
  | [], [], _, _, _, _, h1, h2 => by cases h1; cases h2; simp [PyData.eqvAll]
  | [], b :: bs, _, _, _, _, h1, h2 => by
    cases h1
    obtain ⟨q, g1, g2⟩ := Option.bind_eq_some_iff.mp (show ((toPy b).bind fun p => (toPyL bs).map fun q => p :: q) = some _ from h2)
    obtain ⟨qs, g3, g4⟩ := Option.map_eq_some_iff.mp g2
    subst g4
    simp [PyData.eqvAll]
  | a :: as, [], _, _, _, _, h1, h2 => by
    cases h2
    obtain ⟨q, g1, g2⟩ := Option.bind_eq_some_iff.mp (show ((toPy a).bind fun p => (toPyL as).map fun q => p :: q) = some _ from h1)
    obtain ⟨qs, g3, g4⟩ := Option.map_eq_some_iff.mp g2
    subst g4
    simp [PyData.eqvAll]
  | a :: as, b :: bs, _, _, ha, hb, h1, h2 => by
    obtain ⟨p, g1, g2⟩ := Option.bind_eq_some_iff.mp (show ((toPy a).bind fun p => (toPyL as).map fun q => p :: q) = some _ from h1)
    obtain ⟨ps, g3, g4⟩ := Option.map_eq_some_iff.mp g2
    subst g4
    obtain ⟨q, f1, f2⟩ := Option.bind_eq_some_iff.mp (show ((toPy b).bind fun p => (toPyL bs).map fun q => p :: q) = some _ from h2)
    obtain ⟨qs, f3, f4⟩ := Option.map_eq_some_iff.mp f2
    subst f4
    have e1 := pv_eqv (ha a List.mem_cons_self) (hb b List.mem_cons_self) g1 f1
    have e2 := pvs_eqv (fun v hv => ha v (List.mem_cons_of_mem _ hv)) (fun v hv => hb v (List.mem_cons_of_mem _ hv)) g3 f3
    simp [PyData.eqvAll, e1, e2]
theorem kd_pv {p : Kt} (hp : KOk o p.1 p.2) : ∀ v ∈ p.1 ++ [D.int p.2], pvB v = true := fun v hv => by
  rcases List.mem_append.mp hv with h | h
  · exact hp.v v h
  · rw [List.mem_singleton.mp h]
    have := hp.i0
    have := hp.i1
    exact decide_eq_true (by omega)
theorem kd_py {p : Kt} (hp : KOk o p.1 p.2) (ol : o.length ≤ 4) : ∃ x, toPy (kdE p) = some x ∧ SeqAt.shaped x = true := (KD_sm hp ol).shaped (by decide)
theorem S_iff {p q : Kt} (hp : KOk o p.1 p.2) (hq : KOk o q.1 q.2) : S o p q = 0 ↔ p = q := ⟨fun h => S_eq hp hq h, fun h => by subst h; exact S_self hp⟩
theorem kd_eqv {p q : Kt} (hp : KOk o p.1 p.2) (hq : KOk o q.1 q.2) {x y : PyData} (h1 : toPy (kdE p) = some x) (h2 : toPy (kdE q) = some y) : PyData.eqv x y = decide (S o p q = 0) := by
  obtain ⟨xs, g1, rfl⟩ := Option.map_eq_some_iff.mp (show (toPyL (p.1 ++ [D.int p.2])).map PyData.tuple = some x from h1)
  obtain ⟨ys, g2, rfl⟩ := Option.map_eq_some_iff.mp (show (toPyL (q.1 ++ [D.int q.2])).map PyData.tuple = some y from h2)
  have e := pvs_eqv (kd_pv hp) (kd_pv hq) g1 g2
  have e2 : p.1 ++ [D.int p.2] = q.1 ++ [D.int q.2] ↔ p = q := by
    constructor
    · intro z
      obtain ⟨z1, z2⟩ := List.append_inj z (by rw [hp.l, hq.l])
      have z3 := D.int.inj (List.cons.inj z2).1
      exact Prod.ext z1 z3
    · rintro rfl; rfl
  rw [e2, ← S_iff hp hq] at e
  rw [show PyData.eqv (PyData.tuple xs) (PyData.tuple ys) = PyData.eqvAll xs ys by simp [PyData.eqv]]
  by_cases z : S o p q = 0
  · rw [decide_eq_true z, e.mpr z]
  · rw [decide_eq_false z]
    cases k : PyData.eqvAll xs ys with
    | false => rfl
    | true => exact absurd (e.mp k) z
theorem kd_ne {p q : Kt} (hp : KOk o p.1 p.2) (hq : KOk o q.1 q.2) (ol : o.length ≤ 4) : opNe (kdE p) (kdE q) = some (.bl (!decide (S o p q = 0))) := by
  obtain ⟨x, h1, h2⟩ := kd_py hp ol
  obtain ⟨y, h3, h4⟩ := kd_py hq ol
  unfold opNe
  rw [h1, h3]
  simp only [Option.bind_some]
  rw [if_pos ⟨h2, h4⟩, kd_eqv hp hq h1 h3]
theorem kd_any {q : Kt} (hq : KOk o q.1 q.2) {y : PyData} (h2 : toPy (kdE q) = some y) : ∀ {ps : List Kt} {qs : List PyData}, (∀ p ∈ ps, KOk o p.1 p.2) → toPyL (ps.map kdE) = some qs → (qs.any fun z => PyData.eqv z y) = ps.any fun p => decide (S o p q = 0)
  | [], _, _, h => by cases h; rfl
  | p :: ps, _, hp, h => by
    obtain ⟨x, g1, g2⟩ := Option.bind_eq_some_iff.mp (show ((toPy (kdE p)).bind fun p => (toPyL (ps.map kdE)).map fun q => p :: q) = some _ from h)
    obtain ⟨xs, g3, g4⟩ := Option.map_eq_some_iff.mp g2
    subst g4
    rw [List.any_cons, List.any_cons, kd_eqv (hp p List.mem_cons_self) hq g1 h2, kd_any hq h2 (fun x hx => hp x (List.mem_cons_of_mem _ hx)) g3]
theorem kd_in {q : Kt} (hq : KOk o q.1 q.2) (ol : o.length ≤ 4) {ps : List Kt} (hp : ∀ p ∈ ps, KOk o p.1 p.2) (hl : ps.length ≤ 1000) : opIn (kdE q) (.lst (ps.map kdE)) = some (.bl (ps.any fun p => decide (S o p q = 0))) := by
  obtain ⟨y, h1, h2⟩ := kd_py hq ol
  have s1 : SmL 1 ((ps.map kdE).length * 301) (ps.map kdE) := SmL.all fun y hy => by
    obtain ⟨p, m, rfl⟩ := List.mem_map.mp hy
    exact KD_sm (hp p m) ol
  obtain ⟨p, h3, h4⟩ := (Sm.lst s1).shaped (by decide)
  obtain ⟨qs, h5, rfl⟩ := Option.map_eq_some_iff.mp (show (toPyL (ps.map kdE)).map PyData.list = some p from h3)
  have i1 : inSeq false (kdE q) (.lst (ps.map kdE)) = none := rfl
  unfold opIn orD
  rw [i1]
  show (inPy false (kdE q) (.lst (ps.map kdE))) = _
  unfold inPy
  rw [h1]
  simp only [Option.bind_some, h5]
  rw [if_pos ⟨h2, h4⟩, kd_any hq h1 hp h5]
  rfl
/-! pairs -/
def prE (e : Kt × Int) : D := .tup [ksE e, vsE e]
theorem drop_eq (h : LOk o L) {q : Kt} (hq : KOk o q.1 q.2) : (L.filter fun e => !decide (S o e.1 q = 0)) = dropL o L q := by
  have keepL : (L.filter (ltK o q)).filter (fun e => !decide (S o e.1 q = 0)) = L.filter (ltK o q) := List.filter_eq_self.mpr fun e he => by
    obtain ⟨m, z⟩ := List.mem_filter.mp he
    have z' : S o e.1 q < 0 := by simpa [ltK] using z
    have : ¬ S o e.1 q = 0 := by omega
    simp [this]
  have keepG : (L.filter (gtK o q)).filter (fun e => !decide (S o e.1 q = 0)) = L.filter (gtK o q) := List.filter_eq_self.mpr fun e he => by
    obtain ⟨m, z⟩ := List.mem_filter.mp he
    have z' : 0 < S o e.1 q := by simpa [gtK] using z
    have : ¬ S o e.1 q = 0 := by omega
    simp [this]
  cases z : hasK o L q with
  | true =>
    obtain ⟨w, hs, _⟩ := has_split h hq z
    conv => lhs; rw [hs]
    rw [List.filter_append, List.filter_cons, decide_eq_true (S_self hq)]
    simp only [ Bool.not_true, Bool.false_eq_true, if_false]
    rw [keepL, keepG, dropL]
  | false =>
    have hs := no_split h hq z
    conv => lhs; rw [hs]
    rw [List.filter_append, keepL, keepG, dropL]
theorem rk_drop (h : LOk o L) {q : Kt} (hq : KOk o q.1 q.2) : ((dropL o L q).filter (ltK o q)) = L.filter (ltK o q) := by
  rw [dropL, List.filter_append]
  have e1 : (L.filter (ltK o q)).filter (ltK o q) = L.filter (ltK o q) := List.filter_eq_self.mpr fun e he => (List.mem_filter.mp he).2
  have e2 : (L.filter (gtK o q)).filter (ltK o q) = [] := List.filter_eq_nil_iff.mpr fun e he => by
    have z := (List.mem_filter.mp he).2
    simp [gtK, ltK] at z ⊢
    omega
  rw [e1, e2, List.append_nil]
theorem pr0 {e : Kt × Int} : L2.atI [ksE e, vsE e] 0 = some (ksE e) := ix0
theorem flt_ne {i j k : Nat} {env : Lo} {q : Kt} (h : LOk o L) (hq : KOk o q.1 q.2) (ol : o.length ≤ 4) (hj : ∀ x : D, (DL.setL [j] [x] (DL.wipeL env [j]))[j]? = some (some x)) (hk : ∀ x : D, (DL.setL [j] [x] (DL.wipeL env [j]))[k]? = some (some (kdE q))) (st : Store) :
    loopC [j] b1 (fTest (fOp opNe (fSub (fVar j) (fC (.int 0))) (fVar k))) (fVar j) (L.map prE) (wipeL env [j]) st = some ((dropL o L q).map prE, st) := by
  rw [← drop_eq h hq]
  refine loopC_fm (φ := prE) (ψ := prE) (p := fun e => !decide (S o e.1 q = 0)) fun x hx => ⟨[prE x], rfl, ?_, ?_⟩
  · have ne := kd_ne (h.ok x hx) hq ol
    have e0 : ksE x = kdE x.1 := rfl
    generalize hE : setL [j] [prE x] (wipeL env [j]) = E
    have h1 : E[j]? = some (some (prE x)) := by rw [← hE]; exact hj _
    have h2 : E[k]? = some (some (kdE q)) := by rw [← hE]; exact hk _
    have p0 := pr0 (e := x)
    rw [← e0] at ne
    simp [fTest, fOp, fSub, fVar, fC, h1, h2, prE, ixD, p0, ne, asB]
  · have h1 := hj (prE x)
    generalize setL [j] [prE x] (wipeL env [j]) = E at h1 ⊢
    simp [fVar, h1]
theorem inserted_ok {q : Kt} (h : LOk o L) (hq : KOk o q.1 q.2) (ol : o.length ≤ 4) (hL : L.length ≤ 1000) (v : Int) (s : Store) :
    m__law_inserted [vD c o sh, .lst (L.map prE), kdE q, .int v] s = some (.lst ((putL o L q v).map prE), s ++ [.dead]) := by
  obtain ⟨V, hV⟩ : ∃ V, V = vD c o sh := ⟨_, rfl⟩
  obtain ⟨K, hK⟩ : ∃ K, K = kdE q := ⟨_, rfl⟩
  obtain ⟨M, hM⟩ : ∃ M, M = dropL o L q := ⟨_, rfl⟩
  obtain ⟨k, hk⟩ : ∃ k, k = s.length := ⟨_, rfl⟩
  have Ml : M.length ≤ 1000 := by
    rw [hM, ← drop_eq h hq]
    exact Nat.le_trans (List.length_filter_le _ _) hL
  have mok : ∀ e ∈ M, KOk o e.1.1 e.1.2 := fun e he => by
    rw [hM, ← drop_eq h hq] at he
    exact h.ok e (List.mem_filter.mp he).1
  have zl : ((M.map prE)).length ≤ sizeLine := by rw [List.length_map]; exact sl_of (by omega)
  have kat : (s ++ [Ob.lst (M.map prE)])[k]? = some (.lst (M.map prE)) := by rw [hk]; simp
  have c0 : q__law_inserted_0 [some V, some (.lst (L.map prE)), some K, some (.int v), none, none, none] s = some (.nx, [some V, some (.lst (L.map prE)), some K, some (.int v), some (.ref k), none, none], s ++ [.lst (M.map prE)]) := by
    have lc := flt_ne (i := 0) (j := 6) (k := 2) (env := [some V, some (.lst (L.map prE)), some K, some (.int v), none, none, none]) h hq ol (fun x => rfl) (fun x => by rw [← hK]; rfl) s
    rw [← hM] at lc
    rw [q__law_inserted_0, u_sAsg, fCompR]
    have it : iOf asL (fVar 1) [some V, some (.lst (L.map prE)), some K, some (.int v), none, none, none] s = some (L.map prE, s) := rfl
    rw [it]
    simp only [Option.bind_some]
    rw [lc]
    simp only [Option.bind_some]
    rw [if_pos zl, hk]
    rfl
  have c1 : q__law_inserted_1 [some V, some (.lst (L.map prE)), some K, some (.int v), some (.ref k), none, none] (s ++ [.lst (M.map prE)]) = some (.nx, [some V, some (.lst (L.map prE)), some K, some (.int v), some (.ref k), some (.int (rk o L q : Int)), none], s ++ [.lst (M.map prE)]) := by
    obtain ⟨X, hX⟩ : ∃ X, X = L.map prE := ⟨_, rfl⟩
    rw [← hX]
    have it : iRefL (fVar 4) [some V, some (.lst X), some K, some (.int v), some (.ref k), none, none] (s ++ [.lst (M.map prE)]) = some (M.map prE, (fun u => u[k]? = some (.lst (M.map prE))), s ++ [.lst (M.map prE)]) := by
      rw [iRefL, u_fVar]
      simp only [List.getElem?_cons_succ, List.getElem?_cons_zero, Option.map_some, Option.bind_some]
      rw [kat]
    have lc := loopCG_flt (φ := prE) (p := ltK o q) (is := [6]) (bd := b1) (P := fun u => u[k]? = some (.lst (M.map prE))) (t := fTest (fOp opLt (fCall m__law_sign (aCons (fVar 0) (aCons (fSub (fVar 6) (fC (.int 0))) (aCons (fVar 2) aNil)))) (fC (.int 0)))) (f := fVar 6) (env := wipeL [some V, some (.lst X), some K, some (.int v), some (.ref k), none, none] [6]) (st := s ++ [.lst (M.map prE)]) kat (l := M) fun x hx => ⟨[prE x], rfl, by
      have e : setL [6] [prE x] (wipeL [some V, some (.lst X), some K, some (.int v), some (.ref k), none, none] [6]) = [some V, some (.lst X), some K, some (.int v), some (.ref k), none, some (prE x)] := rfl
      rw [e]
      have sg := sign_ok (c := c) (sh := sh) (mok x hx) hq (s ++ [.lst (M.map prE)])
      rw [← hV, show KD q.1 q.2 = K from hK.symm, show KD x.1.1 x.1.2 = ksE x from rfl] at sg
      have p0 := pr0 (e := x)
      have e2 : sgn (tri x.1.1 q.1 o) x.1.2 q.2 = S o x.1 q := rfl
      rw [e2] at sg
      simp [fTest, fOp, fCall, aCons, aNil, fSub, fVar, fC, prE, ixD, p0, sg, opLt_int, asB, ltK], rfl⟩
    have rl : rk o L q = (M.filter (ltK o q)).length := by
      rw [hM, rk_drop h hq]; rfl
    have zl2 : ((M.filter (ltK o q)).map prE).length ≤ sizeLine := by
      rw [List.length_map]
      exact Nat.le_trans (List.length_filter_le _ _) (sl_of (by omega))
    rw [q__law_inserted_1, u_sAsg, u_fMk, aCons, fCompG, it]
    simp only [Option.bind_some]
    rw [lc]
    simp only [Option.bind_some]
    rw [if_pos zl2]
    simp [aNil, bLen, lenL, lenK, rl, gN]
  obtain ⟨A, hA⟩ : ∃ A, A = L.filter (ltK o q) := ⟨_, rfl⟩
  obtain ⟨B, hB⟩ : ∃ B, B = L.filter (gtK o q) := ⟨_, rfl⟩
  have pe : insAtL (M.map prE) (rk o L q : Int) (.tup [K, .int v]) = (putL o L q v).map prE := by
    have e1 : prE (q, v) = .tup [K, .int v] := by rw [hK]; rfl
    have e2 : rk o L q = (A.map prE).length := by rw [List.length_map, hA]; rfl
    rw [hM, insAtL, Int.toNat_natCast, ← e1, e2, dropL, putL, ← hA, ← hB]
    simp
  obtain ⟨P, hP⟩ : ∃ P, P = (putL o L q v).map prE := ⟨_, rfl⟩
  rw [← hP] at pe ⊢
  have rl : rk o L q ≤ L.length := List.length_filter_le _ _
  have r6 : (0 : Int) ≤ (rk o L q : Int) ∧ (rk o L q : Int) < 2 ^ 62 := by omega
  have c2 : q__law_inserted_2 [some V, some (.lst (L.map prE)), some K, some (.int v), some (.ref k), some (.int (rk o L q : Int)), none] (s ++ [.lst (M.map prE)]) = some (.nx, [some V, some (.lst (L.map prE)), some K, some (.int v), some (.ref k), some (.int (rk o L q : Int)), none], s ++ [.lst P]) := by
    have zl3 : (M.map prE).length < sizeLine := Nat.lt_of_le_of_lt (show _ ≤ 1000 by rw [List.length_map]; exact Ml) (by decide)
    generalize L.map prE = X at *
    have se : (s ++ [Ob.lst (M.map prE)]).set k (.lst P) = s ++ [.lst P] := by rw [hk]; simp
    rw [q__law_inserted_2, u_sDrop, fIns]
    simp only [u_fVar, List.getElem?_cons_succ, List.getElem?_cons_zero, Option.map_some, Option.bind_some, kat, isLs, if_true]
    rw [u_fMk]
    simp only [aCons, aNil, u_fVar, List.getElem?_cons_succ, List.getElem?_cons_zero, Option.map_some, Option.bind_some, mkTup, kat]
    rw [if_pos (show [K, D.int v].length ≤ sizeLine from sl_of (by simp))]
    simp only [Option.map_some, Option.bind_some, kat]
    rw [if_pos ⟨zl3, r6.1, r6.2⟩, pe]
    simp only [Option.map_some, Option.bind_some, se]
  have c3 : q__law_inserted_3 [some V, some (.lst (L.map prE)), some K, some (.int v), some (.ref k), some (.int (rk o L q : Int)), none] (s ++ [.lst P]) = some (.rt (.lst P), [some V, some (.lst (L.map prE)), some K, some (.int v), some (.lst P), some (.int (rk o L q : Int)), none], s ++ [.dead]) := by
    generalize L.map prE = X at *
    have at2 : (s ++ [Ob.lst P])[k]? = some (.lst P) := by rw [hk]; simp
    have se : (s ++ [Ob.lst P]).set k .dead = s ++ [.dead] := by rw [hk]; simp
    rw [q__law_inserted_3, u_sSeq, sFrzL]
    simp only [List.getElem?_cons_succ, List.getElem?_cons_zero, at2, Option.bind_some, List.set, se]
    rfl
  rw [← hV, ← hK, m__law_inserted, g__law_inserted]
  show outM (sSeq q__law_inserted_0 _ [some V, some (.lst (L.map prE)), some K, some (.int v), none, none, none] s) = _
  rw [seq_nx c0, seq_nx c1, seq_nx c2, c3]
  rfl
end LW
namespace LW
open PySem PySem.Spec PyProof.Rows L2 DL TL
variable {c : C} {o : List (Nat × Bool)} {sh : List Nat} {s st : Store} {n t a b d : Nat} {L : LsL} {w : Nat} {V : D}
theorem ks_fitM {M : LsL} (hM : ∀ e ∈ M, KOk o e.1.1 e.1.2) (ol : o.length ≤ 4) (hl : M.length ≤ 60) : ∃ x : Str, ∀ st, bReprA [.lst (M.map ksE)] st = some (.str x) := by
  have f := FitL.all (ds := M.map ksE) (h := 1) (w := 1099) fun x hx => by
    obtain ⟨e, he, rfl⟩ := List.mem_map.mp hx
    have k := hM e he
    have f1 : FitL e.1.1 0 (e.1.1.length * 211) := FitL.all fun v hv => fit_pv (k.v v hv)
    have i0 := k.i0
    have i1 := k.i1
    have f2 : Fit (D.int e.1.2) 0 210 := Fit.int (by omega)
    have f3 := f1.append (FitL.cons f2 FitL.nil)
    have kl := k.l
    exact (Fit.tup f3).mono (by simp) (by
      have : e.1.1.length * 211 ≤ 4 * 211 := Nat.mul_le_mul_right _ (by omega)
      omega)
  rw [List.length_map] at f
  have w1 : M.length * (1099 + 1) ≤ 60 * 1100 := Nat.mul_le_mul_right _ hl
  exact (Fit.lst f).repr (by decide) (by omega)
theorem C.ok_mono {w w' : Nat} (h : w ≤ w') : ∀ {p : C}, p.ok w → p.ok w'
  | .all, _ => trivial
  | .eq _ _, k => ⟨Nat.lt_of_lt_of_le k.1 h, k.2⟩
  | .lt _ _, k => ⟨Nat.lt_of_lt_of_le k.1 h, k.2⟩
  | .st _ _, k => ⟨Nat.lt_of_lt_of_le k.1 h, k.2⟩
  | .one _ _, k => ⟨Nat.lt_of_lt_of_le k.1 h, k.2⟩
  | .not p, k => C.ok_mono (p := p) h k
  | .and p q, k => ⟨C.ok_mono (p := p) h k.1, C.ok_mono (p := q) h k.2⟩
  | .or p q, k => ⟨C.ok_mono (p := p) h k.1, C.ok_mono (p := q) h k.2⟩
theorem VOk.mono {w w' : Nat} (vo : VOk w c o sh) (h : w ≤ w') : VOk w' c o sh := ⟨C.ok_mono h vo.co, vo.ch, vo.ol, fun p hp => Nat.lt_of_lt_of_le (vo.oc p hp) h, fun m hm => Nat.lt_of_lt_of_le (vo.sc m hm) h, Nat.le_trans vo.sl h⟩
/-- the frame of _law_marks_right -/
abbrev mv (n t : Nat) (V : D) (f : Int) (P : List D) (x5 x6 x7 x8 x9 x10 x11 x12 x13 x14 x15 : Option D) : Lo := [some (.ref n), some (.ref t), some V, some (.int f), some (.lst P), x5, x6, x7, x8, x9, x10, x11, x12, x13, x14, x15]
theorem rlen {f : Int} {mk : Mk} {x5 x6 x7 x8 x9 x10 x11 x12 x13 x15 : Option D} (h : LOk o L) (hm : mk.ok o) (hL : L.length ≤ 1000) (s : Store) :
    fMk bLen (aCons (fComp (iOf asL (fVar 4)) [15] b1 (fNotT (fTest (fCall m__law_past (aCons (fVar 2) (aCons (fVar 14) (aCons (fSub (fVar 15) (fC (.int 0))) aNil)))))) (fVar 15)) aNil) (mv n t (vD c o sh) f (L.map prE) x5 x6 x7 x8 x9 x10 x11 x12 x13 (some mk.d) x15) s = some (.int (rankM o L mk : Int), s) := by
  obtain ⟨P, hP⟩ : ∃ P, P = L.map prE := ⟨_, rfl⟩
  obtain ⟨V, hV⟩ : ∃ V, V = vD c o sh := ⟨_, rfl⟩
  obtain ⟨M, hM⟩ : ∃ M, M = mk.d := ⟨_, rfl⟩
  have lc := loopC_fm (φ := prE) (ψ := prE) (p := fun e => !past o mk e.1) (is := [15]) (bd := b1) (t := fNotT (fTest (fCall m__law_past (aCons (fVar 2) (aCons (fVar 14) (aCons (fSub (fVar 15) (fC (.int 0))) aNil)))))) (f := fVar 15) (env := wipeL (mv n t V f P x5 x6 x7 x8 x9 x10 x11 x12 x13 (some M) x15) [15]) (st := s) (l := L) fun x hx => ⟨[prE x], rfl, by
    have e : setL [15] [prE x] (wipeL (mv n t V f P x5 x6 x7 x8 x9 x10 x11 x12 x13 (some M) x15) [15]) = mv n t V f P x5 x6 x7 x8 x9 x10 x11 x12 x13 (some M) (some (prE x)) := rfl
    rw [e]
    have pk := past_ok (c := c) (sh := sh) (h.ok x hx) hm s
    rw [← hV, ← hM, show KD x.1.1 x.1.2 = ksE x from rfl] at pk
    have p0 := pr0 (e := x)
    simp [fNotT, fTest, fCall, aCons, aNil, fSub, fVar, fC, prE, ixD, p0, pk, asB], rfl⟩
  rw [← hP] at lc ⊢
  rw [← hV, ← hM]
  have zl : ((L.filter fun e => !past o mk e.1).map prE).length ≤ sizeLine := by
    rw [List.length_map]
    exact Nat.le_trans (List.length_filter_le _ _) (sl_of (by omega))
  rw [u_fMk, aCons, u_fComp, show iOf asL (fVar 4) (mv n t V f P x5 x6 x7 x8 x9 x10 x11 x12 x13 (some M) x15) s = some (P, s) from rfl]
  simp only [Option.bind_some]
  rw [lc]
  simp only [Option.bind_some]
  rw [if_pos zl]
  simp [aNil, bLen, lenL, lenK, rankM]
theorem cut_lo {α : Type} {xs : List α} {r : Nat} (hr : r ≤ xs.length) : DL.cutD xs (some (r : Int)) none = xs.drop r := by
  unfold DL.cutD
  rw [HT.sIx_nat, Nat.min_eq_left hr]
  show (xs.drop r).take (xs.length - r) = _
  exact List.take_of_length_le (by rw [List.length_drop]; exact Nat.le_refl _)
theorem cut_hi {α : Type} {xs : List α} {r : Nat} : DL.cutD xs none (some (r : Int)) = xs.take r := by
  unfold DL.cutD
  rw [HT.sIx_nat]
  show (xs.drop 0).take (min r xs.length - 0) = _
  rw [List.drop_zero, Nat.sub_zero, List.take_eq_take_iff]
  omega
theorem Lw.old (h : Lw o V s n t a b d L) {s' : Store} (g : ∀ q, q < s.length → s'[q]? = s[q]?) : Lw o V s' n t a b d L :=
  ⟨Tp.of h.tp (g _ h.tp.lt), h.ls.same (g _ (lt_old (insAt_some h.ls.ins))) (g _ (lt_old h.ls.pl)) (g _ (lt_old h.ls.ks)) (g _ (lt_old h.ls.vs)), h.nt, h.na, h.nb, h.nd⟩
/-- what one turn of the loop keeps -/
structure Mr (n t a b d : Nat) (o : List (Nat × Bool)) (V : D) (L : LsL) (E : Option D → Option D → Option D → Option D → Option D → Lo) (k : Nat) (env : Lo) (s : Store) : Prop where
  env : ∃ x11 x12 x13 x14 x15, env = E x11 x12 x13 x14 x15
  lw : Lw o V s n t a b d L
  len : k ≤ s.length
theorem reprS_ok {ds : List D} {y : Str} {k : Nat} {s : Store} (hk : s[k]? = some (.lst ds)) (h : ∀ st, bReprA [.lst ds] st = some (.str y)) : bReprAS [.ref k] s = some (.str y) := by
  have e1 : bReprA [.ref k] s = none := rfl
  rw [bReprAS, e1]
  show bReprS [.ref k] s = _
  rw [bReprS]
  simp only [hk, h]
set_option maxHeartbeats 8000000 in
theorem marksR_ok {f : Int} (h : Lw o (vD c o sh) s n t a b d L) (vo : VOk w c o sh) (w5 : w ≤ 5) (hL : L.length ≤ 60) (f0 : 0 ≤ f) (f1 : f ≤ 1000000) :
    ∃ s', m__law_marks_right [.ref n, .ref t, vD c o sh, .int f, .lst (L.map prE)] s = some (.bl true, s') ∧ Lw o (vD c o sh) s' n t a b d L ∧ s.length ≤ s'.length := by
  have vo5 : VOk (5 : Int).toNat c o sh := vo.mono w5
  have ol := vo.ol
  have lok := h.ls.ok
  obtain ⟨m1, m2, s1, g1, h1, h2, t1, fr1, l1⟩ := marks_ok (w := 5) h.tp (by decide) (by decide) vo5
  have w1 : Lw o (vD c o sh) s1 n t a b d L := h.fr t1 fr1
  obtain ⟨r1, s2, g2, a1, b1', t2, fr2, l2⟩ := pick_ok t1 (s := 12) (by decide) (by decide)
  obtain ⟨r2, s3, g3, a2, b2, t3, fr3, l3⟩ := pick_ok t2 (s := 2) (by decide) (by decide)
  obtain ⟨r3, s4, g4, a3, b3, t4, fr4, l4⟩ := pick_ok t3 (s := 8) (by decide) (by decide)
  have w4 : Lw o (vD c o sh) s4 n t a b d L := ((w1.fr t2 fr2).fr t3 fr3).fr t4 fr4
  have ll0 := len_ls h.ls
  have rk1 := rankM_ok w4.ls h1 ol (by omega)
  have rk2 := rankM_ok w4.ls h2 ol (by omega)
  have cb := cbtw_ok w4.ls h1 h2 ol (by omega)
  obtain ⟨ver, hver⟩ : ∃ v, v = f * r1 + r2 := ⟨_, rfl⟩
  have ub := unch_ok w4.ls h1 h2 ol (by omega) ver
  have nfR := w4.ls.noF (m := "rank_of") rfl
  have nfC := w4.ls.noF (m := "count_between") rfl
  have nfU := w4.ls.noF (m := "unchanged_between") rfl
  have in0 := h.ls.ins
  have rl1 : rankM o L m1 ≤ L.length := List.length_filter_le _ _
  have rl2 : rankM o L m2 ≤ L.length := List.length_filter_le _ _
  have mid := mid_ok lok h1 h2
  obtain ⟨N, hN⟩ : ∃ N, N = L.filter fun e => btw o m1 m2 e.1 := ⟨_, rfl⟩
  rw [← hN] at cb ub mid
  have Nl : N.length ≤ L.length := by rw [hN]; exact List.length_filter_le _ _
  have rln := fun (x5 x6 x7 x8 x9 x10 x11 x12 x13 x15 : Option D) => rlen (n := n) (t := t) (c := c) (sh := sh) (f := f) (mk := m1) (x5 := x5) (x6 := x6) (x7 := x7) (x8 := x8) (x9 := x9) (x10 := x10) (x11 := x11) (x12 := x12) (x13 := x13) (x15 := x15) lok h1 (by omega) s1
  have rln2 := fun (x5 x6 x7 x8 x9 x10 x11 x12 x13 x15 : Option D) => rlen (n := n) (t := t) (c := c) (sh := sh) (f := f) (mk := m2) (x5 := x5) (x6 := x6) (x7 := x7) (x8 := x8) (x9 := x9) (x10 := x10) (x11 := x11) (x12 := x12) (x13 := x13) (x15 := x15) lok h2 (by omega) s1
  obtain ⟨V, hV⟩ : ∃ V, V = vD c o sh := ⟨_, rfl⟩
  obtain ⟨P, hP⟩ : ∃ P, P = L.map prE := ⟨_, rfl⟩
  obtain ⟨A, hA⟩ : ∃ A, A = m1.d := ⟨_, rfl⟩
  obtain ⟨B, hB⟩ : ∃ B, B = m2.d := ⟨_, rfl⟩
  obtain ⟨i1, hi1⟩ : ∃ i, i = rankM o L m1 := ⟨_, rfl⟩
  obtain ⟨i2, hi2⟩ : ∃ i, i = rankM o L m2 := ⟨_, rfl⟩
  have Pl : P.length = L.length := by rw [hP, List.length_map]
  rw [← hV, ← hP, ← hA, ← hi1] at rln
  rw [← hV, ← hP, ← hB, ← hi2] at rln2
  rw [← hV, ← hA, ← hB] at g1
  rw [← hA, ← hi1] at rk1
  rw [← hB, ← hi2] at rk2
  rw [← hA, ← hB] at cb ub
  rw [← hi1] at rl1
  rw [← hi2] at rl2
  rw [← hi1, ← hi2] at mid
  rw [← hV, ← hP]
  have c0 : q__law_marks_right_0 (mv n t V f P none none none none none none none none none none none) s = some (.nx, mv n t V f P none none none none none none none none none none none, s) := by
    obtain ⟨li, hli⟩ : ∃ li : Int, li = (L.length : Int) := ⟨_, rfl⟩
    rw [← hli] at ll0
    have z0 : 0 ≤ li := by omega
    have z6 : li < 2 ^ 62 := by
      have : li ≤ 90 := by omega
      exact Int.lt_of_le_of_lt this (by decide)
    have e1 : fLenO "Listing" m_Listing___len__ (fVar 1) (mv n t V f P none none none none none none none none none none none) s = some (.int li, s) := by
      rw [fLenO, show fVar 1 (mv n t V f P none none none none none none none none none none none) s = some (.ref t, s) from rfl]
      simp only [Option.bind_some, in0, ll0]
      rw [if_pos ⟨z0, z6⟩]
    have e2 : fMk bLen (aCons (fVar 4) aNil) (mv n t V f P none none none none none none none none none none none) s = some (.int li, s) := by
      simp [fMk, aCons, aNil, fVar, bLen, lenL, lenK, Pl, hli]
    rw [q__law_marks_right_0, u_sIf, fTest, fOp, e1]
    simp only [Option.bind_some]
    rw [e2]
    simp [opNe_int, asB, sNil]
  have c1 : q__law_marks_right_1 (mv n t V f P none none none none none none none none none none none) s = some (.nx, mv n t V f P (some A) (some B) none none none none none none none none none, s1) := by
    have e1 : fCall m__law_marks (aCons (fVar 0) (aCons (fVar 2) (aCons (fC (.int 5)) aNil))) (mv n t V f P none none none none none none none none none none none) s = some (.tup [A, B], s1) := g1
    rw [q__law_marks_right_1, u_sAsg, e1]
    rfl
  have c2 : q__law_marks_right_2 (mv n t V f P (some A) (some B) none none none none none none none none none) s1 = some (.nx, mv n t V f P (some A) (some B) (some (.lst [.int (i1 : Int), .int (i2 : Int)])) none none none none none none none none, s1) := by
    rw [q__law_marks_right_2, u_sAsg, u_fComp]
    have it : iOf asL (fMk mkLst (aCons (fVar 5) (aCons (fVar 6) aNil))) (mv n t V f P (some A) (some B) none none none none none none none none none) s1 = some ([A, B], s1) := by
      have z2 : ([A, B] : List D).length ≤ sizeLine := sl_of (by simp)
      rw [u_iOf, u_fMk]
      simp only [aCons, aNil, u_fVar, List.getElem?_cons_succ, List.getElem?_cons_zero, Option.map_some, Option.bind_some, mkLst]
      rw [if_pos z2]
      rfl
    have e1 : setL [14] [A] (wipeL (mv n t V f P (some A) (some B) none none none none none none none none none) [14]) = mv n t V f P (some A) (some B) none none none none none none none (some A) none := rfl
    have e2 : setL [14] [B] (wipeL (mv n t V f P (some A) (some B) none none none none none none none none none) [14]) = mv n t V f P (some A) (some B) none none none none none none none (some B) none := rfl
    rw [it]
    simp only [Option.bind_some, loopC, b1, e1, e2, tTrue, if_true, rln, rln2, Option.map_some]
    rw [if_pos (show ([.int (i1 : Int), .int (i2 : Int)] : List D).length ≤ sizeLine from sl_of (by simp))]
    rfl
  have c3 : q__law_marks_right_3 (mv n t V f P (some A) (some B) (some (.lst [.int (i1 : Int), .int (i2 : Int)])) none none none none none none none none) s1 = some (.nx, mv n t V f P (some A) (some B) (some (.lst [.int (i1 : Int), .int (i2 : Int)])) (some (.lst (N.map prE))) none none none none none none none, s1) := by
    have cu : DL.cutD P (some (i1 : Int)) (some (i2 : Int)) = N.map prE := by
      rw [hP, cutM (by rw [List.length_map]; exact rl1) (by rw [List.length_map]; exact rl2), ← mid, List.map_drop, List.map_take]
    have x0 : fSub (fVar 7) (fC (.int 0)) (mv n t V f P (some A) (some B) (some (.lst [.int (i1 : Int), .int (i2 : Int)])) none none none none none none none none) s1 = some (.int (i1 : Int), s1) := by
      simp [fSub, fVar, fC, ixD, ix0]
    have x1 : fSub (fVar 7) (fC (.int 1)) (mv n t V f P (some A) (some B) (some (.lst [.int (i1 : Int), .int (i2 : Int)])) none none none none none none none none) s1 = some (.int (i2 : Int), s1) := by
      simp [fSub, fVar, fC, ixD, ix1]
    rw [q__law_marks_right_3, u_sAsg, fSlice]
    simp only [oSome, x0, x1, u_fVar, List.getElem?_cons_succ, List.getElem?_cons_zero, Option.map_some, Option.bind_some, slD, cu]
    rfl
  have c4 : q__law_marks_right_4 (mv n t V f P (some A) (some B) (some (.lst [.int (i1 : Int), .int (i2 : Int)])) (some (.lst (N.map prE))) none none none none none none none) s1 = some (.nx, mv n t V f P (some A) (some B) (some (.lst [.int (i1 : Int), .int (i2 : Int)])) (some (.lst (N.map prE))) (some (.int ver)) (some (.int r3)) none none none none none, s4) := by
    generalize N.map prE = NN
    have f1' : fCall m__law_pick (aCons (fVar 0) (aCons (fC (.int 12)) aNil)) (mv n t V f P (some A) (some B) (some (.lst [.int (i1 : Int), .int (i2 : Int)])) (some (.lst NN)) none none none none none none none) s1 = some (.int r1, s2) := g2
    have f2' : fCall m__law_pick (aCons (fVar 0) (aCons (fC (.int 2)) aNil)) (mv n t V f P (some A) (some B) (some (.lst [.int (i1 : Int), .int (i2 : Int)])) (some (.lst NN)) none none none none none none none) s2 = some (.int r2, s3) := g3
    have f3' : fCall m__law_pick (aCons (fVar 0) (aCons (fC (.int 8)) aNil)) (mv n t V f P (some A) (some B) (some (.lst [.int (i1 : Int), .int (i2 : Int)])) (some (.lst NN)) none none none none none none none) s3 = some (.int r3, s4) := g4
    have mu : opMul (.int f) (.int r1) = some (.int (f * r1)) := opMul_int (bits32 f0 (by omega)) (bits32 a1 (by omega)) (by decide)
    have z2 : ([.int ver, .int r3] : List D).length ≤ sizeLine := sl_of (by simp)
    rw [q__law_marks_right_4, u_sAsg, u_fMk, aCons, fOp, fOp]
    simp only [u_fVar, List.getElem?_cons_succ, List.getElem?_cons_zero, Option.map_some, Option.bind_some, f1', mu, f2', opAdd_int, aCons, aNil, f3', mkTup, ← hver]
    rw [if_pos z2]
    rfl
  have c5 : q__law_marks_right_5 (mv n t V f P (some A) (some B) (some (.lst [.int (i1 : Int), .int (i2 : Int)])) (some (.lst (N.map prE))) (some (.int ver)) (some (.int r3)) none none none none none) s4 = some (.nx, mv n t V f P (some A) (some B) (some (.lst [.int (i1 : Int), .int (i2 : Int)])) (some (.lst (N.map prE))) (some (.int ver)) (some (.int r3)) none none none none none, s4) := by
    obtain ⟨NN, hNN⟩ : ∃ NN, NN = N.map prE := ⟨_, rfl⟩
    have el : NN.length = N.length := by rw [hNN, List.length_map]
    rw [← hNN]
    obtain ⟨E, hE⟩ : ∃ E, E = mv n t V f P (some A) (some B) (some (.lst [.int (i1 : Int), .int (i2 : Int)])) (some (.lst NN)) (some (.int ver)) (some (.int r3)) none none none none none := ⟨_, rfl⟩
    have y1 : fMeth "Listing" "rank_of" m_Listing_rank_of (fVar 1) (aCons (fVar 5) aNil) E s4 = some (.int (i1 : Int), s4) := by
      rw [fMeth, show fVar 1 E s4 = some (.ref t, s4) by rw [hE]; rfl]
      simp only [Option.bind_some]
      rw [nfR]
      simp [hE, aCons, aNil, fVar, rk1]
    have y2 : fMeth "Listing" "rank_of" m_Listing_rank_of (fVar 1) (aCons (fVar 6) aNil) E s4 = some (.int (i2 : Int), s4) := by
      rw [fMeth, show fVar 1 E s4 = some (.ref t, s4) by rw [hE]; rfl]
      simp only [Option.bind_some]
      rw [nfR]
      simp [hE, aCons, aNil, fVar, rk2]
    have y3 : fMeth "Listing" "count_between" m_Listing_count_between (fVar 1) (aCons (fVar 5) (aCons (fVar 6) aNil)) E s4 = some (.int (N.length : Int), s4) := by
      rw [fMeth, show fVar 1 E s4 = some (.ref t, s4) by rw [hE]; rfl]
      simp only [Option.bind_some]
      rw [nfC]
      simp [hE, aCons, aNil, fVar, cb]
    have y4 : fMk bLen (aCons (fVar 8) aNil) E s4 = some (.int (N.length : Int), s4) := by
      simp [hE, fMk, aCons, aNil, fVar, bLen, lenL, lenK, el]
    have v7 : fVar 7 E s4 = some (.lst [.int (i1 : Int), .int (i2 : Int)], s4) := by rw [hE]; rfl
    obtain ⟨T, hT⟩ : ∃ T : D, T = .lst [.int (i1 : Int), .int (i2 : Int), .int (N.length : Int)] := ⟨_, rfl⟩
    have sm : ∃ p, toPy T = some p ∧ SeqAt.shaped p = true := by
      rw [hT]
      exact (Sm.lst (SmL.cons (Sm.int (by omega)) (SmL.cons (Sm.int (by omega)) (SmL.cons (Sm.int (by omega)) SmL.nil)))).shaped (by decide)
    have ne := same_ne sm
    have z3 : ([.int (i1 : Int), .int (i2 : Int), .int (N.length : Int)] : List D).length ≤ sizeLine := sl_of (by simp)
    have z1 : ([.int (N.length : Int)] : List D).length ≤ sizeLine := sl_of (by simp)
    have L1 : fMk mkLst (aCons (fMeth "Listing" "rank_of" m_Listing_rank_of (fVar 1) (aCons (fVar 5) aNil)) (aCons (fMeth "Listing" "rank_of" m_Listing_rank_of (fVar 1) (aCons (fVar 6) aNil)) (aCons (fMeth "Listing" "count_between" m_Listing_count_between (fVar 1) (aCons (fVar 5) (aCons (fVar 6) aNil))) aNil))) E s4 = some (T, s4) := by
      rw [u_fMk, aCons, y1]
      simp only [Option.bind_some]
      rw [aCons, y2]
      simp only [Option.bind_some]
      rw [aCons, y3]
      simp only [Option.bind_some, aNil, Option.map_some, mkLst]
      rw [if_pos z3, hT]
      rfl
    have ad : opAdd (.lst [.int (i1 : Int), .int (i2 : Int)]) (.lst [.int (N.length : Int)]) = some T := by
      have z : (2 : Nat) + 1 ≤ sizeLine := sl_of (by simp)
      rw [hT]
      simp [opAdd, orD, addI, onI, addS, onS, addL, z]
    have L2 : fOp opAdd (fVar 7) (fMk mkLst (aCons (fMk bLen (aCons (fVar 8) aNil)) aNil)) E s4 = some (T, s4) := by
      have k1 : fMk mkLst (aCons (fMk bLen (aCons (fVar 8) aNil)) aNil) E s4 = some (.lst [.int (N.length : Int)], s4) := by
        rw [u_fMk, aCons, y4]
        simp only [Option.bind_some, aNil, Option.map_some, mkLst]
        rw [if_pos z1]
        rfl
      rw [fOp, v7]
      simp only [Option.bind_some, k1, ad, Option.map_some]
    rw [← hE, q__law_marks_right_5, u_sIf, fTest, fOp, L1]
    simp only [Option.bind_some, L2, ne, Option.map_some, asB, Bool.false_eq_true, if_false]
    rfl
  have c6 : q__law_marks_right_6 (mv n t V f P (some A) (some B) (some (.lst [.int (i1 : Int), .int (i2 : Int)])) (some (.lst (N.map prE))) (some (.int ver)) (some (.int r3)) none none none none none) s4 = some (.nx, mv n t V f P (some A) (some B) (some (.lst [.int (i1 : Int), .int (i2 : Int)])) (some (.lst (N.map prE))) (some (.int ver)) (some (.int r3)) none none none none none, s4) := by
    obtain ⟨K, hK⟩ : ∃ K, K = (N.filter fun e => decide (e.2 ≤ ver)).length := ⟨_, rfl⟩
    obtain ⟨R, hR⟩ : ∃ R : D, R = .lst [.int (i1 : Int), .int (i2 : Int)] := ⟨_, rfl⟩
    rw [← hK] at ub
    rw [← hR]
    have lc := loopC_fm (φ := prE) (ψ := prE) (p := fun e => decide (e.2 ≤ ver)) (is := [15]) (bd := b1) (t := fTest (fOp opLe (fSub (fVar 15) (fC (.int 1))) (fVar 9))) (f := fVar 15) (env := wipeL (mv n t V f P (some A) (some B) (some R) (some (.lst (N.map prE))) (some (.int ver)) (some (.int r3)) none none none none none) [15]) (st := s4) (l := N) fun x hx => ⟨[prE x], rfl, by
      have e : setL [15] [prE x] (wipeL (mv n t V f P (some A) (some B) (some R) (some (.lst (N.map prE))) (some (.int ver)) (some (.int r3)) none none none none none) [15]) = mv n t V f P (some A) (some B) (some R) (some (.lst (N.map prE))) (some (.int ver)) (some (.int r3)) none none none none (some (prE x)) := rfl
      rw [e]
      have p1 : L2.atI [ksE x, D.int x.2] 1 = some (D.int x.2) := ix1
      generalize N.map prE = NN
      simp [fTest, fOp, fSub, fVar, fC, prE, ixD, p1, vsE, opLe_int, asB], rfl⟩
    generalize N.map prE = NN at lc ⊢
    obtain ⟨E, hE⟩ : ∃ E, E = mv n t V f P (some A) (some B) (some R) (some (.lst NN)) (some (.int ver)) (some (.int r3)) none none none none none := ⟨_, rfl⟩
    have zl : ((N.filter fun e => decide (e.2 ≤ ver)).map prE).length ≤ sizeLine := by
      rw [List.length_map]
      exact Nat.le_trans (List.length_filter_le _ _) (sl_of (by omega))
    have y1 : fMeth "Listing" "unchanged_between" m_Listing_unchanged_between (fVar 1) (aCons (fVar 5) (aCons (fVar 6) (aCons (fVar 9) aNil))) E s4 = some (.int (K : Int), s4) := by
      rw [fMeth, show fVar 1 E s4 = some (.ref t, s4) by rw [hE]; rfl]
      simp only [Option.bind_some]
      rw [nfU]
      simp [hE, aCons, aNil, fVar, ub]
    have y2 : fMk bLen (aCons (fComp (iOf asL (fVar 8)) [15] b1 (fTest (fOp opLe (fSub (fVar 15) (fC (.int 1))) (fVar 9))) (fVar 15)) aNil) E s4 = some (.int (K : Int), s4) := by
      rw [u_fMk, aCons, u_fComp, show iOf asL (fVar 8) E s4 = some (NN, s4) by rw [hE]; rfl]
      simp only [Option.bind_some]
      rw [hE, lc]
      simp only [Option.bind_some]
      rw [if_pos zl]
      simp [aNil, bLen, lenL, lenK, hK]
    rw [← hE, q__law_marks_right_6, u_sIf, fTest, fOp, y1]
    simp only [Option.bind_some]
    rw [y2]
    simp [opNe_int, asB, sNil]
  obtain ⟨NN, hNN⟩ : ∃ NN, NN = N.map prE := ⟨_, rfl⟩
  obtain ⟨R, hR⟩ : ∃ R : D, R = .lst [.int (i1 : Int), .int (i2 : Int)] := ⟨_, rfl⟩
  rw [← hNN, ← hR] at c3 c4 c5 c6
  rw [← hR] at c2
  obtain ⟨lim, hlim⟩ : ∃ m : Nat, r3 = (m : Int) := ⟨r3.toNat, by omega⟩
  obtain ⟨Ka, hKa⟩ : ∃ K, K = ((L.drop i1).take lim) := ⟨_, rfl⟩
  obtain ⟨Kb, hKb⟩ : ∃ K, K = (((L.take i2).drop (i2 - lim)).reverse) := ⟨_, rfl⟩
  obtain ⟨ya, hya⟩ := ks_fitM (o := o) (M := Ka) (fun e he => lok.ok e (by rw [hKa] at he; exact List.mem_of_mem_drop (List.mem_of_mem_take he))) ol (by rw [hKa]; have := List.length_take_le lim (L.drop i1); have := List.length_drop (i := i1) (l := L); omega)
  obtain ⟨yb, hyb⟩ := ks_fitM (o := o) (M := Kb) (fun e he => lok.ok e (by rw [hKb] at he; exact List.mem_of_mem_take (List.mem_of_mem_drop (List.mem_reverse.mp he)))) ol (by rw [hKb, List.length_reverse, List.length_drop, List.length_take]; omega)
  have it7 : iOfA asR1 (aCons (fC (.int 2)) aNil) (mv n t V f P (some A) (some B) (some R) (some (.lst NN)) (some (.int ver)) (some (.int r3)) none none none none none) s4 = some (rg 0 2, s4) := by
    have a := asR1_ok (n := 2) (by decide) (by decide)
    simp [a]
  obtain ⟨e2, s5, lp, hM⟩ := loopS_inv' (tg := gN 11) (body := sSeq q__law_marks_right_7l_0 (sSeq q__law_marks_right_7l_1 (sSeq q__law_marks_right_7l_2 (sSeq q__law_marks_right_7l_3 q__law_marks_right_7l_4))))
    (Mr n t a b d o V L (fun x11 x12 x13 x14 x15 => mv n t V f P (some A) (some B) (some R) (some (.lst NN)) (some (.int ver)) (some (.int r3)) x11 x12 x13 x14 x15) s4.length) (ds := rg 0 2) (fun x hx env st hI => by
      obtain ⟨⟨x11, x12, x13, x14, x15, rfl⟩, lw, le⟩ := hI
      have lw' : Lw o (vD c o sh) st n t a b d L := by rw [← hV]; exact lw
      have af := after_ok lw'.ls h1 ol (by omega) lim
      have bf := before_ok (lw'.app [.lst (((L.drop (rankM o L m1)).take lim).map ksE)]).ls h2 ol (by omega) lim
      have nfA := lw'.ls.noF (m := "keys_after") rfl
      have nfB := (lw'.app [.lst (Ka.map ksE)]).ls.noF (m := "keys_before") rfl
      rw [← hi1, ← hKa, ← hA, ← hlim] at af
      rw [← hi1, ← hi2, ← hKa, ← hKb, ← hB, ← hlim] at bf
      have c_0 : q__law_marks_right_7l_0 (mv n t V f P (some A) (some B) (some R) (some (.lst NN)) (some (.int ver)) (some (.int r3)) (some x) x12 x13 x14 x15) st = some (.nx, mv n t V f P (some A) (some B) (some R) (some (.lst NN)) (some (.int ver)) (some (.int r3)) (some x) (some (.ref st.length)) (some (.ref (st.length + 1))) x14 x15, st ++ [.lst (Ka.map ksE)] ++ [.lst (Kb.map ksE)]) := by
        obtain ⟨E, hE⟩ : ∃ E, E = mv n t V f P (some A) (some B) (some R) (some (.lst NN)) (some (.int ver)) (some (.int r3)) (some x) x12 x13 x14 x15 := ⟨_, rfl⟩
        have y1 : fMeth "Listing" "keys_after" m_Listing_keys_after (fVar 1) (aCons (fVar 5) (aCons (fVar 10) aNil)) E st = some (.ref st.length, st ++ [.lst (Ka.map ksE)]) := by
          rw [fMeth, show fVar 1 E st = some (.ref t, st) by rw [hE]; rfl]
          simp only [Option.bind_some]
          rw [nfA]
          simp [hE, aCons, aNil, fVar, af]
        have y2 : fMeth "Listing" "keys_before" m_Listing_keys_before (fVar 1) (aCons (fVar 6) (aCons (fVar 10) aNil)) E (st ++ [.lst (Ka.map ksE)]) = some (.ref (st.length + 1), st ++ [.lst (Ka.map ksE)] ++ [.lst (Kb.map ksE)]) := by
          rw [fMeth, show fVar 1 E (st ++ [.lst (Ka.map ksE)]) = some (.ref t, st ++ [.lst (Ka.map ksE)]) by rw [hE]; rfl]
          simp only [Option.bind_some]
          rw [nfB]
          simp [hE, aCons, aNil, fVar, bf]
        rw [← hE, q__law_marks_right_7l_0, sPar, aCons, y1]
        simp only [Option.bind_some]
        rw [aCons, y2]
        simp only [Option.bind_some, aNil, Option.map_some, par2]
        rw [hE]
        rfl
      obtain ⟨x1, hx1⟩ : ∃ x, x = Ka.map ksE := ⟨_, rfl⟩
      obtain ⟨x2, hx2⟩ : ∃ x, x = Kb.map ksE := ⟨_, rfl⟩
      rw [← hx1] at hya c_0
      rw [← hx2] at hyb c_0
      obtain ⟨k, hk⟩ : ∃ k, k = st.length := ⟨_, rfl⟩
      rw [← hk] at c_0
      have k1 : (st ++ [Ob.lst x1] ++ [Ob.lst x2])[k]? = some (.lst x1) := by rw [hk]; simp
      have k2 : (st ++ [Ob.lst x1] ++ [Ob.lst x2])[k + 1]? = some (.lst x2) := by rw [hk]; simp
      obtain ⟨E, hE⟩ : ∃ E, E = mv n t V f P (some A) (some B) (some R) (some (.lst NN)) (some (.int ver)) (some (.int r3)) (some x) (some (.ref k)) (some (.ref (k + 1))) x14 x15 := ⟨_, rfl⟩
      rw [← hE] at c_0
      obtain ⟨U, hU⟩ : ∃ U, U = st ++ [Ob.lst x1] ++ [Ob.lst x2] := ⟨_, rfl⟩
      rw [← hU] at c_0 k1 k2
      have i70 : fSub (fVar 7) (fC (.int 0)) E U = some (.int (i1 : Int), U) := by
        simp [hE, hR, fSub, fVar, fC, ixD, ix0]
      have i71 : fSub (fVar 7) (fC (.int 1)) E U = some (.int (i2 : Int), U) := by
        simp [hE, hR, fSub, fVar, fC, ixD, ix1]
      have v4 : fVar 4 E U = some (.lst P, U) := by rw [hE]; rfl
      have v10 : fVar 10 E U = some (.int (lim : Int), U) := by rw [hE, hlim]; rfl
      have cmp : ∀ M : LsL, M.length ≤ 1000 → ∀ fi : FI, fi E U = some (M.map prE, U) → fComp fi [15] b1 tTrue (fSub (fVar 15) (fC (.int 0))) E U = some (.lst (M.map ksE), U) := fun M hM fi hf => by
        have lc := loopC_over (is := [15]) (bd := b1) (f := fSub (fVar 15) (fC (.int 0))) (φ := prE) (ψ := ksE) (env := wipeL E [15]) (st := U) (l := M) fun e he => ⟨[prE e], rfl, by
          have p0 := pr0 (e := e)
          have : (setL [15] [prE e] (wipeL E [15]))[15]? = some (some (prE e)) := by rw [hE]; rfl
          generalize setL [15] [prE e] (wipeL E [15]) = G at this ⊢
          simp [fSub, fVar, fC, this, prE, ixD, p0]⟩
        rw [u_fComp, hf]
        simp only [Option.bind_some]
        rw [lc]
        simp only [Option.bind_some]
        rw [if_pos (by rw [List.length_map]; exact sl_of (by omega))]
      have c_1 : q__law_marks_right_7l_1 E U = some (.nx, E, U) := by
        have cu1 : DL.cutD P (some (i1 : Int)) none = (L.drop i1).map prE := by rw [cut_lo (by omega), hP, List.map_drop]
        have cu2 : DL.cutD ((L.drop i1).map ksE) none (some (lim : Int)) = x1 := by rw [cut_hi, ← List.map_take, hx1, hKa]
        have it : iOf asL (fSlice (fVar 4) (oSome (fSub (fVar 7) (fC (.int 0)))) oNone) E U = some ((L.drop i1).map prE, U) := by
          rw [u_iOf, fSlice, v4]
          simp only [Option.bind_some, oSome, i70, oNone, Option.map_some, slD, cu1]
          rfl
        have fc := cmp (L.drop i1) (by rw [List.length_drop]; omega) _ it
        have r1 : fMk bReprAS (aCons (fVar 12) aNil) E U = some (.str ya, U) := by
          rw [u_fMk, show aCons (fVar 12) aNil E U = some ([.ref k], U) by rw [hE]; rfl]
          simp only [Option.bind_some]
          rw [reprS_ok k1 hya]
          rfl
        have r2 : fMk bReprA (aCons (fSlice (fComp (iOf asL (fSlice (fVar 4) (oSome (fSub (fVar 7) (fC (.int 0)))) oNone)) [15] b1 tTrue (fSub (fVar 15) (fC (.int 0)))) oNone (oSome (fVar 10))) aNil) E U = some (.str ya, U) := by
          rw [u_fMk, aCons, fSlice, fc]
          simp only [Option.bind_some, oSome, oNone, v10, Option.map_some, slD, cu2, aNil, hya]
        rw [q__law_marks_right_7l_1, u_sIf, fTest, fOp, r1]
        simp only [Option.bind_some]
        rw [r2]
        simp [opNeS_same, asB, sNil]
      have c_2 : q__law_marks_right_7l_2 E U = some (.nx, E, U) := by
        have cu1 : DL.cutD P none (some (i2 : Int)) = (L.take i2).map prE := by rw [cut_hi, hP, List.map_take]
        have cu2 : DL.cutD ((L.take i2).map ksE).reverse none (some (lim : Int)) = x2 := by
          rw [cut_hi, hx2, hKb, ← List.map_reverse, ← List.map_take]
          refine congrArg _ ?_
          rw [List.take_reverse, List.length_take, Nat.min_eq_left rl2]
        have it : iOf asL (fSlice (fVar 4) oNone (oSome (fSub (fVar 7) (fC (.int 1))))) E U = some ((L.take i2).map prE, U) := by
          rw [u_iOf, fSlice, v4]
          simp only [Option.bind_some, oSome, i71, oNone, Option.map_some, slD, cu1]
          rfl
        have fc := cmp (L.take i2) (by rw [List.length_take]; omega) _ it
        have r1 : fMk bReprAS (aCons (fVar 13) aNil) E U = some (.str yb, U) := by
          rw [u_fMk, show aCons (fVar 13) aNil E U = some ([.ref (k + 1)], U) by rw [hE]; rfl]
          simp only [Option.bind_some]
          rw [reprS_ok k2 hyb]
          rfl
        have r2 : fMk bReprA (aCons (fSlice (fRevL (fComp (iOf asL (fSlice (fVar 4) oNone (oSome (fSub (fVar 7) (fC (.int 1)))))) [15] b1 tTrue (fSub (fVar 15) (fC (.int 0))))) oNone (oSome (fVar 10))) aNil) E U = some (.str yb, U) := by
          rw [u_fMk, aCons, fSlice, fRevL, fc]
          simp only [Option.bind_some, lstAt, oSome, oNone, v10, Option.map_some, slD, cu2, aNil, hyb]
        rw [q__law_marks_right_7l_2, u_sIf, fTest, fOp, r1]
        simp only [Option.bind_some]
        rw [r2]
        simp [opNeS_same, asB, sNil]
      have sz1 : x1.length < sizeLine := Nat.lt_of_le_of_lt (show _ ≤ 1000 by rw [hx1, List.length_map, hKa, List.length_take, List.length_drop]; omega) (by decide)
      have sz2 : x2.length < sizeLine := Nat.lt_of_le_of_lt (show _ ≤ 1000 by rw [hx2, List.length_map, hKb, List.length_reverse, List.length_drop, List.length_take]; omega) (by decide)
      obtain ⟨U1, hU1⟩ : ∃ u, u = U.set k (.lst (x1 ++ [.non])) := ⟨_, rfl⟩
      obtain ⟨U2, hU2⟩ : ∃ u, u = U1.set (k + 1) (.lst (x2 ++ [.non])) := ⟨_, rfl⟩
      have k21 : U1[k + 1]? = some (.lst x2) := by rw [hU1, List.getElem?_set_ne (by omega)]; exact k2
      have c_3 : q__law_marks_right_7l_3 E U = some (.nx, E, U1) := by
        rw [q__law_marks_right_7l_3, u_sDrop, fApp, show fVar 12 E U = some (.ref k, U) by rw [hE]; rfl]
        simp only [Option.bind_some, k1, isLs, if_true, u_fC, appAt]
        rw [if_pos sz1, ← hU1]
        rfl
      have c_4 : q__law_marks_right_7l_4 E U1 = some (.nx, E, U2) := by
        rw [q__law_marks_right_7l_4, u_sDrop, fApp, show fVar 13 E U1 = some (.ref (k + 1), U1) by rw [hE]; rfl]
        simp only [Option.bind_some, k21, isLs, if_true, u_fC, appAt]
        rw [if_pos sz2, ← hU2]
        rfl
      have Ul : U2.length = st.length + 2 := by rw [hU2, List.length_set, hU1, List.length_set, hU]; simp
      have at_ : ∀ q, q < st.length → U2[q]? = st[q]? := fun q hq => by
        rw [hU2, List.getElem?_set_ne (by omega), hU1, List.getElem?_set_ne (by omega), hU, List.append_assoc, List.getElem?_append_left hq]
      refine ⟨_, rfl, E, U2, ?_, ⟨⟨_, _, _, _, _, hE⟩, lw.old at_, by omega⟩⟩
      show sSeq q__law_marks_right_7l_0 _ (mv n t V f P (some A) (some B) (some R) (some (.lst NN)) (some (.int ver)) (some (.int r3)) (some x) x12 x13 x14 x15) st = _
      rw [seq_nx c_0, seq_nx c_1, seq_nx c_2, seq_nx c_3, c_4]) (env := mv n t V f P (some A) (some B) (some R) (some (.lst NN)) (some (.int ver)) (some (.int r3)) none none none none none) (st := s4) ⟨⟨_, _, _, _, _, rfl⟩, by rw [hV]; exact w4, Nat.le_refl _⟩
  obtain ⟨⟨x11, x12, x13, x14, x15, rfl⟩, lw5, le5⟩ := hM
  refine ⟨s5, ?_, lw5, by omega⟩
  rw [m__law_marks_right, g__law_marks_right]
  show outM (sSeq q__law_marks_right_0 _ (mv n t V f P none none none none none none none none none none none) s) = _
  rw [seq_nx c0, seq_nx c1, seq_nx c2, seq_nx c3, seq_nx c4, seq_nx c5, seq_nx c6, seq_nx (show q__law_marks_right_7 _ _ = _ from for_nx it7 lp)]
  rfl
end LW
namespace LW
open PySem PySem.Spec PyProof.Rows L2 DL TL
variable {c : C} {o : List (Nat × Bool)} {sh : List Nat} {s st : Store} {n t a b d : Nat} {L : LsL} {w : Nat} {V : D}
abbrev kv (sc : D) (k : Int) (n : Nat) (wi : Int) (V : D) (t : Nat) (f : Int) (P : List D) (x8 x9 x10 x11 x12 : Option D) : Lo := [some sc, some (.int k), some (.ref n), some (.int wi), some V, some (.ref t), some (.int f), some (.lst P), x8, x9, x10, x11, x12]
def VB (L : LsL) : Prop := ∀ e ∈ L, 0 ≤ e.2 ∧ e.2 ≤ 12000000
theorem drop_mem {q : Kt} {e : Kt × Int} (he : e ∈ dropL o L q) : e ∈ L := by
  rcases List.mem_append.mp he with h | h
  · exact (List.mem_filter.mp h).1
  · exact (List.mem_filter.mp h).1
theorem drop_len (h : LOk o L) {q : Kt} (hq : KOk o q.1 q.2) : (dropL o L q).length ≤ L.length := by
  rw [← drop_eq h hq]; exact List.length_filter_le _ _
theorem put_len (h : LOk o L) {q : Kt} (hq : KOk o q.1 q.2) {v : Int} : (putL o L q v).length ≤ L.length + 1 := by
  have := drop_len h hq
  rw [dropL, List.length_append] at this
  rw [putL, List.length_append, List.length_cons]
  omega
theorem put_mem {q : Kt} {v : Int} {e : Kt × Int} (he : e ∈ putL o L q v) : e = (q, v) ∨ e ∈ L := by
  rcases List.mem_append.mp he with h | h
  · exact .inr (List.mem_filter.mp h).1
  · rcases List.mem_cons.mp h with h | h
    · exact .inl h
    · exact .inr (List.mem_filter.mp h).1
theorem prs_ne (h : LOk o L) (ol : o.length ≤ 4) (vb : VB L) (hl : L.length ≤ 60) : opNe (.lst (L.map prE)) (.lst []) = some (.bl (!L.isEmpty)) := by
  have s1 : SmL 2 ((L.map prE).length * 801) (L.map prE) := SmL.all fun y hy => by
    obtain ⟨e, he, rfl⟩ := List.mem_map.mp hy
    have v := vb e he
    exact (Sm.tup (SmL.cons ((KD_sm (h.ok e he) ol)) (SmL.cons ((Sm.int (by omega)).mono (Nat.zero_le 1) (Nat.le_refl _)) (SmL.nil.mono (Nat.zero_le 1) (Nat.le_refl _))))).mono (by decide) (by decide)
  obtain ⟨p, h1, h2⟩ := ((Sm.lst s1).mono (Nat.le_refl _) (Nat.mul_le_mul_right _ (show (L.map prE).length ≤ 60 by rw [List.length_map]; exact hl))).shaped (by decide)
  obtain ⟨ps, h3, h4⟩ := Option.map_eq_some_iff.mp (show (toPyL (L.map prE)).map PyData.list = some p from h1)
  subst h4
  have e2 : toPy (.lst []) = some (.list []) := rfl
  have e3 : SeqAt.shaped (.list []) = true := by decide
  unfold opNe
  rw [h1, e2]
  simp only [Option.bind_some]
  rw [if_pos ⟨h2, e3⟩]
  cases L with
  | nil =>
    cases h3
    simp [PyData.eqv, PyData.eqvAll]
  | cons x r =>
    obtain ⟨q, h5, h6⟩ := Option.bind_eq_some_iff.mp (show ((toPy (prE x)).bind fun p => (toPyL (r.map prE)).map fun q => p :: q) = some ps from h3)
    obtain ⟨qs, h7, h8⟩ := Option.map_eq_some_iff.mp h6
    subst h8
    simp [PyData.eqv, PyData.eqvAll]
theorem bl_repr (b : Bool) : ∃ x : Str, ∀ st, bReprA [.bl b] st = some (.str x) := (Fit.bl b).repr (by decide) (by decide)
noncomputable abbrev dropB : FS := sSeq q_law_0l_5l_0t_0 (sSeq q_law_0l_5l_0t_1 (sSeq q_law_0l_5l_0t_2 q_law_0l_5l_0t_3))
noncomputable abbrev addB : FS := sSeq q_law_0l_5l_0e_0 (sSeq q_law_0l_5l_0e_1 q_law_0l_5l_0e_2)
theorem add_br {sc : D} {k wi f : Int} {x9 x10 x11 x12 : Option D} {q : Kt} (h : Lw o (vD c o sh) s n t a b d L) (ol : o.length ≤ 4) (hq : KOk o q.1 q.2) (vb : VB L) (hL : L.length ≤ 59) (f0 : 0 ≤ f) (f1 : f ≤ 1000000) :
    ∃ L' s' y10, addB (kv sc k n wi (vD c o sh) t f (L.map prE) (some (kdE q)) x9 x10 x11 x12) s = some (.nx, kv sc k n wi (vD c o sh) t f (L'.map prE) (some (kdE q)) x9 y10 x11 x12, s') ∧ Lw o (vD c o sh) s' n t a b d L' ∧ VB L' ∧ L'.length ≤ L.length + 1 := by
  obtain ⟨r, s1, g1, r0, r1, t1, fr1, l1⟩ := pick_ok h.tp (s := 12) (by decide) (by decide)
  have w1 := h.fr t1 fr1
  obtain ⟨v, hv⟩ : ∃ v, v = f * r := ⟨_, rfl⟩
  have v0 : 0 ≤ v := by rw [hv]; exact Int.mul_nonneg f0 r0
  have v1 : v ≤ 12000000 := by
    have : f * r ≤ 1000000 * 12 := Int.mul_le_mul f1 (by omega) r0 (by decide)
    omega
  obtain ⟨s2, g2, l2, ch⟩ := add_ok w1.ls hq ol (by omega) v
  have w2 := w1.ch l2 ch
  have g3 := inserted_ok (c := c) (sh := sh) h.ls.ok hq ol (by omega) v s2
  have nf := w1.ls.noF (m := "add_key") rfl
  refine ⟨putL o L q v, s2 ++ [.dead], some (.int v), ?_, w2.app _, fun e he => ?_, put_len h.ls.ok hq⟩
  · obtain ⟨W, hW⟩ : ∃ W, W = vD c o sh := ⟨_, rfl⟩
    obtain ⟨K, hK⟩ : ∃ K, K = kdE q := ⟨_, rfl⟩
    rw [show KD q.1 q.2 = K from hK.symm] at g2
    rw [← hW, ← hK] at g3
    rw [← hW, ← hK]
    generalize L.map prE = P at *
    generalize (putL o L q v).map prE = P' at *
    have mu : opMul (.int f) (.int r) = some (.int v) := by
      rw [hv]; exact opMul_int (bits32 f0 (by omega)) (bits32 r0 (by omega)) (by decide)
    have c0 : q_law_0l_5l_0e_0 (kv sc k n wi W t f P (some K) x9 x10 x11 x12) s = some (.nx, kv sc k n wi W t f P (some K) x9 (some (.int v)) x11 x12, s1) := by
      have p : fCall m__law_pick (aCons (fVar 2) (aCons (fC (.int 12)) aNil)) (kv sc k n wi W t f P (some K) x9 x10 x11 x12) s = some (.int r, s1) := g1
      rw [q_law_0l_5l_0e_0, u_sAsg, fOp]
      simp only [u_fVar, List.getElem?_cons_succ, List.getElem?_cons_zero, Option.map_some, Option.bind_some, p, mu]
      rfl
    have c1 : q_law_0l_5l_0e_1 (kv sc k n wi W t f P (some K) x9 (some (.int v)) x11 x12) s1 = some (.nx, kv sc k n wi W t f P (some K) x9 (some (.int v)) x11 x12, s2) := by
      rw [q_law_0l_5l_0e_1, u_sDrop, fMeth, show fVar 5 (kv sc k n wi W t f P (some K) x9 (some (.int v)) x11 x12) s1 = some (.ref t, s1) from rfl]
      simp only [Option.bind_some]
      rw [nf]
      simp [aCons, aNil, fVar, g2]
    have c2 : q_law_0l_5l_0e_2 (kv sc k n wi W t f P (some K) x9 (some (.int v)) x11 x12) s2 = some (.nx, kv sc k n wi W t f P' (some K) x9 (some (.int v)) x11 x12, s2 ++ [.dead]) := by
      have p : fCall m__law_inserted (aCons (fVar 4) (aCons (fVar 7) (aCons (fVar 8) (aCons (fVar 10) aNil)))) (kv sc k n wi W t f P (some K) x9 (some (.int v)) x11 x12) s2 = some (.lst P', s2 ++ [.dead]) := g3
      rw [q_law_0l_5l_0e_2, u_sAsg, p]
      rfl
    rw [addB, seq_nx c0, seq_nx c1, c2]
  · rcases put_mem he with rfl | m
    · exact ⟨v0, v1⟩
    · exact vb e m
theorem drop_br {sc : D} {k wi f : Int} {x9 x10 x11 x12 : Option D} {q : Kt} (h : Lw o (vD c o sh) s n t a b d L) (ol : o.length ≤ 4) (hq : KOk o q.1 q.2) (vb : VB L) (hL : L.length ≤ 59) :
    ∃ q' L' s' y9, dropB (kv sc k n wi (vD c o sh) t f (L.map prE) (some (kdE q)) x9 x10 x11 x12) s = some (.nx, kv sc k n wi (vD c o sh) t f (L'.map prE) (some (kdE q')) y9 x10 x11 x12, s') ∧ KOk o q'.1 q'.2 ∧ Lw o (vD c o sh) s' n t a b d L' ∧ VB L' ∧ L'.length ≤ L.length := by
  have lok := h.ls.ok
  have ne := prs_ne lok ol vb (by omega)
  obtain ⟨q', s1, g0, hq', w1⟩ : ∃ q' s1, q_law_0l_5l_0t_0 (kv sc k n wi (vD c o sh) t f (L.map prE) (some (kdE q)) x9 x10 x11 x12) s = some (.nx, kv sc k n wi (vD c o sh) t f (L.map prE) (some (kdE q')) x9 x10 x11 x12, s1) ∧ KOk o q'.1 q'.2 ∧ Lw o (vD c o sh) s1 n t a b d L := by
    obtain ⟨W, hW⟩ : ∃ W, W = vD c o sh := ⟨_, rfl⟩
    obtain ⟨P, hP⟩ : ∃ P, P = L.map prE := ⟨_, rfl⟩
    rw [← hP] at ne
    have t1 : fTest (fOp opNe (fVar 7) (fMk mkLst aNil)) (kv sc k n wi W t f P (some (kdE q)) x9 x10 x11 x12) s = some (!L.isEmpty, s) := by
      have z : ([] : List D).length ≤ sizeLine := sl_of (by simp)
      rw [fTest, fOp, show fVar 7 (kv sc k n wi W t f P (some (kdE q)) x9 x10 x11 x12) s = some (.lst P, s) from rfl]
      simp only [Option.bind_some, u_fMk, aNil, mkLst]
      rw [if_pos z]
      simp [ne, asB]
    rw [← hW, ← hP]
    cases hl : L.isEmpty with
    | true =>
      refine ⟨q, s, ?_, hq, by rw [hW]; exact h⟩
      rw [q_law_0l_5l_0t_0, u_sIf, fAndT, t1, hl]
      rfl
    | false =>
      obtain ⟨r, s1, g1, r0, r1, tp1, fr1, l1⟩ := pick_ok h.tp (s := 2) (by decide) (by decide)
      have w1 := h.fr tp1 fr1
      have p : fCall m__law_pick (aCons (fVar 2) (aCons (fC (.int 2)) aNil)) (kv sc k n wi W t f P (some (kdE q)) x9 x10 x11 x12) s = some (.int r, s1) := g1
      have t2 : fTest (fOp opEq (fCall m__law_pick (aCons (fVar 2) (aCons (fC (.int 2)) aNil))) (fC (.int 0))) (kv sc k n wi W t f P (some (kdE q)) x9 x10 x11 x12) s = some (r == 0, s1) := by
        rw [fTest, fOp, p]
        simp [fC, opEq_int, asB]
      by_cases z : r = 0
      · have nl : 0 < (L.map prE).length := by
          cases L with
          | nil => cases hl
          | cons _ _ => simp
        obtain ⟨e, s2, g2, he, tp2, fr2, l2⟩ := one_ok tp1 (xs := L.map prE) nl (by rw [List.length_map]; omega)
        obtain ⟨x, hx, rfl⟩ := List.mem_map.mp he
        have w2 := w1.fr tp2 fr2
        rw [← hP] at g2
        refine ⟨x.1, s2, ?_, lok.ok x hx, by rw [hW]; exact w2⟩
        have p2 : fCall m__law_one_of (aCons (fVar 2) (aCons (fVar 7) aNil)) (kv sc k n wi W t f P (some (kdE q)) x9 x10 x11 x12) s1 = some (prE x, s2) := g2
        have p0 := pr0 (e := x)
        rw [q_law_0l_5l_0t_0, u_sIf, fAndT, t1, hl]
        simp only [Option.bind_some, Bool.not_false, if_true, t2, z, beq_self_eq_true]
        rw [q_law_0l_5l_0t_0t_0, u_sAsg, fSub, p2]
        simp only [Option.bind_some, u_fC, prE, ixD, p0, Option.map_some]
        rfl
      · refine ⟨q, s1, ?_, hq, by rw [hW]; exact w1⟩
        have : (r == 0) = false := by simpa using z
        rw [q_law_0l_5l_0t_0, u_sIf, fAndT, t1, hl]
        simp only [Option.bind_some, Bool.not_false, if_true, t2, this]
        rfl
  have hi := kd_in hq' ol (ps := L.map Prod.fst) (fun p hp => by obtain ⟨e, he, rfl⟩ := List.mem_map.mp hp; exact lok.ok e he) (by rw [List.length_map]; omega)
  have ha : ((L.map Prod.fst).any fun p => decide (S o p q' = 0)) = hasK o L q' := by rw [List.any_map]; rfl
  have hm : (L.map Prod.fst).map kdE = L.map ksE := by rw [List.map_map]; rfl
  rw [ha, hm] at hi
  obtain ⟨s2, g2, w2⟩ : ∃ s2, m_Listing_drop_key [.ref t, KD q'.1 q'.2] s1 = some (.bl (hasK o L q'), s2) ∧ Lw o (vD c o sh) s2 n t a b d (dropL o L q') := by
    cases z : hasK o L q' with
    | true =>
      obtain ⟨s2, g, l, ch⟩ := drop_yes w1.ls hq' ol (by omega) z
      exact ⟨s2, g, w1.ch l ch⟩
    | false =>
      have e : dropL o L q' = L := by rw [dropL]; exact (no_split lok hq' z).symm
      exact ⟨s1, drop_no w1.ls hq' ol (by omega) z, by rw [e]; exact w1⟩
  obtain ⟨y, hy⟩ := bl_repr (hasK o L q')
  have nf := w1.ls.noF (m := "drop_key") rfl
  have zl : (L.map ksE).length ≤ sizeLine := by rw [List.length_map]; exact sl_of (by omega)
  have zl2 : ((dropL o L q').map prE).length ≤ sizeLine := by rw [List.length_map]; exact sl_of (by have := drop_len lok hq'; omega)
  refine ⟨q', dropL o L q', s2, some (.bl (hasK o L q')), ?_, hq', w2, fun e he => vb e (drop_mem he), drop_len lok hq'⟩
  have lcK := loopC_over (is := [12]) (bd := b1) (f := fSub (fVar 12) (fC (.int 0))) (φ := prE) (ψ := ksE) (env := wipeL (kv sc k n wi (vD c o sh) t f (L.map prE) (some (kdE q')) x9 x10 x11 x12) [12]) (st := s1) (l := L) fun e he => ⟨[prE e], rfl, by
    have p0 := pr0 (e := e)
    have : (setL [12] [prE e] (wipeL (kv sc k n wi (vD c o sh) t f (L.map prE) (some (kdE q')) x9 x10 x11 x12) [12]))[12]? = some (some (prE e)) := rfl
    generalize setL [12] [prE e] (wipeL (kv sc k n wi (vD c o sh) t f (L.map prE) (some (kdE q')) x9 x10 x11 x12) [12]) = G at this ⊢
    simp [fSub, fVar, fC, this, prE, ixD, p0]⟩
  have lcF := flt_ne (i := 7) (j := 12) (k := 8) (env := kv sc k n wi (vD c o sh) t f (L.map prE) (some (kdE q')) (some (.bl (hasK o L q'))) x10 x11 x12) lok hq' ol (fun x => rfl) (fun x => rfl) s2
  obtain ⟨W, hW⟩ : ∃ W, W = vD c o sh := ⟨_, rfl⟩
  obtain ⟨K, hK⟩ : ∃ K, K = kdE q' := ⟨_, rfl⟩
  rw [show KD q'.1 q'.2 = K from hK.symm] at g2
  rw [← hW, ← hK] at g0 lcK lcF
  rw [← hK] at hi
  rw [← hW, ← hK]
  generalize L.map prE = P at *
  generalize L.map ksE = PK at *
  generalize (dropL o L q').map prE = P' at *
  generalize hasK o L q' = z at *
  have c1 : q_law_0l_5l_0t_1 (kv sc k n wi W t f P (some K) x9 x10 x11 x12) s1 = some (.nx, kv sc k n wi W t f P (some K) (some (.bl z)) x10 x11 x12, s1) := by
    have fc : fComp (iOf asL (fVar 7)) [12] b1 tTrue (fSub (fVar 12) (fC (.int 0))) (kv sc k n wi W t f P (some K) x9 x10 x11 x12) s1 = some (.lst PK, s1) := by
      rw [u_fComp, show iOf asL (fVar 7) (kv sc k n wi W t f P (some K) x9 x10 x11 x12) s1 = some (P, s1) from rfl]
      simp only [Option.bind_some]
      rw [lcK]
      simp only [Option.bind_some]
      rw [if_pos zl]
    rw [q_law_0l_5l_0t_1, u_sAsg, fOp, show fVar 8 (kv sc k n wi W t f P (some K) x9 x10 x11 x12) s1 = some (K, s1) from rfl]
    simp only [Option.bind_some]
    rw [fc]
    simp only [Option.bind_some, hi, Option.map_some]
    rfl
  have c2 : q_law_0l_5l_0t_2 (kv sc k n wi W t f P (some K) (some (.bl z)) x10 x11 x12) s1 = some (.nx, kv sc k n wi W t f P (some K) (some (.bl z)) x10 x11 x12, s2) := by
    have y1 : fMeth "Listing" "drop_key" m_Listing_drop_key (fVar 5) (aCons (fVar 8) aNil) (kv sc k n wi W t f P (some K) (some (.bl z)) x10 x11 x12) s1 = some (.bl z, s2) := by
      rw [fMeth, show fVar 5 (kv sc k n wi W t f P (some K) (some (.bl z)) x10 x11 x12) s1 = some (.ref t, s1) from rfl]
      simp only [Option.bind_some]
      rw [nf]
      simp [aCons, aNil, fVar, g2]
    have y2 : fMk bReprA (aCons (fMeth "Listing" "drop_key" m_Listing_drop_key (fVar 5) (aCons (fVar 8) aNil)) aNil) (kv sc k n wi W t f P (some K) (some (.bl z)) x10 x11 x12) s1 = some (.str y, s2) := by
      rw [u_fMk, aCons, y1]
      simp only [Option.bind_some, aNil, Option.map_some, hy]
    have y3 : fMk bReprA (aCons (fVar 9) aNil) (kv sc k n wi W t f P (some K) (some (.bl z)) x10 x11 x12) s2 = some (.str y, s2) := by
      rw [u_fMk, show aCons (fVar 9) aNil (kv sc k n wi W t f P (some K) (some (.bl z)) x10 x11 x12) s2 = some ([.bl z], s2) from rfl]
      simp only [Option.bind_some, hy, Option.map_some]
    rw [q_law_0l_5l_0t_2, u_sIf, fTest, fOp, y2]
    simp only [Option.bind_some]
    rw [y3]
    simp [opNeS_same, asB, sNil]
  have c3 : q_law_0l_5l_0t_3 (kv sc k n wi W t f P (some K) (some (.bl z)) x10 x11 x12) s2 = some (.nx, kv sc k n wi W t f P' (some K) (some (.bl z)) x10 x11 x12, s2) := by
    have fc : fComp (iOf asL (fVar 7)) [12] b1 (fTest (fOp opNe (fSub (fVar 12) (fC (.int 0))) (fVar 8))) (fVar 12) (kv sc k n wi W t f P (some K) (some (.bl z)) x10 x11 x12) s2 = some (.lst P', s2) := by
      rw [u_fComp, show iOf asL (fVar 7) (kv sc k n wi W t f P (some K) (some (.bl z)) x10 x11 x12) s2 = some (P, s2) from rfl]
      simp only [Option.bind_some]
      rw [lcF]
      simp only [Option.bind_some]
      rw [if_pos zl2]
    rw [q_law_0l_5l_0t_3, u_sAsg, fc]
    rfl
  rw [dropB, seq_nx g0, seq_nx c1, seq_nx c2, c3]
noncomputable abbrev lKeyB : FS := sSeq q_law_0l_5l_0 q_law_0l_5l_1
theorem test_marks {sc : D} {k wi f : Int} {x8 x9 x10 x11 x12 : Option D} (h : Lw o (vD c o sh) s n t a b d L) (vo : VOk w c o sh) (w5 : w ≤ 5) (hL : L.length ≤ 60) (f0 : 0 ≤ f) (f1 : f ≤ 1000000) :
    ∃ s', fTest (fCall m__law_marks_right (aCons (fVar 2) (aCons (fVar 5) (aCons (fVar 4) (aCons (fVar 6) (aCons (fVar 7) aNil)))))) (kv sc k n wi (vD c o sh) t f (L.map prE) x8 x9 x10 x11 x12) s = some (true, s') ∧ Lw o (vD c o sh) s' n t a b d L := by
  obtain ⟨s', g, l, _⟩ := marksR_ok h vo w5 hL f0 f1
  refine ⟨s', ?_, l⟩
  have p : fCall m__law_marks_right (aCons (fVar 2) (aCons (fVar 5) (aCons (fVar 4) (aCons (fVar 6) (aCons (fVar 7) aNil))))) (kv sc k n wi (vD c o sh) t f (L.map prE) x8 x9 x10 x11 x12) s = some (.bl true, s') := g
  rw [fTest, p]
  rfl
theorem key_step {sc : D} {k wi f : Int} {x9 x10 x11 x12 : Option D} {q : Kt} (h : Lw o (vD c o sh) s n t a b d L) (vo : VOk w c o sh) (w5 : w ≤ 5) (hq : KOk o q.1 q.2) (vb : VB L) (hL : L.length ≤ 59) (f0 : 0 ≤ f) (f1 : f ≤ 1000000) :
    ∃ L' s' y8 y9 y10, lKeyB (kv sc k n wi (vD c o sh) t f (L.map prE) (some (kdE q)) x9 x10 x11 x12) s = some (.nx, kv sc k n wi (vD c o sh) t f (L'.map prE) y8 y9 y10 x11 x12, s') ∧ Lw o (vD c o sh) s' n t a b d L' ∧ VB L' ∧ L'.length ≤ L.length + 1 := by
  have ol := vo.ol
  obtain ⟨r, s1, g1, r0, r1, t1, fr1, l1⟩ := pick_ok h.tp (s := 4) (by decide) (by decide)
  have w1 := h.fr t1 fr1
  obtain ⟨L', s2, y8, y9, y10, c0, w2, vb2, hl2⟩ : ∃ L' s2 y8 y9 y10, q_law_0l_5l_0 (kv sc k n wi (vD c o sh) t f (L.map prE) (some (kdE q)) x9 x10 x11 x12) s = some (.nx, kv sc k n wi (vD c o sh) t f (L'.map prE) y8 y9 y10 x11 x12, s2) ∧ Lw o (vD c o sh) s2 n t a b d L' ∧ VB L' ∧ L'.length ≤ L.length + 1 := by
    have p : fCall m__law_pick (aCons (fVar 2) (aCons (fC (.int 4)) aNil)) (kv sc k n wi (vD c o sh) t f (L.map prE) (some (kdE q)) x9 x10 x11 x12) s = some (.int r, s1) := g1
    have tt : fTest (fOp opEq (fCall m__law_pick (aCons (fVar 2) (aCons (fC (.int 4)) aNil))) (fC (.int 0))) (kv sc k n wi (vD c o sh) t f (L.map prE) (some (kdE q)) x9 x10 x11 x12) s = some (r == 0, s1) := by
      rw [fTest, fOp, p]
      simp [fC, opEq_int, asB]
    by_cases z : r = 0
    · obtain ⟨q', L', s2, y9, g, _, w2, v2, l2⟩ := drop_br (sc := sc) (k := k) (wi := wi) (f := f) (x9 := x9) (x10 := x10) (x11 := x11) (x12 := x12) w1 ol hq vb hL
      refine ⟨L', s2, some (kdE q'), y9, x10, ?_, w2, v2, by omega⟩
      rw [q_law_0l_5l_0, u_sIf, tt]
      simp only [Option.bind_some, z, beq_self_eq_true, if_true]
      exact g
    · obtain ⟨L', s2, y10, g, w2, v2, l2⟩ := add_br (sc := sc) (k := k) (wi := wi) (f := f) (x9 := x9) (x10 := x10) (x11 := x11) (x12 := x12) w1 ol hq vb hL f0 f1
      refine ⟨L', s2, some (kdE q), x9, y10, ?_, w2, v2, l2⟩
      have : (r == 0) = false := by simpa using z
      rw [q_law_0l_5l_0, u_sIf, tt]
      simp only [Option.bind_some, this, Bool.false_eq_true, if_false]
      exact g
  obtain ⟨r2, s3, g3, r20, r21, t3, fr3, l3⟩ := pick_ok w2.tp (s := 3) (by decide) (by decide)
  have w3 := w2.fr t3 fr3
  have tt : fTest (fOp opGt (fCall m__law_pick (aCons (fVar 2) (aCons (fC (.int 3)) aNil))) (fC (.int 0))) (kv sc k n wi (vD c o sh) t f (L'.map prE) y8 y9 y10 x11 x12) s2 = some (decide (0 < r2), s3) := by
    have p : fCall m__law_pick (aCons (fVar 2) (aCons (fC (.int 3)) aNil)) (kv sc k n wi (vD c o sh) t f (L'.map prE) y8 y9 y10 x11 x12) s2 = some (.int r2, s3) := g3
    rw [fTest, fOp, p]
    simp [fC, opGt_int, asB]
  by_cases z : 0 < r2
  · obtain ⟨s4, g4, w4⟩ := test_marks (sc := sc) (k := k) (wi := wi) (f := f) (x8 := y8) (x9 := y9) (x10 := y10) (x11 := x11) (x12 := x12) w3 vo w5 (by omega) f0 f1
    refine ⟨L', s4, y8, y9, y10, ?_, w4, vb2, hl2⟩
    rw [lKeyB, seq_nx c0, q_law_0l_5l_1, u_sIf, fAndT, tt]
    simp only [Option.bind_some, decide_eq_true z, if_true, fNotT, g4, Option.map_some]
    rfl
  · refine ⟨L', s3, y8, y9, y10, ?_, w3, vb2, hl2⟩
    rw [lKeyB, seq_nx c0, q_law_0l_5l_1, u_sIf, fAndT, tt]
    simp only [Option.bind_some, decide_eq_false z, Bool.false_eq_true, if_false]
    rfl
end LW
namespace LW
open PySem PySem.Spec PyProof.Rows L2 DL TL
variable {c : C} {o : List (Nat × Bool)} {sh : List Nat} {s st : Store} {n t a b d : Nat} {L : LsL} {w : Nat} {V : D}
theorem ls_new (s : Store) (V : D) : m_Listing___init__ [.ref s.length, V] (s ++ [.ins "Listing" []]) = some (.non, s ++ [.ins "Listing" (lsF V (s.length + 1) (s.length + 2) (s.length + 3)), .lst [], .lst [], .lst []]) := by
  have z0 : 0 ≤ sizeLine := Nat.zero_le _
  have at_ : ∀ (fs : List (Str × D)) (l : Store), insAt "Listing" s.length (s ++ Ob.ins "Listing" fs :: l) = some fs := fun fs l => by
    simp [insAt]
  have set_ : ∀ (fs gs : List (Str × D)) (l : Store), (s ++ Ob.ins "Listing" fs :: l).set s.length (.ins "Listing" gs) = s ++ Ob.ins "Listing" gs :: l := fun fs gs l => by
    simp
  let f1 : List (Str × D) := [("_view", V)]
  let f2 : List (Str × D) := [("_view", V), ("_places", .ref (s.length + 1))]
  let f3 : List (Str × D) := [("_view", V), ("_places", .ref (s.length + 1)), ("_keys", .ref (s.length + 2))]
  have p1 : putFD "_view" V [] = f1 := rfl
  have p2 : putFD "_places" (.ref (s.length + 1)) f1 = f2 := rfl
  have p3 : putFD "_keys" (.ref (s.length + 2)) f2 = f3 := rfl
  have p4 : putFD "_versions" (.ref (s.length + 3)) f3 = lsF V (s.length + 1) (s.length + 2) (s.length + 3) := rfl
  have a1 : ∀ (v : F) (f : Str) (fs : List (Str × D)) (d : D) (l l' : Store), fs.length < 1000 → v [some (.ref s.length), some V] (s ++ Ob.ins "Listing" fs :: l) = some (d, s ++ Ob.ins "Listing" fs :: l') →
      sFldD "Listing" f (fVar 0) v [some (.ref s.length), some V] (s ++ Ob.ins "Listing" fs :: l) = some (.nx, [some (.ref s.length), some V], s ++ Ob.ins "Listing" (putFD f d fs) :: l') := fun v f fs d l l' hl hv => by
    simp [sFldD, hv, fVar, at_, hl, set_]
  have nl : ∀ (e : Lo) (u : Store), fNewL aNil e u = some (.ref u.length, u ++ [.lst []]) := fun e u => by
    rw [u_fNewL]
    simp [aNil, z0]
  have e1 := a1 (fVar 1) "_view" [] V [] [] (by decide) (by simp [fVar])
  have e2 := a1 (fNewL aNil) "_places" f1 (.ref (s.length + 1)) [] [.lst []] (by show 1 < 1000; decide) (by rw [nl]; simp)
  have e3 := a1 (fNewL aNil) "_keys" f2 (.ref (s.length + 2)) [.lst []] [.lst [], .lst []] (by show 2 < 1000; decide) (by rw [nl]; simp)
  have e4 := a1 (fNewL aNil) "_versions" f3 (.ref (s.length + 3)) [.lst [], .lst []] [.lst [], .lst [], .lst []] (by show 3 < 1000; decide) (by rw [nl]; simp)
  rw [p1] at e1
  rw [p2] at e2
  rw [p3] at e3
  rw [p4] at e4
  rw [m_Listing___init__, g_Listing___init__]
  show outM (sSeq q_Listing___init___0 _ [some (.ref s.length), some V] (s ++ [.ins "Listing" []])) = _
  rw [seq_nx (show q_Listing___init___0 _ _ = _ from e1), seq_nx (show q_Listing___init___1 _ _ = _ from e2), seq_nx (show q_Listing___init___2 _ _ = _ from e3), show q_Listing___init___3 _ _ = _ from e4]
  rfl
theorem loopS_at {tg : FG} {body : FS} {I : Nat → Lo → Store → Prop} : ∀ {ds : List D} {k : Nat}, (∀ m d, ds[m]? = some d → ∀ env st, I (k + m) env st → ∃ e1, tg d env = some e1 ∧ ∃ e2 s2, body e1 st = some (.nx, e2, s2) ∧ I (k + m + 1) e2 s2) →
    ∀ {env : Lo} {st : Store}, I k env st → ∃ e2 s2, loopS tg body ds env st = some (.nx, e2, s2) ∧ I (k + ds.length) e2 s2
  | [], k, _, env, st, i => ⟨env, st, rfl, i⟩
  | d :: ds, k, h, env, st, i => by
    obtain ⟨e1, h1, e2, s2, h2, i2⟩ := h 0 d rfl env st i
    obtain ⟨e3, s3, h3, i3⟩ := loopS_at (ds := ds) (k := k + 1) (fun m d hd env st j => by
      have := h (m + 1) d (by simpa using hd) env st (by rw [show k + (m + 1) = k + 1 + m by omega]; exact j)
      rwa [show k + (m + 1) + 1 = k + 1 + m + 1 by omega] at this) i2
    refine ⟨e3, s3, by simp [loopS, h1, h2, h3], ?_⟩
    rw [List.length_cons, show k + (ds.length + 1) = k + 1 + ds.length by omega]
    exact i3
theorem new_lst (s : Store) (V : D) : Lst o V (s ++ [.ins "Listing" (lsF V (s.length + 1) (s.length + 2) (s.length + 3)), .lst [], .lst [], .lst []]) s.length (s.length + 1) (s.length + 2) (s.length + 3) [] := by
  refine ⟨?_, ?_, ?_, ?_, LOk.nil, by omega, by omega, by omega⟩
  · unfold insAt
    simp
  · simp
  · simp
  · simp
theorem mk_new {e : Lo} {i : Nat} (h : e[i]? = some (some V)) (s : Store) : fMake "Listing" m_Listing___init__ (aCons (fVar i) aNil) e s = some (.ref s.length, s ++ [.ins "Listing" (lsF V (s.length + 1) (s.length + 2) (s.length + 3)), .lst [], .lst [], .lst []]) := by
  have nw := ls_new s V
  have v : fVar i e s = some (V, s) := by rw [fVar]; simp [h]
  rw [fMake, aCons, v]
  simp only [Option.bind_some, aNil, Option.map_some]
  rw [nw]
  rfl
theorem er_ne {p : Int} (h0 : -1000 ≤ p) (h1 : p ≤ 1000) : opNe (.tup [.str (Str.ofString "error"), .int p]) (.tup [.str (Str.ofString "error"), .int p]) = some (.bl false) :=
  same_ne ((Sm.tup (SmL.cons (sm_name (s := "error") (by decide) 0) (SmL.cons (Sm.int (by omega)) SmL.nil))).shaped (by decide))
theorem at_bad {E : Lo} (h : Lst o (vD c o sh) s t a b d L) (e5 : E[5]? = some (some (.ref t))) {p : Int} (e11 : E[11]? = some (some (.int p))) (hp : p = 0 ∨ ¬ (0 ≤ p ∧ p < (L.length : Int))) (h0 : -1000 ≤ p) (h1 : p ≤ 1000) :
    q_law_0l_8l_0 E s = some (.nx, E, s) := by
  have v5 : fVar 5 E s = some (.ref t, s) := by rw [fVar]; simp [e5]
  have v11 : fVar 11 E s = some (.int p, s) := by rw [fVar]; simp [e11]
  have z2 : ([.str (Str.ofString "error"), .int p] : List D).length ≤ sizeLine := sl_of (by simp)
  have t1 : fTest (fOp opNe (fVar 11) (fC (.int 0))) E s = some (!(p == 0), s) := by
    rw [fTest, fOp, v11]
    simp [fC, opNe_int, asB]
  by_cases z : p = 0
  · rw [q_law_0l_8l_0, u_sIf, fAndT, t1, z]
    rfl
  · have hp' : ¬ (0 ≤ p ∧ p < (L.length : Int)) := hp.resolve_left z
    have lb := lat_bad h hp'
    have ca : fCall m__law_at (aCons (fVar 5) (aCons (fVar 11) aNil)) E s = some (.tup [.str (Str.ofString "error"), .int p], s) := by
      rw [fCall, aCons, v5]
      simp only [Option.bind_some]
      rw [aCons, v11]
      simp only [Option.bind_some, aNil, Option.map_some]
      exact lb
    have ct : fMk mkTup (aCons (fC (.str (Str.ofString "error"))) (aCons (fVar 11) aNil)) E s = some (.tup [.str (Str.ofString "error"), .int p], s) := by
      rw [u_fMk, aCons]
      simp only [u_fC, Option.bind_some]
      rw [aCons, v11]
      simp only [Option.bind_some, aNil, Option.map_some, mkTup]
      rw [if_pos z2]
      rfl
    have : (p == 0) = false := by simpa using z
    rw [q_law_0l_8l_0, u_sIf, fAndT, t1, this]
    simp only [Option.bind_some, Bool.not_false, if_true]
    rw [fTest, fOp, ca]
    simp only [Option.bind_some, ct, er_ne h0 h1, Option.map_some, asB, Bool.false_eq_true, if_false]
    rfl
theorem at_key {E : Lo} (h : Lst o (vD c o sh) s t a b d L) (ol : o.length ≤ 4) (e5 : E[5]? = some (some (.ref t))) {j : Nat} {e : Kt × Int} (he : L[j]? = some e) (e11 : E[11]? = some (some (.int (j : Int)))) (e12 : E[12]? = some (some (prE e))) :
    q_law_0l_9l_0 E s = some (.nx, E, s) := by
  have v5 : fVar 5 E s = some (.ref t, s) := by rw [fVar]; simp [e5]
  have v11 : fVar 11 E s = some (.int (j : Int), s) := by rw [fVar]; simp [e11]
  have v12 : fVar 12 E s = some (prE e, s) := by rw [fVar]; simp [e12]
  have z2 : ([.str (Str.ofString "key"), ksE e] : List D).length ≤ sizeLine := sl_of (by simp)
  have k := h.ok.ok e (List.mem_of_getElem? he)
  obtain ⟨y, hy⟩ : ∃ x : Str, ∀ st, bReprA [.tup [.str (Str.ofString "key"), ksE e]] st = some (.str x) := by
    have f1 : FitL e.1.1 0 (e.1.1.length * 211) := FitL.all fun v hv => fit_pv (k.v v hv)
    have i0 := k.i0
    have i1 := k.i1
    have f2 : Fit (D.int e.1.2) 0 210 := Fit.int (by omega)
    have f3 := f1.append (FitL.cons f2 FitL.nil)
    have kl := k.l
    have f4 : Fit (ksE e) 1 1100 := (Fit.tup f3).mono (by simp) (by
      have : e.1.1.length * 211 ≤ 4 * 211 := Nat.mul_le_mul_right _ (by omega)
      omega)
    have f5 : Fit (.str (Str.ofString "key")) 0 16 := Fit.str (n := 16) (asc_gs (by decide))
    exact (Fit.tup (FitL.cons f5 (FitL.cons f4 FitL.nil))).repr (by decide) (by decide)
  have la := lat_ok h ol he
  have ca : fCall m__law_at (aCons (fVar 5) (aCons (fVar 11) aNil)) E s = some (.tup [.str (Str.ofString "key"), ksE e], s) := by
    rw [fCall, aCons, v5]
    simp only [Option.bind_some]
    rw [aCons, v11]
    simp only [Option.bind_some, aNil, Option.map_some]
    exact la
  have p0 := pr0 (e := e)
  have s12 : fSub (fVar 12) (fC (.int 0)) E s = some (ksE e, s) := by
    rw [fSub, v12]
    simp only [Option.bind_some, u_fC, prE, ixD, p0, Option.map_some]
  have ct : fMk mkTup (aCons (fC (.str (Str.ofString "key"))) (aCons (fSub (fVar 12) (fC (.int 0))) aNil)) E s = some (.tup [.str (Str.ofString "key"), ksE e], s) := by
    rw [u_fMk, aCons]
    simp only [u_fC, Option.bind_some]
    rw [aCons, s12]
    simp only [Option.bind_some, aNil, Option.map_some, mkTup]
    rw [if_pos z2]
    rfl
  have r1 : fMk bReprA (aCons (fCall m__law_at (aCons (fVar 5) (aCons (fVar 11) aNil))) aNil) E s = some (.str y, s) := by
    rw [u_fMk, aCons, ca]
    simp only [Option.bind_some, aNil, Option.map_some, hy]
  have r2 : fMk bReprA (aCons (fMk mkTup (aCons (fC (.str (Str.ofString "key"))) (aCons (fSub (fVar 12) (fC (.int 0))) aNil))) aNil) E s = some (.str y, s) := by
    rw [u_fMk, aCons, ct]
    simp only [Option.bind_some, aNil, Option.map_some, hy]
  rw [q_law_0l_9l_0, u_sIf, fTest, fOp, r1]
  simp only [Option.bind_some]
  rw [r2]
  simp [opNeS_same, asB, sNil]
noncomputable abbrev lTurn : FS := sSeq q_law_0l_0 (sSeq q_law_0l_1 (sSeq q_law_0l_2 (sSeq q_law_0l_3 (sSeq q_law_0l_4 (sSeq q_law_0l_5 (sSeq q_law_0l_6 (sSeq q_law_0l_7 (sSeq q_law_0l_8 q_law_0l_9))))))))
theorem one_start {ns : List Int} (hb : ∀ z ∈ ns, Builtin.Int.intBits z ≤ 1048576) {k : Int} (k0 : 0 ≤ k) (k1 : k < 63) {x2 x3 x4 x5 x6 x7 x8 x9 x10 x11 x12 : Option D} :
    ∃ st' y2 y3 y4 y5 y6 y7 y8 y9 y10 y11 y12, lTurn [some (.scr ns), some (.int k), x2, x3, x4, x5, x6, x7, x8, x9, x10, x11, x12] st = some (.nx, [some (.scr ns), some (.int k), y2, y3, y4, y5, y6, y7, y8, y9, y10, y11, y12], st') := by
  obtain ⟨s0, g1, l0, t0, f0⟩ := tape_ok (st := st) hb (s := k) k0 (by omega)
  obtain ⟨n, hn⟩ : ∃ n, n = st.length := ⟨_, rfl⟩
  rw [← hn] at g1 t0
  obtain ⟨q, s1, g2, q0, q1, t1, f1, _⟩ := pick_ok t0 (s := 5) (by decide) (by decide)
  obtain ⟨wi, hwi0⟩ : ∃ wi : Int, wi = 1 + q := ⟨_, rfl⟩
  obtain ⟨w, hwi⟩ : ∃ w : Nat, wi = (w : Int) := ⟨wi.toNat, (Int.toNat_of_nonneg (by omega)).symm⟩
  obtain ⟨c, o, sh, s2, g3, vo, t2, f2⟩ := view_ok t1 (w := wi) (by omega) (by omega)
  rw [show wi.toNat = w by omega] at vo
  have ol := vo.ol
  obtain ⟨V, hV⟩ : ∃ V, V = vD c o sh := ⟨_, rfl⟩
  rw [← hV] at g3
  have c0 : q_law_0l_0 [some (.scr ns), some (.int k), x2, x3, x4, x5, x6, x7, x8, x9, x10, x11, x12] st = some (.nx, [some (.scr ns), some (.int k), some (.ref n), x3, x4, x5, x6, x7, x8, x9, x10, x11, x12], s0) := asg_call2 (M := m__law_tape) rfl rfl g1 rfl
  have c1 : q_law_0l_1 [some (.scr ns), some (.int k), some (.ref n), x3, x4, x5, x6, x7, x8, x9, x10, x11, x12] s0 = some (.nx, [some (.scr ns), some (.int k), some (.ref n), some (.int wi), x4, x5, x6, x7, x8, x9, x10, x11, x12], s1) := by
    rw [hwi0]
    simp [q_law_0l_1, e_pick, g2, opAdd_int]
  have c2 : q_law_0l_2 [some (.scr ns), some (.int k), some (.ref n), some (.int wi), x4, x5, x6, x7, x8, x9, x10, x11, x12] s1 = some (.nx, [some (.scr ns), some (.int k), some (.ref n), some (.int wi), some V, x5, x6, x7, x8, x9, x10, x11, x12], s2) := by
    have f : fCall m__law_view (aCons (fVar 2) (aCons (fVar 3) aNil)) [some (.scr ns), some (.int k), some (.ref n), some (.int wi), x4, x5, x6, x7, x8, x9, x10, x11, x12] s1 = some (V, s2) := g3
    rw [q_law_0l_2, u_sAsg, f]
    rfl
  have nwl := new_lst (o := o) s2 V
  have mk := fun (e : Lo) (h : e[4]? = some (some V)) => mk_new (i := 4) (V := V) h s2
  obtain ⟨t, ht⟩ : ∃ t, t = s2.length := ⟨_, rfl⟩
  obtain ⟨s3, hs3⟩ : ∃ s3, s3 = s2 ++ [.ins "Listing" (lsF V (s2.length + 1) (s2.length + 2) (s2.length + 3)), .lst [], .lst [], .lst []] := ⟨_, rfl⟩
  rw [← hs3] at nwl mk
  rw [← ht] at nwl mk
  have nl := t2.lt
  have lw3 : Lw o V s3 n t (t + 1) (t + 2) (t + 3) [] := ⟨Tp.of t2 (by rw [hs3, List.getElem?_append_left nl]), nwl, by omega, by omega, by omega, by omega⟩
  obtain ⟨fd, s4, g4, hf, t4, f4, l4⟩ := one_ok lw3.tp (xs := [.int 1, .int 97, .int 1000000]) (by decide) (by decide)
  have lw4 := lw3.fr t4 f4
  obtain ⟨f, rfl, ff0, ff1⟩ : ∃ f : Int, fd = .int f ∧ 0 ≤ f ∧ f ≤ 1000000 := by
    simp only [List.mem_cons, List.not_mem_nil, or_false] at hf
    rcases hf with rfl | rfl | rfl
    · exact ⟨1, rfl, by decide, by decide⟩
    · exact ⟨97, rfl, by decide, by decide⟩
    · exact ⟨1000000, rfl, by decide, by decide⟩
  have c3 : q_law_0l_3 [some (.scr ns), some (.int k), some (.ref n), some (.int wi), some V, x5, x6, x7, x8, x9, x10, x11, x12] s2 = some (.nx, [some (.scr ns), some (.int k), some (.ref n), some (.int wi), some V, some (.ref t), some (.int f), x7, x8, x9, x10, x11, x12], s4) := by
    have f' := mk [some (.scr ns), some (.int k), some (.ref n), some (.int wi), some V, x5, x6, x7, x8, x9, x10, x11, x12] rfl
    have z3 : ([.int 1, .int 97, .int 1000000] : List D).length ≤ sizeLine := sl_of (by simp)
    have ml : fMk mkLst (aCons (fC (.int 1)) (aCons (fC (.int 97)) (aCons (fOp powI (fC (.int 10)) (fC (.int 6))) aNil))) [some (.scr ns), some (.int k), some (.ref n), some (.int wi), some V, x5, x6, x7, x8, x9, x10, x11, x12] s3 = some (.lst [.int 1, .int 97, .int 1000000], s3) := by
      rw [u_fMk]
      simp only [aCons, aNil, u_fC, fOp, pow106, Option.bind_some, Option.map_some, mkLst]
      rw [if_pos z3]
      rfl
    have oc : fCall m__law_one_of (aCons (fVar 2) (aCons (fMk mkLst (aCons (fC (.int 1)) (aCons (fC (.int 97)) (aCons (fOp powI (fC (.int 10)) (fC (.int 6))) aNil)))) aNil)) [some (.scr ns), some (.int k), some (.ref n), some (.int wi), some V, x5, x6, x7, x8, x9, x10, x11, x12] s3 = some (.int f, s4) := by
      rw [fCall, aCons]
      simp only [u_fVar, List.getElem?_cons_succ, List.getElem?_cons_zero, Option.map_some, Option.bind_some]
      rw [aCons, ml]
      simp only [Option.bind_some, aNil, Option.map_some]
      exact g4
    rw [q_law_0l_3, sPar, aCons, f']
    simp only [Option.bind_some]
    rw [aCons, oc]
    simp only [Option.bind_some, aNil, Option.map_some, par2]
    rfl
  have c4 : q_law_0l_4 [some (.scr ns), some (.int k), some (.ref n), some (.int wi), some V, some (.ref t), some (.int f), x7, x8, x9, x10, x11, x12] s4 = some (.nx, kv (.scr ns) k n wi V t f [] x8 x9 x10 x11 x12, s4) := by
    have z : ([] : List D).length ≤ sizeLine := sl_of (by simp)
    rw [q_law_0l_4, u_sAsg, u_fMk, aNil]
    simp only [Option.bind_some, mkLst]
    rw [if_pos z]
    rfl
  obtain ⟨qs, s5, g5, lq, hq, t5, f5, _⟩ := keys_ok (N := 24) t4 vo hwi (by omega) (by decide) (by decide)
  have lw5 := lw4.fr t5 f5
  rw [← hV] at g5
  obtain ⟨e6, s6, h6, ⟨L, y8, y9, y10, rfl, lw6, vb, lL⟩⟩ := loopS_cnt (tg := gN 8) (body := lKeyB) (I := fun m env u => ∃ L y8 y9 y10, env = kv (.scr ns) k n wi V t f (L.map prE) y8 y9 y10 x11 x12 ∧ Lw o V u n t (t + 1) (t + 2) (t + 3) L ∧ VB L ∧ L.length ≤ m) (ds := qs.map kdE) (k := 0) (fun m hm _ d hd env u i => by
    obtain ⟨L, y8, y9, y10, rfl, hu, hvb, hl⟩ := i
    obtain ⟨p, hp, rfl⟩ := List.mem_map.mp hd
    obtain ⟨kp, p9⟩ := hq p hp
    rw [List.length_map] at hm
    obtain ⟨L', s', z8, z9, z10, g, w', v', l'⟩ := key_step (sc := .scr ns) (k := k) (wi := wi) (f := f) (x9 := y9) (x10 := y10) (x11 := x11) (x12 := x12) (show Lw o (vD c o sh) u n t (t + 1) (t + 2) (t + 3) L by rw [← hV]; exact hu) vo (by omega) kp hvb (by omega) ff0 ff1
    rw [← hV] at g w'
    exact ⟨_, rfl, _, s', g, L', z8, z9, z10, rfl, w', v', by omega⟩) (env := kv (.scr ns) k n wi V t f [] x8 x9 x10 x11 x12) (st := s5) ⟨[], _, _, _, rfl, lw5, fun e he => (by cases he), Nat.le_refl _⟩
  rw [List.length_map] at lL
  have L24 : L.length ≤ 24 := by omega
  have c5 : q_law_0l_5 (kv (.scr ns) k n wi V t f [] x8 x9 x10 x11 x12) s4 = some (.nx, kv (.scr ns) k n wi V t f (L.map prE) y8 y9 y10 x11 x12, s6) := by
    have it : iOf asL (fCall m__law_keys (aCons (fVar 2) (aCons (fVar 4) (aCons (fVar 3) (aCons (fC (.int 24)) aNil))))) (kv (.scr ns) k n wi V t f [] x8 x9 x10 x11 x12) s4 = some (qs.map kdE, s5) := by
      have p : fCall m__law_keys (aCons (fVar 2) (aCons (fVar 4) (aCons (fVar 3) (aCons (fC (.int 24)) aNil)))) (kv (.scr ns) k n wi V t f [] x8 x9 x10 x11 x12) s4 = some (.lst (qs.map kdE), s5) := g5
      rw [u_iOf, p]
      rfl
    exact for_nx it h6
  obtain ⟨s7, gm, lw7⟩ := test_marks (sc := .scr ns) (k := k) (wi := wi) (f := f) (x8 := y8) (x9 := y9) (x10 := y10) (x11 := x11) (x12 := x12) (show Lw o (vD c o sh) s6 n t (t + 1) (t + 2) (t + 3) L by rw [← hV]; exact lw6) vo (by omega) (by omega) ff0 ff1
  have ll0 := len_ls (show Lst o (vD c o sh) s6 t (t + 1) (t + 2) (t + 3) L by rw [← hV]; exact lw6.ls)
  have in0 := lw6.ls.ins
  have Pl : (L.map prE).length = L.length := List.length_map _
  have hP' : ∀ {j : Nat} {d : D}, (L.map prE)[j]? = some d → ∃ e, L[j]? = some e ∧ d = prE e := fun {j d} h => by
    rw [List.getElem?_map] at h
    obtain ⟨e, he, rfl⟩ := Option.map_eq_some_iff.mp h
    exact ⟨e, he, rfl⟩
  rw [← hV] at gm
  generalize L.map prE = P at *
  have c6 : q_law_0l_6 (kv (.scr ns) k n wi V t f P y8 y9 y10 x11 x12) s6 = some (.nx, kv (.scr ns) k n wi V t f P y8 y9 y10 x11 x12, s7) := by
    obtain ⟨li, hli⟩ : ∃ li : Int, li = (L.length : Int) := ⟨_, rfl⟩
    rw [← hli] at ll0
    have z0 : 0 ≤ li := by omega
    have z6 : li < 2 ^ 62 := by
      have : li ≤ 90 := by omega
      exact Int.lt_of_le_of_lt this (by decide)
    have e1 : fLenO "Listing" m_Listing___len__ (fVar 5) (kv (.scr ns) k n wi V t f P y8 y9 y10 x11 x12) s6 = some (.int li, s6) := by
      rw [fLenO, show fVar 5 (kv (.scr ns) k n wi V t f P y8 y9 y10 x11 x12) s6 = some (.ref t, s6) from rfl]
      simp only [Option.bind_some, in0, ll0]
      rw [if_pos ⟨z0, z6⟩]
    have e2 : fMk bLen (aCons (fVar 7) aNil) (kv (.scr ns) k n wi V t f P y8 y9 y10 x11 x12) s6 = some (.int li, s6) := by
      simp [fMk, aCons, aNil, fVar, bLen, lenL, lenK, Pl, hli]
    have t1 : fTest (fOp opNe (fLenO "Listing" m_Listing___len__ (fVar 5)) (fMk bLen (aCons (fVar 7) aNil))) (kv (.scr ns) k n wi V t f P y8 y9 y10 x11 x12) s6 = some (false, s6) := by
      rw [fTest, fOp, e1]
      simp only [Option.bind_some]
      rw [e2]
      simp [opNe_int, asB]
    rw [q_law_0l_6, u_sIf, fOrT, t1]
    simp only [Option.bind_some, Bool.false_eq_true, if_false, fNotT, gm, Option.map_some]
    rfl
  -- the empty listing
  have nw8 := new_lst (o := o) s7 V
  have mk8 := mk_new (i := 4) (V := V) (e := kv (.scr ns) k n wi V t f P y8 y9 y10 x11 x12) rfl s7
  obtain ⟨s8, hs8⟩ : ∃ s8, s8 = s7 ++ [.ins "Listing" (lsF V (s7.length + 1) (s7.length + 2) (s7.length + 3)), .lst [], .lst [], .lst []] := ⟨_, rfl⟩
  rw [← hs8] at nw8 mk8
  have lw8 : Lw o (vD c o sh) s8 n t (t + 1) (t + 2) (t + 3) L := by rw [hs8]; exact lw7.app _
  have c7 : q_law_0l_7 (kv (.scr ns) k n wi V t f P y8 y9 y10 x11 x12) s7 = some (.nx, kv (.scr ns) k n wi V t f P y8 y9 y10 x11 x12, s8) := by
    have lb := lat_bad (p := 0) (show Lst o (vD c o sh) s8 s7.length (s7.length + 1) (s7.length + 2) (s7.length + 3) [] by rw [← hV]; exact nw8) (by simp)
    have z2 : ([.str (Str.ofString "error"), .int 0] : List D).length ≤ sizeLine := sl_of (by simp)
    have ca : fCall m__law_at (aCons (fMake "Listing" m_Listing___init__ (aCons (fVar 4) aNil)) (aCons (fC (.int 0)) aNil)) (kv (.scr ns) k n wi V t f P y8 y9 y10 x11 x12) s7 = some (.tup [.str (Str.ofString "error"), .int 0], s8) := by
      rw [fCall, aCons, mk8]
      simp only [Option.bind_some]
      rw [aCons]
      simp only [u_fC, Option.bind_some, aNil, Option.map_some]
      exact lb
    have ct : fMk mkTup (aCons (fC (.str (Str.ofString "error"))) (aCons (fC (.int 0)) aNil)) (kv (.scr ns) k n wi V t f P y8 y9 y10 x11 x12) s8 = some (.tup [.str (Str.ofString "error"), .int 0], s8) := by
      rw [u_fMk]
      simp only [aCons, aNil, u_fC, Option.bind_some, Option.map_some, mkTup]
      rw [if_pos z2]
      rfl
    rw [q_law_0l_7, u_sIf, fTest, fOp, ca]
    simp only [Option.bind_some, ct, er_ne (p := 0) (by decide) (by decide), Option.map_some, asB, Bool.false_eq_true, if_false]
    rfl
  have it8 : iOf asL (fMk mkLst (aCons (fUn negI (fC (.int 1))) (aCons (fMk bLen (aCons (fVar 7) aNil)) (aCons (fOp opAdd (fMk bLen (aCons (fVar 7) aNil)) (fC (.int 5))) (aCons (fOp subI (fC (.int 0)) (fMk bLen (aCons (fVar 7) aNil))) aNil))))) (kv (.scr ns) k n wi V t f P y8 y9 y10 x11 x12) s8 = some ([.int (-1), .int (L.length : Int), .int ((L.length : Int) + 5), .int (0 - (L.length : Int))], s8) := by
    have e2 : fMk bLen (aCons (fVar 7) aNil) (kv (.scr ns) k n wi V t f P y8 y9 y10 x11 x12) s8 = some (.int (L.length : Int), s8) := by
      simp [fMk, aCons, aNil, fVar, bLen, lenL, lenK, Pl]
    have e1 : fUn negI (fC (.int 1)) (kv (.scr ns) k n wi V t f P y8 y9 y10 x11 x12) s8 = some (.int (-1), s8) := rfl
    have e3 : fOp opAdd (fMk bLen (aCons (fVar 7) aNil)) (fC (.int 5)) (kv (.scr ns) k n wi V t f P y8 y9 y10 x11 x12) s8 = some (.int ((L.length : Int) + 5), s8) := by
      rw [fOp, e2]
      simp [fC, opAdd_int]
    have e4 : fOp subI (fC (.int 0)) (fMk bLen (aCons (fVar 7) aNil)) (kv (.scr ns) k n wi V t f P y8 y9 y10 x11 x12) s8 = some (.int (0 - (L.length : Int)), s8) := by
      rw [fOp]
      simp only [u_fC, Option.bind_some, e2, subI_int, Option.map_some]
    have z4 : ([.int (-1), .int (L.length : Int), .int ((L.length : Int) + 5), .int (0 - (L.length : Int))] : List D).length ≤ sizeLine := sl_of (by simp)
    rw [u_iOf, u_fMk, aCons, e1]
    simp only [Option.bind_some]
    rw [aCons, e2]
    simp only [Option.bind_some]
    rw [aCons, e3]
    simp only [Option.bind_some]
    rw [aCons, e4]
    simp only [Option.bind_some, aNil, Option.map_some, mkLst]
    rw [if_pos z4]
    rfl
  obtain ⟨e9, s9, h9, ⟨z11, rfl, rfl⟩⟩ := loopS_inv' (tg := gN 11) (body := q_law_0l_8l_0) (fun env u => ∃ z11, env = kv (.scr ns) k n wi V t f P y8 y9 y10 z11 x12 ∧ s8 = u) (ds := [.int (-1), .int (L.length : Int), .int ((L.length : Int) + 5), .int (0 - (L.length : Int))]) (fun d hd env u i => by
    obtain ⟨z11, rfl, rfl⟩ := i
    obtain ⟨p, rfl, hp, h0, h1⟩ : ∃ p : Int, d = .int p ∧ (p = 0 ∨ ¬ (0 ≤ p ∧ p < (L.length : Int))) ∧ -1000 ≤ p ∧ p ≤ 1000 := by
      simp only [List.mem_cons, List.not_mem_nil, or_false] at hd
      rcases hd with rfl | rfl | rfl | rfl
      · exact ⟨_, rfl, .inr (by omega), by omega, by omega⟩
      · exact ⟨_, rfl, .inr (by omega), by omega, by omega⟩
      · exact ⟨_, rfl, .inr (by omega), by omega, by omega⟩
      · exact ⟨_, rfl, by omega, by omega, by omega⟩
    exact ⟨kv (.scr ns) k n wi V t f P y8 y9 y10 (some (.int p)) x12, rfl, _, s8, at_bad lw8.ls rfl rfl hp h0 h1, _, rfl, rfl⟩) (env := kv (.scr ns) k n wi V t f P y8 y9 y10 x11 x12) (st := s8) ⟨_, rfl, rfl⟩
  have c8 : q_law_0l_8 (kv (.scr ns) k n wi V t f P y8 y9 y10 x11 x12) s8 = some (.nx, kv (.scr ns) k n wi V t f P y8 y9 y10 z11 x12, s8) := for_nx it8 h9
  obtain ⟨e10, s10, h10, ⟨w11, w12, rfl, rfl⟩⟩ := loopS_at (tg := gT 2 (gCons' (gN 11) (gCons' (gN 12) gNil'))) (body := q_law_0l_9l_0) (I := fun _ env u => ∃ z11 z12, env = kv (.scr ns) k n wi V t f P y8 y9 y10 z11 z12 ∧ s8 = u) (ds := pairUp 0 P) (k := 0) (fun m d hd env u i => by
    obtain ⟨z11, z12, rfl, rfl⟩ := i
    obtain ⟨z, hz, rfl⟩ := pairUp_get hd
    obtain ⟨e, he, rfl⟩ := hP' hz
    rw [Nat.zero_add] at *
    exact ⟨kv (.scr ns) k n wi V t f P y8 y9 y10 (some (.int (m : Int))) (some (prE e)), rfl, _, s8, at_key lw8.ls ol rfl he rfl rfl, _, _, rfl, rfl⟩) (env := kv (.scr ns) k n wi V t f P y8 y9 y10 z11 x12) (st := s8) ⟨_, _, rfl, rfl⟩
  have it9 : iOfA asEnL (aCons (fVar 7) aNil) (kv (.scr ns) k n wi V t f P y8 y9 y10 z11 x12) s8 = some (pairUp 0 P, s8) := rfl
  have c9 : q_law_0l_9 (kv (.scr ns) k n wi V t f P y8 y9 y10 z11 x12) s8 = some (.nx, kv (.scr ns) k n wi V t f P y8 y9 y10 w11 w12, s8) := for_nx it9 h10
  refine ⟨s8, some (.ref n), some (.int wi), some V, some (.ref t), some (.int f), some (.lst P), y8, y9, y10, w11, w12, ?_⟩
  rw [lTurn, seq_nx c0, seq_nx c1, seq_nx c2, seq_nx c3, seq_nx c4, seq_nx c5, seq_nx c6, seq_nx c7, seq_nx c8, c9]
noncomputable abbrev lIt : FI := (iOfA asR1 (aCons (fMk bMax (aCons (fC (.int 1)) (aCons (fMk bMin (aCons (fC (.int 3)) (aCons (fMk bLen (aCons (fVar 0) aNil)) aNil))) aNil))) aNil))
theorem law_true (ns : List Int) (h : ns.length ≤ 63) (hb : ∀ z ∈ ns, Builtin.Int.intBits z ≤ 1048576) : ∃ st', m_law [.scr ns] [] = some (.bl true, st') := by
  obtain ⟨S0, hS⟩ : ∃ S0 : Store, S0 = [] := ⟨_, rfl⟩
  obtain ⟨j, hj, hj2⟩ : ∃ j : Int, lIt [some (.scr ns), none, none, none, none, none, none, none, none, none, none, none, none] S0 = some (rg 0 j, S0) ∧ j ≤ 4 := by
    refine ⟨if (if (ns.length : Int) < 3 then (ns.length : Int) else 3) > 1 then (if (ns.length : Int) < 3 then (ns.length : Int) else 3) else 1, ?_, by split <;> (try split) <;> omega⟩
    generalize hq : (if (if (ns.length : Int) < 3 then (ns.length : Int) else 3) > 1 then (if (ns.length : Int) < 3 then (ns.length : Int) else 3) else 1) = q
    have q0 : 0 ≤ q ∧ q ≤ 4 := by
      subst hq
      split <;> (try split) <;> omega
    have := asR1_ok (n := q) q0.1 (by omega)
    simp [lIt, iOfA, aCons, aNil, fMk, fC, fVar, bMax, bMin, bLen, lenL]
    simp at hq
    rw [hq, this]
  obtain ⟨e2, s2, h2, y1, y2, y3, y4, y5, y6, y7, y8, y9, y10, y11, y12, he2⟩ := loopS_inv' (tg := gN 1) (body := lTurn) (fun env s => ∃ y1 y2 y3 y4 y5 y6 y7 y8 y9 y10 y11 y12, env = [some (.scr ns), y1, y2, y3, y4, y5, y6, y7, y8, y9, y10, y11, y12]) (ds := rg 0 j) (fun d hd env st i => by
      obtain ⟨y1, y2, y3, y4, y5, y6, y7, y8, y9, y10, y11, y12, rfl⟩ := i
      obtain ⟨k, rfl, k0, k1⟩ := rg_mem hd
      obtain ⟨st', z2, z3, z4, z5, z6, z7, z8, z9, z10, z11, z12, ee⟩ := one_start hb (st := st) k0 (by omega) (x2 := y2) (x3 := y3) (x4 := y4) (x5 := y5) (x6 := y6) (x7 := y7) (x8 := y8) (x9 := y9) (x10 := y10) (x11 := y11) (x12 := y12)
      exact ⟨[some (.scr ns), some (.int k), y2, y3, y4, y5, y6, y7, y8, y9, y10, y11, y12], rfl, _, st', ee, _, _, _, _, _, _, _, _, _, _, _, _, rfl⟩) (env := [some (.scr ns), none, none, none, none, none, none, none, none, none, none, none, none]) (st := S0) ⟨_, _, _, _, _, _, _, _, _, _, _, _, rfl⟩
  refine ⟨s2, ?_⟩
  have c1 : q_law_0 [some (.scr ns), none, none, none, none, none, none, none, none, none, none, none, none] S0 = some (.nx, e2, s2) := for_nx hj h2
  show outM (g_law [some (.scr ns), none, none, none, none, none, none, none, none, none, none, none, none] []) = _
  rw [← hS, g_law, seq_nx c1]
  rfl
end LW
namespace LW
open PySem PySem.Spec PyProof.Rows L2 DL
theorem all_mk {l : PySem.W.OpenLaw} {w : World} {K : PySem.W.Frag} {h : Heap} {mg : Str → Option Value} {fa : Addr} (X : K.In h) (G : h.Ns mainGlobals mg) (hfa : mg "law" = some (.ref fa))
    {C_Listing : Addr} (aC_Listing : PySem.W.nsIn K mainGlobals "Listing" = some (some (.ref C_Listing))) (pg_Listing : PySem.W.plainGet K C_Listing Str.empty = true) (hd_Listing : PySem.W.hasDictIn K C_Listing = true) (po_Listing : PySem.W.plainOver K C_Listing = true) (sa_Listing : PySem.W.findIn K (.ref C_Listing) "__setattr__" = some (some (.builtin "object.__setattr__"))) (km_Listing : PySem.W.makesIn K C_Listing = true) (kc_Listing : PySem.W.keepIn K (.ref C_Listing) = true)
    (nf_Listing__keys : PySem.W.findIn K (.ref C_Listing) "_keys" = some none)
    (nf_Listing__places : PySem.W.findIn K (.ref C_Listing) "_places" = some none)
    (nf_Listing__versions : PySem.W.findIn K (.ref C_Listing) "_versions" = some none)
    (nf_Listing__view : PySem.W.findIn K (.ref C_Listing) "_view" = some none)
    {p_kind_place : Addr} {od_kind_place an_kind_place : Option Addr} {sl_kind_place : Array (Option Value)} {oc_kind_place kV_kind_place dc_kind_place pm_kind_place cd_kind_place ct_kind_place : Value}
    (a_kind_place : PySem.W.nsIn K mainGlobals "kind_place" = some (some (.ref p_kind_place))) (l_kind_place : K.lookup p_kind_place = some ⟨oc_kind_place, od_kind_place, .func (PySem.W.fnOf "kind_place" "kind_place" (defArgs s_kind_place) (defBody s_kind_place) (defScope s_kind_place) .none kV_kind_place dc_kind_place pm_kind_place an_kind_place cd_kind_place ct_kind_place), sl_kind_place⟩) (c_kind_place : PySem.W.codeIn K cd_kind_place "kind_place" = true) (k_kind_place : PySem.W.keepIn K (.ref p_kind_place) = true)
    {p_value_place : Addr} {od_value_place an_value_place : Option Addr} {sl_value_place : Array (Option Value)} {oc_value_place kV_value_place dc_value_place pm_value_place cd_value_place ct_value_place : Value}
    (a_value_place : PySem.W.nsIn K mainGlobals "value_place" = some (some (.ref p_value_place))) (l_value_place : K.lookup p_value_place = some ⟨oc_value_place, od_value_place, .func (PySem.W.fnOf "value_place" "value_place" (defArgs s_value_place) (defBody s_value_place) (defScope s_value_place) .none kV_value_place dc_value_place pm_value_place an_value_place cd_value_place ct_value_place), sl_value_place⟩) (c_value_place : PySem.W.codeIn K cd_value_place "value_place" = true) (k_value_place : PySem.W.keepIn K (.ref p_value_place) = true)
    {p_key_place : Addr} {od_key_place an_key_place : Option Addr} {sl_key_place : Array (Option Value)} {oc_key_place kV_key_place dc_key_place pm_key_place cd_key_place ct_key_place : Value}
    (a_key_place : PySem.W.nsIn K mainGlobals "key_place" = some (some (.ref p_key_place))) (l_key_place : K.lookup p_key_place = some ⟨oc_key_place, od_key_place, .func (PySem.W.fnOf "key_place" "key_place" (defArgs s_key_place) (defBody s_key_place) (defScope s_key_place) .none kV_key_place dc_key_place pm_key_place an_key_place cd_key_place ct_key_place), sl_key_place⟩) (c_key_place : PySem.W.codeIn K cd_key_place "key_place" = true) (k_key_place : PySem.W.keepIn K (.ref p_key_place) = true)
    {p_first_from : Addr} {od_first_from an_first_from : Option Addr} {sl_first_from : Array (Option Value)} {oc_first_from kV_first_from dc_first_from pm_first_from cd_first_from ct_first_from : Value}
    (a_first_from : PySem.W.nsIn K mainGlobals "first_from" = some (some (.ref p_first_from))) (l_first_from : K.lookup p_first_from = some ⟨oc_first_from, od_first_from, .func (PySem.W.fnOf "first_from" "first_from" (defArgs s_first_from) (defBody s_first_from) (defScope s_first_from) .none kV_first_from dc_first_from pm_first_from an_first_from cd_first_from ct_first_from), sl_first_from⟩) (c_first_from : PySem.W.codeIn K cd_first_from "first_from" = true) (k_first_from : PySem.W.keepIn K (.ref p_first_from) = true)
    {p__law_tape : Addr} {od__law_tape an__law_tape : Option Addr} {sl__law_tape : Array (Option Value)} {oc__law_tape kV__law_tape dc__law_tape pm__law_tape cd__law_tape ct__law_tape : Value}
    (a__law_tape : PySem.W.nsIn K mainGlobals "_law_tape" = some (some (.ref p__law_tape))) (l__law_tape : K.lookup p__law_tape = some ⟨oc__law_tape, od__law_tape, .func (PySem.W.fnOf "_law_tape" "_law_tape" (defArgs s__law_tape) (defBody s__law_tape) (defScope s__law_tape) .none kV__law_tape dc__law_tape pm__law_tape an__law_tape cd__law_tape ct__law_tape), sl__law_tape⟩) (c__law_tape : PySem.W.codeIn K cd__law_tape "_law_tape" = true) (k__law_tape : PySem.W.keepIn K (.ref p__law_tape) = true)
    {p__law_pick : Addr} {od__law_pick an__law_pick : Option Addr} {sl__law_pick : Array (Option Value)} {oc__law_pick kV__law_pick dc__law_pick pm__law_pick cd__law_pick ct__law_pick : Value}
    (a__law_pick : PySem.W.nsIn K mainGlobals "_law_pick" = some (some (.ref p__law_pick))) (l__law_pick : K.lookup p__law_pick = some ⟨oc__law_pick, od__law_pick, .func (PySem.W.fnOf "_law_pick" "_law_pick" (defArgs s__law_pick) (defBody s__law_pick) (defScope s__law_pick) .none kV__law_pick dc__law_pick pm__law_pick an__law_pick cd__law_pick ct__law_pick), sl__law_pick⟩) (c__law_pick : PySem.W.codeIn K cd__law_pick "_law_pick" = true) (k__law_pick : PySem.W.keepIn K (.ref p__law_pick) = true)
    {p__law_one_of : Addr} {od__law_one_of an__law_one_of : Option Addr} {sl__law_one_of : Array (Option Value)} {oc__law_one_of kV__law_one_of dc__law_one_of pm__law_one_of cd__law_one_of ct__law_one_of : Value}
    (a__law_one_of : PySem.W.nsIn K mainGlobals "_law_one_of" = some (some (.ref p__law_one_of))) (l__law_one_of : K.lookup p__law_one_of = some ⟨oc__law_one_of, od__law_one_of, .func (PySem.W.fnOf "_law_one_of" "_law_one_of" (defArgs s__law_one_of) (defBody s__law_one_of) (defScope s__law_one_of) .none kV__law_one_of dc__law_one_of pm__law_one_of an__law_one_of cd__law_one_of ct__law_one_of), sl__law_one_of⟩) (c__law_one_of : PySem.W.codeIn K cd__law_one_of "_law_one_of" = true) (k__law_one_of : PySem.W.keepIn K (.ref p__law_one_of) = true)
    {p__law_value : Addr} {od__law_value an__law_value : Option Addr} {sl__law_value : Array (Option Value)} {oc__law_value kV__law_value dc__law_value pm__law_value cd__law_value ct__law_value : Value}
    (a__law_value : PySem.W.nsIn K mainGlobals "_law_value" = some (some (.ref p__law_value))) (l__law_value : K.lookup p__law_value = some ⟨oc__law_value, od__law_value, .func (PySem.W.fnOf "_law_value" "_law_value" (defArgs s__law_value) (defBody s__law_value) (defScope s__law_value) .none kV__law_value dc__law_value pm__law_value an__law_value cd__law_value ct__law_value), sl__law_value⟩) (c__law_value : PySem.W.codeIn K cd__law_value "_law_value" = true) (k__law_value : PySem.W.keepIn K (.ref p__law_value) = true)
    {p__law_values : Addr} {od__law_values an__law_values : Option Addr} {sl__law_values : Array (Option Value)} {oc__law_values kV__law_values dc__law_values pm__law_values cd__law_values ct__law_values : Value}
    (a__law_values : PySem.W.nsIn K mainGlobals "_law_values" = some (some (.ref p__law_values))) (l__law_values : K.lookup p__law_values = some ⟨oc__law_values, od__law_values, .func (PySem.W.fnOf "_law_values" "_law_values" (defArgs s__law_values) (defBody s__law_values) (defScope s__law_values) .none kV__law_values dc__law_values pm__law_values an__law_values cd__law_values ct__law_values), sl__law_values⟩) (c__law_values : PySem.W.codeIn K cd__law_values "_law_values" = true) (k__law_values : PySem.W.keepIn K (.ref p__law_values) = true)
    {p__law_test : Addr} {od__law_test an__law_test : Option Addr} {sl__law_test : Array (Option Value)} {oc__law_test kV__law_test dc__law_test pm__law_test cd__law_test ct__law_test : Value}
    (a__law_test : PySem.W.nsIn K mainGlobals "_law_test" = some (some (.ref p__law_test))) (l__law_test : K.lookup p__law_test = some ⟨oc__law_test, od__law_test, .func (PySem.W.fnOf "_law_test" "_law_test" (defArgs s__law_test) (defBody s__law_test) (defScope s__law_test) .none kV__law_test dc__law_test pm__law_test an__law_test cd__law_test ct__law_test), sl__law_test⟩) (c__law_test : PySem.W.codeIn K cd__law_test "_law_test" = true) (k__law_test : PySem.W.keepIn K (.ref p__law_test) = true)
    {p__law_condition : Addr} {od__law_condition an__law_condition : Option Addr} {sl__law_condition : Array (Option Value)} {oc__law_condition kV__law_condition dc__law_condition pm__law_condition cd__law_condition ct__law_condition : Value}
    (a__law_condition : PySem.W.nsIn K mainGlobals "_law_condition" = some (some (.ref p__law_condition))) (l__law_condition : K.lookup p__law_condition = some ⟨oc__law_condition, od__law_condition, .func (PySem.W.fnOf "_law_condition" "_law_condition" (defArgs s__law_condition) (defBody s__law_condition) (defScope s__law_condition) .none kV__law_condition dc__law_condition pm__law_condition an__law_condition cd__law_condition ct__law_condition), sl__law_condition⟩) (c__law_condition : PySem.W.codeIn K cd__law_condition "_law_condition" = true) (k__law_condition : PySem.W.keepIn K (.ref p__law_condition) = true)
    {p__law_view : Addr} {od__law_view an__law_view : Option Addr} {sl__law_view : Array (Option Value)} {oc__law_view kV__law_view dc__law_view pm__law_view cd__law_view ct__law_view : Value}
    (a__law_view : PySem.W.nsIn K mainGlobals "_law_view" = some (some (.ref p__law_view))) (l__law_view : K.lookup p__law_view = some ⟨oc__law_view, od__law_view, .func (PySem.W.fnOf "_law_view" "_law_view" (defArgs s__law_view) (defBody s__law_view) (defScope s__law_view) .none kV__law_view dc__law_view pm__law_view an__law_view cd__law_view ct__law_view), sl__law_view⟩) (c__law_view : PySem.W.codeIn K cd__law_view "_law_view" = true) (k__law_view : PySem.W.keepIn K (.ref p__law_view) = true)
    {p__law_rank : Addr} {od__law_rank an__law_rank : Option Addr} {sl__law_rank : Array (Option Value)} {oc__law_rank kV__law_rank dc__law_rank pm__law_rank cd__law_rank ct__law_rank : Value}
    (a__law_rank : PySem.W.nsIn K mainGlobals "_law_rank" = some (some (.ref p__law_rank))) (l__law_rank : K.lookup p__law_rank = some ⟨oc__law_rank, od__law_rank, .func (PySem.W.fnOf "_law_rank" "_law_rank" (defArgs s__law_rank) (defBody s__law_rank) (defScope s__law_rank) .none kV__law_rank dc__law_rank pm__law_rank an__law_rank cd__law_rank ct__law_rank), sl__law_rank⟩) (c__law_rank : PySem.W.codeIn K cd__law_rank "_law_rank" = true) (k__law_rank : PySem.W.keepIn K (.ref p__law_rank) = true)
    {p__law_key : Addr} {od__law_key an__law_key : Option Addr} {sl__law_key : Array (Option Value)} {oc__law_key kV__law_key dc__law_key pm__law_key cd__law_key ct__law_key : Value}
    (a__law_key : PySem.W.nsIn K mainGlobals "_law_key" = some (some (.ref p__law_key))) (l__law_key : K.lookup p__law_key = some ⟨oc__law_key, od__law_key, .func (PySem.W.fnOf "_law_key" "_law_key" (defArgs s__law_key) (defBody s__law_key) (defScope s__law_key) .none kV__law_key dc__law_key pm__law_key an__law_key cd__law_key ct__law_key), sl__law_key⟩) (c__law_key : PySem.W.codeIn K cd__law_key "_law_key" = true) (k__law_key : PySem.W.keepIn K (.ref p__law_key) = true)
    {p__law_sign : Addr} {od__law_sign an__law_sign : Option Addr} {sl__law_sign : Array (Option Value)} {oc__law_sign kV__law_sign dc__law_sign pm__law_sign cd__law_sign ct__law_sign : Value}
    (a__law_sign : PySem.W.nsIn K mainGlobals "_law_sign" = some (some (.ref p__law_sign))) (l__law_sign : K.lookup p__law_sign = some ⟨oc__law_sign, od__law_sign, .func (PySem.W.fnOf "_law_sign" "_law_sign" (defArgs s__law_sign) (defBody s__law_sign) (defScope s__law_sign) .none kV__law_sign dc__law_sign pm__law_sign an__law_sign cd__law_sign ct__law_sign), sl__law_sign⟩) (c__law_sign : PySem.W.codeIn K cd__law_sign "_law_sign" = true) (k__law_sign : PySem.W.keepIn K (.ref p__law_sign) = true)
    {p__law_past : Addr} {od__law_past an__law_past : Option Addr} {sl__law_past : Array (Option Value)} {oc__law_past kV__law_past dc__law_past pm__law_past cd__law_past ct__law_past : Value}
    (a__law_past : PySem.W.nsIn K mainGlobals "_law_past" = some (some (.ref p__law_past))) (l__law_past : K.lookup p__law_past = some ⟨oc__law_past, od__law_past, .func (PySem.W.fnOf "_law_past" "_law_past" (defArgs s__law_past) (defBody s__law_past) (defScope s__law_past) .none kV__law_past dc__law_past pm__law_past an__law_past cd__law_past ct__law_past), sl__law_past⟩) (c__law_past : PySem.W.codeIn K cd__law_past "_law_past" = true) (k__law_past : PySem.W.keepIn K (.ref p__law_past) = true)
    {p__law_mark : Addr} {od__law_mark an__law_mark : Option Addr} {sl__law_mark : Array (Option Value)} {oc__law_mark kV__law_mark dc__law_mark pm__law_mark cd__law_mark ct__law_mark : Value}
    (a__law_mark : PySem.W.nsIn K mainGlobals "_law_mark" = some (some (.ref p__law_mark))) (l__law_mark : K.lookup p__law_mark = some ⟨oc__law_mark, od__law_mark, .func (PySem.W.fnOf "_law_mark" "_law_mark" (defArgs s__law_mark) (defBody s__law_mark) (defScope s__law_mark) .none kV__law_mark dc__law_mark pm__law_mark an__law_mark cd__law_mark ct__law_mark), sl__law_mark⟩) (c__law_mark : PySem.W.codeIn K cd__law_mark "_law_mark" = true) (k__law_mark : PySem.W.keepIn K (.ref p__law_mark) = true)
    {p__law_marks : Addr} {od__law_marks an__law_marks : Option Addr} {sl__law_marks : Array (Option Value)} {oc__law_marks kV__law_marks dc__law_marks pm__law_marks cd__law_marks ct__law_marks : Value}
    (a__law_marks : PySem.W.nsIn K mainGlobals "_law_marks" = some (some (.ref p__law_marks))) (l__law_marks : K.lookup p__law_marks = some ⟨oc__law_marks, od__law_marks, .func (PySem.W.fnOf "_law_marks" "_law_marks" (defArgs s__law_marks) (defBody s__law_marks) (defScope s__law_marks) .none kV__law_marks dc__law_marks pm__law_marks an__law_marks cd__law_marks ct__law_marks), sl__law_marks⟩) (c__law_marks : PySem.W.codeIn K cd__law_marks "_law_marks" = true) (k__law_marks : PySem.W.keepIn K (.ref p__law_marks) = true)
    {p__law_keys : Addr} {od__law_keys an__law_keys : Option Addr} {sl__law_keys : Array (Option Value)} {oc__law_keys kV__law_keys dc__law_keys pm__law_keys cd__law_keys ct__law_keys : Value}
    (a__law_keys : PySem.W.nsIn K mainGlobals "_law_keys" = some (some (.ref p__law_keys))) (l__law_keys : K.lookup p__law_keys = some ⟨oc__law_keys, od__law_keys, .func (PySem.W.fnOf "_law_keys" "_law_keys" (defArgs s__law_keys) (defBody s__law_keys) (defScope s__law_keys) .none kV__law_keys dc__law_keys pm__law_keys an__law_keys cd__law_keys ct__law_keys), sl__law_keys⟩) (c__law_keys : PySem.W.codeIn K cd__law_keys "_law_keys" = true) (k__law_keys : PySem.W.keepIn K (.ref p__law_keys) = true)
    {p__law_inserted : Addr} {od__law_inserted an__law_inserted : Option Addr} {sl__law_inserted : Array (Option Value)} {oc__law_inserted kV__law_inserted dc__law_inserted pm__law_inserted cd__law_inserted ct__law_inserted : Value}
    (a__law_inserted : PySem.W.nsIn K mainGlobals "_law_inserted" = some (some (.ref p__law_inserted))) (l__law_inserted : K.lookup p__law_inserted = some ⟨oc__law_inserted, od__law_inserted, .func (PySem.W.fnOf "_law_inserted" "_law_inserted" (defArgs s__law_inserted) (defBody s__law_inserted) (defScope s__law_inserted) .none kV__law_inserted dc__law_inserted pm__law_inserted an__law_inserted cd__law_inserted ct__law_inserted), sl__law_inserted⟩) (c__law_inserted : PySem.W.codeIn K cd__law_inserted "_law_inserted" = true) (k__law_inserted : PySem.W.keepIn K (.ref p__law_inserted) = true)
    {p_Listing_key_at : Addr} {od_Listing_key_at an_Listing_key_at : Option Addr} {sl_Listing_key_at : Array (Option Value)} {oc_Listing_key_at kV_Listing_key_at dc_Listing_key_at pm_Listing_key_at cd_Listing_key_at ct_Listing_key_at : Value}
    (a_Listing_key_at : PySem.W.findIn K (.ref C_Listing) "key_at" = some (some (.ref p_Listing_key_at))) (i_Listing_key_at : PySem.W.isFn K (.ref p_Listing_key_at) = true) (l_Listing_key_at : K.lookup p_Listing_key_at = some ⟨oc_Listing_key_at, od_Listing_key_at, .func (PySem.W.fnOf "key_at" "Listing.key_at" (defArgs s_Listing_key_at) (defBody s_Listing_key_at) (defScope s_Listing_key_at) .none kV_Listing_key_at dc_Listing_key_at pm_Listing_key_at an_Listing_key_at cd_Listing_key_at ct_Listing_key_at), sl_Listing_key_at⟩) (c_Listing_key_at : PySem.W.codeIn K cd_Listing_key_at "Listing.key_at" = true) (k_Listing_key_at : PySem.W.keepIn K (.ref p_Listing_key_at) = true)
    {p__law_at : Addr} {od__law_at an__law_at : Option Addr} {sl__law_at : Array (Option Value)} {oc__law_at kV__law_at dc__law_at pm__law_at cd__law_at ct__law_at : Value}
    (a__law_at : PySem.W.nsIn K mainGlobals "_law_at" = some (some (.ref p__law_at))) (l__law_at : K.lookup p__law_at = some ⟨oc__law_at, od__law_at, .func (PySem.W.fnOf "_law_at" "_law_at" (defArgs s__law_at) (defBody s__law_at) (defScope s__law_at) .none kV__law_at dc__law_at pm__law_at an__law_at cd__law_at ct__law_at), sl__law_at⟩) (c__law_at : PySem.W.codeIn K cd__law_at "_law_at" = true) (k__law_at : PySem.W.keepIn K (.ref p__law_at) = true)
    {p_Listing___len__ : Addr} {od_Listing___len__ an_Listing___len__ : Option Addr} {sl_Listing___len__ : Array (Option Value)} {oc_Listing___len__ kV_Listing___len__ dc_Listing___len__ pm_Listing___len__ cd_Listing___len__ ct_Listing___len__ : Value}
    (a_Listing___len__ : PySem.W.findIn K (.ref C_Listing) "__len__" = some (some (.ref p_Listing___len__))) (i_Listing___len__ : PySem.W.isFn K (.ref p_Listing___len__) = true) (l_Listing___len__ : K.lookup p_Listing___len__ = some ⟨oc_Listing___len__, od_Listing___len__, .func (PySem.W.fnOf "__len__" "Listing.__len__" (defArgs s_Listing___len__) (defBody s_Listing___len__) (defScope s_Listing___len__) .none kV_Listing___len__ dc_Listing___len__ pm_Listing___len__ an_Listing___len__ cd_Listing___len__ ct_Listing___len__), sl_Listing___len__⟩) (c_Listing___len__ : PySem.W.codeIn K cd_Listing___len__ "Listing.__len__" = true) (k_Listing___len__ : PySem.W.keepIn K (.ref p_Listing___len__) = true)
    {p_Listing__holds : Addr} {od_Listing__holds an_Listing__holds : Option Addr} {sl_Listing__holds : Array (Option Value)} {oc_Listing__holds kV_Listing__holds dc_Listing__holds pm_Listing__holds cd_Listing__holds ct_Listing__holds : Value}
    (a_Listing__holds : PySem.W.findIn K (.ref C_Listing) "_holds" = some (some (.ref p_Listing__holds))) (i_Listing__holds : PySem.W.isFn K (.ref p_Listing__holds) = true) (l_Listing__holds : K.lookup p_Listing__holds = some ⟨oc_Listing__holds, od_Listing__holds, .func (PySem.W.fnOf "_holds" "Listing._holds" (defArgs s_Listing__holds) (defBody s_Listing__holds) (defScope s_Listing__holds) .none kV_Listing__holds dc_Listing__holds pm_Listing__holds an_Listing__holds cd_Listing__holds ct_Listing__holds), sl_Listing__holds⟩) (c_Listing__holds : PySem.W.codeIn K cd_Listing__holds "Listing._holds" = true) (k_Listing__holds : PySem.W.keepIn K (.ref p_Listing__holds) = true)
    {p_Listing_rank_of : Addr} {od_Listing_rank_of an_Listing_rank_of : Option Addr} {sl_Listing_rank_of : Array (Option Value)} {oc_Listing_rank_of kV_Listing_rank_of dc_Listing_rank_of pm_Listing_rank_of cd_Listing_rank_of ct_Listing_rank_of : Value}
    (a_Listing_rank_of : PySem.W.findIn K (.ref C_Listing) "rank_of" = some (some (.ref p_Listing_rank_of))) (i_Listing_rank_of : PySem.W.isFn K (.ref p_Listing_rank_of) = true) (l_Listing_rank_of : K.lookup p_Listing_rank_of = some ⟨oc_Listing_rank_of, od_Listing_rank_of, .func (PySem.W.fnOf "rank_of" "Listing.rank_of" (defArgs s_Listing_rank_of) (defBody s_Listing_rank_of) (defScope s_Listing_rank_of) .none kV_Listing_rank_of dc_Listing_rank_of pm_Listing_rank_of an_Listing_rank_of cd_Listing_rank_of ct_Listing_rank_of), sl_Listing_rank_of⟩) (c_Listing_rank_of : PySem.W.codeIn K cd_Listing_rank_of "Listing.rank_of" = true) (k_Listing_rank_of : PySem.W.keepIn K (.ref p_Listing_rank_of) = true)
    {p_Listing__versions_between : Addr} {od_Listing__versions_between an_Listing__versions_between : Option Addr} {sl_Listing__versions_between : Array (Option Value)} {oc_Listing__versions_between kV_Listing__versions_between dc_Listing__versions_between pm_Listing__versions_between cd_Listing__versions_between ct_Listing__versions_between : Value}
    (a_Listing__versions_between : PySem.W.findIn K (.ref C_Listing) "_versions_between" = some (some (.ref p_Listing__versions_between))) (i_Listing__versions_between : PySem.W.isFn K (.ref p_Listing__versions_between) = true) (l_Listing__versions_between : K.lookup p_Listing__versions_between = some ⟨oc_Listing__versions_between, od_Listing__versions_between, .func (PySem.W.fnOf "_versions_between" "Listing._versions_between" (defArgs s_Listing__versions_between) (defBody s_Listing__versions_between) (defScope s_Listing__versions_between) .none kV_Listing__versions_between dc_Listing__versions_between pm_Listing__versions_between an_Listing__versions_between cd_Listing__versions_between ct_Listing__versions_between), sl_Listing__versions_between⟩) (c_Listing__versions_between : PySem.W.codeIn K cd_Listing__versions_between "Listing._versions_between" = true) (k_Listing__versions_between : PySem.W.keepIn K (.ref p_Listing__versions_between) = true)
    {p_Listing_count_between : Addr} {od_Listing_count_between an_Listing_count_between : Option Addr} {sl_Listing_count_between : Array (Option Value)} {oc_Listing_count_between kV_Listing_count_between dc_Listing_count_between pm_Listing_count_between cd_Listing_count_between ct_Listing_count_between : Value}
    (a_Listing_count_between : PySem.W.findIn K (.ref C_Listing) "count_between" = some (some (.ref p_Listing_count_between))) (i_Listing_count_between : PySem.W.isFn K (.ref p_Listing_count_between) = true) (l_Listing_count_between : K.lookup p_Listing_count_between = some ⟨oc_Listing_count_between, od_Listing_count_between, .func (PySem.W.fnOf "count_between" "Listing.count_between" (defArgs s_Listing_count_between) (defBody s_Listing_count_between) (defScope s_Listing_count_between) .none kV_Listing_count_between dc_Listing_count_between pm_Listing_count_between an_Listing_count_between cd_Listing_count_between ct_Listing_count_between), sl_Listing_count_between⟩) (c_Listing_count_between : PySem.W.codeIn K cd_Listing_count_between "Listing.count_between" = true) (k_Listing_count_between : PySem.W.keepIn K (.ref p_Listing_count_between) = true)
    {p_Listing_unchanged_between : Addr} {od_Listing_unchanged_between an_Listing_unchanged_between : Option Addr} {sl_Listing_unchanged_between : Array (Option Value)} {oc_Listing_unchanged_between kV_Listing_unchanged_between dc_Listing_unchanged_between pm_Listing_unchanged_between cd_Listing_unchanged_between ct_Listing_unchanged_between : Value}
    (a_Listing_unchanged_between : PySem.W.findIn K (.ref C_Listing) "unchanged_between" = some (some (.ref p_Listing_unchanged_between))) (i_Listing_unchanged_between : PySem.W.isFn K (.ref p_Listing_unchanged_between) = true) (l_Listing_unchanged_between : K.lookup p_Listing_unchanged_between = some ⟨oc_Listing_unchanged_between, od_Listing_unchanged_between, .func (PySem.W.fnOf "unchanged_between" "Listing.unchanged_between" (defArgs s_Listing_unchanged_between) (defBody s_Listing_unchanged_between) (defScope s_Listing_unchanged_between) .none kV_Listing_unchanged_between dc_Listing_unchanged_between pm_Listing_unchanged_between an_Listing_unchanged_between cd_Listing_unchanged_between ct_Listing_unchanged_between), sl_Listing_unchanged_between⟩) (c_Listing_unchanged_between : PySem.W.codeIn K cd_Listing_unchanged_between "Listing.unchanged_between" = true) (k_Listing_unchanged_between : PySem.W.keepIn K (.ref p_Listing_unchanged_between) = true)
    {p_Listing_keys_before : Addr} {od_Listing_keys_before an_Listing_keys_before : Option Addr} {sl_Listing_keys_before : Array (Option Value)} {oc_Listing_keys_before kV_Listing_keys_before dc_Listing_keys_before pm_Listing_keys_before cd_Listing_keys_before ct_Listing_keys_before : Value}
    (a_Listing_keys_before : PySem.W.findIn K (.ref C_Listing) "keys_before" = some (some (.ref p_Listing_keys_before))) (i_Listing_keys_before : PySem.W.isFn K (.ref p_Listing_keys_before) = true) (l_Listing_keys_before : K.lookup p_Listing_keys_before = some ⟨oc_Listing_keys_before, od_Listing_keys_before, .func (PySem.W.fnOf "keys_before" "Listing.keys_before" (defArgs s_Listing_keys_before) (defBody s_Listing_keys_before) (defScope s_Listing_keys_before) .none kV_Listing_keys_before dc_Listing_keys_before pm_Listing_keys_before an_Listing_keys_before cd_Listing_keys_before ct_Listing_keys_before), sl_Listing_keys_before⟩) (c_Listing_keys_before : PySem.W.codeIn K cd_Listing_keys_before "Listing.keys_before" = true) (k_Listing_keys_before : PySem.W.keepIn K (.ref p_Listing_keys_before) = true)
    {p_Listing_keys_after : Addr} {od_Listing_keys_after an_Listing_keys_after : Option Addr} {sl_Listing_keys_after : Array (Option Value)} {oc_Listing_keys_after kV_Listing_keys_after dc_Listing_keys_after pm_Listing_keys_after cd_Listing_keys_after ct_Listing_keys_after : Value}
    (a_Listing_keys_after : PySem.W.findIn K (.ref C_Listing) "keys_after" = some (some (.ref p_Listing_keys_after))) (i_Listing_keys_after : PySem.W.isFn K (.ref p_Listing_keys_after) = true) (l_Listing_keys_after : K.lookup p_Listing_keys_after = some ⟨oc_Listing_keys_after, od_Listing_keys_after, .func (PySem.W.fnOf "keys_after" "Listing.keys_after" (defArgs s_Listing_keys_after) (defBody s_Listing_keys_after) (defScope s_Listing_keys_after) .none kV_Listing_keys_after dc_Listing_keys_after pm_Listing_keys_after an_Listing_keys_after cd_Listing_keys_after ct_Listing_keys_after), sl_Listing_keys_after⟩) (c_Listing_keys_after : PySem.W.codeIn K cd_Listing_keys_after "Listing.keys_after" = true) (k_Listing_keys_after : PySem.W.keepIn K (.ref p_Listing_keys_after) = true)
    {p__law_marks_right : Addr} {od__law_marks_right an__law_marks_right : Option Addr} {sl__law_marks_right : Array (Option Value)} {oc__law_marks_right kV__law_marks_right dc__law_marks_right pm__law_marks_right cd__law_marks_right ct__law_marks_right : Value}
    (a__law_marks_right : PySem.W.nsIn K mainGlobals "_law_marks_right" = some (some (.ref p__law_marks_right))) (l__law_marks_right : K.lookup p__law_marks_right = some ⟨oc__law_marks_right, od__law_marks_right, .func (PySem.W.fnOf "_law_marks_right" "_law_marks_right" (defArgs s__law_marks_right) (defBody s__law_marks_right) (defScope s__law_marks_right) .none kV__law_marks_right dc__law_marks_right pm__law_marks_right an__law_marks_right cd__law_marks_right ct__law_marks_right), sl__law_marks_right⟩) (c__law_marks_right : PySem.W.codeIn K cd__law_marks_right "_law_marks_right" = true) (k__law_marks_right : PySem.W.keepIn K (.ref p__law_marks_right) = true)
    {p_Listing___init__ : Addr} {od_Listing___init__ an_Listing___init__ : Option Addr} {sl_Listing___init__ : Array (Option Value)} {oc_Listing___init__ kV_Listing___init__ dc_Listing___init__ pm_Listing___init__ cd_Listing___init__ ct_Listing___init__ : Value}
    (a_Listing___init__ : PySem.W.findIn K (.ref C_Listing) "__init__" = some (some (.ref p_Listing___init__))) (i_Listing___init__ : PySem.W.isFn K (.ref p_Listing___init__) = true) (l_Listing___init__ : K.lookup p_Listing___init__ = some ⟨oc_Listing___init__, od_Listing___init__, .func (PySem.W.fnOf "__init__" "Listing.__init__" (defArgs s_Listing___init__) (defBody s_Listing___init__) (defScope s_Listing___init__) .none kV_Listing___init__ dc_Listing___init__ pm_Listing___init__ an_Listing___init__ cd_Listing___init__ ct_Listing___init__), sl_Listing___init__⟩) (c_Listing___init__ : PySem.W.codeIn K cd_Listing___init__ "Listing.__init__" = true) (k_Listing___init__ : PySem.W.keepIn K (.ref p_Listing___init__) = true)
    {p_Listing_drop_key : Addr} {od_Listing_drop_key an_Listing_drop_key : Option Addr} {sl_Listing_drop_key : Array (Option Value)} {oc_Listing_drop_key kV_Listing_drop_key dc_Listing_drop_key pm_Listing_drop_key cd_Listing_drop_key ct_Listing_drop_key : Value}
    (a_Listing_drop_key : PySem.W.findIn K (.ref C_Listing) "drop_key" = some (some (.ref p_Listing_drop_key))) (i_Listing_drop_key : PySem.W.isFn K (.ref p_Listing_drop_key) = true) (l_Listing_drop_key : K.lookup p_Listing_drop_key = some ⟨oc_Listing_drop_key, od_Listing_drop_key, .func (PySem.W.fnOf "drop_key" "Listing.drop_key" (defArgs s_Listing_drop_key) (defBody s_Listing_drop_key) (defScope s_Listing_drop_key) .none kV_Listing_drop_key dc_Listing_drop_key pm_Listing_drop_key an_Listing_drop_key cd_Listing_drop_key ct_Listing_drop_key), sl_Listing_drop_key⟩) (c_Listing_drop_key : PySem.W.codeIn K cd_Listing_drop_key "Listing.drop_key" = true) (k_Listing_drop_key : PySem.W.keepIn K (.ref p_Listing_drop_key) = true)
    {p_Listing_add_key : Addr} {od_Listing_add_key an_Listing_add_key : Option Addr} {sl_Listing_add_key : Array (Option Value)} {oc_Listing_add_key kV_Listing_add_key dc_Listing_add_key pm_Listing_add_key cd_Listing_add_key ct_Listing_add_key : Value}
    (a_Listing_add_key : PySem.W.findIn K (.ref C_Listing) "add_key" = some (some (.ref p_Listing_add_key))) (i_Listing_add_key : PySem.W.isFn K (.ref p_Listing_add_key) = true) (l_Listing_add_key : K.lookup p_Listing_add_key = some ⟨oc_Listing_add_key, od_Listing_add_key, .func (PySem.W.fnOf "add_key" "Listing.add_key" (defArgs s_Listing_add_key) (defBody s_Listing_add_key) (defScope s_Listing_add_key) .none kV_Listing_add_key dc_Listing_add_key pm_Listing_add_key an_Listing_add_key cd_Listing_add_key ct_Listing_add_key), sl_Listing_add_key⟩) (c_Listing_add_key : PySem.W.codeIn K cd_Listing_add_key "Listing.add_key" = true) (k_Listing_add_key : PySem.W.keepIn K (.ref p_Listing_add_key) = true)
    {p_law : Addr} {od_law an_law : Option Addr} {sl_law : Array (Option Value)} {oc_law kV_law dc_law pm_law cd_law ct_law : Value}
    (a_law : PySem.W.nsIn K mainGlobals "law" = some (some (.ref p_law))) (l_law : K.lookup p_law = some ⟨oc_law, od_law, .func (PySem.W.fnOf "law" "law" (defArgs s_law) (defBody s_law) (defScope s_law) .none kV_law dc_law pm_law an_law cd_law ct_law), sl_law⟩) (c_law : PySem.W.codeIn K cd_law "law" = true) (k_law : PySem.W.keepIn K (.ref p_law) = true)
    (ty_Listing : PySem.W.typeIn K (.ref p_Listing___len__) = some (.type "function"))
    {X_BadCount Q_BadCount I_BadCount : Addr} {xn_BadCount xq_BadCount : Str} {xN_BadCount : Addr} {xb_BadCount : List Value} {xs_BadCount : List Str} {xu_BadCount : List Value} {xa_BadCount : Bool} {xc_BadCount : Option Bool} {xd_BadCount : Option Addr} {x0_BadCount x1_BadCount x2_BadCount x3_BadCount x5_BadCount : Option Value} {iod_BadCount ian_BadCount : Option Addr} {isl_BadCount : Array (Option Value)} {ioc_BadCount idc_BadCount ipm_BadCount icd_BadCount ict_BadCount : Value}
    (aX_BadCount : PySem.W.nsIn K mainGlobals "BadCount" = some (some (.ref X_BadCount))) (xL_BadCount : K.lookup X_BadCount = some (excClassObj xn_BadCount xq_BadCount X_BadCount xN_BadCount xb_BadCount [.ref Q_BadCount, .type "ValueError", .type "Exception", .type "BaseException", .type "object"] true xs_BadCount xu_BadCount xa_BadCount xc_BadCount xd_BadCount x0_BadCount x1_BadCount x2_BadCount x3_BadCount x5_BadCount "ValueError.__new__"))
    (sa_BadCount : PySem.W.findIn K (.ref X_BadCount) "__setattr__" = some (some (.builtin "object.__setattr__"))) (ga_BadCount : PySem.W.findIn K (.ref X_BadCount) "__getattribute__" = some (some (.builtin "BaseException.__getattribute__"))) (gg_BadCount : PySem.W.findIn K (.ref X_BadCount) "__getattr__" = some none) (nb_BadCount : PySem.W.findIn K (.ref X_BadCount) "count" = some none)
    (a1_BadCount : PySem.W.findIn K (.ref X_BadCount) "__init__" = some (some (.ref I_BadCount))) (t1_BadCount : PySem.W.typeIn K (.ref I_BadCount) = some (.type "function"))
    (l1_BadCount : K.lookup I_BadCount = some ⟨ioc_BadCount, iod_BadCount, .func (PySem.W.fnOf "__init__" "BadCount.__init__" (xA "count" ⟨13, 17, 13, 21⟩ ⟨13, 23, 13, 28⟩) (xB "count" ⟨14, 8, 14, 12⟩ ⟨14, 8, 14, 18⟩ ⟨14, 21, 14, 26⟩ ⟨14, 8, 14, 26⟩) (xS "count") .none .none idc_BadCount ipm_BadCount ian_BadCount icd_BadCount ict_BadCount), isl_BadCount⟩) (c1_BadCount : PySem.W.codeIn K icd_BadCount "BadCount.__init__" = true)
    (kC_BadCount : PySem.W.keepIn K (.ref X_BadCount) = true) (eC_BadCount : PySem.W.subIn K (.ref X_BadCount) (.type "BaseException") = some true) (tC_BadCount : PySem.W.typeIn K (.ref X_BadCount) = some (.type "type")) (hC_BadCount : PySem.W.hasDictIn K X_BadCount = true) (iC_BadCount : PySem.W.isClsIn K X_BadCount = true) (sC_BadCount : PySem.W.subIn K (.ref X_BadCount) (.ref X_BadCount) = some true)
    (n_enumerate : PySem.W.nsIn K mainGlobals "enumerate" = some none)
    (n_isinstance : PySem.W.nsIn K mainGlobals "isinstance" = some none)
    (n_len : PySem.W.nsIn K mainGlobals "len" = some none)
    (n_list : PySem.W.nsIn K mainGlobals "list" = some none)
    (n_max : PySem.W.nsIn K mainGlobals "max" = some none)
    (n_min : PySem.W.nsIn K mainGlobals "min" = some none)
    (n_ord : PySem.W.nsIn K mainGlobals "ord" = some none)
    (n_range : PySem.W.nsIn K mainGlobals "range" = some none)
    (n_repr : PySem.W.nsIn K mainGlobals "repr" = some none)
    (n_str : PySem.W.nsIn K mainGlobals "str" = some none)
    (n_tuple : PySem.W.nsIn K mainGlobals "tuple" = some none)
    (n_zip : PySem.W.nsIn K mainGlobals "zip" = some none)
    : ∃ fd : FuncData, (∀ (s : Shared) (v : Value), BindsTo s fd ⟨[v], []⟩ [("script", v)]) ∧ ∀ base : Heap, K.In base → base.Ns mainGlobals mg → FnD l.prog w K mg base 11 fa fd ["script"] m_law := by
  have e := hfa.symm.trans (PySem.W.mg_of X G a_law)
  cases e
  let T : Txt K mg := { a_kind_place := p_kind_place, f_kind_place := _, F_kind_place := fun_mk (st := s_kind_place) l_kind_place c_kind_place k_kind_place, b_kind_place := (fun_mk (st := s_kind_place) l_kind_place c_kind_place k_kind_place).binds (ps := ["value"]) (fun _ _ _ _ _ _ us hl => (match us, hl with | [_], _ => rfl)), g_kind_place := PySem.W.mg_of X G a_kind_place, a_value_place := p_value_place, f_value_place := _, F_value_place := fun_mk (st := s_value_place) l_value_place c_value_place k_value_place, b_value_place := (fun_mk (st := s_value_place) l_value_place c_value_place k_value_place).binds (ps := ["value", "descending"]) (fun _ _ _ _ _ _ us hl => (match us, hl with | [_, _], _ => rfl)), g_value_place := PySem.W.mg_of X G a_value_place, a_key_place := p_key_place, f_key_place := _, F_key_place := fun_mk (st := s_key_place) l_key_place c_key_place k_key_place, b_key_place := (fun_mk (st := s_key_place) l_key_place c_key_place k_key_place).binds (ps := ["view", "key"]) (fun _ _ _ _ _ _ us hl => (match us, hl with | [_, _], _ => rfl)), g_key_place := PySem.W.mg_of X G a_key_place, a_first_from := p_first_from, f_first_from := _, F_first_from := fun_mk (st := s_first_from) l_first_from c_first_from k_first_from, b_first_from := (fun_mk (st := s_first_from) l_first_from c_first_from k_first_from).binds (ps := ["places", "place"]) (fun _ _ _ _ _ _ us hl => (match us, hl with | [_, _], _ => rfl)), g_first_from := PySem.W.mg_of X G a_first_from, a__law_tape := p__law_tape, f__law_tape := _, F__law_tape := fun_mk (st := s__law_tape) l__law_tape c__law_tape k__law_tape, b__law_tape := (fun_mk (st := s__law_tape) l__law_tape c__law_tape k__law_tape).binds (ps := ["script", "start"]) (fun _ _ _ _ _ _ us hl => (match us, hl with | [_, _], _ => rfl)), g__law_tape := PySem.W.mg_of X G a__law_tape, a__law_pick := p__law_pick, f__law_pick := _, F__law_pick := fun_mk (st := s__law_pick) l__law_pick c__law_pick k__law_pick, b__law_pick := (fun_mk (st := s__law_pick) l__law_pick c__law_pick k__law_pick).binds (ps := ["tape", "size"]) (fun _ _ _ _ _ _ us hl => (match us, hl with | [_, _], _ => rfl)), g__law_pick := PySem.W.mg_of X G a__law_pick, a__law_one_of := p__law_one_of, f__law_one_of := _, F__law_one_of := fun_mk (st := s__law_one_of) l__law_one_of c__law_one_of k__law_one_of, b__law_one_of := (fun_mk (st := s__law_one_of) l__law_one_of c__law_one_of k__law_one_of).binds (ps := ["tape", "items"]) (fun _ _ _ _ _ _ us hl => (match us, hl with | [_, _], _ => rfl)), g__law_one_of := PySem.W.mg_of X G a__law_one_of, a__law_value := p__law_value, f__law_value := _, F__law_value := fun_mk (st := s__law_value) l__law_value c__law_value k__law_value, b__law_value := (fun_mk (st := s__law_value) l__law_value c__law_value k__law_value).binds (ps := ["tape"]) (fun _ _ _ _ _ _ us hl => (match us, hl with | [_], _ => rfl)), g__law_value := PySem.W.mg_of X G a__law_value, a__law_values := p__law_values, f__law_values := _, F__law_values := fun_mk (st := s__law_values) l__law_values c__law_values k__law_values, b__law_values := (fun_mk (st := s__law_values) l__law_values c__law_values k__law_values).binds (ps := ["tape", "width"]) (fun _ _ _ _ _ _ us hl => (match us, hl with | [_, _], _ => rfl)), g__law_values := PySem.W.mg_of X G a__law_values, a__law_test := p__law_test, f__law_test := _, F__law_test := fun_mk (st := s__law_test) l__law_test c__law_test k__law_test, b__law_test := (fun_mk (st := s__law_test) l__law_test c__law_test k__law_test).binds (ps := ["tape", "width"]) (fun _ _ _ _ _ _ us hl => (match us, hl with | [_, _], _ => rfl)), g__law_test := PySem.W.mg_of X G a__law_test, a__law_condition := p__law_condition, f__law_condition := _, F__law_condition := fun_mk (st := s__law_condition) l__law_condition c__law_condition k__law_condition, b__law_condition := (fun_mk (st := s__law_condition) l__law_condition c__law_condition k__law_condition).binds (ps := ["tape", "width", "depth"]) (fun _ _ _ _ _ _ us hl => (match us, hl with | [_, _, _], _ => rfl)), g__law_condition := PySem.W.mg_of X G a__law_condition, a__law_view := p__law_view, f__law_view := _, F__law_view := fun_mk (st := s__law_view) l__law_view c__law_view k__law_view, b__law_view := (fun_mk (st := s__law_view) l__law_view c__law_view k__law_view).binds (ps := ["tape", "width"]) (fun _ _ _ _ _ _ us hl => (match us, hl with | [_, _], _ => rfl)), g__law_view := PySem.W.mg_of X G a__law_view, a__law_rank := p__law_rank, f__law_rank := _, F__law_rank := fun_mk (st := s__law_rank) l__law_rank c__law_rank k__law_rank, b__law_rank := (fun_mk (st := s__law_rank) l__law_rank c__law_rank k__law_rank).binds (ps := ["value"]) (fun _ _ _ _ _ _ us hl => (match us, hl with | [_], _ => rfl)), g__law_rank := PySem.W.mg_of X G a__law_rank, a__law_key := p__law_key, f__law_key := _, F__law_key := fun_mk (st := s__law_key) l__law_key c__law_key k__law_key, b__law_key := (fun_mk (st := s__law_key) l__law_key c__law_key k__law_key).binds (ps := ["view", "number", "values"]) (fun _ _ _ _ _ _ us hl => (match us, hl with | [_, _, _], _ => rfl)), g__law_key := PySem.W.mg_of X G a__law_key, a__law_sign := p__law_sign, f__law_sign := _, F__law_sign := fun_mk (st := s__law_sign) l__law_sign c__law_sign k__law_sign, b__law_sign := (fun_mk (st := s__law_sign) l__law_sign c__law_sign k__law_sign).binds (ps := ["view", "first", "second"]) (fun _ _ _ _ _ _ us hl => (match us, hl with | [_, _, _], _ => rfl)), g__law_sign := PySem.W.mg_of X G a__law_sign, a__law_past := p__law_past, f__law_past := _, F__law_past := fun_mk (st := s__law_past) l__law_past c__law_past k__law_past, b__law_past := (fun_mk (st := s__law_past) l__law_past c__law_past k__law_past).binds (ps := ["view", "mark", "key"]) (fun _ _ _ _ _ _ us hl => (match us, hl with | [_, _, _], _ => rfl)), g__law_past := PySem.W.mg_of X G a__law_past, a__law_mark := p__law_mark, f__law_mark := _, F__law_mark := fun_mk (st := s__law_mark) l__law_mark c__law_mark k__law_mark, b__law_mark := (fun_mk (st := s__law_mark) l__law_mark c__law_mark k__law_mark).binds (ps := ["tape", "view", "width"]) (fun _ _ _ _ _ _ us hl => (match us, hl with | [_, _, _], _ => rfl)), g__law_mark := PySem.W.mg_of X G a__law_mark, a__law_marks := p__law_marks, f__law_marks := _, F__law_marks := fun_mk (st := s__law_marks) l__law_marks c__law_marks k__law_marks, b__law_marks := (fun_mk (st := s__law_marks) l__law_marks c__law_marks k__law_marks).binds (ps := ["tape", "view", "width"]) (fun _ _ _ _ _ _ us hl => (match us, hl with | [_, _, _], _ => rfl)), g__law_marks := PySem.W.mg_of X G a__law_marks, a__law_keys := p__law_keys, f__law_keys := _, F__law_keys := fun_mk (st := s__law_keys) l__law_keys c__law_keys k__law_keys, b__law_keys := (fun_mk (st := s__law_keys) l__law_keys c__law_keys k__law_keys).binds (ps := ["tape", "view", "width", "size"]) (fun _ _ _ _ _ _ us hl => (match us, hl with | [_, _, _, _], _ => rfl)), g__law_keys := PySem.W.mg_of X G a__law_keys, a__law_inserted := p__law_inserted, f__law_inserted := _, F__law_inserted := fun_mk (st := s__law_inserted) l__law_inserted c__law_inserted k__law_inserted, b__law_inserted := (fun_mk (st := s__law_inserted) l__law_inserted c__law_inserted k__law_inserted).binds (ps := ["view", "pairs", "key", "changed"]) (fun _ _ _ _ _ _ us hl => (match us, hl with | [_, _, _, _], _ => rfl)), g__law_inserted := PySem.W.mg_of X G a__law_inserted, a_Listing_key_at := p_Listing_key_at, f_Listing_key_at := _, F_Listing_key_at := fun_mk (st := s_Listing_key_at) l_Listing_key_at c_Listing_key_at k_Listing_key_at, b_Listing_key_at := (fun_mk (st := s_Listing_key_at) l_Listing_key_at c_Listing_key_at k_Listing_key_at).binds (ps := ["self", "place"]) (fun _ _ _ _ _ _ us hl => (match us, hl with | [_, _], _ => rfl)), a__law_at := p__law_at, f__law_at := _, F__law_at := fun_mk (st := s__law_at) l__law_at c__law_at k__law_at, b__law_at := (fun_mk (st := s__law_at) l__law_at c__law_at k__law_at).binds (ps := ["listing", "place"]) (fun _ _ _ _ _ _ us hl => (match us, hl with | [_, _], _ => rfl)), g__law_at := PySem.W.mg_of X G a__law_at, a_Listing___len__ := p_Listing___len__, f_Listing___len__ := _, F_Listing___len__ := fun_mk (st := s_Listing___len__) l_Listing___len__ c_Listing___len__ k_Listing___len__, b_Listing___len__ := (fun_mk (st := s_Listing___len__) l_Listing___len__ c_Listing___len__ k_Listing___len__).binds (ps := ["self"]) (fun _ _ _ _ _ _ us hl => (match us, hl with | [_], _ => rfl)), a_Listing__holds := p_Listing__holds, f_Listing__holds := _, F_Listing__holds := fun_mk (st := s_Listing__holds) l_Listing__holds c_Listing__holds k_Listing__holds, b_Listing__holds := (fun_mk (st := s_Listing__holds) l_Listing__holds c_Listing__holds k_Listing__holds).binds (ps := ["self", "rank", "place"]) (fun _ _ _ _ _ _ us hl => (match us, hl with | [_, _, _], _ => rfl)), a_Listing_rank_of := p_Listing_rank_of, f_Listing_rank_of := _, F_Listing_rank_of := fun_mk (st := s_Listing_rank_of) l_Listing_rank_of c_Listing_rank_of k_Listing_rank_of, b_Listing_rank_of := (fun_mk (st := s_Listing_rank_of) l_Listing_rank_of c_Listing_rank_of k_Listing_rank_of).binds (ps := ["self", "mark"]) (fun _ _ _ _ _ _ us hl => (match us, hl with | [_, _], _ => rfl)), a_Listing__versions_between := p_Listing__versions_between, f_Listing__versions_between := _, F_Listing__versions_between := fun_mk (st := s_Listing__versions_between) l_Listing__versions_between c_Listing__versions_between k_Listing__versions_between, b_Listing__versions_between := (fun_mk (st := s_Listing__versions_between) l_Listing__versions_between c_Listing__versions_between k_Listing__versions_between).binds (ps := ["self", "low", "high"]) (fun _ _ _ _ _ _ us hl => (match us, hl with | [_, _, _], _ => rfl)), a_Listing_count_between := p_Listing_count_between, f_Listing_count_between := _, F_Listing_count_between := fun_mk (st := s_Listing_count_between) l_Listing_count_between c_Listing_count_between k_Listing_count_between, b_Listing_count_between := (fun_mk (st := s_Listing_count_between) l_Listing_count_between c_Listing_count_between k_Listing_count_between).binds (ps := ["self", "low", "high"]) (fun _ _ _ _ _ _ us hl => (match us, hl with | [_, _, _], _ => rfl)), a_Listing_unchanged_between := p_Listing_unchanged_between, f_Listing_unchanged_between := _, F_Listing_unchanged_between := fun_mk (st := s_Listing_unchanged_between) l_Listing_unchanged_between c_Listing_unchanged_between k_Listing_unchanged_between, b_Listing_unchanged_between := (fun_mk (st := s_Listing_unchanged_between) l_Listing_unchanged_between c_Listing_unchanged_between k_Listing_unchanged_between).binds (ps := ["self", "low", "high", "version"]) (fun _ _ _ _ _ _ us hl => (match us, hl with | [_, _, _, _], _ => rfl)), a_Listing_keys_before := p_Listing_keys_before, f_Listing_keys_before := _, F_Listing_keys_before := fun_mk (st := s_Listing_keys_before) l_Listing_keys_before c_Listing_keys_before k_Listing_keys_before, b_Listing_keys_before := (fun_mk (st := s_Listing_keys_before) l_Listing_keys_before c_Listing_keys_before k_Listing_keys_before).binds (ps := ["self", "mark", "limit"]) (fun _ _ _ _ _ _ us hl => (match us, hl with | [_, _, _], _ => rfl)), a_Listing_keys_after := p_Listing_keys_after, f_Listing_keys_after := _, F_Listing_keys_after := fun_mk (st := s_Listing_keys_after) l_Listing_keys_after c_Listing_keys_after k_Listing_keys_after, b_Listing_keys_after := (fun_mk (st := s_Listing_keys_after) l_Listing_keys_after c_Listing_keys_after k_Listing_keys_after).binds (ps := ["self", "mark", "limit"]) (fun _ _ _ _ _ _ us hl => (match us, hl with | [_, _, _], _ => rfl)), a__law_marks_right := p__law_marks_right, f__law_marks_right := _, F__law_marks_right := fun_mk (st := s__law_marks_right) l__law_marks_right c__law_marks_right k__law_marks_right, b__law_marks_right := (fun_mk (st := s__law_marks_right) l__law_marks_right c__law_marks_right k__law_marks_right).binds (ps := ["tape", "listing", "view", "factor", "pairs"]) (fun _ _ _ _ _ _ us hl => (match us, hl with | [_, _, _, _, _], _ => rfl)), g__law_marks_right := PySem.W.mg_of X G a__law_marks_right, a_Listing___init__ := p_Listing___init__, f_Listing___init__ := _, F_Listing___init__ := fun_mk (st := s_Listing___init__) l_Listing___init__ c_Listing___init__ k_Listing___init__, b_Listing___init__ := (fun_mk (st := s_Listing___init__) l_Listing___init__ c_Listing___init__ k_Listing___init__).binds (ps := ["self", "view"]) (fun _ _ _ _ _ _ us hl => (match us, hl with | [_, _], _ => rfl)), a_Listing_drop_key := p_Listing_drop_key, f_Listing_drop_key := _, F_Listing_drop_key := fun_mk (st := s_Listing_drop_key) l_Listing_drop_key c_Listing_drop_key k_Listing_drop_key, b_Listing_drop_key := (fun_mk (st := s_Listing_drop_key) l_Listing_drop_key c_Listing_drop_key k_Listing_drop_key).binds (ps := ["self", "key"]) (fun _ _ _ _ _ _ us hl => (match us, hl with | [_, _], _ => rfl)), a_Listing_add_key := p_Listing_add_key, f_Listing_add_key := _, F_Listing_add_key := fun_mk (st := s_Listing_add_key) l_Listing_add_key c_Listing_add_key k_Listing_add_key, b_Listing_add_key := (fun_mk (st := s_Listing_add_key) l_Listing_add_key c_Listing_add_key k_Listing_add_key).binds (ps := ["self", "key", "changed"]) (fun _ _ _ _ _ _ us hl => (match us, hl with | [_, _, _], _ => rfl)), a_law := fa, f_law := _, F_law := fun_mk (st := s_law) l_law c_law k_law, b_law := (fun_mk (st := s_law) l_law c_law k_law).binds (ps := ["script"]) (fun _ _ _ _ _ _ us hl => (match us, hl with | [_], _ => rfl)), g_law := PySem.W.mg_of X G a_law, C_Listing := C_Listing, K_Listing := ⟨aC_Listing, ⟨pg_Listing, hd_Listing, po_Listing, sa_Listing⟩⟩, g_Listing := PySem.W.mg_of X G aC_Listing, na_Listing__keys := nf_Listing__keys, na_Listing__places := nf_Listing__places, na_Listing__versions := nf_Listing__versions, na_Listing__view := nf_Listing__view, M_Listing__holds := ⟨a_Listing__holds, i_Listing__holds, k_Listing__holds⟩, M_Listing__versions_between := ⟨a_Listing__versions_between, i_Listing__versions_between, k_Listing__versions_between⟩, M_Listing_add_key := ⟨a_Listing_add_key, i_Listing_add_key, k_Listing_add_key⟩, M_Listing_count_between := ⟨a_Listing_count_between, i_Listing_count_between, k_Listing_count_between⟩, M_Listing_drop_key := ⟨a_Listing_drop_key, i_Listing_drop_key, k_Listing_drop_key⟩, M_Listing_key_at := ⟨a_Listing_key_at, i_Listing_key_at, k_Listing_key_at⟩, M_Listing_keys_after := ⟨a_Listing_keys_after, i_Listing_keys_after, k_Listing_keys_after⟩, M_Listing_keys_before := ⟨a_Listing_keys_before, i_Listing_keys_before, k_Listing_keys_before⟩, M_Listing_rank_of := ⟨a_Listing_rank_of, i_Listing_rank_of, k_Listing_rank_of⟩, M_Listing_unchanged_between := ⟨a_Listing_unchanged_between, i_Listing_unchanged_between, k_Listing_unchanged_between⟩, mk_Listing := ⟨km_Listing, a_Listing___init__, i_Listing___init__, kc_Listing⟩, fi_Listing := a_Listing___len__, ty_Listing := ty_Listing, X_BadCount := X_BadCount, I_BadCount := I_BadCount, E_BadCount := { nf := by decide, nd := by decide, bd := fun _ _ _ _ _ _ _ _ _ _ _ _ _ _ => rfl, aC := aX_BadCount, cls := ⟨_, _, _, _, _, _, _, _, _, _, _, _, _, _, _, xL_BadCount, rfl⟩, sa := sa_BadCount, ga := ga_BadCount, gg := gg_BadCount, noN := nb_BadCount, iC := a1_BadCount, tC := t1_BadCount, kC := kC_BadCount, exC := eC_BadCount, tyC := tC_BadCount, hdC := hC_BadCount, te := exm_self eC_BadCount iC_BadCount tC_BadCount sC_BadCount, fn := ⟨_, _, _, _, _, _, _, _, _, _, _, _, _, _, l1_BadCount, c1_BadCount⟩ }, ge_BadCount := PySem.W.mg_of X G aX_BadCount, n_enumerate := PySem.W.mg_none_of X G n_enumerate, n_isinstance := PySem.W.mg_none_of X G n_isinstance, n_len := PySem.W.mg_none_of X G n_len, n_list := PySem.W.mg_none_of X G n_list, n_max := PySem.W.mg_none_of X G n_max, n_min := PySem.W.mg_none_of X G n_min, n_ord := PySem.W.mg_none_of X G n_ord, n_range := PySem.W.mg_none_of X G n_range, n_repr := PySem.W.mg_none_of X G n_repr, n_str := PySem.W.mg_none_of X G n_str, n_tuple := PySem.W.mg_none_of X G n_tuple, n_zip := PySem.W.mg_none_of X G n_zip }
  exact ⟨_, fun s v => .of_eq rfl, fun base _ _ => d_law T⟩
end LW
open PySem PySem.W PyProof.Rows
set_option maxHeartbeats 0 in
theorem PySem.Challenge.cw_steadypages_k25_listing_holds : PySem.Challenge.rw_steadypages_k25_listing.Holds := by
  w_on; o_law; k_head; (case hw => w_witness2)
  k_fill
  refine DL.walkD (l := PySem.Challenge.rw_steadypages_k25_listing) (n := 63) (k := 11) (x := "script") (m := LW.m_law) rfl (by decide) rfl ⟨rfl, by decide, by decide⟩ (fun w h Y => PySem.W.kIn_of Y) ?F LW.law_true
  case F =>
    intro w mg fa h KX G hmg
    refine' LW.all_mk KX G hmg ?aC_Listing ?pg_Listing ?hd_Listing ?po_Listing ?sa_Listing ?km_Listing ?kc_Listing ?nf_Listing__keys ?nf_Listing__places ?nf_Listing__versions ?nf_Listing__view ?a_kind_place ?l_kind_place ?c_kind_place ?k_kind_place ?a_value_place ?l_value_place ?c_value_place ?k_value_place ?a_key_place ?l_key_place ?c_key_place ?k_key_place ?a_first_from ?l_first_from ?c_first_from ?k_first_from ?a__law_tape ?l__law_tape ?c__law_tape ?k__law_tape ?a__law_pick ?l__law_pick ?c__law_pick ?k__law_pick ?a__law_one_of ?l__law_one_of ?c__law_one_of ?k__law_one_of ?a__law_value ?l__law_value ?c__law_value ?k__law_value ?a__law_values ?l__law_values ?c__law_values ?k__law_values ?a__law_test ?l__law_test ?c__law_test ?k__law_test ?a__law_condition ?l__law_condition ?c__law_condition ?k__law_condition ?a__law_view ?l__law_view ?c__law_view ?k__law_view ?a__law_rank ?l__law_rank ?c__law_rank ?k__law_rank ?a__law_key ?l__law_key ?c__law_key ?k__law_key ?a__law_sign ?l__law_sign ?c__law_sign ?k__law_sign ?a__law_past ?l__law_past ?c__law_past ?k__law_past ?a__law_mark ?l__law_mark ?c__law_mark ?k__law_mark ?a__law_marks ?l__law_marks ?c__law_marks ?k__law_marks ?a__law_keys ?l__law_keys ?c__law_keys ?k__law_keys ?a__law_inserted ?l__law_inserted ?c__law_inserted ?k__law_inserted ?a_Listing_key_at ?i_Listing_key_at ?l_Listing_key_at ?c_Listing_key_at ?k_Listing_key_at ?a__law_at ?l__law_at ?c__law_at ?k__law_at ?a_Listing___len__ ?i_Listing___len__ ?l_Listing___len__ ?c_Listing___len__ ?k_Listing___len__ ?a_Listing__holds ?i_Listing__holds ?l_Listing__holds ?c_Listing__holds ?k_Listing__holds ?a_Listing_rank_of ?i_Listing_rank_of ?l_Listing_rank_of ?c_Listing_rank_of ?k_Listing_rank_of ?a_Listing__versions_between ?i_Listing__versions_between ?l_Listing__versions_between ?c_Listing__versions_between ?k_Listing__versions_between ?a_Listing_count_between ?i_Listing_count_between ?l_Listing_count_between ?c_Listing_count_between ?k_Listing_count_between ?a_Listing_unchanged_between ?i_Listing_unchanged_between ?l_Listing_unchanged_between ?c_Listing_unchanged_between ?k_Listing_unchanged_between ?a_Listing_keys_before ?i_Listing_keys_before ?l_Listing_keys_before ?c_Listing_keys_before ?k_Listing_keys_before ?a_Listing_keys_after ?i_Listing_keys_after ?l_Listing_keys_after ?c_Listing_keys_after ?k_Listing_keys_after ?a__law_marks_right ?l__law_marks_right ?c__law_marks_right ?k__law_marks_right ?a_Listing___init__ ?i_Listing___init__ ?l_Listing___init__ ?c_Listing___init__ ?k_Listing___init__ ?a_Listing_drop_key ?i_Listing_drop_key ?l_Listing_drop_key ?c_Listing_drop_key ?k_Listing_drop_key ?a_Listing_add_key ?i_Listing_add_key ?l_Listing_add_key ?c_Listing_add_key ?k_Listing_add_key ?a_law ?l_law ?c_law ?k_law ?ty_Listing ?aX_BadCount ?xL_BadCount ?sa_BadCount ?ga_BadCount ?gg_BadCount ?nb_BadCount ?a1_BadCount ?t1_BadCount ?l1_BadCount ?c1_BadCount ?kC_BadCount ?eC_BadCount ?tC_BadCount ?hC_BadCount ?iC_BadCount ?sC_BadCount ?n_enumerate ?n_isinstance ?n_len ?n_list ?n_max ?n_min ?n_ord ?n_range ?n_repr ?n_str ?n_tuple ?n_zip
    (case aC_Listing => k_is); (case pg_Listing => k_is); (case hd_Listing => k_is); (case po_Listing => k_is); (case sa_Listing => k_is); (case km_Listing => k_is); (case kc_Listing => k_is); (case nf_Listing__keys => k_is); (case nf_Listing__places => k_is); (case nf_Listing__versions => k_is); (case nf_Listing__view => k_is); (case a_kind_place => k_is); (case l_kind_place => k_is); (case c_kind_place => k_is); (case k_kind_place => k_is); (case a_value_place => k_is); (case l_value_place => k_is); (case c_value_place => k_is); (case k_value_place => k_is); (case a_key_place => k_is); (case l_key_place => k_is); (case c_key_place => k_is); (case k_key_place => k_is); (case a_first_from => k_is); (case l_first_from => k_is); (case c_first_from => k_is); (case k_first_from => k_is); (case a__law_tape => k_is); (case l__law_tape => k_is); (case c__law_tape => k_is); (case k__law_tape => k_is); (case a__law_pick => k_is); (case l__law_pick => k_is); (case c__law_pick => k_is); (case k__law_pick => k_is); (case a__law_one_of => k_is); (case l__law_one_of => k_is); (case c__law_one_of => k_is); (case k__law_one_of => k_is); (case a__law_value => k_is); (case l__law_value => k_is); (case c__law_value => k_is); (case k__law_value => k_is); (case a__law_values => k_is); (case l__law_values => k_is); (case c__law_values => k_is); (case k__law_values => k_is); (case a__law_test => k_is); (case l__law_test => k_is); (case c__law_test => k_is); (case k__law_test => k_is); (case a__law_condition => k_is); (case l__law_condition => k_is); (case c__law_condition => k_is); (case k__law_condition => k_is); (case a__law_view => k_is); (case l__law_view => k_is); (case c__law_view => k_is); (case k__law_view => k_is); (case a__law_rank => k_is); (case l__law_rank => k_is); (case c__law_rank => k_is); (case k__law_rank => k_is); (case a__law_key => k_is); (case l__law_key => k_is); (case c__law_key => k_is); (case k__law_key => k_is); (case a__law_sign => k_is); (case l__law_sign => k_is); (case c__law_sign => k_is); (case k__law_sign => k_is); (case a__law_past => k_is); (case l__law_past => k_is); (case c__law_past => k_is); (case k__law_past => k_is); (case a__law_mark => k_is); (case l__law_mark => k_is); (case c__law_mark => k_is); (case k__law_mark => k_is); (case a__law_marks => k_is); (case l__law_marks => k_is); (case c__law_marks => k_is); (case k__law_marks => k_is); (case a__law_keys => k_is); (case l__law_keys => k_is); (case c__law_keys => k_is); (case k__law_keys => k_is); (case a__law_inserted => k_is); (case l__law_inserted => k_is); (case c__law_inserted => k_is); (case k__law_inserted => k_is); (case a_Listing_key_at => k_is); (case i_Listing_key_at => k_is); (case l_Listing_key_at => k_is); (case c_Listing_key_at => k_is); (case k_Listing_key_at => k_is); (case a__law_at => k_is); (case l__law_at => k_is); (case c__law_at => k_is); (case k__law_at => k_is); (case a_Listing___len__ => k_is); (case i_Listing___len__ => k_is); (case l_Listing___len__ => k_is); (case c_Listing___len__ => k_is); (case k_Listing___len__ => k_is); (case a_Listing__holds => k_is); (case i_Listing__holds => k_is); (case l_Listing__holds => k_is); (case c_Listing__holds => k_is); (case k_Listing__holds => k_is); (case a_Listing_rank_of => k_is); (case i_Listing_rank_of => k_is); (case l_Listing_rank_of => k_is); (case c_Listing_rank_of => k_is); (case k_Listing_rank_of => k_is); (case a_Listing__versions_between => k_is); (case i_Listing__versions_between => k_is); (case l_Listing__versions_between => k_is); (case c_Listing__versions_between => k_is); (case k_Listing__versions_between => k_is); (case a_Listing_count_between => k_is); (case i_Listing_count_between => k_is); (case l_Listing_count_between => k_is); (case c_Listing_count_between => k_is); (case k_Listing_count_between => k_is); (case a_Listing_unchanged_between => k_is); (case i_Listing_unchanged_between => k_is); (case l_Listing_unchanged_between => k_is); (case c_Listing_unchanged_between => k_is); (case k_Listing_unchanged_between => k_is); (case a_Listing_keys_before => k_is); (case i_Listing_keys_before => k_is); (case l_Listing_keys_before => k_is); (case c_Listing_keys_before => k_is); (case k_Listing_keys_before => k_is); (case a_Listing_keys_after => k_is); (case i_Listing_keys_after => k_is); (case l_Listing_keys_after => k_is); (case c_Listing_keys_after => k_is); (case k_Listing_keys_after => k_is); (case a__law_marks_right => k_is); (case l__law_marks_right => k_is); (case c__law_marks_right => k_is); (case k__law_marks_right => k_is); (case a_Listing___init__ => k_is); (case i_Listing___init__ => k_is); (case l_Listing___init__ => k_is); (case c_Listing___init__ => k_is); (case k_Listing___init__ => k_is); (case a_Listing_drop_key => k_is); (case i_Listing_drop_key => k_is); (case l_Listing_drop_key => k_is); (case c_Listing_drop_key => k_is); (case k_Listing_drop_key => k_is); (case a_Listing_add_key => k_is); (case i_Listing_add_key => k_is); (case l_Listing_add_key => k_is); (case c_Listing_add_key => k_is); (case k_Listing_add_key => k_is); (case a_law => k_is); (case l_law => k_is); (case c_law => k_is); (case k_law => k_is); (case ty_Listing => k_is); (case aX_BadCount => k_is); (case xL_BadCount => k_is); (case sa_BadCount => k_is); (case ga_BadCount => k_is); (case gg_BadCount => k_is); (case nb_BadCount => k_is); (case a1_BadCount => k_is); (case t1_BadCount => k_is); (case l1_BadCount => k_is); (case c1_BadCount => k_is); (case kC_BadCount => k_is); (case eC_BadCount => k_is); (case tC_BadCount => k_is); (case hC_BadCount => k_is); (case iC_BadCount => k_is); (case sC_BadCount => first | rfl | k_is); (case n_enumerate => k_is); (case n_isinstance => k_is); (case n_len => k_is); (case n_list => k_is); (case n_max => k_is); (case n_min => k_is); (case n_ord => k_is); (case n_range => k_is); (case n_repr => k_is); (case n_str => k_is); (case n_tuple => k_is); (case n_zip => k_is)
