import PyProof.Rows.All
import Wide.All
import OpenK.AllK
import Wide.FinOn
import HandS.ForMost
import HandS.IsInst
import HandS.Wide
import HandS.TupAny
import HandS.TupMul
import HandS.Style
import HandS.Flow
import HandS.Conv
import HandS.EndBits
import KE.IntBitsLaws
import KE.DataFind
import KE.LtSeq
import HandS.ForExc
import HandS.ExcOwn
import HandS.Zip
import HandS.Star
import HandS.DictComp
import KE.GoesEnum
import KE.GoesMore
import KE.LtData
import HandS.SetBool
import HandS.SetFor
import HandS.Strs
import HandS.SortInts
import HandS.NamedTupGet
import HandS.DictTup
import HandS.ListItems
import HandS.More
import HandS.Finally
import HandS.DictEq
import HandS.TryOnly
import PySem.Challenge.RW_steadypages_k18_edits_and_versions
set_option Elab.async false
set_option linter.all false
set_option maxRecDepth 100000
set_option maxHeartbeats 4000000
/-! New tuples whose object is known: it has no dict. -/
namespace DL
open PySem PySem.Spec PyProof.Rows L2
/-- what a new tuple brings -/
abbrev Fz (Q : VK) (H : Hp) (xs : List V) : Prop := ∀ (p : Addr) (o : Obj), H p = none → o.dict = none → Q (.ref p) (upd H p (.frz o (.tup xs)))
section
variable {X : Cx}
theorem laidF {pins : List (Addr × Obj)} {σ : L2.St} {H : Hp} {s : Shared} {Q : VK} {xs : List V} {us : List Value} {t' : Nat} (I : Inv X pins σ H s) (r : Vals xs us) (z : xs.length ≤ sizeLine) (q : Fz Q H xs) :
    EP X pins σ Q (.ref s.heap.objs.size) { s with heap := s.heap.push { cls := .type "tuple", data := .seq us.toArray }, toks := t' } :=
  ⟨.ref s.heap.objs.size, _, I.laid (t' := t') (o := .frz { cls := .type "tuple", data := .seq us.toArray } (.tup xs)) (fun _ _ e => Heap.get?_push_of_some _ e) (Nat.le_refl _) ⟨Heap.get?_push_size _ rfl, z, us, r, IsTup.new _ _⟩, rfl, q _ _ (I.hok.fresh (Nat.le_refl _)) rfl⟩
theorem pe_tupF {es : List Expr} {t : TA} {x1 : Nat} {pos : Pos} (h : PA X es t) : PE X (.Tuple es x1 pos) (fun σ H Q => t σ H fun xs H1 => xs.length ≤ sizeLine ∧ Fz Q H1 xs) :=
  ⟨fun pins s σ H Q I hq => wpAny_Tuple_spliced (thn (h.run pos pins s σ H _ I hq) fun us s1 ⟨xs, H1, I1, r, z, q⟩ => ⟨by rw [← r.length]; exact z, laidF (t' := s1.toks) I1 r z q⟩)⟩
theorem call_tupF : CallR X (.type "tuple") (fun xs H Q => ∃ p ys, xs = [.ref p] ∧ ((SqL X.K H p ys ∧ Fz Q H ys) ∨ (SqT X.K H p ys ∧ Q (.ref p) H))) := by
  intro pins s σ H xs us Q I r h
  obtain ⟨p, ys, rfl, h⟩ := h
  obtain ⟨u, rfl, rx⟩ := vals1 r
  cases rx
  rcases h with ⟨sq, q⟩ | ⟨sq, q⟩
  · obtain ⟨its, r2, pl, hz⟩ := I.list sq
    have hlen := r2.length
    exact call_tuple_list pl.isList (fun h' kp => laidF (t' := s.toks) (I.kept (t' := s.toks) kp) r2 hz q) (by simp only [List.size_toArray] <;> omega)
  · obtain ⟨its, r2, pl, hz⟩ := I.tuple sq
    exact call_tuple_same pl ⟨.ref p, H, I, rfl, q⟩
def rCatF (K : PySem.W.Frag) : R2 := fun x y H Q => ∃ a b xs ys, x = .ref a ∧ y = .ref b ∧ SqT K H a xs ∧ SqT K H b ys ∧ xs.length + ys.length ≤ sizeLine ∧ (xs = [] → Q (.ref b) H) ∧ (xs ≠ [] → ys = [] → Q (.ref a) H) ∧ Fz Q H (xs ++ ys)
theorem op_catF : OpR X (binaryOp .Add) (rCatF X.K) := by
  intro pins s σ H x y v u Q I rx ry h
  obtain ⟨a, b, xs, ys, rfl, rfl, ha, hb, hz, q0, q1, q2⟩ := h
  cases rx
  cases ry
  obtain ⟨its, r1, p1, _⟩ := I.tuple ha
  obtain ⟨its2, r2, p2, _⟩ := I.tuple hb
  by_cases hx : xs = []
  · subst hx
    cases r1
    exact cat_tup0 p1 p2 ⟨.ref b, H, I, rfl, q0 rfl⟩
  · exact HT.cat_tup p1 p2 (fun z => hx (r1.nil_iff.mp z)) (fun z => ⟨.ref a, H, I, rfl, q1 hx (r2.nil_iff.mp z)⟩) (fun _ => laidF (t' := s.toks) I (r1.append r2) (by rw [List.length_append]; exact hz) q2) (by rw [← r1.length, ← r2.length]; exact hz)
def rSlF (K : PySem.W.Frag) : V → Option Int → Option Int → Hp → VK → Prop := fun x lo hi H Q => ∃ a xs, x = .ref a ∧ SqT K H a xs ∧ (HT.sIx xs.length 0 lo = 0 ∧ HT.sIx xs.length xs.length hi = xs.length → Q (.ref a) H) ∧ Fz Q H (cutV xs lo hi)
theorem sl_tupF : SlR X (rSlF X.K) := by
  intro pins s σ H x v vl vu lo hi sl Q I rx hs pl pu h
  obtain ⟨a, xs, rfl, hx, q1, q2⟩ := h
  cases rx
  obtain ⟨its, r, ht, hz⟩ := I.tuple hx
  have hlen : its.toArray.size = xs.length := by rw [List.size_toArray]; exact r.length.symm
  refine ⟨"tuple", _, PyProof.Rows.slot_tuple_getitem.lookup, ht.typeIs, ?_⟩
  by_cases hw : HT.sIx xs.length 0 lo = 0 ∧ HT.sIx xs.length xs.length hi = xs.length
  · exact getItem_tuple_whole ht hs pl pu (by rw [hlen]; exact hw) ⟨.ref a, H, I, rfl, q1 hw⟩
  · refine HT.getItem_tuple_cut ht hs pl pu (by rw [hlen]; exact hw) ?_ (by rw [hlen]; exact hz)
    rw [hlen]
    exact laidF (t' := s.toks) I ((r.drop (HT.sIx xs.length 0 lo)).take (HT.sIx xs.length xs.length hi - HT.sIx xs.length 0 lo)) (Nat.le_trans (cutV_length xs lo hi) hz) q2
/-- t * n -/
def rRepF (K : PySem.W.Frag) : R2 := fun x y H Q => ∃ l k xs, x = .ref l ∧ y = .int k ∧ SqT K H l xs ∧ xs ≠ [] ∧ 2 ≤ k ∧ k ≤ 1000 ∧ xs.length ≤ 1000 ∧ Fz Q H (List.replicate k.toNat xs).flatten
theorem op_repF : OpR X (binaryOp .Mult) (rRepF X.K) := by
  intro pins s σ H x y v u Q I rx ry h
  obtain ⟨l, k, xs, rfl, rfl, sq, hne, k2, k1000, len, q⟩ := h
  cases rx
  obtain ⟨t, rfl⟩ := ry
  obtain ⟨its, r, ⟨⟨cls, dd, data, sl⟩, ho, hc, n, hd⟩, _⟩ := I.tuple sq
  simp only at hc hd
  subst hc hd
  have el : its.length = xs.length := r.length.symm
  have full : its.toArray.isEmpty = false := by
    cases its with
    | nil => exact absurd (List.eq_nil_of_length_eq_zero el.symm) hne
    | cons _ _ => rfl
  have sz : its.toArray.size = xs.length := by rw [List.size_toArray, el]
  have prod : ((its.toArray.size : Nat) : Int) * k ≤ 1000 * 1000 := by
    rw [sz]
    exact Int.mul_le_mul (by omega) k1000 (by omega) (by omega)
  have few : k.toNat * xs.length ≤ 1000 * 1000 := Nat.mul_le_mul (by omega) len
  have flat : (List.replicate k.toNat its).flatten.length ≤ sizeLine := by
    rw [PyProof.Rows.lm_len_rep_flat, el, sizeLine_eq]
    omega
  have b0 : (decide (k < -(2 ^ 63)) || decide (k ≥ 2 ^ 63)) = false := by simp; omega
  have b1 : (its.toArray.isEmpty || k == 1) = false := by rw [full]; simp; omega
  have b2 : (decide (k ≤ 0) || its.toArray.isEmpty) = false := by rw [full]; simp; omega
  have b3 : Builtin.Tuple.tupleTooMany (((its.toArray.size : Nat) : Int) * k) = false := by
    unfold Builtin.Tuple.tupleTooMany
    rw [sizeLine_eq]
    exact decide_eq_false (by omega)
  have last : EP X pins σ Q (.ref s.heap.objs.size) { s with heap := s.heap.push { cls := .type "tuple", data := .seq (List.replicate k.toNat its).flatten.toArray } } :=
    laidF (t' := s.toks) I (r.rep k.toNat) (by rw [PyProof.Rows.lm_len_rep_flat, sizeLine_eq]; omega) q
  rw [← size_rep] at last
  refine wpAny_binaryOp_repeat_ref (T := "tuple") (U := "int") (by decide) ⟨_, ho, rfl⟩ (fun z => typeIs_int z k t) noFill_tuple_mul PySem.F.fills_int_mul PySem.F.slot_int_rmul repeat_tuple PySem.F.slot_int_index.lookup (call_meets PySem.F.slot_int_rmul (typeIs_int s k t) PySem.F.entry_int_rmul (PySem.F.args_int_rmul_2 _ _) (int_rmul_tuple k t l its.toArray n dd sl) ⟨ho, rfl, ⟨_, ho, rfl⟩, ?_⟩)
  exact call_meets PySem.F.slot_tuple_mul ⟨_, ho, rfl⟩ PySem.F.entry_tuple_mul (PySem.F.args_tuple_mul_2 _ _) (tuple_mulW l its.toArray n dd sl k t b0 b1 b2 (by omega) b3 (by rw [size_rep, List.size_toArray]; exact flat)) ⟨ho, last⟩
/-- a tuple of which it is known that it has no dict -/
def Bare (K : PySem.W.Frag) (x : V) (H : Hp) : Prop := ∃ a, x = .ref a ∧ ((∃ o xs, H a = some (.frz o (.tup xs)) ∧ o.dict = none) ∨ ∃ o, K.lookup a = some o ∧ o.cls = .type "tuple" ∧ o.dict = none)
theorem bare_is {pins : List (Addr × Obj)} {σ : L2.St} {H : Hp} {s : Shared} {x : V} {v : Value} (I : Inv X pins σ H s) (r : RelV x v) (b : Bare X.K x H) : s.TypeIs v "tuple" ∧ ∀ a, v = .ref a → ∃ ob, s.heap.get? a = some ob ∧ ob.dict = none := by
  obtain ⟨a, rfl, h⟩ := b
  cases r
  rcases h with ⟨o, xs, hx, hz⟩ | ⟨o, ho, hc, hz⟩
  · obtain ⟨e, hl, its, _, ob, e2, c, _⟩ := (show ObjOk X.prog X.w H s.heap a (.frz o (.tup xs)) from I.hok a _ hx)
    exact ⟨⟨ob, e2, c⟩, fun b hb => by cases hb; exact ⟨o, e, hz⟩⟩
  · have e := I.kIn a o ho
    exact ⟨⟨o, e, hc⟩, fun b hb => by cases hb; exact ⟨o, e, hz⟩⟩
theorem pe_tm {o e : Expr} {es : List Expr} {to : TE} {t : TA} {name : Str} {apos cpos : Pos} {id : String} {r : V → List V → Hp → VK → Prop} (pa : PlainAttrs "tuple") (slot : Slot "tuple" name id) (hty : typeOf (.builtin id) = pure (.type "method_descriptor")) (hm : MtR X id r) (ho : PE X o to) (ha : PA X (e :: es) t)
    (hbase : attributeBase o name X.env (eval o X.env) = eval o X.env := by rfl)
    (hfew : ((backTo cpos (starEach (e :: es) X.env)).all (fun x => !x.1) && (backToKw cpos (keywordEach [] X.env)).all (fun x => x.1.isSome) && decide ((e :: es).length + ([] : List Keyword).length + (if ([] : List Keyword).isEmpty then 0 else 1) < 30)) = true := by rfl)
    (hline : (apos.endLine == cpos.line) = true := by rfl) (hs : starEach (e :: es) X.env = (false, eval e X.env) :: starEach es X.env := by rfl) (hplain : (backTo cpos (starEach es X.env)).any (·.1) = false := by rfl) :
    PE X (.Call (.Attribute o name apos) (e :: es) [] cpos) (fun σ H Q => to σ H fun x H1 => Bare X.K x H1 ∧ t σ H1 fun xs H2 => r x xs H2 Q) := by
  refine ⟨fun pins s σ H Q I h => wpAny_Call_method_late hbase hfew hline rfl (thn (ho.run pins s σ H _ I h) fun v s1 ⟨x, H1, I1, r1, ty, q1⟩ => ?_)⟩
  have hA := ha.run cpos pins s1 σ H1 _ I1 q1
  refine ⟨"tuple", id, pa, slot, hty, (bare_is I1 r1 ty).1, (bare_is I1 r1 ty).2, ?_⟩
  rw [hs] at hA ⊢
  exact Calls.callWith_builtin (by show (false || (backTo cpos (starEach es X.env)).any (·.1)) = false; rw [hplain] <;> rfl) (Calls.evalArgs_plain (thn hA fun us s2 ⟨vs, H2, I2, r2, q2⟩ => hm pins s2 σ H2 x vs v us Q I2 r1 r2 q2))
end
end DL
/-! Data level: values as trees, a store for what may be written, and judgements that say "this piece of text computes this function". -/
namespace DL
open PySem PySem.Spec PyProof.Rows L2

inductive D where
  | non | bl (b : Bool) | int (i : Int) | str (x : Str)
  | tup (ds : List D) | lst (ds : List D) | dct (kvs : List (Key × D))
  | scr (ns : List Int) | ref (n : Nat)

inductive Ob where
  | dead
  | dct (kvs : List (Key × D))
  | lst (ds : List D)
  | ins (c : Str) (fs : List (Str × D))
  | ldc (kvs : List (Key × D))
/-- where the store's objects stand; what no value may lean on -/
structure Rf where
  adr : List Addr
  av : Addr → Prop
  lk : Addr → Prop
abbrev Store := List Ob
abbrev Lo := List (Option D)

variable {K : PySem.W.Frag}

mutual
inductive Rep (K : PySem.W.Frag) (r : Rf) (H : Hp) : V → D → Prop
  | non : Rep K r H .non .non
  | bl (b : Bool) : Rep K r H (.bl b) (.bl b)
  | int (i : Int) : Rep K r H (.int i) (.int i)
  | str (x : Str) : Rep K r H (.str x) (.str x)
  | tup {a : Addr} {xs : List V} {ds : List D} {o : Obj} : H a = some (.frz o (.tup xs)) → o.dict = none → ¬ r.av a → RepL K r H xs ds → Rep K r H (.ref a) (.tup ds)
  | tupK {a : Addr} {o : Obj} {its : Array Value} {n : Nat} {xs : List V} {ds : List D} : K.lookup a = some o → o.cls = .type "tuple" → o.dict = none → o.data = .seq its n → its.size ≤ sizeLine → Vals xs its.toList → RepL K r H xs ds → Rep K r H (.ref a) (.tup ds)
  | lst {a : Addr} {xs : List V} {ds : List D} : H a = some (.lst xs) → ¬ r.av a → RepL K r H xs ds → Rep K r H (.ref a) (.lst ds)
  | tupP {a : Addr} {xs : List V} {ds : List D} : H a = some (.tup xs) → ¬ r.av a → RepL K r H xs ds → Rep K r H (.ref a) (.tup ds)
  | dct {a : Addr} {o : Obj} {xs : List (Key × V)} {kvs : List (Key × D)} : H a = some (.frz o (.dK xs)) → ¬ r.av a → RepK K r H xs kvs → Rep K r H (.ref a) (.dct kvs)
  | scr {a : Addr} {ns : List Int} {o : Obj} : H a = some (.frz o (.lst (ns.map V.int))) → ¬ r.av a → Rep K r H (.ref a) (.scr ns)
  | scrK {a : Addr} {ns : List Int} {o : Obj} {its : Array Value} {n : Nat} : K.lookup a = some o → o.cls = .type "list" → o.dict = none → o.data = .seq its n → its.size ≤ sizeLine → Vals (ns.map V.int) its.toList → Rep K r H (.ref a) (.scr ns)
  | ref {n : Nat} {a : Addr} : r.adr[n]? = some a → Rep K r H (.ref a) (.ref n)
inductive RepL (K : PySem.W.Frag) (r : Rf) (H : Hp) : List V → List D → Prop
  | nil : RepL K r H [] []
  | cons {v : V} {vs : List V} {d : D} {ds : List D} : Rep K r H v d → RepL K r H vs ds → RepL K r H (v :: vs) (d :: ds)
inductive RepK (K : PySem.W.Frag) (r : Rf) (H : Hp) : List (Key × V) → List (Key × D) → Prop
  | nil : RepK K r H [] []
  | cons {k : Key} {v : V} {vs : List (Key × V)} {d : D} {ds : List (Key × D)} : Rep K r H v d → RepK K r H vs ds → RepK K r H ((k, v) :: vs) ((k, d) :: ds)
end

/-- what was known stays known -/
structure Ex (r : Rf) (H : Hp) (r' : Rf) (H' : Hp) : Prop where
  pre : ∃ l, r'.adr = r.adr ++ l
  keep : ∀ p o, H p = some o → ¬ r.av p → H' p = some o
  new : ∀ p, r'.av p → ¬ r.av p → H p = none
/-- .. and nothing is done to what is hidden -/
structure HidL (r : Rf) (H : Hp) (r' : Rf) (H' : Hp) : Prop where
  hid : ∀ p, r.av p → p ∉ r.adr → H' p = H p ∧ r'.av p ∧ p ∉ r'.adr
  lke : ∀ p, r'.lk p ↔ r.lk p
  lks : ∀ p, r.lk p → H' p = H p
structure Ext (r : Rf) (H : Hp) (r' : Rf) (H' : Hp) : Prop extends Ex r H r' H' where
  hd : HidL r H r' H'
theorem Ext.hid {r r' : Rf} {H H' : Hp} (e : Ext r H r' H') : ∀ p, r.av p → p ∉ r.adr → H' p = H p ∧ r'.av p ∧ p ∉ r'.adr := e.hd.hid
theorem HidL.refl (r : Rf) (H : Hp) : HidL r H r H := ⟨fun _ a b => ⟨rfl, a, b⟩, fun _ => Iff.rfl, fun _ _ => rfl⟩
theorem HidL.trans {r r1 r2 : Rf} {H H1 H2 : Hp} (a : HidL r H r1 H1) (b : HidL r1 H1 r2 H2) : HidL r H r2 H2 :=
  ⟨fun p x y => let ⟨h1, h2, h3⟩ := a.hid p x y; let ⟨h4, h5, h6⟩ := b.hid p h2 h3; ⟨h4.trans h1, h5, h6⟩, fun p => (b.lke p).trans (a.lke p), fun p x => (b.lks p ((a.lke p).mpr x)).trans (a.lks p x)⟩

theorem Ext.refl (r : Rf) (H : Hp) : Ext r H r H := ⟨⟨⟨[], by simp⟩, fun _ _ h _ => h, fun _ h n => absurd h n⟩, .refl r H⟩
theorem Ex.out {r r' : Rf} {H H' : Hp} (e : Ex r H r' H') {p : Addr} {o : HO} (h : H p = some o) (n : ¬ r.av p) : ¬ r'.av p := fun z => by
  rw [e.new p z n] at h; cases h
theorem Ex.get {r r' : Rf} {H H' : Hp} (e : Ex r H r' H') {n : Nat} {a : Addr} (h : r.adr[n]? = some a) : r'.adr[n]? = some a := by
  obtain ⟨l, hl⟩ := e.pre
  obtain ⟨q, _⟩ := List.getElem?_eq_some_iff.mp h
  rw [hl, List.getElem?_append_left q]; exact h
theorem Ex.trans {r r1 r2 : Rf} {H H1 H2 : Hp} (a : Ex r H r1 H1) (b : Ex r1 H1 r2 H2) : Ex r H r2 H2 := by
  refine ⟨?_, fun p o h n => b.keep p o (a.keep p o h n) (a.out h n), fun p h n => ?_⟩
  · obtain ⟨l, hl⟩ := a.pre
    obtain ⟨m, hm⟩ := b.pre
    exact ⟨l ++ m, by rw [hm, hl, List.append_assoc]⟩
  · by_cases q : r1.av p
    · exact a.new p q n
    · cases z : H p with
      | none => rfl
      | some o =>
        have := b.new p h q
        rw [a.keep p o z n] at this
        cases this
theorem Ext.trans {r r1 r2 : Rf} {H H1 H2 : Hp} (a : Ext r H r1 H1) (b : Ext r1 H1 r2 H2) : Ext r H r2 H2 :=
  ⟨a.toEx.trans b.toEx, a.hd.trans b.hd⟩
theorem Ext.same (r : Rf) {H H' : Hp} (s : Same H H') (there : ∀ p, r.av p → ∃ o, H p = some o) (lkd : ∀ p, r.lk p → ∃ o u, H p = some (.frz o u)) : Ext r H r H' :=
  ⟨⟨⟨[], by simp⟩, fun p o h _ => s p o h, fun p h n => absurd h n⟩, fun p a b => ⟨by obtain ⟨o, h⟩ := there p a; rw [h]; exact s p o h, a, b⟩, fun _ => Iff.rfl, fun p a => by obtain ⟨o, u, h⟩ := lkd p a; rw [h]; exact s p _ h⟩
theorem Ex.same (r : Rf) {H H' : Hp} (s : Same H H') : Ex r H r H' := ⟨⟨[], by simp⟩, fun p o h _ => s p o h, fun p h n => absurd h n⟩
theorem same_alloc {H : Hp} {p : Addr} {o : HO} (h : H p = none) : Same H (upd H p o) := fun b x e => by
  rw [upd_ne (ne_of_none e h)]; exact e

mutual
theorem Rep.ex {r r' : Rf} {H H' : Hp} (e : Ex r H r' H') : ∀ {v : V} {d : D}, Rep K r H v d → Rep K r' H' v d
  | _, _, .non => .non
  | _, _, .bl b => .bl b
  | _, _, .int i => .int i
  | _, _, .str x => .str x
  | _, _, .tup h z n l => .tup (e.keep _ _ h n) z (e.out h n) (RepL.ex e l)
  | _, _, .tupK a b z c d f l => .tupK a b z c d f (RepL.ex e l)
  | _, _, .lst h n l => .lst (e.keep _ _ h n) (e.out h n) (RepL.ex e l)
  | _, _, .tupP h n l => .tupP (e.keep _ _ h n) (e.out h n) (RepL.ex e l)
  | _, _, .dct h n l => .dct (e.keep _ _ h n) (e.out h n) (RepK.ex e l)
  | _, _, .scr h n => .scr (e.keep _ _ h n) (e.out h n)
  | _, _, .scrK a b c d f g => .scrK a b c d f g
  | _, _, .ref h => .ref (e.get h)
theorem RepL.ex {r r' : Rf} {H H' : Hp} (e : Ex r H r' H') : ∀ {v : List V} {d : List D}, RepL K r H v d → RepL K r' H' v d
  | _, _, .nil => .nil
  | _, _, .cons a b => .cons (Rep.ex e a) (RepL.ex e b)
theorem RepK.ex {r r' : Rf} {H H' : Hp} (e : Ex r H r' H') : ∀ {v : List (Key × V)} {d : List (Key × D)}, RepK K r H v d → RepK K r' H' v d
  | _, _, .nil => .nil
  | _, _, .cons a b => .cons (Rep.ex e a) (RepK.ex e b)
end
theorem Rep.ext {r r' : Rf} {H H' : Hp} {v : V} {d : D} (h : Rep K r H v d) (e : Ext r H r' H') : Rep K r' H' v d := h.ex e.toEx
theorem RepL.ext {r r' : Rf} {H H' : Hp} {v : List V} {d : List D} (h : RepL K r H v d) (e : Ext r H r' H') : RepL K r' H' v d := h.ex e.toEx
theorem RepK.ext {r r' : Rf} {H H' : Hp} {v : List (Key × V)} {d : List (Key × D)} (h : RepK K r H v d) (e : Ext r H r' H') : RepK K r' H' v d := h.ex e.toEx
theorem RepL.len {r : Rf} {H : Hp} : ∀ {v : List V} {d : List D}, RepL K r H v d → v.length = d.length
  | _, _, .nil => rfl
  | _, _, .cons _ b => by rw [List.length_cons, List.length_cons, RepL.len b]
theorem RepL.get {r : Rf} {H : Hp} : ∀ {vs : List V} {ds : List D}, RepL K r H vs ds → ∀ {i : Nat} {d : D}, ds[i]? = some d → ∃ v, vs[i]? = some v ∧ Rep K r H v d
  | _, _, .nil, i, d, h => by simp at h
  | _, _, .cons a b, 0, d, h => by
    have e := Option.some.inj h
    subst e
    exact ⟨_, rfl, a⟩
  | _, _, .cons a b, i + 1, d, h => RepL.get b (i := i) h
theorem RepL.getV {r : Rf} {H : Hp} : ∀ {vs : List V} {ds : List D}, RepL K r H vs ds → ∀ {i : Nat} {v : V}, vs[i]? = some v → ∃ d, ds[i]? = some d ∧ Rep K r H v d
  | _, _, .nil, i, d, h => by simp at h
  | _, _, .cons a b, 0, d, h => by
    have e := Option.some.inj h
    subst e
    exact ⟨_, rfl, a⟩
  | _, _, .cons a b, i + 1, d, h => RepL.getV b (i := i) h
theorem RepL.append {r : Rf} {H : Hp} : ∀ {vs us : List V} {ds es : List D}, RepL K r H vs ds → RepL K r H us es → RepL K r H (vs ++ us) (ds ++ es)
  | _, _, _, _, .nil, q => q
  | _, _, _, _, .cons a b, q => .cons a (RepL.append b q)
theorem RepL.take {r : Rf} {H : Hp} : ∀ (n : Nat) {vs : List V} {ds : List D}, RepL K r H vs ds → RepL K r H (vs.take n) (ds.take n)
  | 0, _, _, _ => .nil
  | _ + 1, _, _, .nil => .nil
  | n + 1, _, _, .cons a b => .cons a (RepL.take n b)
theorem RepL.drop {r : Rf} {H : Hp} : ∀ (n : Nat) {vs : List V} {ds : List D}, RepL K r H vs ds → RepL K r H (vs.drop n) (ds.drop n)
  | 0, _, _, q => q
  | _ + 1, _, _, .nil => .nil
  | n + 1, _, _, .cons a b => RepL.drop n b
theorem RepL.ints {r : Rf} {H : Hp} : ∀ {vs : List V} {ns : List Int}, RepL K r H vs (ns.map D.int) → vs = ns.map V.int
  | _, [], .nil => rfl
  | _, n :: r, .cons (.int _) b => by rw [List.map_cons, RepL.ints b]
theorem RepL.ofInts {r : Rf} {H : Hp} : ∀ (ns : List Int), RepL K r H (ns.map V.int) (ns.map D.int)
  | [] => .nil
  | n :: r => .cons (.int n) (RepL.ofInts r)

/-- the store is held -/
def ObR (K : PySem.W.Frag) (r : Rf) (H : Hp) (a : Addr) : Ob → Prop
  | .dead => True
  | .dct kvs => r.av a ∧ ∃ xs, H a = some (.dK xs) ∧ RepK K r H xs kvs
  | .lst ds => r.av a ∧ ∃ xs, H a = some (.lst xs) ∧ RepL K r H xs ds
  | .ldc kvs => r.av a ∧ r.lk a ∧ ∃ o xs, H a = some (.frz o (.dK xs)) ∧ RepK K r H xs kvs
  | .ins c fs => r.av a ∧ ∃ (C dx : Addr) (vs : List (Str × V)), PySem.W.nsIn K mainGlobals c = some (some (.ref C)) ∧ H a = some (.ins C dx vs) ∧ vs.map (·.1) = fs.map (·.1) ∧ RepL K r H (vs.map (·.2)) (fs.map (·.2))
theorem ObR.ex {r r' : Rf} {H H' : Hp} (e : Ex r H r' H') {a : Addr} (k : r.av a → H' a = H a ∧ r'.av a) (kl : r.lk a → r'.lk a := by exact fun z => z) : ∀ {o : Ob}, ObR K r H a o → ObR K r' H' a o
  | .dead, _ => trivial
  | .dct _, ⟨v, xs, h, l⟩ => ⟨(k v).2, xs, (k v).1.trans h, l.ex e⟩
  | .lst _, ⟨v, xs, h, l⟩ => ⟨(k v).2, xs, (k v).1.trans h, l.ex e⟩
  | .ldc _, ⟨v, w, o, xs, h, l⟩ => ⟨(k v).2, kl w, o, xs, (k v).1.trans h, l.ex e⟩
  | .ins _ _, ⟨v, C, dx, vs, g, h, n, l⟩ => ⟨(k v).2, C, dx, vs, g, (k v).1.trans h, n, l.ex e⟩
structure Sim (K : PySem.W.Frag) (r : Rf) (H : Hp) (st : Store) : Prop where
  len : r.adr.length = st.length
  nd : r.adr.Nodup
  ob : ∀ (n : Nat) (a : Addr) (o : Ob), r.adr[n]? = some a → st[n]? = some o → ObR K r H a o
  there : ∀ p, r.av p → ∃ o, H p = some o
  old : ∀ a ∈ r.adr, ∃ o, H a = some o
  lkd : ∀ p, r.lk p → ∃ o u, H p = some (.frz o u)
theorem Sim.same {r : Rf} {H H' : Hp} {st : Store} (s : Sim K r H st) (e : Same H H') : Sim K r H' st :=
  ⟨s.len, s.nd, fun n a o h1 h2 => (s.ob n a o h1 h2).ex (Ex.same r e) (fun v => by
    obtain ⟨h, z⟩ := s.there a v
    exact ⟨by rw [z]; exact e a h z, v⟩), fun p v => let ⟨o, h⟩ := s.there p v; ⟨o, e p o h⟩, fun p v => let ⟨o, h⟩ := s.old p v; ⟨o, e p o h⟩, fun p v => let ⟨o, u, h⟩ := s.lkd p v; ⟨o, u, e p _ h⟩⟩

theorem Sim.ext {r : Rf} {H H' : Hp} {st : Store} (s : Sim K r H st) (e : Same H H') : Ext r H r H' := Ext.same r e s.there s.lkd
/-- the locals -/
structure EnvR (K : PySem.W.Frag) (r : Rf) (H : Hp) (env : Lo) (σ : L2.St) : Prop where
  len : env.length = σ.length
  at_ : ∀ (i : Nat) (d : D), env[i]? = some (some d) → ∃ v, σ[i]? = some (some v) ∧ Rep K r H v d
theorem EnvR.ext {r r' : Rf} {H H' : Hp} {env : Lo} {σ : L2.St} (h : EnvR K r H env σ) (e : Ext r H r' H') : EnvR K r' H' env σ :=
  ⟨h.len, fun i d q => let ⟨v, a, b⟩ := h.at_ i d q; ⟨v, a, b.ext e⟩⟩
theorem EnvR.set {r : Rf} {H : Hp} {env : Lo} {σ : L2.St} (h : EnvR K r H env σ) {v : V} {d : D} (q : Rep K r H v d) (i : Nat) : EnvR K r H (env.set i (some d)) (σ.set i (some v)) := by
  refine ⟨by rw [List.length_set, List.length_set]; exact h.len, fun j c e => ?_⟩
  by_cases z : i = j
  · subst z
    by_cases hi : i < env.length
    · rw [List.getElem?_set_self hi] at e
      cases e
      exact ⟨v, by rw [List.getElem?_set_self (by rw [← h.len]; exact hi)], q⟩
    · rw [List.getElem?_eq_none (by rw [List.length_set]; omega)] at e
      cases e
  · rw [List.getElem?_set_ne z] at e
    obtain ⟨u, a, b⟩ := h.at_ j c e
    exact ⟨u, by rw [List.getElem?_set_ne z]; exact a, b⟩
/-- a slot forgotten on both sides -/
theorem EnvR.wipe {r : Rf} {H : Hp} {env : Lo} {σ : L2.St} (h : EnvR K r H env σ) (i : Nat) : EnvR K r H (env.set i none) (σ.set i none) := by
  refine ⟨by rw [List.length_set, List.length_set]; exact h.len, fun j c e => ?_⟩
  by_cases z : i = j
  · subst z
    by_cases hi : i < env.length
    · rw [List.getElem?_set_self hi] at e
      cases e
    · rw [List.getElem?_eq_none (by rw [List.length_set]; omega)] at e
      cases e
  · rw [List.getElem?_set_ne z] at e
    obtain ⟨u, a, b⟩ := h.at_ j c e
    exact ⟨u, by rw [List.getElem?_set_ne z]; exact a, b⟩

/-! ### judgements -/
abbrev F := Lo → Store → Option (D × Store)
abbrev FT := Lo → Store → Option (Bool × Store)
abbrev FA := Lo → Store → Option (List D × Store)
def tD (K : PySem.W.Frag) (f : F) : TE := fun σ H Q => ∃ r env st d st', EnvR K r H env σ ∧ Sim K r H st ∧ f env st = some (d, st') ∧ ∀ v r' H', Ext r H r' H' → Sim K r' H' st' → Rep K r' H' v d → Q v H'
def tT (K : PySem.W.Frag) (f : FT) : TT := fun σ H Q => ∃ r env st b st', EnvR K r H env σ ∧ Sim K r H st ∧ f env st = some (b, st') ∧ ∀ r' H', Ext r H r' H' → Sim K r' H' st' → Q b H'
def tA (K : PySem.W.Frag) (f : FA) : TA := fun σ H Q => ∃ r env st ds st', EnvR K r H env σ ∧ Sim K r H st ∧ f env st = some (ds, st') ∧ ∀ vs r' H', Ext r H r' H' → Sim K r' H' st' → RepL K r' H' vs ds → Q vs H'
abbrev DE (X : Cx) (e : Expr) (f : F) : Prop := PE X e (tD X.K f)
abbrev DT (X : Cx) (e : Expr) (f : FT) : Prop := PT X e (tT X.K f)
abbrev DA (X : Cx) (es : List Expr) (f : FA) : Prop := PA X es (tA X.K f)

section
variable {X : Cx}
theorem weakE {e : Expr} {t t' : TE} (h : PE X e t) (i : ∀ σ H Q, t' σ H Q → t σ H Q) : PE X e t' := ⟨fun pins s σ H Q I q => h.run pins s σ H Q I (i σ H Q q)⟩
theorem weakT {e : Expr} {t t' : TT} (h : PT X e t) (i : ∀ σ H Q, t' σ H Q → t σ H Q) : PT X e t' := ⟨fun pins s σ H Q I q => h.run pins s σ H Q I (i σ H Q q)⟩
theorem weakA {e : List Expr} {t t' : TA} (h : PA X e t) (i : ∀ σ H Q, t' σ H Q → t σ H Q) : PA X e t' := ⟨fun pos pins s σ H Q I q => h.run pos pins s σ H Q I (i σ H Q q)⟩
theorem weakS {e : Stmt} {t t' : TS} (h : PS X e t) (i : ∀ D σ H, t' D σ H → t D σ H) : PS X e t' := ⟨fun pins s σ H D I q => h.run pins s σ H D I (i D σ H q)⟩
theorem weakSs {e : List Stmt} {t t' : TS} (h : PSs X e t) (i : ∀ D σ H, t' D σ H → t D σ H) : PSs X e t' := ⟨fun pins s σ H D I q => h.run pins s σ H D I (i D σ H q)⟩

/-- an object is locked for good -/
theorem pe_frz {e : Expr} {t : TE} (h : PE X e t) : PE X e (fun σ H Q => t σ H fun v H1 => ∃ d u, v = .ref d ∧ H1 d = some u ∧ Mut (some u) ∧ ∀ o, Q v (upd H1 d (.frz o u))) := by
  refine ⟨fun pins s σ H Q I hw => thn (h.run pins s σ H _ I hw) fun v s1 ⟨x, H1, I1, r, d, u, e1, hd, mu, q⟩ => ?_⟩
  obtain ⟨od, I2⟩ := I1.lock hd mu
  exact ⟨x, _, I2, r, q od⟩
/-- what a context must bear -/
structure GX (X : Cx) (k : Nat) : Prop where
  calm : X.calm = true
  nd : X.N.Nodup
  room : Room k X.A
  gd : X.A.guards = some []

/-! ### names, constants -/
def fVar (i : Nat) : F := fun env st => match env[i]? with | some (some d) => some (d, st) | _ => none
def fC (d : D) : F := fun _ st => some (d, st)
theorem de_var (i : Nat) {x : Str} {pos : Pos} (hN : X.N[i]? = some x := by rfl) (hv : Vis X.env.scope x := by first | exact Or.inl rfl | exact Or.inr (Or.inl rfl) | exact Or.inr (Or.inr rfl)) (hd : (x == ("__debug__" : Str)) = false := by decide)
    (hcd : (x == ("__classdict__" : Str)) = false := by decide) : DE X (.Name x pos) (fVar i) := weakE (pe_var hN hv hd hcd) fun σ H Q h => by
  obtain ⟨r, env, st, d, st', he, hs, hf, q⟩ := h
  unfold fVar at hf
  split at hf
  · rename_i d' hd'
    cases hf
    obtain ⟨v, a, b⟩ := he.at_ i _ hd'
    exact ⟨v, a, q v r H (.refl r H) hs b⟩
  · cases hf
theorem de_c {e : Expr} {v : V} {d : D} (h : PE X e (tC v)) (q : ∀ r H, Rep X.K r H v d) : DE X e (fC d) := weakE h fun σ H Q hh => by
  obtain ⟨r, env, st, d', st', he, hs, hf, k⟩ := hh
  cases hf
  exact k v r H (.refl r H) hs (q r H)
theorem de_int {i j pos} : DE X (.Constant (.int i) j pos) (fC (.int i)) := de_c pe_int fun _ _ => .int i
theorem de_bl {i j pos} : DE X (.Constant (.bool i) j pos) (fC (.bl i)) := de_c pe_bl fun _ _ => .bl i
theorem de_non {j pos} : DE X (.Constant .none j pos) (fC .non) := de_c pe_non fun _ _ => .non
theorem de_str {i j pos} : DE X (.Constant (.str i) j pos) (fC (.str i)) := de_c pe_str fun _ _ => .str i
theorem de_gint {x : Str} {i : Int} {t : Tok} {pos : Pos} (hg : Gl X x) (hm : X.mg x = some (.int i t)) (hd : (x == ("__debug__" : Str)) = false := by decide) : DE X (.Name x pos) (fC (.int i)) :=
  de_c (pe_glob (v := .int i) hg hm ⟨t, rfl⟩ hd) fun _ _ => .int i
theorem de_gstr {x : Str} {i : Str} {t : Tok} {pos : Pos} (hg : Gl X x) (hm : X.mg x = some (.str i t)) (hd : (x == ("__debug__" : Str)) = false := by decide) : DE X (.Name x pos) (fC (.str i)) :=
  de_c (pe_glob (v := .str i) hg hm ⟨t, rfl⟩ hd) fun _ _ => .str i

/-! ### two values -/
def OpOk (X : Cx) (f : Value → Value → Sem Value) (g : D → D → Option D) : Prop :=
  ∃ r : R2, OpR X f r ∧ ∀ (rho : Rf) (H : Hp) (x y : V) (a b d : D) (st : Store) (Q : VK), Sim X.K rho H st → Rep X.K rho H x a → Rep X.K rho H y b → g a b = some d → (∀ v H', Same H H' → Rep X.K rho H' v d → Q v H') → r x y H Q
def fOp (g : D → D → Option D) (fa fb : F) : F := fun env st => (fa env st).bind fun p => (fb env p.2).bind fun q => (g p.1 q.1).map fun d => (d, q.2)
theorem fOp_some {g : D → D → Option D} {fa fb : F} {env : Lo} {st : Store} {z : D × Store} (h : fOp g fa fb env st = some z) : ∃ x s1 y s2 d, fa env st = some (x, s1) ∧ fb env s1 = some (y, s2) ∧ g x y = some d ∧ z = (d, s2) := by
  unfold fOp at h
  obtain ⟨⟨x, s1⟩, h1, h⟩ := Option.bind_eq_some_iff.mp h
  obtain ⟨⟨y, s2⟩, h2, h⟩ := Option.bind_eq_some_iff.mp h
  obtain ⟨d, h3, h⟩ := Option.map_eq_some_iff.mp h
  exact ⟨x, s1, y, s2, d, h1, h2, h3, h.symm⟩
/-- the reading of two data expressions in a row -/
theorem two {fa fb : F} {σ : L2.St} {H : Hp} {Q : V → V → Hp → Prop} {r : Rf} {env : Lo} {st s1 s2 : Store} {x y : D} (he : EnvR K r H env σ) (hs : Sim K r H st) (h1 : fa env st = some (x, s1)) (h2 : fb env s1 = some (y, s2))
    (k : ∀ u v r' H', Ext r H r' H' → Sim K r' H' s2 → Rep K r' H' u x → Rep K r' H' v y → Q u v H') : tD K fa σ H fun u H1 => tD K fb σ H1 fun v H2 => Q u v H2 :=
  ⟨r, env, st, x, s1, he, hs, h1, fun u r1 H1 e1 q1 p1 => ⟨r1, env, s1, y, s2, he.ext e1, q1, h2, fun v r2 H2 e2 q2 p2 => k u v r2 H2 (e1.trans e2) q2 (p1.ext e2) p2⟩⟩
theorem opReads {f : Value → Value → Sem Value} {g : D → D → Option D} {r : R2} (k : ∀ (rho : Rf) (H : Hp) (x y : V) (a b d : D) (st : Store) (Q : VK), Sim K rho H st → Rep K rho H x a → Rep K rho H y b → g a b = some d → (∀ v H', Same H H' → Rep K rho H' v d → Q v H') → r x y H Q)
    {fa fb : F} (σ : L2.St) (H : Hp) (Q : VK) (h : tD K (fOp g fa fb) σ H Q) : tOp r (tD K fa) (tD K fb) σ H Q := by
  obtain ⟨rho, env, st, d, st', he, hs, hf, q⟩ := h
  obtain ⟨x, s1, y, s2, d', h1, h2, h3, e⟩ := fOp_some hf
  cases e
  exact two he hs h1 h2 fun u v r' H' e1 q1 pu pv => k r' H' u v x y d _ Q q1 pu pv h3 fun w H2 sm pw => q w r' H2 (e1.trans (q1.ext sm)) (q1.same sm) pw
theorem de_op {op : Operator} {g : D → D → Option D} {a b : Expr} {fa fb : F} {pos : Pos} (ho : OpOk X (binaryOp op) g) (ha : DE X a fa) (hb : DE X b fb) : DE X (.BinOp a op b pos) (fOp g fa fb) := by
  obtain ⟨r, hr, k⟩ := ho
  exact weakE (pe_op hr ha hb) fun σ H Q h => opReads (f := binaryOp op) k σ H Q h
theorem de_cmp {op : CmpOp} {g : D → D → Option D} {a b : Expr} {fa fb : F} {pos : Pos} (ho : OpOk X (compareOp op) g) (ha : DE X a fa) (hb : DE X b fb) (hm : behindInMarks op b = false := by with_unfolding_all rfl) : DE X (.Compare a [op] [b] pos) (fOp g fa fb) := by
  obtain ⟨r, hr, k⟩ := ho
  exact weakE (pe_cmpR hr ha hb hm) fun σ H Q h => opReads (f := compareOp op) k σ H Q h
end
end DL
namespace DL
abbrev WXd := PySem.Value → Option PySem.Addr → L2.St → L2.Hp → Prop
open PySem PySem.Spec PyProof.Rows L2
variable {K : PySem.W.Frag}

/-! ### arguments, displays -/
def aNil : FA := fun _ st => some ([], st)
def aCons (f : F) (g : FA) : FA := fun env st => (f env st).bind fun p => (g env p.2).map fun q => (p.1 :: q.1, q.2)
theorem aCons_some {f : F} {g : FA} {env : Lo} {st : Store} {z : List D × Store} (h : aCons f g env st = some z) : ∃ x s1 ys s2, f env st = some (x, s1) ∧ g env s1 = some (ys, s2) ∧ z = (x :: ys, s2) := by
  unfold aCons at h
  obtain ⟨⟨x, s1⟩, h1, h⟩ := Option.bind_eq_some_iff.mp h
  obtain ⟨⟨y, s2⟩, h2, h⟩ := Option.map_eq_some_iff.mp h
  exact ⟨x, s1, y, s2, h1, h2, h.symm⟩
section
variable {X : Cx} {W : WXd}
theorem da_nil : DA X [] aNil := weakA pa_nil fun σ H Q h => by
  obtain ⟨r, env, st, ds, st', he, hs, hf, q⟩ := h
  cases hf
  exact q [] r H (.refl r H) hs .nil
theorem da_cons {e : Expr} {es : List Expr} {f : F} {g : FA} (h : DE X e f) (t : DA X es g) (hs : starEach (e :: es) X.env = (false, eval e X.env) :: starEach es X.env := by rfl) : DA X (e :: es) (aCons f g) :=
  weakA (pa_cons h t hs) fun σ H Q hh => by
  obtain ⟨r, env, st, ds, st', he, hs, hf, q⟩ := hh
  obtain ⟨x, s1, ys, s2, h1, h2, e⟩ := aCons_some hf
  cases e
  exact ⟨r, env, st, x, s1, he, hs, h1, fun u r1 H1 e1 q1 p1 => ⟨r1, env, s1, ys, _, he.ext e1, q1, h2, fun us r2 H2 e2 q2 p2 => q (u :: us) r2 H2 (e1.trans e2) q2 (.cons (p1.ext e2) p2)⟩⟩

/-- a value made of the values of several expressions -/
def fMk (g : List D → Store → Option D) (fa : FA) : F := fun env st => (fa env st).bind fun p => (g p.1 p.2).map fun d => (d, p.2)
theorem fMk_some {g : List D → Store → Option D} {fa : FA} {env : Lo} {st : Store} {z : D × Store} (h : fMk g fa env st = some z) : ∃ xs s1 d, fa env st = some (xs, s1) ∧ g xs s1 = some d ∧ z = (d, s1) := by
  unfold fMk at h
  obtain ⟨⟨x, s1⟩, h1, h⟩ := Option.bind_eq_some_iff.mp h
  obtain ⟨d, h2, h⟩ := Option.map_eq_some_iff.mp h
  exact ⟨x, s1, d, h1, h2, h.symm⟩
/-- values in, a value out, new objects at most -/
def ArgOk (K : PySem.W.Frag) (r : List V → Hp → VK → Prop) (g : List D → Store → Option D) : Prop :=
  ∀ (rho : Rf) (H : Hp) (xs : List V) (ds : List D) (d : D) (st : Store) (Q : VK), RepL K rho H xs ds → Sim K rho H st → g ds st = some d → (∀ v H', Same H H' → Rep K rho H' v d → Q v H') → r xs H Q
theorem argReads {r : List V → Hp → VK → Prop} {g : List D → Store → Option D} (k : ArgOk K r g) {fa : FA} (σ : L2.St) (H : Hp) (Q : VK) (h : tD K (fMk g fa) σ H Q) : tA K fa σ H fun vs H1 => r vs H1 Q := by
  obtain ⟨rho, env, st, d, st', he, hs, hf, q⟩ := h
  obtain ⟨xs, s1, d', h1, h2, e⟩ := fMk_some hf
  cases e
  exact ⟨rho, env, st, xs, _, he, hs, h1, fun us r1 H1 e1 q1 p1 => k r1 H1 us xs d _ Q p1 q1 h2 fun v H2 sm pv => q v r1 H2 (e1.trans (q1.ext sm)) (q1.same sm) pv⟩
/-- a new object that no value is -/
theorem Sim.free {r : Rf} {H : Hp} {st : Store} (s : Sim K r H st) {p : Addr} (h : H p = none) : ¬ r.av p := fun z => by
  obtain ⟨o, e⟩ := s.there p z
  rw [h] at e; cases e
def mkTup (ds : List D) (_ : Store) : Option D := if ds.length ≤ sizeLine then some (.tup ds) else none
def mkLst (ds : List D) (_ : Store) : Option D := if ds.length ≤ sizeLine then some (.lst ds) else none
theorem de_tup {es : List Expr} {fa : FA} {x1 : Nat} {pos : Pos} (h : DA X es fa) : DE X (.Tuple es x1 pos) (fMk mkTup fa) :=
  weakE (pe_tupF h) fun σ H Q hh => argReads (r := fun xs H1 Q => xs.length ≤ sizeLine ∧ Fz Q H1 xs) (fun rho H xs ds d st Q hr hs hg k => by
    unfold mkTup at hg
    split at hg
    · rename_i hl
      cases hg
      refine ⟨by rw [hr.len]; exact hl, fun p o hp hz => k _ _ (same_alloc hp) (.tup upd_same hz (hs.free hp) (hr.ex (Ex.same rho (same_alloc hp))))⟩
    · cases hg) σ H Q hh
theorem de_lst {es : List Expr} {fa : FA} {pos : Pos} (h : DA X es fa) : DE X (.List es pos) (fMk mkLst fa) :=
  weakE (pe_lst h) fun σ H Q hh => argReads (r := fun xs H1 Q => xs.length ≤ sizeLine ∧ ∀ p, H1 p = none → Q (.ref p) (upd H1 p (.lst xs))) (fun rho H xs ds d st Q hr hs hg k => by
    unfold mkLst at hg
    split at hg
    · rename_i hl
      cases hg
      refine ⟨by rw [hr.len]; exact hl, fun p hp => k _ _ (same_alloc hp) (.lst upd_same (hs.free hp) (hr.ex (Ex.same rho (same_alloc hp))))⟩
    · cases hg) σ H Q hh
/-- a call of a built-in -/
def CallOk (X : Cx) (f : Value) (g : List D → Store → Option D) : Prop := ∃ r, CallR X f r ∧ ArgOk X.K r g
theorem de_callB {id : String} {x : Str} {g : List D → Store → Option D} {fa : FA} {e : Expr} {es : List Expr} {p pos : Pos} (ho : CallOk X (.builtin id) g) (hg : Gl X x) (hm : X.mg x = none) (hv : bootBuiltins x = some (.builtin id)) (ha : DA X (e :: es) fa) (hn : x ≠ "__name__" := by decide) (hdb : (x == ("__debug__" : Str)) = false := by decide)
    (he : starEach (e :: es) X.env = (false, eval e X.env) :: starEach es X.env := by rfl) (hpl : (backTo pos (starEach es X.env)).any (·.1) = false := by rfl) : DE X (.Call (.Name x p) (e :: es) [] pos) (fMk g fa) := by
  obtain ⟨r, hr, k⟩ := ho
  exact weakE (pe_callB hr hg hm hv ha hn hdb he hpl) fun σ H Q h => argReads k σ H Q h
theorem de_callTy {T : String} {x : Str} {g : List D → Store → Option D} {fa : FA} {e : Expr} {es : List Expr} {p pos : Pos} (ho : CallOk X (.type T) g) (hg : Gl X x) (hm : X.mg x = none) (hv : bootBuiltins x = some (.type T)) (ha : DA X (e :: es) fa) (hn : x ≠ "__name__" := by decide) (hdb : (x == ("__debug__" : Str)) = false := by decide)
    (he : starEach (e :: es) X.env = (false, eval e X.env) :: starEach es X.env := by rfl) (hpl : (backTo pos (starEach es X.env)).any (·.1) = false := by rfl) : DE X (.Call (.Name x p) (e :: es) [] pos) (fMk g fa) := by
  obtain ⟨r, hr, k⟩ := ho
  exact weakE (pe_callTy hr hg hm hv ha hn hdb he hpl) fun σ H Q h => argReads k σ H Q h

/-! ### tests, and, or, not -/
def asB : D → Option Bool | .bl b => some b | _ => none
def fTest (f : F) : FT := fun env st => (f env st).bind fun p => (asB p.1).map fun b => (b, p.2)
theorem fTest_some {f : F} {env : Lo} {st : Store} {z : Bool × Store} (h : fTest f env st = some z) : f env st = some (.bl z.1, z.2) := by
  unfold fTest at h
  obtain ⟨⟨x, s1⟩, h1, h⟩ := Option.bind_eq_some_iff.mp h
  obtain ⟨b, h2, h⟩ := Option.map_eq_some_iff.mp h
  cases x with
  | bl c => cases h2; subst h; exact h1
  | _ => cases h2
theorem testReads {f : F} (σ : L2.St) (H : Hp) (Q : Bool → Hp → Prop) (h : tT K (fTest f) σ H Q) : tD K f σ H fun x H1 => ∃ c, x = .bl c ∧ Q c H1 := by
  obtain ⟨r, env, st, b, st', he, hs, hf, q⟩ := h
  exact ⟨r, env, st, _, _, he, hs, fTest_some hf, fun v r1 H1 e1 q1 p1 => by
    cases p1
    exact ⟨b, rfl, q r1 H1 e1 q1⟩⟩
theorem dt_val {e : Expr} {f : F} (h : DE X e f) (he : ∀ whole, isTrue e X.env whole = (do let v ← whole; standAt e.pos; holding [v] (truthy v)) := by intro _; rfl) : DT X e (fTest f) := weakT (pt_val h he) fun σ H Q hh => testReads σ H Q hh
theorem dt_cmp {op : CmpOp} {g : D → D → Option D} {a b : Expr} {fa fb : F} {pos : Pos} (ho : OpOk X (compareOp op) g) (ha : DE X a fa) (hb : DE X b fb) (hm : behindInMarks op b = false := by with_unfolding_all rfl) : DT X (.Compare a [op] [b] pos) (fTest (fOp g fa fb)) := by
  obtain ⟨r, hr, k⟩ := ho
  exact weakT (pt_cmpR hr ha hb hm) fun σ H Q h => opReads (f := compareOp op) k σ H (fun x H1 => ∃ c, x = .bl c ∧ Q c H1) (testReads σ H Q h)
def fNotT (f : FT) : FT := fun env st => (f env st).map fun p => (!p.1, p.2)
theorem dt_not {e : Expr} {f : FT} {pos : Pos} (h : DT X e f) : DT X (.UnaryOp .Not e pos) (fNotT f) := weakT (pt_not h) fun σ H Q hh => by
  obtain ⟨r, env, st, b, st', he, hs, hf, q⟩ := hh
  obtain ⟨⟨c, s1⟩, h1, h2⟩ := Option.map_eq_some_iff.mp hf
  cases h2
  exact ⟨r, env, st, c, _, he, hs, h1, q⟩
def fAndT (f g : FT) : FT := fun env st => (f env st).bind fun p => if p.1 = true then g env p.2 else some (false, p.2)
def fOrT (f g : FT) : FT := fun env st => (f env st).bind fun p => if p.1 = true then some (true, p.2) else g env p.2
/-- a test whatever the whole is -/
abbrev DW (X : Cx) (e : Expr) (f : FT) : Prop := PW X e (tT X.K f)
theorem weakW {e : Expr} {t t' : TT} (h : PW X e t) (i : ∀ σ H Q, t' σ H Q → t σ H Q) : PW X e t' := ⟨fun wh pins s σ H Q I q => h.run wh pins s σ H Q I (i σ H Q q)⟩
theorem dw_and1 {a : Expr} {f : FT} {pos : Pos} (h : DT X a f) : DW X (.BoolOp .And [a] pos) f := pw_and1 h
theorem dw_or1 {a : Expr} {f : FT} {pos : Pos} (h : DT X a f) : DW X (.BoolOp .Or [a] pos) f := pw_or1 h
theorem dw_and {a b : Expr} {rest : List Expr} {f g : FT} {pos : Pos} (ha : DT X a f) (hb : DW X (.BoolOp .And (b :: rest) pos) g) : DW X (.BoolOp .And (a :: b :: rest) pos) (fAndT f g) := weakW (pw_and ha hb) fun σ H Q hh => by
  obtain ⟨r, env, st, b, st', he, hs, hf, q⟩ := hh
  obtain ⟨⟨c, s1⟩, h1, h2⟩ := Option.bind_eq_some_iff.mp hf
  refine ⟨r, env, st, c, s1, he, hs, h1, fun r1 H1 e1 q1 => ?_⟩
  cases c with
  | true => exact ⟨r1, env, s1, b, st', he.ext e1, q1, h2, fun r2 H2 e2 q2 => q r2 H2 (e1.trans e2) q2⟩
  | false =>
    cases h2
    exact q r1 H1 e1 q1
theorem dw_or {a b : Expr} {rest : List Expr} {f g : FT} {pos : Pos} (ha : DT X a f) (hb : DW X (.BoolOp .Or (b :: rest) pos) g) : DW X (.BoolOp .Or (a :: b :: rest) pos) (fOrT f g) := weakW (pw_or ha hb) fun σ H Q hh => by
  obtain ⟨r, env, st, b, st', he, hs, hf, q⟩ := hh
  obtain ⟨⟨c, s1⟩, h1, h2⟩ := Option.bind_eq_some_iff.mp hf
  refine ⟨r, env, st, c, s1, he, hs, h1, fun r1 H1 e1 q1 => ?_⟩
  cases c with
  | false => exact ⟨r1, env, s1, b, st', he.ext e1, q1, h2, fun r2 H2 e2 q2 => q r2 H2 (e1.trans e2) q2⟩
  | true =>
    cases h2
    exact q r1 H1 e1 q1
theorem dt_w {e : Expr} {f : FT} (h : DW X e f) : DT X e f := h.pt
/-- as values: bools alone -/
def fAnd (f g : F) : F := fun env st => (f env st).bind fun p => (asB p.1).bind fun b => if b = true then g env p.2 else some (.bl false, p.2)
def fOr (f g : F) : F := fun env st => (f env st).bind fun p => (asB p.1).bind fun b => if b = true then some (.bl true, p.2) else g env p.2
def fNot (f : F) : F := fun env st => (f env st).bind fun p => (asB p.1).map fun b => (.bl (!b), p.2)
theorem asB_some {d : D} {b : Bool} (h : asB d = some b) : d = .bl b := by
  cases d with
  | bl c => cases h; rfl
  | _ => cases h
theorem de_one {a : Expr} {op} {f : F} {pos : Pos} (h : DE X a f) : DE X (.BoolOp op [a] pos) f := pe_one h
theorem de_and {a b : Expr} {rest : List Expr} {f g : F} {pos : Pos} (ha : DE X a f) (hb : DE X (.BoolOp .And (b :: rest) pos) g) : DE X (.BoolOp .And (a :: b :: rest) pos) (fAnd f g) := weakE (pe_and ha hb) fun σ H Q hh => by
  obtain ⟨r, env, st, d, st', he, hs, hf, q⟩ := hh
  obtain ⟨⟨x, s1⟩, h1, h2⟩ := Option.bind_eq_some_iff.mp hf
  obtain ⟨c, h3, h4⟩ := Option.bind_eq_some_iff.mp h2
  have e := asB_some h3
  subst e
  refine ⟨r, env, st, .bl c, s1, he, hs, h1, fun u r1 H1 e1 q1 p1 => ?_⟩
  cases p1
  refine ⟨c, rfl, ?_⟩
  cases c with
  | true => exact ⟨r1, env, s1, d, st', he.ext e1, q1, h4, fun v r2 H2 e2 q2 p2 => q v r2 H2 (e1.trans e2) q2 p2⟩
  | false =>
    cases h4
    exact q _ r1 H1 e1 q1 (.bl false)
theorem de_or {a b : Expr} {rest : List Expr} {f g : F} {pos : Pos} (ha : DE X a f) (hb : DE X (.BoolOp .Or (b :: rest) pos) g) : DE X (.BoolOp .Or (a :: b :: rest) pos) (fOr f g) := weakE (pe_or ha hb) fun σ H Q hh => by
  obtain ⟨r, env, st, d, st', he, hs, hf, q⟩ := hh
  obtain ⟨⟨x, s1⟩, h1, h2⟩ := Option.bind_eq_some_iff.mp hf
  obtain ⟨c, h3, h4⟩ := Option.bind_eq_some_iff.mp h2
  have e := asB_some h3
  subst e
  refine ⟨r, env, st, .bl c, s1, he, hs, h1, fun u r1 H1 e1 q1 p1 => ?_⟩
  cases p1
  refine ⟨c, rfl, ?_⟩
  cases c with
  | false => exact ⟨r1, env, s1, d, st', he.ext e1, q1, h4, fun v r2 H2 e2 q2 p2 => q v r2 H2 (e1.trans e2) q2 p2⟩
  | true =>
    cases h4
    exact q _ r1 H1 e1 q1 (.bl true)
theorem de_not {a : Expr} {f : F} {pos : Pos} (ha : DE X a f) : DE X (.UnaryOp .Not a pos) (fNot f) := weakE (pe_not ha) fun σ H Q hh => by
  obtain ⟨r, env, st, d, st', he, hs, hf, q⟩ := hh
  obtain ⟨⟨x, s1⟩, h1, h2⟩ := Option.bind_eq_some_iff.mp hf
  obtain ⟨c, h3, h4⟩ := Option.map_eq_some_iff.mp h2
  have e := asB_some h3
  subst e
  cases h4
  refine ⟨r, env, st, .bl c, _, he, hs, h1, fun u r1 H1 e1 q1 p1 => ?_⟩
  cases p1
  exact ⟨c, rfl, q _ r1 H1 e1 q1 (.bl (!c))⟩
def fIfE (t : FT) (f g : F) : F := fun env st => (t env st).bind fun p => if p.1 = true then f env p.2 else g env p.2
theorem de_if {c a b : Expr} {t : FT} {f g : F} {pos : Pos} (hc : DT X c t) (ha : DE X a f) (hb : DE X b g) : DE X (.IfExp c a b pos) (fIfE t f g) := weakE (pe_ifExp hc ha hb) fun σ H Q hh => by
  obtain ⟨r, env, st, d, st', he, hs, hf, q⟩ := hh
  obtain ⟨⟨c, s1⟩, h1, h2⟩ := Option.bind_eq_some_iff.mp hf
  refine ⟨r, env, st, c, s1, he, hs, h1, fun r1 H1 e1 q1 => ?_⟩
  cases c with
  | true => exact ⟨r1, env, s1, d, st', he.ext e1, q1, h2, fun v r2 H2 e2 q2 p2 => q v r2 H2 (e1.trans e2) q2 p2⟩
  | false => exact ⟨r1, env, s1, d, st', he.ext e1, q1, h2, fun v r2 H2 e2 q2 p2 => q v r2 H2 (e1.trans e2) q2 p2⟩
/-- a op b op' c -/
def fChain (g g' : D → D → Option D) (fa fb fc : F) : F := fun env st => (fa env st).bind fun p => (fb env p.2).bind fun q => (g p.1 q.1).bind fun z => (asB z).bind fun k =>
  if k = true then (fc env q.2).bind fun w => (g' q.1 w.1).map fun d => (d, w.2) else some (.bl false, q.2)
theorem chainReads {r r' : R2} {g g' : D → D → Option D}
    (k : ∀ (rho : Rf) (H : Hp) (x y : V) (a b d : D) (st : Store) (Q : VK), Sim K rho H st → Rep K rho H x a → Rep K rho H y b → g a b = some d → (∀ v H', Same H H' → Rep K rho H' v d → Q v H') → r x y H Q)
    (k' : ∀ (rho : Rf) (H : Hp) (x y : V) (a b d : D) (st : Store) (Q : VK), Sim K rho H st → Rep K rho H x a → Rep K rho H y b → g' a b = some d → (∀ v H', Same H H' → Rep K rho H' v d → Q v H') → r' x y H Q)
    {fa fb fc : F} (σ : L2.St) (H : Hp) (Q : VK) (h : tD K (fChain g g' fa fb fc) σ H Q) : tChain r r' (tD K fa) (tD K fb) (tD K fc) σ H Q := by
  obtain ⟨rho, env, st, d, st', he, hs, hf, q⟩ := h
  obtain ⟨⟨x, s1⟩, h1, hf1⟩ := Option.bind_eq_some_iff.mp hf
  obtain ⟨⟨y, s2⟩, h2, hf2⟩ := Option.bind_eq_some_iff.mp hf1
  obtain ⟨z, h3, hf3⟩ := Option.bind_eq_some_iff.mp hf2
  obtain ⟨c, h4, hf4⟩ := Option.bind_eq_some_iff.mp hf3
  have e := asB_some h4
  subst e
  refine two he hs h1 h2 fun u v r1 H1 e1 q1 pu pv => k r1 H1 u v x y _ _ _ q1 pu pv h3 fun w H2 sm pw => ?_
  cases pw
  refine ⟨c, rfl, ?_⟩
  cases c with
  | false =>
    cases hf4
    exact q _ r1 H2 (e1.trans (q1.ext sm)) (q1.same sm) (.bl false)
  | true =>
    rw [if_pos rfl] at hf4
    obtain ⟨⟨w, s3⟩, h5, hf5⟩ := Option.bind_eq_some_iff.mp hf4
    obtain ⟨d', h6, hf6⟩ := Option.map_eq_some_iff.mp hf5
    cases hf6
    rw [if_pos rfl]
    have e2 : Ext rho H r1 H2 := e1.trans (q1.ext sm)
    refine ⟨r1, env, s2, w, _, he.ext e2, q1.same sm, h5, fun w' r3 H3 e3 q3 pw' => ?_⟩
    exact k' r3 H3 v w' y w _ _ _ q3 (pv.ext ((q1.ext sm).trans e3)) pw' h6 fun v4 H4 sm4 p4 => q v4 r3 H4 ((e2.trans e3).trans (q3.ext sm4)) (q3.same sm4) p4
theorem de_chain {op op' : CmpOp} {g g' : D → D → Option D} {a b c : Expr} {fa fb fc : F} {pos : Pos} (ho : OpOk X (compareOp op) g) (ho' : OpOk X (compareOp op') g') (ha : DE X a fa) (hb : DE X b fb) (hc : DE X c fc)
    (hm : lastMarks [op, op'] [b, c] = false := by with_unfolding_all rfl) : DE X (.Compare a [op, op'] [b, c] pos) (fChain g g' fa fb fc) := by
  obtain ⟨r, hr, k⟩ := ho
  obtain ⟨r', hr', k'⟩ := ho'
  exact weakE (pe_chain hr hr' ha hb hc hm) fun σ H Q h => chainReads k k' σ H Q h
theorem dt_chain {op op' : CmpOp} {g g' : D → D → Option D} {a b c : Expr} {fa fb fc : F} {pos : Pos} (ho : OpOk X (compareOp op) g) (ho' : OpOk X (compareOp op') g') (ha : DE X a fa) (hb : DE X b fb) (hc : DE X c fc)
    (hm : lastMarks [op, op'] [b, c] = false := by with_unfolding_all rfl) : DT X (.Compare a [op, op'] [b, c] pos) (fTest (fChain g g' fa fb fc)) := by
  obtain ⟨r, hr, k⟩ := ho
  obtain ⟨r', hr', k'⟩ := ho'
  exact weakT (pt_chain hr hr' ha hb hc hm) fun σ H Q h => chainReads k k' σ H (fun x H1 => ∃ c, x = .bl c ∧ Q c H1) (testReads σ H Q h)

/-! ### statements -/
inductive Out | nx | bk | ct | rt (d : D) | er (c f : Str) (d : D)
/-- an error of class c, its one field f -/
def ErrAt (K : PySem.W.Frag) (r : Rf) (H : Hp) (c f : Str) (d : D) (C dd : Addr) : Prop := PySem.W.nsIn K mainGlobals c = some (some (.ref C)) ∧ ∃ v, H dd = some (.xd [(f, v)]) ∧ Rep K r H v d
abbrev FS := Lo → Store → Option (Out × Lo × Store)
def OutOk (K : PySem.W.Frag) (W : WXd) (r : Rf) (H : Hp) (D' : Ends) (env' : Lo) (st' : Store) : Out → Prop
  | .nx => ∀ σ' r' H', Ext r H r' H' → EnvR K r' H' env' σ' → Sim K r' H' st' → D'.nx σ' H'
  | .bk => ∀ σ' r' H', Ext r H r' H' → EnvR K r' H' env' σ' → Sim K r' H' st' → D'.bk σ' H'
  | .ct => ∀ σ' r' H', Ext r H r' H' → EnvR K r' H' env' σ' → Sim K r' H' st' → D'.ct σ' H'
  | .rt d => ∀ v r' H', Ext r H r' H' → Sim K r' H' st' → Rep K r' H' v d → D'.rt v H'
  | .er c f d => ∀ σ' r' H' C dd, Ext r H r' H' → EnvR K r' H' env' σ' → Sim K r' H' st' → ErrAt K r' H' c f d C dd → W (.ref C) (some dd) σ' H'
theorem OutOk.ext {W : WXd} {r r1 : Rf} {H H1 : Hp} {D' : Ends} {env' : Lo} {st' : Store} (e : Ext r H r1 H1) : ∀ {o : Out}, OutOk K W r H D' env' st' o → OutOk K W r1 H1 D' env' st' o
  | .nx, h => fun σ' r' H' e' a b => h σ' r' H' (e.trans e') a b
  | .bk, h => fun σ' r' H' e' a b => h σ' r' H' (e.trans e') a b
  | .ct, h => fun σ' r' H' e' a b => h σ' r' H' (e.trans e') a b
  | .rt _, h => fun v r' H' e' a b => h v r' H' (e.trans e') a b
  | .er _ _ _, h => fun σ' r' H' C dd e' a b c => h σ' r' H' C dd (e.trans e') a b c
def tS (K : PySem.W.Frag) (W : WXd) (g : FS) : TS := fun D' σ H => ∃ r env st o env' st', EnvR K r H env σ ∧ Sim K r H st ∧ g env st = some (o, env', st') ∧ OutOk K W r H D' env' st' o
abbrev DS (X : Cx) (W : WXd) (st : Stmt) (g : FS) : Prop := PS X st (tS X.K W g)
abbrev DSs (X : Cx) (W : WXd) (st : List Stmt) (g : FS) : Prop := PSs X st (tS X.K W g)
def sNil : FS := fun env st => some (.nx, env, st)
def sSeq (g h : FS) : FS := fun env st => (g env st).bind fun p => match p with | (.nx, e1, s1) => h e1 s1 | q => some q
theorem ds_nil : DSs X W [] sNil := weakSs pss_nil fun D' σ H hh => by
  obtain ⟨r, env, st, o, env', st', he, hs, hf, q⟩ := hh
  cases hf
  exact q σ r H (.refl r H) he hs
theorem ds_one {s : Stmt} {g : FS} (h : DS X W s g) : DSs X W [s] g := pss_one h
theorem ds_cons {s : Stmt} {rest : List Stmt} {g h : FS} (hg : DS X W s g) (hr : DSs X W rest h) : DSs X W (s :: rest) (sSeq g h) := weakSs (pss_cons hg hr) fun D' σ H hh => by
  obtain ⟨r, env, st, o, env', st', he, hs, hf, q⟩ := hh
  obtain ⟨⟨o1, e1, s1⟩, h1, h2⟩ := Option.bind_eq_some_iff.mp hf
  refine ⟨r, env, st, o1, e1, s1, he, hs, h1, ?_⟩
  cases o1 with
  | nx => exact fun σ' r' H' ex he' hs' => ⟨r', e1, s1, o, env', st', he', hs', h2, q.ext ex⟩
  | bk => cases h2; exact q
  | ct => cases h2; exact q
  | rt d => cases h2; exact q
  | er c f d => cases h2; exact q
def sRet (f : F) : FS := fun env st => (f env st).map fun p => (.rt p.1, env, p.2)
theorem ds_ret {e : Expr} {f : F} {pos : Pos} (h : DE X e f) : DS X W (.Return (some e) pos) (sRet f) := weakS (ps_ret h) fun D' σ H hh => by
  obtain ⟨r, env, st, o, env', st', he, hs, hf, q⟩ := hh
  obtain ⟨⟨d, s1⟩, h1, h2⟩ := Option.map_eq_some_iff.mp hf
  cases h2
  exact ⟨r, env, st, d, _, he, hs, h1, q⟩
def sRetN : FS := fun env st => some (.rt .non, env, st)
theorem ds_retN {pos : Pos} : DS X W (.Return none pos) sRetN := weakS ps_retN fun D' σ H hh => by
  obtain ⟨r, env, st, o, env', st', he, hs, hf, q⟩ := hh
  cases hf
  exact q _ r H (.refl r H) hs .non
def sBrk : FS := fun env st => some (.bk, env, st)
def sCnt : FS := fun env st => some (.ct, env, st)
theorem ds_pass {pos : Pos} : DS X W (.Pass pos) sNil := weakS ps_pass fun D' σ H hh => by
  obtain ⟨r, env, st, o, env', st', he, hs, hf, q⟩ := hh
  cases hf
  exact q σ r H (.refl r H) he hs
theorem ds_brk {pos : Pos} : DS X W (.Break pos) sBrk := weakS ps_break fun D' σ H hh => by
  obtain ⟨r, env, st, o, env', st', he, hs, hf, q⟩ := hh
  cases hf
  exact q σ r H (.refl r H) he hs
theorem ds_cnt {pos : Pos} : DS X W (.Continue pos) sCnt := weakS ps_continue fun D' σ H hh => by
  obtain ⟨r, env, st, o, env', st', he, hs, hf, q⟩ := hh
  cases hf
  exact q σ r H (.refl r H) he hs
def sDrop (f : F) : FS := fun env st => (f env st).map fun p => (.nx, env, p.2)
theorem ds_expr {e : Expr} {f : F} {pos : Pos} (h : DE X e f) (hs : swapsWith e none pos.line X.env = pure false := by rfl) : DS X W (.Expr e pos) (sDrop f) := weakS (ps_expr h hs) fun D' σ H hh => by
  obtain ⟨r, env, st, o, env', st', he, hs, hf, q⟩ := hh
  obtain ⟨⟨d, s1⟩, h1, h2⟩ := Option.map_eq_some_iff.mp hf
  cases h2
  exact ⟨r, env, st, d, _, he, hs, h1, fun v r1 H1 e1 q1 p1 => q σ r1 H1 e1 (he.ext e1) q1⟩
def sIf (t : FT) (g h : FS) : FS := fun env st => (t env st).bind fun p => if p.1 = true then g env p.2 else h env p.2
theorem ds_if {c : Expr} {a b : List Stmt} {t : FT} {g h : FS} {pos : Pos} (hc : DT X c t) (ha : DSs X W a g) (hb : DSs X W b h) : DS X W (.If c a b pos) (sIf t g h) := weakS (ps_if hc ha hb) fun D' σ H hh => by
  obtain ⟨r, env, st, o, env', st', he, hs, hf, q⟩ := hh
  obtain ⟨⟨k, s1⟩, h1, h2⟩ := Option.bind_eq_some_iff.mp hf
  refine ⟨r, env, st, k, s1, he, hs, h1, fun r1 H1 e1 q1 => ?_⟩
  cases k with
  | true => exact ⟨r1, env, s1, o, env', st', he.ext e1, q1, h2, q.ext e1⟩
  | false => exact ⟨r1, env, s1, o, env', st', he.ext e1, q1, h2, q.ext e1⟩

/-! ### targets -/
abbrev FG := D → Lo → Option Lo
abbrev FGs := List D → Lo → Option Lo
/-- how an item stands for its data -/
abbrev RD := Rf → Hp → V → D → Prop
/-- .. by Rep, or as a tuple of which no more is known -/
def RepI (K : PySem.W.Frag) : RD := fun r H v d => ∃ a xs ds, v = .ref a ∧ d = .tup ds ∧ SqT K H a xs ∧ RepL K r H xs ds
def tGR (K : PySem.W.Frag) (R : RD) (g : FG) : TG := fun v σ H Q => ∃ r env d env', EnvR K r H env σ ∧ R r H v d ∧ g d env = some env' ∧ ∀ σ', EnvR K r H env' σ' → Q σ' H
abbrev tG (K : PySem.W.Frag) (g : FG) : TG := tGR K (Rep K) g
abbrev DGR (X : Cx) (R : RD) (e : Expr) (g : FG) : Prop := PG X e (tGR X.K R g)
def tGs (K : PySem.W.Frag) (g : FGs) : TGs := fun vs σ H Q => ∃ r env ds env', EnvR K r H env σ ∧ RepL K r H vs ds ∧ g ds env = some env' ∧ ∀ σ', EnvR K r H env' σ' → Q σ' H
abbrev DG (X : Cx) (e : Expr) (g : FG) : Prop := PG X e (tG X.K g)
abbrev DGs (X : Cx) (e : List Expr) (g : FGs) : Prop := PGs X e (tGs X.K g)
theorem weakG {e : Expr} {t t' : TG} (h : PG X e t) (i : ∀ v σ H Q, t' v σ H Q → t v σ H Q) : PG X e t' := ⟨fun pins s σ H v u Q I r q => h.run pins s σ H v u Q I r (i v σ H Q q)⟩
theorem weakGs {e : List Expr} {t t' : TGs} (h : PGs X e t) (i : ∀ v σ H Q, t' v σ H Q → t v σ H Q) : PGs X e t' := ⟨fun pins s σ H v u Q I r q => h.run pins s σ H v u Q I r (i v σ H Q q)⟩
def gN (i : Nat) : FG := fun d env => some (env.set i (some d))
theorem dg_name (i : Nat) {x : Str} {pos : Pos} (hN : X.N.Nodup) (hi : X.N[i]? = some x := by rfl) (hx : Loc X.env.scope x := by first | exact Or.inl rfl | exact Or.inr rfl) (hf : X.fn x = true ∨ X.env.scope.names.lookup x = some .local := by first | exact .inl rfl | exact .inr rfl | assumption) : DG X (.Name x pos) (gN i) :=
  weakG (pg_name hN hi hx hf) fun v σ H Q hh => by
  obtain ⟨r, env, d, env', he, hr, hg, q⟩ := hh
  cases hg
  exact q _ (he.set hr i)
def gNil' : FGs := fun ds env => match ds with | [] => some env | _ => none
def gCons' (g : FG) (h : FGs) : FGs := fun ds env => match ds with | d :: r => (g d env).bind fun e1 => h r e1 | [] => none
theorem dgs_nil : DGs X [] gNil' := weakGs pgs_nil fun v σ H Q hh => by
  obtain ⟨r, env, ds, env', he, hr, hg, q⟩ := hh
  cases ds with
  | nil =>
    cases hg
    cases hr
    exact ⟨rfl, q _ he⟩
  | cons a b => cases hg
theorem dgs_cons {e : Expr} {es : List Expr} {g : FG} {h : FGs} (h1 : DG X e g) (h2 : DGs X es h) (hs : (assignEach (e :: es) X.env).map (·.2) = assign e X.env :: (assignEach es X.env).map (·.2) := by rfl) : DGs X (e :: es) (gCons' g h) := weakGs (pgs_cons h1 h2 hs) fun v σ H Q hh => by
  obtain ⟨r, env, ds, env', he, hr, hg, q⟩ := hh
  cases ds with
  | nil => cases hg
  | cons a b =>
    cases hr with
    | cons ra rb =>
      obtain ⟨e1, g1, g2⟩ := Option.bind_eq_some_iff.mp hg
      exact ⟨_, _, rfl, r, env, a, e1, he, ra, g1, fun σ' he' => ⟨r, e1, b, env', he', rb, g2, q⟩⟩
def gT (n : Nat) (h : FGs) : FG := fun d env => match d with | .tup ds => if ds.length = n then h ds env else none | _ => none
theorem Rep.sqT {r : Rf} {H : Hp} {v : V} {ds : List D} (h : Rep K r H v (.tup ds)) : ∃ a xs, v = .ref a ∧ SqT K H a xs ∧ RepL K r H xs ds := by
  cases h with
  | tup a z b c => exact ⟨_, _, rfl, .inl (.inr ⟨_, a⟩), c⟩
  | tupP a b c => exact ⟨_, _, rfl, .inl (.inl a), c⟩
  | tupK a b z c d e f => exact ⟨_, _, rfl, .inr ⟨_, _, _, a, b, c, d, e⟩, f⟩
theorem dg_tup {es : List Expr} {k n : Nat} {h : FGs} {pos : Pos} (hc : X.calm = true) (hh : DGs X es h) (hn : (assignEach es X.env).length = n := by rfl) (hst : (assignEach es X.env).findIdx? (·.1) = none := by rfl) : DG X (.Tuple es k pos) (gT n h) :=
  weakG (pg_tup hc hh hn hst) fun v σ H Q hh => by
  obtain ⟨r, env, d, env', he, hr, hg, q⟩ := hh
  cases d with
  | tup ds =>
    obtain ⟨a, xs, e, s, l⟩ := hr.sqT
    have hg' : (if ds.length = n then h ds env else none) = some env' := hg
    by_cases hl : ds.length = n
    · rw [if_pos hl] at hg'
      exact ⟨a, xs, e, s, by rw [l.len]; exact hl, r, env, ds, env', he, l, hg', q⟩
    · rw [if_neg hl] at hg'
      cases hg'
  | _ => cases hg
/-- a tuple's target takes an item of either kind -/
theorem dg_tupI {es : List Expr} {k n : Nat} {h : FGs} {pos : Pos} (hc : X.calm = true) (hh : DGs X es h) (hn : (assignEach es X.env).length = n := by rfl) (hst : (assignEach es X.env).findIdx? (·.1) = none := by rfl) : DGR X (RepI X.K) (.Tuple es k pos) (gT n h) :=
  weakG (pg_tup hc hh hn hst) fun v σ H Q hh => by
  obtain ⟨r, env, d, env', he, hr, hg, q⟩ := hh
  obtain ⟨a, xs, ds, e, ed, s, l⟩ := hr
  subst ed
  have hg' : (if ds.length = n then h ds env else none) = some env' := hg
  by_cases hl : ds.length = n
  · rw [if_pos hl] at hg'
    exact ⟨a, xs, e, s, by rw [l.len]; exact hl, r, env, ds, env', he, l, hg', q⟩
  · rw [if_neg hl] at hg'
    cases hg'
def sAsg (f : F) (g : FG) : FS := fun env st => (f env st).bind fun p => (g p.1 env).map fun e1 => (.nx, e1, p.2)
theorem asgReads {W : WXd} {f : F} {g : FG} (D' : Ends) (σ : L2.St) (H : Hp) (hh : tS K W (sAsg f g) D' σ H) : tAsg (tD K f) (tG K g) D' σ H := by
  obtain ⟨r, env, st, o, env', st', he, hs, hf, q⟩ := hh
  obtain ⟨⟨d, s1⟩, h1, h2⟩ := Option.bind_eq_some_iff.mp hf
  obtain ⟨e1, h3, h4⟩ := Option.map_eq_some_iff.mp h2
  cases h4
  exact ⟨r, env, st, d, _, he, hs, h1, fun v r1 H1 x1 q1 p1 => ⟨r1, env, d, _, he.ext x1, p1, h3, fun σ' he' => q σ' r1 H1 x1 he' q1⟩⟩
theorem ds_asg {tg e : Expr} {f : F} {g : FG} {pos : Pos} (he : DE X e f) (hg : DG X tg g) (hs : swapsWithSole [tg] e pos.line X.env = pure false := by rfl) (hw : swappedStores [tg] e X.env = pure none := by rfl)
    (h1 : (assignEach [tg] X.env).map (·.2) = [assign tg X.env] := by rfl) : DS X W (.Assign [tg] e pos) (sAsg f g) := weakS (ps_asg he hg hs hw h1) fun D' σ H hh => asgReads D' σ H hh
end
end DL
namespace DL
open PySem PySem.Spec PyProof.Rows L2
variable {K : PySem.W.Frag}

/-! ### what is walked -/
abbrev FI := Lo → Store → Option (List D × Store)
/-- the iterator yields these data, whatever has become known since -/
def ItOkR (K : PySem.W.Frag) (R : RD) (J : It) (r : Rf) (H : Hp) (ds : List D) : Prop :=
  ∀ r1 H1 st1, Ext r H r1 H1 → Sim K r1 H1 st1 → (∀ i, ds.length ≤ i → J.stop i H1) ∧
    ∀ (i : Nat) d, ds[i]? = some d → J.go i H1 ∧ ∀ x H2, J.yld i H1 x H2 → ∃ r2, Ext r1 H1 r2 H2 ∧ Sim K r2 H2 st1 ∧ R r2 H2 x d
abbrev ItOk (K : PySem.W.Frag) (J : It) (r : Rf) (H : Hp) (ds : List D) : Prop := ItOkR K (Rep K) J r H ds
def tIR (K : PySem.W.Frag) (RR : RD) (f : FI) : TI := fun σ H R => ∃ r env st ds st', EnvR K r H env σ ∧ Sim K r H st ∧ f env st = some (ds, st') ∧ ∀ J r' H', Ext r H r' H' → Sim K r' H' st' → ItOkR K RR J r' H' ds → R J H'
abbrev tI (K : PySem.W.Frag) (f : FI) : TI := tIR K (Rep K) f
abbrev DIR (X : Cx) (RR : RD) (tg iter : Expr) (f : FI) : Prop := PI X tg iter (tIR X.K RR f)
abbrev DI (X : Cx) (tg iter : Expr) (f : FI) : Prop := DIR X (Rep X.K) tg iter f
theorem ItOk.ext {R : RD} {J : It} {r r' : Rf} {H H' : Hp} {ds : List D} (h : ItOkR K R J r H ds) (e : Ext r H r' H') : ItOkR K R J r' H' ds := fun r1 H1 st1 e1 s1 => h r1 H1 st1 (e.trans e1) s1

section
variable {X : Cx} {W : WXd} {tg iter : Expr}
theorem weakI {t t' : TI} (h : PI X tg iter t) (i : ∀ σ H Q, t' σ H Q → t σ H Q) : PI X tg iter t' := ⟨fun pins s σ H Q I q => h.run pins s σ H Q I (i σ H Q q)⟩

def asL : D → Option (List D) | .lst ds => some ds | _ => none
def asT : D → Option (List D) | .tup ds => some ds | _ => none
def asScr : D → Option (List D) | .scr ns => some (ns.map D.int) | _ => none
def asStr : D → Option (List D) | .str x => some (x.cps.toList.map fun c => .str ⟨#[c]⟩) | _ => none
def iOf (a : D → Option (List D)) (f : F) : FI := fun env st => (f env st).bind fun p => (a p.1).map fun ds => (ds, p.2)
theorem iOf_some {a : D → Option (List D)} {f : F} {env : Lo} {st : Store} {z : List D × Store} (h : iOf a f env st = some z) : ∃ d, f env st = some (d, z.2) ∧ a d = some z.1 := by
  obtain ⟨⟨x, s1⟩, h1, h2⟩ := Option.bind_eq_some_iff.mp h
  obtain ⟨ds, h3, h4⟩ := Option.map_eq_some_iff.mp h2
  cases h4
  exact ⟨x, h1, h3⟩
theorem sql_ok {J : It} {a : Addr} {r : Rf} {H : Hp} {xs : List V} {ds : List D} (hJ : J = Itl K a) (h : ∀ r1 H1, Ext r H r1 H1 → SqL K H1 a xs) (l : RepL K r H xs ds) : ItOk K J r H ds := fun r1 H1 st1 e1 s1 => by
  subst hJ
  have q := h r1 H1 e1
  have l1 := l.ext e1
  refine ⟨fun i hi => ⟨xs, q, by rw [l.len]; exact hi⟩, fun i d hd => ?_⟩
  obtain ⟨v, hv, rv⟩ := l1.get hd
  exact ⟨⟨xs, v, q, hv⟩, fun x H2 ⟨e, y⟩ => by
    subst e
    have := y xs q
    rw [hv] at this
    cases this
    exact ⟨r1, .refl _ _, s1, rv⟩⟩
theorem di_lst {f : F} (h : DE X iter f) : DI X tg iter (iOf asL f) := weakI (pi_list h) fun σ H R hh => by
  obtain ⟨r, env, st, ds, st', he, hs, hf, q⟩ := hh
  obtain ⟨d, h1, h2⟩ := iOf_some hf
  refine ⟨r, env, st, d, st', he, hs, h1, fun v r1 H1 e1 q1 p1 => ?_⟩
  cases d with
  | lst es =>
    cases h2
    cases p1 with
    | lst a b c => exact ⟨_, rfl, ⟨_, .of a⟩, q _ r1 H1 e1 q1 (sql_ok rfl (fun r2 H2 e2 => .of (e2.keep _ _ a b)) c)⟩
  | _ => cases h2
theorem di_scr {f : F} (h : DE X iter f) : DI X tg iter (iOf asScr f) := weakI (pi_list h) fun σ H R hh => by
  obtain ⟨r, env, st, ds, st', he, hs, hf, q⟩ := hh
  obtain ⟨d, h1, h2⟩ := iOf_some hf
  refine ⟨r, env, st, d, st', he, hs, h1, fun v r1 H1 e1 q1 p1 => ?_⟩
  cases d with
  | scr es =>
    cases h2
    cases p1 with
    | scr a b => exact ⟨_, rfl, ⟨_, .inl (.inr ⟨_, a⟩)⟩, q _ r1 H1 e1 q1 (sql_ok rfl (fun r2 H2 e2 => .inl (.inr ⟨_, e2.keep _ _ a b⟩)) (RepL.ofInts es))⟩
    | scrK a b c d e f => exact ⟨_, rfl, ⟨_, .inr ⟨_, _, _, a, b, c, d, e, f⟩⟩, q _ r1 H1 e1 q1 (sql_ok rfl (fun r2 H2 e2 => .inr ⟨_, _, _, a, b, c, d, e, f⟩) (RepL.ofInts es))⟩
  | _ => cases h2
theorem di_tup {f : F} (h : DE X iter f) : DI X tg iter (iOf asT f) := weakI (pi_tup h) fun σ H R hh => by
  obtain ⟨r, env, st, ds, st', he, hs, hf, q⟩ := hh
  obtain ⟨d, h1, h2⟩ := iOf_some hf
  refine ⟨r, env, st, d, st', he, hs, h1, fun v r1 H1 e1 q1 p1 => ?_⟩
  cases d with
  | tup es =>
    have ees : es = ds := Option.some.inj h2
    subst ees
    have key : ∀ {a : Addr} {xs : List V}, (∀ r2 H2, Ext r1 H1 r2 H2 → SqT X.K H2 a xs) → RepL X.K r1 H1 xs es → ItOk X.K (Itt X.K a) r1 H1 es := fun {a xs} hq l r2 H2 st2 e2 s2 => by
      have qq := hq r2 H2 e2
      have l1 := l.ext e2
      refine ⟨fun i hi => ⟨xs, qq, by rw [l.len]; exact hi⟩, fun i d hd => ?_⟩
      obtain ⟨v, hv, rv⟩ := l1.get hd
      exact ⟨⟨xs, v, qq, hv⟩, fun x H3 ⟨e, y⟩ => by
        subst e
        have := y xs qq
        rw [hv] at this
        cases this
        exact ⟨r2, .refl _ _, s2, rv⟩⟩
    cases p1 with
    | tup a z b c => exact ⟨_, rfl, ⟨_, .inl (.inr ⟨_, a⟩)⟩, q _ r1 H1 e1 q1 (key (fun r2 H2 e2 => .inl (.inr ⟨_, e2.keep _ _ a b⟩)) c)⟩
    | tupP a b c => exact ⟨_, rfl, ⟨_, .inl (.inl a)⟩, q _ r1 H1 e1 q1 (key (fun r2 H2 e2 => .inl (.inl (e2.keep _ _ a b))) c)⟩
    | tupK a b z c d e f => exact ⟨_, rfl, ⟨_, .inr ⟨_, _, _, a, b, c, d, e⟩⟩, q _ r1 H1 e1 q1 (key (fun r2 H2 e2 => .inr ⟨_, _, _, a, b, c, d, e⟩) f)⟩
  | _ => cases h2
theorem di_str {f : F} (h : DE X iter f) : DI X tg iter (iOf asStr f) := weakI (pi_str h) fun σ H R hh => by
  obtain ⟨r, env, st, ds, st', he, hs, hf, q⟩ := hh
  obtain ⟨d, h1, h2⟩ := iOf_some hf
  refine ⟨r, env, st, d, st', he, hs, h1, fun v r1 H1 e1 q1 p1 => ?_⟩
  cases d with
  | str x =>
    cases h2
    cases p1
    refine ⟨x, rfl, q _ r1 H1 e1 q1 fun r2 H2 st2 e2 s2 => ⟨fun i hi => ?_, fun i d hd => ?_⟩⟩
    · show x.cps.size ≤ i
      simpa using hi
    · rw [List.getElem?_map] at hd
      obtain ⟨c, hc, e⟩ := Option.map_eq_some_iff.mp hd
      subst e
      have hc' : x.cps[i]? = some c := by simpa using hc
      refine ⟨(Array.getElem?_eq_some_iff.mp hc').1, fun y H3 ⟨e, c', hc2, ey⟩ => ?_⟩
      subst e
      rw [hc'] at hc2
      cases hc2
      subst ey
      exact ⟨r2, .refl _ _, s2, .str _⟩
  | _ => cases h2
/-- range(n) -/
def rg (lo hi : Int) : List D := (List.range (hi - lo).toNat).map fun k => .int (lo + (k : Nat))
def asR1 : List D → Option (List D) | [.int n] => if -(2 ^ 62) ≤ n ∧ n < 2 ^ 62 then some (rg 0 n) else none | _ => none
def asR2 : List D → Option (List D) | [.int i, .int n] => if (-(2 ^ 62) ≤ i ∧ i < 2 ^ 62) ∧ (-(2 ^ 62) ≤ n ∧ n < 2 ^ 62) then some (rg i n) else none | _ => none
def iOfA (a : List D → Option (List D)) (f : FA) : FI := fun env st => (f env st).bind fun p => (a p.1).map fun ds => (ds, p.2)
theorem iOfA_some {a : List D → Option (List D)} {f : FA} {env : Lo} {st : Store} {z : List D × Store} (h : iOfA a f env st = some z) : ∃ d, f env st = some (d, z.2) ∧ a d = some z.1 := by
  obtain ⟨⟨x, s1⟩, h1, h2⟩ := Option.bind_eq_some_iff.mp h
  obtain ⟨ds, h3, h4⟩ := Option.map_eq_some_iff.mp h2
  cases h4
  exact ⟨x, h1, h3⟩
theorem rng_ok {lo hi : Int} {r : Rf} {H : Hp} : ItOk K (Itr lo (hi - lo).toNat) r H (rg lo hi) := fun r1 H1 st1 e1 s1 => by
  refine ⟨fun i h => ?_, fun i d hd => ?_⟩
  · show (hi - lo).toNat ≤ i
    simpa [rg] using h
  · unfold rg at hd
    rw [List.getElem?_map] at hd
    obtain ⟨c, hc, e⟩ := Option.map_eq_some_iff.mp hd
    subst e
    obtain ⟨h1, h2⟩ := List.getElem?_eq_some_iff.mp hc
    rw [List.getElem_range] at h2
    subst h2
    refine ⟨by show i < (hi - lo).toNat; simpa using h1, fun x H2 ⟨e, y⟩ => ?_⟩
    subst e
    subst y
    exact ⟨r1, .refl _ _, s1, .int _⟩
theorem di_range1 {a : Expr} {fa : FA} {p pos : Pos} (hg : Gl X "range") (hm : X.mg "range" = none) (ha : DA X [a] fa) (hs : starEach [a] X.env = [(false, eval a X.env)] := by rfl) : DI X tg (.Call (.Name "range" p) [a] [] pos) (iOfA asR1 fa) := weakI (pi_range1 hg hm ha hs) fun σ H R hh => by
  obtain ⟨r, env, st, ds, st', he, hs, hf, q⟩ := hh
  obtain ⟨d, h1, h2⟩ := iOfA_some hf
  refine ⟨r, env, st, d, st', he, hs, h1, fun v r1 H1 e1 q1 p1 => ?_⟩
  unfold asR1 at h2
  split at h2
  · rename_i n
    split at h2
    · rename_i hn
      cases h2
      cases p1 with
      | cons pa pb =>
        cases pa
        cases pb
        refine ⟨n, rfl, hn.1, hn.2, q _ r1 H1 e1 q1 ?_⟩
        have z : (n - 0).toNat = n.toNat := by rw [Int.sub_zero]
        have := rng_ok (K := X.K) (lo := 0) (hi := n) (r := r1) (H := H1)
        rw [z] at this
        exact this
    · cases h2
  · cases h2
theorem di_range2 {a b : Expr} {fa : FA} {p pos : Pos} (hg : Gl X "range") (hm : X.mg "range" = none) (ha : DA X [a, b] fa) (hs : starEach [a, b] X.env = [(false, eval a X.env), (false, eval b X.env)] := by rfl) (hs2 : starEach [b] X.env = [(false, eval b X.env)] := by rfl) :
    DI X tg (.Call (.Name "range" p) [a, b] [] pos) (iOfA asR2 fa) := weakI (pi_range2 hg hm ha hs hs2) fun σ H R hh => by
  obtain ⟨r, env, st, ds, st', he, hs, hf, q⟩ := hh
  obtain ⟨d, h1, h2⟩ := iOfA_some hf
  refine ⟨r, env, st, d, st', he, hs, h1, fun v r1 H1 e1 q1 p1 => ?_⟩
  unfold asR2 at h2
  split at h2
  · rename_i i n
    split at h2
    · rename_i hn
      cases h2
      cases p1 with
      | cons pa pb =>
        cases pa
        cases pb with
        | cons pc pd =>
          cases pc
          cases pd
          exact ⟨i, n, rfl, ⟨hn.1.1, hn.1.2, hn.2.1, hn.2.2⟩, q _ r1 H1 e1 q1 rng_ok⟩
    · cases h2
  · cases h2
/-- for i, x in enumerate(xs) -/
def pairUp : Nat → List D → List D
  | _, [] => []
  | n, d :: ds => .tup [.int (n : Int), d] :: pairUp (n + 1) ds
def asEn : List D → Option (List D) | [.lst ds] => some (pairUp 0 ds) | _ => none
end

/-! ### for -/
def loopS (tg : FG) (body : FS) : List D → Lo → Store → Option (Out × Lo × Store)
  | [], env, st => some (.nx, env, st)
  | d :: ds, env, st => (tg d env).bind fun e1 => (body e1 st).bind fun p => match p with
    | (.nx, e2, s2) => loopS tg body ds e2 s2
    | (.ct, e2, s2) => loopS tg body ds e2 s2
    | (.bk, e2, s2) => some (.nx, e2, s2)
    | (.rt v, e2, s2) => some (.rt v, e2, s2)
    | (.er c f v, e2, s2) => some (.er c f v, e2, s2)
def sFor (fi : FI) (tg : FG) (body : FS) : FS := fun env st => (fi env st).bind fun p => loopS tg body p.1 env p.2
section
variable {X : Cx} {W : WXd} {tg iter : Expr}
theorem ds_forR {RR : RD} {body : List Stmt} {fi : FI} {g : FG} {b : FS} {pos : Pos} (hp : PassesOwn (model X.prog X.w) X.A X.env X.xe) (hc : X.calm = true) (hi : DIR X RR tg iter fi) (hg : DGR X RR tg g) (hb : DSs X W body b)
    (hs : ∀ x, foldedSetIterable iter X.env x = pure x := by intro _; rfl) : DS X W (.For tg iter body [] pos) (sFor fi g b) := weakS (ps_for hp hc hi hg hb hs) fun D' σ H hh => by
  obtain ⟨r, env, st, o, env', st', he, hs, hf, q⟩ := hh
  obtain ⟨⟨ds, s1⟩, h1, h2⟩ := Option.bind_eq_some_iff.mp hf
  refine ⟨r, env, st, ds, s1, he, hs, h1, fun J r1 H1 e1 q1 j1 => ?_⟩
  refine ⟨fun i m σ2 H2 => m = ds.length - i ∧ i ≤ ds.length ∧ ∃ r2 env2 st2, Ext r1 H1 r2 H2 ∧ EnvR X.K r2 H2 env2 σ2 ∧ Sim X.K r2 H2 st2 ∧ loopS g b (ds.drop i) env2 st2 = some (o, env', st'),
    ⟨_, rfl, Nat.zero_le _, r1, env, s1, .refl _ _, he.ext e1, q1, h2⟩, ?_⟩
  rintro i m σ2 H2 ⟨rfl, hi, r2, env2, st2, e2, he2, hs2, h3⟩
  obtain ⟨jst, jgo⟩ := j1 r2 H2 st2 e2 hs2
  by_cases hlt : i < ds.length
  · have hd : ds[i]? = some ds[i] := List.getElem?_eq_getElem hlt
    rw [List.drop_eq_getElem_cons hlt] at h3
    obtain ⟨env3, g1, h4⟩ := Option.bind_eq_some_iff.mp h3
    obtain ⟨⟨o4, env4, st4⟩, g2, h5⟩ := Option.bind_eq_some_iff.mp h4
    obtain ⟨j2, j3⟩ := jgo i _ hd
    refine .inr ⟨j2, fun σ' H' => i + 1 ≤ ds.length ∧ ∃ r2 env2 st2, Ext r1 H1 r2 H' ∧ EnvR X.K r2 H' env2 σ' ∧ Sim X.K r2 H' st2 ∧ loopS g b (ds.drop (i + 1)) env2 st2 = some (o, env', st'),
      fun σ' H' ⟨hi', w⟩ => ⟨ds.length - (i + 1), by omega, rfl, hi', w⟩, fun x H3 y => ?_⟩
    obtain ⟨r3, e3, hs3, rx⟩ := j3 x H3 y
    refine ⟨r3, env2, ds[i], env3, he2.ext e3, rx, g1, fun σ3 he3 => ⟨r3, env3, st2, o4, env4, st4, he3, hs3, g2, ?_⟩⟩
    cases o4 with
    | nx => exact fun σ' r' H' e' a c => ⟨by omega, r', env4, st4, (e2.trans e3).trans e', a, c, h5⟩
    | ct => exact fun σ' r' H' e' a c => ⟨by omega, r', env4, st4, (e2.trans e3).trans e', a, c, h5⟩
    | bk =>
      cases h5
      exact fun σ' r' H' e' a c => q σ' r' H' (((e1.trans e2).trans e3).trans e') a c
    | rt v =>
      cases h5
      exact fun v r' H' e' a c => q v r' H' (((e1.trans e2).trans e3).trans e') a c
    | er c' f' v =>
      cases h5
      exact fun σ' r' H' C dd e' a c z => q σ' r' H' C dd (((e1.trans e2).trans e3).trans e') a c z
  · have e : i = ds.length := by omega
    subst e
    rw [List.drop_length] at h3
    cases h3
    exact .inl ⟨jst _ (Nat.le_refl _), q σ2 r2 H2 (e1.trans e2) he2 hs2⟩
end

section
variable {X : Cx} {W : WXd} {tg iter : Expr}
theorem ds_for {body : List Stmt} {fi : FI} {g : FG} {b : FS} {pos : Pos} (hp : PassesOwn (model X.prog X.w) X.A X.env X.xe) (hc : X.calm = true) (hi : DI X tg iter fi) (hg : DG X tg g) (hb : DSs X W body b)
    (hs : ∀ x, foldedSetIterable iter X.env x = pure x := by intro _; rfl) : DS X W (.For tg iter body [] pos) (sFor fi g b) := ds_forR hp hc hi hg hb hs
end
/-! ### a new object that is being made: hidden, then shown as a value, or taken into the store -/
def Rf.hide (r : Rf) (p : Addr) : Rf := ⟨r.adr, fun a => r.av a ∨ a = p, r.lk⟩
def Rf.shown (r : Rf) (p : Addr) : Rf := ⟨r.adr, fun a => r.av a ∧ a ≠ p, r.lk⟩
def Rf.add (r : Rf) (p : Addr) : Rf := ⟨r.adr ++ [p], r.av, r.lk⟩
structure Hid (K : PySem.W.Frag) (r : Rf) (H : Hp) (st : Store) (p : Addr) : Prop where
  av : r.av p
  na : p ∉ r.adr
  nl : ¬ r.lk p
  sim : Sim K r H st
theorem hideNew {r : Rf} {H : Hp} {st : Store} {p : Addr} {o : HO} (q1 : Sim K r H st) (hD : H p = none) : Ext r H (r.hide p) (upd H p o) ∧ Hid K (r.hide p) (upd H p o) st p := by
  have e0 : Ext r H (r.hide p) (upd H p o) := ⟨⟨⟨[], by simp [Rf.hide]⟩, fun a x h _ => same_alloc hD a x h, fun a h n => by
    rcases h with h | h
    · exact absurd h n
    · rw [h]; exact hD⟩, fun a b c => ⟨by obtain ⟨o, h⟩ := q1.there a b; rw [h]; exact same_alloc hD a o h, .inl b, c⟩, fun _ => Iff.rfl, fun a b => by obtain ⟨o, u, h⟩ := q1.lkd a b; rw [h]; exact same_alloc hD a _ h⟩
  refine ⟨e0, .inr rfl, fun z => ?_, fun z => ?_, q1.len, q1.nd, fun n a x h1 h2 => (q1.ob n a x h1 h2).ex e0.toEx (fun v => ⟨?_, .inl v⟩), fun a v => ?_, fun a v => ?_, fun a v => ?_⟩
  · obtain ⟨x, y⟩ := q1.old p z
    rw [hD] at y; cases y
  · obtain ⟨o, u, y⟩ := q1.lkd p z
    rw [hD] at y; cases y
  · obtain ⟨x, z⟩ := q1.there a v
    rw [z]; exact same_alloc hD a x z
  · rcases v with v | v
    · obtain ⟨x, z⟩ := q1.there a v
      exact ⟨x, same_alloc hD a x z⟩
    · exact ⟨_, by rw [v]; exact upd_same⟩
  · obtain ⟨x, z⟩ := q1.old a v
    exact ⟨x, same_alloc hD a x z⟩
  · obtain ⟨o, u, z⟩ := q1.lkd a v
    exact ⟨o, u, same_alloc hD a _ z⟩
theorem Hid.ext {r r' : Rf} {H H' : Hp} {st st' : Store} {p : Addr} (h : Hid K r H st p) (e : Ext r H r' H') (s : Sim K r' H' st') : Hid K r' H' st' p ∧ H' p = H p :=
  let ⟨a, b, c⟩ := e.hid p h.av h.na; ⟨⟨b, c, fun z => h.nl ((e.hd.lke p).mp z), s⟩, a⟩
/-- the hidden object is taken into the store -/
theorem Hid.add {r r0 : Rf} {H H0 : Hp} {st st0 : Store} {p : Addr} {o : HO} {ob : Ob} (h : Hid K r H st p) (e : Ext r0 H0 r H) (q0 : Sim K r0 H0 st0) (hn : H0 p = none) (hob : ObR K (r.add p) (upd H p o) p ob) :
    Ext r0 H0 (r.add p) (upd H p o) ∧ Sim K (r.add p) (upd H p o) (st ++ [ob]) ∧ ∀ d, d = D.ref st.length → Rep K (r.add p) (upd H p o) (.ref p) d := by
  have ex : Ex r H (r.add p) (upd H p o) := ⟨⟨[p], rfl⟩, fun q x z n => by rw [upd_ne (fun y => n (by rw [y]; exact h.av))]; exact z, fun q z n => absurd z n⟩
  have nlk : ∀ q, r.lk q → q ≠ p := fun q z y => h.nl (by rw [← y]; exact z)
  refine ⟨⟨e.toEx.trans ex, fun q a b => ?_, e.hd.lke, fun q z => by rw [upd_ne (nlk q ((e.hd.lke q).mpr z))]; exact e.hd.lks q z⟩, ⟨?_, ?_, fun n a x h1 h2 => ?_, fun q v => ?_, fun q v => ?_, fun q v => ?_⟩, fun d hd => ?_⟩
  · obtain ⟨z1, z2, z3⟩ := e.hid q a b
    have nq : q ≠ p := fun y => by
      obtain ⟨x, z⟩ := q0.there q a
      rw [y, hn] at z; cases z
    exact ⟨by rw [upd_ne nq]; exact z1, z2, fun z => by
      rcases List.mem_append.mp z with z | z
      · exact z3 z
      · exact nq (List.mem_singleton.mp z)⟩
  · show (r.adr ++ [p]).length = (st ++ [ob]).length
    rw [List.length_append, List.length_append, h.sim.len]; rfl
  · exact List.nodup_append.mpr ⟨h.sim.nd, by simp, fun a ha b hb e => h.na (by rw [List.mem_singleton.mp hb] at e; rw [← e]; exact ha)⟩
  · by_cases hlt : n < r.adr.length
    · have h1' : r.adr[n]? = some a := by
        have : (r.adr ++ [p])[n]? = some a := h1
        rwa [List.getElem?_append_left hlt] at this
      have h2' : st[n]? = some x := by rwa [List.getElem?_append_left (by rw [← h.sim.len]; exact hlt)] at h2
      exact (h.sim.ob n a x h1' h2').ex ex fun v => ⟨by rw [upd_ne (fun y => h.na (by rw [← y]; exact List.mem_of_getElem? h1'))], v⟩
    · have hl : n = r.adr.length := by
        have : n < (r.adr ++ [p]).length := (List.getElem?_eq_some_iff.mp (show (r.adr ++ [p])[n]? = some a from h1)).1
        rw [List.length_append, List.length_singleton] at this
        omega
      have e1 : a = p := by
        have : (r.adr ++ [p])[n]? = some a := h1
        rw [hl, List.getElem?_append_right (Nat.le_refl _), Nat.sub_self] at this
        exact (Option.some.inj this).symm
      have e2 : x = ob := by
        rw [hl, h.sim.len, List.getElem?_append_right (Nat.le_refl _), Nat.sub_self] at h2
        exact (Option.some.inj h2).symm
      rw [e1, e2]; exact hob
  · by_cases z : q = p
    · exact ⟨_, by rw [z]; exact upd_same⟩
    · rw [upd_ne z]; exact h.sim.there q v
  · by_cases z : q = p
    · exact ⟨_, by rw [z]; exact upd_same⟩
    · rw [upd_ne z]
      rcases List.mem_append.mp v with v | v
      · exact h.sim.old q v
      · exact absurd (List.mem_singleton.mp v) z
  · rw [upd_ne (nlk q v)]; exact h.sim.lkd q v
  · subst hd
    refine .ref ?_
    show (r.adr ++ [p])[st.length]? = some p
    rw [← h.sim.len, List.getElem?_append_right (Nat.le_refl _), Nat.sub_self]; rfl
/-! ### list comprehensions of one clause, the target one name or several (slots is) -/
def setL {α : Type} : List Nat → List α → List (Option α) → List (Option α)
  | i :: is, v :: vs, σ => setL is vs (σ.set i (some v))
  | _, _, σ => σ
theorem setL_length {α : Type} : ∀ (is : List Nat) (vs : List α) (σ : List (Option α)), (setL is vs σ).length = σ.length
  | [], _, _ => rfl
  | _ :: _, [], _ => rfl
  | i :: is, v :: vs, σ => by unfold setL; rw [setL_length is vs, List.length_set]
theorem setL_out {α : Type} {j : Nat} : ∀ (is : List Nat) (vs : List α) (σ : List (Option α)), j ∉ is → (setL is vs σ)[j]? = σ[j]?
  | [], _, _, _ => rfl
  | _ :: _, [], _, _ => rfl
  | i :: is, v :: vs, σ, h => by
    unfold setL
    rw [setL_out is vs _ (fun z => h (List.mem_cons_of_mem _ z)), List.getElem?_set_ne (fun z => h (by rw [z]; exact List.mem_cons_self))]
theorem wipe_in {σ : L2.St} {j : Nat} : ∀ {is : List Nat}, j ∈ is → (wipe σ is)[j]? = σ[j]?.map fun _ => none
  | [], h => by cases h
  | i :: is, h => by
    unfold wipe
    by_cases z : i = j
    · subst z
      by_cases hi : i < σ.length
      · rw [List.getElem?_set_self (by rw [wipe_length]; exact hi), List.getElem?_eq_getElem hi]; rfl
      · rw [List.getElem?_eq_none (by rw [List.length_set, wipe_length]; omega), List.getElem?_eq_none (by omega)]; rfl
    · rw [List.getElem?_set_ne z]
      rcases List.mem_cons.mp h with e | e
      · exact absurd e.symm z
      · exact wipe_in e
theorem wipe_setL (σ : L2.St) (is : List Nat) (vs : List V) : wipe (setL is vs (wipe σ is)) is = wipe σ is := by
  refine List.ext_getElem? fun j => ?_
  by_cases h : j ∈ is
  · rw [wipe_in h]
    by_cases hj : j < σ.length
    · have h1 : j < (setL is vs (wipe σ is)).length := by rw [setL_length, wipe_length]; exact hj
      have h2 : j < (wipe σ is).length := by rw [wipe_length]; exact hj
      rw [List.getElem?_eq_getElem h1, wipe_in h, List.getElem?_eq_getElem hj]; rfl
    · rw [List.getElem?_eq_none (by rw [setL_length, wipe_length]; omega), List.getElem?_eq_none (by rw [wipe_length]; omega)]; rfl
  · rw [wipe_out h, setL_out is vs _ h]
/-- the slots of a block's own names, forgotten -/
def wipeL (env : Lo) : List Nat → Lo
  | [] => env
  | i :: is => (wipeL env is).set i none
theorem EnvR.wipeL {r : Rf} {H : Hp} {env : Lo} {σ : L2.St} (h : EnvR K r H env σ) : ∀ is : List Nat, EnvR K r H (DL.wipeL env is) (L2.wipe σ is)
  | [] => h
  | i :: is => EnvR.wipe (EnvR.wipeL h is) i
theorem EnvR.setL {r : Rf} {H : Hp} : ∀ {is : List Nat} {vs : List V} {ds : List D} {env : Lo} {σ : L2.St}, EnvR K r H env σ → RepL K r H vs ds → EnvR K r H (DL.setL is ds env) (DL.setL is vs σ)
  | [], _, _, _, _, h, _ => h
  | _ :: _, _, _, _, _, h, .nil => h
  | i :: is, _ :: _, _ :: _, env, σ, h, .cons a b => by
    have := EnvR.setL (is := is) (EnvR.set h a i) b
    exact this
/-- how a target takes an item -/
abbrev FB := D → Option (List D)
def b1 : FB := fun d => some [d]
def bT (n : Nat) : FB := fun d => match d with | .tup ds => if ds.length = n then some ds else none | _ => none
def loopC (is : List Nat) (bd : FB) (t : FT) (f : F) : List D → Lo → Store → Option (List D × Store)
  | [], _, st => some ([], st)
  | d :: ds, env, st => (bd d).bind fun vs => (t (setL is vs env) st).bind fun p => if p.1 = true then (f (setL is vs env) p.2).bind fun q => (loopC is bd t f ds env q.2).map fun z => (q.1 :: z.1, z.2) else loopC is bd t f ds env p.2
def fComp (fi : FI) (is : List Nat) (bd : FB) (t : FT) (f : F) : F := fun env st => (fi env st).bind fun p => (loopC is bd t f p.1 (wipeL env is) p.2).bind fun q => if q.1.length ≤ sizeLine then some (.lst q.1, q.2) else none
/-- a raw target -/
def TgOkR (K : PySem.W.Frag) (R : RD) (g : TG) (is : List Nat) (bd : FB) : Prop := ∀ r H x d σ (Q : L2.St → Hp → Prop) vals, R r H x d → bd d = some vals → (∀ vs, RepL K r H vs vals → Q (setL is vs σ) H) → g x σ H Q
abbrev TgOk (K : PySem.W.Frag) (g : TG) (is : List Nat) (bd : FB) : Prop := TgOkR K (Rep K) g is bd
theorem tg1 (i : Nat) : TgOk K (gName i) [i] b1 := fun r H x d σ Q vals hr hb q => by
  cases hb
  exact q [x] (.cons hr .nil)
def tTrue : FT := fun _ st => some (true, st)
abbrev DTs (X : Cx) (ifs : List Expr) (t : FT) : Prop := PTs X ifs (tT X.K t)
section
variable {X : Cx} {W : WXd} {tg iter : Expr}
theorem weakTs {ifs : List Expr} {t t' : TT} (h : PTs X ifs t) (i : ∀ σ H Q, t' σ H Q → t σ H Q) : PTs X ifs t' := ⟨fun pins s σ H Q I q => h.run pins s σ H Q I (i σ H Q q)⟩
theorem dts_nil : DTs X [] tTrue := weakTs pts_nil fun σ H Q hh => by
  obtain ⟨r, env, st, b, st', he, hs, hf, q⟩ := hh
  cases hf
  exact q r H (.refl r H) hs
theorem dts_one {c : Expr} {t : FT} (h : DT X c t) : DTs X [c] t := pts_one h
/-- the object p is being made since (r1, H1): nothing leans on it -/
structure Mkg (K : PySem.W.Frag) (r1 : Rf) (H1 : Hp) (p : Addr) (r : Rf) (H : Hp) (st : Store) : Prop where
  ex : Ext r1 H1 r H
  av : r.av p
  na : p ∉ r.adr
  nl : ¬ r.lk p
  sim : Sim K r H st
theorem EnvR.exx {r r' : Rf} {H H' : Hp} {env : Lo} {σ : L2.St} (h : EnvR K r H env σ) (e : Ex r H r' H') : EnvR K r' H' env σ := ⟨h.len, fun j dd z => let ⟨v, a, b⟩ := h.at_ j dd z; ⟨v, a, b.ex e⟩⟩
theorem Mkg.start {r1 : Rf} {H1 : Hp} {s1 : Store} {p : Addr} {o : HO} (q1 : Sim K r1 H1 s1) (hD : H1 p = none) : Mkg K r1 H1 p (r1.hide p) (upd H1 p o) s1 :=
  let ⟨e0, hd0⟩ := hideNew (o := o) q1 hD; ⟨e0, hd0.av, hd0.na, hd0.nl, hd0.sim⟩
theorem Mkg.step {r1 r r' : Rf} {H1 H H' : Hp} {st st' : Store} {p : Addr} (m : Mkg K r1 H1 p r H st) (e : Ext r H r' H') (s : Sim K r' H' st') : Mkg K r1 H1 p r' H' st' ∧ H' p = H p :=
  let ⟨a, b, c⟩ := e.hid p m.av m.na; ⟨⟨m.ex.trans e, b, c, fun z => m.nl ((e.hd.lke p).mp z), s⟩, a⟩
theorem Mkg.put {r1 r : Rf} {H1 H : Hp} {st s1 : Store} {p : Addr} (m : Mkg K r1 H1 p r H st) (q1 : Sim K r1 H1 s1) (hD : H1 p = none) (o : HO) : Mkg K r1 H1 p r (upd H p o) st ∧ Ex r H r (upd H p o) := by
  have e : Ex r H r (upd H p o) := ⟨⟨[], by simp⟩, fun a x h n => by rw [upd_ne (fun z => n (by rw [z]; exact m.av))]; exact h, fun a h n => absurd h n⟩
  have av0 : ∀ a, r1.av a → a ≠ p := fun a h z => by
    obtain ⟨x, y⟩ := q1.there a h
    rw [z, hD] at y; cases y
  have lk0 : ∀ a, r1.lk a → a ≠ p := fun a h z => by
    obtain ⟨x, u, y⟩ := q1.lkd a h
    rw [z, hD] at y; cases y
  refine ⟨⟨⟨m.ex.toEx.trans e, fun a h n => ?_, m.ex.hd.lke, fun a h => ?_⟩, m.av, m.na, m.nl, m.sim.len, m.sim.nd, fun n a x h1 h2 => (m.sim.ob n a x h1 h2).ex e fun v => ⟨?_, v⟩, fun a v => ?_, fun a v => ?_, fun a v => ?_⟩, e⟩
  · obtain ⟨z1, z2, z3⟩ := m.ex.hid a h n
    exact ⟨by rw [upd_ne (av0 a h)]; exact z1, z2, z3⟩
  · rw [upd_ne (lk0 a h)]; exact m.ex.hd.lks a h
  · rw [upd_ne (fun z => m.na (by rw [← z]; exact List.mem_of_getElem? h1))]
  · by_cases z : a = p
    · exact ⟨_, by rw [z]; exact upd_same⟩
    · rw [upd_ne z]; exact m.sim.there a v
  · by_cases z : a = p
    · exact ⟨_, by rw [z]; exact upd_same⟩
    · rw [upd_ne z]; exact m.sim.old a v
  · rw [upd_ne (fun z => m.nl (by rw [← z]; exact v))]; exact m.sim.lkd a v
theorem Mkg.show {r1 r : Rf} {H1 H : Hp} {st s1 : Store} {p : Addr} (m : Mkg K r1 H1 p r H st) (q1 : Sim K r1 H1 s1) (hD : H1 p = none) : Ext r1 H1 (r.shown p) H ∧ Sim K (r.shown p) H st ∧ Ex r H (r.shown p) H := by
  have es : Ex r H (r.shown p) H := ⟨⟨[], by simp [Rf.shown]⟩, fun p o h _ => h, fun p h n => absurd h.1 n⟩
  refine ⟨⟨⟨m.ex.pre, fun a o h n => m.ex.keep a o h n, fun a h n => m.ex.new a h.1 n⟩, fun a h n => ?_, m.ex.hd.lke, m.ex.hd.lks⟩, ⟨m.sim.len, m.sim.nd, fun n a o h1 h2 => (m.sim.ob n a o h1 h2).ex es fun v => ⟨rfl, v, fun z => m.na (by rw [← z]; exact List.mem_of_getElem? h1)⟩, fun a v => m.sim.there a v.1, m.sim.old, m.sim.lkd⟩, es⟩
  obtain ⟨z1, z2, z3⟩ := m.ex.hid a h n
  exact ⟨z1, ⟨z2, fun z => by
    obtain ⟨x, y⟩ := q1.there a h
    rw [z, hD] at y; cases y⟩, z3⟩
theorem compReads {RR : RD} {fi : FI} {is : List Nat} {bd : FB} {g : TG} {t : FT} {f : F} (hg : TgOkR K RR g is bd) (σ : L2.St) (H : Hp) (Q : VK) (hh : tD K (fComp fi is bd t f) σ H Q) : tLc (tIR K RR fi) g (tT K t) (tD K f) is σ H Q := by
  obtain ⟨r, env, st, d, st', he, hs, hf, q⟩ := hh
  obtain ⟨⟨ds, s1⟩, h1, h2⟩ := Option.bind_eq_some_iff.mp hf
  obtain ⟨⟨zs, s2⟩, h3, h4⟩ := Option.bind_eq_some_iff.mp h2
  by_cases hz : zs.length ≤ sizeLine
  case neg => rw [if_neg hz] at h4; cases h4
  rw [if_pos hz] at h4
  cases h4
  refine ⟨r, env, st, ds, s1, he, hs, h1, fun J r1 H1 e1 q1 j1 Dl hD => ?_⟩
  have m0 := Mkg.start (o := .lst []) q1 hD
  refine ⟨fun k m H2 => m = ds.length - k ∧ k ≤ ds.length ∧ ∃ r2 st2 acc us ys, Mkg K r1 H1 Dl r2 H2 st2 ∧ EnvR K r2 H2 (DL.wipeL env is) (wipe σ is) ∧ H2 Dl = some (.lst us) ∧ RepL K r2 H2 us acc ∧
    loopC is bd t f (ds.drop k) (DL.wipeL env is) st2 = some (ys, s2) ∧ acc ++ ys = zs, ⟨_, rfl, Nat.zero_le _, r1.hide Dl, s1, [], [], zs, m0, ((he.ext e1).ext m0.ex).wipeL is, upd_same, .nil, h3, rfl⟩, ?_⟩
  rintro k m H2 ⟨rfl, hk, r2, st2, acc, us, ys, mk, wp, hus, racc, hl, hcat⟩
  obtain ⟨jst, jgo⟩ := j1 r2 H2 st2 mk.ex mk.sim
  by_cases hlt : k < ds.length
  case neg =>
    have e : k = ds.length := by omega
    subst e
    rw [List.drop_length] at hl
    cases hl
    rw [List.append_nil] at hcat
    subst hcat
    obtain ⟨w1, w2, w3⟩ := mk.show q1 hD
    exact .inl ⟨jst _ (Nat.le_refl _), q (.ref Dl) (r2.shown Dl) H2 (e1.trans w1) w2 (.lst hus (fun z => z.2 rfl) (racc.ex w3))⟩
  case pos =>
    have hd : ds[k]? = some ds[k] := List.getElem?_eq_getElem hlt
    rw [List.drop_eq_getElem_cons hlt] at hl
    obtain ⟨vals, hv, hl1⟩ := Option.bind_eq_some_iff.mp hl
    obtain ⟨⟨b, st3⟩, hb, hl2⟩ := Option.bind_eq_some_iff.mp hl1
    obtain ⟨j2, j3⟩ := jgo k _ hd
    refine .inr ⟨j2, fun H' => k + 1 ≤ ds.length ∧ ∃ r2 st2 acc us ys, Mkg K r1 H1 Dl r2 H' st2 ∧ EnvR K r2 H' (DL.wipeL env is) (wipe σ is) ∧ H' Dl = some (.lst us) ∧ RepL K r2 H' us acc ∧
      loopC is bd t f (ds.drop (k + 1)) (DL.wipeL env is) st2 = some (ys, s2) ∧ acc ++ ys = zs, fun H' ⟨hk', w⟩ => ⟨ds.length - (k + 1), by omega, rfl, hk', w⟩, fun x H3 y => ?_⟩
    obtain ⟨r3, e3, s3, rx⟩ := j3 x H3 y
    have wp3 := wp.ext e3
    refine hg r3 H3 x _ _ _ vals rx hv fun vs rvs => ⟨wipe_setL σ is vs, ?_⟩
    · have he3 : EnvR K r3 H3 (DL.setL is vals (DL.wipeL env is)) (DL.setL is vs (wipe σ is)) := wp3.setL rvs
      refine ⟨r3, _, st2, b, st3, he3, s3, hb, fun r4 H4 e4 s4 => ?_⟩
      cases b with
      | false =>
        rw [if_neg Bool.false_ne_true] at hl2 ⊢
        obtain ⟨m4, k4⟩ := mk.step (e3.trans e4) s4
        exact ⟨hlt, r4, st3, acc, us, ys, m4, wp3.ext e4, k4.trans hus, racc.ext (e3.trans e4), hl2, hcat⟩
      | true =>
        rw [if_pos rfl] at hl2 ⊢
        obtain ⟨⟨yd, st4⟩, hy, hl3⟩ := Option.bind_eq_some_iff.mp hl2
        obtain ⟨⟨ys', st5⟩, hl4, hl5⟩ := Option.map_eq_some_iff.mp hl3
        cases hl5
        refine ⟨r4, _, st3, yd, st4, he3.ext e4, s4, hy, fun yv r5 H5 e5 s5 ry => ?_⟩
        have e25 : Ext r2 H2 r5 H5 := (e3.trans e4).trans e5
        obtain ⟨m5, k5⟩ := mk.step e25 s5
        obtain ⟨m6, g1⟩ := m5.put q1 hD (.lst (us ++ [yv]))
        refine ⟨us, k5.trans hus, ?_, hlt, r5, st4, acc ++ [yd], us ++ [yv], ys', m6, ((wp3.ext e4).ext e5).exx g1, upd_same, ((racc.ext e25).ex g1).append (.cons (ry.ex g1) .nil), hl4, by rw [← hcat, List.append_assoc]; rfl⟩
        rw [racc.len]
        have : (acc ++ yd :: ys').length ≤ sizeLine := by rw [hcat]; exact hz
        rw [List.length_append, List.length_cons] at this
        omega
/-- [elt for x in xs if ..] -/
theorem de_lc {RR : RD} {elt : Expr} {ifs : List Expr} {scope : Scope} {own : List (Str × Nat)} {pos : Pos} {fi : FI} {bd : FB} {g : TG} {t : FT} {f : F} (hc : X.calm = true) (hN : X.N.Nodup) (hi : DIR X RR tg iter fi) (ok : BlkOk X.N X.env.scope scope own)
    (tk : TgOkR X.K RR g (own.map (·.2)) bd)
    (hg : ∀ (s : Shared) (H : Hp) (C : Addr) (cl : List (Str × Addr)) (fp : List Addr), PG (X.blk s H scope (compEnvC scope cl C X.env) fp) tg g) (ht : ∀ (s : Shared) (H : Hp) (C : Addr) (cl : List (Str × Addr)) (fp : List Addr), DTs (X.blk s H scope (compEnvC scope cl C X.env) fp) ifs t)
    (he : ∀ (s : Shared) (H : Hp) (C : Addr) (cl : List (Str × Addr)) (fp : List Addr), DE (X.blk s H scope (compEnvC scope cl C X.env) fp) elt f) (hs : ∀ x, foldedSetIterable iter X.env x = pure x := by intro _; rfl) :
    DE X (.ListComp elt [⟨tg, iter, ifs, 0⟩] scope pos) (fComp fi (own.map (·.2)) bd t f) := weakE (pe_lc hc hN hi ok hg ht he hs) fun σ H Q hh => compReads tk σ H Q hh
/-- y = [elt for x in xs if ..] on one line -/
theorem ds_setLc {RR : RD} {i : Nat} {y : Str} {py : Pos} {elt : Expr} {ifs : List Expr} {scope : Scope} {own : List (Str × Nat)} {pos spos : Pos} {fi : FI} {bd : FB} {g : TG} {t : FT} {f : F} (hc : X.calm = true) (hN : X.N.Nodup) (hy : X.N[i]? = some y) (hyl : X.env.scope.names.lookup y = some .local)
    (hsw : swapsWith (.ListComp elt [⟨tg, iter, ifs, 0⟩] scope pos) (some (.Name y py)) spos.line X.env = pure true) (hi : DIR X RR tg iter fi) (ok : BlkOk X.N X.env.scope scope own)
    (tk : TgOkR X.K RR g (own.map (·.2)) bd)
    (hg : ∀ (s : Shared) (H : Hp) (C : Addr) (cl : List (Str × Addr)) (fp : List Addr), PG (X.blk s H scope (compEnvC scope cl C X.env) fp) tg g) (ht : ∀ (s : Shared) (H : Hp) (C : Addr) (cl : List (Str × Addr)) (fp : List Addr), DTs (X.blk s H scope (compEnvC scope cl C X.env) fp) ifs t)
    (he : ∀ (s : Shared) (H : Hp) (C : Addr) (cl : List (Str × Addr)) (fp : List Addr), DE (X.blk s H scope (compEnvC scope cl C X.env) fp) elt f) (hs : ∀ x, foldedSetIterable iter X.env x = pure x := by intro _; rfl) :
    DS X W (.Assign [.Name y py] (.ListComp elt [⟨tg, iter, ifs, 0⟩] scope pos) spos) (sAsg (fComp fi (own.map (·.2)) bd t f) (gN i)) := weakS (ps_setLc hc hN hy hyl hsw hi ok hg ht he hs) fun D' σ H hh => by
  obtain ⟨r, env, st, o, env', st', he, hs, hf, q⟩ := hh
  obtain ⟨⟨d, s1⟩, h1, h2⟩ := Option.bind_eq_some_iff.mp hf
  obtain ⟨e1, h3, h4⟩ := Option.map_eq_some_iff.mp h2
  cases h4
  cases h3
  exact compReads tk σ H _ ⟨r, env, st, d, _, he, hs, h1, fun v r1 H1 x1 q1 p1 => q _ r1 H1 x1 ((he.ext x1).set p1 i) q1⟩
end
end DL
namespace DL
open PySem PySem.Spec PyProof.Rows L2
open Builtin.Int (intBits)
variable {K : PySem.W.Frag}
/-- a rule by kinds: one of several -/
def R2Ok (K : PySem.W.Frag) (r : R2) (g : D → D → Option D) : Prop :=
  ∀ (rho : Rf) (H : Hp) (x y : V) (a b d : D) (st : Store) (Q : VK), Sim K rho H st → Rep K rho H x a → Rep K rho H y b → g a b = some d → (∀ v H', Same H H' → Rep K rho H' v d → Q v H') → r x y H Q
section
variable {X : Cx} {W : WXd}
/-- the first of two functions that answers -/
def orD (g g' : D → D → Option D) : D → D → Option D := fun a b => (g a b).or (g' a b)
theorem OpOk.or {f : Value → Value → Sem Value} {g g' : D → D → Option D} (h : OpOk X f g) (h' : OpOk X f g') : OpOk X f (orD g g') := by
  obtain ⟨r, hr, k⟩ := h
  obtain ⟨r', hr', k'⟩ := h'
  refine ⟨_, hr.or hr', fun rho H x y a b d st Q si ra rb e q => ?_⟩
  unfold orD at e
  cases z : g a b with
  | some c =>
    rw [z] at e
    cases e
    exact .inl (k rho H x y a b _ st Q si ra rb z q)
  | none =>
    rw [z] at e
    exact .inr (k' rho H x y a b d st Q si ra rb e q)
/-- two ints, under a condition -/
def onI (c : Int → Int → Prop) [∀ i j, Decidable (c i j)] (g : Int → Int → D) : D → D → Option D := fun a b => match a, b with
  | .int i, .int j => if c i j then some (g i j) else none
  | _, _ => none
theorem onI_some {c : Int → Int → Prop} [∀ i j, Decidable (c i j)] {g : Int → Int → D} {a b d : D} (h : onI c g a b = some d) : ∃ i j, a = .int i ∧ b = .int j ∧ c i j ∧ d = g i j := by
  cases a <;> cases b <;> first
    | cases h; done
    | skip
  rename_i i j
  have h' : (if c i j then some (g i j) else none) = some d := h
  by_cases z : c i j
  · rw [if_pos z] at h'
    cases h'
    exact ⟨i, j, rfl, rfl, z, rfl⟩
  · rw [if_neg z] at h'
    cases h'
theorem ok_int {f : Value → Value → Sem Value} {c C : Int → Int → Prop} [∀ i j, Decidable (c i j)] {g : Int → Int → Int} (h : OpR X f (rI C fun i j => .int (g i j))) (hc : ∀ i j, c i j → C i j) : OpOk X f (onI c fun i j => .int (g i j)) :=
  ⟨_, h, fun rho H x y a b d st Q si ra rb e q => by
    obtain ⟨i, j, rfl, rfl, z, rfl⟩ := onI_some e
    cases ra
    cases rb
    exact ⟨i, j, rfl, rfl, hc i j z, q _ H (fun _ _ h => h) (.int _)⟩⟩
theorem ok_int0 {f : Value → Value → Sem Value} {g : Int → Int → Int} (h : OpR X f (rI0 fun i j => .int (g i j))) : OpOk X f (onI (fun _ _ => True) fun i j => .int (g i j)) :=
  ⟨_, h, fun rho H x y a b d st Q si ra rb e q => by
    obtain ⟨i, j, rfl, rfl, z, rfl⟩ := onI_some e
    cases ra
    cases rb
    exact ⟨i, j, rfl, rfl, q _ H (fun _ _ h => h) (.int _)⟩⟩
theorem ok_intB {f : Value → Value → Sem Value} {g : Int → Int → Bool} (h : OpR X f (rI0 fun i j => .bl (g i j))) : OpOk X f (onI (fun _ _ => True) fun i j => .bl (g i j)) :=
  ⟨_, h, fun rho H x y a b d st Q si ra rb e q => by
    obtain ⟨i, j, rfl, rfl, z, rfl⟩ := onI_some e
    cases ra
    cases rb
    exact ⟨i, j, rfl, rfl, q _ H (fun _ _ h => h) (.bl _)⟩⟩
/-- two texts -/
def onS (c : Str → Str → Prop) [∀ i j, Decidable (c i j)] (g : Str → Str → D) : D → D → Option D := fun a b => match a, b with
  | .str i, .str j => if c i j then some (g i j) else none
  | _, _ => none
theorem onS_some {c : Str → Str → Prop} [∀ i j, Decidable (c i j)] {g : Str → Str → D} {a b d : D} (h : onS c g a b = some d) : ∃ i j, a = .str i ∧ b = .str j ∧ c i j ∧ d = g i j := by
  cases a <;> cases b <;> first
    | cases h; done
    | skip
  rename_i i j
  have h' : (if c i j then some (g i j) else none) = some d := h
  by_cases z : c i j
  · rw [if_pos z] at h'
    cases h'
    exact ⟨i, j, rfl, rfl, z, rfl⟩
  · rw [if_neg z] at h'
    cases h'

/-! ### + - * // % ** -/
def addI : D → D → Option D := onI (fun _ _ => True) fun i j => .int (i + j)
theorem ok_addI : OpOk X (binaryOp .Add) addI := ok_int0 op_add
def subI : D → D → Option D := onI (fun _ _ => True) fun i j => .int (i - j)
theorem ok_subI : OpOk X (binaryOp .Sub) subI := ok_int0 op_sub
def mulI : D → D → Option D := onI (fun i j => intBits i + intBits j ≤ 134217728) fun i j => .int (i * j)
theorem op_mulL : OpR X (binaryOp .Mult) (rI IntMulOk fun i j => .int (i * j)) := opI fun _ _ _ _ _ _ _ hc q => mul_int q hc
theorem ok_mulI : OpOk X (binaryOp .Mult) mulI := ok_int op_mulL fun i j h => IntMulOk.of_le (Nat.le_refl _) (Nat.le_refl _) h
def fdivI : D → D → Option D := onI (fun _ j => 0 < j ∧ j < 1073741824) fun i j => .int (i / j)
theorem ok_fdivI : OpOk X (binaryOp .FloorDiv) fdivI := ok_int op_fdiv fun i j h => h
def modI : D → D → Option D := onI (fun _ j => 0 < j) fun i j => .int (i % j)
theorem ok_modI : OpOk X (binaryOp .Mod) modI := ok_int op_mod fun i j h => h
def powI : D → D → Option D := onI (fun i j => 0 ≤ j ∧ (intBits i : Int) * j ≤ 2 ^ 27) fun i j => .int (i ^ j.toNat)
theorem op_powL : OpR X (binaryOp .Pow) (rI (fun i j => 0 ≤ j ∧ (intBits i : Int) * j ≤ 2 ^ 27) fun i j => .int (i ^ j.toNat)) := opI fun _ _ _ _ _ _ _ hc q => pow_int hc.1 hc.2 q
theorem ok_powI : OpOk X (binaryOp .Pow) powI := ok_int op_powL fun i j h => h
def addS : D → D → Option D := onS (fun i j => i.length + j.length ≤ sizeLine) fun i j => .str (i ++ j)
theorem ok_addS : OpOk X (binaryOp .Add) addS := ⟨_, op_add_str, fun rho H x y a b d st Q si ra rb e q => by
  obtain ⟨i, j, rfl, rfl, z, rfl⟩ := onS_some e
  cases ra
  cases rb
  exact ⟨i, j, rfl, rfl, z, q _ H (fun _ _ h => h) (.str _)⟩⟩
def addL : D → D → Option D := fun a b => match a, b with
  | .lst xs, .lst ys => if xs.length + ys.length ≤ sizeLine then some (.lst (xs ++ ys)) else none
  | _, _ => none
theorem ok_addL : OpOk X (binaryOp .Add) addL := ⟨_, op_cat, fun rho H x y a b d st Q si ra rb e q => by
  cases a <;> cases b <;> first
    | cases e; done
    | skip
  rename_i xs ys
  have e' : (if xs.length + ys.length ≤ sizeLine then some (D.lst (xs ++ ys)) else none) = some d := e
  by_cases z : xs.length + ys.length ≤ sizeLine
  · rw [if_pos z] at e'
    cases e'
    cases ra with
    | lst a1 a2 a3 =>
      cases rb with
      | lst b1 b2 b3 =>
        refine ⟨_, _, _, _, rfl, rfl, a1, b1, by rw [a3.len, b3.len]; exact z, fun p hp => ?_⟩
        exact q _ _ (same_alloc hp) (.lst upd_same (si.free hp) ((a3.append b3).ex (Ex.same rho (same_alloc hp))))
  · rw [if_neg z] at e'
    cases e'⟩
/-- t + u -/
def addT : D → D → Option D := fun a b => match a, b with
  | .tup xs, .tup ys => if xs.length + ys.length ≤ sizeLine then some (.tup (xs ++ ys)) else none
  | _, _ => none
theorem ok_addT : OpOk X (binaryOp .Add) addT := ⟨_, op_catF, fun rho H x y a b d st Q si ra rb e q => by
  cases a <;> cases b <;> first
    | cases e; done
    | skip
  rename_i xs ys
  have e' : (if xs.length + ys.length ≤ sizeLine then some (D.tup (xs ++ ys)) else none) = some d := e
  by_cases z : xs.length + ys.length ≤ sizeLine
  · rw [if_pos z] at e'
    cases e'
    obtain ⟨pa, us, rfl, sa, la⟩ := ra.sqT
    obtain ⟨pb, vs, rfl, sb, lb⟩ := rb.sqT
    refine ⟨pa, pb, us, vs, rfl, rfl, sa, sb, by rw [la.len, lb.len]; exact z, fun h => ?_, fun _ h2 => ?_, fun p o hp hz => ?_⟩
    · subst h
      cases la
      exact q _ H (fun _ _ h => h) rb
    · subst h2
      cases lb
      rw [List.append_nil] at q
      exact q _ H (fun _ _ h => h) ra
    · exact q _ _ (same_alloc hp) (.tup upd_same hz (si.free hp) ((la.append lb).ex (Ex.same rho (same_alloc hp))))
  · rw [if_neg z] at e'
    cases e'⟩
/-- x * n of a text -/
def mulS : D → D → Option D := fun a b => match a, b with
  | .str x, .int n => if 0 ≤ n ∧ n ≤ 1000 ∧ x.length ≤ 1000 then some (.str (Txt.mul x n)) else none
  | _, _ => none
theorem mulOk_small {x : Str} {n : Int} (h0 : 0 ≤ n) (h1 : n ≤ 1000) (h2 : x.length ≤ 1000) : MulOk x n := by
  refine ⟨?_, fun h _ => ?_, fun _ _ => ?_⟩
  · have a : ¬ n < -(2 ^ 63 : Int) := by omega
    have b : ¬ n ≥ 2 ^ 63 := by omega
    rw [decide_eq_false a, decide_eq_false b]; rfl
  · have hn : 0 < n := by omega
    intro z
    have : (2 ^ 63 - 1 : Int) / 1000 ≤ (2 ^ 63 - 1) / n := by
      refine Int.le_ediv_of_mul_le hn ?_
      omega
    omega
  · unfold Builtin.Str.tooLong
    have : x.length * n.toNat ≤ 1000 * 1000 := Nat.mul_le_mul h2 (by omega)
    have hs := sizeLine_eq
    rw [hs]
    exact decide_eq_false (by omega)
theorem op_mulS : OpR X (binaryOp .Mult) (fun x y H Q => ∃ i n, x = .str i ∧ y = .int n ∧ MulOk i n ∧ Q (.str (Txt.mul i n)) H) := by
  intro pins s σ H x y v u Q I rx ry h
  obtain ⟨i, n, rfl, rfl, hz, q⟩ := h
  obtain ⟨t, rfl⟩ := rx
  obtain ⟨t', rfl⟩ := ry
  exact SB.mul hz fun t' k => ⟨.str _, H, I.tok _, ⟨_, rfl⟩, q⟩
theorem ok_mulS : OpOk X (binaryOp .Mult) mulS := ⟨_, op_mulS, fun rho H x y a b d st Q si ra rb e q => by
  cases a <;> cases b <;> first
    | cases e; done
    | skip
  rename_i xs n
  have e' : (if 0 ≤ n ∧ n ≤ 1000 ∧ xs.length ≤ 1000 then some (D.str (Txt.mul xs n)) else none) = some d := e
  by_cases z : 0 ≤ n ∧ n ≤ 1000 ∧ xs.length ≤ 1000
  · rw [if_pos z] at e'
    cases e'
    cases ra
    cases rb
    exact ⟨xs, n, rfl, rfl, mulOk_small z.1 z.2.1 z.2.2, q _ H (fun _ _ h => h) (.str _)⟩
  · rw [if_neg z] at e'
    cases e'⟩
def opAdd : D → D → Option D := orD addI (orD addS (orD addL addT))
theorem ok_add : OpOk X (binaryOp .Add) opAdd := ok_addI.or (ok_addS.or (ok_addL.or ok_addT))
def opMul : D → D → Option D := orD mulI mulS
theorem ok_mul : OpOk X (binaryOp .Mult) opMul := ok_mulI.or ok_mulS

/-! ### comparisons -/
mutual
def toPy : D → Option PyData
  | .non => some .none
  | .bl b => some (.bool b)
  | .int i => some (.int i)
  | .str x => some (.str x)
  | .tup ds => (toPyL ds).map .tuple
  | .lst ds => (toPyL ds).map .list
  | .dct _ => none
  | .scr _ => none
  | .ref _ => none
def toPyL : List D → Option (List PyData)
  | [] => some []
  | d :: ds => (toPy d).bind fun p => (toPyL ds).map fun q => p :: q
end
mutual
theorem Rep.dp {r : Rf} {H : Hp} : ∀ {d : D} {v : V} {p : PyData}, Rep K r H v d → toPy d = some p → Dp K H v p
  | .non, _, _, .non, h => by cases h; exact .non
  | .bl _, _, _, .bl _, h => by cases h; exact .bl _
  | .int _, _, _, .int _, h => by cases h; exact .int _
  | .str _, _, _, .str _, h => by cases h; exact .str _
  | .tup ds, _, p, h, e => by
    obtain ⟨q, h1, h2⟩ := Option.map_eq_some_iff.mp (show (toPyL ds).map PyData.tuple = some p from e)
    subst h2
    obtain ⟨a, xs, rfl, s, l⟩ := h.sqT
    exact .tup s (RepL.dp l h1)
  | .lst ds, _, p, .lst a b c, e => by
    obtain ⟨q, h1, h2⟩ := Option.map_eq_some_iff.mp (show (toPyL ds).map PyData.list = some p from e)
    subst h2
    exact .lst (.of a) (RepL.dp c h1)
  | .dct _, _, _, _, e => by cases e
  | .scr _, _, _, _, e => by cases e
  | .ref _, _, _, _, e => by cases e
theorem RepL.dp {r : Rf} {H : Hp} : ∀ {ds : List D} {vs : List V} {ps : List PyData}, RepL K r H vs ds → toPyL ds = some ps → DpAll K H vs ps
  | [], _, _, .nil, h => by cases h; exact .nil
  | d :: ds, _, ps, .cons a b, h => by
    obtain ⟨p, h1, h2⟩ := Option.bind_eq_some_iff.mp (show ((toPy d).bind fun p => (toPyL ds).map fun q => p :: q) = some ps from h)
    obtain ⟨q, h3, h4⟩ := Option.map_eq_some_iff.mp h2
    subst h4
    exact .cons (Rep.dp a h1) (RepL.dp b h3)
end
def opEq : D → D → Option D := fun a b => (toPy a).bind fun p => (toPy b).bind fun q => if SeqAt.shaped p = true ∧ SeqAt.shaped q = true then some (.bl (PyData.eqv p q)) else none
def opNe : D → D → Option D := fun a b => (toPy a).bind fun p => (toPy b).bind fun q => if SeqAt.shaped p = true ∧ SeqAt.shaped q = true then some (.bl (!PyData.eqv p q)) else none
theorem ok_eq {k : Nat} (g : GX X k) : OpOk X (compareOp .Eq) opEq := ⟨_, op_eqD g.room.units, fun rho H x y a b d st Q si ra rb e q => by
  obtain ⟨p, h1, h2⟩ := Option.bind_eq_some_iff.mp e
  obtain ⟨p2, h3, h4⟩ := Option.bind_eq_some_iff.mp h2
  by_cases z : SeqAt.shaped p = true ∧ SeqAt.shaped p2 = true
  · rw [if_pos z] at h4
    cases h4
    exact ⟨p, p2, ra.dp h1, rb.dp h3, z.1, z.2, q _ H (fun _ _ h => h) (.bl _)⟩
  · rw [if_neg z] at h4
    cases h4⟩
theorem ok_ne {k : Nat} (g : GX X k) : OpOk X (compareOp .NotEq) opNe := ⟨_, op_neD g.room.units, fun rho H x y a b d st Q si ra rb e q => by
  obtain ⟨p, h1, h2⟩ := Option.bind_eq_some_iff.mp e
  obtain ⟨p2, h3, h4⟩ := Option.bind_eq_some_iff.mp h2
  by_cases z : SeqAt.shaped p = true ∧ SeqAt.shaped p2 = true
  · rw [if_pos z] at h4
    cases h4
    exact ⟨p, p2, ra.dp h1, rb.dp h3, z.1, z.2, q _ H (fun _ _ h => h) (.bl _)⟩
  · rw [if_neg z] at h4
    cases h4⟩
def ltI : D → D → Option D := onI (fun _ _ => True) fun i j => .bl (decide (i < j))
def leI : D → D → Option D := onI (fun _ _ => True) fun i j => .bl (decide (i ≤ j))
def gtI : D → D → Option D := onI (fun _ _ => True) fun i j => .bl (decide (j < i))
def geI : D → D → Option D := onI (fun _ _ => True) fun i j => .bl (decide (j ≤ i))
theorem op_gt_str : OpR X (compareOp .Gt) (fun x y H Q => ∃ i j, x = .str i ∧ y = .str j ∧ Q (.bl (decide (j.cps.toList < i.cps.toList))) H) := by
  intro pins s σ H x y v u Q I rx ry h
  obtain ⟨i, j, rfl, rfl, q⟩ := h
  obtain ⟨t, rfl⟩ := rx
  obtain ⟨t', rfl⟩ := ry
  exact PySem.P.gt_str (fin_bl I q rfl)
theorem op_ge_str : OpR X (compareOp .GtE) (fun x y H Q => ∃ i j, x = .str i ∧ y = .str j ∧ Q (.bl (!decide (i.cps.toList < j.cps.toList))) H) := by
  intro pins s σ H x y v u Q I rx ry h
  obtain ⟨i, j, rfl, rfl, q⟩ := h
  obtain ⟨t, rfl⟩ := rx
  obtain ⟨t', rfl⟩ := ry
  exact PySem.P.ge_str (fin_bl I q rfl)
def ltS : D → D → Option D := onS (fun _ _ => True) fun i j => .bl (decide (i.cps.toList < j.cps.toList))
def leS : D → D → Option D := onS (fun _ _ => True) fun i j => .bl (!decide (j.cps.toList < i.cps.toList))
def gtS : D → D → Option D := onS (fun _ _ => True) fun i j => .bl (decide (j.cps.toList < i.cps.toList))
def geS : D → D → Option D := onS (fun _ _ => True) fun i j => .bl (!decide (i.cps.toList < j.cps.toList))
theorem ok_strB {f : Value → Value → Sem Value} {g : Str → Str → Bool} (h : OpR X f (fun x y H Q => ∃ i j, x = .str i ∧ y = .str j ∧ Q (.bl (g i j)) H)) : OpOk X f (onS (fun _ _ => True) fun i j => .bl (g i j)) :=
  ⟨_, h, fun rho H x y a b d st Q si ra rb e q => by
    obtain ⟨i, j, rfl, rfl, z, rfl⟩ := onS_some e
    cases ra
    cases rb
    exact ⟨i, j, rfl, rfl, q _ H (fun _ _ h => h) (.bl _)⟩⟩
def opLt : D → D → Option D := orD ltI ltS
def opLe : D → D → Option D := orD leI leS
def opGt : D → D → Option D := orD gtI gtS
def opGe : D → D → Option D := orD geI geS
theorem ok_lt : OpOk X (compareOp .Lt) opLt := (ok_intB op_lt).or (ok_strB op_lt_str)
theorem ok_le : OpOk X (compareOp .LtE) opLe := (ok_intB op_le).or (ok_strB op_le_str)
theorem ok_gt : OpOk X (compareOp .Gt) opGt := (ok_intB op_gt).or (ok_strB op_gt_str)
theorem ok_ge : OpOk X (compareOp .GtE) opGe := (ok_intB op_ge).or (ok_strB op_ge_str)
/-- is None -/
def isNon : D → Bool | .non => true | _ => false
def isN : D → D → Option D := fun a b => match b with | .non => some (.bl (isNon a)) | _ => none
def isntN : D → D → Option D := fun a b => match b with | .non => some (.bl (!isNon a)) | _ => none
theorem rep_non {r : Rf} {H : Hp} {v : V} {a : D} (h : Rep K r H v a) : decide (v = .non) = isNon a := by cases h <;> rfl
theorem ok_isN : OpOk X (compareOp .Is) isN := ⟨_, op_isN, fun rho H x y a b d st Q si ra rb e q => by
  cases b with
  | non =>
    cases e
    cases rb
    exact ⟨rfl, by rw [rep_non ra]; exact q _ H (fun _ _ h => h) (.bl _)⟩
  | _ => cases e⟩
theorem ok_isntN : OpOk X (compareOp .IsNot) isntN := ⟨_, op_notN, fun rho H x y a b d st Q si ra rb e q => by
  cases b with
  | non =>
    cases e
    cases rb
    exact ⟨rfl, by rw [rep_non ra]; exact q _ H (fun _ _ h => h) (.bl _)⟩
  | _ => cases e⟩
def isB : D → D → Option D := fun a b => match a, b with | .bl x, .bl y => some (.bl (decide (x = y))) | _, _ => none
def isntB : D → D → Option D := fun a b => match a, b with | .bl x, .bl y => some (.bl (!decide (x = y))) | _, _ => none
theorem ok_isB : OpOk X (compareOp .Is) isB := ⟨_, op_isBl, fun rho H x y a b d st Q si ra rb e q => by
  cases a <;> cases b <;> first
    | cases e; done
    | skip
  cases ra
  cases rb
  cases e
  exact ⟨_, _, rfl, rfl, q _ H (fun _ _ h => h) (.bl _)⟩⟩
theorem ok_isntB : OpOk X (compareOp .IsNot) isntB := ⟨_, op_notBl, fun rho H x y a b d st Q si ra rb e q => by
  cases a <;> cases b <;> first
    | cases e; done
    | skip
  cases ra
  cases rb
  cases e
  exact ⟨_, _, rfl, rfl, q _ H (fun _ _ h => h) (.bl _)⟩⟩
def opIs : D → D → Option D := orD isN isB
def opIsnt : D → D → Option D := orD isntN isntB
theorem ok_is : OpOk X (compareOp .Is) opIs := ok_isN.or ok_isB
theorem ok_isnt : OpOk X (compareOp .IsNot) opIsnt := ok_isntN.or ok_isntB
end
end DL
namespace DL
open PySem PySem.Spec PyProof.Rows L2
variable {K : PySem.W.Frag}
theorem orE {X : Cx} {e : Expr} {t t' : TE} (h : PE X e t) (h' : PE X e t') : PE X e (fun σ H Q => t σ H Q ∨ t' σ H Q) := ⟨fun pins s σ H Q I q => q.elim (h.run pins s σ H Q I) (h'.run pins s σ H Q I)⟩

/-! ### a[b] -/
def asKey : D → Option Key | .int i => some (.inl i) | .str x => some (.inr x) | _ => none
def valD (kvs : List (Key × D)) (k : Key) : Option D := (kvs.find? fun kv => decide (kv.1 = k)).map (·.2)
def ixD : D → D → Store → Option D := fun a b st => match a, b with
  | .lst ds, .int i => atI ds i
  | .tup ds, .int i => atI ds i
  | .str x, .int i => if x.length ≤ sizeLine then (atI x.cps.toList i).map fun c => .str ⟨#[c]⟩ else none
  | .scr ns, .int i => (atI ns i).map .int
  | .dct kvs, k => (asKey k).bind fun k => valD kvs k
  | .ref n, k => match st[n]? with
    | some (.lst ds) => (match k with | .int i => atI ds i | _ => none)
    | some (.dct kvs) => (asKey k).bind fun k => valD kvs k
    | some (.ldc kvs) => (asKey k).bind fun k => valD kvs k
    | _ => none
  | _, _ => none
def fSub (fa fb : F) : F := fun env st => (fa env st).bind fun p => (fb env p.2).bind fun q => (ixD p.1 q.1 q.2).map fun d => (d, q.2)
theorem RepL.atI {r : Rf} {H : Hp} {vs : List V} {ds : List D} (l : RepL K r H vs ds) {i : Int} {d : D} (h : L2.atI ds i = some d) : ∃ v, L2.atI vs i = some v ∧ Rep K r H v d := by
  unfold L2.atI at h ⊢
  obtain ⟨j, h1, h2⟩ := Option.bind_eq_some_iff.mp h
  obtain ⟨v, h3, h4⟩ := l.get h2
  exact ⟨v, by rw [l.len, h1]; exact h3, h4⟩
theorem atI_map {α β : Type} (f : α → β) (xs : List α) (i : Int) : L2.atI (xs.map f) i = (L2.atI xs i).map f := by
  unfold L2.atI
  rw [List.length_map]
  cases ixN xs.length i with
  | none => rfl
  | some j => simp
theorem RepK.val {r : Rf} {H : Hp} {k : Key} : ∀ {vs : List (Key × V)} {ds : List (Key × D)}, RepK K r H vs ds → ∀ {d : D}, valD ds k = some d → ∃ v, valV vs k = some v ∧ Rep K r H v d
  | _, _, .nil, d, h => by cases h
  | _, _, .cons (k := k0) (vs := vs) (ds := ds) a b, d, h => by
    unfold valD at h
    unfold valV
    rw [List.find?_cons] at h ⊢
    by_cases z : k0 = k
    · simp only [z, decide_true] at h ⊢
      cases h
      exact ⟨_, rfl, a⟩
    · simp only [z, decide_false] at h ⊢
      exact RepK.val b h
theorem asKey_rep {r : Rf} {H : Hp} {v : V} {d : D} {k : Key} (h : Rep K r H v d) (e : asKey d = some k) : v = kV k := by
  cases d <;> first
    | cases e; done
    | skip
  · cases h; cases e; rfl
  · cases h; cases e; rfl
theorem Rep.scrL {r : Rf} {H : Hp} {v : V} {ns : List Int} (h : Rep K r H v (.scr ns)) : ∃ a, v = .ref a ∧ SqL K H a (ns.map V.int) := by
  cases h with
  | scr a b => exact ⟨_, rfl, .inl (.inr ⟨_, a⟩)⟩
  | scrK a b c d e f => exact ⟨_, rfl, .inr ⟨_, _, _, a, b, c, d, e, f⟩⟩
theorem Rep.refI {r : Rf} {H : Hp} {v : V} {n : Nat} (h : Rep K r H v (.ref n)) : ∃ a, v = .ref a ∧ r.adr[n]? = some a := by
  cases h with
  | ref h => exact ⟨_, rfl, h⟩
section
variable {X : Cx} {W : WXd}
def isD : D → Store → Bool := fun a st => match a with
  | .dct _ => true
  | .ref n => (match st[n]? with | some (.dct _) => true | some (.ldc _) => true | _ => false)
  | _ => false
theorem ixReadsS {rho : Rf} {H : Hp} {x y : V} {a b d : D} {st : Store} (si : Sim K rho H st) (ra : Rep K rho H x a) (rb : Rep K rho H y b) (e : ixD a b st = some d) (nd : isD a st = false) :
    ∃ v, Rep K rho H v d ∧ ∀ Q : VK, Q v H → rIx K x y H Q := by
  unfold ixD at e
  split at e
  · rename_i ds i
    cases rb
    cases ra with
    | lst h1 h2 h3 =>
      obtain ⟨v, hv, rv⟩ := h3.atI e
      exact ⟨v, rv, fun Q q => .inl ⟨_, _, i, v, rfl, rfl, .of h1, hv, q⟩⟩
  · rename_i ds i
    cases rb
    obtain ⟨p, us, rfl, s, l⟩ := ra.sqT
    obtain ⟨v, hv, rv⟩ := l.atI e
    exact ⟨v, rv, fun Q q => .inr (.inl ⟨_, _, i, v, rfl, rfl, s, hv, q⟩)⟩
  · rename_i z i
    cases rb
    cases ra
    split at e
    · rename_i hz
      obtain ⟨c, hc, e2⟩ := Option.map_eq_some_iff.mp e
      subst e2
      exact ⟨_, .str _, fun Q q => .inr (.inr ⟨z, i, c, rfl, rfl, hz, hc, q⟩)⟩
    · cases e
  · rename_i ns i
    cases rb
    obtain ⟨p, rfl, s⟩ := ra.scrL
    obtain ⟨c, hc, e2⟩ := Option.map_eq_some_iff.mp e
    subst e2
    refine ⟨_, .int c, fun Q q => .inl ⟨_, _, i, .int c, rfl, rfl, s, ?_, q⟩⟩
    rw [atI_map, hc]; rfl
  · cases nd
  · rename_i n
    obtain ⟨p, rfl, hp⟩ := ra.refI
    split at e
    · rename_i ds hst
      split at e
      · rename_i i
        cases rb
        obtain ⟨av, xs, hx, l⟩ := si.ob n p _ hp hst
        obtain ⟨v, hv, rv⟩ := l.atI e
        exact ⟨v, rv, fun Q q => .inl ⟨_, _, i, v, rfl, rfl, .of hx, hv, q⟩⟩
      · cases e
    · rename_i kvs hst
      unfold isD at nd
      simp only [hst] at nd
      cases nd
    · rename_i kvs hst
      unfold isD at nd
      simp only [hst] at nd
      cases nd
    · cases e
  · cases e
theorem dget_rd {H : Hp} {a : Addr} {kvs : List (Key × V)} {k : Key} (e : Rd H a (.dK kvs)) : DGet H a (kV k) (valV kvs k) := .inl ⟨kvs, k, e, rfl, rfl⟩
theorem ixReadsD {rho : Rf} {H : Hp} {x y : V} {a b d : D} {st : Store} (si : Sim K rho H st) (ra : Rep K rho H x a) (rb : Rep K rho H y b) (e : ixD a b st = some d) (nd : isD a st = true) :
    ∃ p v, x = .ref p ∧ DGet H p y (some v) ∧ Rep K rho H v d := by
  cases a with
  | dct kvs =>
    obtain ⟨k, hk, h2⟩ := Option.bind_eq_some_iff.mp (show ((asKey b).bind fun k => valD kvs k) = some d from e)
    have ey := asKey_rep rb hk
    subst ey
    cases ra with
    | dct h1 n1 l1 =>
      obtain ⟨v, hv, rv⟩ := l1.val h2
      exact ⟨_, v, rfl, by rw [← hv]; exact dget_rd (.inr ⟨_, h1⟩), rv⟩
  | ref n =>
    have nd' : (match st[n]? with | some (.dct _) => true | some (.ldc _) => true | _ => false) = true := nd
    · split at nd'
      · rename_i kvs hst
        have e' : ((asKey b).bind fun k => valD kvs k) = some d := by
          unfold ixD at e
          simp only [hst] at e
          exact e
        obtain ⟨k, hk, h2⟩ := Option.bind_eq_some_iff.mp e'
        have ey := asKey_rep rb hk
        subst ey
        obtain ⟨p, rfl, hp⟩ := ra.refI
        obtain ⟨av, xs, hx, l⟩ := si.ob _ p _ hp hst
        obtain ⟨v, hv, rv⟩ := l.val h2
        exact ⟨_, v, rfl, by rw [← hv]; exact .k hx, rv⟩
      · rename_i kvs hst
        have e' : ((asKey b).bind fun k => valD kvs k) = some d := by
          unfold ixD at e
          simp only [hst] at e
          exact e
        obtain ⟨k, hk, h2⟩ := Option.bind_eq_some_iff.mp e'
        have ey := asKey_rep rb hk
        subst ey
        obtain ⟨p, rfl, hp⟩ := ra.refI
        obtain ⟨av, lk, o, xs, hx, l⟩ := si.ob _ p _ hp hst
        obtain ⟨v, hv, rv⟩ := l.val h2
        exact ⟨_, v, rfl, by rw [← hv]; exact dget_rd (.inr ⟨_, hx⟩), rv⟩
      · cases nd'
  | _ => cases nd
theorem de_sub {a b : Expr} {fa fb : F} {pos : Pos} {k : Nat} (g : GX X k) (ha : DE X a fa) (hb : DE X b fb) (hs : PlainIx b := by intro _ _; rfl) : DE X (.Subscript a b pos) (fSub fa fb) :=
  weakE (orE (pe_ix ix_seq ha hb hs) (pe_dget (hu_of g.room) ha hb hs)) fun σ H Q hh => by
  obtain ⟨r, env, st, d, st', he, hs, hf, q⟩ := hh
  obtain ⟨⟨x, s1⟩, h1, hf1⟩ := Option.bind_eq_some_iff.mp hf
  obtain ⟨⟨y, s2⟩, h2, hf2⟩ := Option.bind_eq_some_iff.mp hf1
  obtain ⟨d', h3, hf3⟩ := Option.map_eq_some_iff.mp hf2
  cases hf3
  cases z : isD x s2 with
  | true =>
    refine .inr (two he hs h1 h2 fun u v r' H' e1 q1 pu pv => ?_)
    obtain ⟨p, w, ep, dg, rw'⟩ := ixReadsD q1 pu pv h3 z
    exact ⟨p, w, ep, dg, q w r' H' e1 q1 rw'⟩
  | false =>
    refine .inl (two he hs h1 h2 fun u v r' H' e1 q1 pu pv => ?_)
    obtain ⟨w, rw', k'⟩ := ixReadsS q1 pu pv h3 z
    exact k' Q (q w r' H' e1 q1 rw')

/-! ### a[lo:hi] -/
abbrev FO := Lo → Store → Option (Option Int × Store)
def oNone : FO := fun _ st => some (none, st)
def oSome (f : F) : FO := fun env st => (f env st).bind fun p => match p.1 with | .int i => some (some i, p.2) | _ => none
def tO (K : PySem.W.Frag) (f : FO) : TO := fun σ H Q => ∃ r env st o st', EnvR K r H env σ ∧ Sim K r H st ∧ f env st = some (o, st') ∧ ∀ r' H', Ext r H r' H' → Sim K r' H' st' → Q o H'
abbrev DO' (X : Cx) (e : Option Expr) (f : FO) : Prop := PO X e (tO X.K f)
theorem weakO {e : Option Expr} {t t' : TO} (h : PO X e t) (i : ∀ σ H Q, t' σ H Q → t σ H Q) : PO X e t' := ⟨fun pins s σ H Q I q => h.run pins s σ H Q I (i σ H Q q)⟩
theorem do_none : DO' X none oNone := weakO po_none fun σ H Q hh => by
  obtain ⟨r, env, st, o, st', he, hs, hf, q⟩ := hh
  cases hf
  exact q r H (.refl r H) hs
theorem do_some {e : Expr} {f : F} (h : DE X e f) : DO' X (some e) (oSome f) := weakO (po_some h) fun σ H Q hh => by
  obtain ⟨r, env, st, o, st', he, hs, hf, q⟩ := hh
  obtain ⟨⟨x, s1⟩, h1, hf1⟩ := Option.bind_eq_some_iff.mp hf
  cases x with
  | int i =>
    cases hf1
    exact ⟨r, env, st, _, _, he, hs, h1, fun v r1 H1 e1 q1 p1 => by
      cases p1
      exact ⟨i, rfl, q r1 H1 e1 q1⟩⟩
  | _ => cases hf1
def cutD {α : Type} (xs : List α) (lo hi : Option Int) : List α := (xs.drop (HT.sIx xs.length 0 lo)).take (HT.sIx xs.length xs.length hi - HT.sIx xs.length 0 lo)
def slD : D → Option Int → Option Int → Option D := fun a lo hi => match a with
  | .lst ds => some (.lst (cutD ds lo hi))
  | .tup ds => some (.tup (cutD ds lo hi))
  | _ => none
theorem RepL.cut {r : Rf} {H : Hp} {vs : List V} {ds : List D} (l : RepL K r H vs ds) (lo hi : Option Int) : RepL K r H (cutV vs lo hi) (cutD ds lo hi) := by
  unfold cutV cutD
  rw [l.len]
  exact (l.drop _).take _
def fSlice (fa : F) (lo hi : FO) : F := fun env st => (fa env st).bind fun p => (lo env p.2).bind fun q => (hi env q.2).bind fun w => (slD p.1 q.1 w.1).map fun d => (d, w.2)
theorem cut_all {α : Type} {xs : List α} {lo hi : Option Int} (h : HT.sIx xs.length 0 lo = 0 ∧ HT.sIx xs.length xs.length hi = xs.length) : cutD xs lo hi = xs := by
  unfold cutD
  rw [h.1, h.2]
  simp
theorem de_slice {a : Expr} {lo hi : Option Expr} {fa : F} {fl fh : FO} {p2 pos : Pos} (ha : DE X a fa) (hl : DO' X lo fl) (hh : DO' X hi fh) : DE X (.Subscript a (.Slice lo hi none p2) pos) (fSlice fa fl fh) :=
  weakE (pe_slice (sl_list.or sl_tupF) ha hl hh) fun σ H Q hh => by
  obtain ⟨r, env, st, d, st', he, hs, hf, q⟩ := hh
  obtain ⟨⟨x, s1⟩, h1, hf1⟩ := Option.bind_eq_some_iff.mp hf
  obtain ⟨⟨i, s2⟩, h2, hf2⟩ := Option.bind_eq_some_iff.mp hf1
  obtain ⟨⟨j, s3⟩, h3, hf3⟩ := Option.bind_eq_some_iff.mp hf2
  obtain ⟨d', h4, hf4⟩ := Option.map_eq_some_iff.mp hf3
  cases hf4
  refine ⟨r, env, st, x, s1, he, hs, h1, fun u r1 H1 e1 q1 p1 => ⟨r1, env, s1, i, s2, he.ext e1, q1, h2, fun r2 H2 e2 q2 => ⟨r2, env, s2, j, _, (he.ext e1).ext e2, q2, h3, fun r3 H3 e3 q3 => ?_⟩⟩⟩
  have p3 := (p1.ext e2).ext e3
  have e13 := (e1.trans e2).trans e3
  cases x with
  | lst ds =>
    cases h4
    cases p3 with
    | lst g1 g2 g3 => exact .inl ⟨_, _, rfl, .of g1, fun p hp => q _ _ _ (e13.trans (q3.ext (same_alloc hp))) (q3.same (same_alloc hp)) (.lst upd_same (q3.free hp) ((g3.cut i j).ex (Ex.same r3 (same_alloc hp))))⟩
  | tup ds =>
    cases h4
    obtain ⟨p, us, rfl, s, l⟩ := p3.sqT
    refine .inr ⟨p, us, rfl, s, fun w => ?_, fun p' o hp hz => ?_⟩
    · rw [l.len] at w
      rw [cut_all w] at q
      exact q _ r3 H3 e13 q3 p3
    · exact q _ _ _ (e13.trans (q3.ext (same_alloc hp))) (q3.same (same_alloc hp)) (.tup upd_same hz (q3.free hp) ((l.cut i j).ex (Ex.same r3 (same_alloc hp))))
  | _ => cases h4

/-! ### what is written: an object of the store -/
theorem Sim.set {r : Rf} {H : Hp} {st : Store} (s : Sim K r H st) {n : Nat} {a : Addr} {o : HO} {ob : Ob} (ha : r.adr[n]? = some a) (hav : r.av a) (hob : ObR K r (upd H a o) a ob) (nl : ∀ o u, H a ≠ some (.frz o u)) : Ext r H r (upd H a o) ∧ Sim K r (upd H a o) (st.set n ob) := by
  have hm : a ∈ r.adr := List.mem_of_getElem? ha
  have nlk : ∀ q, r.lk q → q ≠ a := fun q z y => by
    obtain ⟨o, u, h⟩ := s.lkd q z
    exact nl o u (by rw [← y]; exact h)
  have ex : Ext r H r (upd H a o) := ⟨⟨⟨[], by simp⟩, fun q x z m => by rw [upd_ne (fun y => m (by rw [y]; exact hav))]; exact z, fun q z m => absurd z m⟩,
    fun q v m => ⟨by rw [upd_ne (fun y => m (by rw [y]; exact hm))], v, m⟩, fun _ => Iff.rfl, fun q v => by rw [upd_ne (nlk q v)]⟩
  refine ⟨ex, by rw [List.length_set]; exact s.len, s.nd, fun m b x h1 h2 => ?_, fun q v => ?_, fun q v => ?_, fun q v => by rw [upd_ne (nlk q v)]; exact s.lkd q v⟩
  · by_cases z : n = m
    · subst z
      rw [ha] at h1
      cases h1
      by_cases hl : n < st.length
      · rw [List.getElem?_set_self hl] at h2
        cases h2
        exact hob
      · rw [List.getElem?_eq_none (by rw [List.length_set]; omega)] at h2
        cases h2
    · rw [List.getElem?_set_ne z] at h2
      have nb : b ≠ a := fun y => z (by
        subst y
        obtain ⟨l1, e1⟩ := List.getElem?_eq_some_iff.mp ha
        obtain ⟨l2, e2⟩ := List.getElem?_eq_some_iff.mp h1
        exact (List.getElem_inj s.nd).mp (e1.trans e2.symm))
      exact (s.ob m b x h1 h2).ex ex.toEx fun v => ⟨by rw [upd_ne nb], v⟩
  · by_cases z : q = a
    · exact ⟨_, by rw [z]; exact upd_same⟩
    · rw [upd_ne z]; exact s.there q v
  · by_cases z : q = a
    · exact ⟨_, by rw [z]; exact upd_same⟩
    · rw [upd_ne z]; exact s.old q v
def putD (kvs : List (Key × D)) (k : Key) (v : D) : List (Key × D) := if kvs.any (fun kv => decide (kv.1 = k)) then kvs.map fun kv => if kv.1 = k then (kv.1, v) else kv else kvs ++ [(k, v)]
theorem RepK.len {r : Rf} {H : Hp} : ∀ {vs : List (Key × V)} {ds : List (Key × D)}, RepK K r H vs ds → vs.length = ds.length
  | _, _, .nil => rfl
  | _, _, .cons _ b => by rw [List.length_cons, List.length_cons, RepK.len b]
theorem RepK.any {r : Rf} {H : Hp} {k : Key} : ∀ {vs : List (Key × V)} {ds : List (Key × D)}, RepK K r H vs ds → (vs.any fun kv => decide (kv.1 = k)) = ds.any fun kv => decide (kv.1 = k)
  | _, _, .nil => rfl
  | _, _, .cons _ b => by rw [List.any_cons, List.any_cons, RepK.any b]
theorem RepK.repl {r : Rf} {H : Hp} {k : Key} {v : V} {d : D} (q : Rep K r H v d) : ∀ {vs : List (Key × V)} {ds : List (Key × D)}, RepK K r H vs ds → RepK K r H (vs.map fun kv => if kv.1 = k then (kv.1, v) else kv) (ds.map fun kv => if kv.1 = k then (kv.1, d) else kv)
  | _, _, .nil => .nil
  | _, _, .cons (k := k0) a b => by
    rw [List.map_cons, List.map_cons]
    by_cases z : k0 = k
    · rw [if_pos z, if_pos z]
      exact .cons q (RepK.repl q b)
    · rw [if_neg z, if_neg z]
      exact .cons a (RepK.repl q b)
theorem RepK.snoc {r : Rf} {H : Hp} {k : Key} {v : V} {d : D} (q : Rep K r H v d) : ∀ {vs : List (Key × V)} {ds : List (Key × D)}, RepK K r H vs ds → RepK K r H (vs ++ [(k, v)]) (ds ++ [(k, d)])
  | _, _, .nil => .cons q .nil
  | _, _, .cons a b => .cons a (RepK.snoc q b)
theorem RepK.put {r : Rf} {H : Hp} {k : Key} {v : V} {d : D} (q : Rep K r H v d) {vs : List (Key × V)} {ds : List (Key × D)} (l : RepK K r H vs ds) : RepK K r H (putK vs k v) (putD ds k d) := by
  unfold putK putD
  rw [l.any]
  split
  · exact l.repl q
  · exact l.snoc q
/-- o[k] = v, o a dict of the store -/
def sPut (fo fk fv : F) : FS := fun env st => (fv env st).bind fun p => (fo env p.2).bind fun q => (fk env q.2).bind fun w => match q.1 with
  | .ref n => (match w.2[n]? with
    | some (.dct kvs) => (asKey w.1).bind fun k => if kvs.length < sizeLine then some (.nx, env, w.2.set n (.dct (putD kvs k p.1))) else none
    | _ => none)
  | _ => none
theorem ds_put {o i value : Expr} {fo fk fv : F} {pos pos' : Pos} {k : Nat} (g : GX X k) (ho : DE X o fo) (hi : DE X i fk) (hv : DE X value fv) (hs : swapsWith value (some (.Subscript o i pos')) pos.line X.env = pure false := by rfl) :
    DS X W (.Assign [.Subscript o i pos'] value pos) (sPut fo fk fv) := weakS (ps_dput (hu_of g.room) ho hi hv hs) fun D' σ H hh => by
  obtain ⟨r, env, st, out, env', st', he, hs, hf, q⟩ := hh
  obtain ⟨⟨x, s1⟩, h1, hf1⟩ := Option.bind_eq_some_iff.mp hf
  obtain ⟨⟨y, s2⟩, h2, hf2⟩ := Option.bind_eq_some_iff.mp hf1
  obtain ⟨⟨z, s3⟩, h3, hf3⟩ := Option.bind_eq_some_iff.mp hf2
  cases y with
  | ref n =>
    simp only at hf3
    split at hf3
    · rename_i kvs hst
      obtain ⟨kk, hk, hf4⟩ := Option.bind_eq_some_iff.mp hf3
      split at hf4
      · rename_i hl
        cases hf4
        refine ⟨r, env, st, x, s1, he, hs, h1, fun xv r1 H1 e1 q1 p1 => ⟨r1, env, s1, _, s2, he.ext e1, q1, h2, fun yv r2 H2 e2 q2 p2 => ⟨r2, env, s2, z, s3, (he.ext e1).ext e2, q2, h3, fun zv r3 H3 e3 q3 p3 => ?_⟩⟩⟩
        have ez := asKey_rep p3 hk
        subst ez
        obtain ⟨p, rfl, hp⟩ := (p2.ext e3).refI
        obtain ⟨av, xs, hx, l⟩ := q3.ob _ p _ hp hst
        have px : Rep X.K r3 H3 xv x := (p1.ext e2).ext e3
        refine ⟨p, _, rfl, .k hx (by rw [l.len]; exact hl), ?_⟩
        have ee : Ex r3 H3 r3 (upd H3 p (.dK (putK xs kk xv))) := ⟨⟨[], by simp⟩, fun a o w m => by rw [upd_ne (fun y => m (by rw [y]; exact av))]; exact w, fun a w m => absurd w m⟩
        obtain ⟨w1, w2⟩ := q3.set (o := .dK (putK xs kk xv)) (ob := .dct (putD kvs kk x)) hp av ⟨av, _, upd_same, (l.put px).ex ee⟩ (fun _ _ z => by rw [hx] at z; cases z)
        exact q σ r3 _ (((e1.trans e2).trans e3).trans w1) ((((he.ext e1).ext e2).ext e3).ext w1) w2
      · cases hf4
    · cases hf3
  | _ => cases hf3
/-- {k: v, ..}, into the store -/
def evP : List (F × F) → Lo → Store → Option (List (Key × D) × Store)
  | [], _, st => some ([], st)
  | (fk, fv) :: r, env, st => (fk env st).bind fun p => (asKey p.1).bind fun k => (fv env p.2).bind fun q => (evP r env q.2).map fun z => ((k, q.1) :: z.1, z.2)
def mergeD (kvs more : List (Key × D)) : List (Key × D) := more.foldl (fun acc kv => putD acc kv.1 kv.2) kvs
def fDict (ps : List (F × F)) : F := fun env st => (evP ps env st).bind fun q => if q.1.length ≤ 15 then some (.ref q.2.length, q.2 ++ [.dct (mergeD [] q.1)]) else none
inductive DPs (X : Cx) (pos : Pos) : List (Option Expr) → List Expr → List (F × F) → Prop
  | nil : DPs X pos [] [] []
  | cons {k v : Expr} {ks : List (Option Expr)} {vs : List Expr} {fk fv : F} {ps : List (F × F)} : DE X k fk → DE X v fv → DPs X pos ks vs ps → DPs X pos (some k :: ks) (v :: vs) ((fk, fv) :: ps)
theorem DPs.pps {pos : Pos} : ∀ {ks : List (Option Expr)} {vs : List Expr} {ps : List (F × F)}, DPs X pos ks vs ps → PPs X pos ks vs (ps.map fun p => (tD X.K p.1, tD X.K p.2))
  | _, _, _, .nil => pps_nil
  | _, _, _, .cons a b c => pps_cons a b (DPs.pps c)
theorem RepK.merge {r : Rf} {H : Hp} : ∀ {more : List (Key × V)} {md : List (Key × D)} {kvs : List (Key × V)} {ds : List (Key × D)}, RepK K r H more md → RepK K r H kvs ds → RepK K r H (mergeK kvs more) (mergeD ds md)
  | _, _, _, _, .nil, q => q
  | _, _, kvs, ds, .cons (k := k) (v := v) (vs := more) (d := d) (ds := md) a b, q => by
    have := RepK.merge b (q.put (k := k) a)
    exact this
theorem pairsRead : ∀ {ps : List (F × F)} {r : Rf} {env : Lo} {st st' : Store} {σ : L2.St} {H : Hp} {kds : List (Key × D)} {Q : List (V × V) → Hp → Prop}, EnvR K r H env σ → Sim K r H st → evP ps env st = some (kds, st') →
    (∀ r' H' (kvs : List (Key × V)), Ext r H r' H' → Sim K r' H' st' → RepK K r' H' kvs kds → Q (kvs.map fun kv => (kV kv.1, kv.2)) H') → tPairs (ps.map fun p => (tD K p.1, tD K p.2)) σ H Q
  | [], r, env, st, st', σ, H, kds, Q, he, hs, hf, q => by
    cases hf
    exact q r H [] (.refl r H) hs .nil
  | (fk, fv) :: ps, r, env, st, st', σ, H, kds, Q, he, hs, hf, q => by
    obtain ⟨⟨x, s1⟩, h1, hf1⟩ := Option.bind_eq_some_iff.mp hf
    obtain ⟨k, hk, hf2⟩ := Option.bind_eq_some_iff.mp hf1
    obtain ⟨⟨y, s2⟩, h2, hf3⟩ := Option.bind_eq_some_iff.mp hf2
    obtain ⟨⟨zs, s3⟩, h3, hf4⟩ := Option.map_eq_some_iff.mp hf3
    cases hf4
    refine ⟨r, env, st, x, s1, he, hs, h1, fun xv r1 H1 e1 q1 p1 => ⟨r1, env, s1, y, s2, he.ext e1, q1, h2, fun yv r2 H2 e2 q2 p2 => ?_⟩⟩
    have ex := asKey_rep p1 hk
    subst ex
    refine pairsRead (ps := ps) ((he.ext e1).ext e2) q2 h3 fun r3 H3 kvs e3 q3 l3 => ?_
    exact q r3 H3 ((k, yv) :: kvs) ((e1.trans e2).trans e3) q3 (.cons (p2.ext e3) l3)
theorem de_dict {pos : Pos} {keys : List (Option Expr)} {values : List Expr} {ps : List (F × F)} (h : DPs X pos keys values ps) (hall : keys.all (·.isSome) = true := by rfl) (hl : keys.length = values.length := by rfl) (h0 : keys ≠ [] := by (intro z; cases z)) (h15 : keys.length ≤ 15 := by decide) :
    DE X (.Dict keys values pos) (fDict ps) := weakE (pe_disp h.pps hall hl h0 h15) fun σ H Q hh => by
  obtain ⟨r, env, st, d, st', he, hs, hf, q⟩ := hh
  obtain ⟨⟨kds, s1⟩, h1, hf1⟩ := Option.bind_eq_some_iff.mp hf
  by_cases hz : kds.length ≤ 15
  case neg => rw [if_neg hz] at hf1; cases hf1
  rw [if_pos hz] at hf1
  cases hf1
  intro p hp
  obtain ⟨e0, hd0⟩ := hideNew (o := .dK []) hs hp
  refine pairsRead (he.ext e0) hd0.sim h1 fun r' H' kvs e1 q1 l1 => ?_
  obtain ⟨hd1, hk⟩ := hd0.ext e1 q1
  refine ⟨hk.trans upd_same, kvs, rfl, by rw [l1.len]; exact hz, ?_⟩
  have ee : Ex r' H' (r'.add p) (upd H' p (.dK (mergeK [] kvs))) := ⟨⟨[p], rfl⟩, fun a o w m => by rw [upd_ne (fun y => m (by rw [y]; exact hd1.av))]; exact w, fun a w m => absurd w m⟩
  obtain ⟨w1, w2, w3⟩ := hd1.add (o := .dK (mergeK [] kvs)) (ob := .dct (mergeD [] kds)) (e0.trans e1) hs hp ⟨hd1.av, _, upd_same, (RepK.merge l1 .nil).ex ee⟩
  exact q _ _ _ w1 w2 (w3 _ rfl)
/-- {} as a value -/
theorem de_dict0 {pos : Pos} : DE X (.Dict [] [] pos) (fC (.dct [])) := weakE (pe_frz pe_dnewK) fun σ H Q hh => by
  obtain ⟨r, env, st, d, st', he, hs, hf, q⟩ := hh
  cases hf
  refine fun p hp => ⟨p, _, rfl, upd_same, trivial, fun o => ?_⟩
  rw [upd_upd]
  exact q _ r _ (hs.ext (same_alloc hp)) (hs.same (same_alloc hp)) (.dct upd_same (hs.free hp) .nil)
/-- a list display, into the store -/
def fNewL (fa : FA) : F := fun env st => (fa env st).bind fun p => if p.1.length ≤ sizeLine then some (.ref p.2.length, p.2 ++ [.lst p.1]) else none
theorem de_newL {es : List Expr} {fa : FA} {pos : Pos} (h : DA X es fa) : DE X (.List es pos) (fNewL fa) := weakE (pe_lst h) fun σ H Q hh => by
  obtain ⟨r, env, st, d, st', he, hs, hf, q⟩ := hh
  obtain ⟨⟨ds, s1⟩, h1, hf1⟩ := Option.bind_eq_some_iff.mp hf
  by_cases hz : ds.length ≤ sizeLine
  case neg => rw [if_neg hz] at hf1; cases hf1
  rw [if_pos hz] at hf1
  cases hf1
  refine ⟨r, env, st, ds, s1, he, hs, h1, fun vs r1 H1 e1 q1 l1 => ⟨by rw [l1.len]; exact hz, fun p hp => ?_⟩⟩
  obtain ⟨e0, hd0⟩ := hideNew (o := .lst vs) q1 hp
  have ee : Ex r1 H1 ((r1.hide p).add p) (upd (upd H1 p (.lst vs)) p (.lst vs)) := by
    rw [upd_upd]
    refine ⟨⟨[p], rfl⟩, fun a o w m => same_alloc hp a o w, fun a w m => ?_⟩
    rcases w with w | w
    · exact absurd w m
    · rw [w]; exact hp
  obtain ⟨w1, w2, w3⟩ := hd0.add (o := .lst vs) (ob := .lst ds) e0 q1 hp ⟨hd0.av, _, upd_same, l1.ex ee⟩
  have key := q (.ref p) _ _ (e1.trans w1) w2 (w3 _ rfl)
  rw [upd_upd] at key
  exact key
/-- xs.append(e), xs of the store -/
def isLs : Option Ob → Bool | some (.lst _) => true | _ => false
def appAt (n : Nat) (d : D) (st : Store) : Option (D × Store) := match st[n]? with
  | some (.lst ds) => if ds.length < sizeLine then some (.non, st.set n (.lst (ds ++ [d]))) else none
  | _ => none
def fApp (fo fe : F) : F := fun env st => (fo env st).bind fun p => match p.1 with
  | .ref n => if isLs p.2[n]? = true then (fe env p.2).bind fun q => appAt n q.1 q.2 else none
  | _ => none
theorem de_append {o e : Expr} {fo fe : F} {apos cpos : Pos} (ho : DE X o fo) (hv : DE X e fe) (hbase : attributeBase o "append" X.env (eval o X.env) = eval o X.env := by rfl)
    (hfew : ((backTo cpos (starEach [e] X.env)).all (fun x => !x.1) && (backToKw cpos (keywordEach [] X.env)).all (fun x => x.1.isSome)
      && decide (([e] : List Expr).length + ([] : List Keyword).length + (if ([] : List Keyword).isEmpty then 0 else 1) < 30)) = true := by rfl)
    (hline : (apos.endLine == cpos.line) = true := by rfl) (hs : starEach [e] X.env = [(false, eval e X.env)] := by rfl) :
    DE X (.Call (.Attribute o "append" apos) [e] [] cpos) (fApp fo fe) :=
  weakE (pe_bm PySem.F.plainAttrs_list PySem.F.slot_list_append PySem.F.type_list_append mt_append ho (pa_cons hv pa_nil hs) hbase hfew hline hs rfl) fun σ H Q hh => by
  obtain ⟨r, env, st, d, st', he, hs, hf, q⟩ := hh
  obtain ⟨⟨x, s1⟩, h1, hf1⟩ := Option.bind_eq_some_iff.mp hf
  cases x with
  | ref n =>
    have hf1' : (if isLs s1[n]? = true then (fe env s1).bind fun q => appAt n q.1 q.2 else none) = some (d, st') := hf1
    by_cases hl1 : isLs s1[n]? = true
    case neg => rw [if_neg hl1] at hf1'; cases hf1'
    rw [if_pos hl1] at hf1'
    obtain ⟨⟨y, s2⟩, h2, hf2⟩ := Option.bind_eq_some_iff.mp hf1'
    have hf3 : appAt n y s2 = some (d, st') := hf2
    unfold appAt at hf3
    split at hf3
    · rename_i ds hst
      split at hf3
      · rename_i hl
        cases hf3
        refine ⟨r, env, st, _, s1, he, hs, h1, fun xv r1 H1 e1 q1 p1 => ?_⟩
        obtain ⟨p, rfl, hp⟩ := p1.refI
        refine ⟨.inl ⟨rfl, ?_⟩, r1, env, s1, y, s2, he.ext e1, q1, h2, fun yv r2 H2 e2 q2 p2 => ?_⟩
        · unfold isLs at hl1
          split at hl1
          · rename_i es hes
            obtain ⟨av, xs, hx, l⟩ := q1.ob n p _ hp hes
            exact ⟨xs, .of hx⟩
          · cases hl1
        · have hp2 := e2.get hp
          obtain ⟨av, xs, hx, l⟩ := q2.ob n p _ hp2 hst
          refine ⟨p, xs, yv, rfl, rfl, hx, by rw [l.len]; exact hl, ?_⟩
          have ee : Ex r2 H2 r2 (upd H2 p (.lst (xs ++ [yv]))) := ⟨⟨[], by simp⟩, fun a o w m => by rw [upd_ne (fun y => m (by rw [y]; exact av))]; exact w, fun a w m => absurd w m⟩
          obtain ⟨w1, w2⟩ := q2.set (o := .lst (xs ++ [yv])) (ob := .lst (ds ++ [y])) hp2 av ⟨av, _, upd_same, (l.append (.cons p2 .nil)).ex ee⟩ (fun _ _ z => by rw [hx] at z; cases z)
          exact q _ _ _ ((e1.trans e2).trans w1) w2 .non
      · cases hf3
    · cases hf3
  | _ => cases hf1
end
end DL
namespace DL
open PySem PySem.Spec PyProof.Rows L2
variable {K : PySem.W.Frag}

/-! ### a def -/
abbrev FM := List D → Store → Option (D × Store)
/-- a def computes m (nothing is raised) -/
structure FnD (P : Program) (w : World) (K : PySem.W.Frag) (mg : Str → Option Value) (base : Heap) (k : Nat) (f : Addr) (fd : FuncData) (ps : List Str) (m : FM) : Prop where
  run : ∀ (A : Around) (outer : List Env) (s : Shared) (H : Hp) (args : Args) (us : List Value) (vs : List V) (Q : VK) (rho : Rf) (ds : List D) (st st' : Store) (d : D),
    A.guards = some [] → Room k A → Env0 P w K mg base A outer s H → BindsTo s fd args (ps.zip us) → Vals vs us → vs.length = ps.length → RepL K rho H vs ds → Sim K rho H st → m ds st = some (d, st') →
    (∀ v rho' H', Ext rho H rho' H' → Sim K rho' H' st' → Rep K rho' H' v d → Q v H') → codeAny (model P w) A (.call (.ref f) args) (CR CX0 outer P w H s Q E0) s
theorem FnD.up {P : Program} {w : World} {mg : Str → Option Value} {base : Heap} {j k : Nat} {f : Addr} {fd : FuncData} {ps : List Str} {m : FM} (h : FnD P w K mg base j f fd ps m) (l : j ≤ k) : FnD P w K mg base k f fd ps m :=
  ⟨fun A outer s H args us vs Q rho ds st st' d hg hr => h.run A outer s H args us vs Q rho ds st st' d hg (hr.mono l)⟩
/-- a body's context -/
abbrev cxD (P : Program) (w : World) (K : PySem.W.Frag) (mg : Str → Option Value) (base : Heap) (N : List Str) (qual : Str) (sc : Scope) (f : Addr) (cd : Value) (A : Around) (outer : List Env) (s : Shared) (H : Hp) : Cx :=
  (cxOf CX0 P w K mg base N qual sc f cd A outer s H E0).nox
def startD (n : Nat) (ds : List D) : Lo := ds.map some ++ List.replicate (n - ds.length) none
def outM : Option (Out × Lo × Store) → Option (D × Store)
  | some (.rt d, _, s) => some (d, s)
  | some (.nx, _, s) => some (.non, s)
  | _ => none
def mOf (n : Nat) (g : FS) : FM := fun ds st => outM (g (startD n ds) st)
theorem start_env {r : Rf} {H : Hp} {vs : List V} {ds : List D} {N : List Str} (l : RepL K r H vs ds) (hn : vs.length ≤ N.length) : EnvR K r H (startD N.length ds) (L2.start N vs) := by
  refine ⟨?_, fun i d h => ?_⟩
  · unfold startD L2.start
    rw [List.length_append, List.length_append, List.length_map, List.length_map, List.length_replicate, List.length_replicate, l.len]
  · unfold startD at h
    unfold L2.start
    by_cases hi : i < ds.length
    · rw [List.getElem?_append_left (by rw [List.length_map]; exact hi), List.getElem?_map] at h
      obtain ⟨d', h1, h2⟩ := Option.map_eq_some_iff.mp h
      cases h2
      obtain ⟨v, h3, h4⟩ := l.get h1
      refine ⟨v, ?_, h4⟩
      rw [List.getElem?_append_left (by rw [List.length_map, l.len]; exact hi), List.getElem?_map, h3]; rfl
    · rw [List.getElem?_append_right (by rw [List.length_map]; omega), List.getElem?_replicate] at h
      split at h <;> cases h
theorem FnD.of {P : Program} {w : World} {mg : Str → Option Value} {base : Heap} {x qual : Str} {sd : Stmt} {f : Addr} {fd : FuncData} {N ps : List Str} {k : Nat} {g : FS} (F : Fun K x qual sd f fd) (S : FnScope N ps (defScope sd))
    (hb : ∀ (cd : Value) (A : Around) (outer : List Env) (s : Shared) (H : Hp), GX (cxD P w K mg base N qual (defScope sd) f cd A outer s H) k → DSs (cxD P w K mg base N qual (defScope sd) f cd A outer s H) (fun _ _ _ _ => False) (defBody sd) g) :
    FnD P w K mg base (k + 1) f fd ps (mOf N.length g) := by
  obtain ⟨oc, od, kV, doc, pm, an, cd, ct, osl, rfl, lk, hcd⟩ := F.ex
  refine ⟨fun A outer s H args us vs Q rho ds st st' d hgd hr e0 hbind rv hlen rds hs hm hq => ?_⟩
  have hps : ps.length ≤ N.length := by
    have := congrArg List.length S.pre
    rw [List.length_take] at this
    omega
  have KX : K.In s.heap := e0.mod.kin.keeps fun b o e => (e0.bs b o e).1
  have lim : s.heap.NoLimit := e0.mod.nolimit.keeps fun b o e => (e0.bs b o e).1
  have kinds : ∀ y ∈ ps.zip us, (defScope sd).names.lookup y.1 = some .local ∨ ((defScope sd).names.lookup y.1 = some .cell ∧ ((cellsFrom (s.heap.objs.size + 1) (defScope sd).names []).lookup y.1).isSome = true) := fun ⟨n, v⟩ hy =>
    (S.par n (List.of_mem_zip hy).1).elim .inl fun q => .inr ⟨q, PySem.W.cellsFrom_some _ _ _ (.inl q)⟩
  refine codeAny_call_function hr.depth (KX _ _ lk) rfl S.co S.gen rfl (PySem.W.codeRec_of KX hcd) (hbind _ _ _ _ (wpAny_newFunctionEnv_cells S.kind kinds fun env he s1 x => ?_))
  subst he
  refine ⟨lim.keeps x.toInCall.keep, codeAny_func ?_⟩
  have gx : GX (cxD P w K mg base N qual (defScope sd) f cd A outer s H) k := ⟨rfl, S.nd, hr.deeper _, hgd⟩
  have I0 : Inv (cxOf CX0 P w K mg base N qual (defScope sd) f cd A outer s H E0) [] (L2.start N vs) H s1 := inv_start S hr.hd e0 hlen rv x
  -- what the body does
  obtain ⟨o, env', h1, h2⟩ : ∃ o env', g (startD N.length ds) st = some (o, env', st') ∧ (o = .rt d ∨ (o = .nx ∧ d = .non)) := by
    unfold mOf at hm
    cases z : g (startD N.length ds) st with
    | none => rw [z] at hm; cases hm
    | some q =>
      obtain ⟨o, e, s2⟩ := q
      rw [z] at hm
      cases o with
      | rt d' => cases hm; exact ⟨_, _, rfl, .inl rfl⟩
      | nx => cases hm; exact ⟨_, _, rfl, .inr ⟨rfl, rfl⟩⟩
      | bk => cases hm
      | ct => cases hm
      | er _ _ _ => cases hm
  have run := (hb cd A outer s H gx).run [] s1 (L2.start N vs) H { nx := fun _ H' => Q .non H', rt := Q } (I0.wish _) ⟨rho, _, st, o, env', st', start_env rds (by omega), hs, h1, by
    rcases h2 with e | ⟨e, e2⟩
    · subst e
      exact hq
    · subst e e2
      exact fun σ' r' H' ex _ hs' => hq .non r' H' ex hs' .non⟩
  refine wpAny_mono run (fun fl s' q => ?_) fun _ _ z => False.elim z
  have back : ∀ {σ' : L2.St} {H' : Hp} {v : V} {u : Value}, Inv (cxD P w K mg base N qual (defScope sd) f cd A outer s H) [] σ' H' s' → RelV v u → Q v H' → CE outer P w H s Q u s' := fun {σ' H' v u} J r z => ⟨v, H', J.os, J.bare, J.base, J.hok, r, z⟩
  cases fl with
  | ret u =>
    obtain ⟨v, σ', H', J, r, z⟩ := q
    exact back J r z
  | next =>
    obtain ⟨σ', H', J, z⟩ := q
    exact back (v := V.non) (u := Value.none) J rfl z
  | brk => obtain ⟨_, _, _, z⟩ := q; exact z.elim
  | cont => obtain ⟨_, _, _, z⟩ := q; exact z.elim

/-! ### a call -/
def fCall (m : FM) (fa : FA) : F := fun env st => (fa env st).bind fun p => m p.1 p.2
section
variable {X : Cx} {W : WXd} {k : Nat} {f : Addr} {fd : FuncData} {ps : List Str} {m : FM} {x : Str} {p pos : Pos} {e : Expr} {es : List Expr}
theorem runD {pins : List (Addr × Obj)} {σ : L2.St} {H : Hp} {s : Shared} {Q : VK} {us : List Value} {vs : List V} {rho : Rf} {ds : List D} {st st' : Store} {d : D} (Fd : FnD X.prog X.w X.K X.mg X.base k f fd ps m) (gx : GX X k) (hb : Binds X.K fd ps [])
    (I : Inv X pins σ H s) (r : Vals vs us) (hl : vs.length = ps.length) (rd : RepL X.K rho H vs ds) (hs : Sim X.K rho H st) (hm : m ds st = some (d, st')) (hq : ∀ v rho' H', Ext rho H rho' H' → Sim X.K rho' H' st' → Rep X.K rho' H' v d → Q v H') :
    wpAny (model X.prog X.w) X.A (call (.ref f) us) (EP X pins σ Q) X.xe s := by
  have hu : us.length = ps.length := by rw [← r.length]; exact hl
  have hbt : BindsTo s fd ⟨us, []⟩ (ps.zip us) := by
    have := hb s us I.kIn (by rw [List.append_nil]; exact hu)
    rwa [List.append_nil] at this
  refine wpAny_call (codeAny_mono (Fd.run X.A X.stack s H ⟨us, []⟩ us vs Q rho ds st st' d gx.gd gx.room I.env0 hbt r hl rd hs hm hq) fun z s' hz => ?_)
  cases z with
  | error e => exact False.elim hz
  | ok fl =>
    cases fl with
    | ret u => exact I.after hz
    | next => exact False.elim hz
    | brk => exact False.elim hz
    | cont => exact False.elim hz
/-- f(e, ..), every parameter given by place -/
theorem de_call (Fd : FnD X.prog X.w X.K X.mg X.base k f fd ps m) (gx : GX X k) (hg : Gl X x) (hm : X.mg x = some (.ref f)) (hk : PySem.W.keepIn X.K (.ref f) = true) (hb : Binds X.K fd ps []) {fa : FA}
    (ha : DA X (e :: es) fa) (hl : (e :: es).length = ps.length := by rfl) (hdb : (x == ("__debug__" : Str)) = false := by decide) (he : starEach (e :: es) X.env = (false, eval e X.env) :: starEach es X.env := by rfl) (hpl : (backTo pos (starEach es X.env)).any (·.1) = false := by rfl)
    (hn : ∀ env st ds st', fa env st = some (ds, st') → ds.length = (e :: es).length) :
    DE X (.Call (.Name x p) (e :: es) [] pos) (fCall m fa) := by
  refine ⟨fun pins s σ H Q I h => wpAny_Call_Name_kw (ld_glob I hg hm ?_ hdb)⟩
  obtain ⟨r, env, st, d, st', he', hs, hf, q⟩ := h
  obtain ⟨⟨ds, s1⟩, h1, h2⟩ := Option.bind_eq_some_iff.mp hf
  refine PySem.W.callWith_K (h₀ := X.base) I.ok.mod.kin hk (thn (ha.run pos pins s σ H (fun vs H1 => ∃ r1, Ext r H r1 H1 ∧ Sim X.K r1 H1 s1 ∧ RepL X.K r1 H1 vs ds) I ⟨r, env, st, ds, s1, he', hs, h1, fun vs r1 H1 e1 q1 l1 => ⟨r1, e1, q1, l1⟩⟩) fun us sa hz => ?_) he hpl
  obtain ⟨vs, H1, I1, rv, r1, e1, q1, l1⟩ := hz
  exact ⟨I1.kIn, runD Fd gx hb I1 rv (by rw [l1.len, hn _ _ _ _ h1]; exact hl) l1 q1 h2 fun v r2 H2 e2 q2 p2 => q v r2 H2 (e1.trans e2) q2 p2⟩
end
theorem aNil_n : ∀ (env : Lo) (st : Store) (ds : List D) (st' : Store), aNil env st = some (ds, st') → ds.length = 0 := fun _ _ _ _ h => by cases h; rfl
theorem aCons_n {f : F} {g : FA} {n : Nat} (h : ∀ (env : Lo) (st : Store) (ds : List D) (st' : Store), g env st = some (ds, st') → ds.length = n) :
    ∀ (env : Lo) (st : Store) (ds : List D) (st' : Store), aCons f g env st = some (ds, st') → ds.length = n + 1 := fun env st ds st' hh => by
  obtain ⟨x, s1, ys, s2, h1, h2, e⟩ := aCons_some hh
  cases e
  rw [List.length_cons, h _ _ _ _ h2]

/-! ### the law's end -/
theorem law_end {P : Program} {w : World} {mg mb : Str → Option Value} {k : Nat} {fa a : Addr} {fd : FuncData} {x : Str} {m : FM} {s1 : Shared} {vs : List Value} {ns : List Int}
    (KX : K.In s1.heap) (hns : s1.heap.Ns mainGlobals mg) (hb : s1.heap.Ns builtinsNs mb) (hbb : ∀ x : Str, x ≠ "__name__" → mb x = bootBuiltins x) (hlim : s1.heap.NoLimit) (hg : s1.gens = #[])
    (ha : s1.heap.get? a = some { cls := .type "list", data := .seq vs.toArray }) (hi : IntsAre vs ns) (hl : ns.length ≤ sizeLine) (hr : Room k callerA)
    (Fd : ∀ base : Heap, K.In base → base.Ns mainGlobals mg → FnD P w K mg base k fa fd [x] m) (hbind : ∀ (s : Shared) (u : Value), BindsTo s fd ⟨[u], []⟩ [(x, u)])
    (hm : ∃ st', m [.scr ns] [] = some (.bl true, st')) :
    codeAny (model P w) callerA (.call (.ref fa) ⟨[.ref a], []⟩) (fun r s' => r = .ok (.ret (.bool true)) ∧ OldK s1.heap s'.heap ∧ s'.os = s1.os ∧ AllBare s'.gens) s1 := by
  obtain ⟨st', hm⟩ := hm
  have rv := vals_ints hi
  have lenV := hi.length
  let ob : Obj := { cls := .type "list", data := .seq vs.toArray }
  let emp : Rf := ⟨[], fun _ => False, fun _ => False⟩
  -- what is tracked: nothing, or the script alone
  have go : ∀ H : Hp, (∀ b u, H b = some u → b = a ∧ u = .frz ob (.lst (ns.map V.int))) → (H a ≠ none → K.lookup a = none) → Rep K emp H (.ref a) (.scr ns) →
      codeAny (model P w) callerA (.call (.ref fa) ⟨[.ref a], []⟩) (fun r s' => r = .ok (.ret (.bool true)) ∧ OldK s1.heap s'.heap ∧ s'.os = s1.os ∧ AllBare s'.gens) s1 := by
    intro H hH hK hrep
    have hok : HOk P w H s1.heap := fun b u e => by
      obtain ⟨rfl, rfl⟩ := hH b u e
      exact ⟨ha, by rw [List.length_map]; exact hl, vs, _, rv, ha⟩
    have keepNs : ∀ {b : Addr} {m : Str → Option Value}, s1.heap.Ns b m → (hidT s1.heap H).Ns b m := fun {b m} ⟨o, es, ep, e, d, r⟩ => by
      refine ⟨o, es, ep, hidT_get e ?_, d, r⟩
      cases q : H b with
      | none => rfl
      | some u =>
        obtain ⟨rfl, _⟩ := hH b u q
        rw [ha] at e
        cases e
        cases (show Data.seq vs.toArray _ = Data.dict es ep from d)
    have KB : K.In (hidT s1.heap H) := fun b o e => hidT_get (KX b o e) (by
      cases q : H b with
      | none => rfl
      | some u =>
        obtain ⟨rfl, _⟩ := hH b u q
        rw [hK (by rw [q]; simp)] at e
        cases e)
    have e0 : Env0 P w K mg (hidT s1.heap H) callerA [] s1 H :=
      ⟨rfl, ⟨KB, keepNs hns, ⟨mb, keepNs hb, hbb⟩, let ⟨mc, h1, h2⟩ := hlim; ⟨mc, keepNs h1, h2⟩⟩, fun b o e => of_hidT e, Nat.le_of_eq (hidT_size _ _), trivial, fun b hb => absurd (show b ∈ ([] : List Addr) from hb) (by simp), hok, .of_eq hg⟩
    have sim : Sim K emp H [] := ⟨rfl, List.nodup_nil, fun n a o h => by simp [emp] at h, fun p h => h.elim, fun p h => (by cases h), fun p h => h.elim⟩
    refine codeAny_mono ((Fd _ KB (keepNs hns)).run callerA [] s1 H ⟨[.ref a], []⟩ [.ref a] [.ref a] (fun v _ => v = .bl true) emp [.scr ns] [] st' (.bl true) rfl hr e0 (hbind s1 (.ref a)) (.cons rfl .nil) rfl (.cons hrep .nil) sim hm (fun v _ _ _ _ h => by cases h; rfl)) fun r s' h => ?_
    cases r with
    | error e => exact False.elim h
    | ok fl =>
      cases fl with
      | next => exact False.elim h
      | brk => exact False.elim h
      | cont => exact False.elim h
      | ret u =>
        obtain ⟨v, H', os, bare, un, hok', r', q⟩ := h
        subst q
        obtain rfl : u = Value.bool true := r'
        refine ⟨rfl, OldK.of_keep fun b o e => ?_, os, bare⟩
        cases q : H b with
        | none => exact un.keep b o e q (fun z => absurd (show b ∈ ([] : List Addr) from z) (by simp)) (by simp)
        | some u =>
          obtain ⟨rfl, rfl⟩ := hH b u q
          obtain ⟨e2, _⟩ := hok' b _ (un.frzs b _ _ q)
          rw [ha] at e
          cases e
          exact e2
  cases hk : K.lookup a with
  | some o =>
    have e := KX a o hk
    rw [ha] at e
    cases e
    exact go (fun _ => none) (fun _ _ h => by cases h) (fun h => absurd rfl h) (.scrK hk rfl rfl rfl (by rw [List.size_toArray, lenV]; exact hl) (by simpa using rv))
  | none =>
    refine go (fun b => if b = a then some (.frz ob (.lst (ns.map V.int))) else none) (fun b u h => ?_) (fun _ => hk) (.scr (if_pos rfl) fun h => h)
    by_cases z : b = a
    · have := (if_pos z).symm.trans h
      cases this
      exact ⟨z, rfl⟩
    · have := (if_neg z).symm.trans h
      cases this
/-- the goal that k_head leaves -/
theorem walkD {l : PySem.W.OpenLaw} {n k : Nat} {q : Program} {loose : List Str} {XP : (Str → Option Value) → Heap → Prop} {YP : World → Heap → Prop} {d : DefRec} {KK : Params → PySem.W.Frag} {x : Str} {m : FM}
    (hn : l.most = some n) (hn2 : n ≤ sizeLine) (hdf : d.params.defaults = []) (hr : Room k callerA) (hY : ∀ (w : World) (h : Heap), YP w h → (KK w.params).In h)
    (Fd : ∀ (w : World) (mg : Str → Option Value) (fa : Addr) (h : Heap), (KK w.params).In h → h.Ns mainGlobals mg → mg d.name = some (.ref fa) →
      ∃ fd : FuncData, (∀ (s : Shared) (u : Value), BindsTo s fd ⟨[u], []⟩ [(x, u)]) ∧ ∀ base : Heap, (KK w.params).In base → base.Ns mainGlobals mg → FnD l.prog w (KK w.params) mg base k fa fd [x] m)
    (hm : ∀ ns : List Int, ns.length ≤ n → (∀ z ∈ ns, Builtin.Int.intBits z ≤ 1048576) → ∃ st', m [.scr ns] [] = some (.bl true, st')) :
    PySem.W.WalkO q loose XP YP l.row.toRowW d [] (fun f vs => PySem.call f vs) := by
  refine Att.attach_callB hn hdf fun w s0 s1 mg mb fa o pm cd doc a vs ns G Y ho hd hcd hmg hobj hints hlen hbits hg => ?_
  obtain ⟨fd, hb, hF⟩ := Fd w mg fa _ (hY w _ Y) G.T.g hmg
  exact law_end (hY w _ Y) G.T.g G.T.b G.T.builtins G.T.nolimit hg hobj hints (Nat.le_trans hlen hn2) hr hF hb (hm ns hlen hbits)
end DL
namespace DL
open PySem PySem.Spec PyProof.Rows L2
variable {K : PySem.W.Frag}
/-! ### built-ins -/
section
variable {X : Cx} {W : WXd}
theorem CallOk.or {f : Value} {g g' : List D → Store → Option D} (h : CallOk X f g) (h' : CallOk X f g') : CallOk X f (fun ds st => (g ds st).or (g' ds st)) := by
  obtain ⟨r, hr, k⟩ := h
  obtain ⟨r', hr', k'⟩ := h'
  refine ⟨_, hr.or hr', fun rho H xs ds d st Q rl si e q => ?_⟩
  cases z : g ds st with
  | some c =>
    simp only [z, Option.some_or] at e
    cases e
    exact .inl (k rho H xs ds _ st Q rl si z q)
  | none =>
    simp only [z, Option.none_or] at e
    exact .inr (k' rho H xs ds d st Q rl si e q)
/-- len -/
def lenL : List D → Store → Option D := fun ds st => match ds with
  | [.str x] => if x.length ≤ sizeLine then some (.int x.length) else none
  | [.lst xs] => some (.int xs.length)
  | [.tup xs] => some (.int xs.length)
  | [.scr ns] => some (.int ns.length)
  | [.ref n] => (match st[n]? with | some (.lst xs) => some (.int xs.length) | _ => none)
  | _ => none
theorem lst1 {r : Rf} {H : Hp} {vs : List V} {d : D} (l : RepL K r H vs [d]) : ∃ v, vs = [v] ∧ Rep K r H v d := by
  cases l with
  | cons a b => cases b; exact ⟨_, rfl, a⟩
theorem lst2 {r : Rf} {H : Hp} {vs : List V} {d e : D} (l : RepL K r H vs [d, e]) : ∃ v u, vs = [v, u] ∧ Rep K r H v d ∧ Rep K r H u e := by
  cases l with
  | cons a b =>
    obtain ⟨u, rfl, c⟩ := lst1 b
    exact ⟨_, u, rfl, a, c⟩
theorem ok_lenL : CallOk X (.builtin "len") lenL := ⟨_, call_len, fun rho H xs ds d st Q rl si e q => by
  unfold lenL at e
  split at e
  · obtain ⟨v, rfl, p⟩ := lst1 rl
    cases p
    split at e
    · rename_i hl
      cases e
      exact ⟨_, _, rfl, ⟨hl, rfl⟩, q _ H (fun _ _ h => h) (.int _)⟩
    · cases e
  · obtain ⟨v, rfl, p⟩ := lst1 rl
    cases e
    cases p with
    | lst a b c => exact ⟨_, _, rfl, .inl ⟨_, .of a, rfl⟩, by rw [c.len]; exact q _ H (fun _ _ h => h) (.int _)⟩
  · obtain ⟨v, rfl, p⟩ := lst1 rl
    cases e
    obtain ⟨a, us, rfl, s, l⟩ := p.sqT
    exact ⟨_, _, rfl, .inr ⟨_, s, rfl⟩, by rw [l.len]; exact q _ H (fun _ _ h => h) (.int _)⟩
  · rename_i ns
    obtain ⟨v, rfl, p⟩ := lst1 rl
    cases e
    obtain ⟨a, rfl, s⟩ := p.scrL
    exact ⟨_, _, rfl, .inl ⟨_, s, rfl⟩, by rw [List.length_map]; exact q _ H (fun _ _ h => h) (.int _)⟩
  · obtain ⟨v, rfl, p⟩ := lst1 rl
    obtain ⟨a, rfl, hp⟩ := p.refI
    split at e
    · rename_i xs hst
      cases e
      obtain ⟨av, us, hx, l⟩ := si.ob _ a _ hp hst
      exact ⟨_, _, rfl, .inl ⟨_, .of hx, rfl⟩, by rw [l.len]; exact q _ H (fun _ _ h => h) (.int _)⟩
    · cases e
  · cases e⟩
theorem call_lenK : CallR X (.builtin "len") (fun xs H Q => ∃ p kvs, xs = [.ref p] ∧ Rd H p (.dK kvs) ∧ Q (.int kvs.length) H) := by
  intro pins s σ H xs us Q I r h
  obtain ⟨p, kvs, rfl, hp, q⟩ := h
  obtain ⟨u, rfl, rx⟩ := vals1 r
  cases rx
  exact d_len I hp fun t s' I' => ⟨.int kvs.length, H, I', ⟨t, rfl⟩, q⟩
def lenK : List D → Store → Option D := fun ds st => match ds with
  | [.dct kvs] => some (.int kvs.length)
  | [.ref n] => (match st[n]? with | some (.dct kvs) => some (.int kvs.length) | some (.ldc kvs) => some (.int kvs.length) | _ => none)
  | _ => none
theorem ok_lenK : CallOk X (.builtin "len") lenK := ⟨_, call_lenK, fun rho H xs ds d st Q rl si e q => by
  unfold lenK at e
  split at e
  · obtain ⟨v, rfl, p⟩ := lst1 rl
    cases e
    cases p with
    | dct a b c => exact ⟨_, _, rfl, .inr ⟨_, a⟩, by rw [c.len]; exact q _ H (fun _ _ h => h) (.int _)⟩
  · obtain ⟨v, rfl, p⟩ := lst1 rl
    obtain ⟨a, rfl, hp⟩ := p.refI
    split at e
    · rename_i xs hst
      cases e
      obtain ⟨av, us, hx, l⟩ := si.ob _ a _ hp hst
      exact ⟨_, _, rfl, .inl hx, by rw [l.len]; exact q _ H (fun _ _ h => h) (.int _)⟩
    · rename_i xs hst
      cases e
      obtain ⟨av, lk, o, us, hx, l⟩ := si.ob _ a _ hp hst
      exact ⟨_, _, rfl, .inr ⟨_, hx⟩, by rw [l.len]; exact q _ H (fun _ _ h => h) (.int _)⟩
    · cases e
  · cases e⟩
def bLen : List D → Store → Option D := fun ds st => (lenL ds st).or (lenK ds st)
theorem ok_len : CallOk X (.builtin "len") bLen := ok_lenL.or ok_lenK
/-- list(x) -/
def listSeq : List D → Store → Option D := fun ds st => match ds with
  | [.lst xs] => some (.lst xs)
  | [.tup xs] => some (.lst xs)
  | [.scr ns] => some (.lst (ns.map .int))
  | [.ref n] => (match st[n]? with | some (.lst xs) => some (.lst xs) | _ => none)
  | _ => none
theorem fresh_lst {r : Rf} {H : Hp} {st : Store} {p : Addr} {vs : List V} {ds : List D} (si : Sim K r H st) (hp : H p = none) (l : RepL K r H vs ds) : Rep K r (upd H p (.lst vs)) (.ref p) (.lst ds) := .lst upd_same (si.free hp) (l.ex (Ex.same r (same_alloc hp)))
theorem fresh_tup {r : Rf} {H : Hp} {st : Store} {p : Addr} {o : Obj} {vs : List V} {ds : List D} (si : Sim K r H st) (hp : H p = none) (hz : o.dict = none) (l : RepL K r H vs ds) : Rep K r (upd H p (.frz o (.tup vs))) (.ref p) (.tup ds) := .tup upd_same hz (si.free hp) (l.ex (Ex.same r (same_alloc hp)))
theorem ok_listSeq : CallOk X (.type "list") listSeq := ⟨_, call_list_of, fun rho H xs ds d st Q rl si e q => by
  unfold listSeq at e
  split at e
  · obtain ⟨v, rfl, p⟩ := lst1 rl
    cases e
    cases p with
    | lst a b c => exact ⟨_, _, rfl, .inl (.of a), fun l hl => q _ _ (same_alloc hl) (fresh_lst si hl c)⟩
  · obtain ⟨v, rfl, p⟩ := lst1 rl
    cases e
    obtain ⟨a, us, rfl, s, l⟩ := p.sqT
    exact ⟨_, _, rfl, .inr s, fun p hl => q _ _ (same_alloc hl) (fresh_lst si hl l)⟩
  · obtain ⟨v, rfl, p⟩ := lst1 rl
    cases e
    obtain ⟨a, rfl, s⟩ := p.scrL
    exact ⟨_, _, rfl, .inl s, fun p hl => q _ _ (same_alloc hl) (fresh_lst si hl (RepL.ofInts _))⟩
  · obtain ⟨v, rfl, p⟩ := lst1 rl
    obtain ⟨a, rfl, hp⟩ := p.refI
    split at e
    · rename_i xs hst
      cases e
      obtain ⟨av, us, hx, l⟩ := si.ob _ a _ hp hst
      exact ⟨_, _, rfl, .inl (.of hx), fun p hl => q _ _ (same_alloc hl) (fresh_lst si hl l)⟩
    · cases e
  · cases e⟩
theorem call_list_txt (hc : X.calm = true) : CallR X (.type "list") (fun xs H Q => ∃ x, xs = [.str x] ∧ x.length ≤ sizeLine ∧ ∀ p, H p = none → Q (.ref p) (upd H p (.lst (x.cps.toList.map fun c => V.str ⟨#[c]⟩)))) := by
  intro pins s σ H xs us Q I r h
  obtain ⟨x, rfl, hz, q⟩ := h
  obtain ⟨u, rfl, t, rfl⟩ := vals1 r
  refine call_list_str (I.ok.hd hc) x t (fun h' tk acc c' hk hS hacc => ?_) hz
  refine ⟨.ref s.heap.objs.size, _, I.laid (t' := tk) hk (Nat.le_refl _) ?_, rfl, q _ (I.hok.fresh (Nat.le_refl _))⟩
  refine ⟨by rw [List.length_map, Array.length_toList]; exact hz, acc.toList, c', ?_, by simpa using hS⟩
  refine vals_of_at ?_ fun j v w hv hw => ?_
  · rw [List.length_map, Array.length_toList, Array.length_toList, hacc.1]
  · obtain ⟨c, t2, h1, h2⟩ := hacc.2 j w (by simpa using hw)
    rw [List.getElem?_map] at hv
    have : x.cps.toList[j]? = some c := by simpa using h1
    rw [this] at hv
    cases hv
    exact ⟨t2, h2⟩
def listTxt : List D → Store → Option D := fun ds _ => match ds with
  | [.str x] => if x.length ≤ sizeLine then some (.lst (x.cps.toList.map fun c => .str ⟨#[c]⟩)) else none
  | _ => none
theorem RepL.signs {r : Rf} {H : Hp} : ∀ l : List Nat, RepL K r H (l.map fun c => V.str ⟨#[c]⟩) (l.map fun c => D.str ⟨#[c]⟩)
  | [] => .nil
  | c :: l => .cons (.str _) (RepL.signs l)
theorem ok_listTxt {k : Nat} (g : GX X k) : CallOk X (.type "list") listTxt := ⟨_, call_list_txt g.calm, fun rho H xs ds d st Q rl si e q => by
  unfold listTxt at e
  split at e
  · obtain ⟨v, rfl, p⟩ := lst1 rl
    cases p
    split at e
    · rename_i hl
      cases e
      exact ⟨_, rfl, hl, fun p hp => q _ _ (same_alloc hp) (fresh_lst si hp (RepL.signs _))⟩
    · cases e
  · cases e⟩
def bList : List D → Store → Option D := fun ds st => (listSeq ds st).or (listTxt ds st)
theorem ok_list {k : Nat} (g : GX X k) : CallOk X (.type "list") bList := ok_listSeq.or (ok_listTxt g)
/-- tuple(x) -/
def bTuple : List D → Store → Option D := fun ds st => match ds with
  | [.lst xs] => some (.tup xs)
  | [.tup xs] => some (.tup xs)
  | [.ref n] => (match st[n]? with | some (.lst xs) => some (.tup xs) | _ => none)
  | _ => none
theorem ok_tuple : CallOk X (.type "tuple") bTuple := ⟨_, call_tupF, fun rho H xs ds d st Q rl si e q => by
  unfold bTuple at e
  split at e
  · obtain ⟨v, rfl, p⟩ := lst1 rl
    cases e
    cases p with
    | lst a b c => exact ⟨_, _, rfl, .inl ⟨.of a, fun l o hl hz => q _ _ (same_alloc hl) (fresh_tup si hl hz c)⟩⟩
  · obtain ⟨v, rfl, p⟩ := lst1 rl
    cases e
    obtain ⟨a, us, rfl, s, l⟩ := p.sqT
    exact ⟨_, _, rfl, .inr ⟨s, q _ H (fun _ _ h => h) p⟩⟩
  · obtain ⟨v, rfl, p⟩ := lst1 rl
    obtain ⟨a, rfl, hp⟩ := p.refI
    split at e
    · rename_i xs hst
      cases e
      obtain ⟨av, us, hx, l⟩ := si.ob _ a _ hp hst
      exact ⟨_, _, rfl, .inl ⟨.of hx, fun p o hl hz => q _ _ (same_alloc hl) (fresh_tup si hl hz l)⟩⟩
    · cases e
  · cases e⟩
/-- int(x) of an int, a bool -/
def bInt : List D → Store → Option D := fun ds _ => match ds with
  | [.int i] => some (.int i)
  | [.bl b] => some (.int (if b then 1 else 0))
  | _ => none
theorem ok_intT : CallOk X (.type "int") bInt := ⟨_, call_int1, fun rho H xs ds d st Q rl si e q => by
  unfold bInt at e
  split at e
  · obtain ⟨v, rfl, p⟩ := lst1 rl
    cases p
    cases e
    exact .inl ⟨_, rfl, q _ H (fun _ _ h => h) (.int _)⟩
  · obtain ⟨v, rfl, p⟩ := lst1 rl
    cases p
    cases e
    exact .inr ⟨_, rfl, q _ H (fun _ _ h => h) (.int _)⟩
  · cases e⟩
def bMax : List D → Store → Option D := fun ds _ => match ds with | [.int i, .int j] => some (.int (if j > i then j else i)) | _ => none
def bMin : List D → Store → Option D := fun ds _ => match ds with | [.int i, .int j] => some (.int (if j < i then j else i)) | _ => none
theorem ok_max {k : Nat} (g : GX X k) : CallOk X (.builtin "max") bMax := ⟨_, call_max2 g.calm, fun rho H xs ds d st Q rl si e q => by
  unfold bMax at e
  split at e
  · obtain ⟨v, u, rfl, p1, p2⟩ := lst2 rl
    cases p1
    cases p2
    cases e
    exact ⟨_, _, rfl, q _ H (fun _ _ h => h) (.int _)⟩
  · cases e⟩
theorem ok_min {k : Nat} (g : GX X k) : CallOk X (.builtin "min") bMin := ⟨_, call_min2 g.calm, fun rho H xs ds d st Q rl si e q => by
  unfold bMin at e
  split at e
  · obtain ⟨v, u, rfl, p1, p2⟩ := lst2 rl
    cases p1
    cases p2
    cases e
    exact ⟨_, _, rfl, q _ H (fun _ _ h => h) (.int _)⟩
  · cases e⟩
/-- all, any of bools -/
def bools : List D → Option (List Bool)
  | [] => some []
  | .bl b :: ds => (bools ds).map (b :: ·)
  | _ :: _ => none
theorem RepL.bools {r : Rf} {H : Hp} : ∀ {ds : List D} {vs : List V} {bs : List Bool}, RepL K r H vs ds → DL.bools ds = some bs → vs = bs.map V.bl
  | [], _, _, .nil, h => by cases h; rfl
  | .bl b :: ds, _, _, .cons (.bl _) l, h => by
    obtain ⟨c, h1, h2⟩ := Option.map_eq_some_iff.mp (show (DL.bools ds).map (b :: ·) = _ from h)
    subst h2
    rw [List.map_cons, RepL.bools l h1]
  | .non :: _, _, _, _, h => by cases h
  | .int _ :: _, _, _, _, h => by cases h
  | .str _ :: _, _, _, _, h => by cases h
  | .tup _ :: _, _, _, _, h => by cases h
  | .lst _ :: _, _, _, _, h => by cases h
  | .dct _ :: _, _, _, _, h => by cases h
  | .scr _ :: _, _, _, _, h => by cases h
  | .ref _ :: _, _, _, _, h => by cases h
def bAll : List D → Store → Option D := fun ds _ => match ds with | [.lst xs] => (bools xs).map fun bs => .bl (bs.all id) | _ => none
def bAny : List D → Store → Option D := fun ds _ => match ds with | [.lst xs] => (bools xs).map fun bs => .bl (bs.any id) | _ => none
theorem ok_all {k : Nat} (g : GX X k) : CallOk X (.builtin "all") bAll := ⟨_, cr_all g.calm, fun rho H xs ds d st Q rl si e q => by
  unfold bAll at e
  split at e
  · obtain ⟨v, rfl, p⟩ := lst1 rl
    obtain ⟨bs, h1, h2⟩ := Option.map_eq_some_iff.mp e
    subst h2
    cases p with
    | lst a b c =>
      have := c.bools h1
      subst this
      exact ⟨_, bs, rfl, .of a, q _ H (fun _ _ h => h) (.bl _)⟩
  · cases e⟩
theorem ok_any {k : Nat} (g : GX X k) : CallOk X (.builtin "any") bAny := ⟨_, cr_any g.calm, fun rho H xs ds d st Q rl si e q => by
  unfold bAny at e
  split at e
  · obtain ⟨v, rfl, p⟩ := lst1 rl
    obtain ⟨bs, h1, h2⟩ := Option.map_eq_some_iff.mp e
    subst h2
    cases p with
    | lst a b c =>
      have := c.bools h1
      subst this
      exact ⟨_, bs, rfl, .of a, q _ H (fun _ _ h => h) (.bl _)⟩
  · cases e⟩
/-- sep.join(texts) -/
def strsD : List D → Option (List Str)
  | [] => some []
  | .str x :: ds => (strsD ds).map (x :: ·)
  | _ :: _ => none
theorem RepL.strs' {r : Rf} {H : Hp} : ∀ {ds : List D} {vs : List V} {ys : List Str}, RepL K r H vs ds → strsD ds = some ys → vs = ys.map V.str
  | [], _, _, .nil, h => by cases h; rfl
  | .str b :: ds, _, _, .cons (.str _) l, h => by
    obtain ⟨c, h1, h2⟩ := Option.map_eq_some_iff.mp (show (strsD ds).map (b :: ·) = _ from h)
    subst h2
    rw [List.map_cons, RepL.strs' l h1]
  | .non :: _, _, _, _, h => by cases h
  | .int _ :: _, _, _, _, h => by cases h
  | .bl _ :: _, _, _, _, h => by cases h
  | .tup _ :: _, _, _, _, h => by cases h
  | .lst _ :: _, _, _, _, h => by cases h
  | .dct _ :: _, _, _, _, h => by cases h
  | .scr _ :: _, _, _, _, h => by cases h
  | .ref _ :: _, _, _, _, h => by cases h
/-- a method of a built-in type: the receiver, the arguments -/
def MtOk (X : Cx) (T id : String) (g : D → List D → Option D) : Prop :=
  ∃ r, MtR X id r ∧ ∀ (rho : Rf) (H : Hp) (x : V) (a : D) (Q : VK) , Rep X.K rho H x a → (∃ ds d, g a ds = some d) → tyV X.K T x H
def fMt (g : D → List D → Option D) (fo : F) (fa : FA) : F := fun env st => (fo env st).bind fun p => (fa env p.2).bind fun q => (g p.1 q.1).map fun d => (d, q.2)
/-- one argument; the receiver keeps its type -/
theorem de_mt {T id : String} {name : Str} {g : D → List D → Option D} {r : V → List V → Hp → VK → Prop} {o e : Expr} {es : List Expr} {fo : F} {fa : FA} {apos cpos : Pos}
    (hm : MtR X id r) (ty : ∀ (rho : Rf) (H : Hp) (x : V) (a : D) ds d, Rep X.K rho H x a → g a ds = some d → tyV X.K T x H)
    (ok : ∀ (rho : Rf) (H : Hp) (x : V) (xs : List V) (a : D) (ds : List D) (d : D) (st : Store) (Q : VK), Rep X.K rho H x a → RepL X.K rho H xs ds → Sim X.K rho H st → g a ds = some d → (∀ v H', Same H H' → Rep X.K rho H' v d → Q v H') → r x xs H Q)
    (pa : PlainAttrs T) (slot : Slot T name id) (hty : typeOf (.builtin id) = pure (.type "method_descriptor")) (ho : DE X o fo) (ha : DA X (e :: es) fa)
    (hbase : attributeBase o name X.env (eval o X.env) = eval o X.env := by rfl)
    (hfew : ((backTo cpos (starEach (e :: es) X.env)).all (fun x => !x.1) && (backToKw cpos (keywordEach [] X.env)).all (fun x => x.1.isSome)
      && decide ((e :: es).length + ([] : List Keyword).length + (if ([] : List Keyword).isEmpty then 0 else 1) < 30)) = true := by rfl)
    (hline : (apos.endLine == cpos.line) = true := by rfl) (hs : starEach (e :: es) X.env = (false, eval e X.env) :: starEach es X.env := by rfl) (hplain : (backTo cpos (starEach es X.env)).any (·.1) = false := by rfl) :
    DE X (.Call (.Attribute o name apos) (e :: es) [] cpos) (fMt g fo fa) :=
  weakE (pe_bm pa slot hty hm ho ha hbase hfew hline hs hplain) fun σ H Q hh => by
  obtain ⟨r', env, st, d, st', he, hs, hf, q⟩ := hh
  obtain ⟨⟨x, s1⟩, h1, hf1⟩ := Option.bind_eq_some_iff.mp hf
  obtain ⟨⟨ys, s2⟩, h2, hf2⟩ := Option.bind_eq_some_iff.mp hf1
  obtain ⟨d', h3, hf3⟩ := Option.map_eq_some_iff.mp hf2
  cases hf3
  exact ⟨r', env, st, x, s1, he, hs, h1, fun u r1 H1 e1 q1 p1 => ⟨ty r1 H1 u x ys d p1 h3, r1, env, s1, ys, _, he.ext e1, q1, h2, fun us r2 H2 e2 q2 l2 =>
    ok r2 H2 u us x ys d _ Q (p1.ext e2) l2 q2 h3 fun w H3 sm pw => q w r2 H3 ((e1.trans e2).trans (q2.ext sm)) (q2.same sm) pw⟩⟩
def joinD : D → List D → Option D := fun a ds => match a, ds with
  | .str x, [.lst xs] => (strsD xs).bind fun ys => if (ys.map (·.length)).sum + ys.length * x.length ≤ 16777216 then some (.str (Txt.join x ys)) else none
  | _, _ => none
theorem strTy {g : D → List D → Option D} (h : ∀ a ds d, g a ds = some d → ∃ x, a = .str x) : ∀ (rho : Rf) (H : Hp) (x : V) (a : D) ds d, Rep X.K rho H x a → g a ds = some d → tyV X.K "str" x H := fun rho H x a ds d ra e => by
  obtain ⟨z, rfl⟩ := h a ds d e
  cases ra
  exact rfl
theorem joinOk : ∀ (rho : Rf) (H : Hp) (x : V) (xs : List V) (a : D) (ds : List D) (d : D) (st : Store) (Q : VK), Rep X.K rho H x a → RepL X.K rho H xs ds → Sim X.K rho H st → joinD a ds = some d → (∀ v H', Same H H' → Rep X.K rho H' v d → Q v H') →
    ∃ a p, ∃ ys : List Str, x = .str a ∧ xs = [.ref p] ∧ (SqL X.K H p (ys.map V.str) ∨ SqT X.K H p (ys.map V.str)) ∧ (ys.map (·.length)).sum + ys.length * a.length ≤ 16777216 ∧ Q (.str (Txt.join a ys)) H := by
  intro rho H x xs a ds d st Q ra rl si e q
  unfold joinD at e
  split at e
  · rename_i z zs
    obtain ⟨ys, h1, h2⟩ := Option.bind_eq_some_iff.mp e
    split at h2
    · rename_i hl
      cases h2
      cases ra
      obtain ⟨v, rfl, p⟩ := lst1 rl
      cases p with
      | lst g1 g2 g3 =>
        have := g3.strs' h1
        subst this
        exact ⟨z, _, ys, rfl, rfl, .inl (.of g1), hl, q _ H (fun _ _ h => h) (.str _)⟩
    · cases h2
  · cases e
theorem joinTy : ∀ (rho : Rf) (H : Hp) (x : V) (a : D) ds d, Rep X.K rho H x a → joinD a ds = some d → tyV X.K "str" x H := strTy fun a ds d e => by
  unfold joinD at e
  split at e
  · exact ⟨_, rfl⟩
  · cases e
def startsD : D → List D → Option D := fun a ds => match a, ds with
  | .str x, [.str y] => some (.bl (Txt.startswith x y))
  | _, _ => none
theorem startsOk : ∀ (rho : Rf) (H : Hp) (x : V) (xs : List V) (a : D) (ds : List D) (d : D) (st : Store) (Q : VK), Rep X.K rho H x a → RepL X.K rho H xs ds → Sim X.K rho H st → startsD a ds = some d → (∀ v H', Same H H' → Rep X.K rho H' v d → Q v H') →
    ∃ a b, x = .str a ∧ xs = [.str b] ∧ Q (.bl (Txt.startswith a b)) H := by
  intro rho H x xs a ds d st Q ra rl si e q
  unfold startsD at e
  split at e
  · cases ra
    obtain ⟨v, rfl, p⟩ := lst1 rl
    cases p
    cases e
    exact ⟨_, _, rfl, rfl, q _ H (fun _ _ h => h) (.bl _)⟩
  · cases e
theorem startsTy : ∀ (rho : Rf) (H : Hp) (x : V) (a : D) ds d, Rep X.K rho H x a → startsD a ds = some d → tyV X.K "str" x H := strTy fun a ds d e => by
  unfold startsD at e
  split at e
  · exact ⟨_, rfl⟩
  · cases e

/-! ### one value -/
def fUn (g : D → Option D) (fa : F) : F := fun env st => (fa env st).bind fun p => (g p.1).map fun d => (d, p.2)
def negI : D → Option D | .int i => some (.int (-i)) | _ => none
theorem de_neg {a : Expr} {fa : F} {pos : Pos} (ha : DE X a fa) : DE X (.UnaryOp .USub a pos) (fUn negI fa) := weakE (pe_un un_neg ha) fun σ H Q hh => by
  obtain ⟨r', env, st, d, st', he, hs, hf, q⟩ := hh
  obtain ⟨⟨x, s1⟩, h1, hf1⟩ := Option.bind_eq_some_iff.mp hf
  obtain ⟨d', h2, hf2⟩ := Option.map_eq_some_iff.mp hf1
  cases hf2
  refine ⟨r', env, st, x, _, he, hs, h1, fun u r1 H1 e1 q1 p1 => ?_⟩
  cases x with
  | int i =>
    cases h2
    cases p1
    exact ⟨i, rfl, q _ r1 H1 e1 q1 (.int _)⟩
  | _ => cases h2
/-- isinstance(x, T), T a built-in type -/
def tyOb : Option Ob → Option String | some (.lst _) => some "list" | some (.dct _) => some "dict" | some (.ldc _) => some "dict" | _ => none
def tyD : D → Store → Option String := fun d st => match d with
  | .non => some "NoneType" | .bl _ => some "bool" | .int _ => some "int" | .str _ => some "str" | .tup _ => some "tuple" | .lst _ => some "list" | .dct _ => some "dict" | .scr _ => some "list"
  | .ref n => tyOb st[n]?
def isiB (a T : String) : Bool := a == T || (a == "bool" && T == "int")
def fIsi (T : String) (f : F) : F := fun env st => (f env st).bind fun p => (tyD p.1 p.2).map fun a => (.bl (isiB a T), p.2)
theorem tyX_of {r : Rf} {H : Hp} {v : V} {d : D} {st : Store} {t : String} (h : Rep K r H v d) (si : Sim K r H st) (e : tyD d st = some t) : TyX K H v (.type t) := by
  cases d with
  | non => cases h; cases e; exact .base .non
  | bl b => cases h; cases e; exact .base (.bl b)
  | int b => cases h; cases e; exact .base (.int b)
  | str b => cases h; cases e; exact .base (.str b)
  | tup ds =>
    cases e
    cases h with
    | tup a z b c => exact .fTuple a
    | tupP a b c => exact .base (.tup a)
    | tupK a b z c d f l => exact .kTuple a b
  | lst ds =>
    cases e
    cases h with
    | lst a b c => exact .base (.lst a)
  | dct ds =>
    cases e
    cases h with
    | dct a b c => exact .fDict a
  | scr ns =>
    cases e
    cases h with
    | scr a b => exact .base (.frz a)
    | scrK a b c d e f => exact .kList a b
  | ref n =>
    obtain ⟨a, rfl, hp⟩ := h.refI
    have e' : tyOb st[n]? = some t := e
    unfold tyOb at e'
    split at e'
    · rename_i xs hst
      cases e'
      obtain ⟨av, us, hx, l⟩ := si.ob n a _ hp hst
      exact .base (.lst hx)
    · rename_i xs hst
      cases e'
      obtain ⟨av, us, hx, l⟩ := si.ob n a _ hp hst
      exact .base (.dK hx)
    · rename_i xs hst
      cases e'
      obtain ⟨av, lk, o, us, hx, l⟩ := si.ob n a _ hp hst
      exact .fDict hx
    · cases e'
def tyNames : List String := ["NoneType", "bool", "int", "str", "tuple", "list", "dict"]
theorem kit_all : ∀ a ∈ tyNames, ∀ T ∈ tyNames, kitB a T = some (isiB a T) := by decide +kernel
theorem tyD_mem {d : D} {st : Store} {t : String} (e : tyD d st = some t) : t ∈ tyNames := by
  cases d with
  | ref n =>
    have e' : tyOb st[n]? = some t := e
    unfold tyOb at e'
    split at e' <;> cases e' <;> decide
  | _ => cases e; decide
theorem de_isi {a : Expr} {fa : F} {T : String} {x : Str} {p p2 pos : Pos} (ha : DE X a fa) (hT : T ∈ tyNames) (hg : Gl X "isinstance") (hm : X.mg "isinstance" = none) (hg2 : Gl X x) (hm2 : X.mg x = none) (hv : bootBuiltins x = some (.type T)) (hn : x ≠ "__name__" := by decide) (hdb : (x == ("__debug__" : Str)) = false := by decide)
    (hs : starEach [a, .Name x p2] X.env = (false, eval a X.env) :: starEach [.Name x p2] X.env := by rfl) (hs2 : starEach [.Name x p2] X.env = [(false, eval (.Name x p2) X.env)] := by rfl) (hpl : (backTo pos (starEach [.Name x p2] X.env)).any (·.1) = false := by rfl) :
    DE X (.Call (.Name "isinstance" p) [a, .Name x p2] [] pos) (fIsi T fa) :=
  weakE (pe_callB call_isi hg hm PyProof.Rows.boot_isinstance (pa_cons ha (pa_cons (pe_bltn (v := .ty T) hg2 hm2 hv rfl hn hdb) pa_nil hs2) hs) (by decide) (by decide) hs hpl) fun σ H Q hh => by
  obtain ⟨r', env, st, d, st', he, hs, hf, q⟩ := hh
  obtain ⟨⟨y, s1⟩, h1, hf1⟩ := Option.bind_eq_some_iff.mp hf
  obtain ⟨t, h2, hf2⟩ := Option.map_eq_some_iff.mp hf1
  cases hf2
  refine ⟨r', env, st, y, _, he, hs, h1, fun u r1 H1 e1 q1 p1 => ?_⟩
  exact ⟨u, .ty T, .type t, .type T, isiB t T, rfl, .ty T, tyX_of p1 q1 h2, kit_ty (kit_all t (tyD_mem h2) T hT), q _ r1 H1 e1 q1 (.bl _)⟩

/-! ### in, not in: flat items -/
def eqF : D → D → Option Bool
  | .non, .non => some true | .non, .bl _ => some false | .non, .int _ => some false | .non, .str _ => some false
  | .bl _, .non => some false | .bl a, .bl b => some (a == b) | .bl a, .int b => some ((if a then 1 else 0) == b) | .bl _, .str _ => some false
  | .int _, .non => some false | .int a, .bl b => some (a == (if b then 1 else 0)) | .int a, .int b => some (a == b) | .int _, .str _ => some false
  | .str _, .non => some false | .str _, .bl _ => some false | .str _, .int _ => some false | .str a, .str b => some (a == b)
  | _, _ => none
/-- is x among the items -/
def anyF (x : D) : List D → Option Bool
  | [] => some false
  | y :: ys => (eqF y x).bind fun b => (anyF x ys).map fun c => b || c
def flatD : D → Bool | .non => true | .bl _ => true | .int _ => true | .str _ => true | _ => false
def inSeq (neg : Bool) : D → D → Option D := fun x y => match y with
  | .lst ds => if flatD x then (anyF x ds).map fun b => .bl (if neg then !b else b) else none
  | .tup ds => if flatD x then (anyF x ds).map fun b => .bl (if neg then !b else b) else none
  | _ => none
theorem eqF_rep {r : Rf} {H : Hp} {v u : V} {a b : D} {k : Bool} (ra : Rep K r H v a) (rb : Rep K r H u b) (e : eqF a b = some k) : eqV v u = k ∧ flatV v = true ∧ flatV u = true := by
  cases a <;> cases b <;> first
    | cases e; done
    | (cases ra; cases rb; cases e; exact ⟨rfl, rfl, rfl⟩)
theorem anyF_rep {r : Rf} {H : Hp} {x : V} {a : D} (ra : Rep K r H x a) : ∀ {ds : List D} {vs : List V} {k : Bool}, RepL K r H vs ds → anyF a ds = some k → inV x vs = k ∧ vs.all flatV = true
  | [], _, _, .nil, e => by cases e; exact ⟨rfl, rfl⟩
  | d :: ds, _, k, .cons p l, e => by
    obtain ⟨b, h1, h2⟩ := Option.bind_eq_some_iff.mp (show ((eqF d a).bind fun b => (anyF a ds).map fun c => b || c) = some k from e)
    obtain ⟨c, h3, h4⟩ := Option.map_eq_some_iff.mp h2
    obtain ⟨g1, g2⟩ := anyF_rep ra l h3
    obtain ⟨g3, g4, _⟩ := eqF_rep p ra h1
    refine ⟨?_, by rw [List.all_cons, g4, g2]; rfl⟩
    unfold inV at g1 ⊢
    rw [List.any_cons, g3, g1]; exact h4
theorem flat_rep {r : Rf} {H : Hp} {x : V} {a : D} (ra : Rep K r H x a) (h : flatD a = true) : flatV x = true := by
  cases a <;> first
    | cases h; done
    | (cases ra; rfl)
theorem inSeq_ok (neg : Bool) {rho : Rf} {H : Hp} {x y : V} {a b d : D} {Q : VK} (ra : Rep K rho H x a) (rb : Rep K rho H y b) (e : inSeq neg a b = some d) (q : ∀ v H', Same H H' → Rep K rho H' v d → Q v H') : rIn K neg x y H Q := by
  cases b with
  | lst ds =>
    have e' : (if flatD a then (anyF a ds).map fun b => D.bl (if neg then !b else b) else none) = some d := e
    by_cases fl : flatD a = true
    case neg => rw [if_neg fl] at e'; cases e'
    rw [if_pos fl] at e'
    obtain ⟨k, h1, h2⟩ := Option.map_eq_some_iff.mp e'
    subst h2
    cases rb with
    | lst g1 g2 g3 =>
      obtain ⟨z1, z2⟩ := anyF_rep ra g3 h1
      refine ⟨_, _, rfl, .inl (.of g1), flat_rep ra fl, z2, ?_⟩
      rw [z1]; exact q _ H (fun _ _ h => h) (.bl _)
  | tup ds =>
    have e' : (if flatD a then (anyF a ds).map fun b => D.bl (if neg then !b else b) else none) = some d := e
    by_cases fl : flatD a = true
    case neg => rw [if_neg fl] at e'; cases e'
    rw [if_pos fl] at e'
    obtain ⟨k, h1, h2⟩ := Option.map_eq_some_iff.mp e'
    subst h2
    obtain ⟨p, us, rfl, s, l⟩ := rb.sqT
    obtain ⟨z1, z2⟩ := anyF_rep ra l h1
    refine ⟨_, _, rfl, .inr s, flat_rep ra fl, z2, ?_⟩
    rw [z1]; exact q _ H (fun _ _ h => h) (.bl _)
  | _ => cases e
theorem ok_in : OpOk X (compareOp .In) (inSeq false) := ⟨_, op_in_seq, fun rho H x y a b d st Q si ra rb e q => inSeq_ok false ra rb e q⟩
theorem ok_notin : OpOk X (compareOp .NotIn) (inSeq true) := ⟨_, op_notIn_seq, fun rho H x y a b d st Q si ra rb e q => inSeq_ok true ra rb e q⟩
end
end DL
namespace DL
open PySem PySem.Spec PyProof.Rows L2
variable {K : PySem.W.Frag}
section
variable {X : Cx} {W : WXd}
theorem GX.blk {k : Nat} (g : GX X k) {s : Shared} {H : Hp} {sc : Scope} {ce : Env} {fp : List Addr} : GX (X.blk s H sc ce fp) k := ⟨g.calm, g.nd, g.room, g.gd⟩
/-- a, b = x, y -/
def par2 (i j : Nat) (ds : List D) (env : Lo) : Option Lo := match ds with | [x, y] => some ((env.set i (some x)).set j (some y)) | _ => none
def par3 (i j l : Nat) (ds : List D) (env : Lo) : Option Lo := match ds with | [x, y, z] => some (((env.set i (some x)).set j (some y)).set l (some z)) | _ => none
theorem par2_some {i j : Nat} {ds : List D} {env e : Lo} (h : par2 i j ds env = some e) : ∃ x y, ds = [x, y] ∧ e = (env.set i (some x)).set j (some y) := by
  unfold par2 at h
  split at h
  · cases h; exact ⟨_, _, rfl, rfl⟩
  · cases h
theorem par3_some {i j l : Nat} {ds : List D} {env e : Lo} (h : par3 i j l ds env = some e) : ∃ x y z, ds = [x, y, z] ∧ e = ((env.set i (some x)).set j (some y)).set l (some z) := by
  unfold par3 at h
  split at h
  · cases h; exact ⟨_, _, _, rfl, rfl⟩
  · cases h
def sPar (f : List D → Lo → Option Lo) (fa : FA) : FS := fun env st => (fa env st).bind fun p => (f p.1 env).map fun e => (.nx, e, p.2)
theorem ds_par2 (i j : Nat) {x y : Str} {a b : Expr} {fa : FA} {px py pt pos : Pos} {kt k2 : Nat} {pt2 : Pos} {k : Nat} (g : GX X k) (hi : X.N[i]? = some x) (hj : X.N[j]? = some y) (hij : i ≠ j)
    (hx : X.env.scope.names.lookup x = some .local) (hy : X.env.scope.names.lookup y = some .local) (ha : DA X [a, b] fa)
    (hw : swappedStores [.Tuple [.Name x px, .Name y py] kt pt] (.Tuple [a, b] k2 pt2) X.env = pure (some [x, y]) := by rfl)
    (hs : swapsWithSole [.Tuple [.Name x px, .Name y py] kt pt] (.Tuple [a, b] k2 pt2) pos.line X.env = pure false := by rfl) :
    DS X W (.Assign [.Tuple [.Name x px, .Name y py] kt pt] (.Tuple [a, b] k2 pt2) pos) (sPar (par2 i j) fa) := weakS (ps_par g.calm g.nd hi hj hij hx hy ha hw hs) fun D' σ H hh => by
  obtain ⟨r, env, st, o, env', st', he, hs, hf, q⟩ := hh
  obtain ⟨⟨ds, s1⟩, h1, h2⟩ := Option.bind_eq_some_iff.mp hf
  obtain ⟨e1, h3, h4⟩ := Option.map_eq_some_iff.mp h2
  cases h4
  obtain ⟨a, b, rfl, rfl⟩ := par2_some h3
  refine ⟨r, env, st, _, _, he, hs, h1, fun vs r1 H1 x1 q1 l1 => ?_⟩
  obtain ⟨v, u, rfl, p1, p2⟩ := lst2 l1
  exact ⟨v, u, rfl, q _ r1 H1 x1 (((he.ext x1).set p1 i).set p2 j) q1⟩
theorem lst3 {r : Rf} {H : Hp} {vs : List V} {d e f : D} (l : RepL K r H vs [d, e, f]) : ∃ v u w, vs = [v, u, w] ∧ Rep K r H v d ∧ Rep K r H u e ∧ Rep K r H w f := by
  cases l with
  | cons a b =>
    obtain ⟨u, w, rfl, c, d⟩ := lst2 b
    exact ⟨_, u, w, rfl, a, c, d⟩
theorem ds_par3 (i j l : Nat) {x y z : Str} {a b c : Expr} {fa : FA} {px py pz pt pos : Pos} {kt k2 : Nat} {pt2 : Pos} {k : Nat} (g : GX X k) (hi : X.N[i]? = some x) (hj : X.N[j]? = some y) (hl : X.N[l]? = some z) (hij : i ≠ j) (hil : i ≠ l) (hjl : j ≠ l)
    (hx : X.env.scope.names.lookup x = some .local) (hy : X.env.scope.names.lookup y = some .local) (hz : X.env.scope.names.lookup z = some .local) (ha : DA X [a, b, c] fa)
    (hw : swappedStores [.Tuple [.Name x px, .Name y py, .Name z pz] kt pt] (.Tuple [a, b, c] k2 pt2) X.env = pure (some [x, y, z]) := by rfl)
    (hs : swapsWithSole [.Tuple [.Name x px, .Name y py, .Name z pz] kt pt] (.Tuple [a, b, c] k2 pt2) pos.line X.env = pure false := by rfl) :
    DS X W (.Assign [.Tuple [.Name x px, .Name y py, .Name z pz] kt pt] (.Tuple [a, b, c] k2 pt2) pos) (sPar (par3 i j l) fa) := weakS (ps_par3 g.calm g.nd hi hj hl hij hil hjl hx hy hz ha hw hs) fun D' σ H hh => by
  obtain ⟨r, env, st, o, env', st', he, hs, hf, q⟩ := hh
  obtain ⟨⟨ds, s1⟩, h1, h2⟩ := Option.bind_eq_some_iff.mp hf
  obtain ⟨e1, h3, h4⟩ := Option.map_eq_some_iff.mp h2
  cases h4
  obtain ⟨a, b, c, rfl, rfl⟩ := par3_some h3
  refine ⟨r, env, st, _, _, he, hs, h1, fun vs r1 H1 x1 q1 l1 => ?_⟩
  obtain ⟨v, u, w, rfl, p1, p2, p3⟩ := lst3 l1
  exact ⟨v, u, w, rfl, q _ r1 H1 x1 ((((he.ext x1).set p1 i).set p2 j).set p3 l) q1⟩
theorem RepL.ofStrs {r : Rf} {H : Hp} : ∀ ys : List Str, RepL K r H (ys.map V.str) (ys.map D.str)
  | [] => .nil
  | y :: ys => .cons (.str y) (RepL.ofStrs ys)
/-- a constant of the module: a tuple of texts -/
theorem de_gtupS {x : Str} {a : Addr} {o : Obj} {its : Array Value} {n : Nat} {ys : List Str} {pos : Pos} (hg : Gl X x) (hm : X.mg x = some (.ref a)) (hl : X.K.lookup a = some o) (hc : o.cls = .type "tuple") (hx : o.dict = none) (hd : o.data = .seq its n) (hz : its.size ≤ sizeLine) (hv : Vals (ys.map V.str) its.toList)
    (hdb : (x == ("__debug__" : Str)) = false := by decide) : DE X (.Name x pos) (fC (.tup (ys.map .str))) :=
  de_c (pe_glob (v := .ref a) hg hm rfl hdb) fun r H => .tupK hl hc hx hd hz hv (RepL.ofStrs ys)
end
end DL
/-! The laws' tape of draws, once for all laws. -/
namespace DL
open PySem PySem.Spec PyProof.Rows L2
open Builtin.Int (intBits)
def gTape : FS := (sSeq (sAsg (fOp opAdd (fC (.int 97)) (fOp opMul (fVar 1) (fC (.int 31)))) (gN 2)) (sSeq (sFor (iOf asScr (fVar 0)) (gN 3) (sAsg (fOp opAdd (fOp modI (fOp powI (fOp opAdd (fOp opAdd (fOp opMul (fVar 2) (fC (.int 30011))) (fOp opMul (fVar 3) (fVar 3))) (fC (.int 7))) (fC (.int 2))) (fC (.int 2147483563))) (fC (.int 2))) (gN 2))) (sSeq (sAsg (fIfE (fAndT (fTest (fOp opLt (fVar 1) (fMk bLen (aCons (fVar 0) aNil)))) (fTest (fOp opGe (fSub (fVar 0) (fVar 1)) (fOp powI (fC (.int 10)) (fC (.int 18)))))) (fOp subI (fSub (fVar 0) (fVar 1)) (fOp powI (fC (.int 10)) (fC (.int 18)))) (fC (.int 0))) (gN 4)) (sRet (fDict (((fC (.str (Str.ofString "digits"))), (fVar 4)) :: (((fC (.str (Str.ofString "mixed"))), (fVar 2)) :: [])))))))
def gPick : FS := (sSeq (sIf (fTest (fOp opGe (fSub (fVar 0) (fC (.str (Str.ofString "digits")))) (fVar 1))) (sSeq (sAsg (fOp modI (fSub (fVar 0) (fC (.str (Str.ofString "digits")))) (fVar 1)) (gN 2)) (sSeq (sPut (fVar 0) (fC (.str (Str.ofString "digits"))) (fOp fdivI (fSub (fVar 0) (fC (.str (Str.ofString "digits")))) (fVar 1))) (sRet (fVar 2)))) sNil) (sSeq (sPut (fVar 0) (fC (.str (Str.ofString "mixed"))) (fOp modI (fOp opAdd (fOp opMul (fSub (fVar 0) (fC (.str (Str.ofString "mixed")))) (fC (.int 40014))) (fC (.int 1013))) (fC (.int 2147483563)))) (sRet (fOp modI (fOp fdivI (fOp modI (fOp powI (fOp modI (fOp powI (fSub (fVar 0) (fC (.str (Str.ofString "mixed")))) (fC (.int 2))) (fC (.int 2147483399))) (fC (.int 3))) (fC (.int 998244353))) (fC (.int 5))) (fVar 1)))))
def mTape : FM := mOf 5 gTape
def mPick : FM := mOf 3 gPick
def gOne : FS := (sRet (fSub (fVar 1) (fCall mPick (aCons (fVar 0) (aCons (fMk bLen (aCons (fVar 1) aNil)) aNil)))))
def mOne : FM := mOf 2 gOne
abbrev kD : Key := .inr (Str.ofString "digits")
abbrev kM : Key := .inr (Str.ofString "mixed")
theorem kDM : ¬ Str.ofString "digits" = Str.ofString "mixed" := by decide
theorem kMD : ¬ Str.ofString "mixed" = Str.ofString "digits" := by decide
/-- the tape's pairs -/
def tapeKV (a b : Int) : List (Key × D) := [(kD, .int a), (kM, .int b)]
theorem tape_valD (a b : Int) : valD (tapeKV a b) kD = some (.int a) := by simp [valD, tapeKV]
theorem tape_valM (a b : Int) : valD (tapeKV a b) kM = some (.int b) := by simp [valD, tapeKV, kDM]
theorem tape_putD (a b c : Int) : putD (tapeKV a b) kD (.int c) = tapeKV c b := by simp [putD, tapeKV, kDM, kMD]
theorem tape_putM (a b c : Int) : putD (tapeKV a b) kM (.int c) = tapeKV a c := by simp [putD, tapeKV, kDM, kMD]
/-- the tape at n -/
structure Tp (st : Store) (n : Nat) : Prop where
  at_ : ∃ a b : Int, st[n]? = some (.dct (tapeKV a b)) ∧ 0 ≤ a ∧ 0 ≤ b ∧ b < 4294967296
/-- nothing else has changed -/
structure Fr (n : Nat) (st st' : Store) : Prop where
  len : st.length ≤ st'.length
  at_ : ∀ m, m ≠ n → m < st.length → st'[m]? = st[m]?
theorem Fr.refl (n : Nat) (st : Store) : Fr n st st := ⟨Nat.le_refl _, fun _ _ _ => rfl⟩
theorem Fr.trans {n : Nat} {a b c : Store} (x : Fr n a b) (y : Fr n b c) : Fr n a c := ⟨Nat.le_trans x.len y.len, fun m h1 h2 => (y.at_ m h1 (Nat.lt_of_lt_of_le h2 x.len)).trans (x.at_ m h1 h2)⟩
theorem Fr.set {n : Nat} {st : Store} (o : Ob) : Fr n st (st.set n o) := ⟨by rw [List.length_set]; exact Nat.le_refl _, fun m h _ => by rw [List.getElem?_set_ne (Ne.symm h)]⟩
theorem Tp.lt {st : Store} {n : Nat} (h : Tp st n) : n < st.length := let ⟨_, _, e, _⟩ := h.at_; (List.getElem?_eq_some_iff.mp e).1
theorem bits32 {x : Int} (h0 : 0 ≤ x) (h1 : x < 4294967296) : intBits x ≤ 32 := intBits_le_iff.mpr (by omega)
theorem opAdd_int (a b : Int) : opAdd (.int a) (.int b) = some (.int (a + b)) := by simp [opAdd, orD, addI, onI]
theorem opMul_int {a b : Int} {m n : Nat} (ha : intBits a ≤ m) (hb : intBits b ≤ n) (h : m + n ≤ 134217728) : opMul (.int a) (.int b) = some (.int (a * b)) := by
  have : intBits a + intBits b ≤ 134217728 := by omega
  simp [opMul, orD, mulI, onI, this]
theorem modI_int {a b : Int} (h : 0 < b) : modI (.int a) (.int b) = some (.int (a % b)) := by simp [modI, onI, h]
theorem fdivI_int {a b : Int} (h : 0 < b) (h2 : b < 1073741824) : fdivI (.int a) (.int b) = some (.int (a / b)) := by simp [fdivI, onI, h, h2]
theorem powI_int {a b : Int} {m : Nat} (h0 : 0 ≤ b) (ha : intBits a ≤ m) (h : (m : Int) * b ≤ 134217728) : powI (.int a) (.int b) = some (.int (a ^ b.toNat)) := by
  have : (intBits a : Int) * b ≤ 134217728 := Int.le_trans (Int.mul_le_mul_of_nonneg_right (Int.ofNat_le.mpr ha) h0) h
  simp [powI, onI, h0, this]
theorem opGe_int (a b : Int) : opGe (.int a) (.int b) = some (.bl (decide (b ≤ a))) := by simp [opGe, orD, geI, onI]
theorem opLt_int (a b : Int) : opLt (.int a) (.int b) = some (.bl (decide (a < b))) := by simp [opLt, orD, ltI, onI]
theorem opLe_int (a b : Int) : opLe (.int a) (.int b) = some (.bl (decide (a ≤ b))) := by simp [opLe, orD, leI, onI]
theorem opGt_int (a b : Int) : opGt (.int a) (.int b) = some (.bl (decide (b < a))) := by simp [opGt, orD, gtI, onI]
theorem subI_int (a b : Int) : subI (.int a) (.int b) = some (.int (a - b)) := by simp [subI, onI]
theorem subTape {st : Store} {n : Nat} {a b : Int} (h : st[n]? = some (.dct (tapeKV a b))) : ixD (.ref n) (.str (Str.ofString "digits")) st = some (.int a) ∧ ixD (.ref n) (.str (Str.ofString "mixed")) st = some (.int b) := by
  constructor
  · unfold ixD
    simp only [h, asKey, Option.bind_some]
    exact tape_valD a b
  · unfold ixD
    simp only [h, asKey, Option.bind_some]
    exact tape_valM a b
theorem put_ref {env : Lo} {st s1 s2 s3 : Store} {fo fk fv : F} {d : D} {n : Nat} {kd : D} {k : Key} {kvs : List (Key × D)} (h1 : fv env st = some (d, s1)) (h2 : fo env s1 = some (.ref n, s2)) (h3 : fk env s2 = some (kd, s3)) (hk : asKey kd = some k)
    (hs : s3[n]? = some (.dct kvs)) (hl : kvs.length < 1000) : sPut fo fk fv env st = some (.nx, env, s3.set n (.dct (putD kvs k d))) := by
  have : kvs.length < sizeLine := Nat.lt_of_lt_of_le hl (by decide)
  simp [sPut, h1, h2, h3, hs, hk, this]
theorem pick_ok {st : Store} {n : Nat} {s : Int} (t : Tp st n) (h0 : 0 < s) (h1 : s < 1073741824) : ∃ r st', mPick [.ref n, .int s] st = some (.int r, st') ∧ 0 ≤ r ∧ r < s ∧ Tp st' n ∧ Fr n st st' ∧ st'.length = st.length := by
  obtain ⟨a, b, e, ha, hb, hb2⟩ := t.at_
  have hn := t.lt
  obtain ⟨g1, g2⟩ := subTape e
  by_cases c : s ≤ a
  · refine ⟨a % s, st.set n (.dct (tapeKV (a / s) b)), ?_, Int.emod_nonneg _ (by omega), Int.emod_lt_of_pos _ h0, ⟨a / s, b, by rw [List.getElem?_set_self hn], Int.ediv_nonneg ha (by omega), hb, hb2⟩, .set _, by rw [List.length_set]⟩
    have p : ∀ env : Lo, env[0]? = some (some (.ref n)) → env[1]? = some (some (.int s)) → sPut (fVar 0) (fC (.str (Str.ofString "digits"))) (fOp fdivI (fSub (fVar 0) (fC (.str (Str.ofString "digits")))) (fVar 1)) env st = some (.nx, env, st.set n (.dct (tapeKV (a / s) b))) := fun env x y => by
      rw [← tape_putD a b]
      refine put_ref (s1 := st) (s2 := st) (s3 := st) (kd := .str (Str.ofString "digits")) ?_ ?_ rfl rfl e (by simp [tapeKV])
      · simp [fOp, fSub, fVar, fC, x, y, g1, fdivI_int h0 h1]
      · simp [fVar, x]
    simp [mPick, mOf, gPick, outM, startD, sSeq, sIf, fTest, asB, fOp, fSub, fVar, fC, g1, opGe_int, c, sAsg, modI_int h0, gN]
    rw [p _ rfl rfl]
    simp [sRet, fVar]
  · have hm : 0 ≤ (b * 40014 + 1013) % 2147483563 := Int.emod_nonneg _ (by decide)
    have hm2 : (b * 40014 + 1013) % 2147483563 < 2147483563 := Int.emod_lt_of_pos _ (by decide)
    have gset : (st.set n (.dct (tapeKV a ((b * 40014 + 1013) % 2147483563))))[n]? = some (.dct (tapeKV a ((b * 40014 + 1013) % 2147483563))) := by rw [List.getElem?_set_self hn]
    obtain ⟨_, g3⟩ := subTape gset
    have p : ∀ env : Lo, env[0]? = some (some (.ref n)) → sPut (fVar 0) (fC (.str (Str.ofString "mixed"))) (fOp modI (fOp opAdd (fOp opMul (fSub (fVar 0) (fC (.str (Str.ofString "mixed")))) (fC (.int 40014))) (fC (.int 1013))) (fC (.int 2147483563))) env st = some (.nx, env, st.set n (.dct (tapeKV a ((b * 40014 + 1013) % 2147483563)))) := fun env x => by
      rw [← tape_putM a b]
      refine put_ref (s1 := st) (s2 := st) (s3 := st) (kd := .str (Str.ofString "mixed")) ?_ ?_ rfl rfl e (by simp [tapeKV])
      · simp [fOp, fSub, fVar, fC, x, g2, opMul_int (bits32 hb hb2) (bits32 (x := 40014) (by decide) (by decide)) (by decide), opAdd_int, modI_int (b := 2147483563) (by decide)]
      · simp [fVar, x]
    generalize hw : (b * 40014 + 1013) % 2147483563 = w at *
    have b1 : intBits w ≤ 32 := bits32 hm (by omega)
    have h5 : 0 ≤ w ^ 2 % 2147483399 := Int.emod_nonneg _ (by decide)
    have h6 : w ^ 2 % 2147483399 < 2147483399 := Int.emod_lt_of_pos _ (by decide)
    have b2 : intBits (w ^ 2 % 2147483399) ≤ 32 := bits32 h5 (by omega)
    refine ⟨(w ^ 2 % 2147483399) ^ 3 % 998244353 / 5 % s, st.set n (.dct (tapeKV a w)), ?_, Int.emod_nonneg _ (by omega), Int.emod_lt_of_pos _ h0, ⟨a, w, gset, ha, hm, by omega⟩, .set _, by rw [List.length_set]⟩
    simp [mPick, mOf, gPick, outM, startD, sSeq, sIf, fTest, asB, fOp, fSub, fVar, fC, g1, opGe_int, c, sNil]
    rw [p _ rfl]
    have q1 := powI_int (a := w) (b := 2) (by decide) b1 (by decide)
    have q2 := powI_int (a := w ^ 2 % 2147483399) (b := 3) (by decide) b2 (by decide)
    simp only [show (2 : Int).toNat = 2 from rfl, show (3 : Int).toNat = 3 from rfl] at q1 q2
    simp [sRet, fOp, fSub, fVar, fC, g3, q1, modI_int (b := 2147483399) (by decide), q2, modI_int (b := 998244353) (by decide), fdivI_int (b := 5) (by decide) (by decide), modI_int h0]
theorem atI_lt {α : Type} {xs : List α} {i : Int} (h0 : 0 ≤ i) (h1 : i < xs.length) : ∃ d, L2.atI xs i = some d ∧ d ∈ xs := by
  have hi : i.toNat < xs.length := by omega
  refine ⟨xs[i.toNat], ?_, List.getElem_mem hi⟩
  have := atI_nat (xs := xs) (j := i.toNat) (List.getElem?_eq_getElem hi)
  rwa [Int.toNat_of_nonneg h0] at this
theorem one_ok {st : Store} {n : Nat} {xs : List D} (t : Tp st n) (h0 : 0 < xs.length) (h1 : xs.length < 1073741824) : ∃ d st', mOne [.ref n, .lst xs] st = some (d, st') ∧ d ∈ xs ∧ Tp st' n ∧ Fr n st st' ∧ st'.length = st.length := by
  obtain ⟨r, st', h, hr0, hr1, t', f, l⟩ := pick_ok t (s := (xs.length : Int)) (by omega) (by omega)
  obtain ⟨d, hd, hm⟩ := atI_lt hr0 hr1
  refine ⟨d, st', ?_, hm, t', f, l⟩
  simp [mOne, mOf, gOne, outM, startD, sRet, fSub, fVar, fCall, aCons, aNil, fMk, bLen, lenL, h, ixD, hd]
theorem one_okT {st : Store} {n : Nat} {xs : List D} (t : Tp st n) (h0 : 0 < xs.length) (h1 : xs.length < 1073741824) : ∃ d st', mOne [.ref n, .tup xs] st = some (d, st') ∧ d ∈ xs ∧ Tp st' n ∧ Fr n st st' ∧ st'.length = st.length := by
  obtain ⟨r, st', h, hr0, hr1, t', f, l⟩ := pick_ok t (s := (xs.length : Int)) (by omega) (by omega)
  obtain ⟨d, hd, hm⟩ := atI_lt hr0 hr1
  refine ⟨d, st', ?_, hm, t', f, l⟩
  simp [mOne, mOf, gOne, outM, startD, sRet, fSub, fVar, fCall, aCons, aNil, fMk, bLen, lenL, h, ixD, hd]
abbrev bTape : FS := (sAsg (fOp opAdd (fOp modI (fOp powI (fOp opAdd (fOp opAdd (fOp opMul (fVar 2) (fC (.int 30011))) (fOp opMul (fVar 3) (fVar 3))) (fC (.int 7))) (fC (.int 2))) (fC (.int 2147483563))) (fC (.int 2))) (gN 2))
theorem tape_loop {s t y : Option D} {st : Store} : ∀ (ns : List Int), (∀ z ∈ ns, intBits z ≤ 1048576) → ∀ (m : Int) (x : Option D), 0 ≤ m → m < 4294967296 →
    ∃ m' x', loopS (gN 3) bTape (ns.map .int) [s, t, some (.int m), x, y] st = some (.nx, [s, t, some (.int m'), x', y], st) ∧ 0 ≤ m' ∧ m' < 4294967296
  | [], _, m, x, h0, h1 => ⟨m, x, rfl, h0, h1⟩
  | z :: ns, hb, m, x, h0, h1 => by
    have hz := hb z List.mem_cons_self
    have b1 : intBits (m * 30011) ≤ 32 + 32 := intBits_mul_le (bits32 h0 h1) (bits32 (x := 30011) (by decide) (by decide))
    have b2 : intBits (z * z) ≤ 1048576 + 1048576 := intBits_mul_le hz hz
    have b3 : intBits (m * 30011 + z * z) ≤ 2097152 + 1 := Nat.le_trans (intBits_add_le b1 b2) (by decide)
    have b4 : intBits (m * 30011 + z * z + 7) ≤ 2097153 + 1 := Nat.le_trans (intBits_add_le b3 (bits32 (x := 7) (by decide) (by decide))) (by decide)
    have q := powI_int (a := m * 30011 + z * z + 7) (b := 2) (by decide) b4 (by decide)
    have h2 : 0 ≤ (m * 30011 + z * z + 7) ^ (2 : Int).toNat % 2147483563 := Int.emod_nonneg _ (by decide)
    have h3 : (m * 30011 + z * z + 7) ^ (2 : Int).toNat % 2147483563 < 2147483563 := Int.emod_lt_of_pos _ (by decide)
    obtain ⟨m', x', e, g0, g1⟩ := tape_loop (s := s) (t := t) (y := y) (st := st) ns (fun w hw => hb w (List.mem_cons_of_mem _ hw)) ((m * 30011 + z * z + 7) ^ (2 : Int).toNat % 2147483563 + 2) (some (.int z)) (by omega) (by omega)
    refine ⟨m', x', ?_, g0, g1⟩
    rw [← e, List.map_cons]
    generalize (m * 30011 + z * z + 7) ^ (2 : Int).toNat = w at *
    simp [loopS, gN, bTape, sAsg, fOp, fVar, fC, opMul_int (bits32 h0 h1) (bits32 (x := 30011) (by decide) (by decide)) (by decide), opMul_int hz hz (by decide), opAdd_int, q, modI_int (b := 2147483563) (by decide)]
theorem tape_ok {st : Store} {ns : List Int} {s : Int} (hb : ∀ z ∈ ns, intBits z ≤ 1048576) (h0 : 0 ≤ s) (h1 : s < 1000) : ∃ st', mTape [.scr ns, .int s] st = some (.ref st.length, st') ∧ st'.length = st.length + 1 ∧ Tp st' st.length ∧ ∀ m, m < st.length → st'[m]? = st[m]? := by
  obtain ⟨m', x', e, g0, g1⟩ := tape_loop (s := some (.scr ns)) (t := some (.int s)) (y := none) (st := st) ns hb (97 + s * 31) none (by omega) (by omega)
  have q := powI_int (a := 10) (b := 18) (by decide) (bits32 (by decide) (by decide)) (by decide)
  have b1 : intBits s ≤ 32 := bits32 h0 (by omega)
  -- the digits
  obtain ⟨d, hd, hd0⟩ : ∃ d : Int, (fIfE (fAndT (fTest (fOp opLt (fVar 1) (fMk bLen (aCons (fVar 0) aNil)))) (fTest (fOp opGe (fSub (fVar 0) (fVar 1)) (fOp powI (fC (.int 10)) (fC (.int 18)))))) (fOp subI (fSub (fVar 0) (fVar 1)) (fOp powI (fC (.int 10)) (fC (.int 18)))) (fC (.int 0)))
      [some (.scr ns), some (.int s), some (.int m'), x', none] st = some (.int d, st) ∧ 0 ≤ d := by
    by_cases c : s < ns.length
    · obtain ⟨z, hz, _⟩ := atI_lt h0 c
      by_cases c2 : (1000000000000000000 : Int) ≤ z
      · exact ⟨z - 1000000000000000000, by simp [fIfE, fAndT, fTest, fOp, fVar, fMk, aCons, aNil, bLen, lenL, opLt_int, asB, c, fSub, ixD, hz, fC, q, opGe_int, c2, subI_int], by omega⟩
      · exact ⟨0, by simp [fIfE, fAndT, fTest, fOp, fVar, fMk, aCons, aNil, bLen, lenL, opLt_int, asB, c, fSub, ixD, hz, fC, q, opGe_int, c2], by omega⟩
    · exact ⟨0, by simp [fIfE, fAndT, fTest, fOp, fVar, fMk, aCons, aNil, bLen, lenL, opLt_int, asB, c, fC], by omega⟩
  refine ⟨st ++ [.dct (tapeKV d m')], ?_, by simp, ⟨d, m', by simp, hd0, g0, g1⟩, fun m hm => by rw [List.getElem?_append_left hm]⟩
  have e' : loopS (gN 3) bTape (ns.map D.int) [some (.scr ns), some (.int s), some (.int (97 + s * 31)), none, none] st = some (.nx, [some (.scr ns), some (.int s), some (.int m'), x', none], st) := e
  simp only [bTape] at e'
  simp [mTape, mOf, gTape, outM, startD, sSeq, sAsg, fOp, fVar, fC, opMul_int b1 (bits32 (x := 31) (by decide) (by decide)) (by decide), opAdd_int, gN, sFor, iOf, asScr, e', hd]
  simp [sRet, fDict, evP, fC, fVar, asKey, mergeD, putD, kDM, tapeKV]
end DL
/-! Plain texts, flat values, loops with an invariant. -/
namespace DL
open PySem PySem.Spec PyProof.Rows L2 TL
open Builtin.Int (intBits)
/-- at most n signs, all of ASCII -/
def GS (n : Nat) (x : Str) : Prop := x.length ≤ n ∧ ∀ c ∈ tl x, c < 128
theorem GS.mono {m n : Nat} {x : Str} (h : GS m x) (l : m ≤ n) : GS n x := ⟨Nat.le_trans h.1 l, h.2⟩
theorem GS.append {m n : Nat} {x y : Str} (a : GS m x) (b : GS n y) : GS (m + n) (x ++ y) := by
  refine ⟨?_, fun c hc => ?_⟩
  · rw [len_tl, tl_append, List.length_append, ← len_tl, ← len_tl]
    have := a.1
    have := b.1
    omega
  · rw [tl_append] at hc
    rcases List.mem_append.mp hc with h | h
    · exact a.2 c h
    · exact b.2 c h
theorem joinL_nil : ∀ ps : List (List Nat), joinL [] ps = ps.flatten
  | [] => rfl
  | [p] => by simp [joinL]
  | p :: q :: r => by
    have := joinL_nil (q :: r)
    simp only [joinL] at this ⊢
    rw [this]
    simp
theorem tl_join0 (ps : List Str) : tl (Txt.join (Str.ofString "") ps) = (ps.map tl).flatten := by
  rw [join_eq, tl_join, show tl (Str.ofString "") = [] from rfl, joinL_nil]
theorem GS.join {m : Nat} : ∀ {ps : List Str}, (∀ p ∈ ps, GS m p) → GS (ps.length * m) (Txt.join (Str.ofString "") ps) := fun {ps} h => by
  unfold GS
  rw [len_tl, tl_join0]
  induction ps with
  | nil => exact ⟨Nat.zero_le _, fun c hc => by cases hc⟩
  | cons p ps ih =>
    obtain ⟨i1, i2⟩ := ih fun q hq => h q (List.mem_cons_of_mem _ hq)
    obtain ⟨j1, j2⟩ := h p List.mem_cons_self
    rw [len_tl] at j1
    refine ⟨?_, fun c hc => ?_⟩
    · rw [List.map_cons, List.flatten_cons, List.length_append, List.length_cons, Nat.succ_mul]
      omega
    · rw [List.map_cons, List.flatten_cons] at hc
      rcases List.mem_append.mp hc with z | z
      · exact j2 c z
      · exact i2 c z
theorem GS.ok {n : Nat} {x : Str} (h : GS n x) : SeqAt.shaped (.str x) = true := by
  have : PyData.canLay0 (.str x) = true := by
    unfold PyData.canLay0
    unfold PyData.strOk
    rw [Array.all_eq_true]
    intro i hi
    have := h.2 x.cps[i] (by unfold tl; simp)
    exact decide_eq_true (by omega)
  unfold SeqAt.shaped
  rw [this]
  simp [PyData.depth]
/-- a flat value: None, an int, a text of at most n signs -/
def FV (n : Nat) : D → Prop | .non => True | .int _ => True | .str x => GS n x | _ => False
theorem FV.mono {m n : Nat} (l : m ≤ n) : ∀ {d : D}, FV m d → FV n d
  | .non, _ => trivial
  | .int _, _ => trivial
  | .str _, h => GS.mono h l
  | .bl _, h => h.elim
  | .tup _, h => h.elim
  | .lst _, h => h.elim
  | .dct _, h => h.elim
  | .scr _, h => h.elim
  | .ref _, h => h.elim
def vEq : D → D → Bool | .non, .non => true | .int a, .int b => a == b | .str a, .str b => a == b | _, _ => false
theorem opEq_fv {m n : Nat} {a b : D} (ha : FV m a) (hb : FV n b) : opEq a b = some (.bl (vEq a b)) := by
  cases a <;> cases b <;> first
    | exact ha.elim
    | exact hb.elim
    | skip
  all_goals simp only [opEq, toPy, Option.bind_some]
  all_goals first
    | rfl
    | (rw [if_pos ⟨rfl, GS.ok hb⟩]; rfl)
    | (rw [if_pos ⟨GS.ok ha, rfl⟩]; rfl)
    | (rw [if_pos ⟨GS.ok ha, GS.ok hb⟩]; rfl)
theorem opNe_fv {m n : Nat} {a b : D} (ha : FV m a) (hb : FV n b) : opNe a b = some (.bl (!vEq a b)) := by
  cases a <;> cases b <;> first
    | exact ha.elim
    | exact hb.elim
    | skip
  all_goals simp only [opNe, toPy, Option.bind_some]
  all_goals first
    | rfl
    | (rw [if_pos ⟨rfl, GS.ok hb⟩]; rfl)
    | (rw [if_pos ⟨GS.ok ha, rfl⟩]; rfl)
    | (rw [if_pos ⟨GS.ok ha, GS.ok hb⟩]; rfl)
theorem opEq_int (a b : Int) : opEq (.int a) (.int b) = some (.bl (a == b)) := opEq_fv (m := 0) (n := 0) (a := .int a) (b := .int b) trivial trivial
theorem opNe_int (a b : Int) : opNe (.int a) (.int b) = some (.bl (!(a == b))) := opNe_fv (m := 0) (n := 0) (a := .int a) (b := .int b) trivial trivial
theorem opLt_str (a b : Str) : opLt (.str a) (.str b) = some (.bl (decide (tl a < tl b))) := by simp [opLt, orD, ltI, ltS, onI, onS]
theorem opGt_str (a b : Str) : opGt (.str a) (.str b) = some (.bl (decide (tl b < tl a))) := by simp [opGt, orD, gtI, gtS, onI, onS]
theorem opAdd_str {a b : Str} (h : a.length + b.length ≤ 16777216) : opAdd (.str a) (.str b) = some (.str (a ++ b)) := by
  have : a.length + b.length ≤ sizeLine := by rw [sizeLine_eq]; exact h
  simp [opAdd, orD, addI, addS, onI, onS, this]

/-! ### loops -/
/-- a for that runs through, by what holds between the turns -/
theorem loopS_inv {tg : FG} {body : FS} (I : Lo → Store → Prop) : ∀ {ds : List D}, (∀ d ∈ ds, ∀ env st, I env st → ∃ e1, tg d env = some e1 ∧ ∃ o e2 s2, body e1 st = some (o, e2, s2) ∧ (o = .nx ∨ o = .ct) ∧ I e2 s2) →
    ∀ {env : Lo} {st : Store}, I env st → ∃ e2 s2, loopS tg body ds env st = some (.nx, e2, s2) ∧ I e2 s2
  | [], _, env, st, i => ⟨env, st, rfl, i⟩
  | d :: ds, h, env, st, i => by
    obtain ⟨e1, h1, o, e2, s2, h2, ho, i2⟩ := h d List.mem_cons_self env st i
    obtain ⟨e3, s3, h3, i3⟩ := loopS_inv I (fun d hd => h d (List.mem_cons_of_mem _ hd)) i2
    refine ⟨e3, s3, ?_, i3⟩
    rcases ho with rfl | rfl
    · simp [loopS, h1, h2, h3]
    · simp [loopS, h1, h2, h3]
/-- a comprehension of draws -/
theorem loopC_draw {is : List Nat} {bd : FB} {f : F} {n : Nat} {P : D → Prop} {env : Lo} : ∀ {ds : List D}, (∀ d ∈ ds, ∃ vs, bd d = some vs ∧ ∀ st, Tp st n → ∃ v st', f (setL is vs env) st = some (v, st') ∧ P v ∧ Tp st' n ∧ Fr n st st') →
    ∀ {st : Store}, Tp st n → ∃ vs st', loopC is bd tTrue f ds env st = some (vs, st') ∧ vs.length = ds.length ∧ (∀ v ∈ vs, P v) ∧ Tp st' n ∧ Fr n st st'
  | [], _, st, t => ⟨[], st, rfl, rfl, fun _ h => (by cases h), t, .refl _ _⟩
  | d :: ds, h, st, t => by
    obtain ⟨ws, hb, hf⟩ := h d List.mem_cons_self
    obtain ⟨v, s1, h1, pv, t1, f1⟩ := hf st t
    obtain ⟨vs, s2, h2, l2, p2, t2, f2⟩ := loopC_draw (fun d hd => h d (List.mem_cons_of_mem _ hd)) t1
    refine ⟨v :: vs, s2, by simp [loopC, hb, tTrue, h1, h2], by simp [l2], fun w hw => ?_, t2, f1.trans f2⟩
    rcases List.mem_cons.mp hw with rfl | hw
    · exact pv
    · exact p2 w hw
theorem rg_len (lo hi : Int) : (rg lo hi).length = (hi - lo).toNat := by simp [rg]
theorem rg_mem {lo hi : Int} {d : D} (h : d ∈ rg lo hi) : ∃ i : Int, d = .int i ∧ lo ≤ i ∧ i < hi := by
  unfold rg at h
  obtain ⟨k, hk, e⟩ := List.mem_map.mp h
  subst e
  have := List.mem_range.mp hk
  exact ⟨_, rfl, by omega, by omega⟩
theorem asR1_ok {n : Int} (h0 : 0 ≤ n) (h1 : n < 1000000) : asR1 [.int n] = some (rg 0 n) := by
  have : -(2 ^ 62) ≤ n ∧ n < 2 ^ 62 := by omega
  simp only [asR1, if_pos this]
end DL
namespace DL
open PySem PySem.Spec PyProof.Rows L2 TL
/-- .. that lay nothing -/
theorem loopC_draw2 {is : List Nat} {bd : FB} {f : F} {n : Nat} {P : D → Prop} {env : Lo} : ∀ {ds : List D}, (∀ d ∈ ds, ∃ vs, bd d = some vs ∧ ∀ st, Tp st n → ∃ v st', f (setL is vs env) st = some (v, st') ∧ P v ∧ Tp st' n ∧ Fr n st st' ∧ st'.length = st.length) →
    ∀ {st : Store}, Tp st n → ∃ vs st', loopC is bd tTrue f ds env st = some (vs, st') ∧ vs.length = ds.length ∧ (∀ v ∈ vs, P v) ∧ Tp st' n ∧ Fr n st st' ∧ st'.length = st.length
  | [], _, st, t => ⟨[], st, rfl, rfl, fun _ h => (by cases h), t, .refl _ _, rfl⟩
  | d :: ds, h, st, t => by
    obtain ⟨ws, hb, hf⟩ := h d List.mem_cons_self
    obtain ⟨v, s1, h1, pv, t1, f1, l1⟩ := hf st t
    obtain ⟨vs, s2, h2, l2, p2, t2, f2, g2⟩ := loopC_draw2 (fun d hd => h d (List.mem_cons_of_mem _ hd)) t1
    refine ⟨v :: vs, s2, by simp [loopC, hb, tTrue, h1, h2], by simp [l2], fun w hw => ?_, t2, f1.trans f2, by rw [g2, l1]⟩
    rcases List.mem_cons.mp hw with rfl | hw
    · exact pv
    · exact p2 w hw
/-- a comprehension that changes nothing -/
theorem loopC_map {is : List Nat} {bd : FB} {f : F} {g : D → D} {env : Lo} {st : Store} : ∀ {ds : List D}, (∀ d ∈ ds, ∃ vs, bd d = some vs ∧ f (setL is vs env) st = some (g d, st)) → loopC is bd tTrue f ds env st = some (ds.map g, st)
  | [], _ => rfl
  | d :: ds, h => by
    obtain ⟨ws, hb, hf⟩ := h d List.mem_cons_self
    have := loopC_map (ds := ds) fun d hd => h d (List.mem_cons_of_mem _ hd)
    simp [loopC, hb, tTrue, hf, this]
end DL
/-! More operations: nested data in a list or tuple, pairs in order, slices of texts, repr, a def that answers nothing. -/
namespace DL
open PySem PySem.Spec PyProof.Rows L2 TL
variable {K : PySem.W.Frag}
/-- at fuel 0 -/
theorem FnD.nil {P : Program} {w : World} {mg : Str → Option Value} {base : Heap} {k : Nat} {f : Addr} {fd : FuncData} {ps : List Str} : FnD P w K mg base k f fd ps (fun _ _ => none) :=
  ⟨fun _ _ _ _ _ _ _ _ _ _ _ _ _ _ _ _ _ _ _ _ _ h => by cases h⟩
section
variable {X : Cx} {W : WXd}
/-! ### in, nested data -/
def inPy (neg : Bool) : D → D → Option D := fun x y => (toPy x).bind fun p => match y with
  | .lst ds => (toPyL ds).bind fun qs => if SeqAt.shaped p = true ∧ SeqAt.shaped (.list qs) = true then some (.bl (if neg then !(qs.any fun z => PyData.eqv z p) else qs.any fun z => PyData.eqv z p)) else none
  | .tup ds => (toPyL ds).bind fun qs => if SeqAt.shaped p = true ∧ SeqAt.shaped (.tuple qs) = true then some (.bl (if neg then !(qs.any fun z => PyData.eqv z p) else qs.any fun z => PyData.eqv z p)) else none
  | _ => none
def rInPy (K : PySem.W.Frag) (neg : Bool) : R2 := fun x y H Q => ∃ d ds, Dp K H x d ∧ ((Dp K H y (.list ds) ∧ SeqAt.shaped (.list ds) = true) ∨ (Dp K H y (.tuple ds) ∧ SeqAt.shaped (.tuple ds) = true)) ∧ SeqAt.shaped d = true ∧
  Q (.bl (if neg then !(ds.any fun z => PyData.eqv z d) else ds.any fun z => PyData.eqv z d)) H
theorem op_inPy (hu : X.A.units + 65 < cLine) : OpR X (compareOp .In) (rInPy X.K false) := by
  intro pins s σ H x y v u Q I rx ry h
  obtain ⟨d, ds, hd, he, sd, q⟩ := h
  obtain ⟨as, r1⟩ := Dp.reads I d x v hd rx
  rcases he with ⟨he, se⟩ | ⟨he, se⟩
  · obtain ⟨bs, r2⟩ := Dp.reads I (.list ds) y u he ry
    exact SeqAt.in_list_reads r2 r1 (SeqAt.canLay_of_shaped se) (SeqAt.canLay_of_shaped sd) (room_in_shaped sd hu) ⟨.bl _, H, I, rfl, q⟩
  · obtain ⟨bs, r2⟩ := Dp.reads I (.tuple ds) y u he ry
    exact SeqAt.in_tuple_reads r2 r1 (SeqAt.canLay_of_shaped se) (SeqAt.canLay_of_shaped sd) (room_in_shaped sd hu) ⟨.bl _, H, I, rfl, q⟩
theorem op_notInPy (hu : X.A.units + 65 < cLine) : OpR X (compareOp .NotIn) (rInPy X.K true) := by
  intro pins s σ H x y v u Q I rx ry h
  obtain ⟨d, ds, hd, he, sd, q⟩ := h
  obtain ⟨as, r1⟩ := Dp.reads I d x v hd rx
  rcases he with ⟨he, se⟩ | ⟨he, se⟩
  · obtain ⟨bs, r2⟩ := Dp.reads I (.list ds) y u he ry
    exact SeqAt.notIn_list_reads r2 r1 (SeqAt.canLay_of_shaped se) (SeqAt.canLay_of_shaped sd) (room_in_shaped sd hu) ⟨.bl _, H, I, rfl, q⟩
  · obtain ⟨bs, r2⟩ := Dp.reads I (.tuple ds) y u he ry
    exact SeqAt.notIn_tuple_reads r2 r1 (SeqAt.canLay_of_shaped se) (SeqAt.canLay_of_shaped sd) (room_in_shaped sd hu) ⟨.bl _, H, I, rfl, q⟩
theorem inPy_ok (neg : Bool) {rho : Rf} {H : Hp} {x y : V} {a b d : D} {Q : VK} (ra : Rep K rho H x a) (rb : Rep K rho H y b) (e : inPy neg a b = some d) (q : ∀ v H', Same H H' → Rep K rho H' v d → Q v H') : rInPy K neg x y H Q := by
  obtain ⟨p, h1, h2⟩ := Option.bind_eq_some_iff.mp e
  split at h2
  · rename_i ds
    obtain ⟨qs, h3, h4⟩ := Option.bind_eq_some_iff.mp h2
    split at h4
    · rename_i sh
      cases h4
      exact ⟨p, qs, ra.dp h1, .inl ⟨rb.dp (show (toPyL ds).map PyData.list = some (.list qs) by rw [h3]; rfl), sh.2⟩, sh.1, q _ H (fun _ _ h => h) (.bl _)⟩
    · cases h4
  · rename_i ds
    obtain ⟨qs, h3, h4⟩ := Option.bind_eq_some_iff.mp h2
    split at h4
    · rename_i sh
      cases h4
      exact ⟨p, qs, ra.dp h1, .inr ⟨rb.dp (show (toPyL ds).map PyData.tuple = some (.tuple qs) by rw [h3]; rfl), sh.2⟩, sh.1, q _ H (fun _ _ h => h) (.bl _)⟩
    · cases h4
  · cases h2
def opIn : D → D → Option D := orD (inSeq false) (inPy false)
def opNotIn : D → D → Option D := orD (inSeq true) (inPy true)
theorem ok_inD {k : Nat} (g : GX X k) : OpOk X (compareOp .In) opIn := ok_in.or ⟨_, op_inPy (by have := g.room.un; omega), fun rho H x y a b d st Q si ra rb e q => inPy_ok false ra rb e q⟩
theorem ok_notinD {k : Nat} (g : GX X k) : OpOk X (compareOp .NotIn) opNotIn := ok_notin.or ⟨_, op_notInPy (by have := g.room.un; omega), fun rho H x y a b d st Q si ra rb e q => inPy_ok true ra rb e q⟩

/-! ### (a, b) < (c, d), flat -/
section
open PySem.AutoSeq1 (wpAny_loadPart')
open PySem.MeetsSeq PySem.MeetsSeq2 PySem.MeetsSeq3 PySem.SeqAt
/-- two pairs whose first items differ: these alone are asked -/
theorem pair_first {p q : Addr} {x0 x1 y0 y1 : Value} {i1 i2 : Nat} {d1 d2 : Option Addr} {t1 t2 : Array (Option Value)} {k : Bool} : Meets (Builtin.«tuple.__lt__» ⟨[.ref p, .ref q], []⟩) (fun A R s =>
    s.heap.get? p = some ⟨.type "tuple", d1, .seq #[x0, x1] i1, t1⟩ ∧ s.heap.get? q = some ⟨.type "tuple", d2, .seq #[y0, y1] i2, t2⟩ ∧ EqAt A.in1 s x0 y0 false ∧ RcLt A.in1 s x0 y0 k ∧ R (.ok (.ret (.bool k))) s) := .of_wp fun P w A R s hh => by
  obtain ⟨hp, g, d, tk, os⟩ := s
  obtain ⟨g1, g2, differ, less, done⟩ := hh
  have sub := AutoSeq1.sub_tuple_tuple
  wp_walk using wpAny_loadPart' g1, wpAny_loadPart' g2, wpAny_forIn_list _ (fun todo acc now => acc.1 = none ∧ now = ⟨hp, g, d, tk, os⟩ ∧ todo = [(x0, y0), (x1, y1)]) _
  case turn =>
    rintro ⟨u, v⟩ todo acc now ⟨e1, rfl, e2⟩
    injection e2 with e3 _
    injection e3 with eu ev
    subst eu ev
    refine wpAny_bind (differ P w _ _ ?_)
    have ask := less P w
    wp_walk using ask
    exact ⟨_, rfl, done⟩
  case fin =>
    rintro ⟨_, _⟩ now ⟨_, _, e2⟩
    cases e2
  case h =>
    exact ⟨rfl, rfl, rfl⟩
end
/-- a < b of two of one kind -/
def ltF : V → V → Option Bool
  | .int a, .int b => some (decide (a < b))
  | .str a, .str b => some (decide (a.cps.toList < b.cps.toList))
  | _, _ => none
theorem rcLt_V {A : Around} {s : Shared} {x y : V} {v u : Value} {k : Bool} (rx : RelV x v) (ry : RelV y u) (e : ltF x y = some k) : SeqAt.RcLt A s v u k := by
  unfold ltF at e
  split at e
  · cases e
    obtain ⟨t, rfl⟩ := rx
    obtain ⟨t', rfl⟩ := ry
    exact fun _ _ _ _ h => PyProof.Rows.lt_int h
  · cases e
    obtain ⟨t, rfl⟩ := rx
    obtain ⟨t', rfl⟩ := ry
    exact fun _ _ _ _ h => PySem.P.lt_str h
  · cases e
/-- the order of two pairs -/
def lt2V (a b c d : V) : Option Bool := if eqV a c = true then (if eqV b d = true then some false else ltF b d) else ltF a c
def rLt2 (K : PySem.W.Frag) : R2 := fun x y H Q => ∃ p q a b c d k, x = .ref p ∧ y = .ref q ∧ SqT K H p [a, b] ∧ SqT K H q [c, d] ∧ flatV a = true ∧ flatV b = true ∧ flatV c = true ∧ flatV d = true ∧ lt2V a b c d = some k ∧ Q (.bl k) H
theorem op_lt2 (hu : X.A.units < cLine) : OpR X (compareOp .Lt) (rLt2 X.K) := by
  intro pins s σ H x y v u Q I rx ry h
  obtain ⟨p, q, a, b, c, d, k, rfl, rfl, hp, hq, fa, fb, fc, fd, hk, hQ⟩ := h
  cases rx
  cases ry
  obtain ⟨its, r1, p1, _⟩ := I.tuple hp
  obtain ⟨its2, r2, p2, _⟩ := I.tuple hq
  cases r1 with
  | @cons _ ua _ us1 ra t1 =>
  cases t1 with
  | @cons _ ub _ us2 rb t2 =>
  cases t2
  cases r2 with
  | @cons _ uc _ us3 rc t3 =>
  cases t3 with
  | @cons _ ud _ us4 rd t4 =>
  cases t4
  obtain ⟨⟨cls, dd, data, sl⟩, ho, hc, n, hd⟩ := id p1
  obtain ⟨⟨cls2, dd2, data2, sl2⟩, ho2, hc2, n2, hd2⟩ := id p2
  simp only at hc hd hc2 hd2
  subst hc hd hc2 hd2
  let e : Nat → Bool := fun j => match j with | 0 => eqV a c | _ => eqV b d
  let r : Nat → Bool := fun j => match j with | 0 => (ltF a c).getD false | _ => (ltF b d).getD false
  by_cases ac : eqV a c = true
  · by_cases bd : eqV b d = true
    · have hk' : k = false := by unfold lt2V at hk; rw [if_pos ac, if_pos bd] at hk; cases hk; rfl
      subst hk'
      refine richCompare_meets_room (op := .Lt) ⟨_, ho, rfl⟩ ⟨_, ho2, rfl⟩ PySem.F.slot_tuple_lt PySem.F.entry_tuple_lt (PySem.F.args_tuple_lt_2 _ _) (SeqAt.tuple_ltAt p q #[ua, ub] #[uc, ud] n n2 dd dd2 sl sl2 (fun _ => true) (fun _ => false))
        ⟨ho, ho2, fun j h1 h2 => ?_, fun j h1 h2 z => (by cases z), ⟨(fun x => nomatch x), ⟨.bl false, H, I, rfl, hQ⟩⟩⟩ hu
      match j, h1, h2 with
      | 0, _, _ =>
        rw [← ac]
        exact eqAt_V ra rc fa fc
      | 1, _, _ =>
        rw [← bd]
        exact eqAt_V rb rd fb fd
    · have bd' : eqV b d = false := by simpa using bd
      have hk' : ltF b d = some k := by unfold lt2V at hk; rw [if_pos ac, if_neg bd] at hk; exact hk
      refine richCompare_meets_room (op := .Lt) ⟨_, ho, rfl⟩ ⟨_, ho2, rfl⟩ PySem.F.slot_tuple_lt PySem.F.entry_tuple_lt (PySem.F.args_tuple_lt_2 _ _) (SeqAt.tuple_ltAt p q #[ua, ub] #[uc, ud] n n2 dd dd2 sl sl2 (fun j => j == 0) (fun _ => k))
        ⟨ho, ho2, fun j h1 h2 => ?_, fun j h1 h2 z => ?_, ⟨(fun x => nomatch x), ⟨.bl k, H, I, rfl, hQ⟩⟩⟩ hu
      · match j, h1, h2 with
        | 0, _, _ =>
          show SeqAt.EqAt X.A.in1 s ua uc true
          rw [← ac]
          exact eqAt_V ra rc fa fc
        | 1, _, _ =>
          show SeqAt.EqAt X.A.in1 s ub ud false
          rw [← bd']
          exact eqAt_V rb rd fb fd
      · match j, h1, h2, z with
        | 1, _, _, _ => exact rcLt_V rb rd hk'
  · have ac' : eqV a c = false := by simpa using ac
    have hk' : ltF a c = some k := by unfold lt2V at hk; rw [if_neg ac] at hk; exact hk
    exact richCompare_meets_room (op := .Lt) ⟨_, ho, rfl⟩ ⟨_, ho2, rfl⟩ PySem.F.slot_tuple_lt PySem.F.entry_tuple_lt (PySem.F.args_tuple_lt_2 _ _) pair_first
      ⟨ho, ho2, by rw [← ac']; exact eqAt_V ra rc fa fc, rcLt_V ra rc hk', ⟨(fun x => nomatch x), ⟨.bl k, H, I, rfl, hQ⟩⟩⟩ hu
def lt2 : D → D → Option D := fun x y => match x, y with
  | .tup [a, b], .tup [c, d] => (eqF a c).bind fun e => (eqF b d).bind fun e2 => if e = true then (if e2 = true then some (.bl false) else (orD ltI ltS) b d) else (orD ltI ltS) a c
  | _, _ => none
theorem ltF_of {r : Rf} {H : Hp} {x y : V} {a b d : D} (ra : Rep K r H x a) (rb : Rep K r H y b) (e : (orD ltI ltS) a b = some d) : ∃ k, d = .bl k ∧ ltF x y = some k ∧ flatV x = true ∧ flatV y = true := by
  cases a <;> cases b <;> first
    | cases e; done
    | (cases ra; cases rb; cases e; exact ⟨_, rfl, rfl, rfl, rfl⟩)
theorem ok_lt2 {k : Nat} (g : GX X k) : OpOk X (compareOp .Lt) lt2 := ⟨_, op_lt2 g.room.units0, fun rho H x y m n d st Q si rm rn e q => by
  unfold lt2 at e
  split at e
  · rename_i a b c d'
    obtain ⟨p, us, rfl, s1, l1⟩ := rm.sqT
    obtain ⟨p', us', rfl, s2, l2⟩ := rn.sqT
    obtain ⟨va, vb, rfl, ra, rb⟩ := lst2 l1
    obtain ⟨vc, vd, rfl, rc, rd⟩ := lst2 l2
    obtain ⟨e1, h1, h2⟩ := Option.bind_eq_some_iff.mp e
    obtain ⟨e2, h3, h4⟩ := Option.bind_eq_some_iff.mp h2
    obtain ⟨g1, f1, f2⟩ := eqF_rep ra rc h1
    obtain ⟨g2, f3, f4⟩ := eqF_rep rb rd h3
    have mk : ∀ j, lt2V va vb vc vd = some j → Q (.bl j) H → rLt2 X.K (.ref p) (.ref p') H Q := fun j hj hq => ⟨p, p', va, vb, vc, vd, j, rfl, rfl, s1, s2, f1, f3, f2, f4, hj, hq⟩
    cases e1 with
    | false =>
      rw [if_neg Bool.false_ne_true] at h4
      obtain ⟨j, rfl, lj, _, _⟩ := ltF_of ra rc h4
      exact mk j (by unfold lt2V; rw [if_neg (by rw [g1]; exact Bool.false_ne_true)]; exact lj) (q _ H (fun _ _ h => h) (.bl _))
    | true =>
      rw [if_pos rfl] at h4
      cases e2 with
      | true =>
        rw [if_pos rfl] at h4
        cases h4
        exact mk false (by unfold lt2V; rw [if_pos g1, if_pos g2]) (q _ H (fun _ _ h => h) (.bl _))
      | false =>
        rw [if_neg Bool.false_ne_true] at h4
        obtain ⟨j, rfl, lj, _, _⟩ := ltF_of rb rd h4
        exact mk j (by unfold lt2V; rw [if_pos g1, if_neg (by rw [g2]; exact Bool.false_ne_true)]; exact lj) (q _ H (fun _ _ h => h) (.bl _))
  · cases e⟩
def opLtD : D → D → Option D := orD opLt lt2
theorem ok_ltD {k : Nat} (g : GX X k) : OpOk X (compareOp .Lt) opLtD := ok_lt.or (ok_lt2 g)

/-! ### z[lo:hi] of a text -/
def slS : D → Option Int → Option Int → Option D := fun a lo hi => match a with
  | .str z => if z.length ≤ sizeLine then some (.str (cutS z lo hi)) else none
  | _ => none
def fSliceS (fa : F) (lo hi : FO) : F := fun env st => (fa env st).bind fun p => (lo env p.2).bind fun q => (hi env q.2).bind fun w => (slS p.1 q.1 w.1).map fun d => (d, w.2)
theorem de_sliceS {a : Expr} {lo hi : Option Expr} {fa : F} {fl fh : FO} {p2 pos : Pos} (ha : DE X a fa) (hl : DO' X lo fl) (hh : DO' X hi fh) : DE X (.Subscript a (.Slice lo hi none p2) pos) (fSliceS fa fl fh) :=
  weakE (pe_slice sl_str ha hl hh) fun σ H Q hh => by
  obtain ⟨r, env, st, d, st', he, hs, hf, q⟩ := hh
  obtain ⟨⟨x, s1⟩, h1, hf1⟩ := Option.bind_eq_some_iff.mp hf
  obtain ⟨⟨i, s2⟩, h2, hf2⟩ := Option.bind_eq_some_iff.mp hf1
  obtain ⟨⟨j, s3⟩, h3, hf3⟩ := Option.bind_eq_some_iff.mp hf2
  obtain ⟨d', h4, hf4⟩ := Option.map_eq_some_iff.mp hf3
  cases hf4
  refine ⟨r, env, st, x, s1, he, hs, h1, fun u r1 H1 e1 q1 p1 => ⟨r1, env, s1, i, s2, he.ext e1, q1, h2, fun r2 H2 e2 q2 => ⟨r2, env, s2, j, _, (he.ext e1).ext e2, q2, h3, fun r3 H3 e3 q3 => ?_⟩⟩⟩
  have p3 := (p1.ext e2).ext e3
  cases x with
  | str z =>
    have h4' : (if z.length ≤ sizeLine then some (D.str (cutS z i j)) else none) = some _ := h4
    by_cases hz : z.length ≤ sizeLine
    · rw [if_pos hz] at h4'
      cases h4'
      cases p3
      exact ⟨z, rfl, hz, q _ r3 H3 ((e1.trans e2).trans e3) q3 (.str _)⟩
    · rw [if_neg hz] at h4'
      cases h4'
  | _ => cases h4

/-! ### repr -/
/-- what repr shows of x, if it is no more than may be shown -/
def shownD (d : PyData) : Option D := if d.hasDict = false ∧ d.showable = true ∧ d.depth ≤ 64 ∧ d.shown.length ≤ sizeLine then some (.str d.shown) else none
def bRepr : List D → Store → Option D := fun ds _ => match ds with
  | [.tup xs] => (toPy (.tup xs)).bind shownD
  | [.lst xs] => (toPy (.lst xs)).bind shownD
  | _ => none
theorem call_reprD {k : Nat} (g : GX X k) : CallR X (.builtin "repr") (fun xs H Q => ∃ a d, xs = [.ref a] ∧ Dp X.K H (.ref a) d ∧ d.hasDict = false ∧ d.showable = true ∧ d.depth ≤ 64 ∧ d.shown.length ≤ sizeLine ∧ Q (.str d.shown) H) := by
  intro pins s σ H xs us Q I r h
  obtain ⟨a, d, rfl, hd, h1, h2, h3, h4, q⟩ := h
  obtain ⟨u, rfl, ru⟩ := vals1 r
  cases ru
  obtain ⟨as, rd⟩ := Dp.reads I d (.ref a) (.ref a) hd rfl
  exact repr_of_reads' rd h2 (PyData.noDict_hsm h1) g.gd (by have := g.room.un; omega) (fun _ _ e => e) (fun h' u tk hk => ⟨.str d.shown, H, I.kept hk, ⟨_, rfl⟩, q⟩) h4
theorem shownD_some {d : PyData} {z : D} (h : shownD d = some z) : d.hasDict = false ∧ d.showable = true ∧ d.depth ≤ 64 ∧ d.shown.length ≤ sizeLine ∧ z = .str d.shown := by
  unfold shownD at h
  split at h
  · rename_i c
    cases h
    exact ⟨c.1, c.2.1, c.2.2.1, c.2.2.2, rfl⟩
  · cases h
theorem ok_repr {k : Nat} (g : GX X k) : CallOk X (.builtin "repr") bRepr := ⟨_, call_reprD g, fun rho H xs ds d st Q rl si e q => by
  unfold bRepr at e
  split at e
  · obtain ⟨v, rfl, p⟩ := lst1 rl
    obtain ⟨y, h1, h2⟩ := Option.bind_eq_some_iff.mp e
    obtain ⟨c1, c2, c3, c4, rfl⟩ := shownD_some h2
    have pd := p.dp h1
    obtain ⟨a, us, rfl, s, l⟩ := p.sqT
    exact ⟨a, y, rfl, pd, c1, c2, c3, c4, q _ H (fun _ _ h => h) (.str _)⟩
  · obtain ⟨v, rfl, p⟩ := lst1 rl
    obtain ⟨y, h1, h2⟩ := Option.bind_eq_some_iff.mp e
    obtain ⟨c1, c2, c3, c4, rfl⟩ := shownD_some h2
    have pd := p.dp h1
    cases p with
    | lst a b c => exact ⟨_, y, rfl, pd, c1, c2, c3, c4, q _ H (fun _ _ h => h) (.str _)⟩
  · cases e⟩
end
end DL
/-! Small data: what may be compared and shown. -/
namespace DL
open PySem PySem.Spec PyProof.Rows L2 TL
variable {K : PySem.W.Frag}
section
variable {X : Cx} {W : WXd}
/-- two texts, equal or not -/
def opEqS : D → D → Option D := onS (fun _ _ => True) fun i j => .bl (decide (i = j))
def opNeS : D → D → Option D := onS (fun _ _ => True) fun i j => .bl (!decide (i = j))
theorem ok_eqS : OpOk X (compareOp .Eq) opEqS := ⟨_, op_eq, fun rho H x y a b d st Q si ra rb e q => by
  obtain ⟨i, j, rfl, rfl, z, rfl⟩ := onS_some e
  cases ra
  cases rb
  refine ⟨rfl, ?_⟩
  have : decide (V.str i = V.str j) = decide (i = j) := by by_cases h : i = j <;> simp [h]
  rw [this]
  exact q _ H (fun _ _ h => h) (.bl _)⟩
theorem ok_neS : OpOk X (compareOp .NotEq) opNeS := ⟨_, op_ne, fun rho H x y a b d st Q si ra rb e q => by
  obtain ⟨i, j, rfl, rfl, z, rfl⟩ := onS_some e
  cases ra
  cases rb
  refine ⟨rfl, ?_⟩
  have : decide (V.str i = V.str j) = decide (i = j) := by by_cases h : i = j <;> simp [h]
  rw [this]
  exact q _ H (fun _ _ h => h) (.bl _)⟩
theorem opNeS_same (x : Str) : opNeS (.str x) (.str x) = some (.bl false) := by simp [opNeS, onS]
end
/-- small data: of depth dp at most, of weight wt at most -/
def Sm (dp wt : Nat) (d : D) : Prop := ∃ p, toPy d = some p ∧ p.canLay0 = true ∧ p.depth ≤ dp ∧ p.weight ≤ wt ∧ p.intsShort 13 = true ∧ p.showable = true
def SmL (dp wt : Nat) (ds : List D) : Prop := ∃ ps, toPyL ds = some ps ∧ PyData.canLayAll0 ps = true ∧ PyData.depthAll ps ≤ dp ∧ PyData.weightAll ps ≤ wt ∧ PyData.intsShortAll 13 ps = true ∧ PyData.showableAll ps = true
theorem Sm.mono {dp wt dp' wt' : Nat} {d : D} (h : Sm dp wt d) (a : dp ≤ dp') (b : wt ≤ wt') : Sm dp' wt' d := let ⟨p, h1, h2, h3, h4, h5⟩ := h; ⟨p, h1, h2, Nat.le_trans h3 a, Nat.le_trans h4 b, h5⟩
theorem SmL.mono {dp wt dp' wt' : Nat} {d : List D} (h : SmL dp wt d) (a : dp ≤ dp') (b : wt ≤ wt') : SmL dp' wt' d := let ⟨p, h1, h2, h3, h4, h5⟩ := h; ⟨p, h1, h2, Nat.le_trans h3 a, Nat.le_trans h4 b, h5⟩
theorem SmL.nil : SmL 0 0 [] := ⟨[], rfl, rfl, Nat.le_refl _, Nat.le_refl _, rfl, rfl⟩
theorem SmL.cons {dp wt wt' : Nat} {d : D} {ds : List D} (h : Sm dp wt d) (t : SmL dp wt' ds) : SmL dp (wt + 1 + wt') (d :: ds) := by
  obtain ⟨p, h1, h2, h3, h4, h5, h6⟩ := h
  obtain ⟨ps, t1, t2, t3, t4, t5, t6⟩ := t
  refine ⟨p :: ps, by simp [toPyL, h1, t1], by simp [PyData.canLayAll0, h2, t2], ?_, ?_, by simp [PyData.intsShortAll, h5, t5], by simp [PyData.showableAll, h6, t6]⟩
  · rw [PyData.depthAll]
    exact Nat.max_le.mpr ⟨h3, t3⟩
  · rw [PyData.weightAll]
    omega
theorem SmL.all {dp wt : Nat} : ∀ {ds : List D}, (∀ d ∈ ds, Sm dp wt d) → SmL dp (ds.length * (wt + 1)) ds
  | [], _ => SmL.nil.mono (Nat.zero_le _) (Nat.zero_le _)
  | d :: ds, h => (SmL.cons (h d List.mem_cons_self) (SmL.all fun x hx => h x (List.mem_cons_of_mem _ hx))).mono (Nat.le_refl _) (by rw [List.length_cons, Nat.succ_mul]; omega)
theorem Sm.tup {dp wt : Nat} {ds : List D} (h : SmL dp wt ds) : Sm (dp + 1) wt (.tup ds) := by
  obtain ⟨ps, t1, t2, t3, t4, t5, t6⟩ := h
  exact ⟨.tuple ps, by simp [toPy, t1], by simpa [PyData.canLay0] using t2, by simpa [PyData.depth] using t3, by simpa [PyData.weight] using t4, by simpa [PyData.intsShort] using t5, by simpa [PyData.showable] using t6⟩
theorem Sm.lst {dp wt : Nat} {ds : List D} (h : SmL dp wt ds) : Sm (dp + 1) wt (.lst ds) := by
  obtain ⟨ps, t1, t2, t3, t4, t5, t6⟩ := h
  exact ⟨.list ps, by simp [toPy, t1], by simpa [PyData.canLay0] using t2, by simpa [PyData.depth] using t3, by simpa [PyData.weight] using t4, by simpa [PyData.intsShort] using t5, by simpa [PyData.showable] using t6⟩
theorem Sm.non : Sm 0 0 .non := ⟨.none, rfl, rfl, Nat.le_refl _, Nat.le_refl _, rfl, rfl⟩
theorem Sm.bl (b : Bool) : Sm 0 0 (.bl b) := ⟨.bool b, rfl, rfl, Nat.le_refl _, Nat.le_refl _, rfl, rfl⟩
theorem Sm.int {i : Int} (h : -1000000000000 < i ∧ i < 1000000000000) : Sm 0 40 (.int i) := by
  have hn : i.natAbs < 10 ^ 12 := by omega
  have hl : i.natAbs.log2 < 40 := by
    by_cases z : i.natAbs = 0
    · rw [z]; decide
    · exact (Nat.log2_lt z).mpr (by omega)
  refine ⟨.int i, rfl, rfl, Nat.le_refl _, ?_, ?_, ?_⟩
  · rw [PyData.weight]
    split
    · exact Nat.zero_le _
    · omega
  · rw [PyData.intsShort, PyData.shown]
    have h0 := int_text_length_le10 (a := i) (k := 12) (by decide) hn
    refine decide_eq_true ?_
    rw [PySem.ofString_length]
    exact h0
  · rw [PyData.showable]
    exact decide_eq_true (by omega)
theorem Sm.str {n : Nat} {x : Str} (h : GS n x) : Sm 0 n (.str x) := by
  refine ⟨.str x, rfl, ?_, Nat.le_refl _, ?_, rfl, rfl⟩
  · have := h.ok
    unfold SeqAt.shaped at this
    exact (Bool.and_eq_true_iff.mp this).1
  · rw [PyData.weight]
    exact h.1
theorem Sm.shaped {dp wt : Nat} {d : D} (h : Sm dp wt d) (l : dp ≤ 64) : ∃ p, toPy d = some p ∧ SeqAt.shaped p = true := by
  obtain ⟨p, h1, h2, h3, h4, h5, h6⟩ := h
  refine ⟨p, h1, ?_⟩
  unfold SeqAt.shaped
  rw [h2, decide_eq_true (Nat.le_trans h3 l)]
  rfl
theorem Sm.shown {dp wt : Nat} {d : D} (h : Sm dp wt d) (l : dp ≤ 64) (m : wt ≤ 1048576) : ∃ x, (toPy d).bind shownD = some (.str x) := by
  obtain ⟨p, h1, h2, h3, h4, h5, h6⟩ := h
  have hl : PyData.layable0 p = true := by
    unfold PyData.layable0
    rw [h2, decide_eq_true (Nat.le_trans h3 l), decide_eq_true (show p.weight ≤ 2 ^ 20 from Nat.le_trans h4 m)]
    rfl
  have hs : p.shown.length ≤ sizeLine := Nat.le_trans (shown_le13 hl h5) (by rw [sizeLine_eq]; decide)
  have hd := PyData.hasDict_of_layable hl
  exact ⟨p.shown, by rw [h1, Option.bind_some]; unfold shownD; rw [if_pos ⟨hd, h6, Nat.le_trans h3 l, hs⟩]⟩
theorem repr_tup {dp wt : Nat} {ds : List D} (h : Sm dp wt (.tup ds)) (l : dp ≤ 64) (m : wt ≤ 1048576) : ∃ x, ∀ st, bRepr [.tup ds] st = some (.str x) := let ⟨x, e⟩ := h.shown l m; ⟨x, fun st => e⟩
theorem repr_lst {dp wt : Nat} {ds : List D} (h : Sm dp wt (.lst ds)) (l : dp ≤ 64) (m : wt ≤ 1048576) : ∃ x, ∀ st, bRepr [.lst ds] st = some (.str x) := let ⟨x, e⟩ := h.shown l m; ⟨x, fun st => e⟩
end DL
/-! == of anything and a text; a tuple and (). -/
namespace DL
open PySem PySem.Spec PyProof.Rows L2 TL
variable {K : PySem.W.Frag}
section
open PySem.MeetsSeq PySem.MeetsSeq2 PySem.MeetsSeq3 PySem.SeqAt
variable {A : Around} {s : Shared}
theorem str_not_dict (x : Str) (t : Tok) (a : Addr) (es : Array DictEntry) (n : Nat) (dd : Option Addr) (sl : Array (Option Value)) :
    Meets (Builtin.«str.__eq__» ⟨[.str x t, .ref a], []⟩) (fun _ R s => s.heap.get? a = some ⟨.type "dict", dd, .dict es n, sl⟩ ∧ R (.ok (.ret .notImplemented)) s) := .of_wp fun P w A R s hh => by
  obtain ⟨hp, g, d, tk, os⟩ := s
  obtain ⟨got, done⟩ := hh
  wp_walk using wpAny_load got
  exact ⟨_, rfl, done⟩
/-- dict's own answer to a text -/
theorem call_dict_str {P : Program} {w : World} {E Q' : Value → Shared → Prop} {a : Addr} (x : Str) (t : Tok) {id : Str} (slot : Slot "dict" id "dict.__eq__") (hT : s.TypeIs (.ref a) "dict") (hq : Q' .notImplemented s) : wpAny (model P w) A (call (.builtin "dict.__eq__") [.ref a, .str x t]) Q' E s := by
  refine wpAny_call_entry slot hT PySem.F.entry_dict_eq ?_ (PySem.F.args_dict_eq_2 _ _)
  show wpAny _ _ (Builtin.Dict.dictSlotArgs "__eq__" ⟨[.ref a, .str x t], []⟩ >>= _) _ _ s
  refine wpAny_bind ?_
  unfold Builtin.Dict.dictSlotArgs
  refine wpAny_bind (wpAny_notOrdered_dict hT ?_)
  show wpAny _ _ (pure (Value.ref a, Value.str x t)) _ _ s
  refine wpAny_pure ?_
  refine wpAny_bind (wpAny_isInstance (T := "str") (typeIs_str _ _ _) PySem.F.sub_str_dict ?_)
  simp only [Bool.not_false, if_true]
  wp_walk
  exact ⟨_, rfl, hq⟩
/-- a dict == a text -/
theorem rc_dict_str {a : Addr} {es : Array DictEntry} {n : Nat} {dd : Option Addr} {sl : Array (Option Value)} (x : Str) (t : Tok) (got : s.heap.get? a = some ⟨.type "dict", dd, .dict es n, sl⟩) (hu : A.units < cLine) : RcAt A s (.ref a) (.str x t) false := fun P w E Q h =>
  have hT : s.TypeIs (.ref a) "dict" := ⟨_, got, rfl⟩
  rc_eq_decline_or (k := false) hT (typeIs_str s x t) (by decide) PySem.F.sub_str_dict PySem.F.slot_dict_eq PySem.F.slot_str_eq_refl (fun Q' hq => call_dict_str x t PySem.F.slot_dict_eq hT hq)
    (fun Q' hq => call_meets PySem.F.slot_str_eq_refl (typeIs_str s x t) PySem.F.entry_str_eq (PySem.F.args_str_eq_2 _ _) (str_not_dict x t a es n dd sl) ⟨got, hq⟩)
    (fun Q' hq => wpAny_of_eq (rfl : isSame (.ref a) (.str x t) = pure false) hq) (.inr hu) h
theorem rc_str_dict {a : Addr} {es : Array DictEntry} {n : Nat} {dd : Option Addr} {sl : Array (Option Value)} (x : Str) (t : Tok) (got : s.heap.get? a = some ⟨.type "dict", dd, .dict es n, sl⟩) (hu : A.units < cLine) : RcAt A s (.str x t) (.ref a) false := fun P w E Q h =>
  have hT : s.TypeIs (.ref a) "dict" := ⟨_, got, rfl⟩
  rc_eq_decline_or (k := false) (typeIs_str s x t) hT (by decide) PySem.F.sub_dict_str PySem.F.slot_str_eq PySem.F.slot_dict_eq_refl
    (fun Q' hq => call_meets PySem.F.slot_str_eq (typeIs_str s x t) PySem.F.entry_str_eq (PySem.F.args_str_eq_2 _ _) (str_not_dict x t a es n dd sl) ⟨got, hq⟩) (fun Q' hq => call_dict_str x t PySem.F.slot_dict_eq_refl hT hq)
    (fun Q' hq => wpAny_of_eq (rfl : isSame (.str x t) (.ref a) = pure false) hq) (.inr hu) h
/-- as an item is compared -/
theorem eq_str_dict {a : Addr} {es : Array DictEntry} {n : Nat} {dd : Option Addr} {sl : Array (Option Value)} (x : Str) (t : Tok) (got : s.heap.get? a = some ⟨.type "dict", dd, .dict es n, sl⟩) (hu : A.units < cLine) : EqAt A s (.str x t) (.ref a) false := fun P w E Q q => by
  unfold eqBool
  refine wpAny_holding (wpAny_ite_split (fun z => absurd (eq_of_beq z) nofun) fun _ => ?_)
  exact wpAny_bind (rc_str_dict x t got hu P w E _ (wpAny_truthy_bool q))
end
section
variable {X : Cx} {W : WXd}
/-- is it this text -/
def eqS (x : Str) : D → Option Bool
  | .non => some false | .bl _ => some false | .int _ => some false | .str y => some (y == x) | .tup _ => some false | .lst _ => some false | .dct _ => some false | .scr _ => none | .ref _ => none
/-- both ways, behind whatever is read -/
theorem any_str {rho : Rf} {pins : List (Addr × Obj)} {σ : L2.St} {H : Hp} {s : Shared} {v : V} {u : Value} {d : D} {x : Str} {t : Tok} {k : Bool} {A : Around} (I : Inv X pins σ H s) (r : Rep X.K rho H v d) (rv : RelV v u) (e : eqS x d = some k) (hu : A.units < cLine) :
    SeqAt.RcAt A s u (.str x t) k ∧ SeqAt.EqAt A s (.str x t) u k := by
  cases d with
  | non => cases r; cases e; cases rv; exact ⟨.none_str _ _, .str_none _ _⟩
  | bl b => cases r; cases e; cases rv; exact ⟨.bool_str _ _ _, .str_bool _ _ _⟩
  | int i =>
    cases r
    cases e
    obtain ⟨t', rfl⟩ := rv
    exact ⟨.int_str _ _ _ _, .str_int _ _ _ _⟩
  | str y =>
    cases r
    cases e
    obtain ⟨t', rfl⟩ := rv
    refine ⟨.str_str _ _ _ _, ?_⟩
    have := SeqAt.EqAt.str_str (A := A) (s := s) x t y t'
    rwa [show (x == y) = (y == x) from Bool.beq_comm] at this
  | tup ds =>
    cases e
    obtain ⟨a, us, rfl, sq, l⟩ := r.sqT
    cases rv
    obtain ⟨its, r1, p1, _⟩ := I.tuple sq
    exact ⟨.tuple_str _ _ p1 hu, .str_tuple _ _ p1 hu⟩
  | lst ds =>
    cases e
    cases r with
    | lst g1 g2 g3 =>
      cases rv
      obtain ⟨its, r1, p1, _⟩ := I.list (.of g1)
      exact ⟨.list_str _ _ p1.isList hu, .str_list _ _ p1.isList hu⟩
  | dct kvs =>
    cases e
    cases r with
    | dct g1 g2 g3 =>
      cases rv
      obtain ⟨_, ns, vs, _, ⟨⟨cls, dd, data, sl⟩, es, ep, ho, ⟨hc, _, _⟩, hd, _⟩⟩ := (show ObjOk X.prog X.w H s.heap _ (.dK _) from (I.hok _ _ g1).2)
      simp only at hc hd
      subst hc hd
      exact ⟨rc_dict_str x t ho hu, eq_str_dict x t ho hu⟩
  | scr ns => cases e
  | ref n => cases e
/-- d == "text" -/
def eqT : D → D → Option D := fun a b => match b with | .str x => (eqS x a).map .bl | _ => none
def rEqT (K : PySem.W.Frag) : R2 := fun x y H Q => ∃ (rho : Rf) (d : D) (z : Str) (k : Bool), Rep K rho H x d ∧ y = .str z ∧ eqS z d = some k ∧ Q (.bl k) H
theorem op_eqT (hu : X.A.units < cLine) : OpR X (compareOp .Eq) (rEqT X.K) := by
  intro pins s σ H x y v u Q I rx ry h
  obtain ⟨rho, d, z, k, r, rfl, e, q⟩ := h
  obtain ⟨t, rfl⟩ := ry
  exact (any_str (A := X.A) I r rx e hu).1 X.prog X.w _ _ ⟨.bl k, H, I, rfl, q⟩
theorem ok_eqT {k : Nat} (g : GX X k) : OpOk X (compareOp .Eq) eqT := ⟨_, op_eqT g.room.units0, fun rho H x y a b d st Q si ra rb e q => by
  unfold eqT at e
  split at e
  · obtain ⟨c, h1, h2⟩ := Option.map_eq_some_iff.mp e
    subst h2
    cases rb
    exact ⟨rho, a, _, c, ra, rfl, h1, q _ H (fun _ _ h => h) (.bl _)⟩
  · cases e⟩
/-- t == () -/
def eqNil : D → D → Option D := fun a b => match a, b with | .tup xs, .tup [] => some (.bl (xs.length == 0)) | _, _ => none
def rEqNil (K : PySem.W.Frag) : R2 := fun x y H Q => ∃ a b xs, x = .ref a ∧ y = .ref b ∧ SqT K H a xs ∧ SqT K H b [] ∧ Q (.bl (xs.length == 0)) H
theorem op_eqNil (hu : X.A.units < cLine) : OpR X (compareOp .Eq) (rEqNil X.K) := by
  intro pins s σ H x y v u Q I rx ry h
  obtain ⟨a, b, xs, rfl, rfl, h1, h2, q⟩ := h
  cases rx
  cases ry
  obtain ⟨its, r1, p1, _⟩ := I.tuple h1
  obtain ⟨its2, r2, p2, _⟩ := I.tuple h2
  cases r2
  refine SeqAt.eq_tupleAt (e := fun _ => true) p1 p2 hu (fun j h1 h2 => absurd h2 (Nat.not_lt_zero j)) ?_
  have : (((List.range (min its.toArray.size (#[] : Array Value).size)).all fun _ => true) && its.toArray.size == (#[] : Array Value).size) = (xs.length == 0) := by
    rw [r1.length]
    simp
  rw [this]
  exact ⟨.bl _, H, I, rfl, q⟩
theorem ok_eqNil {k : Nat} (g : GX X k) : OpOk X (compareOp .Eq) eqNil := ⟨_, op_eqNil g.room.units0, fun rho H x y a b d st Q si ra rb e q => by
  unfold eqNil at e
  split at e
  · cases e
    obtain ⟨p, us, rfl, s1, l1⟩ := ra.sqT
    obtain ⟨p2, us2, rfl, s2, l2⟩ := rb.sqT
    cases l2
    exact ⟨p, p2, us, rfl, rfl, s1, s2, by rw [l1.len]; exact q _ H (fun _ _ h => h) (.bl _)⟩
  · cases e⟩
/-- == where one side may be anything -/
def opEqA : D → D → Option D := orD eqT (orD eqNil opEq)
theorem ok_eqA {k : Nat} (g : GX X k) : OpOk X (compareOp .Eq) opEqA := (ok_eqT g).or ((ok_eqNil g).or (ok_eq g))
/-- d in ("text", ..) -/
def anyS (a : D) : List Str → Option Bool
  | [] => some false
  | z :: zs => (eqS z a).bind fun b => (anyS a zs).map fun c => b || c
def inStr (neg : Bool) : D → D → Option D := fun a b => match b with | .tup ds => (strsD ds).bind fun zs => (anyS a zs).map fun b => .bl (if neg then !b else b) | _ => none
def rInStr (K : PySem.W.Frag) (neg : Bool) : R2 := fun x y H Q => ∃ (rho : Rf) (d : D) (p : Addr) (zs : List Str) (k : Bool), Rep K rho H x d ∧ y = .ref p ∧ SqT K H p (zs.map V.str) ∧ anyS d zs = some k ∧ Q (.bl (if neg then !k else k)) H
/-- an item's answer -/
def itemS (d : D) : Value → Bool | .str z _ => (eqS z d).getD false | _ => false
theorem any_items {rho : Rf} {pins : List (Addr × Obj)} {σ : L2.St} {H : Hp} {s : Shared} {v : V} {u : Value} {d : D} {A : Around} (I : Inv X pins σ H s) (r : Rep X.K rho H v d) (rv : RelV v u) (hu : A.units < cLine) :
    ∀ {zs : List Str} {its : List Value} {k : Bool}, Vals (zs.map V.str) its → anyS d zs = some k → its.any (itemS d) = k ∧ ∀ y ∈ its, SeqAt.EqAt A s y u (itemS d y)
  | [], _, k, .nil, e => by
    cases e
    exact ⟨rfl, fun y hy => by cases hy⟩
  | z :: zs, _, k, .cons (b := w) (l₂ := ws) hw t, e => by
    obtain ⟨b, h1, h2⟩ := Option.bind_eq_some_iff.mp (show ((eqS z d).bind fun b => (anyS d zs).map fun c => b || c) = some k from e)
    obtain ⟨c, h3, h4⟩ := Option.map_eq_some_iff.mp h2
    obtain ⟨g1, g2⟩ := any_items I r rv hu t h3
    obtain ⟨tk, rfl⟩ := hw
    have e1 : itemS d (.str z tk) = b := by
      show (eqS z d).getD false = b
      rw [h1]; rfl
    refine ⟨by rw [List.any_cons, g1, e1]; exact h4, fun y hy => ?_⟩
    rcases List.mem_cons.mp hy with rfl | hy
    · rw [e1]
      exact (any_str (A := A) I r rv h1 hu).2
    · exact g2 y hy
theorem op_inStr (hu : X.A.units + 1 < cLine) : OpR X (compareOp .In) (rInStr X.K false) := by
  intro pins s σ H x y v u Q I rx ry h
  obtain ⟨rho, d, p, zs, k, r, rfl, sq, e, q⟩ := h
  cases ry
  obtain ⟨its, r1, p1, _⟩ := I.tuple sq
  obtain ⟨g1, g2⟩ := any_items (A := X.A.in1) I r rx hu r1 e
  refine SeqAt.in_tupleAt (itemS d) p1 (fun y hy => g2 y (by simpa using hy)) ?_
  rw [show its.toArray.any (itemS d) = its.any (itemS d) by simp, g1]
  exact ⟨.bl k, H, I, rfl, q⟩
theorem op_notInStr (hu : X.A.units + 1 < cLine) : OpR X (compareOp .NotIn) (rInStr X.K true) := by
  intro pins s σ H x y v u Q I rx ry h
  obtain ⟨rho, d, p, zs, k, r, rfl, sq, e, q⟩ := h
  cases ry
  obtain ⟨its, r1, p1, _⟩ := I.tuple sq
  obtain ⟨g1, g2⟩ := any_items (A := X.A.in1) I r rx hu r1 e
  refine SeqAt.notIn_tupleAt (itemS d) p1 (fun y hy => g2 y (by simpa using hy)) ?_
  rw [show its.toArray.any (itemS d) = its.any (itemS d) by simp, g1]
  exact ⟨.bl (!k), H, I, rfl, q⟩
theorem inStr_ok (neg : Bool) {rho : Rf} {H : Hp} {x y : V} {a b d : D} {Q : VK} (ra : Rep K rho H x a) (rb : Rep K rho H y b) (e : inStr neg a b = some d) (q : ∀ v H', Same H H' → Rep K rho H' v d → Q v H') : rInStr K neg x y H Q := by
  unfold inStr at e
  split at e
  · obtain ⟨zs, h1, h2⟩ := Option.bind_eq_some_iff.mp e
    obtain ⟨c, h3, h4⟩ := Option.map_eq_some_iff.mp h2
    subst h4
    obtain ⟨p, us, rfl, s1, l1⟩ := rb.sqT
    have := l1.strs' h1
    subst this
    exact ⟨rho, a, p, zs, c, ra, rfl, s1, h3, q _ H (fun _ _ h => h) (.bl _)⟩
  · cases e
def opInA : D → D → Option D := orD (inStr false) (inSeq false)
def opNotInA : D → D → Option D := orD (inStr true) (inSeq true)
theorem ok_inA {k : Nat} (g : GX X k) : OpOk X (compareOp .In) opInA := OpOk.or ⟨_, op_inStr (by have := g.room.un; omega), fun rho H x y a b d st Q si ra rb e q => inStr_ok false ra rb e q⟩ ok_in
theorem ok_notinA {k : Nat} (g : GX X k) : OpOk X (compareOp .NotIn) opNotInA := OpOk.or ⟨_, op_notInStr (by have := g.room.un; omega), fun rho H x y a b d st Q si ra rb e q => inStr_ok true ra rb e q⟩ ok_notin
end
end DL
/-! repr of anything. -/
namespace DL
open PySem PySem.Spec PyProof.Rows L2 TL
variable {K : PySem.W.Frag}
mutual
def toPyR : D → Option PyData
  | .non => some .none
  | .bl b => some (.bool b)
  | .int i => some (.int i)
  | .str x => some (.str x)
  | .tup ds => (toPyRL ds).map .tuple
  | .lst ds => (toPyRL ds).map .list
  | .dct [] => some (.dict [])
  | .dct (_ :: _) => none
  | .scr _ => none
  | .ref _ => none
def toPyRL : List D → Option (List PyData)
  | [] => some []
  | d :: ds => (toPyR d).bind fun p => (toPyRL ds).map fun q => p :: q
end
section
variable {X : Cx} {W : WXd} {pins : List (Addr × Obj)} {σ : L2.St} {H : Hp} {s : Shared} {rho : Rf}
theorem dict_nil (I : Inv X pins σ H s) {a : Addr} {xs : List (Key × V)} (h : Rd H a (.dK xs)) (e : xs = []) : ∃ o es ep, s.heap.get? a = some o ∧ o.cls = .type "dict" ∧ o.data = .dict es ep ∧ es.toList = [] ∧ (a == sysModules) = false := by
  subst e
  obtain ⟨_, ns, vs, kv, ⟨o, es, ep, ho, ⟨hc, _, _⟩, hd, _, hp, _⟩⟩ := (show ObjOk X.prog X.w H s.heap a (.dK []) from h.ok I.hok)
  unfold KV at kv
  cases kv
  refine ⟨o, es, ep, ho, hc, hd, ?_, ns⟩
  generalize es.toList = l at *
  cases hp
  rfl
/-- what can be read back, with what shows it -/
def Shows (X : Cx) (s : Shared) (u : Value) (p : PyData) : Prop := (∃ as, Reads s.heap u p as) ∧ ∃ bs, ReadAtMost s.heap p.depth bs ∧ ReprK X.prog X.w bs s.heap p.depth u p.shown
def ShowsL (X : Cx) (s : Shared) (us : List Value) (ps : List PyData) : Prop := (∃ as, ReadsAll s.heap us ps as) ∧ ∃ bs, ReadAtMost s.heap (PyData.depthAll ps) bs ∧ ReprAllK X.prog X.w bs s.heap (PyData.depthAll ps) us (PyData.shownAll ps)
theorem shows_flat {u : Value} {p : PyData} (r : Reads s.heap u p []) (h : ReprIs X.prog X.w u p.shown) : Shows X s u p := ⟨⟨[], r⟩, [], (fun _ z => nomatch z), .of_is h _ _ _⟩
mutual
theorem shows_of (I : Inv X pins σ H s) : ∀ (d : D) {v : V} {u : Value} {p : PyData}, Rep X.K rho H v d → RelV v u → toPyR d = some p → p.showable = true → p.shown.length ≤ sizeLine → Shows X s u p
  | .non, _, _, _, r, rv, e, _, _ => by
    cases r
    cases rv
    cases e
    exact shows_flat .none .none
  | .bl b, _, _, _, r, rv, e, _, _ => by
    cases r
    cases rv
    cases e
    exact shows_flat (.bool b) (.bool b)
  | .int i, _, _, _, r, rv, e, sh, _ => by
    cases r
    obtain ⟨t, rfl⟩ := rv
    cases e
    exact shows_flat (.int i t) (.int t (of_decide_eq_true (show decide (i.natAbs.log2 < 1920) = true from sh)))
  | .str x, _, _, _, r, rv, e, _, z => by
    cases r
    obtain ⟨t, rfl⟩ := rv
    cases e
    exact shows_flat (.str x t) (.str x t z)
  | .scr _, _, _, _, _, _, e, _, _ => by cases e
  | .ref _, _, _, _, _, _, e, _, _ => by cases e
  | .dct (_ :: _), _, _, _, _, _, e, _, _ => by cases e
  | .dct [], _, _, _, r, rv, e, _, _ => by
    cases e
    cases r with
    | dct g1 g2 g3 =>
      cases g3
      cases rv
      obtain ⟨o, es, ep, ho, hc, hd, hn, hs⟩ := dict_nil I (.inr ⟨_, g1⟩) rfl
      have rd : Reads s.heap (.ref _) (.dict []) _ := .dict (as := []) (bs := []) ho hc hd (by rw [hn]; exact .nil) (by rw [hn]; exact .nil)
      exact ⟨⟨_, rd⟩, [_], fun b hb => by
        rw [List.mem_singleton.mp hb]
        exact ⟨_, _, rd, Nat.le_refl _⟩, ReprK.dict (d := 0) ho hc hd hs (by simp) (by rw [hn]; exact .nil)⟩
  | .tup ds, _, _, _, r, rv, e, sh, z => by
    obtain ⟨ps, e1, e2⟩ := Option.map_eq_some_iff.mp (show (toPyRL ds).map PyData.tuple = some _ from e)
    subst e2
    obtain ⟨a, us, rfl, sq, l⟩ := r.sqT
    cases rv
    obtain ⟨its, r1, ⟨o, ho, hc, n, hd⟩, _⟩ := I.tuple sq
    obtain ⟨⟨as, ra⟩, bs, hb, hk⟩ := showsL_of I ds l r1 e1 sh fun t ht => Nat.le_trans (tupleText_mem_le ht) z
    have rd : Reads s.heap (.ref a) (.tuple ps) as := .tuple ho hc hd ra
    have na : a ∉ bs := not_mem_of_deeper rd (Nat.lt_succ_self _) hb
    exact ⟨⟨as, rd⟩, a :: bs, ReadAtMost.cons rd (Nat.le_succ _) hb, ReprK.tuple ho hc hd na hk⟩
  | .lst ds, _, _, _, r, rv, e, sh, z => by
    obtain ⟨ps, e1, e2⟩ := Option.map_eq_some_iff.mp (show (toPyRL ds).map PyData.list = some _ from e)
    subst e2
    cases r with
    | lst g1 g2 g3 =>
      rename_i a us
      cases rv
      obtain ⟨its, r1, ⟨⟨o, n, ho, hc, hx, hd⟩, hz⟩⟩ := I.list (.of g1)
      obtain ⟨⟨as, ra⟩, bs, hb, hk⟩ := showsL_of I ds g3 r1 e1 sh fun t ht => Nat.le_trans (listText_mem_le ht) z
      have rd : Reads s.heap (.ref a) (.list ps) (a :: as) := .list ho hc hd ra
      have na : a ∉ bs := not_mem_of_deeper rd (Nat.lt_succ_self _) hb
      refine ⟨⟨_, rd⟩, a :: bs, ReadAtMost.cons rd (Nat.le_succ _) hb, ?_⟩
      cases its with
      | nil =>
        cases ra
        exact ReprK.listEmpty ho hc hd
      | cons w ws => exact ReprK.list ho hc hd na (by simpa using hk.length_eq) fun i y q => hk.item i y (by simpa using q)
theorem showsL_of (I : Inv X pins σ H s) : ∀ (ds : List D) {vs : List V} {us : List Value} {ps : List PyData}, RepL X.K rho H vs ds → Vals vs us → toPyRL ds = some ps → PyData.showableAll ps = true → (∀ t ∈ PyData.shownAll ps, t.length ≤ sizeLine) → ShowsL X s us ps
  | [], _, _, _, .nil, .nil, e, _, _ => by
    cases e
    exact ⟨⟨[], .nil⟩, [], (fun _ z => nomatch z), .nil⟩
  | d :: ds, _, _, ps, .cons r l, .cons rv rt, e, sh, z => by
    obtain ⟨p, e1, e2⟩ := Option.bind_eq_some_iff.mp (show ((toPyR d).bind fun p => (toPyRL ds).map fun q => p :: q) = some ps from e)
    obtain ⟨qs, e3, e4⟩ := Option.map_eq_some_iff.mp e2
    subst e4
    have sh2 : p.showable = true ∧ PyData.showableAll qs = true := Bool.and_eq_true_iff.mp (show (p.showable && PyData.showableAll qs) = true from sh)
    obtain ⟨⟨as, ra⟩, b1, hb1, k1⟩ := shows_of I d r rv e1 sh2.1 (z _ (List.mem_cons_self (a := p.shown) (l := PyData.shownAll qs)))
    obtain ⟨⟨as2, ra2⟩, b2, hb2, k2⟩ := showsL_of I ds l rt e3 sh2.2 fun t ht => z t (List.mem_cons_of_mem _ ht)
    refine ⟨⟨as ++ as2, .cons ra ra2⟩, b1 ++ b2, ReadAtMost.append (hb1.mono (Nat.le_max_left _ _)) (hb2.mono (Nat.le_max_right _ _)), ?_⟩
    exact .cons ((k1.more fun b h => List.mem_append_left _ h).level_le (Nat.le_max_left _ _)) (k2.more_le (fun b h => List.mem_append_right _ h) (Nat.le_max_right _ _))
end
end
section
variable {X : Cx} {W : WXd}
def rRepr (K : PySem.W.Frag) : List V → Hp → VK → Prop := fun xs H Q => ∃ rho v d p, xs = [v] ∧ Rep K rho H v d ∧ toPyR d = some p ∧ p.showable = true ∧ p.depth ≤ 64 ∧ p.shown.length ≤ sizeLine ∧ Q (.str p.shown) H
theorem call_reprA {k : Nat} (g : GX X k) : CallR X (.builtin "repr") (rRepr X.K) := by
  intro pins s σ H xs us Q I r h
  obtain ⟨rho, v, d, p, rfl, rp, e, sh, dp, z, q⟩ := h
  obtain ⟨u, rfl, rv⟩ := vals1 r
  have hu := g.room.un
  have fin : ∀ h' (w : Tok) (tk : Nat), (∀ b o, s.heap.get? b = some o → h'.get? b = some o) → EP X pins σ Q (.str p.shown w) { s with heap := h', toks := tk } := fun h' w tk hk => ⟨.str p.shown, H, I.kept hk, ⟨_, rfl⟩, q⟩
  cases d with
  | non =>
    cases rp
    cases rv
    cases e
    exact PySem.P.repr_of_none ⟨.str _, H, I.tok _, ⟨_, rfl⟩, q⟩
  | bl b =>
    cases rp
    cases rv
    cases e
    exact PySem.P.repr_of_bool ⟨.str _, H, I.tok _, ⟨_, rfl⟩, q⟩
  | int i =>
    cases rp
    obtain ⟨t, rfl⟩ := rv
    cases e
    exact PySem.P.repr_of_int (of_decide_eq_true (show decide (i.natAbs.log2 < 1920) = true from sh)) ⟨.str _, H, I.tok _, ⟨_, rfl⟩, q⟩
  | str x =>
    cases rp
    obtain ⟨t, rfl⟩ := rv
    cases e
    exact PySem.P.repr_of_str ⟨.str _, H, I.tok _, ⟨_, rfl⟩, q⟩ z
  | scr ns => cases e
  | ref n => cases e
  | dct kvs =>
    cases kvs with
    | cons _ _ => cases e
    | nil =>
      cases e
      cases rp with
      | dct g1 g2 g3 =>
        cases g3
        cases rv
        obtain ⟨o, es, ep, ho, hc, hd, hn, hs⟩ := dict_nil I (.inr ⟨_, g1⟩) rfl
        exact call_repr_slot (by omega) ⟨o, ho, hc⟩ PySem.F.slot_dict_repr (call_dict_reprK (as := []) (d := 0) (ps := []) ho hc hd hs (by simp) (by rw [hn]; exact .nil) g.gd (fun b _ => Clear.nil b) (by show X.A.units + 1 + 1 < cLine; omega) (fun _ _ e => e) (fun h' u tk hk => ⟨_, _, rfl, fin h' u tk hk⟩) z)
  | tup ds =>
    obtain ⟨ps, e1, e2⟩ := Option.map_eq_some_iff.mp (show (toPyRL ds).map PyData.tuple = some _ from e)
    subst e2
    obtain ⟨a, us, rfl, sq, l⟩ := rp.sqT
    cases rv
    obtain ⟨its, r1, ⟨o, ho, hc, n, hd⟩, _⟩ := I.tuple sq
    obtain ⟨⟨as, ra⟩, bs, hb, hk⟩ := showsL_of I ds l r1 e1 sh fun t ht => Nat.le_trans (tupleText_mem_le ht) z
    have rd : Reads s.heap (.ref a) (.tuple ps) as := .tuple ho hc hd ra
    have na : a ∉ bs := not_mem_of_deeper rd (Nat.lt_succ_self _) hb
    have dd : PyData.depthAll ps + 1 ≤ 64 := dp
    exact call_repr_slot (by omega) ⟨o, ho, hc⟩ PySem.F.slot_tuple_repr (call_tuple_reprK ho hc hd na hk g.gd (fun b _ => Clear.nil b) (by show X.A.units + 1 + (PyData.depthAll ps + 1) < cLine; omega) (fun _ _ e => e) (fun h' u tk hk => ⟨_, _, rfl, fin h' u tk hk⟩) z)
  | lst ds =>
    obtain ⟨ps, e1, e2⟩ := Option.map_eq_some_iff.mp (show (toPyRL ds).map PyData.list = some _ from e)
    subst e2
    cases rp with
    | lst g1 g2 g3 =>
      rename_i a us
      cases rv
      obtain ⟨its, r1, ⟨⟨o, n, ho, hc, hx, hd⟩, hz⟩⟩ := I.list (.of g1)
      obtain ⟨⟨as, ra⟩, bs, hb, hk⟩ := showsL_of I ds g3 r1 e1 sh fun t ht => Nat.le_trans (listText_mem_le ht) z
      have rd : Reads s.heap (.ref a) (.list ps) (a :: as) := .list ho hc hd ra
      have na : a ∉ bs := not_mem_of_deeper rd (Nat.lt_succ_self _) hb
      have dd : PyData.depthAll ps + 1 ≤ 64 := dp
      refine call_repr_slot (by omega) ⟨o, ho, hc⟩ PySem.F.slot_list_repr.toG ?_
      cases its with
      | nil =>
        cases ra
        exact call_list_repr_empty ⟨o, ho, hc⟩ ho hd ⟨_, _, rfl, fin s.heap _ _ fun _ _ e => e⟩
      | cons w ws => exact call_list_reprK ho hc hd na (by simpa using hk.length_eq) (fun i y q => hk.item i y (by simpa using q)) g.gd (fun b _ => Clear.nil b) (by show X.A.units + 1 + (PyData.depthAll ps + 1) < cLine; omega) (fun _ _ e => e) (fun h' u tk hk => ⟨_, _, rfl, fin h' u tk hk⟩) z
/-- repr(d), of anything -/
def bReprA : List D → Store → Option D := fun ds _ => match ds with
  | [d] => (toPyR d).bind fun p => if p.showable = true ∧ p.depth ≤ 64 ∧ p.shown.length ≤ sizeLine then some (.str p.shown) else none
  | _ => none
theorem ok_reprA {k : Nat} (g : GX X k) : CallOk X (.builtin "repr") bReprA := ⟨_, call_reprA g, fun rho H xs ds d st Q rl si e q => by
  unfold bReprA at e
  split at e
  · rename_i y
    obtain ⟨v, rfl, p⟩ := lst1 rl
    obtain ⟨z, h1, h2⟩ := Option.bind_eq_some_iff.mp e
    by_cases c : z.showable = true ∧ z.depth ≤ 64 ∧ z.shown.length ≤ sizeLine
    · rw [if_pos c] at h2
      cases h2
      exact ⟨rho, v, y, z, rfl, p, h1, c.1, c.2.1, c.2.2, q _ H (fun _ _ h => h) (.str _)⟩
    · rw [if_neg c] at h2
      cases h2
  · cases e⟩
end
/-! ### measures -/
mutual
/-- what may be shown: no great ints, texts of ASCII -/
def okD : D → Bool
  | .non => true
  | .bl _ => true
  | .int i => decide (i.natAbs < 10 ^ 62)
  | .str x => (tl x).all fun c => decide (c < 128)
  | .tup ds => okL ds
  | .lst ds => okL ds
  | .dct [] => true
  | .dct (_ :: _) => false
  | .scr _ => false
  | .ref _ => false
def okL : List D → Bool
  | [] => true
  | d :: ds => okD d && okL ds
end
mutual
def wD : D → Nat
  | .int _ => 210
  | .str x => x.length
  | .tup ds => wL ds
  | .lst ds => wL ds
  | _ => 0
def wL : List D → Nat
  | [] => 0
  | d :: ds => wD d + 1 + wL ds
end
mutual
def hD : D → Nat
  | .tup ds => hL ds + 1
  | .lst ds => hL ds + 1
  | .dct _ => 1
  | _ => 0
def hL : List D → Nat
  | [] => 0
  | d :: ds => max (hD d) (hL ds)
end
mutual
theorem ok_pyR : ∀ (d : D), okD d = true → ∃ p, toPyR d = some p ∧ p.showable = true ∧ p.leavesShort 70 = true ∧ p.depth ≤ hD d ∧ p.weight ≤ wD d
  | .non, _ => ⟨_, rfl, rfl, rfl, Nat.le_refl _, Nat.le_refl _⟩
  | .bl b, _ => ⟨_, rfl, rfl, rfl, Nat.le_refl _, Nat.le_refl _⟩
  | .int i, h => by
    have hn : i.natAbs < 10 ^ 62 := of_decide_eq_true h
    have hl : i.natAbs.log2 < 207 := by
      by_cases z : i.natAbs = 0
      · rw [z]; decide
      · exact (Nat.log2_lt z).mpr (Nat.lt_trans hn (by decide))
    refine ⟨.int i, rfl, ?_, ?_, Nat.le_refl _, ?_⟩
    · rw [PyData.showable]
      exact decide_eq_true (by omega)
    · rw [PyData.leavesShort, PyData.shown]
      have h0 := int_text_length_le10 (a := i) (k := 62) (by decide) hn
      refine decide_eq_true ?_
      rw [PySem.ofString_length]
      omega
    · rw [PyData.weight, wD]
      split
      · exact Nat.zero_le _
      · omega
  | .str x, h => by
    refine ⟨.str x, rfl, rfl, ?_, Nat.le_refl _, ?_⟩
    · rw [PyData.leavesShort]
      exact List.all_eq_true.mpr fun c hc => decide_eq_true (Nat.lt_trans (of_decide_eq_true (List.all_eq_true.mp h c hc)) (by decide))
    · rw [PyData.weight, wD]
      exact Nat.le_refl _
  | .dct [], _ => ⟨.dict [], rfl, rfl, rfl, Nat.le_refl _, Nat.le_refl _⟩
  | .dct (_ :: _), h => by cases h
  | .scr _, h => by cases h
  | .ref _, h => by cases h
  | .tup ds, h => by
    obtain ⟨ps, h1, h2, h3, h4, h5⟩ := ok_pyRL ds h
    exact ⟨.tuple ps, by show (toPyRL ds).map _ = _; rw [h1]; rfl, h2, h3, Nat.succ_le_succ h4, h5⟩
  | .lst ds, h => by
    obtain ⟨ps, h1, h2, h3, h4, h5⟩ := ok_pyRL ds h
    exact ⟨.list ps, by show (toPyRL ds).map _ = _; rw [h1]; rfl, h2, h3, Nat.succ_le_succ h4, h5⟩
theorem ok_pyRL : ∀ (ds : List D), okL ds = true → ∃ ps, toPyRL ds = some ps ∧ PyData.showableAll ps = true ∧ PyData.leavesShortAll 70 ps = true ∧ PyData.depthAll ps ≤ hL ds ∧ PyData.weightAll ps ≤ wL ds
  | [], _ => ⟨[], rfl, rfl, rfl, Nat.le_refl _, Nat.le_refl _⟩
  | d :: ds, h => by
    obtain ⟨a, b⟩ := Bool.and_eq_true_iff.mp (show (okD d && okL ds) = true from h)
    obtain ⟨p, h1, h2, h3, h4, h5⟩ := ok_pyR d a
    obtain ⟨ps, g1, g2, g3, g4, g5⟩ := ok_pyRL ds b
    refine ⟨p :: ps, by show (toPyR d).bind _ = _; rw [h1, g1]; rfl, by rw [PyData.showableAll, h2, g2]; rfl, by rw [PyData.leavesShortAll, h3, g3]; rfl, ?_, ?_⟩
    · rw [PyData.depthAll, hL]
      exact Nat.max_le.mpr ⟨Nat.le_trans h4 (Nat.le_max_left _ _), Nat.le_trans g4 (Nat.le_max_right _ _)⟩
    · rw [PyData.weightAll, wL]
      omega
end
theorem repr_any {d : D} (h : okD d = true) (l : hD d ≤ 64) (m : wD d ≤ 200000) : ∃ x, ∀ st, bReprA [d] st = some (.str x) := by
  obtain ⟨p, h1, h2, h3, h4, h5⟩ := ok_pyR d h
  have hs : p.shown.length ≤ sizeLine := by
    have := PyData.shown_le 70 (by decide) p h3
    have h6 : (70 + 2) * p.weight ≤ 72 * 200000 := Nat.mul_le_mul_left 72 (Nat.le_trans h5 m)
    rw [sizeLine_eq]
    omega
  exact ⟨p.shown, fun st => by show (toPyR d).bind _ = _; rw [h1, Option.bind_some, if_pos ⟨h2, Nat.le_trans h4 l, hs⟩]⟩
theorem okL_mem {ds : List D} : okL ds = true ↔ ∀ d ∈ ds, okD d = true := by
  induction ds with
  | nil => exact ⟨fun _ _ h => (by cases h), fun _ => rfl⟩
  | cons d ds ih =>
    show (okD d && okL ds) = true ↔ _
    rw [Bool.and_eq_true, ih]
    simp
theorem wL_append : ∀ (xs ys : List D), wL (xs ++ ys) = wL xs + wL ys
  | [], ys => by rw [List.nil_append, wL, Nat.zero_add]
  | x :: xs, ys => by rw [List.cons_append, wL, wL, wL_append xs ys]; omega
theorem wL_mem {ds : List D} {d : D} (h : d ∈ ds) : wD d + 1 ≤ wL ds := by
  induction ds with
  | nil => cases h
  | cons e es ih =>
    rw [wL]
    rcases List.mem_cons.mp h with rfl | h
    · omega
    · have := ih h
      omega
theorem hL_le {n : Nat} {ds : List D} : hL ds ≤ n ↔ ∀ d ∈ ds, hD d ≤ n := by
  induction ds with
  | nil => exact ⟨fun _ _ h => (by cases h), fun _ => Nat.zero_le _⟩
  | cons d ds ih =>
    rw [hL, Nat.max_le, ih]
    simp
end DL
/-! A list of the store: an item replaced; walked for good; tuples times an int. -/
namespace DL
open PySem PySem.Spec PyProof.Rows L2 TL
variable {K : PySem.W.Frag}
section
variable {X : Cx} {W : WXd} {tg iter : Expr}
/-- a list of the store is walked, and written no more -/
def iOfZ (f : F) : FI := fun env st => (f env st).bind fun p => match p.1 with
  | .ref n => (match p.2[n]? with | some (.lst ds) => some (ds, p.2.set n .dead) | _ => none)
  | _ => none
def Rf.drop (r : Rf) (a : Addr) : Rf := ⟨r.adr, fun p => r.av p ∧ p ≠ a, r.lk⟩
theorem drop_ext {r : Rf} {H : Hp} {a : Addr} (h : a ∈ r.adr) : Ext r H (r.drop a) H :=
  ⟨⟨⟨[], by simp [Rf.drop]⟩, fun _ _ z _ => z, fun _ z n => absurd z.1 n⟩, fun p v n => ⟨rfl, ⟨v, fun e => n (e ▸ h)⟩, n⟩, fun _ => Iff.rfl, fun _ _ => rfl⟩
theorem drop_sim {r : Rf} {H : Hp} {st : Store} (s : Sim K r H st) {n : Nat} {a : Addr} (h : r.adr[n]? = some a) : Sim K (r.drop a) H (st.set n .dead) := by
  refine ⟨by rw [List.length_set]; exact s.len, s.nd, fun m b o h1 h2 => ?_, fun p v => s.there p v.1, s.old, s.lkd⟩
  by_cases z : n = m
  · subst z
    by_cases hl : n < st.length
    · rw [List.getElem?_set_self hl] at h2
      cases h2
      trivial
    · rw [List.getElem?_eq_none (by rw [List.length_set]; omega)] at h2
      cases h2
  · rw [List.getElem?_set_ne z] at h2
    have nb : b ≠ a := fun y => z (by
      subst y
      obtain ⟨l1, e1⟩ := List.getElem?_eq_some_iff.mp h
      obtain ⟨l2, e2⟩ := List.getElem?_eq_some_iff.mp h1
      exact (List.getElem_inj s.nd).mp (e1.trans e2.symm))
    exact (s.ob m b o h1 h2).ex (drop_ext (List.mem_of_getElem? h)).toEx fun v => ⟨rfl, v, nb⟩
theorem di_frz {f : F} (h : DE X iter f) : DI X tg iter (iOfZ f) := weakI (pi_list h) fun σ H R hh => by
  obtain ⟨r, env, st, ds, st', he, hs, hf, q⟩ := hh
  obtain ⟨⟨d, s1⟩, h1, h2⟩ := Option.bind_eq_some_iff.mp hf
  cases d with
  | ref n =>
    have h2' : (match s1[n]? with | some (.lst ds) => some (ds, s1.set n .dead) | _ => none) = some (ds, st') := h2
    split at h2'
    · rename_i es hst
      cases h2'
      refine ⟨r, env, st, _, s1, he, hs, h1, fun v r1 H1 e1 q1 p1 => ?_⟩
      obtain ⟨a, rfl, ha⟩ := p1.refI
      obtain ⟨av, xs, hx, l⟩ := q1.ob _ a _ ha hst
      have ex := drop_ext (H := H1) (List.mem_of_getElem? ha)
      have na : ¬ (r1.drop a).av a := fun z => z.2 rfl
      exact ⟨a, rfl, ⟨xs, .of hx⟩, q _ _ H1 (e1.trans ex) (drop_sim q1 ha) (sql_ok rfl (fun r2 H2 e2 => .of (e2.keep _ _ hx na)) (l.ext ex))⟩
    · cases h2'
  | _ => cases h2
theorem RepL.set {r : Rf} {H : Hp} {v : V} {d : D} (q : Rep K r H v d) : ∀ {vs : List V} {ds : List D} (j : Nat), RepL K r H vs ds → RepL K r H (vs.set j v) (ds.set j d)
  | _, _, _, .nil => .nil
  | _, _, 0, .cons a b => .cons q b
  | _, _, j + 1, .cons a b => .cons a (RepL.set q j b)
/-- o[i] = v, o a list of the store -/
def sPutL (fo fk fv : F) : FS := fun env st => (fv env st).bind fun p => (fo env p.2).bind fun q => (fk env q.2).bind fun w => match q.1, w.1 with
  | .ref n, .int i => (match w.2[n]? with
    | some (.lst ds) => (ixN ds.length i).bind fun j => some (.nx, env, w.2.set n (.lst (ds.set j p.1)))
    | _ => none)
  | _, _ => none
theorem ds_putL {o i value : Expr} {fo fk fv : F} {pos pos' : Pos} (ho : DE X o fo) (hi : DE X i fk) (hv : DE X value fv) (hs : swapsWithSole [.Subscript o i pos'] value pos.line X.env = pure false := by rfl) (hw : swappedStores [.Subscript o i pos'] value X.env = pure none := by rfl)
    (h1 : (assignEach [.Subscript o i pos'] X.env).map (·.2) = [assign (.Subscript o i pos') X.env] := by rfl)
    (ha : ∀ v, assign (.Subscript o i pos') X.env v = (do let ov ← holding [v] (eval o X.env); let iv ← holding [v, ov] (eval i X.env); standAt pos'; holding [v, ov, iv] (setItem ov iv v); release [v, ov, iv] []) := by intro _; rfl) :
    DS X W (.Assign [.Subscript o i pos'] value pos) (sPutL fo fk fv) := weakS (ps_asg hv (pg_sub ho hi set_list ha) hs hw h1) fun D' σ H hh => by
  obtain ⟨r, env, st, out, env', st', he, hs, hf, q⟩ := hh
  obtain ⟨⟨x, s1⟩, h1, hf1⟩ := Option.bind_eq_some_iff.mp hf
  obtain ⟨⟨y, s2⟩, h2, hf2⟩ := Option.bind_eq_some_iff.mp hf1
  obtain ⟨⟨z, s3⟩, h3, hf3⟩ := Option.bind_eq_some_iff.mp hf2
  cases y with
  | ref n =>
    cases z with
    | int k =>
      simp only at hf3
      split at hf3
      · rename_i ds hst
        obtain ⟨j, hj, hf4⟩ := Option.bind_eq_some_iff.mp hf3
        cases hf4
        refine ⟨r, env, st, x, s1, he, hs, h1, fun xv r1 H1 e1 q1 p1 => ⟨r1, env, s1, _, s2, he.ext e1, q1, h2, fun yv r2 H2 e2 q2 p2 => ⟨r2, env, s2, _, s3, (he.ext e1).ext e2, q2, h3, fun zv r3 H3 e3 q3 p3 => ?_⟩⟩⟩
        cases p3
        obtain ⟨p, rfl, hp⟩ := (p2.ext e3).refI
        obtain ⟨av, xs, hx, l⟩ := q3.ob _ p _ hp hst
        have px : Rep X.K r3 H3 xv x := (p1.ext e2).ext e3
        refine ⟨p, xs, k, j, rfl, rfl, hx, by rw [l.len]; exact hj, ?_⟩
        have ee : Ex r3 H3 r3 (upd H3 p (.lst (xs.set j xv))) := ⟨⟨[], by simp⟩, fun a o w m => by rw [upd_ne (fun y => m (by rw [y]; exact av))]; exact w, fun a w m => absurd w m⟩
        obtain ⟨w1, w2⟩ := q3.set (o := .lst (xs.set j xv)) (ob := .lst (ds.set j x)) hp av ⟨av, _, upd_same, (RepL.set px j l).ex ee⟩ (fun _ _ z => by rw [hx] at z; cases z)
        exact q σ r3 _ (((e1.trans e2).trans e3).trans w1) ((((he.ext e1).ext e2).ext e3).ext w1) w2
      · cases hf3
    | _ => cases hf3
  | _ => cases hf3
/-- (x, ..) * n -/
def mulT : D → D → Option D := fun a b => match a, b with
  | .tup xs, .int n => if xs ≠ [] ∧ 2 ≤ n ∧ n ≤ 1000 ∧ xs.length ≤ 1000 then some (.tup (List.replicate n.toNat xs).flatten) else none
  | _, _ => none
theorem RepL.rep {r : Rf} {H : Hp} {vs : List V} {ds : List D} (l : RepL K r H vs ds) : ∀ n : Nat, RepL K r H (List.replicate n vs).flatten (List.replicate n ds).flatten
  | 0 => .nil
  | n + 1 => by
    rw [List.replicate_succ, List.replicate_succ, List.flatten_cons, List.flatten_cons]
    exact l.append (RepL.rep l n)
theorem ok_mulT : OpOk X (binaryOp .Mult) mulT := ⟨_, op_repF, fun rho H x y a b d st Q si ra rb e q => by
  unfold mulT at e
  split at e
  · rename_i xs n
    by_cases c : xs ≠ [] ∧ 2 ≤ n ∧ n ≤ 1000 ∧ xs.length ≤ 1000
    · rw [if_pos c] at e
      cases e
      cases rb
      obtain ⟨p, us, rfl, s1, l1⟩ := ra.sqT
      refine ⟨p, n, us, rfl, rfl, s1, fun z => c.1 ?_, c.2.1, c.2.2.1, by rw [l1.len]; exact c.2.2.2, fun p' o hp hz => q _ _ (same_alloc hp) (fresh_tup si hp hz (l1.rep n.toNat))⟩
      subst z
      cases l1
      rfl
    · rw [if_neg c] at e
      cases e
  · cases e⟩
def opMulA : D → D → Option D := orD opMul mulT
theorem ok_mulA : OpOk X (binaryOp .Mult) opMulA := ok_mul.or ok_mulT
end
end DL
/-! Instances of own classes: objects of the store. -/
namespace DL
open PySem PySem.Spec PyProof.Rows L2 TL
variable {K : PySem.W.Frag}
/-- the class c, at C -/
structure ClsAt (K : PySem.W.Frag) (c : Str) (C : Addr) : Prop where
  at_ : PySem.W.nsIn K mainGlobals c = some (some (.ref C))
  cls : Cls K C
/-- the instance at n, of class c -/
def insAt (c : Str) (n : Nat) (st : Store) : Option (List (Str × D)) := match st[n]? with
  | some (.ins c' fs) => if c' = c then some fs else none
  | _ => none
theorem insAt_some {c : Str} {n : Nat} {st : Store} {fs : List (Str × D)} (h : insAt c n st = some fs) : st[n]? = some (.ins c fs) := by
  unfold insAt at h
  split at h
  · rename_i c' gs e
    by_cases z : c' = c
    · rw [if_pos z] at h
      cases h
      rw [← z]
      exact e
    · rw [if_neg z] at h
      cases h
  · cases h
theorem fields_get {r : Rf} {H : Hp} {f : Str} : ∀ {vs : List (Str × V)} {fs : List (Str × D)} {d : D}, vs.map (·.1) = fs.map (·.1) → RepL K r H (vs.map (·.2)) (fs.map (·.2)) → fs.lookup f = some d → ∃ v, vs.lookup f = some v ∧ Rep K r H v d
  | [], [], d, _, _, h => by cases h
  | (g, v) :: vs, (g', e) :: fs, d, n, l, h => by
    injection n with n1 n2
    have n1' : g = g' := n1
    subst n1'
    cases l with
    | cons a b =>
      rw [List.lookup_cons] at h ⊢
      cases z : f == g with
      | true =>
        rw [z] at h
        cases h
        exact ⟨v, rfl, a⟩
      | false =>
        rw [z] at h
        exact fields_get n2 b h
theorem fields_none {f : Str} : ∀ {vs : List (Str × V)} {fs : List (Str × D)}, vs.map (·.1) = fs.map (·.1) → fs.lookup f = none → vs.lookup f = none
  | [], [], _, _ => rfl
  | (g, v) :: vs, (g', e) :: fs, n, h => by
    injection n with n1 n2
    have n1' : g = g' := n1
    subst n1'
    rw [List.lookup_cons] at h ⊢
    cases z : f == g with
    | true =>
      rw [z] at h
      cases h
    | false =>
      rw [z] at h
      exact fields_none n2 h
/-- a field set -/
def putFD (f : Str) (d : D) : List (Str × D) → List (Str × D)
  | [] => [(f, d)]
  | (g, x) :: r => if g = f then (g, d) :: r else (g, x) :: putFD f d r
theorem fields_put {r : Rf} {H : Hp} {f : Str} {v : V} {d : D} (q : Rep K r H v d) : ∀ {vs : List (Str × V)} {fs : List (Str × D)}, vs.map (·.1) = fs.map (·.1) → RepL K r H (vs.map (·.2)) (fs.map (·.2)) →
    (putF f v vs).map (·.1) = (putFD f d fs).map (·.1) ∧ RepL K r H ((putF f v vs).map (·.2)) ((putFD f d fs).map (·.2))
  | [], [], _, _ => ⟨rfl, .cons q .nil⟩
  | (g, x) :: vs, (g', e) :: fs, n, l => by
    injection n with n1 n2
    have n1' : g = g' := n1
    subst n1'
    cases l with
    | cons a b =>
      unfold putF putFD
      by_cases z : g = f
      · rw [if_pos z, if_pos z]
        exact ⟨by rw [List.map_cons, List.map_cons, n2], .cons q b⟩
      · rw [if_neg z, if_neg z]
        obtain ⟨h1, h2⟩ := fields_put q n2 b
        exact ⟨by rw [List.map_cons, List.map_cons, h1], .cons a h2⟩
section
variable {X : Cx} {W : WXd}
/-- o.f -/
def fFld (c f : Str) (fo : F) : F := fun env st => (fo env st).bind fun p => match p.1 with
  | .ref n => (insAt c n p.2).bind fun fs => (fs.lookup f).map fun d => (d, p.2)
  | _ => none
theorem de_fld {c f : Str} {C : Addr} {e : Expr} {fo : F} {pos : Pos} (hc : ClsAt X.K c C) (na : NoAttr X.K C f) (he : DE X e fo) (hb : attributeBase e f X.env (eval e X.env) = eval e X.env := by rfl) : DE X (.Attribute e f pos) (fFld c f fo) :=
  weakE (pe_fld he hb) fun σ H Q hh => by
  obtain ⟨r, env, st, d, st', he, hs, hf, q⟩ := hh
  obtain ⟨⟨x, s1⟩, h1, h2⟩ := Option.bind_eq_some_iff.mp hf
  cases x with
  | ref n =>
    obtain ⟨fs, h3, h4⟩ := Option.bind_eq_some_iff.mp (show ((insAt c n s1).bind fun fs => (fs.lookup f).map fun d => (d, s1)) = some (d, st') from h2)
    obtain ⟨d', h5, h6⟩ := Option.map_eq_some_iff.mp h4
    cases h6
    refine ⟨r, env, st, _, _, he, hs, h1, fun v r1 H1 e1 q1 p1 => ?_⟩
    obtain ⟨a, rfl, ha⟩ := p1.refI
    obtain ⟨av, C', dx, vs, hn, hx, nm, l⟩ := q1.ob _ a _ ha (insAt_some h3)
    rw [hc.at_] at hn
    cases hn
    obtain ⟨w, hw, rw'⟩ := fields_get nm l h5
    exact ⟨a, C, dx, vs, w, rfl, hx, hc.cls, na, hw, q w r1 H1 e1 q1 rw'⟩
  | _ => cases h2
/-- o.f = e -/
def sFldD (c f : Str) (fo fv : F) : FS := fun env st => (fv env st).bind fun p => (fo env p.2).bind fun q => match q.1 with
  | .ref n => (insAt c n q.2).bind fun fs => if fs.length < 1000 then some (.nx, env, q.2.set n (.ins c (putFD f p.1 fs))) else none
  | _ => none
theorem ds_fld {c f : Str} {C : Addr} {o value : Expr} {fo fv : F} {pos pos' : Pos} (hc : ClsAt X.K c C) (na : NoAttr X.K C f) (ho : DE X o fo) (hv : DE X value fv) (hs : swapsWith value (some (.Attribute o f pos')) pos.line X.env = pure false := by rfl) :
    DS X W (.Assign [.Attribute o f pos'] value pos) (sFldD c f fo fv) := weakS (ps_fld ho hv hs) fun D' σ H hh => by
  obtain ⟨r, env, st, out, env', st', he, hs, hf, q⟩ := hh
  obtain ⟨⟨x, s1⟩, h1, hf1⟩ := Option.bind_eq_some_iff.mp hf
  obtain ⟨⟨y, s2⟩, h2, hf2⟩ := Option.bind_eq_some_iff.mp hf1
  cases y with
  | ref n =>
    obtain ⟨fs, h3, h4⟩ := Option.bind_eq_some_iff.mp (show ((insAt c n s2).bind fun fs => if fs.length < 1000 then some (Out.nx, env, s2.set n (.ins c (putFD f x fs))) else none) = some (out, env', st') from hf2)
    by_cases hl : fs.length < 1000
    case neg => rw [if_neg hl] at h4; cases h4
    rw [if_pos hl] at h4
    cases h4
    refine ⟨r, env, st, x, s1, he, hs, h1, fun xv r1 H1 e1 q1 p1 => ⟨r1, env, s1, _, s2, he.ext e1, q1, h2, fun yv r2 H2 e2 q2 p2 => ?_⟩⟩
    obtain ⟨a, rfl, ha⟩ := p2.refI
    obtain ⟨av, C', dx, vs, hn, hx, nm, l⟩ := q2.ob _ a _ ha (insAt_some h3)
    have hn0 := hn
    rw [hc.at_] at hn
    cases hn
    have px : Rep X.K r2 H2 xv x := p1.ext e2
    have lv : vs.length = fs.length := by
      have := congrArg List.length nm
      rwa [List.length_map, List.length_map] at this
    obtain ⟨g1, g2⟩ := fields_put (f := f) px nm l
    refine ⟨a, C, dx, vs, rfl, hx, hc.cls, na, by rw [lv]; exact hl, ?_⟩
    have ee : Ex r2 H2 r2 (upd H2 a (.ins C dx (putF f xv vs))) := ⟨⟨[], by simp⟩, fun b o w m => by rw [upd_ne (fun y => m (by rw [y]; exact av))]; exact w, fun b w m => absurd w m⟩
    obtain ⟨w1, w2⟩ := q2.set (o := .ins C dx (putF f xv vs)) (ob := .ins c (putFD f x fs)) ha av ⟨av, C, dx, _, hn0, upd_same, g1, g2.ex ee⟩ (fun _ _ z => by rw [hx] at z; cases z)
    exact q σ r2 _ ((e1.trans e2).trans w1) (((he.ext e1).ext e2).ext w1) w2
  | _ => cases hf2
/-- o.m(e, ..) -/
def noF (m : Str) (o : Option (List (Str × D))) : Bool := match o with | some fs => (fs.lookup m).isNone | none => false
def fMeth (c m : Str) (mm : FM) (fo : F) (fa : FA) : F := fun env st => (fo env st).bind fun p => match p.1 with
  | .ref n => if noF m (insAt c n p.2) = true then (fa env p.2).bind fun q => mm (.ref n :: q.1) q.2 else none
  | _ => none
variable {k : Nat} {f C : Addr} {fd : FuncData} {ps : List Str} {mm : FM} {c m : Str} {apos pos : Pos} {o e : Expr} {es : List Expr}
theorem de_meth {pl : Sem Bool} (hc : ClsAt X.K c C) (hm : Meth X.K C m f) (Fd : FnD X.prog X.w X.K X.mg X.base k f fd ps mm) (gx : GX X k) (hb : Binds X.K fd ps []) {fo : F} {fa : FA} (ho : DE X o fo) (ha : DA X (e :: es) fa) (hl : (e :: es).length + 1 = ps.length := by rfl)
    (hst : starEach (e :: es) X.env = (false, eval e X.env) :: starEach es X.env := by rfl) (hpl : (backTo pos (starEach es X.env)).any (·.1) = false := by rfl)
    (ht : eval (.Call (.Attribute o m apos) (e :: es) [] pos) X.env = (do let ov ← eval o X.env; standAt apos.atName; let (f, first) ← holding [ov] (getMethod ov m pl); callWith pos f first (backTo pos (starEach (e :: es) X.env)) (backToKw pos (keywordEach [] X.env))) := by rfl)
    (hn : ∀ env st ds st', fa env st = some (ds, st') → ds.length = (e :: es).length) :
    DE X (.Call (.Attribute o m apos) (e :: es) [] pos) (fMeth c m mm fo fa) := by
  refine ⟨fun pins s σ H Q I h => ?_⟩
  obtain ⟨r, env, st, d, st', he', hs, hf, q⟩ := h
  obtain ⟨⟨x, s1⟩, h1, h2⟩ := Option.bind_eq_some_iff.mp hf
  cases x with
  | ref n =>
    have h2' : (if noF m (insAt c n s1) = true then (fa env s1).bind fun q => mm (.ref n :: q.1) q.2 else none) = some (d, st') := h2
    by_cases hz : noF m (insAt c n s1) = true
    case neg => rw [if_neg hz] at h2'; cases h2'
    rw [if_pos hz] at h2'
    obtain ⟨⟨ds, s2⟩, h3, h4⟩ := Option.bind_eq_some_iff.mp h2'
    refine PySem.W.methodCall_KW (pl := pl) (thn (ho.run pins s σ H (fun v H1 => ∃ a r1 C' dx vs, v = .ref a ∧ r1.adr[n]? = some a ∧ H1 a = some (.ins C' dx vs) ∧ C' = C ∧ vs.lookup m = none ∧ Ext r H r1 H1 ∧ Sim X.K r1 H1 s1) I ⟨r, env, st, _, s1, he', hs, h1, fun v r1 H1 e1 q1 p1 => ?_⟩) fun u sa hq => ?_) ht
    · obtain ⟨a, rfl, hadr⟩ := p1.refI
      cases hi : insAt c n s1 with
      | none => rw [hi] at hz; cases hz
      | some fs =>
        rw [hi] at hz
        obtain ⟨av, C', dx, vs, hn', hx, nm, l⟩ := q1.ob _ a _ hadr (insAt_some hi)
        rw [hc.at_] at hn'
        cases hn'
        exact ⟨a, r1, C, dx, vs, rfl, hadr, hx, rfl, fields_none nm (Option.isNone_iff_eq_none.mp hz), e1, q1⟩
    · obtain ⟨x, H1, I1, rx, a, r1, C', dx, vs, rfl, hadr, hx, rfl, hno, e1, q1⟩ := hq
      cases rx
      refine getmeth_ok I1 hx hc.cls hm hno ?_
      refine PySem.W.callWith_K (first := [.ref a]) (h₀ := X.base) I.ok.mod.kin hm.kp (thn (ha.run pos pins sa σ H1 (fun vs H2 => ∃ r2, Ext r1 H1 r2 H2 ∧ Sim X.K r2 H2 s2 ∧ RepL X.K r2 H2 vs ds) I1 ⟨r1, env, s1, ds, s2, he'.ext e1, q1, h3, fun vs r2 H2 e2 q2 l2 => ⟨r2, e2, q2, l2⟩⟩) fun us sb hz => ?_) hst hpl
      obtain ⟨vs2, H2, I2, rv, r2, e2, q2, l2⟩ := hz
      exact ⟨I2.kIn, runD (us := .ref a :: us) (vs := .ref a :: vs2) Fd gx hb I2 (.cons rfl rv) (by rw [List.length_cons, l2.len, hn _ _ _ _ h3]; exact hl) (.cons (.ref (e2.get hadr)) l2) q2 h4 fun v r3 H3 e3 q3 p3 => q v r3 H3 ((e1.trans e2).trans e3) q3 p3⟩
  | _ => cases h2
/-- C(e, ..) -/
theorem make_guards {A : Around} {C : Addr} {us : List Value} {kw : List (Str × Value)} : (A.under (.builtin "type.__call__" ⟨.ref C :: us, kw⟩)).guards = A.guards := by
  first
    | rfl
    | simp [Around.under, Code.weight, Code.isCreation, Code.isGuard, Code.isCaller, Code.frames, Code.isFrame, guardIds]
/-- the new instance, on both levels -/
theorem made_sim {r : Rf} {H : Hp} {st : Store} {x dx : Addr} (hs : Sim X.K r H st) (hc : PySem.W.nsIn X.K mainGlobals c = some (some (.ref C))) (nx : H x = none) (nd : H dx = none) (ne : dx ≠ x) :
    ∃ r1, Ext r H r1 (upd (upd H dx (.own x)) x (.ins C dx [])) ∧ Sim X.K r1 (upd (upd H dx (.own x)) x (.ins C dx [])) (st ++ [.ins c []]) ∧ Rep X.K r1 (upd (upd H dx (.own x)) x (.ins C dx [])) (.ref x) (.ref st.length) := by
  have a1 : Same H (upd H dx (.own x)) := same_alloc nd
  have nx1 : upd H dx (.own x) x = none := by rw [upd_ne (Ne.symm ne)]; exact nx
  have q1 := hs.same a1
  obtain ⟨e0, hd0⟩ := hideNew (o := .ins C dx []) q1 nx1
  obtain ⟨w1, w2, w3⟩ := hd0.add (o := .ins C dx []) (ob := .ins c []) e0 q1 nx1 ⟨hd0.av, C, dx, [], hc, upd_same, rfl, .nil⟩
  rw [upd_upd] at w1 w2 w3
  exact ⟨_, (hs.ext a1).trans w1, w2, w3 _ rfl⟩
theorem runMake {pins : List (Addr × Obj)} {σ : L2.St} {H : Hp} {s : Shared} {Q : VK} {us : List Value} {vs : List V} {rho : Rf} {ds : List D} {st st' : Store} (M : Mk X.K C f) (hc : PySem.W.nsIn X.K mainGlobals c = some (some (.ref C)))
    (Fd : FnD X.prog X.w X.K X.mg X.base k f fd ps mm) (gx : GX X (k + 1)) (hb : Binds X.K fd ps []) (I : Inv X pins σ H s) (r : Vals vs us) (hl : vs.length + 1 = ps.length) (rd : RepL X.K rho H vs ds) (hs : Sim X.K rho H st)
    (hm : mm (.ref st.length :: ds) (st ++ [.ins c []]) = some (.non, st')) (hq : ∀ v rho' H', Ext rho H rho' H' → Sim X.K rho' H' st' → Rep X.K rho' H' v (.ref st.length) → Q v H') :
    wpAny (model X.prog X.w) X.A (call (.ref C) us) (EP X pins σ Q) X.xe s := by
  obtain ⟨r1, e1, s1, p1⟩ := made_sim (c := c) (C := C) hs hc (I.hok.fresh (Nat.le_succ s.heap.objs.size)) (I.hok.fresh (Nat.le_refl s.heap.objs.size)) (Nat.ne_of_lt (Nat.lt_succ_self s.heap.objs.size))
  have I2 := Inv.made (C := C) I
  have r2 : Vals (V.ref (s.heap.objs.size + 1) :: vs) (Value.ref (s.heap.objs.size + 1) :: us) := .cons rfl r
  have hu : (Value.ref (s.heap.objs.size + 1) :: us).length = ps.length := by rw [List.length_cons, ← r.length]; exact hl
  have hbt := hb { s with heap := (s.heap.push PySem.W.emptyDict).push (PySem.W.instObj C s.heap.objs.size) } (Value.ref (s.heap.objs.size + 1) :: us) I2.kIn (by rw [List.append_nil]; exact hu)
  rw [List.append_nil] at hbt
  refine wpAny_call (make_map (f := f) I.kIn M.makes M.init (beq_iff_eq.mp M.fn) (codeAny_mono (Fd.run _ X.stack _ _ ⟨Value.ref (s.heap.objs.size + 1) :: us, []⟩ (Value.ref (s.heap.objs.size + 1) :: us) _ (fun v H2 => v = .non ∧ Q (.ref (s.heap.objs.size + 1)) H2) r1 (.ref st.length :: ds) _ st' .non (make_guards.trans gx.gd) (gx.room.make C us [])
    (I2.env0.make C us []) hbt r2 (by rw [List.length_cons]; exact hl) (.cons p1 (rd.ext e1)) s1 hm fun v r3 H3 e3 q3 p3 => ?_) fun z s' hz => ?_))
  · cases p3
    exact ⟨rfl, hq _ r3 H3 (e1.trans e3) q3 (p1.ext e3)⟩
  · cases z with
    | error e => exact False.elim hz
    | ok fl =>
      cases fl with
      | ret u =>
        obtain ⟨v, H', I3, rv, ev, q3⟩ := I2.after hz
        subst ev
        exact ⟨rv, ⟨V.ref (s.heap.objs.size + 1), H', I3, rfl, q3⟩⟩
      | next => exact False.elim hz
      | brk => exact False.elim hz
      | cont => exact False.elim hz
def fMake (c : Str) (mi : FM) (fa : FA) : F := fun env st => (fa env st).bind fun q => (mi (.ref q.2.length :: q.1) (q.2 ++ [.ins c []])).bind fun z => match z.1 with | .non => some (.ref q.2.length, z.2) | _ => none
theorem de_make {x : Str} {p : Pos} (M : Mk X.K C f) (hc : PySem.W.nsIn X.K mainGlobals c = some (some (.ref C))) (Fd : FnD X.prog X.w X.K X.mg X.base k f fd ps mm) (gx : GX X (k + 1)) (hg : Gl X x) (hm : X.mg x = some (.ref C)) (hb : Binds X.K fd ps []) {fa : FA} (ha : DA X (e :: es) fa) (hl : (e :: es).length + 1 = ps.length := by rfl)
    (hdb : (x == ("__debug__" : Str)) = false := by decide) (he : starEach (e :: es) X.env = (false, eval e X.env) :: starEach es X.env := by rfl) (hpl : (backTo pos (starEach es X.env)).any (·.1) = false := by rfl)
    (hn : ∀ env st ds st', fa env st = some (ds, st') → ds.length = (e :: es).length) :
    DE X (.Call (.Name x p) (e :: es) [] pos) (fMake c mm fa) := by
  refine ⟨fun pins s σ H Q I h => wpAny_Call_Name_kw (ld_glob I hg hm ?_ hdb)⟩
  obtain ⟨r, env, st, d, st', he', hs, hf, q⟩ := h
  obtain ⟨⟨ds, s1⟩, h1, h2⟩ := Option.bind_eq_some_iff.mp hf
  obtain ⟨⟨z, s2⟩, h3, h4⟩ := Option.bind_eq_some_iff.mp h2
  have ez : z = .non ∧ d = .ref s1.length ∧ st' = s2 := by
    cases z with
    | non => cases h4; exact ⟨rfl, rfl, rfl⟩
    | _ => cases h4
  obtain ⟨rfl, rfl, rfl⟩ := ez
  refine PySem.W.callWith_K (h₀ := X.base) I.ok.mod.kin M.kp (thn (ha.run pos pins s σ H (fun vs H1 => ∃ r1, Ext r H r1 H1 ∧ Sim X.K r1 H1 s1 ∧ RepL X.K r1 H1 vs ds) I ⟨r, env, st, ds, s1, he', hs, h1, fun vs r1 H1 e1 q1 l1 => ⟨r1, e1, q1, l1⟩⟩) fun us sa hz => ?_) he hpl
  obtain ⟨vs, H1, I1, rv, r1, e1, q1, l1⟩ := hz
  exact ⟨I1.kIn, runMake M hc Fd gx hb I1 rv (by rw [l1.len, hn _ _ _ _ h1]; exact hl) l1 q1 h3 fun v r2 H2 e2 q2 p2 => q v r2 H2 (e1.trans e2) q2 p2⟩
end
end DL
/-! Defs that may raise an own error with one field. -/
namespace DL
open PySem PySem.Spec PyProof.Rows L2 TL
variable {K : PySem.W.Frag}
inductive Rs | val (d : D) | er (c f : Str) (d : D)
abbrev FMX := List D → Store → Option (Rs × Store)
def outX : Option (Out × Lo × Store) → Option (Rs × Store)
  | some (.rt d, _, s) => some (.val d, s)
  | some (.nx, _, s) => some (.val .non, s)
  | some (.er c f d, _, s) => some (.er c f d, s)
  | _ => none
def mOfX (n : Nat) (g : FS) : FMX := fun ds st => outX (g (startD n ds) st)
/-- both ways out -/
def RsOk (K : PySem.W.Frag) (rho : Rf) (H : Hp) (st' : Store) (Q : VK) (E : XK) : Rs → Prop
  | .val d => ∀ v rho' H', Ext rho H rho' H' → Sim K rho' H' st' → Rep K rho' H' v d → Q v H'
  | .er c f d => ∀ rho' H' C dd, Ext rho H rho' H' → Sim K rho' H' st' → ErrAt K rho' H' c f d C dd → E (.ref C) (some dd) H'
structure FnX (P : Program) (w : World) (K : PySem.W.Frag) (mg : Str → Option Value) (base : Heap) (k : Nat) (f : Addr) (fd : FuncData) (ps : List Str) (m : FMX) : Prop where
  run : ∀ (A : Around) (outer : List Env) (s : Shared) (H : Hp) (args : Args) (us : List Value) (vs : List V) (Q : VK) (E : XK) (rho : Rf) (ds : List D) (st st' : Store) (z : Rs),
    A.guards = some [] → Room k A → Env0 P w K mg base A outer s H → BindsTo s fd args (ps.zip us) → Vals vs us → vs.length = ps.length → RepL K rho H vs ds → Sim K rho H st → m ds st = some (z, st') →
    RsOk K rho H st' Q E z → codeAny (model P w) A (.call (.ref f) args) (CR (L2.CX P w) outer P w H s Q E) s
theorem FnX.up {P : Program} {w : World} {mg : Str → Option Value} {base : Heap} {j k : Nat} {f : Addr} {fd : FuncData} {ps : List Str} {m : FMX} (h : FnX P w K mg base j f fd ps m) (l : j ≤ k) : FnX P w K mg base k f fd ps m :=
  ⟨fun A outer s H args us vs Q E rho ds st st' z hg hr => h.run A outer s H args us vs Q E rho ds st st' z hg (hr.mono l)⟩
abbrev cxX (P : Program) (w : World) (K : PySem.W.Frag) (mg : Str → Option Value) (base : Heap) (N : List Str) (qual : Str) (sc : Scope) (f : Addr) (cd : Value) (A : Around) (outer : List Env) (s : Shared) (H : Hp) (E : XK) : Cx :=
  cxOf (L2.CX P w) P w K mg base N qual sc f cd A outer s H E
/-- where the errors of a body go -/
abbrev wE (E : XK) : WXd := fun cls d _ H => E cls d H
theorem FnX.of {P : Program} {w : World} {mg : Str → Option Value} {base : Heap} {x qual : Str} {sd : Stmt} {f : Addr} {fd : FuncData} {N ps : List Str} {k : Nat} {g : FS} (F : Fun K x qual sd f fd) (S : FnScope N ps (defScope sd))
    (hb : ∀ (cd : Value) (A : Around) (outer : List Env) (s : Shared) (H : Hp) (E : XK), GX (cxX P w K mg base N qual (defScope sd) f cd A outer s H E) k → DSs (cxX P w K mg base N qual (defScope sd) f cd A outer s H E) (wE E) (defBody sd) g) :
    FnX P w K mg base (k + 1) f fd ps (mOfX N.length g) := by
  obtain ⟨oc, od, kV, doc, pm, an, cd, ct, osl, rfl, lk, hcd⟩ := F.ex
  refine ⟨fun A outer s H args us vs Q E rho ds st st' z hgd hr e0 hbind rv hlen rds hs hm hq => ?_⟩
  have hps : ps.length ≤ N.length := by
    have := congrArg List.length S.pre
    rw [List.length_take] at this
    omega
  have KX : K.In s.heap := e0.mod.kin.keeps fun b o e => (e0.bs b o e).1
  have lim : s.heap.NoLimit := e0.mod.nolimit.keeps fun b o e => (e0.bs b o e).1
  have kinds : ∀ y ∈ ps.zip us, (defScope sd).names.lookup y.1 = some .local ∨ ((defScope sd).names.lookup y.1 = some .cell ∧ ((cellsFrom (s.heap.objs.size + 1) (defScope sd).names []).lookup y.1).isSome = true) := fun ⟨n, v⟩ hy =>
    (S.par n (List.of_mem_zip hy).1).elim .inl fun q => .inr ⟨q, PySem.W.cellsFrom_some _ _ _ (.inl q)⟩
  refine codeAny_call_function hr.depth (KX _ _ lk) rfl S.co S.gen rfl (PySem.W.codeRec_of KX hcd) (hbind _ _ _ _ (wpAny_newFunctionEnv_cells S.kind kinds fun env he s1 x => ?_))
  subst he
  refine ⟨lim.keeps x.toInCall.keep, codeAny_func ?_⟩
  have gx : GX (cxX P w K mg base N qual (defScope sd) f cd A outer s H E) k := ⟨rfl, S.nd, hr.deeper _, hgd⟩
  have I0 : Inv (cxX P w K mg base N qual (defScope sd) f cd A outer s H E) [] (L2.start N vs) H s1 := inv_start S hr.hd e0 hlen rv x
  obtain ⟨o, env', h1, h2⟩ : ∃ o env', g (startD N.length ds) st = some (o, env', st') ∧ OutOk K (wE E) rho H { nx := fun _ H' => Q .non H', rt := Q } env' st' o := by
    unfold mOfX at hm
    cases q0 : g (startD N.length ds) st with
    | none => rw [q0] at hm; cases hm
    | some q =>
      obtain ⟨o, e, s2⟩ := q
      rw [q0] at hm
      cases o with
      | rt d' => cases hm; exact ⟨_, _, rfl, hq⟩
      | nx => cases hm; exact ⟨_, _, rfl, fun σ' r' H' ex _ hs' => hq .non r' H' ex hs' .non⟩
      | er c f d => cases hm; exact ⟨_, _, rfl, fun σ' r' H' C dd ex _ hs' er => hq r' H' C dd ex hs' er⟩
      | bk => cases hm
      | ct => cases hm
  have run := (hb cd A outer s H E gx).run [] s1 (L2.start N vs) H { nx := fun _ H' => Q .non H', rt := Q } I0 ⟨rho, _, st, o, env', st', start_env rds (by omega), hs, h1, h2⟩
  have back : ∀ {σ' : L2.St} {H' : Hp} {v : V} {u : Value} {s' : Shared}, Inv (cxX P w K mg base N qual (defScope sd) f cd A outer s H E) [] σ' H' s' → RelV v u → Q v H' → CE outer P w H s Q u s' := fun {σ' H' v u s'} J r z => ⟨v, H', J.os, J.bare, J.base, J.hok, r, z⟩
  refine wpAny_mono run (fun fl s' q => ?_) fun _ _ z => z
  cases fl with
  | ret u =>
    obtain ⟨v, σ', H', J, r, z⟩ := q
    exact back J r z
  | next =>
    obtain ⟨σ', H', J, z⟩ := q
    exact back (v := V.non) (u := Value.none) J rfl z
  | brk => obtain ⟨_, _, _, z⟩ := q; exact z.elim
  | cont => obtain ⟨_, _, _, z⟩ := q; exact z.elim
/-! ### what is called may raise -/
def fCallX (m : FMX) (fa : FA) : Lo → Store → Option (Rs × Store) := fun env st => (fa env st).bind fun p => m p.1 p.2
/-- an expression that may raise -/
abbrev FX := Lo → Store → Option (Rs × Store)
def tX (K : PySem.W.Frag) (W : WXd) (f : FX) : TE := fun σ H Q => ∃ r env st z st', EnvR K r H env σ ∧ Sim K r H st ∧ f env st = some (z, st') ∧ RsOk K r H st' Q (fun cls d H' => W cls d σ H') z
abbrev DX (X : Cx) (W : WXd) (e : Expr) (f : FX) : Prop := PE X e (tX X.K W f)
section
variable {X : Cx} {W : WXd} {k : Nat} {f : Addr} {fd : FuncData} {ps : List Str} {m : FMX} {x : Str} {p pos : Pos} {e : Expr} {es : List Expr}
theorem runX {pins : List (Addr × Obj)} {σ : L2.St} {H : Hp} {s : Shared} {Q : VK} {us : List Value} {vs : List V} {rho : Rf} {ds : List D} {st st' : Store} {z : Rs} (Fd : FnX X.prog X.w X.K X.mg X.base k f fd ps m) (gx : GX X k) (hb : Binds X.K fd ps []) (tk : L2.Takes X W)
    (I : Inv X pins σ H s) (r : Vals vs us) (hl : vs.length = ps.length) (rd : RepL X.K rho H vs ds) (hs : Sim X.K rho H st) (hm : m ds st = some (z, st')) (hq : RsOk X.K rho H st' Q (fun cls d H' => W cls d σ H') z) :
    wpAny (model X.prog X.w) X.A (call (.ref f) us) (EP X pins σ Q) X.xe s := by
  have hu : us.length = ps.length := by rw [← r.length]; exact hl
  have hbt : BindsTo s fd ⟨us, []⟩ (ps.zip us) := by
    have := hb s us I.kIn (by rw [List.append_nil]; exact hu)
    rwa [List.append_nil] at this
  refine wpAny_call (codeAny_mono (Fd.run X.A X.stack s H ⟨us, []⟩ us vs Q (fun cls d H' => W cls d σ H') rho ds st st' z gx.gd gx.room I.env0 hbt r hl rd hs hm hq) fun y s' hz => ?_)
  cases y with
  | error e => exact L2.passAt tk σ pins H s e s' I hz
  | ok fl =>
    cases fl with
    | ret u => exact I.after hz
    | next => exact False.elim hz
    | brk => exact False.elim hz
    | cont => exact False.elim hz
theorem RsOk.ext {rho rho1 : Rf} {H H1 : Hp} {st' : Store} {Q : VK} {E : XK} (e : Ext rho H rho1 H1) : ∀ {z : Rs}, RsOk K rho H st' Q E z → RsOk K rho1 H1 st' Q E z
  | .val _, h => fun v r' H' e' a b => h v r' H' (e.trans e') a b
  | .er _ _ _, h => fun r' H' C dd e' a b => h r' H' C dd (e.trans e') a b
/-- f(e, ..) -/
theorem dx_call (Fd : FnX X.prog X.w X.K X.mg X.base k f fd ps m) (gx : GX X k) (tk : L2.Takes X W) (hg : Gl X x) (hm : X.mg x = some (.ref f)) (hk : PySem.W.keepIn X.K (.ref f) = true) (hb : Binds X.K fd ps []) {fa : FA}
    (ha : DA X (e :: es) fa) (hl : (e :: es).length = ps.length := by rfl) (hdb : (x == ("__debug__" : Str)) = false := by decide) (he : starEach (e :: es) X.env = (false, eval e X.env) :: starEach es X.env := by rfl) (hpl : (backTo pos (starEach es X.env)).any (·.1) = false := by rfl)
    (hn : ∀ env st ds st', fa env st = some (ds, st') → ds.length = (e :: es).length) :
    DX X W (.Call (.Name x p) (e :: es) [] pos) (fCallX m fa) := by
  refine ⟨fun pins s σ H Q I h => wpAny_Call_Name_kw (ld_glob I hg hm ?_ hdb)⟩
  obtain ⟨r, env, st, z, st', he', hs, hf, q⟩ := h
  obtain ⟨⟨ds, s1⟩, h1, h2⟩ := Option.bind_eq_some_iff.mp hf
  refine PySem.W.callWith_K (h₀ := X.base) I.ok.mod.kin hk (thn (ha.run pos pins s σ H (fun vs H1 => ∃ r1, Ext r H r1 H1 ∧ Sim X.K r1 H1 s1 ∧ RepL X.K r1 H1 vs ds) I ⟨r, env, st, ds, s1, he', hs, h1, fun vs r1 H1 e1 q1 l1 => ⟨r1, e1, q1, l1⟩⟩) fun us sa hz => ?_) he hpl
  obtain ⟨vs, H1, I1, rv, r1, e1, q1, l1⟩ := hz
  exact ⟨I1.kIn, runX Fd gx hb tk I1 rv (by rw [l1.len, hn _ _ _ _ h1]; exact hl) l1 q1 h2 (q.ext e1)⟩
/-- return f(e, ..); f(e, ..); x = f(e, ..) -/
def sRetX (f : FX) : FS := fun env st => (f env st).map fun p => match p.1 with | .val d => (.rt d, env, p.2) | .er c fl d => (.er c fl d, env, p.2)
theorem ds_retX {e : Expr} {f : FX} {pos : Pos} (h : DX X W e f) : DS X W (.Return (some e) pos) (sRetX f) := weakS (ps_ret h) fun D' σ H hh => by
  obtain ⟨r, env, st, o, env', st', he, hs, hf, q⟩ := hh
  obtain ⟨⟨z, s1⟩, h1, h2⟩ := Option.map_eq_some_iff.mp hf
  cases z with
  | val d =>
    cases h2
    exact ⟨r, env, st, _, _, he, hs, h1, q⟩
  | er c fl d =>
    cases h2
    exact ⟨r, env, st, _, _, he, hs, h1, fun r' H' C dd ex hs' er => q σ r' H' C dd ex (he.ext ex) hs' er⟩
def sDropX (f : FX) : FS := fun env st => (f env st).map fun p => match p.1 with | .val _ => (.nx, env, p.2) | .er c fl d => (.er c fl d, env, p.2)
theorem ds_exprX {e : Expr} {f : FX} {pos : Pos} (h : DX X W e f) (hs : swapsWith e none pos.line X.env = pure false := by rfl) : DS X W (.Expr e pos) (sDropX f) := weakS (ps_expr h hs) fun D' σ H hh => by
  obtain ⟨r, env, st, o, env', st', he, hs, hf, q⟩ := hh
  obtain ⟨⟨z, s1⟩, h1, h2⟩ := Option.map_eq_some_iff.mp hf
  cases z with
  | val d =>
    cases h2
    exact ⟨r, env, st, _, _, he, hs, h1, fun v r1 H1 e1 q1 _ => q σ r1 H1 e1 (he.ext e1) q1⟩
  | er c fl d =>
    cases h2
    exact ⟨r, env, st, _, _, he, hs, h1, fun r' H' C dd ex hs' er => q σ r' H' C dd ex (he.ext ex) hs' er⟩
def sAsgX (f : FX) (g : FG) : FS := fun env st => (f env st).bind fun p => match p.1 with | .val d => (g d env).map fun e1 => (.nx, e1, p.2) | .er c fl d => some (.er c fl d, env, p.2)
theorem ds_asgX {tg e : Expr} {f : FX} {g : FG} {pos : Pos} (he : DX X W e f) (hg : DG X tg g) (hs : swapsWithSole [tg] e pos.line X.env = pure false := by rfl) (hw : swappedStores [tg] e X.env = pure none := by rfl)
    (h1 : (assignEach [tg] X.env).map (·.2) = [assign tg X.env] := by rfl) : DS X W (.Assign [tg] e pos) (sAsgX f g) := weakS (ps_asg he hg hs hw h1) fun D' σ H hh => by
  obtain ⟨r, env, st, o, env', st', he, hs, hf, q⟩ := hh
  obtain ⟨⟨z, s1⟩, h1, h2⟩ := Option.bind_eq_some_iff.mp hf
  cases z with
  | val d =>
    obtain ⟨e1, h3, h4⟩ := Option.map_eq_some_iff.mp (show ((g d env).map fun e1 => (Out.nx, e1, s1)) = some (o, env', st') from h2)
    cases h4
    exact ⟨r, env, st, _, _, he, hs, h1, fun v r1 H1 x1 q1 p1 => ⟨r1, env, d, _, he.ext x1, p1, h3, fun σ' he' => q σ' r1 H1 x1 he' q1⟩⟩
  | er c fl d =>
    cases h2
    exact ⟨r, env, st, _, _, he, hs, h1, fun r' H' C dd ex hs' er => q σ r' H' C dd ex (he.ext ex) hs' er⟩
end
end DL
/-! Targets that are tuples, zip, starred displays, ord, what is never run. -/
namespace DL
open PySem PySem.Spec PyProof.Rows L2 TL
variable {K : PySem.W.Frag}
/-! ### targets -/
def TgsOk (K : PySem.W.Frag) (g : TGs) (is : List Nat) (bd : List D → Option (List D)) : Prop := ∀ r H xs ds σ (Q : L2.St → Hp → Prop) vals, RepL K r H xs ds → bd ds = some vals → (∀ vs, RepL K r H vs vals → Q (setL is vs σ) H) → g xs σ H Q
def bNil : List D → Option (List D) := fun ds => match ds with | [] => some [] | _ => none
def bCons (b : FB) (c : List D → Option (List D)) : List D → Option (List D) := fun ds => match ds with | d :: r => (b d).bind fun x => (c r).map fun y => x ++ y | [] => none
def bTup (n : Nat) (c : List D → Option (List D)) : FB := fun d => match d with | .tup ds => if ds.length = n then c ds else none | _ => none
theorem tgs_nil : TgsOk K gNil [] bNil := fun r H xs ds σ Q vals hr hb q => by
  cases ds with
  | nil =>
    cases hr
    cases hb
    exact ⟨rfl, q [] .nil⟩
  | cons _ _ => cases hb
/-- as many slots as values -/
def BdN (n : Nat) (b : FB) : Prop := ∀ d v, b d = some v → v.length = n
theorem b1_n : BdN 1 b1 := fun d v h => by cases h; rfl
theorem setL_app {α : Type} : ∀ (is js : List Nat) (vs us : List α) (σ : List (Option α)), is.length = vs.length → setL (is ++ js) (vs ++ us) σ = setL js us (setL is vs σ)
  | [], js, [], us, σ, _ => rfl
  | i :: is, js, v :: vs, us, σ, h => by
    show setL (is ++ js) (vs ++ us) (σ.set i (some v)) = setL js us (setL is vs (σ.set i (some v)))
    exact setL_app is js vs us _ (Nat.succ.inj h)
  | [], js, v :: vs, us, σ, h => by cases h
  | i :: is, js, [], us, σ, h => by cases h
theorem repL_split {r : Rf} {H : Hp} : ∀ {vs : List V} {as bs : List D}, RepL K r H vs (as ++ bs) → ∃ us ws, vs = us ++ ws ∧ RepL K r H us as ∧ RepL K r H ws bs
  | vs, [], bs, h => ⟨[], vs, rfl, .nil, h⟩
  | _, a :: as, bs, .cons x y => by
    obtain ⟨us, ws, e, h1, h2⟩ := repL_split y
    exact ⟨_ :: us, ws, by rw [e]; rfl, .cons x h1, h2⟩
theorem tgs_cons {g : TG} {gs : TGs} {is js : List Nat} {b : FB} {c : List D → Option (List D)} (h1 : TgOk K g is b) (hn : BdN is.length b) (h2 : TgsOk K gs js c) : TgsOk K (gCons g gs) (is ++ js) (bCons b c) := fun r H xs ds σ Q vals hr hb q => by
  cases ds with
  | nil => cases hb
  | cons d ds =>
    cases hr with
    | cons ra rb =>
      obtain ⟨x, hx, hb2⟩ := Option.bind_eq_some_iff.mp (show ((b d).bind fun x => (c ds).map fun y => x ++ y) = some vals from hb)
      obtain ⟨y, hy, e⟩ := Option.map_eq_some_iff.mp hb2
      subst e
      refine ⟨_, _, rfl, h1 r H _ d σ _ x ra hx fun vs rv => h2 r H _ ds _ Q y rb hy fun us ru => ?_⟩
      have hl : is.length = vs.length := by rw [rv.len, hn d x hx]
      rw [← setL_app is js vs us σ hl]
      exact q _ (rv.append ru)
theorem tg_tup {gs : TGs} {is : List Nat} {n : Nat} {c : List D → Option (List D)} (h : TgsOk K gs is c) : TgOkR K (RepI K) (gTup K n gs) is (bTup n c) := fun r H x d σ Q vals hr hb q => by
  obtain ⟨a, xs, ds, e, ed, s, l⟩ := hr
  subst ed
  have hb' : (if ds.length = n then c ds else none) = some vals := hb
  by_cases hl : ds.length = n
  · rw [if_pos hl] at hb'
    exact ⟨a, xs, e, s, by rw [l.len]; exact hl, h r H xs ds σ Q vals l hb' q⟩
  · rw [if_neg hl] at hb'
    cases hb'
theorem Rep.repI {r : Rf} {H : Hp} {v : V} {ds : List D} (h : Rep K r H v (.tup ds)) : RepI K r H v (.tup ds) := by
  obtain ⟨a, xs, e, s, l⟩ := h.sqT
  exact ⟨a, xs, ds, e, rfl, s, l⟩
theorem tg_tupR {gs : TGs} {is : List Nat} {n : Nat} {c : List D → Option (List D)} (h : TgsOk K gs is c) : TgOk K (gTup K n gs) is (bTup n c) := fun r H x d σ Q vals hr hb q => by
  cases d with
  | tup ds => exact tg_tup h r H x _ σ Q vals hr.repI hb q
  | _ => cases hb
theorem bTup_n {n m : Nat} {c : List D → Option (List D)} (h : ∀ ds v, c ds = some v → v.length = m) : BdN m (bTup n c) := fun d v e => by
  cases d with
  | tup ds =>
    have e' : (if ds.length = n then c ds else none) = some v := e
    by_cases hl : ds.length = n
    · rw [if_pos hl] at e'
      exact h ds v e'
    · rw [if_neg hl] at e'
      cases e'
  | _ => cases e
theorem bNil_n : ∀ ds v, bNil ds = some v → v.length = 0 := fun ds v e => by
  cases ds with
  | nil => cases e; rfl
  | cons _ _ => cases e
theorem bCons_n {k m : Nat} {b : FB} {c : List D → Option (List D)} (h1 : BdN k b) (h : ∀ ds v, c ds = some v → v.length = m) : ∀ ds v, bCons b c ds = some v → v.length = k + m := fun ds v e => by
  cases ds with
  | nil => cases e
  | cons d ds =>
    obtain ⟨x, hx, hb2⟩ := Option.bind_eq_some_iff.mp (show ((b d).bind fun x => (c ds).map fun y => x ++ y) = some v from e)
    obtain ⟨y, hy, e⟩ := Option.map_eq_some_iff.mp hb2
    subst e
    rw [List.length_append, h1 d x hx, h ds y hy]
section
variable {X : Cx} {W : WXd} {tg iter : Expr}
/-- a tuple's target takes tuples -/
theorem DIR.weak {R R' : RD} {f : FI} (h : DIR X R tg iter f) (i : ∀ r H v d, R r H v d → R' r H v d) : DIR X R' tg iter f := weakI h fun σ H Q hh => by
  obtain ⟨r, env, st, ds, st', he, hs, hf, q⟩ := hh
  exact ⟨r, env, st, ds, st', he, hs, hf, fun J r' H' e' s' j => q J r' H' e' s' fun r1 H1 st1 e1 s1 => ⟨(j r1 H1 st1 e1 s1).1, fun k d hd => ⟨((j r1 H1 st1 e1 s1).2 k d hd).1, fun x H2 y => let ⟨r2, a, b, c⟩ := ((j r1 H1 st1 e1 s1).2 k d hd).2 x H2 y; ⟨r2, a, b, i _ _ _ _ c⟩⟩⟩⟩
/-! ### zip -/
def pairs2 : List D → List D → List D
  | a :: as, b :: bs => .tup [a, b] :: pairs2 as bs
  | _, _ => []
theorem pairs2_len : ∀ as bs : List D, (pairs2 as bs).length = min as.length bs.length
  | [], _ => by simp [pairs2]
  | _ :: _, [] => by simp [pairs2]
  | a :: as, b :: bs => by
    show (pairs2 as bs).length + 1 = _
    rw [pairs2_len as bs, List.length_cons, List.length_cons]
    omega
theorem pairs2_get : ∀ {as bs : List D} {i : Nat} {d : D}, (pairs2 as bs)[i]? = some d → ∃ a b, as[i]? = some a ∧ bs[i]? = some b ∧ d = .tup [a, b]
  | [], _, i, d, h => by simp [pairs2] at h
  | _ :: _, [], i, d, h => by simp [pairs2] at h
  | a :: as, b :: bs, 0, d, h => by
    have e := Option.some.inj (show some (D.tup [a, b]) = some d from h)
    exact ⟨a, b, rfl, rfl, e.symm⟩
  | a :: as, b :: bs, i + 1, d, h => pairs2_get (as := as) (bs := bs) (i := i) (show (pairs2 as bs)[i]? = some d from h)
def asZip : List D → Option (List D) | [.tup as, .tup bs] => some (pairs2 as bs) | _ => none
theorem di_zip {a b : Expr} {fa : FA} {elts : List Expr} {kk : Nat} {tpos p pos : Pos} (hg : Gl X "zip") (hm : X.mg "zip" = none) (ha : DA X [a, b] fa)
    (hs : starEach [a, b] X.env = (false, eval a X.env) :: starEach [b] X.env := by rfl) (hpl : (backTo pos (starEach [b] X.env)).any (·.1) = false := by rfl) :
    DIR X (RepI X.K) (.Tuple elts kk tpos) (.Call (.Name "zip" p) [a, b] [] pos) (iOfA asZip fa) := weakI (RZ.pi_zipA hg hm ha hs hpl) fun σ H R hh => by
  obtain ⟨r, env, st, ds, st', he, hs, hf, q⟩ := hh
  obtain ⟨xs, h1, h2⟩ := iOfA_some hf
  refine ⟨r, env, st, xs, st', he, hs, h1, fun v r1 H1 e1 q1 p1 => ?_⟩
  unfold asZip at h2
  split at h2
  · rename_i as bs
    cases h2
    obtain ⟨u, w, rfl, pa, pb⟩ := lst2 p1
    obtain ⟨a', us, rfl, sa, la⟩ := pa.sqT
    obtain ⟨b', ws, rfl, sb, lb⟩ := pb.sqT
    have pa1 := pa
    have pb1 := pb
    refine ⟨a', b', us, ws, rfl, .inr ⟨sa, sb, q _ r1 H1 e1 q1 fun r2 H2 st2 e2 s2 => ?_⟩⟩
    -- the tuples stand as they stood
    have hk : ∀ {c : Addr} {ys : List V} {es : List D}, SqT X.K H1 c ys → RepL X.K r1 H1 ys es → Rep X.K r1 H1 (.ref c) (.tup es) → ∃ zs, SqT X.K H2 c zs ∧ RepL X.K r2 H2 zs es := fun {c ys es} _ _ p => by
      obtain ⟨c', zs, e', s', l'⟩ := (p.ext e2).sqT
      cases e'
      exact ⟨zs, s', l'⟩
    obtain ⟨us2, sa2, la2⟩ := hk sa la pa1
    obtain ⟨ws2, sb2, lb2⟩ := hk sb lb pb1
    refine ⟨fun i hi => ⟨us2, ws2, sa2, sb2, ?_⟩, fun i d hd => ?_⟩
    · rw [pairs2_len] at hi
      rw [la2.len, lb2.len]
      omega
    · obtain ⟨x, y, hx, hy, ed⟩ := pairs2_get hd
      obtain ⟨vx, hvx, rx⟩ := la2.get hx
      obtain ⟨vy, hvy, ry⟩ := lb2.get hy
      refine ⟨⟨us2, ws2, vx, vy, sa2, sb2, hvx, hvy⟩, fun v H3 ⟨T, x', y', ev, hT, eH, w1, w2⟩ => ?_⟩
      subst ev
      subst eH
      have ex : x' = vx := by
        have := w1 us2 sa2
        rw [hvx] at this
        exact (Option.some.inj this).symm
      have ey : y' = vy := by
        have := w2 ws2 sb2
        rw [hvy] at this
        exact (Option.some.inj this).symm
      subst ex ey
      have sm : Same H2 (upd H2 T (.tup [x', y'])) := same_alloc hT
      exact ⟨r2, s2.ext sm, s2.same sm, T, [x', y'], [x, y], rfl, ed, .inl (.inl upd_same), .cons (rx.ext (s2.ext sm)) (.cons (ry.ext (s2.ext sm)) .nil)⟩
  · cases h2
/-! ### (*xs, a) -/
def asSeq : D → Store → Option (List D) := fun d st => match d with
  | .lst ds => some ds
  | .tup ds => some ds
  | .ref n => (match st[n]? with | some (.lst ds) => some ds | _ => none)
  | _ => none
def aStar (f : F) (g : FA) : FA := fun env st => (f env st).bind fun p => (asSeq p.1 p.2).bind fun ds => (g env p.2).map fun q => (ds ++ q.1, q.2)
theorem asSeq_rep {r : Rf} {H : Hp} {v : V} {d : D} {st : Store} {ds : List D} (h : Rep K r H v d) (si : Sim K r H st) (e : asSeq d st = some ds) : ∃ p xs, v = .ref p ∧ (SqT K H p xs ∨ SqL K H p xs) ∧ RepL K r H xs ds := by
  unfold asSeq at e
  split at e
  · cases e
    cases h with
    | lst a b c => exact ⟨_, _, rfl, .inr (.of a), c⟩
  · cases e
    obtain ⟨a, xs, e, s, l⟩ := h.sqT
    exact ⟨a, xs, e, .inl s, l⟩
  · rename_i n
    obtain ⟨a, rfl, ha⟩ := h.refI
    split at e
    · rename_i es hst
      cases e
      obtain ⟨av, xs, hx, l⟩ := si.ob _ a _ ha hst
      exact ⟨a, xs, rfl, .inr (.of hx), l⟩
    · cases e
  · cases e
theorem da_star {e : Expr} {p : Pos} {es : List Expr} {f : F} {g : FA} (h : DE X e f) (t : DA X es g) (hs : starEach (.Starred e p :: es) X.env = (true, eval e X.env) :: starEach es X.env := by rfl) : DA X (.Starred e p :: es) (aStar f g) :=
  weakA (StX.pa_star h t hs) fun σ H Q hh => by
  obtain ⟨r, env, st, ds, st', he, hs, hf, q⟩ := hh
  obtain ⟨⟨x, s1⟩, h1, hf1⟩ := Option.bind_eq_some_iff.mp hf
  obtain ⟨xs, h2, hf2⟩ := Option.bind_eq_some_iff.mp hf1
  obtain ⟨⟨ys, s2⟩, h3, hf3⟩ := Option.map_eq_some_iff.mp hf2
  cases hf3
  refine ⟨r, env, st, x, s1, he, hs, h1, fun u r1 H1 e1 q1 p1 => ?_⟩
  obtain ⟨p, us, eu, sq, l⟩ := asSeq_rep p1 q1 h2
  exact ⟨p, us, eu, sq, r1, env, s1, ys, _, he.ext e1, q1, h3, fun ws r2 H2 e2 q2 l2 => q (us ++ ws) r2 H2 (e1.trans e2) q2 ((l.ext e2).append l2)⟩
/-! ### ord -/
def bOrd : List D → Store → Option D := fun ds _ => match ds with | [.str x] => if x.length = 1 then some (.int (x.cps.getD 0 0 : Nat)) else none | _ => none
theorem ok_ord : CallOk X (.builtin "ord") bOrd := ⟨_, call_ord, fun rho H xs ds d st Q rl si e q => by
  unfold bOrd at e
  split at e
  · split at e
    · rename_i z hz
      cases e
      obtain ⟨v, rfl, p⟩ := lst1 rl
      cases p
      exact ⟨_, rfl, hz, q _ H (fun _ _ h => h) (.int _)⟩
    · cases e
  · cases e⟩
/-! ### what is never run -/
def sNever : FS := fun _ _ => none
theorem ds_never {s : Stmt} : DS X W s sNever := ⟨fun pins s σ H D I h => by
  obtain ⟨r, env, st, o, env', st', _, _, hf, _⟩ := h
  cases hf⟩
end
end DL
/-! A list of the store is walked (as long as it stands as it stood); a dict is locked and walked. -/
namespace DL
open PySem PySem.Spec PyProof.Rows L2 TL
/-- the walk goes on while the store is as P says -/
noncomputable def okP (P : Store → Prop) (st : Store) : Bool := @decide (P st) (Classical.propDecidable _)
theorem okP_t {P : Store → Prop} {st : Store} (h : P st) : okP P st = true := @decide_eq_true _ (Classical.propDecidable _) h
theorem okP_p {P : Store → Prop} {st : Store} (h : okP P st = true) : P st := @of_decide_eq_true _ (Classical.propDecidable _) h
variable {K : PySem.W.Frag}
abbrev FIg := Lo → Store → Option (List D × (Store → Prop) × Store)
def ItOkG (K : PySem.W.Frag) (R : RD) (P : Store → Prop) (J : It) (r : Rf) (H : Hp) (ds : List D) : Prop :=
  ∀ r1 H1 st1, Ext r H r1 H1 → Sim K r1 H1 st1 → P st1 → (∀ i, ds.length ≤ i → J.stop i H1) ∧
    ∀ (i : Nat) d, ds[i]? = some d → J.go i H1 ∧ ∀ x H2, J.yld i H1 x H2 → ∃ r2, Ext r1 H1 r2 H2 ∧ Sim K r2 H2 st1 ∧ R r2 H2 x d
def tIG (K : PySem.W.Frag) (RR : RD) (f : FIg) : TI := fun σ H R => ∃ r env st ds P st', EnvR K r H env σ ∧ Sim K r H st ∧ f env st = some (ds, P, st') ∧ ∀ J r' H', Ext r H r' H' → Sim K r' H' st' → ItOkG K RR P J r' H' ds → R J H'
abbrev DIG (X : Cx) (RR : RD) (tg iter : Expr) (f : FIg) : Prop := PI X tg iter (tIG X.K RR f)
noncomputable def loopSG (P : Store → Prop) (tg : FG) (body : FS) : List D → Lo → Store → Option (Out × Lo × Store)
  | [], env, st => if okP P st = true then some (.nx, env, st) else none
  | d :: ds, env, st => if okP P st = true then (tg d env).bind fun e1 => (body e1 st).bind fun p => match p with
    | (.nx, e2, s2) => loopSG P tg body ds e2 s2
    | (.ct, e2, s2) => loopSG P tg body ds e2 s2
    | (.bk, e2, s2) => some (.nx, e2, s2)
    | (.rt v, e2, s2) => some (.rt v, e2, s2)
    | (.er c f v, e2, s2) => some (.er c f v, e2, s2) else none
noncomputable def sForG (fi : FIg) (tg : FG) (body : FS) : FS := fun env st => (fi env st).bind fun p => loopSG p.2.1 tg body p.1 env p.2.2
section
variable {X : Cx} {W : WXd} {tg iter : Expr}
theorem ds_forG {RR : RD} {body : List Stmt} {fi : FIg} {g : FG} {b : FS} {pos : Pos} (hp : PassesOwn (model X.prog X.w) X.A X.env X.xe) (hc : X.calm = true) (hi : DIG X RR tg iter fi) (hg : DGR X RR tg g) (hb : DSs X W body b)
    (hs : ∀ x, foldedSetIterable iter X.env x = pure x := by intro _; rfl) : DS X W (.For tg iter body [] pos) (sForG fi g b) := weakS (ps_for hp hc hi hg hb hs) fun D' σ H hh => by
  obtain ⟨r, env, st, o, env', st', he, hs, hf, q⟩ := hh
  obtain ⟨⟨ds, P, s1⟩, h1, h2⟩ := Option.bind_eq_some_iff.mp hf
  refine ⟨r, env, st, ds, P, s1, he, hs, h1, fun J r1 H1 e1 q1 j1 => ?_⟩
  refine ⟨fun i m σ2 H2 => m = ds.length - i ∧ i ≤ ds.length ∧ ∃ r2 env2 st2, Ext r1 H1 r2 H2 ∧ EnvR X.K r2 H2 env2 σ2 ∧ Sim X.K r2 H2 st2 ∧ loopSG P g b (ds.drop i) env2 st2 = some (o, env', st'),
    ⟨_, rfl, Nat.zero_le _, r1, env, s1, .refl _ _, he.ext e1, q1, h2⟩, ?_⟩
  rintro i m σ2 H2 ⟨rfl, hi, r2, env2, st2, e2, he2, hs2, h3⟩
  by_cases hlt : i < ds.length
  · have hd : ds[i]? = some ds[i] := List.getElem?_eq_getElem hlt
    rw [List.drop_eq_getElem_cons hlt] at h3
    unfold loopSG at h3
    by_cases hP : okP P st2 = true
    case neg => rw [if_neg hP] at h3; cases h3
    rw [if_pos hP] at h3
    obtain ⟨jst, jgo⟩ := j1 r2 H2 st2 e2 hs2 (okP_p hP)
    obtain ⟨env3, g1, h4⟩ := Option.bind_eq_some_iff.mp h3
    obtain ⟨⟨o4, env4, st4⟩, g2, h5⟩ := Option.bind_eq_some_iff.mp h4
    obtain ⟨j2, j3⟩ := jgo i _ hd
    refine .inr ⟨j2, fun σ' H' => i + 1 ≤ ds.length ∧ ∃ r2 env2 st2, Ext r1 H1 r2 H' ∧ EnvR X.K r2 H' env2 σ' ∧ Sim X.K r2 H' st2 ∧ loopSG P g b (ds.drop (i + 1)) env2 st2 = some (o, env', st'),
      fun σ' H' ⟨hi', w⟩ => ⟨ds.length - (i + 1), by omega, rfl, hi', w⟩, fun x H3 y => ?_⟩
    obtain ⟨r3, e3, hs3, rx⟩ := j3 x H3 y
    refine ⟨r3, env2, ds[i], env3, he2.ext e3, rx, g1, fun σ3 he3 => ⟨r3, env3, st2, o4, env4, st4, he3, hs3, g2, ?_⟩⟩
    cases o4 with
    | nx => exact fun σ' r' H' e' a c => ⟨by omega, r', env4, st4, (e2.trans e3).trans e', a, c, h5⟩
    | ct => exact fun σ' r' H' e' a c => ⟨by omega, r', env4, st4, (e2.trans e3).trans e', a, c, h5⟩
    | bk =>
      cases h5
      exact fun σ' r' H' e' a c => q σ' r' H' (((e1.trans e2).trans e3).trans e') a c
    | rt v =>
      cases h5
      exact fun v r' H' e' a c => q v r' H' (((e1.trans e2).trans e3).trans e') a c
    | er c' f' v =>
      cases h5
      exact fun σ' r' H' C dd e' a c z => q σ' r' H' C dd (((e1.trans e2).trans e3).trans e') a c z
  · have e : i = ds.length := by omega
    subst e
    rw [List.drop_length] at h3
    unfold loopSG at h3
    by_cases hP : okP P st2 = true
    case neg => rw [if_neg hP] at h3; cases h3
    rw [if_pos hP] at h3
    obtain ⟨jst, jgo⟩ := j1 r2 H2 st2 e2 hs2 (okP_p hP)
    cases h3
    exact .inl ⟨jst _ (Nat.le_refl _), q σ2 r2 H2 (e1.trans e2) he2 hs2⟩
end
noncomputable def loopCG (P : Store → Prop) (is : List Nat) (bd : FB) (t : FT) (f : F) : List D → Lo → Store → Option (List D × Store)
  | [], _, st => if okP P st = true then some ([], st) else none
  | d :: ds, env, st => if okP P st = true then (bd d).bind fun vs => (t (setL is vs env) st).bind fun p => if p.1 = true then (f (setL is vs env) p.2).bind fun q => (loopCG P is bd t f ds env q.2).map fun z => (q.1 :: z.1, z.2) else loopCG P is bd t f ds env p.2 else none
noncomputable def fCompG (fi : FIg) (is : List Nat) (bd : FB) (t : FT) (f : F) : F := fun env st => (fi env st).bind fun p => (loopCG p.2.1 is bd t f p.1 (wipeL env is) p.2.2).bind fun q => if q.1.length ≤ sizeLine then some (.lst q.1, q.2) else none
theorem compReadsG {RR : RD} {fi : FIg} {is : List Nat} {bd : FB} {g : TG} {t : FT} {f : F} (hg : TgOkR K RR g is bd) (σ : L2.St) (H : Hp) (Q : VK) (hh : tD K (fCompG fi is bd t f) σ H Q) : tLc (tIG K RR fi) g (tT K t) (tD K f) is σ H Q := by
  obtain ⟨r, env, st, d, st', he, hs, hf, q⟩ := hh
  obtain ⟨⟨ds, P, s1⟩, h1, h2⟩ := Option.bind_eq_some_iff.mp hf
  obtain ⟨⟨zs, s2⟩, h3, h4⟩ := Option.bind_eq_some_iff.mp h2
  by_cases hz : zs.length ≤ sizeLine
  case neg => rw [if_neg hz] at h4; cases h4
  rw [if_pos hz] at h4
  cases h4
  refine ⟨r, env, st, ds, P, s1, he, hs, h1, fun J r1 H1 e1 q1 j1 Dl hD => ?_⟩
  have m0 := Mkg.start (o := .lst []) q1 hD
  refine ⟨fun k m H2 => m = ds.length - k ∧ k ≤ ds.length ∧ ∃ r2 st2 acc us ys, Mkg K r1 H1 Dl r2 H2 st2 ∧ EnvR K r2 H2 (DL.wipeL env is) (wipe σ is) ∧ H2 Dl = some (.lst us) ∧ RepL K r2 H2 us acc ∧
    loopCG P is bd t f (ds.drop k) (DL.wipeL env is) st2 = some (ys, s2) ∧ acc ++ ys = zs, ⟨_, rfl, Nat.zero_le _, r1.hide Dl, s1, [], [], zs, m0, ((he.ext e1).ext m0.ex).wipeL is, upd_same, .nil, h3, rfl⟩, ?_⟩
  rintro k m H2 ⟨rfl, hk, r2, st2, acc, us, ys, mk, wp, hus, racc, hl, hcat⟩
  by_cases hlt : k < ds.length
  case neg =>
    have e : k = ds.length := by omega
    subst e
    rw [List.drop_length] at hl
    unfold loopCG at hl
    by_cases hP : okP P st2 = true
    case neg => rw [if_neg hP] at hl; cases hl
    rw [if_pos hP] at hl
    obtain ⟨jst, jgo⟩ := j1 r2 H2 st2 mk.ex mk.sim (okP_p hP)
    cases hl
    rw [List.append_nil] at hcat
    subst hcat
    obtain ⟨w1, w2, w3⟩ := mk.show q1 hD
    exact .inl ⟨jst _ (Nat.le_refl _), q (.ref Dl) (r2.shown Dl) H2 (e1.trans w1) w2 (.lst hus (fun z => z.2 rfl) (racc.ex w3))⟩
  case pos =>
    have hd : ds[k]? = some ds[k] := List.getElem?_eq_getElem hlt
    rw [List.drop_eq_getElem_cons hlt] at hl
    unfold loopCG at hl
    by_cases hP : okP P st2 = true
    case neg => rw [if_neg hP] at hl; cases hl
    rw [if_pos hP] at hl
    obtain ⟨jst, jgo⟩ := j1 r2 H2 st2 mk.ex mk.sim (okP_p hP)
    obtain ⟨vals, hv, hl1⟩ := Option.bind_eq_some_iff.mp hl
    obtain ⟨⟨b, st3⟩, hb, hl2⟩ := Option.bind_eq_some_iff.mp hl1
    obtain ⟨j2, j3⟩ := jgo k _ hd
    refine .inr ⟨j2, fun H' => k + 1 ≤ ds.length ∧ ∃ r2 st2 acc us ys, Mkg K r1 H1 Dl r2 H' st2 ∧ EnvR K r2 H' (DL.wipeL env is) (wipe σ is) ∧ H' Dl = some (.lst us) ∧ RepL K r2 H' us acc ∧
      loopCG P is bd t f (ds.drop (k + 1)) (DL.wipeL env is) st2 = some (ys, s2) ∧ acc ++ ys = zs, fun H' ⟨hk', w⟩ => ⟨ds.length - (k + 1), by omega, rfl, hk', w⟩, fun x H3 y => ?_⟩
    obtain ⟨r3, e3, s3, rx⟩ := j3 x H3 y
    have wp3 := wp.ext e3
    refine hg r3 H3 x _ _ _ vals rx hv fun vs rvs => ⟨wipe_setL σ is vs, ?_⟩
    · have he3 : EnvR K r3 H3 (DL.setL is vals (DL.wipeL env is)) (DL.setL is vs (wipe σ is)) := wp3.setL rvs
      refine ⟨r3, _, st2, b, st3, he3, s3, hb, fun r4 H4 e4 s4 => ?_⟩
      cases b with
      | false =>
        rw [if_neg Bool.false_ne_true] at hl2 ⊢
        obtain ⟨m4, k4⟩ := mk.step (e3.trans e4) s4
        exact ⟨hlt, r4, st3, acc, us, ys, m4, wp3.ext e4, k4.trans hus, racc.ext (e3.trans e4), hl2, hcat⟩
      | true =>
        rw [if_pos rfl] at hl2 ⊢
        obtain ⟨⟨yd, st4⟩, hy, hl3⟩ := Option.bind_eq_some_iff.mp hl2
        obtain ⟨⟨ys', st5⟩, hl4, hl5⟩ := Option.map_eq_some_iff.mp hl3
        cases hl5
        refine ⟨r4, _, st3, yd, st4, he3.ext e4, s4, hy, fun yv r5 H5 e5 s5 ry => ?_⟩
        have e25 : Ext r2 H2 r5 H5 := (e3.trans e4).trans e5
        obtain ⟨m5, k5⟩ := mk.step e25 s5
        obtain ⟨m6, g1⟩ := m5.put q1 hD (.lst (us ++ [yv]))
        refine ⟨us, k5.trans hus, ?_, hlt, r5, st4, acc ++ [yd], us ++ [yv], ys', m6, ((wp3.ext e4).ext e5).exx g1, upd_same, ((racc.ext e25).ex g1).append (.cons (ry.ex g1) .nil), hl4, by rw [← hcat, List.append_assoc]; rfl⟩
        rw [racc.len]
        have : (acc ++ yd :: ys').length ≤ sizeLine := by rw [hcat]; exact hz
        rw [List.length_append, List.length_cons] at this
        omega
section
variable {X : Cx} {W : WXd} {tg iter : Expr}
theorem de_lcG {RR : RD} {elt : Expr} {ifs : List Expr} {scope : Scope} {own : List (Str × Nat)} {pos : Pos} {fi : FIg} {bd : FB} {g : TG} {t : FT} {f : F} (hc : X.calm = true) (hN : X.N.Nodup) (hi : DIG X RR tg iter fi) (ok : BlkOk X.N X.env.scope scope own)
    (tk : TgOkR X.K RR g (own.map (·.2)) bd)
    (hg : ∀ (s : Shared) (H : Hp) (C : Addr) (cl : List (Str × Addr)) (fp : List Addr), PG (X.blk s H scope (compEnvC scope cl C X.env) fp) tg g) (ht : ∀ (s : Shared) (H : Hp) (C : Addr) (cl : List (Str × Addr)) (fp : List Addr), DTs (X.blk s H scope (compEnvC scope cl C X.env) fp) ifs t)
    (he : ∀ (s : Shared) (H : Hp) (C : Addr) (cl : List (Str × Addr)) (fp : List Addr), DE (X.blk s H scope (compEnvC scope cl C X.env) fp) elt f) (hs : ∀ x, foldedSetIterable iter X.env x = pure x := by intro _; rfl) :
    DE X (.ListComp elt [⟨tg, iter, ifs, 0⟩] scope pos) (fCompG fi (own.map (·.2)) bd t f) := weakE (pe_lc hc hN hi ok hg ht he hs) fun σ H Q hh => compReadsG tk σ H Q hh
theorem ds_setLcG {RR : RD} {i : Nat} {y : Str} {py : Pos} {elt : Expr} {ifs : List Expr} {scope : Scope} {own : List (Str × Nat)} {pos spos : Pos} {fi : FIg} {bd : FB} {g : TG} {t : FT} {f : F} (hc : X.calm = true) (hN : X.N.Nodup) (hy : X.N[i]? = some y) (hyl : X.env.scope.names.lookup y = some .local)
    (hsw : swapsWith (.ListComp elt [⟨tg, iter, ifs, 0⟩] scope pos) (some (.Name y py)) spos.line X.env = pure true) (hi : DIG X RR tg iter fi) (ok : BlkOk X.N X.env.scope scope own)
    (tk : TgOkR X.K RR g (own.map (·.2)) bd)
    (hg : ∀ (s : Shared) (H : Hp) (C : Addr) (cl : List (Str × Addr)) (fp : List Addr), PG (X.blk s H scope (compEnvC scope cl C X.env) fp) tg g) (ht : ∀ (s : Shared) (H : Hp) (C : Addr) (cl : List (Str × Addr)) (fp : List Addr), DTs (X.blk s H scope (compEnvC scope cl C X.env) fp) ifs t)
    (he : ∀ (s : Shared) (H : Hp) (C : Addr) (cl : List (Str × Addr)) (fp : List Addr), DE (X.blk s H scope (compEnvC scope cl C X.env) fp) elt f) (hs : ∀ x, foldedSetIterable iter X.env x = pure x := by intro _; rfl) :
    DS X W (.Assign [.Name y py] (.ListComp elt [⟨tg, iter, ifs, 0⟩] scope pos) spos) (sAsg (fCompG fi (own.map (·.2)) bd t f) (gN i)) := weakS (ps_setLc hc hN hy hyl hsw hi ok hg ht he hs) fun D' σ H hh => by
  obtain ⟨r, env, st, o, env', st', he, hs, hf, q⟩ := hh
  obtain ⟨⟨d, s1⟩, h1, h2⟩ := Option.bind_eq_some_iff.mp hf
  obtain ⟨e1, h3, h4⟩ := Option.map_eq_some_iff.mp h2
  cases h4
  cases h3
  exact compReadsG tk σ H _ ⟨r, env, st, d, _, he, hs, h1, fun v r1 H1 x1 q1 p1 => q _ r1 H1 x1 ((he.ext x1).set p1 i) q1⟩
/-- a list of the store, as long as it stands as it stood -/
def iRefL (f : F) : FIg := fun env st => (f env st).bind fun p => match p.1 with
  | .ref n => (match p.2[n]? with | some (.lst ds) => some (ds, (fun s => s[n]? = some (.lst ds)), p.2) | _ => none)
  | _ => none
theorem di_refL {f : F} (h : DE X iter f) : DIG X (Rep X.K) tg iter (iRefL f) := weakI (pi_list h) fun σ H R hh => by
  obtain ⟨r, env, st, ds, P, st', he, hs, hf, q⟩ := hh
  obtain ⟨⟨d, s1⟩, h1, h2⟩ := Option.bind_eq_some_iff.mp hf
  cases d with
  | ref n =>
    have h2' : (match s1[n]? with | some (.lst ds) => some (ds, (fun s : Store => s[n]? = some (.lst ds)), s1) | _ => none) = some (ds, P, st') := h2
    split at h2'
    · rename_i es hst
      cases h2'
      refine ⟨r, env, st, _, _, he, hs, h1, fun v r1 H1 e1 q1 p1 => ?_⟩
      obtain ⟨a, rfl, ha⟩ := p1.refI
      obtain ⟨av, xs, hx, l⟩ := q1.ob _ a _ ha hst
      refine ⟨a, rfl, ⟨xs, .of hx⟩, q _ r1 H1 e1 q1 fun r2 H2 st2 e2 s2 hP => ?_⟩
      obtain ⟨av2, ys, hy, l2⟩ := s2.ob _ a _ (e2.get ha) hP
      have sq : SqL X.K H2 a ys := .of hy
      refine ⟨fun i hi => ⟨ys, sq, by rw [l2.len]; exact hi⟩, fun i d hd => ?_⟩
      obtain ⟨v, hv, rv⟩ := l2.get hd
      exact ⟨⟨ys, v, sq, hv⟩, fun x H3 ⟨e, y⟩ => by
        subst e
        have := y ys sq
        rw [hv] at this
        cases this
        exact ⟨r2, .refl _ _, s2, rv⟩⟩
    · cases h2'
  | _ => cases h2
end
/-! the walk of a list that stands: as of any other -/
theorem loopCG_map {P : Store → Prop} {is : List Nat} {bd : FB} {f : F} {g : D → D} {env : Lo} {st : Store} (hP : P st) : ∀ {ds : List D}, (∀ d ∈ ds, ∃ vs, bd d = some vs ∧ f (setL is vs env) st = some (g d, st)) → loopCG P is bd tTrue f ds env st = some (ds.map g, st)
  | [], _ => by unfold loopCG; rw [if_pos (okP_t hP)]; rfl
  | d :: ds, h => by
    obtain ⟨ws, hb, hf⟩ := h d List.mem_cons_self
    have := loopCG_map hP (ds := ds) fun d hd => h d (List.mem_cons_of_mem _ hd)
    simp [loopCG, hb, tTrue, hf, this, okP_t hP]
end DL
/-! enumerate over a tuple, over a list. -/
namespace DL
open PySem PySem.Spec PyProof.Rows L2 TL
theorem enum_new1 {v : Value} {o : Obj} {HH : Heap → Prop} (B : Begins v o HH) : Meets (Builtin.«enumerate.__new__» ⟨[.type "enumerate", v], []⟩) (fun _ R s => HH s.heap ∧ R (.ok (.ret (.ref (s.heap.push o).objs.size))) { s with heap := (s.heap.push o).push { cls := .type "enumerate", data := .fields #[.none, .bool false, .ref s.heap.objs.size, rawInt 0, .none, .none] } }) :=
  .of_wp fun prog w A R s h => by
  obtain ⟨hp, g, d, tk, os⟩ := s
  obtain ⟨hH, hR⟩ := h
  have sb := sub_enumerate
  have it1 : ∀ {A' : Around} {E' : Value → Shared → Prop} {Q' : Value → Shared → Prop}, Q' (.ref hp.objs.size) ⟨hp.push o, g, d, tk, os⟩ → wpAny (model prog w) A' (pyIter v) Q' E' ⟨hp, g, d, tk, os⟩ := fun z => B.iter prog w _ _ ⟨hp, g, d, tk, os⟩ _ hH z
  wp_walk using it1
  refine wpAny_stack_any fun stk => wpAny_pure ?_
  split
  · rename_i c _ _ _ _ _
    cases (c == Value.type "enumerate") <;> (wp_walk using it1; exact ⟨_, rfl, hR⟩)
  · wp_walk using it1
    exact ⟨_, rfl, hR⟩
theorem call_enum1 {prog : Program} {w : World} {A : Around} {E : Value → Shared → Prop} {s : Shared} {v : Value} {o : Obj} {HH : Heap → Prop} {Q : Value → Shared → Prop} (B : Begins v o HH) (hH : HH s.heap)
    (hQ : ∀ h', IsEnum h' (s.heap.objs.size + 1) s.heap.objs.size 0 .none → h'.get? s.heap.objs.size = some o → (∀ b ob, s.heap.get? b = some ob → h'.get? b = some ob) → Q (.ref (s.heap.objs.size + 1)) { s with heap := h' }) : wpAny (model prog w) A (call (.type "enumerate") [v]) Q E s := by
  have sz : (s.heap.push o).objs.size = s.heap.objs.size + 1 := Heap.size_push ..
  have en : IsEnum ((s.heap.push o).push { cls := .type "enumerate", data := .fields #[.none, .bool false, .ref s.heap.objs.size, rawInt 0, .none, .none] }) (s.heap.objs.size + 1) s.heap.objs.size 0 .none := by
    have z := Heap.get?_push_size (s.heap.push o) (o := { cls := .type "enumerate", data := .fields #[.none, .bool false, .ref s.heap.objs.size, rawInt 0, .none, .none] }) rfl
    rw [sz] at z
    exact z
  refine callType_new F.called_enumerate (by decide) (F.typeCall_enumerate_1 _) (F.newCall_enumerate_1 _) (fun ob => F.args_object_init_2 ob _) F.entry_enumerate_new (enum_new1 B) ⟨hH, ?_⟩
  show _ ∧ _
  rw [sz]
  exact ⟨⟨_, en, rfl⟩, hQ _ en (Heap.get?_push_of_some _ (Heap.get?_push_size _ B.free)) fun b ob z => Heap.get?_push_of_some _ (Heap.get?_push_of_some _ z)⟩
/-- the tuple at a, its items behind their numbers -/
def IteT (K : PySem.W.Frag) (a : Addr) : It :=
  ⟨fun k H => ∃ (xs : List V) (x : V), SqT K H a xs ∧ xs[k]? = some x, fun k H v H' => ∃ T x, v = .ref T ∧ H T = none ∧ H' = upd H T (.tup [.int (k : Nat), x]) ∧ ∀ xs, SqT K H a xs → xs[k]? = some x, fun k H => ∃ xs : List V, SqT K H a xs ∧ xs.length ≤ k⟩
theorem apart_ti {h : Heap} {a it : Addr} {its : Array Value} {i : Nat} (p : h.IsTuple a its) (q : h.IsTupleIter it a i) : a ≠ it := fun z => by
  obtain ⟨o, e1, c1, n, d1⟩ := p
  obtain ⟨o2, e2, c2, d2⟩ := q
  rw [z, e2] at e1
  cases e1
  rw [d1] at d2
  cases d2
theorem apart_en {h : Heap} {a e it : Addr} {its : Array Value} {i : Int} {old : Value} (p : h.IsTuple a its) (q : IsEnum h e it i old) : e ≠ a := fun z => by
  obtain ⟨o, e1, c1, n, d1⟩ := p
  have q' : h.get? e = _ := q
  rw [z, e1] at q'
  cases q'
  cases d1
theorem turn_enumT {P : Program} {w : World} {K : PySem.W.Frag} {elts : List Expr} {kk : Nat} {tpos : Pos} (a e it : Addr) :
    Turn P w K (.Tuple elts kk tpos) (IteT K a) [e, it] e (fun i h => (∃ old, IsEnum h e it ((i : Nat) : Int) old) ∧ h.IsTupleIter it a i ∧ e ≠ it) where
  mem := List.mem_cons_self
  obj := fun i h ⟨⟨old, en⟩, ⟨o, ho, hc, hd⟩, _⟩ b hb => by
    rcases List.mem_cons.mp hb with z | z
    · exact ⟨_, by rw [z]; exact en, fun v q => by cases (show Data.fields _ = Data.cell v from q)⟩
    · exact ⟨o, by rw [List.mem_singleton.mp z]; exact ho, fun v q => by rw [hd] at q; cases q⟩
  keep := fun i h h' ⟨⟨old, en⟩, ti, ne⟩ k => ⟨⟨old, k e List.mem_cons_self _ en⟩, ti.at fun o q => k it (List.mem_cons_of_mem _ List.mem_cons_self) o q, ne⟩
  item := by
    intro X hP hw hK hc i pins s σ H E I hf ⟨⟨old, en⟩, ti, ne⟩ ⟨xs, x, sq, hx⟩
    subst hP hw hK
    obtain ⟨its, rv, p, hz⟩ := I.tuple sq
    have p' : s.heap.IsTuple a its.toArray := p
    obtain ⟨u, hu, ru⟩ := rv.get hx
    have le : e < s.heap.objs.size := Heap.lt_size en
    have li : it < s.heap.objs.size := by
      obtain ⟨_, q, _⟩ := ti
      exact Heap.lt_size q
    have hlt : i < its.toArray.size := by
      have := (List.getElem?_eq_some_iff.mp hu).1
      simpa using this
    refine wpAny_pyNext_enum_itemD (Draws.tuple (A := X.A.in1) (I.ok.hd hc) it a (apart_ti p' ti) its.toArray) en ⟨ti, p'⟩ hlt ne (fun hm => ?_) fun y h' tk hy ho st' hT hsz hk => ?_
    · rcases List.mem_cons.mp hm with z | z
      · exact ne z
      · exact apart_en p' en (List.mem_singleton.mp z)
    · have ey : y = u := by
        have h2 : its[i]? = some y := by simpa using hy
        rw [hu] at h2
        exact (Option.some.inj h2).symm
      subst ey
      refine ⟨_, rfl, wpAny_letOwnedTupleGo_enum (s := { s with heap := h', toks := tk + 1 }) ho fun h'' en' sb => ?_⟩
      have tup : h''.get? s.heap.objs.size = some { cls := .type "tuple", data := .seq #[.int i tk, y] } := (sb.2 _ (Nat.ne_of_gt le)).trans hT
      have ok2 : ObjOk X.prog X.w (upd H s.heap.objs.size (.tup [.int (i : Nat), x])) h'' s.heap.objs.size (.tup [.int (i : Nat), x]) :=
        ⟨by show 2 ≤ sizeLine; decide, [.int i tk, y], .cons ⟨tk, rfl⟩ (.cons ru .nil), ⟨_, tup, rfl, _, rfl⟩⟩
      have I1 : Inv X pins σ (upd H s.heap.objs.size (.tup [.int (i : Nat), x])) { s with heap := h'', toks := tk + 1 } :=
        I.turnedNew (ch := [e, it]) (fun b ob hb q => (sb.2 b (fun z => hb (by rw [z]; exact List.mem_cons_self))).trans (hk b ob (fun z => hb (by rw [z]; exact List.mem_cons_self)) (fun z => hb (by rw [z]; exact List.mem_cons_of_mem _ List.mem_cons_self)) q)) hf (Nat.le_refl _) ok2
      have en2 : IsEnum h'' e it (((i + 1 : Nat) : Int)) y := by
        rw [show ((i + 1 : Nat) : Int) = (i : Int) + 1 by omega]
        exact en'
      refine ⟨.ref s.heap.objs.size, _, I1, rfl, ⟨_, x, rfl, I.hok.fresh (Nat.le_refl _), rfl, fun ys hys => by rw [I.tuple_inj hys sq]; exact hx⟩, ⟨⟨y, en2⟩, st'.1.at fun o q => (sb.2 it (Ne.symm ne)).trans q, ne⟩, fun b hb => ?_⟩
      have lb : b < s.heap.objs.size := by
        rcases List.mem_cons.mp hb with z | z
        · rw [z]; exact le
        · rw [List.mem_singleton.mp z]; exact li
      rw [upd_ne (Nat.ne_of_lt lb)]
      exact (hf b hb).1
  done := by
    intro X hP hw hK hc i pins s σ H E I hf ⟨⟨old, en⟩, ti, ne⟩ ⟨xs, sq, hx⟩
    subst hP hw hK
    obtain ⟨its, rv, p, hz⟩ := I.tuple sq
    have p' : s.heap.IsTuple a its.toArray := p
    obtain ⟨f0, f1, f2, f3, f4, f5⟩ := hf it (List.mem_cons_of_mem _ List.mem_cons_self)
    have hl := rv.length
    unfold pyNext
    refine wpAny_bind (wpAny_attempt (wpAny_callSpecial?_slot (name := Str.ofString "__next__") ⟨_, en, rfl⟩ F.slot_enumerate_next (wpAny_call_entry F.slot_enumerate_next ⟨_, en, rfl⟩ F.entry_enumerate_next ?_ (F.args_enumerate_next_1 _))))
    show wpAny _ _ (field (.ref e) 2 >>= _) _ _ _
    refine wpAny_bind (wpAny_field en rfl (x := .ref it) rfl ?_)
    refine wpAny_bind (wpAny_nextOf_tuple_end (I.ok.hd hc) ti p' (by simp; omega) fun h' x eb ⟨o, ho, hcl⟩ => ?_)
    refine wpAny_bind (wpAny_isInstance (T := "StopIteration") (b := true) ⟨o, ho, hcl⟩ isSubtype_stop ?_)
    exact wpAny_pure ⟨rfl, I.turned (t' := s.toks) (fun b ob hb q => eb b ob hb q) f0 f1 f3 f4 f5⟩
  self := fun A i s Q E ⟨⟨_, en⟩, _⟩ h => wpAny_pyIter_enum en h
section
variable {X : Cx}
theorem pi_enumT {e : Expr} {ta : TA} {p pos tpos : Pos} {elts : List Expr} {kk : Nat} (hg : Gl X "enumerate") (hm : X.mg "enumerate" = none) (ha : PA X [e] ta) (hs : starEach [e] X.env = [(false, eval e X.env)] := by rfl) :
    PI X (.Tuple elts kk tpos) (.Call (.Name "enumerate" p) [e] [] pos) (fun σ H R => ta σ H fun vs H1 => ∃ a xs, vs = [.ref a] ∧ SqT X.K H1 a xs ∧ R (IteT X.K a) H1) := by
  refine ⟨fun pins s σ H R I h => Call_ (ld_blt I hg hm boot_enumerate (PyProof.Rows.callWith_type1 (thn (ha.run pos pins s σ H _ I h) fun us s1 ⟨vs, H1, I1, r1, a, xs, ex, sq, q⟩ => ?_) hs rfl))⟩
  subst ex
  obtain ⟨u, rfl, ru⟩ := vals1 r1
  cases ru
  obtain ⟨its, rv, pt, hz⟩ := I1.tuple sq
  refine call_enum1 (begins_tuple a its.toArray) (show s1.heap.IsTuple a its.toArray from pt) fun h' en hti hk => wpAny_pyIter_enum en ?_
  have I2 : Inv X pins σ H1 { s1 with heap := h' } := I1.kept (t' := s1.toks) hk
  refine ⟨s1.heap.objs.size + 1, [s1.heap.objs.size + 1, s1.heap.objs.size], _, _, H1, rfl, I2, turn_enumT a (s1.heap.objs.size + 1) s1.heap.objs.size, ⟨⟨.none, en⟩, ⟨_, hti, rfl, rfl⟩, Nat.succ_ne_self _⟩, fun b hb => ?_, q⟩
  have lb : s1.heap.objs.size ≤ b := by
    rcases List.mem_cons.mp hb with z | z
    · rw [z]; exact Nat.le_add_right _ _
    · rw [List.mem_singleton.mp z]; exact Nat.le_refl _
  exact I1.fpOk lb (I1.hok.fresh lb)
/-- i, x of enumerate(t) -/
theorem pairUp_get : ∀ {ds : List D} {n i : Nat} {d : D}, (pairUp n ds)[i]? = some d → ∃ x, ds[i]? = some x ∧ d = .tup [.int ((n + i : Nat) : Int), x]
  | [], n, i, d, h => by simp [pairUp] at h
  | a :: as, n, 0, d, h => ⟨a, rfl, (Option.some.inj (show some (D.tup [.int (n : Int), a]) = some d from h)).symm⟩
  | a :: as, n, i + 1, d, h => by
    obtain ⟨x, h1, h2⟩ := pairUp_get (ds := as) (n := n + 1) (i := i) (show (pairUp (n + 1) as)[i]? = some d from h)
    exact ⟨x, h1, by rw [h2]; congr 4; omega⟩
theorem pairUp_len : ∀ (ds : List D) (n : Nat), (pairUp n ds).length = ds.length
  | [], _ => rfl
  | _ :: ds, n => congrArg Nat.succ (pairUp_len ds (n + 1))
def asEnT : List D → Option (List D) | [.tup ds] => some (pairUp 0 ds) | _ => none
theorem di_enumT {e : Expr} {fa : FA} {p pos tpos : Pos} {elts : List Expr} {kk : Nat} (hg : Gl X "enumerate") (hm : X.mg "enumerate" = none) (ha : DA X [e] fa) (hs : starEach [e] X.env = [(false, eval e X.env)] := by rfl) :
    DIR X (RepI X.K) (.Tuple elts kk tpos) (.Call (.Name "enumerate" p) [e] [] pos) (iOfA asEnT fa) := weakI (pi_enumT hg hm ha hs) fun σ H R hh => by
  obtain ⟨r, env, st, ds, st', he, hs, hf, q⟩ := hh
  obtain ⟨xs, h1, h2⟩ := iOfA_some hf
  refine ⟨r, env, st, xs, st', he, hs, h1, fun v r1 H1 e1 q1 p1 => ?_⟩
  unfold asEnT at h2
  split at h2
  · rename_i as
    cases h2
    obtain ⟨u, rfl, pa⟩ := lst1 p1
    obtain ⟨a', us, rfl, sa, la⟩ := pa.sqT
    refine ⟨a', us, rfl, sa, q _ r1 H1 e1 q1 fun r2 H2 st2 e2 s2 => ?_⟩
    obtain ⟨c, us2, ec, sa2, la2⟩ := (pa.ext e2).sqT
    cases ec
    refine ⟨fun i hi => ⟨us2, sa2, by rw [pairUp_len] at hi; rw [la2.len]; exact hi⟩, fun i d hd => ?_⟩
    obtain ⟨x, hx, ed⟩ := pairUp_get hd
    obtain ⟨vx, hvx, rx⟩ := la2.get hx
    refine ⟨⟨us2, vx, sa2, hvx⟩, fun v H3 ⟨T, x', ev, hT, eH, w1⟩ => ?_⟩
    subst ev
    subst eH
    have ex : x' = vx := by
      have := w1 us2 sa2
      rw [hvx] at this
      exact (Option.some.inj this).symm
    subst ex
    have sm : Same H2 (upd H2 T (.tup [.int (i : Nat), x'])) := same_alloc hT
    exact ⟨r2, s2.ext sm, s2.same sm, T, [.int (i : Nat), x'], [.int (i : Nat), x], rfl, by rw [ed, Nat.zero_add], .inl (.inl upd_same), .cons (.int _) (.cons (rx.ext (s2.ext sm)) .nil)⟩
  · cases h2
end
end DL
/-! The order of nested tuples: the first place that differs decides, none behind it is asked. -/
namespace DL
open PySem PySem.Spec PyProof.Rows L2 TL
section
open PySem.AutoSeq1 (wpAny_loadPart')
open PySem.MeetsSeq PySem.MeetsSeq2 PySem.MeetsSeq3 PySem.SeqAt
/-- two rows in order, place by place -/
inductive LexAt (A : Around) (s : Shared) : List Value → List Value → Bool → Prop
  | nil2 : LexAt A s [] [] false
  | nilL {u : Value} {us : List Value} : LexAt A s [] (u :: us) true
  | nilR {v : Value} {vs : List Value} : LexAt A s (v :: vs) [] false
  | diff {v u : Value} {vs us : List Value} {k : Bool} : EqAt A s v u false → RcLt A s v u k → LexAt A s (v :: vs) (u :: us) k
  | same {v u : Value} {vs us : List Value} {k : Bool} : EqAt A s v u true → LexAt A s vs us k → LexAt A s (v :: vs) (u :: us) k
theorem tup_lex {p q : Addr} {xs ys : Array Value} {n1 n2 : Nat} {d1 d2 : Option Addr} {t1 t2 : Array (Option Value)} {k : Bool} : Meets (Builtin.«tuple.__lt__» ⟨[.ref p, .ref q], []⟩) (fun A R s =>
    s.heap.get? p = some ⟨.type "tuple", d1, .seq xs n1, t1⟩ ∧ s.heap.get? q = some ⟨.type "tuple", d2, .seq ys n2, t2⟩ ∧ LexAt A.in1 s xs.toList ys.toList k ∧ R (.ok (.ret (.bool k))) s) := .of_wp fun P w A R s hh => by
  obtain ⟨hp, g, d, tk, os⟩ := s
  obtain ⟨g1, g2, lex, done⟩ := hh
  have sub := AutoSeq1.sub_tuple_tuple
  wp_walk using wpAny_loadPart' g1, wpAny_loadPart' g2, wpAny_forIn_list _ (fun todo acc now => acc.1 = none ∧ now = ⟨hp, g, d, tk, os⟩ ∧ ∃ (i : Nat) (vs us : List Value), todo = vs.zip us ∧ xs.size = i + vs.length ∧ ys.size = i + us.length ∧ LexAt A.in1 ⟨hp, g, d, tk, os⟩ vs us k) _
  case turn =>
    rintro ⟨y, x⟩ todo acc now ⟨e1, rfl, i, vs, us, hz, l1, l2, lx⟩
    cases lx with
    | nil2 => cases hz
    | nilL => cases hz
    | nilR => cases hz
    | diff de dr =>
      injection hz with h1 h2
      injection h1 with h3 h4
      subst h3 h4
      refine wpAny_bind (de P w _ _ ?_)
      have ask := dr P w
      wp_walk using ask
      exact ⟨_, rfl, done⟩
    | same se lr =>
      injection hz with h1 h2
      injection h1 with h3 h4
      subst h3 h4
      refine wpAny_bind (se P w _ _ ?_)
      wp_walk
      exact ⟨rfl, rfl, i + 1, _, _, h2, by rw [l1, List.length_cons]; omega, by rw [l2, List.length_cons]; omega, lr⟩
  case fin =>
    rintro ⟨b1, b2⟩ now ⟨e1, rfl, i, vs, us, hz, l1, l2, lx⟩
    simp only at e1
    subst e1
    have hk : k = decide (xs.size < ys.size) := by
      cases lx with
      | nil2 => simp only [List.length_nil] at l1 l2; rw [l1, l2]; simp
      | nilL => simp only [List.length_nil, List.length_cons] at l1 l2; rw [l1, l2]; simp
      | nilR => simp only [List.length_nil, List.length_cons] at l1 l2; rw [l1, l2]; simp
      | diff de dr => cases hz
      | same se lr => cases hz
    wp_walk
    exact ⟨_, rfl, by simpa [Builtin.Tuple.tupleCompareSizes, ← hk] using done⟩
  case h =>
    exact ⟨rfl, rfl, 0, xs.toList, ys.toList, rfl, by simp, by simp, lex⟩
end
/-! the order of data -/
mutual
def pyLt : PyData → PyData → Option Bool
  | .int a, .int b => some (decide (a < b))
  | .str a, .str b => some (decide (a.cps.toList < b.cps.toList))
  | .tuple xs, .tuple ys => pyLtL xs ys
  | _, _ => none
def pyLtL : List PyData → List PyData → Option Bool
  | [], [] => some false
  | [], _ :: _ => some true
  | _ :: _, [] => some false
  | x :: xs, y :: ys => if PyData.eqv x y = true then pyLtL xs ys else pyLt x y
end
theorem pyLt_tup (xs ys : List PyData) : pyLt (.tuple xs) (.tuple ys) = pyLtL xs ys := by rw [pyLt]
theorem pyLtL_cons (x y : PyData) (xs ys : List PyData) : pyLtL (x :: xs) (y :: ys) = if PyData.eqv x y = true then pyLtL xs ys else pyLt x y := by rw [pyLtL]
/-- what may be compared -/
inductive PyLt : PyData → PyData → Bool → Prop
  | int (a b : Int) : PyLt (.int a) (.int b) (decide (a < b))
  | str (a b : Str) : PyLt (.str a) (.str b) (decide (a.cps.toList < b.cps.toList))
  | tup {xs ys : List PyData} {k : Bool} : pyLtL xs ys = some k → PyLt (.tuple xs) (.tuple ys) k
theorem pyLt_inv {dx dy : PyData} {k : Bool} (e : pyLt dx dy = some k) : PyLt dx dy k := by
  unfold pyLt at e
  split at e
  · cases e; exact .int _ _
  · cases e; exact .str _ _
  · exact .tup e
  · cases e
theorem lex_of (A : Around) (s : Shared) (ok : PyData → PyData → Prop) (hlt : ∀ (x y : PyData) (v u : Value) (as bs : List Addr) (k : Bool), ok x y → Reads s.heap v x as → Reads s.heap u y bs → pyLt x y = some k → SeqAt.RcLt A s v u k)
    (heq : ∀ (x y : PyData) (v u : Value) (as bs : List Addr), ok x y → Reads s.heap v x as → Reads s.heap u y bs → SeqAt.EqAt A s v u (PyData.eqv x y)) :
    ∀ (xs ys : List PyData) (vs us : List Value) (as bs : List Addr) (k : Bool), (∀ x ∈ xs, ∀ y ∈ ys, ok x y) → ReadsAll s.heap vs xs as → ReadsAll s.heap us ys bs → pyLtL xs ys = some k → LexAt A s vs us k := by
  intro xs
  induction xs with
  | nil =>
    intro ys vs us as bs k _ r1 r2 e
    cases r1
    cases ys with
    | nil =>
      cases r2
      rw [pyLtL] at e
      cases e
      exact .nil2
    | cons y ys =>
      cases r2
      rw [pyLtL] at e
      cases e
      exact .nilL
  | cons x xs ih =>
    intro ys vs us as bs k o r1 r2 e
    cases r1 with
    | cons a1 b1 =>
    cases ys with
    | nil =>
      cases r2
      rw [pyLtL] at e
      cases e
      exact .nilR
    | cons y ys =>
      cases r2 with
      | cons a2 b2 =>
      rw [pyLtL_cons] at e
      have oxy := o x List.mem_cons_self y List.mem_cons_self
      have eq := heq x y _ _ _ _ oxy a1 a2
      by_cases z : PyData.eqv x y = true
      · rw [if_pos z] at e
        rw [z] at eq
        exact .same eq (ih ys _ _ _ _ k (fun x hx y hy => o x (List.mem_cons_of_mem _ hx) y (List.mem_cons_of_mem _ hy)) b1 b2 e)
      · rw [if_neg z] at e
        simp only [Bool.not_eq_true] at z
        rw [z] at eq
        exact .diff eq (hlt x y _ _ _ _ k oxy a1 a2 e)
theorem canLay_mem : ∀ {xs : List PyData}, PyData.canLayAll0 xs = true → ∀ x ∈ xs, x.canLay0 = true
  | [], _, x, h => by cases h
  | y :: ys, c, x, h => by
    rw [PyData.canLayAll0] at c
    obtain ⟨c1, c2⟩ := Bool.and_eq_true_iff.mp c
    rcases List.mem_cons.mp h with e | h
    · rw [e]; exact c1
    · exact canLay_mem c2 x h
theorem depth_mem : ∀ {xs : List PyData}, ∀ x ∈ xs, x.depth ≤ PyData.depthAll xs
  | [], x, h => by cases h
  | y :: ys, x, h => by
    rw [PyData.depthAll]
    rcases List.mem_cons.mp h with e | h
    · rw [e]; exact Nat.le_max_left _ _
    · exact Nat.le_trans (depth_mem x h) (Nat.le_max_right _ _)
theorem rcLt_n : ∀ (n : Nat) (dx dy : PyData) (A : Around) (s : Shared) (v u : Value) (as bs : List Addr) (k : Bool), dx.depth ≤ n → Reads s.heap v dx as → Reads s.heap u dy bs → dx.canLay0 = true → dy.canLay0 = true → A.units + n < cLine → pyLt dx dy = some k → SeqAt.RcLt A s v u k := by
  intro n
  induction n with
  | zero =>
    intro dx dy A s v u as bs k hd r1 r2 c1 c2 hu e
    cases pyLt_inv e with
    | int a b =>
      cases r1
      cases r2
      exact fun _ _ _ _ h => PyProof.Rows.lt_int h
    | str a b =>
      cases r1
      cases r2
      exact fun _ _ _ _ h => PySem.P.lt_str h
    | tup e2 =>
      rw [PyData.depth] at hd
      exact absurd hd (by omega)
  | succ n ih =>
    intro dx dy A s v u as bs k hd r1 r2 c1 c2 hu e
    cases pyLt_inv e with
    | int a b =>
      cases r1
      cases r2
      exact fun _ _ _ _ h => PyProof.Rows.lt_int h
    | str a b =>
      cases r1
      cases r2
      exact fun _ _ _ _ h => PySem.P.lt_str h
    | tup e2 =>
      rename_i xs ys
      rw [PyData.depth] at hd
      rw [PyData.canLay0] at c1 c2
      cases r1 with
      | tuple ho hc hdd ra =>
      cases r2 with
      | tuple ho2 hc2 hd2 rb =>
      rename_i p o vv n1 q o2 vv2 n2
      obtain ⟨cls, dd, data, sl⟩ := o
      obtain ⟨cls2, dd2, data2, sl2⟩ := o2
      simp only at hc hdd hc2 hd2
      subst hc hdd hc2 hd2
      have hu' : A.in1.units + n < cLine := by
        show A.units + 1 + n < cLine
        omega
      have lx := lex_of A.in1 s (fun x y => x ∈ xs ∧ y ∈ ys) (fun x y v u as bs k o a1 a2 e => ih x y A.in1 s v u as bs k (Nat.le_trans (depth_mem x o.1) (by omega)) a1 a2 (canLay_mem c1 x o.1) (canLay_mem c2 y o.2) hu' e)
        (fun x y v u as bs o a1 a2 => SeqAt.eqAt_reads x y A.in1 s v u as bs a1 a2 (canLay_mem c1 x o.1) (canLay_mem c2 y o.2) (by
          have h1 := depth_mem x o.1
          have h2 := Nat.min_le_left x.depth y.depth
          omega)) xs ys _ _ _ _ k (fun x hx y hy => ⟨hx, hy⟩) ra rb e2
      exact fun P w E Q h => richCompare_meets_room (op := .Lt) ⟨_, ho, rfl⟩ ⟨_, ho2, rfl⟩ PySem.F.slot_tuple_lt PySem.F.entry_tuple_lt (PySem.F.args_tuple_lt_2 _ _) tup_lex ⟨ho, ho2, lx, ⟨(fun x => nomatch x), h⟩⟩ (by omega)
theorem rcLt_py (dx dy : PyData) (A : Around) (s : Shared) (v u : Value) (as bs : List Addr) (k : Bool) (r1 : Reads s.heap v dx as) (r2 : Reads s.heap u dy bs) (c1 : dx.canLay0 = true) (c2 : dy.canLay0 = true) (hu : A.units + dx.depth < cLine) (e : pyLt dx dy = some k) : SeqAt.RcLt A s v u k :=
  rcLt_n dx.depth dx dy A s v u as bs k (Nat.le_refl _) r1 r2 c1 c2 hu e
section
variable {X : Cx}
/-- a < b of nested data -/
def ltN : D → D → Option D := fun a b => (toPy a).bind fun p => (toPy b).bind fun q => if SeqAt.shaped p = true ∧ SeqAt.shaped q = true then (pyLt p q).map .bl else none
theorem op_ltN (hu : X.A.units + 64 < cLine) : OpR X (compareOp .Lt) (fun x y H Q => ∃ p q k, Dp X.K H x p ∧ Dp X.K H y q ∧ SeqAt.shaped p = true ∧ SeqAt.shaped q = true ∧ pyLt p q = some k ∧ Q (.bl k) H) := by
  intro pins s σ H x y v u Q I rx ry h
  obtain ⟨p, q, k, hp, hq, sp, sq, hk, hQ⟩ := h
  obtain ⟨as, r1⟩ := Dp.reads I p x v hp rx
  obtain ⟨bs, r2⟩ := Dp.reads I q y u hq ry
  have dp := SeqAt.depth_of_shaped sp
  exact rcLt_py p q X.A s v u as bs k r1 r2 (SeqAt.canLay_of_shaped sp) (SeqAt.canLay_of_shaped sq) (by omega) hk X.prog X.w _ _ ⟨.bl k, H, I, rfl, hQ⟩
theorem ok_ltN {k : Nat} (g : GX X k) : OpOk X (compareOp .Lt) ltN := ⟨_, op_ltN (by have := g.room.un; omega), fun rho H x y a b d st Q si ra rb e q => by
  obtain ⟨p, h1, h2⟩ := Option.bind_eq_some_iff.mp e
  obtain ⟨p2, h3, h4⟩ := Option.bind_eq_some_iff.mp h2
  by_cases z : SeqAt.shaped p = true ∧ SeqAt.shaped p2 = true
  · rw [if_pos z] at h4
    obtain ⟨k, h5, h6⟩ := Option.map_eq_some_iff.mp h4
    subst h6
    exact ⟨p, p2, k, ra.dp h1, rb.dp h3, z.1, z.2, h5, q _ H (fun _ _ h => h) (.bl k)⟩
  · rw [if_neg z] at h4
    cases h4⟩
/-! bool - bool -/
theorem sub_bb (a b : Bool) : Gives (Builtin.«int.__sub__» ⟨[.bool a, .bool b], []⟩) (.int ((if a = true then (1 : Int) else 0) - if b = true then (1 : Int) else 0)) :=
  .of_wp fun M A E s Q h => by
  obtain ⟨hp, g, d, tk, os⟩ := s
  wp_walk
  exact ⟨_, rfl, h⟩
def subB : D → D → Option D := fun a b => match a, b with | .bl x, .bl y => some (.int ((if x = true then (1 : Int) else 0) - if y = true then (1 : Int) else 0)) | _, _ => none
theorem op_subB : OpR X (binaryOp .Sub) (fun x y H Q => ∃ a b, x = .bl a ∧ y = .bl b ∧ Q (.int ((if a = true then (1 : Int) else 0) - if b = true then (1 : Int) else 0)) H) := by
  intro pins s σ H x y v u Q I rx ry h
  obtain ⟨a, b, rfl, rfl, q⟩ := h
  cases rx
  cases ry
  exact binaryOp_gives (op := .Sub) (T := "bool") rfl rfl F.fills_bool_sub F.slot_bool_sub F.entry_int_sub (F.args_int_sub_2 _ _) (sub_bb a b) trivial ⟨.int _, H, I.tok _, ⟨_, rfl⟩, q⟩
theorem ok_subB : OpOk X (binaryOp .Sub) subB := ⟨_, op_subB, fun rho H x y a b d st Q si ra rb e q => by
  unfold subB at e
  split at e
  · cases e
    cases ra
    cases rb
    exact ⟨_, _, rfl, rfl, q _ H (fun _ _ h => h) (.int _)⟩
  · cases e⟩
/-! ==, != where a list of the store stands on a side -/
def pyOf (d : D) (st : Store) : Option PyData := match d with
  | .ref n => (match st[n]? with | some (.lst ds) => (toPyL ds).map .list | _ => none)
  | d => toPy d
theorem pyOf_dp {r : Rf} {H : Hp} {v : V} {d : D} {st : Store} {p : PyData} (h : Rep X.K r H v d) (si : Sim X.K r H st) (e : pyOf d st = some p) : Dp X.K H v p := by
  cases d with
  | ref n =>
    have e' : (match st[n]? with | some (.lst ds) => (toPyL ds).map PyData.list | _ => none) = some p := e
    split at e'
    · rename_i ds hst
      obtain ⟨a, rfl, ha⟩ := h.refI
      obtain ⟨ps, h1, h2⟩ := Option.map_eq_some_iff.mp e'
      subst h2
      obtain ⟨av, xs, hx, l⟩ := si.ob _ a _ ha hst
      exact .lst (.of hx) (RepL.dp l h1)
    · cases e'
  | _ => exact h.dp e
def fEqR (neg : Bool) (fa fb : F) : F := fun env st => (fa env st).bind fun p => (fb env p.2).bind fun q => (pyOf p.1 q.2).bind fun x => (pyOf q.1 q.2).bind fun y => if SeqAt.shaped x = true ∧ SeqAt.shaped y = true then some (.bl (if neg = true then !PyData.eqv x y else PyData.eqv x y), q.2) else none
theorem eqR_reads {neg : Bool} {fa fb : F} {R : V → V → Hp → VK → Prop} (hR : ∀ u v H Q p q, Dp X.K H u p → Dp X.K H v q → SeqAt.shaped p = true → SeqAt.shaped q = true → Q (.bl (if neg = true then !PyData.eqv p q else PyData.eqv p q)) H → R u v H Q)
    (σ : L2.St) (H : Hp) (Q : VK) (h : tD X.K (fEqR neg fa fb) σ H Q) : tOp R (tD X.K fa) (tD X.K fb) σ H Q := by
  obtain ⟨r, env, st, d, st', he, hs, hf, q⟩ := h
  obtain ⟨⟨x, s1⟩, h1, hf1⟩ := Option.bind_eq_some_iff.mp hf
  obtain ⟨⟨y, s2⟩, h2, hf2⟩ := Option.bind_eq_some_iff.mp hf1
  obtain ⟨px, h3, hf3⟩ := Option.bind_eq_some_iff.mp hf2
  obtain ⟨py, h4, hf4⟩ := Option.bind_eq_some_iff.mp hf3
  by_cases z : SeqAt.shaped px = true ∧ SeqAt.shaped py = true
  · rw [if_pos z] at hf4
    cases hf4
    exact two he hs h1 h2 fun u v r' H' e1 q1 pu pv => hR u v H' Q px py (pyOf_dp pu q1 h3) (pyOf_dp pv q1 h4) z.1 z.2 (q _ r' H' e1 q1 (.bl _))
  · rw [if_neg z] at hf4
    cases hf4
theorem de_eqR {a b : Expr} {fa fb : F} {pos : Pos} {k : Nat} (g : GX X k) (ha : DE X a fa) (hb : DE X b fb) (hm : behindInMarks .Eq b = false := by with_unfolding_all rfl) : DE X (.Compare a [.Eq] [b] pos) (fEqR false fa fb) :=
  weakE (pe_cmpR (op_eqD g.room.units) ha hb hm) fun σ H Q h => eqR_reads (fun u v H Q p q hp hq sp sq hQ => ⟨p, q, hp, hq, sp, sq, hQ⟩) σ H Q h
theorem de_neR {a b : Expr} {fa fb : F} {pos : Pos} {k : Nat} (g : GX X k) (ha : DE X a fa) (hb : DE X b fb) (hm : behindInMarks .NotEq b = false := by with_unfolding_all rfl) : DE X (.Compare a [.NotEq] [b] pos) (fEqR true fa fb) :=
  weakE (pe_cmpR (op_neD g.room.units) ha hb hm) fun σ H Q h => eqR_reads (fun u v H Q p q hp hq sp sq hQ => ⟨p, q, hp, hq, sp, sq, hQ⟩) σ H Q h
theorem dt_eqR {a b : Expr} {fa fb : F} {pos : Pos} {k : Nat} (g : GX X k) (ha : DE X a fa) (hb : DE X b fb) (hm : behindInMarks .Eq b = false := by with_unfolding_all rfl) : DT X (.Compare a [.Eq] [b] pos) (fTest (fEqR false fa fb)) :=
  weakT (pt_cmpR (op_eqD g.room.units) ha hb hm) fun σ H Q h => eqR_reads (fun u v H Q p q hp hq sp sq hQ => ⟨p, q, hp, hq, sp, sq, hQ⟩) σ H (fun x H1 => ∃ c, x = .bl c ∧ Q c H1) (testReads σ H Q h)
theorem dt_neR {a b : Expr} {fa fb : F} {pos : Pos} {k : Nat} (g : GX X k) (ha : DE X a fa) (hb : DE X b fb) (hm : behindInMarks .NotEq b = false := by with_unfolding_all rfl) : DT X (.Compare a [.NotEq] [b] pos) (fTest (fEqR true fa fb)) :=
  weakT (pt_cmpR (op_neD g.room.units) ha hb hm) fun σ H Q h => eqR_reads (fun u v H Q p q hp hq sp sq hQ => ⟨p, q, hp, hq, sp, sq, hQ⟩) σ H (fun x H1 => ∃ c, x = .bl c ∧ Q c H1) (testReads σ H Q h)
end
end DL
/-! Lists that are written no more become values; zip of such lists. -/
namespace DL
open PySem PySem.Spec PyProof.Rows L2
section
variable {X : Cx} {W : WXd} {tg iter : Expr}
theorem Rep.sqLv {K : PySem.W.Frag} {r : Rf} {H : Hp} {v : V} {ds : List D} (h : Rep K r H v (.lst ds)) : ∃ a xs, v = .ref a ∧ SqL K H a xs ∧ RepL K r H xs ds := by
  cases h with
  | lst a b c => exact ⟨_, _, rfl, .of a, c⟩
def asZipL : List D → Option (List D) | [.lst as, .lst bs] => some (pairs2 as bs) | _ => none
theorem di_zipL {a b : Expr} {fa : FA} {elts : List Expr} {kk : Nat} {tpos p pos : Pos} (hg : Gl X "zip") (hm : X.mg "zip" = none) (ha : DA X [a, b] fa)
    (hs : starEach [a, b] X.env = (false, eval a X.env) :: starEach [b] X.env := by rfl) (hpl : (backTo pos (starEach [b] X.env)).any (·.1) = false := by rfl) :
    DIR X (RepI X.K) (.Tuple elts kk tpos) (.Call (.Name "zip" p) [a, b] [] pos) (iOfA asZipL fa) := weakI (RZ.pi_zipA hg hm ha hs hpl) fun σ H R hh => by
  obtain ⟨r, env, st, xs, st', he, hs, hf, q⟩ := hh
  obtain ⟨xs, h1, h2⟩ := iOfA_some hf
  refine ⟨r, env, st, xs, st', he, hs, h1, fun v r1 H1 e1 q1 p1 => ?_⟩
  unfold asZipL at h2
  split at h2
  · rename_i as bs
    cases h2
    obtain ⟨u, w, rfl, pa, pb⟩ := lst2 p1
    obtain ⟨a', us, rfl, sa, la⟩ := pa.sqLv
    obtain ⟨b', ws, rfl, sb, lb⟩ := pb.sqLv
    have pa1 := pa
    have pb1 := pb
    refine ⟨a', b', us, ws, rfl, .inl ⟨sa, sb, q _ r1 H1 e1 q1 fun r2 H2 st2 e2 s2 => ?_⟩⟩
    have hk : ∀ {c : Addr} {ys : List V} {es : List D}, SqL X.K H1 c ys → RepL X.K r1 H1 ys es → Rep X.K r1 H1 (.ref c) (.lst es) → ∃ zs, SqL X.K H2 c zs ∧ RepL X.K r2 H2 zs es := fun {c ys es} _ _ p => by
      obtain ⟨c', zs, e', s', l'⟩ := (p.ext e2).sqLv
      cases e'
      exact ⟨zs, s', l'⟩
    obtain ⟨us2, sa2, la2⟩ := hk sa la pa1
    obtain ⟨ws2, sb2, lb2⟩ := hk sb lb pb1
    refine ⟨fun i hi => ⟨us2, ws2, sa2, sb2, ?_⟩, fun i d hd => ?_⟩
    · rw [pairs2_len] at hi
      rw [la2.len, lb2.len]
      omega
    · obtain ⟨x, y, hx, hy, ed⟩ := pairs2_get hd
      obtain ⟨vx, hvx, rx⟩ := la2.get hx
      obtain ⟨vy, hvy, ry⟩ := lb2.get hy
      refine ⟨⟨us2, ws2, vx, vy, sa2, sb2, hvx, hvy⟩, fun v H3 ⟨T, x', y', ev, hT, eH, w1, w2⟩ => ?_⟩
      subst ev
      subst eH
      have ex : x' = vx := by
        have := w1 us2 sa2
        rw [hvx] at this
        exact (Option.some.inj this).symm
      have ey : y' = vy := by
        have := w2 ws2 sb2
        rw [hvy] at this
        exact (Option.some.inj this).symm
      subst ex ey
      have sm : Same H2 (upd H2 T (.tup [x', y'])) := same_alloc hT
      exact ⟨r2, s2.ext sm, s2.same sm, T, [x', y'], [x, y], rfl, ed, .inl (.inl upd_same), .cons (rx.ext (s2.ext sm)) (.cons (ry.ext (s2.ext sm)) .nil)⟩
  · cases h2
/-- local i's list is a value from here on -/
def sFrzL (i : Nat) : FS := fun env st => match env[i]? with
  | some (some (.ref n)) => (match st[n]? with | some (.lst ds) => some (.nx, env.set i (some (.lst ds)), st.set n .dead) | _ => none)
  | _ => none
theorem ds_frzL (i : Nat) {s : Stmt} {g : FS} (h : DS X W s g) : DS X W s (sSeq (sFrzL i) g) := weakS h fun D' σ H hh => by
  obtain ⟨r, env, st, o, env', st', he, hs, hf, q⟩ := hh
  obtain ⟨⟨o1, e1, s1⟩, h1, h2⟩ := Option.bind_eq_some_iff.mp hf
  unfold sFrzL at h1
  split at h1
  · rename_i n hn
    split at h1
    · rename_i ds hst
      cases h1
      obtain ⟨v, hv, rv⟩ := he.at_ i _ hn
      obtain ⟨a, rfl, ha⟩ := rv.refI
      obtain ⟨av, xs, hx, l⟩ := hs.ob _ a _ ha hst
      have ex := drop_ext (H := H) (List.mem_of_getElem? ha)
      have na : ¬ (r.drop a).av a := fun z => z.2 rfl
      have he2 := (he.ext ex).set (Rep.lst hx na (l.ext ex)) i
      have es : σ.set i (some (V.ref a)) = σ := by
        refine List.ext_getElem? fun j => ?_
        by_cases z : i = j
        · subst z
          rw [List.getElem?_set_self (List.getElem?_eq_some_iff.mp hv).1, hv]
        · rw [List.getElem?_set_ne z]
      rw [es] at he2
      exact ⟨_, _, _, o, env', st', he2, drop_sim hs ha, h2, q.ext ex⟩
    · cases h1
  · cases h1
end
end DL
/-! Sets of ints that live for one expression: how many they are, in order. -/
namespace DL
open PySem PySem.Spec PyProof.Rows L2
section
variable {X : Cx}
/-- what may stand at D while its items come in, how one more changes it -/
structure SetKd (X : Cx) where
  T : Type
  ob : Addr → T → HO
  z : T
  put : T → V → T
  fits : T → V → Prop
  new : ∀ {H : Hp} {h : Heap}, ObjOk X.prog X.w H (h.push { cls := .type "set", dict := none, data := .set #[] 0 (.fresh 0 0 (!X.w.params.followText "set-order")) }) h.objs.size (ob h.objs.size z)
/-- the items come in -/
def SetAdd (X : Cx) (K : SetKd X) : Prop := ∀ {Y : Cx} {pins : List (Addr × Obj)} {σ : L2.St} {H : Hp} {s : Shared} {E : Value → Shared → Prop} {D : Addr} {t : K.T} {y : V} {v : Value} {Q : Value → Shared → Prop}, Y.prog = X.prog → Y.w = X.w → Inv Y pins σ H s → H D = some (K.ob D t) → K.fits t y → RelV y v →
  (∀ s', Inv Y pins σ (upd H D (K.ob D (K.put t y))) s' → Q .none s') → wpAny (model Y.prog Y.w) Y.A (call (.builtin "set.add") [.ref D, v]) Q E s
def tScK (K : SetKd X) (wi : TI) (g : TG) (tt : TT) (te : TE) (vs : List Nat) : TE := fun σ H Q => wi σ H fun J H1 => ∀ D, H1 D = none → ∃ W : Nat → Nat → Hp → Prop, (∃ m, W 0 m (upd H1 D (K.ob D K.z))) ∧ ∀ i m H, W i m H →
  (J.stop i H ∧ Q (.ref D) H) ∨ (J.go i H ∧ ∃ Nx : Hp → Prop, (∀ H', Nx H' → ∃ m', m' < m ∧ W (i + 1) m' H') ∧ ∀ x H', J.yld i H x H' → g x (wipe σ vs) H' fun σ2 H2 => wipe σ2 vs = wipe σ vs ∧ tt σ2 H2 fun b H3 =>
    if b = true then te σ2 H3 fun y H4 => ∃ t, H4 D = some (K.ob D t) ∧ K.fits t y ∧ Nx (upd H4 D (K.ob D (K.put t y))) else Nx H3)
theorem pe_scK (K : SetKd X) (ka : SetAdd X K) {elt tg iter : Expr} {ifs : List Expr} {scope : Scope} {own : List (PySem.Str × Nat)} {pos : Pos} {wi : TI} {g : TG} {tt : TT} {te : TE} (hc : X.calm = true) (hN : X.N.Nodup) (hi : PI X tg iter wi) (ok : BlkOk X.N X.env.scope scope own)
    (hg : ∀ (s : Shared) (H : Hp) (C : Addr) (cl : List (PySem.Str × Addr)) (fp : List Addr), PG (X.blk s H scope (compEnvC scope cl C X.env) fp) tg g) (ht : ∀ (s : Shared) (H : Hp) (C : Addr) (cl : List (PySem.Str × Addr)) (fp : List Addr), PTs (X.blk s H scope (compEnvC scope cl C X.env) fp) ifs tt)
    (he : ∀ (s : Shared) (H : Hp) (C : Addr) (cl : List (PySem.Str × Addr)) (fp : List Addr), PE (X.blk s H scope (compEnvC scope cl C X.env) fp) elt te) (hs : ∀ x, foldedSetIterable iter X.env x = pure x := by intro _; rfl) :
    PE X (.SetComp elt [⟨tg, iter, ifs, 0⟩] scope pos) (tScK K wi g tt te (own.map (·.2))) := by
  refine ⟨fun pins s σ H Q I h => ?_⟩
  rw [PpSet.eval_SetComp]
  have hfree : ∀ y ∈ scope.names, y.2 = .free → ∃ c, X.env.cells.lookup y.1 = some c := fun y hy e => (ok.free y hy e).elim (fun k => I.ok.has _ (.inl k)) fun k => I.ok.has _ (.inr k)
  refine wpAny_comprehension_free (use := none) rfl hs (closure_ok hfree) ok.kind (fun y hy e => by rw [ok.uniq y hy, e]) (thn (hi.run pins s σ H _ I h) fun xv s1 hx => thn hx fun itv s2 h2 => ?_)
  obtain ⟨it, fp, tn, J, H2, e, I2, T, st2, f2, q⟩ := h2
  subst e
  refine PpSet.newSet_ok (newEnv_comp ?_)
  generalize hD : s2.heap.objs.size = D
  obtain ⟨W, ⟨m0, w0⟩, turn⟩ := q D (I2.hok.fresh (Nat.le_of_eq hD))
  generalize hs3 : ({ s2 with heap := s2.heap.push { cls := .type "set", dict := none, data := .set #[] 0 (.fresh 0 0 (!X.w.params.followText "set-order")) } } : Shared) = s3
  generalize hH3 : upd H2 D (K.ob D K.z) = H3 at w0
  have h3 : s3.heap = s2.heap.push { cls := .type "set", dict := none, data := .set #[] 0 (.fresh 0 0 (!X.w.params.followText "set-order")) } := by rw [← hs3]
  have I3 : Inv X pins σ H3 s3 := by
    rw [← hs3, ← hH3, ← hD]
    exact I2.laid (t' := s2.toks) (fun b o e => Heap.get?_push_of_some _ e) (Nat.le_refl _) K.new
  have f3 : ∀ b ∈ fp, FpOk X pins H3 b ∧ b < s3.heap.objs.size := fun b hb => by
    obtain ⟨o, e, _⟩ := T.obj _ _ st2 b hb
    have hlt := Heap.lt_size e
    refine ⟨⟨?_, (f2 b hb).2⟩, by rw [h3, Heap.size_push]; exact Nat.lt_succ_of_lt hlt⟩
    rw [← hH3, upd_ne (by rw [← hD]; exact Nat.ne_of_lt hlt)]
    exact (f2 b hb).1
  have st3 : tn 0 s3.heap := T.keep _ _ _ st2 fun b _ o e => by rw [h3]; exact Heap.get?_push_of_some _ e
  have I4 := block_start I3 ok hN f3
  have pg := hg s3 H3 s3.heap.objs.size (cellsFrom (s3.heap.objs.size + 1) scope.names (cloFrom X.env.cells scope.names [])) fp
  have pt := ht s3 H3 s3.heap.objs.size (cellsFrom (s3.heap.objs.size + 1) scope.names (cloFrom X.env.cells scope.names [])) fp
  have pe := he s3 H3 s3.heap.objs.size (cellsFrom (s3.heap.objs.size + 1) scope.names (cloFrom X.env.cells scope.names [])) fp
  show codeAny _ _ (.compStart (.SetComp elt [⟨tg, iter, ifs, 0⟩] scope pos) 0 (.ref it) (.ref D) (compEnvC scope (cellsFrom (s3.heap.objs.size + 1) scope.names (cloFrom X.env.cells scope.names [])) s3.heap.objs.size X.env)) (compPost (model X.prog X.w) X.A X.xe none (fun v s' => ∃ x H', Inv X pins σ H' s' ∧ RelV x v ∧ Q x H') (.ref D) s3.heap.objs.size) { s3 with heap := pushCells (s3.heap.push { cls := .type "dict", data := .dict #[] }) scope.names }
  generalize hce : compEnvC scope (cellsFrom (s3.heap.objs.size + 1) scope.names (cloFrom X.env.cells scope.names [])) s3.heap.objs.size X.env = ce at I4 pg pt pe ⊢
  have cL : ce.locals = s3.heap.objs.size := by subst hce; rfl
  generalize hs4 : ({ s3 with heap := pushCells (s3.heap.push { cls := .type "dict", data := .dict #[] }) scope.names } : Shared) = s4 at I4 ⊢
  have st4 : tn 0 s4.heap := T.keep _ _ _ st3 fun b _ o e => by rw [← hs4]; exact pushCells_keeps _ _ _ _ (Heap.get?_push_of_some _ e)
  -- one of the iterator's objects, as the block sees it
  have stat : ∀ {σ' : L2.St} {H' : Hp} {s' : Shared}, Inv (X.blk s3 H3 scope ce fp) [] σ' H' s' → (∀ b ∈ fp, H' b = none) → ∀ b ∈ fp, FpOk (X.blk s3 H3 scope ce fp) [] H' b := fun {σ' H' s'} I' hn b hb =>
    ⟨hn b hb, (I'.ok.exf b hb).1, I'.ok.exfs b hb, .inl hb, fun x c e => (I'.ok.exf b hb).2 x c e, fun p hp => absurd (show p ∈ ([] : List (Addr × Obj)) ++ [] from hp) (by simp)⟩
  have loop : codeAny (model X.prog X.w) X.A (.compLoop (.SetComp elt [⟨tg, iter, ifs, 0⟩] scope pos) 0 (.ref it) (.ref D) ce) (compPost (model X.prog X.w) X.A X.xe none (fun v s' => ∃ x H', Inv X pins σ H' s' ∧ RelV x v ∧ Q x H') (.ref D) s3.heap.objs.size) s4 := by
    refine PpSet.compLoopS_any (fun n s' => ∃ i H', Inv (X.blk s3 H3 scope ce fp) [] (wipe σ (own.map (·.2))) H' s' ∧ tn i s'.heap ∧ (∀ b ∈ fp, H' b = none) ∧ W i n H') ?_ m0 ⟨0, H3, I4, st4, fun b hb => (f3 b hb).1.1, w0⟩
    rintro n s5 ⟨i, H5, I5, st5, n5, w5⟩
    rcases turn i n H5 w5 with ⟨stop, qq⟩ | ⟨go, Nx, hNx, step⟩
    · refine thnF (T.done (X.blk s3 H3 scope ce fp) rfl rfl rfl hc i [] s5 _ H5 (fun _ _ => False) I5 (stat I5 n5) st5 stop) fun r s6 ⟨hr, I6⟩ => ?_
      subst hr
      have I7 : Inv X pins σ H5 s6 := I3.call' (ch := fp) I6.os I6.base I6.hok I6.bare fun b hb => ⟨(f3 b hb).1.2.2.2.1, (f3 b hb).1.2.1, (f3 b hb).1.2.2.2.2.1, (f3 b hb).1.2.2.2.2.2⟩
      have nC : H5 s3.heap.objs.size = none := by
        have z : H5 ce.locals = none := I6.free
        rwa [cL] at z
      obtain ⟨m, hn, _⟩ := I6.loc
      have hn : s6.heap.Ns ce.locals m := hn
      rw [cL] at hn
      obtain ⟨g0, g1, g2, g3, g4, g5⟩ := I3.fpOk (Nat.le_refl _) nC
      exact ⟨m, hn, fun h'' sb => ⟨.ref D, H5, I7.turned (t' := s6.toks) (fun b o hb e => (sb.2 b hb).trans e) g0 g1 g3 g4 g5, rfl, qq⟩⟩
    · refine thnF (T.item (X.blk s3 H3 scope ce fp) rfl rfl rfl hc i [] s5 _ H5 (fun _ _ => False) I5 (stat I5 n5) st5 go) fun r s6 ⟨u, hr, h6⟩ => ?_
      subst hr
      refine thnF h6 fun _ s7 ⟨x, H7, I7, r7, y7, st7, n7⟩ => ?_
      have I7' := I7.pinned (stat I7 n7) (T.obj _ _ st7)
      refine thnF (pg.run _ s7 _ H7 x u _ I7' r7 (step x H7 y7)) fun _ s8 ⟨σ8, H8, I8, hw8, q8⟩ => thnF (pt.run _ s8 σ8 H8 _ I8 q8) fun b s9 ⟨H9, I9, q9⟩ => ?_
      have fin : ∀ {s' : Shared} {H' : Hp}, Inv (X.blk s3 H3 scope ce fp) ([] ++ pinsAt fp s7.heap) σ8 H' s' → Nx H' → ∃ m, m < n ∧ ∃ i H', Inv (X.blk s3 H3 scope ce fp) [] (wipe σ (own.map (·.2))) H' s' ∧ tn i s'.heap ∧ (∀ b ∈ fp, H' b = none) ∧ W i m H' := fun {s' H'} I' nx => by
        obtain ⟨m', hm, w'⟩ := hNx H' nx
        have pin' : ∀ b ∈ fp, ∀ o, s7.heap.get? b = some o → s'.heap.get? b = some o ∧ H' b = none := fun b hb o e =>
          let z := I'.pin (b, o) (List.mem_append_right _ (List.mem_append_right _ (mem_pinsAt hb e)))
          ⟨z.1, z.2.1⟩
        refine ⟨m', hm, i + 1, H', (I'.unpinned (pins := [])).weak (by rw [← hw8, wipe_length]) (fun j v e => ?_), T.keep _ _ _ st7 fun b hb o e => (pin' b hb o e).1, fun b hb => ?_, w'⟩
        · rw [← hw8] at e
          exact (wipe_some e).1
        · obtain ⟨o, e, _⟩ := T.obj _ _ st7 b hb
          exact (pin' b hb o e).2
      cases b with
      | false =>
        simp only [Bool.false_eq_true, if_false] at q9 ⊢
        exact fin I9 q9
      | true =>
        simp only [if_true] at q9 ⊢
        refine thnF (pe.run _ s9 σ8 H9 _ I9 q9) fun z s10 ⟨yv, H10, I10, r10, tt10, hD10, hz10, nx⟩ => ?_
        exact ka (Y := X.blk s3 H3 scope ce fp) rfl rfl I10 hD10 hz10 r10 fun s11 I11 => fin I11 nx
  exact PpSet.codeAny_compStart_set loop (T.self X.A 0 _ _ _ st4 loop)
/-! ### ints -/
def cntI : List Int → Nat | [] => 0 | k :: l => if k ∈ l then cntI l else cntI l + 1
theorem cntI_le : ∀ l : List Int, cntI l ≤ l.length
  | [] => Nat.le_refl _
  | k :: l => by
    have := cntI_le l
    unfold cntI
    split <;> simp <;> omega
def intKd (X : Cx) : SetKd X where
  T := List Int
  ob D l := SetO X.w D (fun j => decide (j ∈ l)) (cntI l)
  z := []
  put l y := match y with | .int k => k :: l | _ => l
  fits l y := (∃ k, y = .int k) ∧ cntI l + 1 < scanBound
  new := setO_new ((setR_fresh X.w).congr fun j => by simp)
theorem setPut {Y : Cx} {pins : List (Addr × Obj)} {σ : L2.St} {H : Hp} {s : Shared} {E : Value → Shared → Prop} {D : Addr} {l : List Int} {k : Int} {tk : Tok} {Q : Value → Shared → Prop} (I : Inv Y pins σ H s) (hD : H D = some (SetO Y.w D (fun j => decide (j ∈ l)) (cntI l))) (room : cntI l + 1 < scanBound)
    (q : ∀ s', Inv Y pins σ (upd H D (SetO Y.w D (fun j => decide (j ∈ k :: l)) (cntI (k :: l)))) s' → Q .none s') : wpAny (model Y.prog Y.w) Y.A (call (.builtin "set.add") [.ref D, .int k tk]) Q E s := by
  have R := setO_get I hD
  refine setR_add R room fun h' sb new => ?_
  have he : ∃ u, h'.get? D = some u := by
    have ⟨o, _, _, _, ho, _⟩ := new
    exact ⟨o, ho⟩
  have n2 := new.congr (S' := fun j => decide (j ∈ k :: l)) fun j => by
    by_cases a : j = k <;> by_cases b : j ∈ l <;> simp [a, b]
  have e : (if decide (k ∈ l) = true then cntI l else cntI l + 1) = cntI (k :: l) := by
    rw [cntI]
    by_cases a : k ∈ l <;> simp [a]
  rw [e] at n2
  exact q _ (I.write (e := D) (t' := s.toks + 1) (by rw [hD]; trivial) (.inl rfl) (fun b u hb hu => (sb.2 b hb).trans hu) he (setO_new n2))
theorem intAdd : SetAdd X (intKd X) := by
  intro Y pins σ H s E D t y v Q hP hw I hD hf r q
  obtain ⟨⟨k, rfl⟩, room⟩ := hf
  obtain ⟨tk, rfl⟩ := r
  refine setPut (l := t) (k := k) I (by rw [hw]; exact hD) room fun s' I' => q s' ?_
  rw [hw] at I'
  exact I'
def rLenSet (w : World) : List V → Hp → VK → Prop := fun xs H Q => ∃ (a : Addr) (S : Int → Bool) (n : Nat), xs = [V.ref a] ∧ H a = some (SetO w a S n) ∧ Q (.int n) H
theorem cr_lenSet : CallR X (.builtin "len") (rLenSet X.w) := by
  intro pins s σ H xs us Q I r h
  obtain ⟨a, S, n, rfl, ha, q⟩ := h
  rw [Vals.ref1 r]
  obtain ⟨o, es, ep, t, ho, hx, hd, g, nd, hm, hb, hf, hn, hr, hl⟩ := setO_get I ha
  have hb' : es.size < 4096 := hb
  refine call_len_set ho hx hd hf (by omega) ⟨.int n, H, I.tok _, ⟨s.toks + 1, ?_⟩, q⟩
  rw [hn]
def intsD : List D → Option (List Int)
  | [] => some []
  | .int k :: ds => (intsD ds).map fun ks => k :: ks
  | _ => none
theorem intsD_eq : ∀ {ds : List D} {ks : List Int}, intsD ds = some ks → ds = ks.map D.int
  | [], _, h => by cases h; rfl
  | .int k :: ds, _, h => by
    obtain ⟨l, h1, h2⟩ := Option.map_eq_some_iff.mp h
    subst h2
    rw [List.map_cons, ← intsD_eq h1]
  | .non :: _, _, h => by cases h
  | .bl _ :: _, _, h => by cases h
  | .str _ :: _, _, h => by cases h
  | .tup _ :: _, _, h => by cases h
  | .lst _ :: _, _, h => by cases h
  | .dct _ :: _, _, h => by cases h
  | .scr _ :: _, _, h => by cases h
  | .ref _ :: _, _, h => by cases h
theorem intsD_map : ∀ ks : List Int, intsD (ks.map D.int) = some ks
  | [] => rfl
  | k :: ks => by
    show (intsD (ks.map D.int)).map _ = _
    rw [intsD_map ks]; rfl
theorem map_int_inj : ∀ {ks ls : List Int}, ks.map D.int = ls.map D.int → ks = ls
  | [], [], _ => rfl
  | k :: ks, l :: ls, h => by
    have h1 : D.int k :: ks.map D.int = D.int l :: ls.map D.int := h
    injection h1 with a b
    injection a with c
    rw [c, map_int_inj b]
  | [], _ :: _, h => by cases h
  | _ :: _, [], h => by cases h
/-- len({f for .. in ..}), f ints -/
def fLenSc (fi : FI) (is : List Nat) (bd : FB) (t : FT) (f : F) : F := fun env st => (fi env st).bind fun p => (loopC is bd t f p.1 (wipeL env is) p.2).bind fun q => (intsD q.1).bind fun ks => if ks.length ≤ 4000 then some (.int (cntI ks.reverse), q.2) else none
theorem lenScReads {RR : RD} {fi : FI} {is : List Nat} {bd : FB} {g : TG} {t : FT} {f : F} (hg : TgOkR X.K RR g is bd) (σ : L2.St) (H : Hp) (Q : VK) (hh : tD X.K (fLenSc fi is bd t f) σ H Q) :
    tCB (rLenSet X.w) (tCons (tScK (intKd X) (tIR X.K RR fi) g (tT X.K t) (tD X.K f) is) tNil) σ H Q := by
  obtain ⟨r, env, st, d, st', he, hs, hf, q⟩ := hh
  obtain ⟨⟨ds, s1⟩, h1, h2⟩ := Option.bind_eq_some_iff.mp hf
  obtain ⟨⟨zs, s2⟩, h3, h4⟩ := Option.bind_eq_some_iff.mp h2
  obtain ⟨all, h5, h6⟩ := Option.bind_eq_some_iff.mp h4
  by_cases hz : all.length ≤ 4000
  case neg => rw [if_neg hz] at h6; cases h6
  rw [if_pos hz] at h6
  cases h6
  have ez : zs = all.map D.int := intsD_eq h5
  refine ⟨r, env, st, ds, s1, he, hs, h1, fun J r1 H1 e1 q1 j1 Dl hD => ?_⟩
  have m0 := Mkg.start (o := (intKd X).ob Dl []) q1 hD
  refine ⟨fun k m H2 => m = ds.length - k ∧ k ≤ ds.length ∧ ∃ (r2 : Rf) (st2 : Store) (ks : List Int) (ys : List D), Mkg X.K r1 H1 Dl r2 H2 st2 ∧ EnvR X.K r2 H2 (DL.wipeL env is) (wipe σ is) ∧ H2 Dl = some ((intKd X).ob Dl ks.reverse) ∧
    loopC is bd t f (ds.drop k) (DL.wipeL env is) st2 = some (ys, s2) ∧ ks.map D.int ++ ys = zs, ⟨_, rfl, Nat.zero_le _, r1.hide Dl, s1, [], zs, m0, ((he.ext e1).ext m0.ex).wipeL is, upd_same, h3, rfl⟩, ?_⟩
  rintro k m H2 ⟨rfl, hk, r2, st2, ks, ys, mk, wp, hus, hl, hcat⟩
  obtain ⟨jst, jgo⟩ := j1 r2 H2 st2 mk.ex mk.sim
  by_cases hlt : k < ds.length
  case neg =>
    have e : k = ds.length := by omega
    subst e
    rw [List.drop_length] at hl
    cases hl
    rw [List.append_nil, ez] at hcat
    have := map_int_inj hcat
    subst this
    obtain ⟨w1, w2, w3⟩ := mk.show q1 hD
    exact .inl ⟨jst _ (Nat.le_refl _), Dl, (fun j => decide (j ∈ ks.reverse)), cntI ks.reverse, rfl, hus, q (.int (cntI ks.reverse)) (r2.shown Dl) H2 (e1.trans w1) w2 (.int _)⟩
  case pos =>
    have hd : ds[k]? = some ds[k] := List.getElem?_eq_getElem hlt
    rw [List.drop_eq_getElem_cons hlt] at hl
    obtain ⟨vals, hv, hl1⟩ := Option.bind_eq_some_iff.mp hl
    obtain ⟨⟨b, st3⟩, hb, hl2⟩ := Option.bind_eq_some_iff.mp hl1
    obtain ⟨j2, j3⟩ := jgo k _ hd
    refine .inr ⟨j2, fun H' => k + 1 ≤ ds.length ∧ ∃ (r2 : Rf) (st2 : Store) (ks : List Int) (ys : List D), Mkg X.K r1 H1 Dl r2 H' st2 ∧ EnvR X.K r2 H' (DL.wipeL env is) (wipe σ is) ∧ H' Dl = some ((intKd X).ob Dl ks.reverse) ∧
      loopC is bd t f (ds.drop (k + 1)) (DL.wipeL env is) st2 = some (ys, s2) ∧ ks.map D.int ++ ys = zs, fun H' ⟨hk', w⟩ => ⟨ds.length - (k + 1), by omega, rfl, hk', w⟩, fun x H3 y => ?_⟩
    obtain ⟨r3, e3, s3, rx⟩ := j3 x H3 y
    have wp3 := wp.ext e3
    refine hg r3 H3 x _ _ _ vals rx hv fun vs rvs => ⟨wipe_setL σ is vs, ?_⟩
    · have he3 : EnvR X.K r3 H3 (DL.setL is vals (DL.wipeL env is)) (DL.setL is vs (wipe σ is)) := wp3.setL rvs
      refine ⟨r3, _, st2, b, st3, he3, s3, hb, fun r4 H4 e4 s4 => ?_⟩
      cases b with
      | false =>
        rw [if_neg Bool.false_ne_true] at hl2 ⊢
        obtain ⟨m4, k4⟩ := mk.step (e3.trans e4) s4
        exact ⟨hlt, r4, st3, ks, ys, m4, wp3.ext e4, k4.trans hus, hl2, hcat⟩
      | true =>
        rw [if_pos rfl] at hl2 ⊢
        obtain ⟨⟨yd, st4⟩, hy, hl3⟩ := Option.bind_eq_some_iff.mp hl2
        obtain ⟨⟨ys', st5⟩, hl4, hl5⟩ := Option.map_eq_some_iff.mp hl3
        cases hl5
        have hin : yd ∈ zs := by rw [← hcat]; exact List.mem_append_right _ List.mem_cons_self
        rw [ez] at hin
        obtain ⟨kk, _, rfl⟩ := List.mem_map.mp hin
        have hlen : ks.length + 1 ≤ all.length := by
          have := congrArg List.length hcat
          rw [ez] at this
          simp at this
          omega
        refine ⟨r4, _, st3, .int kk, st4, he3.ext e4, s4, hy, fun yv r5 H5 e5 s5 ry => ?_⟩
        have e25 : Ext r2 H2 r5 H5 := (e3.trans e4).trans e5
        obtain ⟨m5, k5⟩ := mk.step e25 s5
        cases ry
        obtain ⟨m6, g1⟩ := m5.put q1 hD ((intKd X).ob Dl (kk :: ks.reverse))
        refine ⟨ks.reverse, k5.trans hus, ⟨⟨kk, rfl⟩, ?_⟩, hlt, r5, st4, ks ++ [kk], ys', m6, ((wp3.ext e4).ext e5).exx g1, by rw [List.reverse_append]; exact upd_same, hl4, by rw [List.map_append, List.append_assoc]; exact hcat⟩
        show cntI ks.reverse + 1 < 4096
        have := cntI_le ks.reverse
        rw [List.length_reverse] at this
        omega
theorem de_lenSc {RR : RD} {elt : Expr} {ifs : List Expr} {scope : Scope} {own : List (Str × Nat)} {p pos pos' : Pos} {fi : FI} {bd : FB} {g : TG} {t : FT} {f : F} {tg iter : Expr} (hgl : Gl X "len") (hml : X.mg "len" = none) (hc : X.calm = true) (hN : X.N.Nodup) (hi : DIR X RR tg iter fi) (ok : BlkOk X.N X.env.scope scope own)
    (tk : TgOkR X.K RR g (own.map (·.2)) bd)
    (hg : ∀ (s : Shared) (H : Hp) (C : Addr) (cl : List (Str × Addr)) (fp : List Addr), PG (X.blk s H scope (compEnvC scope cl C X.env) fp) tg g) (ht : ∀ (s : Shared) (H : Hp) (C : Addr) (cl : List (Str × Addr)) (fp : List Addr), DTs (X.blk s H scope (compEnvC scope cl C X.env) fp) ifs t)
    (he : ∀ (s : Shared) (H : Hp) (C : Addr) (cl : List (Str × Addr)) (fp : List Addr), DE (X.blk s H scope (compEnvC scope cl C X.env) fp) elt f) (hs : ∀ x, foldedSetIterable iter X.env x = pure x := by intro _; rfl)
    (hst : starEach [.SetComp elt [⟨tg, iter, ifs, 0⟩] scope pos] X.env = (false, eval (.SetComp elt [⟨tg, iter, ifs, 0⟩] scope pos) X.env) :: starEach [] X.env := by rfl) (hpl : (backTo pos' (starEach [] X.env)).any (·.1) = false := by rfl) :
    DE X (.Call (.Name "len" p) [.SetComp elt [⟨tg, iter, ifs, 0⟩] scope pos] [] pos') (fLenSc fi (own.map (·.2)) bd t f) :=
  weakE (pe_callB cr_lenSet hgl hml (by decide +kernel) (pa_cons (pe_scK (intKd X) intAdd hc hN hi ok hg ht he hs) pa_nil hst) (by decide) (by decide) hst hpl) fun σ H Q hh => lenScReads tk σ H Q hh
/-! ### sorted(set(t)), t a tuple of ints -/
def ins (k : Int) : List Int → List Int
  | [] => [k]
  | a :: l => if k < a then k :: a :: l else if k = a then a :: l else a :: ins k l
def srt (ks : List Int) : List Int := ks.foldr ins []
theorem ins_mem {k j : Int} : ∀ {l : List Int}, j ∈ ins k l ↔ j = k ∨ j ∈ l
  | [] => by simp [ins]
  | a :: l => by
    unfold ins
    split
    · simp
    · split
      · rename_i e
        subst e
        simp
      · rw [List.mem_cons, ins_mem, List.mem_cons]
        exact ⟨fun h => h.elim (fun e => .inr (.inl e)) fun h => h.elim .inl fun h => .inr (.inr h), fun h => h.elim (fun e => .inr (.inl e)) fun h => h.elim .inl fun h => .inr (.inr h)⟩
theorem ins_pw {k : Int} : ∀ {l : List Int}, l.Pairwise (· < ·) → (ins k l).Pairwise (· < ·)
  | [], _ => by simp [ins]
  | a :: l, h => by
    obtain ⟨h1, h2⟩ := List.pairwise_cons.mp h
    unfold ins
    split
    · rename_i lt
      exact List.pairwise_cons.mpr ⟨fun x hx => (List.mem_cons.mp hx).elim (fun e => e ▸ lt) fun hx => Int.lt_trans lt (h1 x hx), h⟩
    · split
      · exact h
      · refine List.pairwise_cons.mpr ⟨fun x hx => ?_, ins_pw h2⟩
        rcases ins_mem.mp hx with e | hx
        · omega
        · exact h1 x hx
theorem srt_mem {j : Int} : ∀ {ks : List Int}, j ∈ srt ks ↔ j ∈ ks
  | [] => by simp [srt]
  | k :: ks => by
    show j ∈ ins k (srt ks) ↔ _
    rw [ins_mem, srt_mem, List.mem_cons]
theorem srt_pw : ∀ ks : List Int, (srt ks).Pairwise (· < ·)
  | [] => .nil
  | k :: ks => ins_pw (srt_pw ks)
theorem pw_eq : ∀ {xs ys : List Int}, xs.Pairwise (· < ·) → ys.Pairwise (· < ·) → (∀ j, j ∈ xs ↔ j ∈ ys) → xs = ys
  | [], [], _, _, _ => rfl
  | [], y :: _, _, _, h => absurd ((h y).mpr List.mem_cons_self) (by simp)
  | x :: _, [], _, _, h => absurd ((h x).mp List.mem_cons_self) (by simp)
  | x :: xs, y :: ys, hx, hy, h => by
    obtain ⟨x1, x2⟩ := List.pairwise_cons.mp hx
    obtain ⟨y1, y2⟩ := List.pairwise_cons.mp hy
    have e : x = y := by
      rcases List.mem_cons.mp ((h x).mp List.mem_cons_self) with e | m
      · exact e
      · rcases List.mem_cons.mp ((h y).mpr List.mem_cons_self) with e | m2
        · exact e.symm
        · have := y1 x m
          have := x1 y m2
          omega
    subst e
    rw [pw_eq x2 y2 fun j => ⟨fun m => ?_, fun m => ?_⟩]
    · rcases List.mem_cons.mp ((h j).mp (List.mem_cons_of_mem _ m)) with e | q
      · subst e
        exact absurd (x1 j m) (Int.lt_irrefl _)
      · exact q
    · rcases List.mem_cons.mp ((h j).mpr (List.mem_cons_of_mem _ m)) with e | q
      · subst e
        exact absurd (y1 j m) (Int.lt_irrefl _)
      · exact q
def rSetTI (K : PySem.W.Frag) (w : World) : List V → Hp → VK → Prop := fun xs H Q => ∃ (l : Addr) (ns : List Int), xs = [V.ref l] ∧ SqT K H l (ns.map V.int) ∧ ns.length < 64 ∧ ∀ p c, H p = none → c ≤ ns.length → Q (.ref p) (upd H p (SetO w p (fun j => decide (j ∈ ns)) c))
theorem cr_setTI (hc : X.calm = true) : CallR X (.type "set") (rSetTI X.K X.w) := by
  intro pins s σ H xs us Q I r h
  obtain ⟨l, ns, rfl, hs, h64, q⟩ := h
  rw [Vals.ref1 r]
  obtain ⟨its, rv, p, _⟩ := I.tuple hs
  refine call_set_tupI ns (I.ok.hd hc) p (by simpa using ints_of_vals rv) (show ns.length + 1 < 4096 by omega) fun h' tk c new cle kk => ?_
  exact ⟨.ref _, upd H s.heap.objs.size (SetO X.w s.heap.objs.size (fun j => decide (j ∈ ns)) c), I.laid (t' := tk) kk (Nat.le_refl _) (setO_new new), rfl, q _ c (I.hok.fresh (Nat.le_refl _)) cle⟩
theorem RepL.intsV {r : Rf} {H : Hp} : ∀ {vs : List V} {ks : List Int}, RepL X.K r H vs (ks.map D.int) → vs = ks.map V.int
  | _, [], h => by cases h; rfl
  | _, k :: ks, h => by
    cases h with
    | cons a b =>
      cases a
      rw [RepL.intsV b]; rfl
theorem ints_repL {r : Rf} {H : Hp} : ∀ ks : List Int, RepL X.K r H (ks.map V.int) (ks.map D.int)
  | [] => .nil
  | k :: ks => .cons (.int k) (ints_repL ks)
def fSortSet (f : F) : F := fun env st => (f env st).bind fun p => match p.1 with
  | .tup ds => (intsD ds).bind fun ks => if ks.length < 64 then some (.lst ((srt ks).map .int), p.2) else none
  | _ => none
theorem de_sortSet {e : Expr} {f : F} {p1 p2 q1 q2 : Pos} (hc : X.calm = true) (h : DE X e f) (hg : Gl X "sorted") (hm : X.mg "sorted" = none) (hg2 : Gl X "set") (hm2 : X.mg "set" = none)
    (h1 : starEach [Expr.Call (.Name "set" p2) [e] [] q2] X.env = (false, eval (Expr.Call (.Name "set" p2) [e] [] q2) X.env) :: starEach [] X.env := by rfl) (h2 : (backTo q1 (starEach [] X.env)).any (·.1) = false := by rfl)
    (h3 : starEach [e] X.env = (false, eval e X.env) :: starEach [] X.env := by rfl) (h4 : (backTo q2 (starEach [] X.env)).any (·.1) = false := by rfl) :
    DE X (.Call (.Name "sorted" p1) [.Call (.Name "set" p2) [e] [] q2] [] q1) (fSortSet f) :=
  weakE (pe_callB (cr_sortedSet hc) hg hm (by decide +kernel) (pa_cons (pe_callTy (cr_setTI hc) hg2 hm2 (by decide +kernel) (pa_cons h pa_nil h3) (by decide) (by decide) h3 h4) pa_nil h1) (by decide) (by decide) h1 h2) fun σ H Q hh => by
    obtain ⟨r, env, st, d, st', he, hs, hf, q⟩ := hh
    obtain ⟨⟨x, s1⟩, e1, e2⟩ := Option.bind_eq_some_iff.mp hf
    cases x with
    | tup ds =>
      obtain ⟨ks, e3, e4⟩ := Option.bind_eq_some_iff.mp (show ((intsD ds).bind fun ks => if ks.length < 64 then some (D.lst ((srt ks).map .int), s1) else none) = some (d, st') from e2)
      by_cases hz : ks.length < 64
      case neg => rw [if_neg hz] at e4; cases e4
      rw [if_pos hz] at e4
      cases e4
      have ed := intsD_eq e3
      subst ed
      refine ⟨r, env, st, .tup (ks.map .int), st', he, hs, e1, fun v r1 H1 x1 q1 p1 => ?_⟩
      obtain ⟨a, xs, rfl, sq, rl⟩ := p1.sqT
      rw [RepL.intsV rl] at sq
      refine ⟨a, ks, rfl, sq, hz, fun p c hp cle => ⟨p, _, c, rfl, upd_same, by omega, fun ns' p' pw mem _ hp' => ?_⟩⟩
      have en : ns' = srt ks := pw_eq pw (srt_pw ks) fun j => by rw [mem j, srt_mem]; exact decide_eq_true_iff
      subst en
      have sm1 : Same H1 (upd H1 p (SetO X.w p (fun j => decide (j ∈ ks)) c)) := same_alloc hp
      have sm2 := same_alloc (o := HO.lst ((srt ks).map V.int)) hp'
      have q2 := q1.same sm1
      exact q _ r1 _ (x1.trans ((q1.ext sm1).trans (q2.ext sm2))) (q2.same sm2) (.lst upd_same (q2.free hp') (ints_repL _))
    | _ => cases e2
/-! ### tuple(range(n)) -/
def fTupRg (f : F) : F := fun env st => (f env st).bind fun p => match p.1 with
  | .int n => if 0 ≤ n ∧ n ≤ 1000000 then some (.tup (rg 0 n), p.2) else none
  | _ => none
theorem repL_map {r : Rf} {H : Hp} {α : Type} {f : α → V} {g : α → D} (h : ∀ a, Rep X.K r H (f a) (g a)) : ∀ l : List α, RepL X.K r H (l.map f) (l.map g)
  | [] => .nil
  | a :: l => .cons (h a) (repL_map h l)
theorem de_tupRg {e : Expr} {f : F} {p1 p2 q1 q2 : Pos} (hc : X.calm = true) (h : DE X e f) (hg : Gl X "tuple") (hm : X.mg "tuple" = none) (hg2 : Gl X "range") (hm2 : X.mg "range" = none)
    (h1 : starEach [Expr.Call (.Name "range" p2) [e] [] q2] X.env = (false, eval (Expr.Call (.Name "range" p2) [e] [] q2) X.env) :: starEach [] X.env := by rfl)
    (h3 : starEach [e] X.env = (false, eval e X.env) :: starEach [] X.env := by rfl) :
    DE X (.Call (.Name "tuple" p1) [.Call (.Name "range" p2) [e] [] q2] [] q1) (fTupRg f) :=
  weakE (pe_tupRg hc hg hm (prg_1 hg2 hm2 h h3) h1) fun σ H Q hh => by
    obtain ⟨r, env, st, d, st', he, hs, hf, q⟩ := hh
    obtain ⟨⟨x, s1⟩, e1, e2⟩ := Option.bind_eq_some_iff.mp hf
    cases x with
    | int n =>
      have e4 : (if 0 ≤ n ∧ n ≤ 1000000 then some (D.tup (rg 0 n), s1) else none) = some (d, st') := e2
      by_cases hz : 0 ≤ n ∧ n ≤ 1000000
      case neg => rw [if_neg hz] at e4; cases e4
      rw [if_pos hz] at e4
      cases e4
      refine ⟨r, env, st, .int n, st', he, hs, e1, fun v r1 H1 x1 q1 p1 => ?_⟩
      cases p1
      refine ⟨n, rfl, .of_le (by omega) (by omega) (by omega) hz.1, fun p hp => ?_⟩
      have sm : Same H1 (upd H1 p (.tup (rgV 0 n))) := same_alloc hp
      exact q _ r1 _ (x1.trans (q1.ext sm)) (q1.same sm) (.tupP upd_same (q1.free hp) (repL_map (fun i => .int _) _))
    | _ => cases e2
/-! ### x in xs, xs a list of the store -/
def fInL (neg : Bool) (fa fb : F) : F := fun env st => (fa env st).bind fun p => (fb env p.2).bind fun q => match q.1 with
  | .ref n => (match q.2[n]? with | some (.lst ds) => if flatD p.1 = true then (anyF p.1 ds).map fun b => (.bl (if neg = true then !b else b), q.2) else none | _ => none)
  | _ => none
theorem inL_reads {neg : Bool} {fa fb : F} (σ : L2.St) (H : Hp) (Q : VK) (h : tD X.K (fInL neg fa fb) σ H Q) : tOp (rIn X.K neg) (tD X.K fa) (tD X.K fb) σ H Q := by
  obtain ⟨r, env, st, d, st', he, hs, hf, q⟩ := h
  obtain ⟨⟨x, s1⟩, h1, hf1⟩ := Option.bind_eq_some_iff.mp hf
  obtain ⟨⟨y, s2⟩, h2, hf2⟩ := Option.bind_eq_some_iff.mp hf1
  cases y with
  | ref n =>
    have hf3 : (match s2[n]? with | some (.lst ds) => if flatD x = true then (anyF x ds).map fun b => (D.bl (if neg = true then !b else b), s2) else none | _ => none) = some (d, st') := hf2
    split at hf3
    · rename_i ds hst
      by_cases fl : flatD x = true
      case neg => rw [if_neg fl] at hf3; cases hf3
      rw [if_pos fl] at hf3
      obtain ⟨k, h3, h4⟩ := Option.map_eq_some_iff.mp hf3
      cases h4
      refine two he hs h1 h2 fun u v r' H' e1 q1 pu pv => ?_
      obtain ⟨a, rfl, ha⟩ := pv.refI
      obtain ⟨av, xs, hx, l⟩ := q1.ob _ a _ ha hst
      obtain ⟨z1, z2⟩ := anyF_rep pu l h3
      refine ⟨_, _, rfl, .inl (.of hx), flat_rep pu fl, z2, ?_⟩
      rw [z1]
      exact q _ r' H' e1 q1 (.bl _)
    · cases hf3
  | _ => cases hf2
theorem de_inL {a b : Expr} {fa fb : F} {pos : Pos} {k : Nat} (g : GX X k) (ha : DE X a fa) (hb : DE X b fb) (hm : behindInMarks .In b = false := by with_unfolding_all rfl) : DE X (.Compare a [.In] [b] pos) (fInL false fa fb) :=
  weakE (pe_cmpR op_in_seq ha hb hm) fun σ H Q h => inL_reads σ H Q h
theorem dt_inL {a b : Expr} {fa fb : F} {pos : Pos} {k : Nat} (g : GX X k) (ha : DE X a fa) (hb : DE X b fb) (hm : behindInMarks .In b = false := by with_unfolding_all rfl) : DT X (.Compare a [.In] [b] pos) (fTest (fInL false fa fb)) :=
  weakT (pt_cmpR op_in_seq ha hb hm) fun σ H Q h => inL_reads σ H (fun x H1 => ∃ c, x = .bl c ∧ Q c H1) (testReads σ H Q h)
theorem de_notinL {a b : Expr} {fa fb : F} {pos : Pos} {k : Nat} (g : GX X k) (ha : DE X a fa) (hb : DE X b fb) (hm : behindInMarks .NotIn b = false := by with_unfolding_all rfl) : DE X (.Compare a [.NotIn] [b] pos) (fInL true fa fb) :=
  weakE (pe_cmpR op_notIn_seq ha hb hm) fun σ H Q h => inL_reads σ H Q h
theorem dt_notinL {a b : Expr} {fa fb : F} {pos : Pos} {k : Nat} (g : GX X k) (ha : DE X a fa) (hb : DE X b fb) (hm : behindInMarks .NotIn b = false := by with_unfolding_all rfl) : DT X (.Compare a [.NotIn] [b] pos) (fTest (fInL true fa fb)) :=
  weakT (pt_cmpR op_notIn_seq ha hb hm) fun σ H Q h => inL_reads σ H (fun x H1 => ∃ c, x = .bl c ∧ Q c H1) (testReads σ H Q h)
end
end DL
/-! Dicts: frozen, read, walked, locked and walked, comprehended, copied, sorted. -/
namespace DL
open PySem PySem.Spec PyProof.Rows L2 TL
variable {K : PySem.W.Frag}
/-! ### what a dict holds -/
def dctAt : D → Store → Option (List (Key × D)) := fun d st => match d with
  | .dct kvs => some kvs
  | .ref n => (match st[n]? with | some (.dct kvs) => some kvs | some (.ldc kvs) => some kvs | _ => none)
  | _ => none
theorem dctRd {r : Rf} {H : Hp} {v : V} {d : D} {st : Store} {kvs : List (Key × D)} (h : Rep K r H v d) (si : Sim K r H st) (e : dctAt d st = some kvs) : ∃ a xs, v = .ref a ∧ Rd H a (.dK xs) ∧ RepK K r H xs kvs := by
  cases d with
  | dct ks =>
    cases e
    cases h with
    | dct a b c => exact ⟨_, _, rfl, .inr ⟨_, a⟩, c⟩
  | ref n =>
    obtain ⟨a, rfl, ha⟩ := h.refI
    have e' : (match st[n]? with | some (.dct kvs) => some kvs | some (.ldc kvs) => some kvs | _ => none) = some kvs := e
    split at e'
    · rename_i ks hst
      cases e'
      obtain ⟨av, xs, hx, l⟩ := si.ob _ a _ ha hst
      exact ⟨a, xs, rfl, .inl hx, l⟩
    · rename_i ks hst
      cases e'
      obtain ⟨av, lk, o, xs, hx, l⟩ := si.ob _ a _ ha hst
      exact ⟨a, xs, rfl, .inr ⟨o, hx⟩, l⟩
    · cases e'
  | _ => cases e
theorem RepK.valN {r : Rf} {H : Hp} {k : Key} : ∀ {vs : List (Key × V)} {ds : List (Key × D)}, RepK K r H vs ds → valD ds k = none → valV vs k = none
  | _, _, .nil, _ => rfl
  | _, _, .cons (k := k0) a b, h => by
    unfold valD at h
    unfold valV
    rw [List.find?_cons] at h ⊢
    by_cases z : k0 = k
    · simp [z] at h
    · have zz : decide (k0 = k) = false := decide_eq_false z
      simp only [zz] at h ⊢
      exact RepK.valN b h
/-- the value at a key, or none, on both levels -/
theorem RepK.opt {r : Rf} {H : Hp} {k : Key} {vs : List (Key × V)} {ds : List (Key × D)} (l : RepK K r H vs ds) : (valD ds k = none ∧ valV vs k = none) ∨ ∃ d v, valD ds k = some d ∧ valV vs k = some v ∧ Rep K r H v d := by
  cases e : valD ds k with
  | none => exact .inl ⟨rfl, l.valN e⟩
  | some d =>
    obtain ⟨v, hv, rv⟩ := l.val e
    exact .inr ⟨d, v, rfl, hv, rv⟩
def dropD (kvs : List (Key × D)) (k : Key) : List (Key × D) := kvs.filter fun kv => decide (kv.1 ≠ k)
theorem RepK.drop {r : Rf} {H : Hp} {k : Key} : ∀ {vs : List (Key × V)} {ds : List (Key × D)}, RepK K r H vs ds → RepK K r H (dropK vs k) (dropD ds k)
  | _, _, .nil => .nil
  | _, _, .cons (k := k0) a b => by
    unfold dropK dropD
    rw [List.filter_cons, List.filter_cons]
    by_cases z : k0 = k
    · have : decide (k0 ≠ k) = false := decide_eq_false (fun q => q z)
      simp only [this]
      exact RepK.drop b
    · have : decide (k0 ≠ k) = true := decide_eq_true z
      simp only [this, if_true]
      exact .cons a (RepK.drop b)
theorem RepK.keys {r : Rf} {H : Hp} : ∀ {vs : List (Key × V)} {ds : List (Key × D)}, RepK K r H vs ds → vs.map (·.1) = ds.map (·.1)
  | _, _, .nil => rfl
  | _, _, .cons a b => by rw [List.map_cons, List.map_cons, RepK.keys b]
theorem RepK.get {r : Rf} {H : Hp} : ∀ {vs : List (Key × V)} {ds : List (Key × D)}, RepK K r H vs ds → ∀ {i : Nat} {k : Key} {d : D}, ds[i]? = some (k, d) → ∃ v, vs[i]? = some (k, v) ∧ Rep K r H v d
  | _, _, .nil, i, k, d, h => by simp at h
  | _, _, .cons a b, 0, k, d, h => by
    have e := Option.some.inj h
    cases e
    exact ⟨_, rfl, a⟩
  | _, _, .cons a b, i + 1, k, d, h => RepK.get b (i := i) h
def keyD : Key → D | .inl i => .int i | .inr x => .str x
theorem keyD_rep {r : Rf} {H : Hp} (k : Key) : Rep K r H (kV k) (keyD k) := by cases k with | inl i => exact .int i | inr x => exact .str x
section
variable {X : Cx} {W : WXd} {tg iter : Expr}
/-! ### d.get(k), d.get(k, x), k in d -/
def fGet1 (fo fk : F) : F := fun env st => (fo env st).bind fun p => (dctAt p.1 p.2).bind fun _ => (fk env p.2).bind fun q => (asKey q.1).bind fun k => (dctAt p.1 q.2).map fun kvs => ((valD kvs k).getD .non, q.2)
theorem de_get1 {o e : Expr} {fo fk : F} {apos cpos : Pos} {k : Nat} (g : GX X k) (ho : DE X o fo) (he : DE X e fk) (m : M1 X o "get" apos e cpos) : DE X (.Call (.Attribute o "get" apos) [e] [] cpos) (fGet1 fo fk) :=
  weakE (pe_dget1 (hu_of g.room) ho he m) fun σ H Q hh => by
  obtain ⟨r, env, st, d, st', he, hs, hf, q⟩ := hh
  obtain ⟨⟨x, s1⟩, h1, hf1⟩ := Option.bind_eq_some_iff.mp hf
  obtain ⟨ks, h2, hf2⟩ := Option.bind_eq_some_iff.mp hf1
  obtain ⟨⟨y, s2⟩, h3, hf3⟩ := Option.bind_eq_some_iff.mp hf2
  obtain ⟨kk, h4, hf4⟩ := Option.bind_eq_some_iff.mp hf3
  obtain ⟨kvs, h5, hf5⟩ := Option.map_eq_some_iff.mp hf4
  cases hf5
  refine ⟨r, env, st, x, s1, he, hs, h1, fun u r1 H1 e1 q1 p1 => ?_⟩
  obtain ⟨a, xs, rfl, rd, l⟩ := dctRd p1 q1 h2
  refine ⟨a, rfl, .inl ⟨xs, rd⟩, r1, env, s1, y, _, he.ext e1, q1, h3, fun v r2 H2 e2 q2 p2 => ?_⟩
  obtain ⟨a', ys, ea, rd2, l2⟩ := dctRd (p1.ext e2) q2 h5
  cases ea
  have ev := asKey_rep p2 h4
  subst ev
  refine ⟨_, dget_rd rd2, ?_⟩
  rcases l2.opt (k := kk) with ⟨n1, n2⟩ | ⟨d, v, n1, n2, rv⟩
  · rw [n2]
    rw [n1] at q
    exact q .non r2 H2 (e1.trans e2) q2 .non
  · rw [n2]
    rw [n1] at q
    exact q v r2 H2 (e1.trans e2) q2 rv
def fGet2 (fo fk fx : F) : F := fun env st => (fo env st).bind fun p => (dctAt p.1 p.2).bind fun _ => (fk env p.2).bind fun q => (asKey q.1).bind fun k => (fx env q.2).bind fun w => (dctAt p.1 w.2).map fun kvs => ((valD kvs k).getD w.1, w.2)
theorem de_get2 {o e f : Expr} {fo fk fx : F} {apos cpos : Pos} {k : Nat} (g : GX X k) (ho : DE X o fo) (he : DE X e fk) (hx : DE X f fx) (m : M2 X o "get" apos e f cpos) : DE X (.Call (.Attribute o "get" apos) [e, f] [] cpos) (fGet2 fo fk fx) :=
  weakE (pe_dget2 (hu_of g.room) ho he hx m) fun σ H Q hh => by
  obtain ⟨r, env, st, d, st', he, hs, hf, q⟩ := hh
  obtain ⟨⟨x, s1⟩, h1, hf1⟩ := Option.bind_eq_some_iff.mp hf
  obtain ⟨ks, h2, hf2⟩ := Option.bind_eq_some_iff.mp hf1
  obtain ⟨⟨y, s2⟩, h3, hf3⟩ := Option.bind_eq_some_iff.mp hf2
  obtain ⟨kk, h4, hf4⟩ := Option.bind_eq_some_iff.mp hf3
  obtain ⟨⟨z, s3⟩, h6, hf6⟩ := Option.bind_eq_some_iff.mp hf4
  obtain ⟨kvs, h5, hf5⟩ := Option.map_eq_some_iff.mp hf6
  cases hf5
  refine ⟨r, env, st, x, s1, he, hs, h1, fun u r1 H1 e1 q1 p1 => ?_⟩
  obtain ⟨a, xs, rfl, rd, l⟩ := dctRd p1 q1 h2
  refine ⟨a, rfl, .inl ⟨xs, rd⟩, r1, env, s1, y, s2, he.ext e1, q1, h3, fun v r2 H2 e2 q2 p2 => ⟨r2, env, s2, z, _, (he.ext e1).ext e2, q2, h6, fun w r3 H3 e3 q3 p3 => ?_⟩⟩
  obtain ⟨a', ys, ea, rd2, l2⟩ := dctRd ((p1.ext e2).ext e3) q3 h5
  cases ea
  have ev := asKey_rep p2 h4
  subst ev
  refine ⟨_, dget_rd rd2, ?_⟩
  rcases l2.opt (k := kk) with ⟨n1, n2⟩ | ⟨d, v, n1, n2, rv⟩
  · rw [n2]
    rw [n1] at q
    exact q w r3 H3 ((e1.trans e2).trans e3) q3 p3
  · rw [n2]
    rw [n1] at q
    exact q v r3 H3 ((e1.trans e2).trans e3) q3 rv
def fInD (neg : Bool) (fk fo : F) : F := fun env st => (fk env st).bind fun q => (asKey q.1).bind fun k => (fo env q.2).bind fun p => (dctAt p.1 p.2).map fun kvs => (.bl (if neg = true then !(valD kvs k).isSome else (valD kvs k).isSome), p.2)
theorem inD_reads {neg : Bool} {fk fo : F} {R : VK → Option V → Hp → Prop} (hR : ∀ Q o H, Q (.bl (if neg = true then !o.isSome else o.isSome)) H → R Q o H) (σ : L2.St) (H : Hp) (Q : VK) (h : tD K (fInD neg fk fo) σ H Q) :
    tD K fk σ H fun y H1 => tD K fo σ H1 fun x H2 => ∃ a o, x = .ref a ∧ DGet H2 a y o ∧ R Q o H2 := by
  obtain ⟨r, env, st, d, st', he, hs, hf, q⟩ := h
  obtain ⟨⟨y, s1⟩, h1, hf1⟩ := Option.bind_eq_some_iff.mp hf
  obtain ⟨kk, h4, hf4⟩ := Option.bind_eq_some_iff.mp hf1
  obtain ⟨⟨x, s2⟩, h3, hf3⟩ := Option.bind_eq_some_iff.mp hf4
  obtain ⟨kvs, h5, hf5⟩ := Option.map_eq_some_iff.mp hf3
  cases hf5
  refine two he hs h1 h3 fun u v r' H' e1 q1 pu pv => ?_
  obtain ⟨a, xs, rfl, rd, l⟩ := dctRd pv q1 h5
  have ev := asKey_rep pu h4
  subst ev
  refine ⟨a, _, rfl, dget_rd rd, hR _ _ _ ?_⟩
  have same : (valV xs kk).isSome = (valD kvs kk).isSome := by
    rcases l.opt (k := kk) with ⟨n1, n2⟩ | ⟨d, v, n1, n2, rv⟩
    · rw [n1, n2]; rfl
    · rw [n1, n2]; rfl
  rw [same]
  exact q _ r' H' e1 q1 (.bl _)
theorem de_inD {a b : Expr} {fa fb : F} {pos : Pos} {k : Nat} (g : GX X k) (ha : DE X a fa) (hb : DE X b fb) (hm : behindInMarks .In b = false := by with_unfolding_all rfl) : DE X (.Compare a [.In] [b] pos) (fInD false fa fb) :=
  weakE (pe_cmp (pc_din (hu_of g.room) ha hb) hm) fun σ H Q h => inD_reads (fun Q o H h => h) σ H Q h
theorem de_notinD {a b : Expr} {fa fb : F} {pos : Pos} {k : Nat} (g : GX X k) (ha : DE X a fa) (hb : DE X b fb) (hm : behindInMarks .NotIn b = false := by with_unfolding_all rfl) : DE X (.Compare a [.NotIn] [b] pos) (fInD true fa fb) :=
  weakE (pe_cmp (pc_dnotin (hu_of g.room) ha hb) hm) fun σ H Q h => inD_reads (fun Q o H h => h) σ H Q h
theorem dt_inD {a b : Expr} {fa fb : F} {pos : Pos} {k : Nat} (g : GX X k) (ha : DE X a fa) (hb : DE X b fb) (hm : behindInMarks .In b = false := by with_unfolding_all rfl) : DT X (.Compare a [.In] [b] pos) (fTest (fInD false fa fb)) :=
  weakT (pt_cmp (pc_din (hu_of g.room) ha hb) hm) fun σ H Q h => inD_reads (fun Q o H h => h) σ H (fun x H1 => ∃ c, x = .bl c ∧ Q c H1) (testReads σ H Q h)
theorem dt_notinD {a b : Expr} {fa fb : F} {pos : Pos} {k : Nat} (g : GX X k) (ha : DE X a fa) (hb : DE X b fb) (hm : behindInMarks .NotIn b = false := by with_unfolding_all rfl) : DT X (.Compare a [.NotIn] [b] pos) (fTest (fInD true fa fb)) :=
  weakT (pt_cmp (pc_dnotin (hu_of g.room) ha hb) hm) fun σ H Q h => inD_reads (fun Q o H h => h) σ H (fun x H1 => ∃ c, x = .bl c ∧ Q c H1) (testReads σ H Q h)
/-! ### {} into the store -/
def fNewD : F := fun _ st => some (.ref st.length, st ++ [.dct []])
theorem de_newD {pos : Pos} : DE X (.Dict [] [] pos) fNewD := weakE pe_dnewK fun σ H Q hh => by
  obtain ⟨r, env, st, d, st', he, hs, hf, q⟩ := hh
  cases hf
  intro p hp
  obtain ⟨e0, hd0⟩ := hideNew (o := .dK []) hs hp
  have ee : ObR X.K ((r.hide p).add p) (upd (upd H p (.dK [])) p (.dK [])) p (.dct []) := ⟨hd0.av, [], upd_same, .nil⟩
  obtain ⟨w1, w2, w3⟩ := hd0.add (o := .dK []) (ob := .dct []) e0 hs hp ee
  have key := q (.ref p) _ _ w1 w2 (w3 _ rfl)
  rw [upd_upd] at key
  exact key
/-! ### d.pop(k, x) -/
def fPop2 (fo fk fx : F) : F := fun env st => (fo env st).bind fun p => (dctAt p.1 p.2).bind fun _ => (fk env p.2).bind fun q => (asKey q.1).bind fun k => (fx env q.2).bind fun w => match p.1 with
  | .ref n => (match w.2[n]? with
    | some (.dct kvs) => (match valD kvs k with | some d => some (d, w.2.set n (.dct (dropD kvs k))) | none => some (w.1, w.2))
    | _ => none)
  | _ => none
theorem de_pop2 {o e f : Expr} {fo fk fx : F} {apos cpos : Pos} (ho : DE X o fo) (he : DE X e fk) (hx : DE X f fx) (m : M2 X o "pop" apos e f cpos) : DE X (.Call (.Attribute o "pop" apos) [e, f] [] cpos) (fPop2 fo fk fx) :=
  weakE (pe_dpop2 ho he hx m) fun σ H Q hh => by
  obtain ⟨r, env, st, d, st', he, hs, hf, q⟩ := hh
  obtain ⟨⟨x, s1⟩, h1, hf1⟩ := Option.bind_eq_some_iff.mp hf
  obtain ⟨ks, h2, hf2⟩ := Option.bind_eq_some_iff.mp hf1
  obtain ⟨⟨y, s2⟩, h3, hf3⟩ := Option.bind_eq_some_iff.mp hf2
  obtain ⟨kk, h4, hf4⟩ := Option.bind_eq_some_iff.mp hf3
  obtain ⟨⟨z, s3⟩, h6, hf6⟩ := Option.bind_eq_some_iff.mp hf4
  cases x with
  | ref n =>
    have hf7 : (match s3[n]? with | some (.dct kvs) => (match valD kvs kk with | some d => some (d, s3.set n (.dct (dropD kvs kk))) | none => some (z, s3)) | _ => none) = some (d, st') := hf6
    split at hf7
    · rename_i kvs hst
      refine ⟨r, env, st, _, s1, he, hs, h1, fun u r1 H1 e1 q1 p1 => ?_⟩
      obtain ⟨a, xs, rfl, rd, l⟩ := dctRd p1 q1 h2
      refine ⟨a, rfl, .inl ⟨xs, rd⟩, r1, env, s1, y, s2, he.ext e1, q1, h3, fun v r2 H2 e2 q2 p2 => ⟨r2, env, s2, z, s3, (he.ext e1).ext e2, q2, h6, fun w r3 H3 e3 q3 p3 => ?_⟩⟩
      obtain ⟨a', ea, ha⟩ := ((p1.ext e2).ext e3).refI
      cases ea
      obtain ⟨av, ys, hx, l2⟩ := q3.ob _ a _ ha hst
      have ev := asKey_rep p2 h4
      subst ev
      refine ⟨ys, kk, hx, rfl, fun v hv => ?_, fun hv => ?_⟩
      · rcases l2.opt (k := kk) with ⟨n1, n2⟩ | ⟨d', v', n1, n2, rv⟩
        · rw [n2] at hv; cases hv
        · rw [n2] at hv
          cases hv
          rw [n1] at hf7
          cases hf7
          have ee : Ex r3 H3 r3 (upd H3 a (.dK (dropK ys kk))) := ⟨⟨[], by simp⟩, fun b o w m => by rw [upd_ne (fun y => m (by rw [y]; exact av))]; exact w, fun b w m => absurd w m⟩
          obtain ⟨w1, w2⟩ := q3.set (o := .dK (dropK ys kk)) (ob := .dct (dropD kvs kk)) ha av ⟨av, _, upd_same, (l2.drop).ex ee⟩ (fun _ _ z => by rw [hx] at z; cases z)
          exact q v r3 _ (((e1.trans e2).trans e3).trans w1) w2 (rv.ext w1)
      · rcases l2.opt (k := kk) with ⟨n1, n2⟩ | ⟨d', v', n1, n2, rv⟩
        · rw [n1] at hf7
          cases hf7
          exact q w r3 H3 ((e1.trans e2).trans e3) q3 p3
        · rw [n2] at hv; cases hv
    · cases hf7
  | _ => cases hf6
/-! ### a dict of the store becomes a value, for good -/
theorem frz_sim {r : Rf} {H : Hp} {st : Store} (s : Sim K r H st) {n : Nat} {a : Addr} {xs : List (Key × V)} {kvs : List (Key × D)} (o : Obj) (ha : r.adr[n]? = some a) (hx : H a = some (.dK xs)) (l : RepK K r H xs kvs) (av : r.av a) :
    Ext r H (r.drop a) (upd H a (.frz o (.dK xs))) ∧ Sim K (r.drop a) (upd H a (.frz o (.dK xs))) (st.set n .dead) ∧ Rep K (r.drop a) (upd H a (.frz o (.dK xs))) (.ref a) (.dct kvs) := by
  have hm := List.mem_of_getElem? ha
  have nlk : ∀ q, r.lk q → q ≠ a := fun q z y => by
    obtain ⟨o, u, h⟩ := s.lkd q z
    rw [y, hx] at h
    cases h
  have e : Ext r H (r.drop a) (upd H a (.frz o (.dK xs))) := ⟨⟨⟨[], by simp [Rf.drop]⟩, fun b u h n => by rw [upd_ne (fun y => n (by rw [y]; exact av))]; exact h, fun b h n => absurd h.1 n⟩, fun b v n => ⟨by rw [upd_ne (fun y => n (by rw [y]; exact hm))], ⟨v, fun y => n (by rw [y]; exact hm)⟩, n⟩, fun _ => Iff.rfl, fun b z => by rw [upd_ne (nlk b z)]⟩
  refine ⟨e, ⟨by rw [List.length_set]; exact s.len, s.nd, fun m b x h1 h2 => ?_, fun b v => ?_, fun b v => ?_, fun b v => by rw [upd_ne (nlk b v)]; exact s.lkd b v⟩, .dct upd_same (fun z => z.2 rfl) (l.ext e)⟩
  · by_cases z : n = m
    · subst z
      by_cases hl : n < st.length
      · rw [List.getElem?_set_self hl] at h2
        cases h2
        trivial
      · rw [List.getElem?_eq_none (by rw [List.length_set]; omega)] at h2
        cases h2
    · rw [List.getElem?_set_ne z] at h2
      have nb : b ≠ a := fun y => z (by
        subst y
        obtain ⟨l1, e1⟩ := List.getElem?_eq_some_iff.mp ha
        obtain ⟨l2, e2⟩ := List.getElem?_eq_some_iff.mp h1
        exact (List.getElem_inj s.nd).mp (e1.trans e2.symm))
      exact (s.ob m b x h1 h2).ex e.toEx fun v => ⟨by rw [upd_ne nb], v, nb⟩
  · by_cases z : b = a
    · exact ⟨_, by rw [z]; exact upd_same⟩
    · rw [upd_ne z]; exact s.there b v.1
  · by_cases z : b = a
    · exact ⟨_, by rw [z]; exact upd_same⟩
    · rw [upd_ne z]; exact s.old b v
def fFrz (f : F) : F := fun env st => (f env st).bind fun p => match p.1 with
  | .ref n => (match p.2[n]? with | some (.dct kvs) => some (.dct kvs, p.2.set n .dead) | _ => none)
  | _ => none
theorem de_frz {e : Expr} {f : F} (h : DE X e f) : DE X e (fFrz f) := weakE (pe_frz h) fun σ H Q hh => by
  obtain ⟨r, env, st, d, st', he, hs, hf, q⟩ := hh
  obtain ⟨⟨x, s1⟩, h1, h2⟩ := Option.bind_eq_some_iff.mp hf
  cases x with
  | ref n =>
    have h2' : (match s1[n]? with | some (.dct kvs) => some (D.dct kvs, s1.set n .dead) | _ => none) = some (d, st') := h2
    split at h2'
    · rename_i kvs hst
      cases h2'
      refine ⟨r, env, st, _, s1, he, hs, h1, fun v r1 H1 e1 q1 p1 => ?_⟩
      obtain ⟨a, rfl, ha⟩ := p1.refI
      obtain ⟨av, xs, hx, l⟩ := q1.ob _ a _ ha hst
      refine ⟨a, _, rfl, hx, trivial, fun o => ?_⟩
      obtain ⟨w1, w2, w3⟩ := frz_sim q1 o ha hx l av
      exact q _ _ _ (e1.trans w1) w2 w3
    · cases h2'
  | _ => cases h2
/-- the dict in slot i, ahead of a statement -/
theorem ps_frz {s : Stmt} {t : TS} (h : PS X s t) : PS X s (fun D σ H => ∃ d u, H d = some u ∧ Mut (some u) ∧ ∀ o, t D σ (upd H d (.frz o u))) := by
  refine ⟨fun pins s σ H D I hw => ?_⟩
  obtain ⟨d, u, hd, mu, q⟩ := hw
  obtain ⟨od, I2⟩ := I.lock hd mu
  exact h.run pins s σ _ D I2 (q od)
def sFrzV (i : Nat) : FS := fun env st => match env[i]? with
  | some (some (.ref n)) => (match st[n]? with | some (.dct kvs) => some (.nx, env.set i (some (.dct kvs)), st.set n .dead) | _ => none)
  | _ => none
theorem ds_frzV (i : Nat) {s : Stmt} {g : FS} (h : DS X W s g) : DS X W s (sSeq (sFrzV i) g) := weakS (ps_frz h) fun D' σ H hh => by
  obtain ⟨r, env, st, o, env', st', he, hs, hf, q⟩ := hh
  obtain ⟨⟨o1, e1, s1⟩, h1, h2⟩ := Option.bind_eq_some_iff.mp hf
  unfold sFrzV at h1
  split at h1
  · rename_i n hn
    split at h1
    · rename_i kvs hst
      cases h1
      obtain ⟨v, hv, rv⟩ := he.at_ i _ hn
      obtain ⟨a, rfl, ha⟩ := rv.refI
      obtain ⟨av, xs, hx, l⟩ := hs.ob _ a _ ha hst
      refine ⟨a, _, hx, trivial, fun ob => ?_⟩
      obtain ⟨w1, w2, w3⟩ := frz_sim hs ob ha hx l av
      have he2 := (he.ext w1).set w3 i
      have es : σ.set i (some (V.ref a)) = σ := by
        refine List.ext_getElem? fun j => ?_
        by_cases z : i = j
        · subst z
          rw [List.getElem?_set_self (List.getElem?_eq_some_iff.mp hv).1, hv]
        · rw [List.getElem?_set_ne z]
      rw [es] at he2
      exact ⟨_, _, _, o, env', st', he2, w2, h2, q.ext w1⟩
    · cases h1
  · cases h1
/-! ### for k in d, for k, v in d.items(), d a value -/
def asKeys : D → Option (List D) | .dct kvs => some (kvs.map fun kv => keyD kv.1) | _ => none
theorem di_keys {f : F} (h : DE X iter f) : DI X tg iter (iOf asKeys f) := weakI (pi_keys h) fun σ H R hh => by
  obtain ⟨r, env, st, ds, st', he, hs, hf, q⟩ := hh
  obtain ⟨d, h1, h2⟩ := iOf_some hf
  refine ⟨r, env, st, d, st', he, hs, h1, fun v r1 H1 e1 q1 p1 => ?_⟩
  cases d with
  | dct kvs =>
    cases h2
    cases p1 with
    | dct a b c =>
      rename_i p o xs
      refine ⟨p, o, rfl, .inl ⟨xs, a, q _ r1 H1 e1 q1 fun r2 H2 st2 e2 s2 => ?_⟩⟩
      have a2 := e2.keep _ _ a b
      refine ⟨fun i hi => ⟨a2, by rw [c.len]; simpa using hi⟩, fun i d hd => ?_⟩
      rw [List.getElem?_map] at hd
      obtain ⟨⟨k, e⟩, hk, rfl⟩ := Option.map_eq_some_iff.mp hd
      obtain ⟨v, hv, rv⟩ := c.get hk
      refine ⟨⟨a2, (List.getElem?_eq_some_iff.mp hv).1⟩, fun x H3 ⟨eH, k', v', hk', ex⟩ => ?_⟩
      subst eH
      rw [hv] at hk'
      cases hk'
      subst ex
      exact ⟨r2, .refl _ _, s2, keyD_rep k⟩
  | _ => cases h2
def asItems : D → Option (List D) | .dct kvs => some (kvs.map fun kv => .tup [keyD kv.1, kv.2]) | _ => none
theorem di_items {e : Expr} {f : F} {elts : List Expr} {kk : Nat} {tpos apos cpos : Pos} (h : DE X e f) (hbase : attributeBase e "items" X.env (eval e X.env) = eval e X.env := by rfl) (hline : (apos.endLine == cpos.line) = true := by rfl) :
    DIR X (RepI X.K) (.Tuple elts kk tpos) (.Call (.Attribute e "items" apos) [] [] cpos) (iOf asItems f) := weakI (pi_items h hbase hline) fun σ H R hh => by
  obtain ⟨r, env, st, ds, st', he, hs, hf, q⟩ := hh
  obtain ⟨d, h1, h2⟩ := iOf_some hf
  refine ⟨r, env, st, d, st', he, hs, h1, fun v r1 H1 e1 q1 p1 => ?_⟩
  cases d with
  | dct kvs =>
    cases h2
    cases p1 with
    | dct a b c =>
      rename_i p o xs
      refine ⟨p, o, xs, rfl, a, q _ r1 H1 e1 q1 fun r2 H2 st2 e2 s2 => ?_⟩
      have a2 := e2.keep _ _ a b
      have c2 := c.ext e2
      refine ⟨fun i hi => ⟨a2, by rw [c.len]; simpa using hi⟩, fun i d hd => ?_⟩
      rw [List.getElem?_map] at hd
      obtain ⟨⟨k, e⟩, hk, rfl⟩ := Option.map_eq_some_iff.mp hd
      obtain ⟨v, hv, rv⟩ := c2.get hk
      refine ⟨⟨a2, (List.getElem?_eq_some_iff.mp hv).1⟩, fun x H3 ⟨T, k', v', hk', ex, hT, eH⟩ => ?_⟩
      subst eH
      rw [hv] at hk'
      cases hk'
      subst ex
      have sm : Same H2 (upd H2 T (.tup [kV k, v])) := same_alloc hT
      exact ⟨r2, s2.ext sm, s2.same sm, T, _, _, rfl, rfl, .inl (.inl upd_same), .cons (keyD_rep k) (.cons (rv.ext (s2.ext sm)) .nil)⟩
  | _ => cases h2
end
end DL
/-! t[::-1], xs[::-1]. -/
namespace DL
open PySem PySem.Spec PyProof.Rows L2 HT
section
variable {prog : Program} {w : World} {A : Around} {E : Value → Shared → Prop} {s : Shared}
theorem sliceApplied_rev {sl : Addr} {vs : Value} {n : Nat} {Q : Int × Int × Nat → Shared → Prop} (hs : s.heap.IsSliceOf sl .none .none vs) (ps : IsPart vs (some (-1)))
    (h : Q ((n : Int) - 1, -1, n) s) : wpAny (model prog w) A (Builtin.Slice.sliceApplied (.ref sl) (pure (n : Int))) Q E s := by
  obtain ⟨os, hos, hcs, hds⟩ := id hs
  unfold Builtin.Slice.sliceApplied Builtin.Slice.sliceFields
  refine wpAny_bind (wpAny_bind (wpAny_field hos hds (x := .none) rfl (wpAny_bind (wpAny_field hos hds (x := .none) rfl (wpAny_bind (wpAny_field hos hds (x := vs) rfl (wpAny_pure ?_)))))))
  refine wpAny_bind (slicePart_ ps ?_)
  show wpAny _ _ (if ((-1 : Int) == 0) = true then _ else _) _ _ s
  rw [if_neg (by decide)]
  refine wpAny_bind (slicePart_none (wpAny_bind (slicePart_none (wpAny_bind (wpAny_pure ?_)))))
  show wpAny _ _ (pure ((n : Int) - 1, (-1 : Int), Builtin.Slice.slicePlaces ((n : Int) - 1) (-1) (-1))) _ _ s
  have e : Builtin.Slice.slicePlaces ((n : Int) - 1) (-1) (-1) = n := by
    unfold Builtin.Slice.slicePlaces
    rw [if_neg (show ¬ (-1 : Int) > 0 by decide)]
    by_cases h : (n : Int) - 1 > -1
    · rw [if_pos h, show (- -1 : Int) = 1 by decide, Int.ediv_one]
      omega
    · rw [if_neg h]
      omega
  rw [e]
  exact wpAny_pure h
theorem fm_congr {α β : Type} {f g : α → Option β} : ∀ {l : List α}, (∀ x ∈ l, f x = g x) → l.filterMap f = l.filterMap g
  | [], _ => rfl
  | x :: l, h => by rw [List.filterMap_cons, List.filterMap_cons, h x List.mem_cons_self, fm_congr fun y hy => h y (List.mem_cons_of_mem _ hy)]
theorem pick_rev (xs : Array Value) : ((List.range xs.size).filterMap fun (m : Nat) => xs[(((xs.size : Int) - 1) + (m : Int) * (-1)).toNat]?).toArray = xs.toList.reverse.toArray := by
  have e : ((List.range xs.size).filterMap fun (m : Nat) => xs[(((xs.size : Int) - 1) + (m : Int) * (-1)).toNat]?) = (((List.range xs.size).map fun k => xs.size - 1 - k).filterMap (xs[·]?)) := by
    rw [List.filterMap_map]
    refine fm_congr fun m hm => ?_
    have := List.mem_range.mp hm
    have e2 : (((xs.size : Int) - 1) + (m : Int) * (-1)).toNat = xs.size - 1 - m := by omega
    show xs[(((xs.size : Int) - 1) + (m : Int) * (-1)).toNat]? = xs[xs.size - 1 - m]?
    rw [e2]
  rw [e, PySem.W.krv_range, List.filterMap_reverse, PySem.W.krv_all]
theorem getItem_tuple_rev {t sl : Addr} {items : Array Value} {vs : Value} {Q : Value → Shared → Prop} (ht : IsTup s.heap t items) (hs : s.heap.IsSliceOf sl .none .none vs) (ps : IsPart vs (some (-1)))
    (h : Q (.ref s.heap.objs.size) { s with heap := s.heap.push { cls := .type "tuple", data := .seq items.toList.reverse.toArray } })
    (hsz : items.size ≤ sizeLine) : wpAny (model prog w) A (getItem (.ref t) (.ref sl)) Q E s := by
  have htake : sizeOk (.seq items.toList.reverse.toArray) := by
    show items.toList.reverse.toArray.size ≤ sizeLine
    rw [List.size_toArray, List.length_reverse, Array.length_toList]
    exact hsz
  obtain ⟨os, hos, hcs, hds⟩ := id hs
  have hTs : s.TypeIs (.ref sl) "slice" := ⟨os, hos, hcs⟩
  unfold getItem
  try with_reducible refine wpAny_holding ?_
  first | refine wpAny_bind (wpAny_pure ?_) | skip
  refine wpAny_bind (wpAny_sequenceKey ht.typeIs (by decide) ?_)
  refine wpAny_bind (wpAny_callSpecial?_slot (name := Str.ofString "__getitem__") ht.typeIs PyProof.Rows.slot_tuple_getitem
    (wpAny_call_entry PyProof.Rows.slot_tuple_getitem ht.typeIs entry_tuple_getitem ?_ (args_tuple_getitem _ _)))
  show wpAny _ _ (Builtin.Tuple.tupleItemsOf (.ref t) >>= _) _ _ s
  refine wpAny_bind (tupleItemsOf_ ht ?_)
  refine wpAny_bind (wpAny_typeOf hTs ?_)
  rw [if_pos (by decide)]
  refine wpAny_bind (sliceApplied_rev hs ps ?_)
  have hno : ¬ ((((items.size : Int) - 1) == 0 && (-1 : Int) == 1 && items.size == items.size) = true) := by
    intro q
    rw [Bool.and_eq_true, Bool.and_eq_true] at q
    exact absurd q.1.2 (by decide)
  show wpAny _ _ (if (((items.size : Int) - 1) == 0 && (-1 : Int) == 1 && items.size == items.size) = true then _ else _) _ _ s
  rw [if_neg hno, pick_rev]
  first
    | exact wpAny_bind (m := Builtin.Tuple.tupleExact _) (wpAny_newObj_type (wpAny_pure ⟨_, rfl, wpAny_pure h⟩) htake)
    | exact wpAny_bind (m := Builtin.Tuple.tupleExact _) (wpAny_newObj_type (wpAny_bind (wpAny_pure (wpAny_pure ⟨_, rfl, wpAny_pure h⟩))) htake)
    | exact wpAny_bind (wpAny_bind (m := Builtin.Tuple.tupleExact _) (wpAny_newObj_type (wpAny_pure (wpAny_pure ⟨_, rfl, wpAny_pure h⟩)) htake))
    | exact wpAny_bind (wpAny_bind (m := Builtin.Tuple.tupleExact _) (wpAny_newObj_type (wpAny_pure ⟨_, rfl, wpAny_pure h⟩) htake))
end
section
variable {X : Cx}
def tRevT (K : PySem.W.Frag) (te : TE) : TE := fun σ H Q => te σ H fun x H1 => ∃ a xs, x = .ref a ∧ SqT K H1 a xs ∧ Fz Q H1 xs.reverse
theorem pe_revT {e : Expr} {te : TE} {k : Nat} {p1 p2 p3 pos : Pos} (he : PE X e te) : PE X (.Subscript e (.Slice none none (some (.UnaryOp .USub (.Constant (.int 1) k p1) p2)) p3) pos) (tRevT X.K te) := by
  refine ⟨fun pins s σ H Q I h => ?_⟩
  refine Subscript_ (thn (he.run pins s σ H _ I h) fun v s1 ⟨x, H1, I1, r1, q1⟩ => ?_)
  obtain ⟨a, xs, ex, hx, q⟩ := q1
  subst ex
  cases r1
  have hst : PO X (some (.UnaryOp .USub (.Constant (.int 1) k p1) p2)) (tPart (tUn (rU fun i => .int (-i)) (tC (.int 1)))) := po_some (pe_un un_neg pe_int)
  refine wpAny_Slice (thn (po_none.run pins s1 σ H1 (fun o H2 => o = none ∧ H2 = H1) I1 ⟨rfl, rfl⟩) fun vl s2 ⟨l, H2, I2, pl, el, e2⟩ => ?_)
  subst el e2
  refine thn (po_none.run pins s2 σ H2 (fun o H3 => o = none ∧ H3 = H2) I2 ⟨rfl, rfl⟩) fun vu s3 ⟨u, H3, I3, pu, eu, e3⟩ => ?_
  subst eu e3
  refine thn (hst.run pins s3 σ H3 (fun o H4 => o = some (-1) ∧ H4 = H3) I3 ⟨1, rfl, -1, rfl, rfl, rfl⟩) fun vs s4 ⟨o, H4, I4, ps, eo, e4⟩ => ?_
  subst eo e4
  have I5 : Inv X pins σ H4 { s4 with heap := s4.heap.push { cls := .type "slice", data := .fields #[vl, vu, vs] } } := I4.kept (t' := s4.toks) fun b ob q => Heap.get?_push_of_some _ q
  obtain ⟨its, r, ht, hz⟩ := I5.tuple hx
  have hlen := r.length
  cases pl
  cases pu
  show wpAny (model X.prog X.w) X.A (subscriptTail e (.Slice none none (some (.UnaryOp .USub (.Constant (.int 1) k p1) p2)) p3) (.ref a) (.ref s4.heap.objs.size)) (EP X pins σ Q) X.xe { s4 with heap := s4.heap.push { cls := .type "slice", data := .fields #[.none, .none, vs] } }
  refine tail_any (ops := [.ref a, .ref s4.heap.objs.size]) ht.typeIs (PyProof.Rows.slot_tuple_getitem.lookup) ?_ (by with_unfolding_all rfl)
  refine getItem_tuple_rev ht (Heap.IsSliceOf.new _ .none .none vs) ps ?_ (by rw [List.size_toArray]; omega)
  rw [show its.toArray.toList.reverse.toArray = its.reverse.toArray from rfl]
  exact laidF (t' := s4.toks) I5 r.reverse (by rw [List.length_reverse]; exact hz) q
/-- t[::-1], xs[::-1] -/
def revD : D → Option D | .tup ds => some (.tup ds.reverse) | _ => none
theorem RepL.reverse {r : Rf} {H : Hp} {K : PySem.W.Frag} : ∀ {vs : List V} {ds : List D}, RepL K r H vs ds → RepL K r H vs.reverse ds.reverse
  | _, _, .nil => .nil
  | _, _, .cons a b => by rw [List.reverse_cons, List.reverse_cons]; exact (RepL.reverse b).append (.cons a .nil)
def fRevT (f : F) : F := fun env st => (f env st).bind fun p => match p.1 with | .tup ds => some (.tup ds.reverse, p.2) | _ => none
theorem de_revT {e : Expr} {f : F} {k : Nat} {p1 p2 p3 pos : Pos} (he : DE X e f) : DE X (.Subscript e (.Slice none none (some (.UnaryOp .USub (.Constant (.int 1) k p1) p2)) p3) pos) (fRevT f) := weakE (pe_revT he) fun σ H Q hh => by
  obtain ⟨r, env, st, d, st', he, hs, hf, q⟩ := hh
  obtain ⟨⟨x, s1⟩, h1, h2⟩ := Option.bind_eq_some_iff.mp hf
  cases x with
  | tup ds =>
    cases h2
    refine ⟨r, env, st, _, _, he, hs, h1, fun v r1 H1 e1 q1 p1 => ?_⟩
    obtain ⟨a, xs, rfl, sq, l⟩ := p1.sqT
    refine ⟨a, xs, rfl, sq, fun p o hp hz => ?_⟩
    exact q _ r1 _ (e1.trans (q1.ext (same_alloc hp))) (q1.same (same_alloc hp)) (fresh_tup q1 hp hz l.reverse)
  | _ => cases h2
/-- xs[::-1] of a list by value or of the store: a new list by value -/
def lstAt : D → Store → Option (List D) := fun d st => match d with
  | .lst ds => some ds
  | .scr ns => some (ns.map D.int)
  | .ref n => (match st[n]? with | some (.lst ds) => some ds | _ => none)
  | _ => none
theorem lstRd {r : Rf} {H : Hp} {v : V} {d : D} {st : Store} {ds : List D} {K : PySem.W.Frag} (h : Rep K r H v d) (si : Sim K r H st) (e : lstAt d st = some ds) : ∃ a xs, v = .ref a ∧ SqL K H a xs ∧ RepL K r H xs ds := by
  unfold lstAt at e
  split at e
  · cases e
    exact h.sqLv
  · cases e
    obtain ⟨a, rfl, h2⟩ := h.scrL
    exact ⟨a, _, rfl, h2, .ofInts _⟩
  · rename_i n
    split at e
    · rename_i es hst
      cases e
      obtain ⟨a, rfl, ha⟩ := h.refI
      obtain ⟨av, xs, hx, l⟩ := si.ob _ a _ ha hst
      exact ⟨a, xs, rfl, .of hx, l⟩
    · cases e
  · cases e
def fRevL (f : F) : F := fun env st => (f env st).bind fun p => (lstAt p.1 p.2).map fun ds => (.lst ds.reverse, p.2)
theorem de_revL {e : Expr} {f : F} {k : Nat} {p1 p2 p3 pos : Pos} (he : DE X e f) : DE X (.Subscript e (.Slice none none (some (.UnaryOp .USub (.Constant (.int 1) k p1) p2)) p3) pos) (fRevL f) := weakE (pe_revL he) fun σ H Q hh => by
  obtain ⟨r, env, st, d, st', he, hs, hf, q⟩ := hh
  obtain ⟨⟨x, s1⟩, h1, h2⟩ := Option.bind_eq_some_iff.mp hf
  obtain ⟨ds, h3, h4⟩ := Option.map_eq_some_iff.mp h2
  cases h4
  refine ⟨r, env, st, _, _, he, hs, h1, fun v r1 H1 e1 q1 p1 => ?_⟩
  obtain ⟨a, xs, rfl, sq, l⟩ := lstRd p1 q1 h3
  exact ⟨a, xs, rfl, sq, fun p hp => q _ r1 _ (e1.trans (q1.ext (same_alloc hp))) (q1.same (same_alloc hp)) (fresh_lst q1 hp l.reverse)⟩
end
end DL
/-! o.m(), len(o) by an own __len__. -/
namespace DL
open PySem PySem.Spec PyProof.Rows L2 TL
section
variable {X : Cx} {W : WXd}
variable {k : Nat} {f C : Addr} {fd : FuncData} {ps : List Str} {mm : FM} {c m : Str} {apos pos : Pos} {o e : Expr} {es : List Expr}
/-- o.m() -/
def fMeth0 (c m : Str) (mm : FM) (fo : F) : F := fun env st => (fo env st).bind fun p => match p.1 with
  | .ref n => if noF m (insAt c n p.2) = true then mm [.ref n] p.2 else none
  | _ => none
theorem de_meth0 {pl : Sem Bool} (hc : ClsAt X.K c C) (hm : Meth X.K C m f) (Fd : FnD X.prog X.w X.K X.mg X.base k f fd ps mm) (gx : GX X k) (hb : Binds X.K fd ps []) {fo : F} (ho : DE X o fo) (hl : 1 = ps.length := by rfl)
    (ht : eval (.Call (.Attribute o m apos) [] [] pos) X.env = (do let ov ← eval o X.env; standAt apos.atName; let (f, first) ← holding [ov] (getMethod ov m pl); callWith pos f first (backTo pos (starEach [] X.env)) (backToKw pos (keywordEach [] X.env))) := by rfl) :
    DE X (.Call (.Attribute o m apos) [] [] pos) (fMeth0 c m mm fo) := by
  refine ⟨fun pins s σ H Q I h => ?_⟩
  obtain ⟨r, env, st, d, st', he', hs, hf, q⟩ := h
  obtain ⟨⟨x, s1⟩, h1, h2⟩ := Option.bind_eq_some_iff.mp hf
  cases x with
  | ref n =>
    have h2' : (if noF m (insAt c n s1) = true then mm [.ref n] s1 else none) = some (d, st') := h2
    by_cases hz : noF m (insAt c n s1) = true
    case neg => rw [if_neg hz] at h2'; cases h2'
    rw [if_pos hz] at h2'
    refine PySem.W.methodCall_KW (pl := pl) (thn (ho.run pins s σ H (fun v H1 => ∃ a r1 C' dx vs, v = .ref a ∧ r1.adr[n]? = some a ∧ H1 a = some (.ins C' dx vs) ∧ C' = C ∧ vs.lookup m = none ∧ Ext r H r1 H1 ∧ Sim X.K r1 H1 s1) I ⟨r, env, st, _, s1, he', hs, h1, fun v r1 H1 e1 q1 p1 => ?_⟩) fun u sa hq => ?_) ht
    · obtain ⟨a, rfl, hadr⟩ := p1.refI
      cases hi : insAt c n s1 with
      | none => rw [hi] at hz; cases hz
      | some fs =>
        rw [hi] at hz
        obtain ⟨av, C', dx, vs, hn', hx, nm, l⟩ := q1.ob _ a _ hadr (insAt_some hi)
        rw [hc.at_] at hn'
        cases hn'
        exact ⟨a, r1, C, dx, vs, rfl, hadr, hx, rfl, fields_none nm (Option.isNone_iff_eq_none.mp hz), e1, q1⟩
    · obtain ⟨x, H1, I1, rx, a, r1, C', dx, vs, rfl, hadr, hx, rfl, hno, e1, q1⟩ := hq
      cases rx
      refine getmeth_ok I1 hx hc.cls hm hno ?_
      exact PySem.W.callWith_K0 (first := [.ref a]) I1.kIn hm.kp (runD (us := [.ref a]) (vs := [.ref a]) Fd gx hb I1 (.cons rfl .nil) hl (.cons (.ref hadr) .nil) q1 h2' fun v r3 H3 e3 q3 p3 => q v r3 H3 (e1.trans e3) q3 p3)
  | _ => cases h2
/-- a def called within a built-in -/
theorem runD1 {pins : List (Addr × Obj)} {σ : L2.St} {H : Hp} {s : Shared} {Q : VK} {us : List Value} {vs : List V} {rho : Rf} {ds : List D} {st st' : Store} {d : D} {E : Value → Shared → Prop} (Fd : FnD X.prog X.w X.K X.mg X.base k f fd ps mm) (gx : GX X (k + 1)) (hb : Binds X.K fd ps [])
    (I : Inv X pins σ H s) (r : Vals vs us) (hl : vs.length = ps.length) (rd : RepL X.K rho H vs ds) (hs : Sim X.K rho H st) (hm : mm ds st = some (d, st')) (hq : ∀ v rho' H', Ext rho H rho' H' → Sim X.K rho' H' st' → Rep X.K rho' H' v d → Q v H') :
    wpAny (model X.prog X.w) X.A.in1 (call (.ref f) us) (EP X pins σ Q) E s := by
  have hu : us.length = ps.length := by rw [← r.length]; exact hl
  have hbt : BindsTo s fd ⟨us, []⟩ (ps.zip us) := by
    have := hb s us I.kIn (by rw [List.append_nil]; exact hu)
    rwa [List.append_nil] at this
  have e0 : Env0 X.prog X.w X.K X.mg X.base X.A.in1 X.stack s H := by
    have e := I.env0
    exact ⟨e.frames, e.mod, e.bs, e.bsz, e.funs, e.frf, e.hok, e.bare⟩
  refine wpAny_call (codeAny_mono (Fd.run X.A.in1 X.stack s H ⟨us, []⟩ us vs Q rho ds st st' d gx.gd gx.room.in1 e0 hbt r hl rd hs hm hq) fun z s' hz => ?_)
  cases z with
  | error e => exact False.elim hz
  | ok fl =>
    cases fl with
    | ret u => exact I.after hz
    | next => exact False.elim hz
    | brk => exact False.elim hz
    | cont => exact False.elim hz
/-- len(o) -/
def fLenO (c : Str) (mm : FM) (fo : F) : F := fun env st => (fo env st).bind fun p => match p.1 with
  | .ref n => (insAt c n p.2).bind fun _ => (mm [.ref n] p.2).bind fun z => match z.1 with | .int i => if 0 ≤ i ∧ i < 2 ^ 62 then some (.int i, z.2) else none | _ => none
  | _ => none
theorem de_lenO {p : Pos} (hc : ClsAt X.K c C) (hs : PySem.W.findIn X.K (.ref C) "__len__" = some (some (.ref f))) (hfn : PySem.W.typeIn X.K (.ref f) = some (.type "function")) (Fd : FnD X.prog X.w X.K X.mg X.base k f fd ps mm) (gx : GX X (k + 1)) (hb : Binds X.K fd ps [])
    (hg : Gl X "len") (hm : X.mg "len" = none) {fo : F} (ho : DE X e fo) (hl : 1 = ps.length := by rfl) (he : starEach [e] X.env = (false, eval e X.env) :: starEach [] X.env := by rfl) : DE X (.Call (.Name "len" p) [e] [] pos) (fLenO c mm fo) := by
  let rr : List V → Hp → VK → Prop := fun xs H Q => ∃ a dx fs rho n st z st', xs = [.ref a] ∧ H a = some (.ins C dx fs) ∧ rho.adr[n]? = some a ∧ Sim X.K rho H st ∧ mm [.ref n] st = some (.int z, st') ∧ 0 ≤ z ∧ z < 2 ^ 62 ∧ ∀ rho' H', Ext rho H rho' H' → Sim X.K rho' H' st' → Q (.int z) H'
  have hr : CallR X (.builtin "len") rr := by
    intro pins s σ H xs us Q I r h
    obtain ⟨a, dx, fs, rho, n, st, z, st', rfl, ha, hn, hsim, hm, z0, z1, q⟩ := h
    obtain ⟨u, rfl, rx⟩ := vals1 r
    obtain rfl : u = Value.ref a := rx
    obtain ⟨mA, J, _⟩ := ins_get I.hok ha
    obtain ⟨od, J, _⟩ := J.look
    have sp : PySem.W.Looks (model X.prog X.w) s.heap (specialOf (.ref a) "__len__") (some (.ref f)) := J.type.andThen (PySem.W.looks_findIn I.kIn hs)
    refine Calls.call_function_entry kind_len plain_len entry_len (args_len1 _) ?_
    unfold Builtin.«len»
    refine wpAny_bind (m := oneArg "len" _) (wpAny_pure ?_)
    have hc : ∀ {Q' : Option Value → Shared → Prop} {E : Value → Shared → Prop}, wpAny (model X.prog X.w) X.A.in1 (call (.ref f) [.ref a]) (fun v s' => Q' (some v) s') E s → wpAny (model X.prog X.w) X.A.in1 (callSpecial? (.ref a) "__len__") Q' E s := fun q => by
      unfold callSpecial?
      refine wpAny_bind (sp.here ?_)
      refine wpAny_holding ?_
      refine wpAny_bind ((PySem.W.bind_fn I.kIn _ hfn).here ?_)
      exact wpAny_bind (wpAny_mono q (fun v s' z => wpAny_pure z) fun _ _ z => z)
    refine wpAny_bind (m := callSpecial? (.ref a) (PySem.Str.ofString "__len__")) (hc (wpAny_mono (runD1 (Q := fun v H' => v = .int z ∧ Q (.int z) H') (us := [.ref a]) (vs := [.ref a]) Fd gx hb I (.cons rfl .nil) hl (.cons (.ref hn) .nil) hsim hm fun v r3 H3 e3 q3 p3 => ?_) (fun v s' hv => ?_) fun _ _ x => x))
    · cases p3
      exact ⟨rfl, q r3 H3 e3 q3⟩
    · obtain ⟨x, H', I', rx, rfl, q'⟩ := hv
      obtain ⟨t, rfl⟩ := rx
      refine wpAny_bind (wpAny_holding (wpAny_pure ?_))
      refine wpAny_bind (wpAny_letGo ?_)
      show wpAny _ _ (if z < 0 then _ else _) _ _ _
      rw [if_neg (by omega)]
      show wpAny _ _ (if z ≥ 2 ^ 63 then _ else _) _ _ _
      rw [if_neg (by omega)]
      exact wpAny_bind (wpAny_mkInt (wpAny_pure ⟨_, rfl, .int z, H', I'.tok _, ⟨_, rfl⟩, q'⟩))
  exact weakE (pe_callB hr hg hm (by decide +kernel) (pa_cons ho pa_nil he) (he := he)) fun σ H Q hh => by
    obtain ⟨r, env, st, d, st', he, hs, hf, q⟩ := hh
    obtain ⟨⟨x, s1⟩, h1, h2⟩ := Option.bind_eq_some_iff.mp hf
    cases x with
    | ref n =>
      obtain ⟨fs, h3, h4⟩ := Option.bind_eq_some_iff.mp (show ((insAt c n s1).bind fun _ => (mm [.ref n] s1).bind fun z => match z.1 with | .int i => if 0 ≤ i ∧ i < 2 ^ 62 then some (D.int i, z.2) else none | _ => none) = some (d, st') from h2)
      obtain ⟨⟨z, s2⟩, h5, h6⟩ := Option.bind_eq_some_iff.mp h4
      cases z with
      | int i =>
        have h6' : (if 0 ≤ i ∧ i < 2 ^ 62 then some (D.int i, s2) else none) = some (d, st') := h6
        by_cases hi : 0 ≤ i ∧ i < 2 ^ 62
        case neg => rw [if_neg hi] at h6'; cases h6'
        rw [if_pos hi] at h6'
        cases h6'
        refine ⟨r, env, st, _, s1, he, hs, h1, fun v r1 H1 e1 q1 p1 => ?_⟩
        obtain ⟨a, rfl, hadr⟩ := p1.refI
        obtain ⟨av, C', dx, vs, hn', hx, nm, l⟩ := q1.ob _ a _ hadr (insAt_some h3)
        rw [hc.at_] at hn'
        cases hn'
        exact ⟨a, dx, vs, r1, n, s1, i, _, rfl, hx, hadr, q1, h5, hi.1, hi.2, fun rho' H' e' s' => q _ rho' H' (e1.trans e') s' (.int i)⟩
      | _ => cases h6
    | _ => cases h2
end
end DL
/-! sorted(d.items()), d's keys ints. -/
namespace DL
open PySem PySem.Spec PyProof.Rows L2 Srt SrtO L2.DX
/-! the order -/
def keyI : Key → Int | .inl i => i | .inr _ => 0
def insK {α : Type} (p : Key × α) : List (Key × α) → List (Key × α)
  | [] => [p]
  | q :: l => if keyI p.1 < keyI q.1 then p :: q :: l else q :: insK p l
def sortK {α : Type} (l : List (Key × α)) : List (Key × α) := l.foldr insK []
theorem insK_perm {α : Type} (p : Key × α) : ∀ l : List (Key × α), (insK p l).Perm (p :: l)
  | [] => .refl _
  | q :: l => by
    unfold insK
    by_cases h : keyI p.1 < keyI q.1
    · rw [if_pos h]
    · rw [if_neg h]
      exact ((insK_perm p l).cons q).trans (.swap ..)
theorem sortK_perm {α : Type} : ∀ l : List (Key × α), (sortK l).Perm l
  | [] => .refl _
  | p :: l => (insK_perm p (sortK l)).trans ((sortK_perm l).cons p)
theorem insK_pw {α : Type} {p : Key × α} : ∀ {l : List (Key × α)}, l.Pairwise (fun a b => keyI a.1 < keyI b.1) → (∀ q ∈ l, keyI q.1 ≠ keyI p.1) → (insK p l).Pairwise (fun a b => keyI a.1 < keyI b.1)
  | [], _, _ => List.pairwise_singleton _ _
  | q :: l, h, n => by
    unfold insK
    have hq := List.pairwise_cons.mp h
    by_cases c : keyI p.1 < keyI q.1
    · rw [if_pos c]
      exact List.pairwise_cons.mpr ⟨fun z hz => by
        rcases List.mem_cons.mp hz with rfl | hz
        · exact c
        · exact Int.lt_trans c (hq.1 z hz), h⟩
    · rw [if_neg c]
      refine List.pairwise_cons.mpr ⟨fun z hz => ?_, insK_pw hq.2 fun z hz => n z (List.mem_cons_of_mem _ hz)⟩
      rcases List.mem_cons.mp ((insK_perm p l).mem_iff.mp hz) with rfl | hz
      · have := n q List.mem_cons_self
        omega
      · exact hq.1 z hz
theorem sortK_pw {α : Type} : ∀ {l : List (Key × α)}, (l.map fun p => keyI p.1).Nodup → (sortK l).Pairwise (fun a b => keyI a.1 < keyI b.1)
  | [], _ => .nil
  | p :: l, h => by
    have h' := List.nodup_cons.mp (show (keyI p.1 :: l.map fun p => keyI p.1).Nodup from h)
    exact insK_pw (sortK_pw h'.2) fun q hq e => h'.1 (List.mem_map.mpr ⟨q, (sortK_perm l).mem_iff.mp hq, e⟩)
theorem sortK_uniq {α : Type} {l m : List (Key × α)} (p : m.Perm l) (s : m.Pairwise (fun a b => keyI a.1 < keyI b.1)) : m = sortK l := by
  have nd : (l.map fun p => keyI p.1).Nodup := (p.map _).nodup (List.pairwise_map.mpr (s.imp fun h => by omega))
  refine List.Perm.eq_of_pairwise (le := fun a b => keyI a.1 < keyI b.1) (fun a b _ _ h1 h2 => by omega) s (sortK_pw nd) (p.trans (sortK_perm l).symm)
theorem RepK.insK {K : PySem.W.Frag} {r : Rf} {H : Hp} {k : Key} {v : V} {d : D} (q : Rep K r H v d) : ∀ {xs : List (Key × V)} {ds : List (Key × D)}, RepK K r H xs ds → RepK K r H (insK (k, v) xs) (insK (k, d) ds)
  | _, _, .nil => .cons q .nil
  | _, _, .cons (k := k') a b => by
    unfold DL.insK
    by_cases c : keyI k < keyI k'
    · rw [if_pos c, if_pos c]; exact .cons q (.cons a b)
    · rw [if_neg c, if_neg c]; exact .cons a (RepK.insK q b)
theorem RepK.sortK {K : PySem.W.Frag} {r : Rf} {H : Hp} : ∀ {xs : List (Key × V)} {ds : List (Key × D)}, RepK K r H xs ds → RepK K r H (sortK xs) (sortK ds)
  | _, _, .nil => .nil
  | _, _, .cons a b => RepK.insK a (RepK.sortK b)
/-! tuples (int, thing), by the int -/
section
variable {prog : Program} {w : World} {A : Around} {E : Value → Shared → Prop} {s : Shared}
def IsIt (h : Heap) (v : Value) (x : Int) (z : Value) : Prop := ∃ a o t n, v = .ref a ∧ h.get? a = some o ∧ o.cls = .type "tuple" ∧ o.data = .seq #[.int x t, z] n
theorem IsIt.keeps {h h' : Heap} {v z : Value} {x : Int} (p : IsIt h v x z) (k : ∀ b o, h.get? b = some o → o.cls = .type "tuple" → h'.get? b = some o) : IsIt h' v x z := by
  obtain ⟨a, o, t, n, e, ho, hc, hd⟩ := p
  exact ⟨a, o, t, n, e, k _ _ ho hc, hc, hd⟩
abbrev ltKy (k : Value → Int) (v u : Value) : Bool := decide (k v < k u)
theorem swo_I (k : Value → Int) : Swo (ltKy k) := by
  refine ⟨fun x y h => ?_, fun x y z h1 h2 => ?_⟩
  · have := of_decide_eq_true h
    exact decide_eq_false (by omega)
  · have a := of_decide_eq_false h1
    have b := of_decide_eq_false h2
    exact decide_eq_false (by omega)
theorem it_cmp {vs : List Value} {k : Value → Int} {zf : Value → Value} (hp : ∀ v ∈ vs, IsIt s.heap v (k v) (zf v)) (inj : ∀ v ∈ vs, ∀ u ∈ vs, k v = k u → v = u) : Cmp prog w A s (tuples' true) (fun p => p.1 ∈ vs) (SrtO.lt2 (ltKy k)) := by
  intro p q hm hm'
  have h1 := hp _ hm
  have h2 := hp _ hm'
  have ij := inj _ hm _ hm'
  show wpAny (model prog w) A (keyLt' (tuples' true) p.1 q.1) (fun r s' => s' = s ∧ r = decide (k p.1 < k q.1)) (fun _ _ => False) s
  obtain ⟨a, o, t, n, e, ho, hc, hd⟩ := h1
  obtain ⟨a', o', t', n', e', ho', hc', hd'⟩ := h2
  generalize hx : k p.1 = x at hd ij ⊢
  generalize hx' : k q.1 = x' at hd' ij ⊢
  generalize hz : zf p.1 = z at hd
  generalize hz' : zf q.1 = z' at hd'
  have zz : x = x' → z = z' := fun h => by rw [← hz, ← hz', ij h]
  rw [e, e']
  refine PySem.W.kat_lt ho hd ho' hd' ?_
  show PySem.W.KatLex prog w A true (decide (2 < 2)) _ [(.int x t, .int x' t'), (z, z')] 0 s
  refine PySem.W.kat_cons (SeqAt.EqAt.int_int x t x' t' prog w _ _ ?_)
  refine PySem.W.kat_go (fun e1 => ?_) (fun e1 => ?_)
  · have ex : x = x' := by simpa using e1
    have ez := zz ex
    subst ez
    refine PySem.W.kat_yes (PySem.W.kat_cons (SeqAt.EqAt.same z prog w _ _ ?_))
    have e3 : decide (x < x') = false := decide_eq_false (by omega)
    exact PySem.W.kat_yes (PySem.W.kat_nil ⟨rfl, e3.symm⟩)
  · exact PySem.W.kat_no (oneLt_int ⟨rfl, rfl⟩)
theorem firsts_it {h : Heap} {k : Value → Int} {zf : Value → Value} : ∀ {vs : List Value}, (∀ v ∈ vs, IsIt h v (k v) (zf v)) → ∃ fs : List Value, PySem.W.KatTups h vs fs ∧ fs.length = vs.length ∧ ∀ f ∈ fs, ∃ x t, f = Value.int x t
  | [], _ => ⟨[], PySem.W.KatTups.nil, rfl, fun _ hm => by simp at hm⟩
  | v :: vs, hp => by
    obtain ⟨fs, h1, h2, h3⟩ := firsts_it (vs := vs) fun v' hm => hp v' (List.mem_cons_of_mem _ hm)
    obtain ⟨a, o, t, n, e, ho, hc, hd⟩ := hp v (List.mem_cons_self ..)
    generalize k v = x at hd
    generalize zf v = z at hd
    subst e
    refine ⟨.int x t :: fs, PySem.W.KatTups.cons ho hc hd rfl h1, by rw [List.length_cons, List.length_cons, h2], fun f hm => ?_⟩
    rcases List.mem_cons.mp hm with rfl | hm
    · exact ⟨x, t, rfl⟩
    · exact h3 f hm
theorem its_sortable {a : Addr} {vs : List Value} {k : Value → Int} {zf : Value → Value} (h0 : 0 < vs.length) (hp : ∀ v ∈ vs, IsIt s.heap v (k v) (zf v)) (inj : ∀ v ∈ vs, ∀ u ∈ vs, k v = k u → v = u) (ha : ∀ o, s.heap.get? a = some o → o.cls ≠ .type "tuple") : SortableO prog w A s a vs (ltKy k) := by
  intro h' keep
  have hp' : ∀ v ∈ vs, IsIt h' v (k v) (zf v) := fun v hm => (hp v hm).keeps fun b o e c => keep b o (fun z => by subst z; exact ha o e c) e
  obtain ⟨fs, h1, h2, h3⟩ := firsts_it hp'
  refine ⟨tuples' true, fun Q E hq => ?_, it_cmp hp' inj⟩
  refine PySem.W.kat_kind (T := .type "int") h1 (by omega) (fun f hm => ?_) (by rfl) ?_
  · obtain ⟨x, t, rfl⟩ := h3 f hm
    exact PySem.W.Looks.now
  · have e : (Value.type "int" != Value.type "tuple") = true := by first | decide +kernel | rfl | decide
    rw [e]
    exact hq
end
section
variable {X : Cx}
/-- e.items(), a view -/
def tDItems (te : TE) : TE := fun σ H Q => te σ H fun x H1 => ∃ (d : Addr) (kvs : List (Key × V)), x = .ref d ∧ Rd H1 d (.dK kvs) ∧ ∀ p, H1 p = none → Q (.ref p) (upd H1 p (itemsO p d))
theorem pe_dItems {e : Expr} {te : TE} {apos cpos : Pos} (he : PE X e te) (hbase : attributeBase e "items" X.env (eval e X.env) = eval e X.env := by rfl) (hline : (apos.endLine == cpos.line) = true := by rfl) : PE X (.Call (.Attribute e "items" apos) [] [] cpos) (tDItems te) := by
  refine ⟨fun pins s σ H Q I hq => ?_⟩
  refine wpAny_Call_method (T := "dict") (id := "dict.items") hbase rfl hline F.plainAttrs_dict F.slot_dict_items F.type_dict_items (thn (he.run pins s σ H _ I hq) fun u s1 ⟨x, H1, I1, rx, d, kvs, ex, hd, q⟩ => ?_)
  subst ex
  obtain rfl : u = Value.ref d := rx
  obtain ⟨hz, hs0, vs, kv, hdo⟩ := dk_rd I1.hok hd
  refine ⟨hdo.typeIs, hdo.mapOf.noDict, ?_⟩
  show wpAny _ _ (callWith cpos (.builtin "dict.items") [.ref d] [] []) _ X.xe s1
  refine method_meetsIn F.slot_dict_items F.entry_dict_items rfl (PySem.evalArgs_none ⟨rfl, hdo.typeIs, F.args_dict_items_1 _, _, meets_dict_items (mixKind X.prog X.w) d hs0, ⟨vs, hdo⟩, ?_⟩)
  exact ⟨.ref s1.heap.objs.size, upd H1 s1.heap.objs.size (itemsO s1.heap.objs.size d), I1.laid (t' := s1.toks) (fun b u e => Heap.get?_push_of_some _ e) (Nat.le_refl _) (itemsO_ok (Heap.get?_push_size _ rfl)), rfl, q _ (I1.hok.fresh (Nat.le_refl _))⟩
theorem zip_look {α : Type} : ∀ {as : List Addr} {bs : List α} {j : Nat} {a : Addr} {b : α}, as.Nodup → as[j]? = some a → bs[j]? = some b → (as.zip bs).lookup a = some b
  | [], _, _, _, _, _, h, _ => by simp at h
  | _ :: _, [], _, _, _, _, _, h => by simp at h
  | x :: as, y :: bs, 0, a, b, _, h1, h2 => by
    cases h1
    cases h2
    simp [List.lookup]
  | x :: as, y :: bs, j + 1, a, b, n, h1, h2 => by
    have n' := List.nodup_cons.mp n
    have h1' : as[j]? = some a := by simpa using h1
    have ne : (a == x) = false := by
      simp
      intro e
      subst e
      exact n'.1 (List.mem_of_getElem? h1')
    simp [List.lookup, ne]
    exact zip_look n'.2 h1' (by simpa using h2)
/-- the tuples and the list of them, tracked -/
theorem sorted_laid {pins : List (Addr × Obj)} {σ : L2.St} {H : Hp} {s : Shared} {h1 h' : Heap} {tk : Nat} {kvs : List (Key × V)} {vs : List (Key × Value)} {out : Array Value} {c : Nat} {as ts : List Addr} {l : Addr} (I : Inv X pins σ H s) (hz : kvs.length ≤ sizeLine) (kv : KV kvs vs)
    (hk : ∀ b o, s.heap.get? b = some o → h'.get? b = some o) (hk1 : ∀ b o, h1.get? b = some o → h'.get? b = some o) (hG : PySem.W.KdxG (mixKind X.prog X.w) vs s.heap.objs.size h1 as) (hlen : as.length = vs.length)
    (hS : h'.get? l = some (PyProof.Rows.seqObj "list" out c)) (newS : H l = none) (hl : ∀ b o, s.heap.get? b = some o → b ≠ l) (hla : l ∉ as) (hout : out.toList = ts.map Value.ref) (hts : ts.Perm as) :
    ∃ H' : Hp, (∀ b o, H b = some o → H' b = some o) ∧ H l = none ∧ (∀ t ∈ as, H t = none) ∧ H' l = some (.lst (ts.map V.ref)) ∧ Paired (fun (t : Addr) (q : Key × V) => H' t = some (.tup [kV q.1, q.2])) as kvs ∧ Inv X pins σ H' { s with heap := h', toks := tk } := by
  have lk : kvs.length = vs.length := Paired.length kv
  have nd : as.Nodup := List.Pairwise.imp (fun {a b} (h : a < b) => Nat.ne_of_lt h) hG.rise
  have new : ∀ t ∈ as, H t = none := fun t ht => I.hok.fresh (Nat.le_of_lt (hG.above t ht))
  have atP := LiI.putT_at as kvs (upd H l (.lst (ts.map V.ref))) (by omega) nd
  have off : ∀ b, b ∉ as → b ≠ l → LiI.putT (upd H l (.lst (ts.map V.ref))) as kvs b = H b := fun b h1 h2 => by rw [LiI.putT_off as kvs _ h1, upd_ne h2]
  have low : ∀ b o, s.heap.get? b = some o → b ∉ as ∧ b ≠ l := fun b o e => ⟨fun z => absurd (Heap.lt_size e) (Nat.not_lt.mpr (Nat.le_of_lt (hG.above b z))), hl b o e⟩
  have kp : ∀ b u, H b = some u → (LiI.putT (upd H l (.lst (ts.map V.ref))) as kvs) b = some u := fun b u e => by
    rw [off b (fun z => by rw [new b z] at e; cases e) (fun z => by rw [z, newS] at e; cases e)]
    exact e
  have eS : LiI.putT (upd H l (.lst (ts.map V.ref))) as kvs l = some (.lst (ts.map V.ref)) := by rw [LiI.putT_off as kvs _ hla, upd_same]
  refine ⟨LiI.putT (upd H l (.lst (ts.map V.ref))) as kvs, kp, newS, new, eS, atP, ?_⟩
  refine I.call' (ch := []) rfl ⟨fun b o q _ _ _ => hk b o q, fun b o q _ _ _ => ⟨o.slots, hk b o q⟩, fun b o q n _ => ?_, fun b o q _ => ⟨o, hk b o q⟩, fun b xs q => kp b _ q, fun b o u q => kp b _ q, fun b ps q => ⟨#[], by rw [kp b _ q]; simp⟩⟩ (fun b u q => ?_) I.bare fun b z => by simp at z
  · obtain ⟨z1, z2⟩ := low b o q
    rw [off b z1 z2]
    exact n
  · by_cases hb : b ∈ as
    · obtain ⟨j, pk, e1, e2, e3⟩ := LiI.paired_ix atP hb
      rw [e3] at q
      cases q
      obtain ⟨key, k, x, f1, f2, f3⟩ := hG.pairs j b e1
      obtain ⟨qv, g1, g2, g3⟩ := LiI.paired_get kv e2
      rw [f1] at g1
      cases g1
      have rk : RelV (kV pk.1) key := by
        rw [g2]
        exact relV_key (show keyIs k key = true from f2)
      exact ⟨by show 2 ≤ sizeLine; decide, [key, x], .cons rk (.cons g3 .nil), ⟨_, hk1 _ _ f3, rfl, _, rfl⟩⟩
    · by_cases hb2 : b = l
      · rw [hb2] at q ⊢
        rw [eS] at q
        cases q
        refine ⟨by rw [List.length_map, hts.length_eq]; omega, out.toList, c, by rw [hout]; exact LiI.vals_refs ts, ?_⟩
        rw [Array.toArray_toList]
        exact hS
      · rw [off b hb hb2] at q
        exact (I.hok b u q).stay (fun d v _ y => hk d v y) (fun d y => kp d _ y) fun d xs y => kp d _ y
/-- sorted of such a view -/
def rSortI : List V → Hp → VK → Prop := fun vs H Q => ∃ (p a : Addr) (kvs : List (Key × V)) (ks : List Int), vs = [.ref p] ∧ H p = some (itemsO p a) ∧ Rd H a (.dK kvs) ∧ kvs.map (·.1) = ks.map Sum.inl ∧ ks.Nodup ∧
  ∀ (H' : Hp) (l : Addr) (ts : List Addr), (∀ b o, H b = some o → H' b = some o) → H l = none → H' l = some (.lst (ts.map V.ref)) → (∀ t ∈ ts, H t = none) → Paired (fun (t : Addr) (q : Key × V) => H' t = some (.tup [kV q.1, q.2])) ts (sortK kvs) → Q (.ref l) H'
theorem paired_of {α β : Type} {F : α → β → Prop} (g : α → β) : ∀ {xs : List α}, (∀ x ∈ xs, F x (g x)) → Paired F xs (xs.map g)
  | [], _ => .nil
  | x :: xs, h => .cons (h x List.mem_cons_self) (paired_of g fun y hy => h y (List.mem_cons_of_mem _ hy))
theorem cr_sortI (hc : X.calm = true) : CallR X (.builtin "sorted") rSortI := by
  intro pins s σ H vs us Q I r h
  obtain ⟨p, a, kvs, ks, rfl, hp, hd, hks, hnd, q⟩ := h
  obtain ⟨u, rfl, ru⟩ := vals1 r
  obtain rfl : u = Value.ref p := ru
  have hv : s.heap.IsItemsView p a := (show ObjOk X.prog X.w H s.heap p (itemsO p a) from I.hok p _ hp).1
  obtain ⟨hz, lo, ws, kv, hdo⟩ := dk_rd I.hok hd
  obtain ⟨ep, hat⟩ := hdo.dictAt
  have lk : kvs.length = ws.length := Paired.length kv
  refine Calls.call_function_entry PyProof.Rows.kind_sorted PyProof.Rows.plain_sorted PyProof.Rows.entry_sorted (PyProof.Rows.args_sorted1 _) ?_
  unfold Builtin.«sorted»
  refine wpAny_bind (m := checkCount "sorted" 1 1 _) (wpAny_pure ?_)
  refine wpAny_bind (PySem.W.kdx_collect (A := X.A.in1) (knd := mixKind X.prog X.w) (kvs := ws) (ep := ep) (I.ok.hd hc) hv hat (by omega) fun h1 tk as hk hl hG => ?_)
  have hasl : (as.map Value.ref).length ≤ sizeLine := by rw [List.length_map]; omega
  refine wpAny_bind (wpAny_newList ?_ hasl)
  have nd : as.Nodup := List.Pairwise.imp (fun {a b} (h : a < b) => Nat.ne_of_lt h) hG.rise
  have hoL : (h1.push { cls := .type "list", data := .seq (as.map Value.ref).toArray }).get? h1.objs.size = some (PyProof.Rows.seqObj "list" (as.map Value.ref).toArray 0) := Heap.get?_push_size _ rfl
  -- the keys
  let kf : Value → Int := fun v => match v with | .ref b => ((as.zip ks).lookup b).getD 0 | _ => 0
  let zf : Value → Value := fun v => match v with | .ref b => ((as.zip (ws.map (·.2))).lookup b).getD .none | _ => .none
  have hkw : ws.map (·.1) = ks.map Sum.inl := kv.keys.symm.trans hks
  have hkl : ks.length = ws.length := by
    have := congrArg List.length hkw
    rw [List.length_map, List.length_map] at this
    exact this.symm
  have at_ : ∀ (j : Nat) (b : Addr), as[j]? = some b → ∃ k z t, ks[j]? = some k ∧ kf (.ref b) = k ∧ zf (.ref b) = z ∧ ws[j]? = some (Sum.inl k, z) ∧ h1.get? b = some { cls := .type "tuple", data := .seq #[.int k t, z] } := fun j b hj => by
    obtain ⟨key, k, x, f1, f2, f3⟩ := hG.pairs j b hj
    have e1 : (ws.map (·.1))[j]? = some k := by rw [List.getElem?_map, f1]; rfl
    rw [hkw, List.getElem?_map] at e1
    obtain ⟨k0, e2, e3⟩ := Option.map_eq_some_iff.mp e1
    subst e3
    have kk : RelV (kV (Sum.inl k0)) key := relV_key (show keyIs (Sum.inl k0) key = true from f2)
    obtain ⟨t, rfl⟩ := kk
    have z1 := zip_look nd hj e2
    have z2 := zip_look (bs := ws.map (·.2)) nd hj (by rw [List.getElem?_map, f1]; rfl)
    exact ⟨k0, x, t, e2, by show ((as.zip ks).lookup b).getD 0 = k0; rw [z1]; rfl, by show ((as.zip (ws.map (·.2))).lookup b).getD .none = x; rw [z2]; rfl, f1, f3⟩
  have hit : ∀ (h2 : Heap), (∀ b o, h1.get? b = some o → h2.get? b = some o) → ∀ v ∈ as.map Value.ref, IsIt h2 v (kf v) (zf v) := fun h2 kk v hv => by
    obtain ⟨b, hb, rfl⟩ := List.mem_map.mp hv
    obtain ⟨j, hj⟩ := List.mem_iff_getElem?.mp hb
    obtain ⟨k, z, t, e1, e2, e3, e4, e5⟩ := at_ j b hj
    rw [e2, e3]
    exact ⟨b, _, t, _, rfl, kk _ _ e5, rfl, rfl⟩
  have inj : ∀ v ∈ as.map Value.ref, ∀ u ∈ as.map Value.ref, kf v = kf u → v = u := fun v hv u hu e => by
    obtain ⟨b, hb, rfl⟩ := List.mem_map.mp hv
    obtain ⟨c, hc, rfl⟩ := List.mem_map.mp hu
    obtain ⟨i, hi⟩ := List.mem_iff_getElem?.mp hb
    obtain ⟨j, hj⟩ := List.mem_iff_getElem?.mp hc
    obtain ⟨k, z, t, e1, e2, e3, e4, e5⟩ := at_ i b hi
    obtain ⟨k', z', t', f1, f2, f3, f4, f5⟩ := at_ j c hj
    rw [e2, f2] at e
    subst e
    have : i = j := by
      obtain ⟨i1, i2⟩ := List.getElem?_eq_some_iff.mp e1
      obtain ⟨j1, j2⟩ := List.getElem?_eq_some_iff.mp f1
      exact (List.getElem_inj hnd).mp (i2.trans j2.symm)
    subst this
    rw [hi] at hj
    cases hj
    rfl
  show wpAny _ _ _ _ _ { s with heap := h1.push { cls := .type "list", data := .seq (as.map Value.ref).toArray }, toks := tk }
  refine wpAny_bind (wpAny_holding (wpAny_call_entry PyProof.Rows.slot_list_sort ⟨_, hoL, rfl⟩ PyProof.Rows.entry_list_sort (list_sort_ord (swo_I kf) hoL hasl (fun h2 => ?_) fun out hs hb => ⟨_, rfl, ?_⟩) (PyProof.Rows.args_list_sort _)))
  · refine its_sortable (s := { s with heap := h1.push { cls := .type "list", data := .seq (as.map Value.ref).toArray }, toks := tk }) (by omega) (hit _ fun b o e => Heap.get?_push_of_some _ e) inj fun o e => ?_
    have e' : some o = some (PyProof.Rows.seqObj "list" (as.map Value.ref).toArray 0) := e.symm.trans hoL
    cases e'
    intro c
    exact absurd (Value.type.inj c) (by decide)
  · refine wpAny_pure ⟨_, rfl, ?_⟩
    have hpm : out.Perm (as.map Value.ref) := hb.perm
    let bk : Value → Addr := fun v => match v with | .ref b => b | _ => 0
    have hts : (out.map bk).Perm as := by
      have := hpm.map bk
      rw [List.map_map] at this
      have e : (bk ∘ Value.ref) = id := rfl
      rw [e, List.map_id] at this
      exact this
    have hot : out = (out.map bk).map Value.ref := by
      rw [List.map_map]
      refine (List.map_id out).symm.trans (List.map_congr_left fun v hv => ?_)
      obtain ⟨b, hb, rfl⟩ := List.mem_map.mp (hpm.mem_iff.mp hv)
      rfl
    obtain ⟨e', he'⟩ := PyProof.Rows.sortedHeap_at (vs := as.map Value.ref) (out := out.toArray) hoL
    have sz1 : h1.objs.size < (h1.push { cls := .type "list", data := .seq (as.map Value.ref).toArray }).objs.size := Heap.lt_size hoL
    have old1 : ∀ b o, h1.get? b = some o → (PyProof.Rows.sortedHeap (h1.push { cls := .type "list", data := .seq (as.map Value.ref).toArray }) h1.objs.size (as.map Value.ref) out.toArray).get? b = some o := fun b o e => by
      have hb : b < h1.objs.size := Heap.lt_size e
      rw [PyProof.Rows.sortedHeap_old (Nat.ne_of_lt hb) (Nat.lt_trans hb sz1)]
      exact Heap.get?_push_of_some _ e
    have I1 : Inv X pins σ H { s with heap := h1, toks := tk } := I.kept (t' := tk) hk
    have newS : H h1.objs.size = none := I1.hok.fresh (Nat.le_refl _)
    obtain ⟨H', k1, k2, k3, k4, k5, J⟩ := sorted_laid (tk := tk) I hz kv (fun b o e => old1 b o (hk b o e)) old1 hG hl he' newS (fun b o e => Nat.ne_of_lt (Heap.lt_size (hk b o e))) (fun z => Nat.lt_irrefl _ (hG.there z)) (by show out.toArray.toList = _; exact hot) hts
    -- the pairs in their order
    let g : Addr → Key × V := fun b => ((as.zip kvs).lookup b).getD (Sum.inl 0, .non)
    have gat : ∀ (j : Nat) (b : Addr), as[j]? = some b → ∃ q, kvs[j]? = some q ∧ g b = q ∧ H' b = some (.tup [kV q.1, q.2]) ∧ (∃ i : Int, q.1 = Sum.inl i ∧ kf (.ref b) = i) := fun j b hj => by
      obtain ⟨q, e1, e2⟩ := LiI.paired_get k5 hj
      obtain ⟨k, z, t, f1, f2, f3, f4, f5⟩ := at_ j b hj
      refine ⟨q, e1, by show ((as.zip kvs).lookup b).getD _ = q; rw [zip_look nd hj e1]; rfl, e2, k, ?_, f2⟩
      have e3 : (kvs.map (·.1))[j]? = some q.1 := by rw [List.getElem?_map, e1]; rfl
      rw [hks, List.getElem?_map, f1] at e3
      exact (Option.some.inj e3).symm
    have hg : as.map g = kvs := by
      refine List.ext_getElem? fun j => ?_
      rw [List.getElem?_map]
      cases hj : as[j]? with
      | none => 
        have : kvs.length ≤ j := by rw [lk, ← hl]; exact List.getElem?_eq_none_iff.mp hj
        rw [List.getElem?_eq_none this]
        rfl
      | some b =>
        obtain ⟨q, e1, e2, _⟩ := gat j b hj
        rw [e1, Option.map_some, e2]
    have hqs : ((out.map bk).map g) = sortK kvs := by
      refine sortK_uniq (by have := hts.map g; rwa [hg] at this) ?_
      rw [List.pairwise_map]
      have nd2 : (out.map bk).Nodup := hts.symm.nodup nd
      have hs3 : ((out.map bk).map Value.ref).Pairwise fun x y => ltKy kf y x = false := by rw [← hot]; exact hs
      rw [List.pairwise_map] at hs3
      refine (hs3.and nd2).imp_of_mem fun {b c} hb hc2 h => ?_
      obtain ⟨i, hi⟩ := List.mem_iff_getElem?.mp (hts.mem_iff.mp hb)
      obtain ⟨j, hj⟩ := List.mem_iff_getElem?.mp (hts.mem_iff.mp hc2)
      obtain ⟨q1, a1, a2, a3, n1, a4, a5⟩ := gat i b hi
      obtain ⟨q2, b1, b2, b3, n2, b4, b5⟩ := gat j c hj
      have h1' := of_decide_eq_false h.1
      rw [a5, b5] at h1'
      rw [a2, b2, a4, b4]
      show n1 < n2
      have ne : n1 ≠ n2 := fun e => by
        have := inj (.ref b) (List.mem_map.mpr ⟨b, hts.mem_iff.mp hb, rfl⟩) (.ref c) (List.mem_map.mpr ⟨c, hts.mem_iff.mp hc2, rfl⟩) (by rw [a5, b5, e])
        cases this
        exact h.2 rfl
      omega
    refine ⟨.ref h1.objs.size, H', J, rfl, q H' _ (out.map bk) k1 k2 k4 (fun t ht => k3 t (hts.mem_iff.mp ht)) ?_⟩
    rw [← hqs]
    exact paired_of g fun b hb => by
      obtain ⟨j, hj⟩ := List.mem_iff_getElem?.mp (hts.mem_iff.mp hb)
      obtain ⟨q, e1, e2, e3, _⟩ := gat j b hj
      rw [e2]
      exact e3
end
end DL
/-! Dicts and lists of the store: copies, keys, sorted, clear, insert. -/
namespace DL
open PySem PySem.Spec PyProof.Rows L2 L2.DX
variable {K : PySem.W.Frag}
/-- a new object of the store -/
theorem newOb {r : Rf} {H : Hp} {st : Store} {p : Addr} {o : HO} {ob : Ob} (hs : Sim K r H st) (hp : H p = none) (hob : ∀ r' H', Ex r H r' H' → r'.av p → H' p = some o → ObR K r' H' p ob) :
    ∃ r', Ext r H r' (upd H p o) ∧ Sim K r' (upd H p o) (st ++ [ob]) ∧ Rep K r' (upd H p o) (.ref p) (.ref st.length) := by
  obtain ⟨e0, hd0⟩ := hideNew (o := o) hs hp
  have ex : Ex (r.hide p) (upd H p o) ((r.hide p).add p) (upd (upd H p o) p o) := ⟨⟨[p], rfl⟩, fun q x z n => by rw [upd_upd]; exact z, fun q z n => absurd z n⟩
  obtain ⟨w1, w2, w3⟩ := hd0.add (o := o) (ob := ob) e0 hs hp (hob _ _ (e0.toEx.trans ex) hd0.av upd_same)
  rw [upd_upd] at w1 w2 w3
  exact ⟨_, w1, w2, w3 _ rfl⟩
theorem newDct {r : Rf} {H : Hp} {st : Store} {p : Addr} {xs : List (Key × V)} {kvs : List (Key × D)} (hs : Sim K r H st) (hp : H p = none) (l : RepK K r H xs kvs) :
    ∃ r', Ext r H r' (upd H p (.dK xs)) ∧ Sim K r' (upd H p (.dK xs)) (st ++ [.dct kvs]) ∧ Rep K r' (upd H p (.dK xs)) (.ref p) (.ref st.length) :=
  newOb hs hp fun _ _ e v h => ⟨v, _, h, l.ex e⟩
theorem newLst {r : Rf} {H : Hp} {st : Store} {p : Addr} {xs : List V} {ds : List D} (hs : Sim K r H st) (hp : H p = none) (l : RepL K r H xs ds) :
    ∃ r', Ext r H r' (upd H p (.lst xs)) ∧ Sim K r' (upd H p (.lst xs)) (st ++ [.lst ds]) ∧ Rep K r' (upd H p (.lst xs)) (.ref p) (.ref st.length) :=
  newOb hs hp fun _ _ e v h => ⟨v, _, h, l.ex e⟩
section
variable {X : Cx} {W : WXd}
/-! ### dict(d) -/
def fDictC (fo : F) : F := fun env st => (fo env st).bind fun p => (dctAt p.1 p.2).map fun kvs => (.ref p.2.length, p.2 ++ [.dct kvs])
theorem de_dictC {e : Expr} {fo : F} {p pos : Pos} (ho : DE X e fo) (hg : Gl X "dict") (hm : X.mg "dict" = none) (hs : starEach [e] X.env = (false, eval e X.env) :: starEach [] X.env := by rfl) (hpl : (backTo pos (starEach [] X.env)).any (·.1) = false := by rfl) :
    DE X (.Call (.Name "dict" p) [e] [] pos) (fDictC fo) :=
  weakE (pe_callTy call_dictD hg hm (by decide +kernel) (pa_cons ho pa_nil hs) (he := hs) (hpl := hpl)) fun σ H Q hh => by
  obtain ⟨r, env, st, d, st', he, hs, hf, q⟩ := hh
  obtain ⟨⟨x, s1⟩, h1, h2⟩ := Option.bind_eq_some_iff.mp hf
  obtain ⟨kvs, h3, h4⟩ := Option.map_eq_some_iff.mp h2
  cases h4
  refine ⟨r, env, st, _, s1, he, hs, h1, fun v r1 H1 e1 q1 p1 => ?_⟩
  obtain ⟨a, xs, rfl, rd, l⟩ := dctRd p1 q1 h3
  refine ⟨a, xs, rfl, rd, fun p hp => ?_⟩
  obtain ⟨r', w1, w2, w3⟩ := newDct q1 hp l
  exact q _ r' _ (e1.trans w1) w2 w3
/-! ### list(d): the keys -/
def keysL : List D → Store → Option D := fun ds st => match ds with
  | [d] => (dctAt d st).map fun kvs => .lst (kvs.map fun kv => keyD kv.1)
  | _ => none
theorem keys_repL {r : Rf} {H : Hp} : ∀ {xs : List (Key × V)} {kvs : List (Key × D)}, RepK K r H xs kvs → RepL K r H (xs.map fun kv => kV kv.1) (kvs.map fun kv => keyD kv.1)
  | _, _, .nil => .nil
  | _, _, .cons (k := k) a b => .cons (keyD_rep k) (keys_repL b)
theorem ok_keysL {k : Nat} (g : GX X k) : CallOk X (.type "list") keysL := ⟨_, call_listD g.calm, fun rho H xs ds d st Q rl si e q => by
  unfold keysL at e
  split at e
  · rename_i d0
    obtain ⟨kvs, h1, h2⟩ := Option.map_eq_some_iff.mp e
    subst h2
    obtain ⟨v, rfl, rv⟩ := lst1 rl
    obtain ⟨a, xs, rfl, rd, l⟩ := dctRd rv si h1
    exact ⟨a, xs, rfl, rd, fun p hp => q _ _ (same_alloc hp) (fresh_lst si hp (keys_repL l))⟩
  · cases e⟩
def bListK : List D → Store → Option D := fun ds st => (bList ds st).or (keysL ds st)
theorem ok_listK {k : Nat} (g : GX X k) : CallOk X (.type "list") bListK := (ok_list g).or (ok_keysL g)
/-! ### sorted(d), the keys ints -/
def intKs : List (Key × D) → Option (List Int)
  | [] => some []
  | (.inl i, _) :: l => (intKs l).map (i :: ·)
  | _ :: _ => none
theorem intKs_keys : ∀ {kvs : List (Key × D)} {ks : List Int}, intKs kvs = some ks → kvs.map (·.1) = ks.map Sum.inl
  | [], _, h => by cases h; rfl
  | (.inl i, _) :: l, _, h => by
    obtain ⟨ks, h1, h2⟩ := Option.map_eq_some_iff.mp (show (intKs l).map (i :: ·) = _ from h)
    subst h2
    rw [List.map_cons, List.map_cons, intKs_keys h1]
  | (.inr x, _) :: l, _, h => by cases h
theorem intKs_some : ∀ {kvs : List (Key × D)} {ks : List Int}, kvs.map (·.1) = ks.map Sum.inl → intKs kvs = some ks
  | [], [], _ => rfl
  | [], _ :: _, h => by cases h
  | _ :: _, [], h => by cases h
  | (k, d) :: l, i :: ks, h => by
    injection h with h1 h2
    have h1' : k = Sum.inl i := h1
    subst h1'
    show (intKs l).map (i :: ·) = _
    rw [intKs_some h2]
    rfl
def sortedKs (kvs : List (Key × D)) : Option (List Int) := (intKs kvs).bind fun ks => if ks.length < 64 ∧ ks.Nodup then some (srt ks) else none
theorem sorted_srt {ys ks : List Int} (p : ys.Perm ks) (s : ys.Pairwise (· ≤ ·)) (n : ks.Nodup) : ys = srt ks := by
  have ny : ys.Nodup := p.symm.nodup n
  refine pw_eq ((s.and ny).imp fun h => by omega) (srt_pw ks) fun j => by rw [srt_mem]; exact p.mem_iff
def fSortKs (fo : F) : F := fun env st => (fo env st).bind fun p => (dctAt p.1 p.2).bind fun kvs => (sortedKs kvs).map fun ks => (.lst (ks.map .int), p.2)
/-- .. into the store -/
def fSortKR (fo : F) : F := fun env st => (fo env st).bind fun p => (dctAt p.1 p.2).bind fun kvs => (sortedKs kvs).map fun ks => (.ref p.2.length, p.2 ++ [.lst (ks.map .int)])
theorem sortedKs_some {kvs : List (Key × D)} {zs : List Int} (h : sortedKs kvs = some zs) : ∃ ks, kvs.map (·.1) = ks.map Sum.inl ∧ ks.length < 64 ∧ ks.Nodup ∧ zs = srt ks := by
  obtain ⟨ks, h1, h2⟩ := Option.bind_eq_some_iff.mp h
  by_cases c : ks.length < 64 ∧ ks.Nodup
  · rw [if_pos c] at h2
    cases h2
    exact ⟨ks, intKs_keys h1, c.1, c.2, rfl⟩
  · rw [if_neg c] at h2
    cases h2
theorem de_sortKs {e : Expr} {fo : F} {p pos : Pos} {k : Nat} (g : GX X k) (ho : DE X e fo) (hg : Gl X "sorted") (hm : X.mg "sorted" = none) (hs : starEach [e] X.env = (false, eval e X.env) :: starEach [] X.env := by rfl) (hpl : (backTo pos (starEach [] X.env)).any (·.1) = false := by rfl) :
    DE X (.Call (.Name "sorted" p) [e] [] pos) (fSortKs fo) := weakE (pe_callB (p := p) (pos := pos) (call_sortedDI g.calm) hg hm (by decide +kernel) (pa_cons ho pa_nil hs) (he := hs) (hpl := hpl)) fun σ H Q hh => by
  obtain ⟨r, env, st, d, st', he, hs, hf, q⟩ := hh
  obtain ⟨⟨x, s1⟩, h1, h2⟩ := Option.bind_eq_some_iff.mp hf
  obtain ⟨kvs, h3, h4⟩ := Option.bind_eq_some_iff.mp h2
  obtain ⟨zs, h5, h6⟩ := Option.map_eq_some_iff.mp h4
  cases h6
  obtain ⟨ks, k1, k2, k3, rfl⟩ := sortedKs_some h5
  refine ⟨r, env, st, _, _, he, hs, h1, fun v r1 H1 e1 q1 p1 => ?_⟩
  obtain ⟨a, xs, rfl, rd, l⟩ := dctRd p1 q1 h3
  refine ⟨a, xs, ks, rfl, rd, by rw [l.keys]; exact k1, k2, fun ys p pm pw hp => ?_⟩
  rw [sorted_srt pm pw k3]
  exact q _ r1 _ (e1.trans (q1.ext (same_alloc hp))) (q1.same (same_alloc hp)) (fresh_lst q1 hp (RepL.ofInts _))
theorem de_sortKR {e : Expr} {fo : F} {p pos : Pos} {k : Nat} (g : GX X k) (ho : DE X e fo) (hg : Gl X "sorted") (hm : X.mg "sorted" = none) (hs : starEach [e] X.env = (false, eval e X.env) :: starEach [] X.env := by rfl) (hpl : (backTo pos (starEach [] X.env)).any (·.1) = false := by rfl) :
    DE X (.Call (.Name "sorted" p) [e] [] pos) (fSortKR fo) := weakE (pe_callB (p := p) (pos := pos) (call_sortedDI g.calm) hg hm (by decide +kernel) (pa_cons ho pa_nil hs) (he := hs) (hpl := hpl)) fun σ H Q hh => by
  obtain ⟨r, env, st, d, st', he, hs, hf, q⟩ := hh
  obtain ⟨⟨x, s1⟩, h1, h2⟩ := Option.bind_eq_some_iff.mp hf
  obtain ⟨kvs, h3, h4⟩ := Option.bind_eq_some_iff.mp h2
  obtain ⟨zs, h5, h6⟩ := Option.map_eq_some_iff.mp h4
  cases h6
  obtain ⟨ks, k1, k2, k3, rfl⟩ := sortedKs_some h5
  refine ⟨r, env, st, _, _, he, hs, h1, fun v r1 H1 e1 q1 p1 => ?_⟩
  obtain ⟨a, xs, rfl, rd, l⟩ := dctRd p1 q1 h3
  refine ⟨a, xs, ks, rfl, rd, by rw [l.keys]; exact k1, k2, fun ys p pm pw hp => ?_⟩
  rw [sorted_srt pm pw k3]
  obtain ⟨r', w1, w2, w3⟩ := newLst q1 hp (RepL.ofInts (srt ks))
  exact q _ r' _ (e1.trans w1) w2 w3
/-! ### sorted(d.items()) -/
def itemsD (kvs : List (Key × D)) : List D := (sortK kvs).map fun kv => .tup [keyD kv.1, kv.2]
def fSortI (fo : F) : F := fun env st => (fo env st).bind fun p => (dctAt p.1 p.2).bind fun kvs => (intKs kvs).bind fun ks => if ks.Nodup then some (.lst (itemsD kvs), p.2) else none
theorem items_repL {r : Rf} {H H' : Hp} {st : Store} (si : Sim K r H st) (sm : Same H H') : ∀ {xs : List (Key × V)} {kvs : List (Key × D)}, RepK K r H xs kvs → ∀ {ts : List Addr}, (∀ t ∈ ts, H t = none) → Paired (fun (t : Addr) (q : Key × V) => H' t = some (.tup [kV q.1, q.2])) ts xs →
    RepL K r H' (ts.map V.ref) (kvs.map fun kv => .tup [keyD kv.1, kv.2])
  | _, _, .nil, _, _, p => by cases p; exact .nil
  | _, _, .cons (k := k) a b, _, hn, p => by
    cases p with
    | cons h p => exact .cons (.tupP h (si.free (hn _ List.mem_cons_self)) (.cons (keyD_rep k) (.cons (a.ex (Ex.same r sm)) .nil))) (items_repL si sm b (fun u hu => hn u (List.mem_cons_of_mem _ hu)) p)
theorem de_sortI {e : Expr} {fo : F} {p apos cpos pos : Pos} {k : Nat} (g : GX X k) (ho : DE X e fo) (hg : Gl X "sorted") (hm : X.mg "sorted" = none) (hbase : attributeBase e "items" X.env (eval e X.env) = eval e X.env := by rfl) (hline : (apos.endLine == cpos.line) = true := by rfl)
    (hs : starEach [.Call (.Attribute e "items" apos) [] [] cpos] X.env = (false, eval (.Call (.Attribute e "items" apos) [] [] cpos) X.env) :: starEach [] X.env := by rfl) (hpl : (backTo pos (starEach [] X.env)).any (·.1) = false := by rfl) :
    DE X (.Call (.Name "sorted" p) [.Call (.Attribute e "items" apos) [] [] cpos] [] pos) (fSortI fo) :=
  weakE (pe_callB (cr_sortI g.calm) hg hm (by decide +kernel) (pa_cons (pe_dItems ho hbase hline) pa_nil hs) (he := hs) (hpl := hpl)) fun σ H Q hh => by
  obtain ⟨r, env, st, d, st', he, hs, hf, q⟩ := hh
  obtain ⟨⟨x, s1⟩, h1, h2⟩ := Option.bind_eq_some_iff.mp hf
  obtain ⟨kvs, h3, h4⟩ := Option.bind_eq_some_iff.mp h2
  obtain ⟨ks, h5, h6⟩ := Option.bind_eq_some_iff.mp h4
  by_cases hn : ks.Nodup
  case neg => rw [if_neg hn] at h6; cases h6
  rw [if_pos hn] at h6
  cases h6
  refine ⟨r, env, st, _, _, he, hs, h1, fun v r1 H1 e1 q1 p1 => ?_⟩
  obtain ⟨a, xs, rfl, rd, l⟩ := dctRd p1 q1 h3
  refine ⟨a, xs, rfl, rd, fun p hp => ?_⟩
  have sm : Same H1 (upd H1 p (itemsO p a)) := same_alloc hp
  have q2 := q1.same sm
  have l2 := l.ex (Ex.same r1 sm)
  have rd2 : Rd (upd H1 p (itemsO p a)) a (.dK xs) := by
    rcases rd with h | ⟨o, h⟩
    · exact .inl (sm _ _ h)
    · exact .inr ⟨o, sm _ _ h⟩
  refine ⟨p, a, xs, ks, rfl, upd_same, rd2, by rw [l.keys]; exact intKs_keys h5, hn, fun H' lo ts k1 k2 k3 k4 k5 => ?_⟩
  have l3 := l2.sortK
  have hnl : ¬ r1.av lo := q2.free k2
  exact q _ r1 H' (e1.trans ((q1.ext sm).trans (q2.ext k1))) (q2.same k1) (.lst k3 hnl (items_repL q2 k1 l3 k4 k5))
/-! ### d.clear() -/
def fClear (fo : F) : F := fun env st => (fo env st).bind fun p => match p.1 with
  | .ref n => (match p.2[n]? with | some (.dct _) => some (.non, p.2.set n (.dct [])) | _ => none)
  | _ => none
theorem de_clear {o : Expr} {fo : F} {apos cpos : Pos} (ho : DE X o fo) (hbase : attributeBase o "clear" X.env (eval o X.env) = eval o X.env := by rfl) (hline : (apos.endLine == cpos.line) = true := by rfl) :
    DE X (.Call (.Attribute o "clear" apos) [] [] cpos) (fClear fo) := weakE (pe_dclear ho hbase hline) fun σ H Q hh => by
  obtain ⟨r, env, st, d, st', he, hs, hf, q⟩ := hh
  obtain ⟨⟨x, s1⟩, h1, h2⟩ := Option.bind_eq_some_iff.mp hf
  cases x with
  | ref n =>
    have h2' : (match s1[n]? with | some (.dct _) => some (D.non, s1.set n (.dct [])) | _ => none) = some (d, st') := h2
    split at h2'
    · rename_i kvs hst
      cases h2'
      refine ⟨r, env, st, _, s1, he, hs, h1, fun v r1 H1 e1 q1 p1 => ?_⟩
      obtain ⟨a, rfl, ha⟩ := p1.refI
      obtain ⟨av, xs, hx, l⟩ := q1.ob _ a _ ha hst
      refine ⟨.inr (.inr (.inl ⟨rfl, .inl ⟨xs, hx⟩⟩)), a, xs, rfl, rfl, hx, ?_⟩
      obtain ⟨w1, w2⟩ := q1.set (o := .dK []) (ob := .dct []) ha av ⟨av, [], upd_same, .nil⟩ (fun _ _ z => by rw [hx] at z; cases z)
      exact q _ r1 _ (e1.trans w1) w2 .non
    · cases h2'
  | _ => cases h2
/-! ### xs.insert(i, x) -/
def insAtL (xs : List D) (i : Int) (d : D) : List D := xs.take i.toNat ++ [d] ++ xs.drop i.toNat
def fIns (fo fi fe : F) : F := fun env st => (fo env st).bind fun p => match p.1 with
  | .ref n => if isLs p.2[n]? = true then (fi env p.2).bind fun q => (fe env q.2).bind fun w => match q.1, w.2[n]? with
    | .int i, some (.lst xs) => if xs.length < sizeLine ∧ 0 ≤ i ∧ i < 2 ^ 62 then some (.non, w.2.set n (.lst (insAtL xs i w.1))) else none
    | _, _ => none else none
  | _ => none
theorem RepL.insAt {r : Rf} {H : Hp} {vs : List V} {ds : List D} {v : V} {d : D} (l : RepL K r H vs ds) (q : Rep K r H v d) (i : Nat) : RepL K r H (vs.take i ++ [v] ++ vs.drop i) (ds.take i ++ [d] ++ ds.drop i) := ((l.take i).append (.cons q .nil)).append (l.drop i)
theorem de_insert {o i e : Expr} {fo fi fe : F} {apos cpos : Pos} (ho : DE X o fo) (hi : DE X i fi) (hv : DE X e fe) (hbase : attributeBase o "insert" X.env (eval o X.env) = eval o X.env := by rfl)
    (hfew : ((backTo cpos (starEach [i, e] X.env)).all (fun x => !x.1) && (backToKw cpos (keywordEach [] X.env)).all (fun x => x.1.isSome)
      && decide (([i, e] : List Expr).length + ([] : List Keyword).length + (if ([] : List Keyword).isEmpty then 0 else 1) < 30)) = true := by rfl)
    (hline : (apos.endLine == cpos.line) = true := by rfl) (hs : starEach [i, e] X.env = (false, eval i X.env) :: starEach [e] X.env := by rfl) (hs2 : starEach [e] X.env = (false, eval e X.env) :: starEach [] X.env := by rfl) (hpl : (backTo cpos (starEach [e] X.env)).any (·.1) = false := by rfl) :
    DE X (.Call (.Attribute o "insert" apos) [i, e] [] cpos) (fIns fo fi fe) :=
  weakE (pe_bm PySem.F.plainAttrs_list PySem.F.slot_list_insert PySem.F.type_list_insert mt_insert ho (pa_cons hi (pa_cons hv pa_nil hs2) hs) hbase hfew hline hs hpl) fun σ H Q hh => by
  obtain ⟨r, env, st, d, st', he, hs, hf, q⟩ := hh
  obtain ⟨⟨x, s1⟩, h1, hf1⟩ := Option.bind_eq_some_iff.mp hf
  cases x with
  | ref n =>
    have hf1' : (if isLs s1[n]? = true then (fi env s1).bind fun q => (fe env q.2).bind fun w => match q.1, w.2[n]? with
      | .int i, some (.lst xs) => if xs.length < sizeLine ∧ 0 ≤ i ∧ i < 2 ^ 62 then some (D.non, w.2.set n (.lst (insAtL xs i w.1))) else none
      | _, _ => none else none) = some (d, st') := hf1
    by_cases hl1 : isLs s1[n]? = true
    case neg => rw [if_neg hl1] at hf1'; cases hf1'
    rw [if_pos hl1] at hf1'
    obtain ⟨⟨y, s2⟩, h2, hf2⟩ := Option.bind_eq_some_iff.mp hf1'
    obtain ⟨⟨z, s3⟩, h3, hf3⟩ := Option.bind_eq_some_iff.mp hf2
    dsimp only at hf3
    split at hf3
    · rename_i iv xs hst
      by_cases hc : xs.length < sizeLine ∧ 0 ≤ iv ∧ iv < 2 ^ 62
      case neg => rw [if_neg hc] at hf3; cases hf3
      rw [if_pos hc] at hf3
      cases hf3
      refine ⟨r, env, st, _, s1, he, hs, h1, fun v r1 H1 e1 q1 p1 => ?_⟩
      obtain ⟨a, rfl, ha⟩ := p1.refI
      refine ⟨?_, r1, env, s1, _, s2, he.ext e1, q1, h2, fun v2 r2 H2 e2 q2 p2 => ⟨r2, env, s2, z, s3, (he.ext e1).ext e2, q2, h3, fun v3 r3 H3 e3 q3 p3 => ?_⟩⟩
      · cases hq : s1[n]? with
        | none => rw [hq] at hl1; cases hl1
        | some ob =>
          rw [hq] at hl1
          cases ob with
          | lst us =>
            obtain ⟨av, ys, hx, l⟩ := q1.ob _ a _ ha hq
            exact .inl ⟨rfl, ys, .of hx⟩
          | _ => cases hl1
      · cases p2
        have ha3 := (e2.toEx.trans e3.toEx).get ha
        obtain ⟨av, ys, hx, l⟩ := q3.ob _ a _ ha3 hst
        refine ⟨a, ys, iv, v3, rfl, rfl, hx, by rw [l.len]; exact hc.1, hc.2.1, Int.lt_trans hc.2.2 (by decide), ?_⟩
        have ee : Ex r3 H3 r3 (upd H3 a (.lst (ys.take iv.toNat ++ [v3] ++ ys.drop iv.toNat))) := ⟨⟨[], by simp⟩, fun b o w m => by rw [upd_ne (fun y => m (by rw [y]; exact av))]; exact w, fun b w m => absurd w m⟩
        obtain ⟨w1, w2⟩ := q3.set (o := .lst (ys.take iv.toNat ++ [v3] ++ ys.drop iv.toNat)) (ob := .lst (insAtL xs iv z)) ha3 av ⟨av, _, upd_same, (l.insAt p3 _).ex ee⟩ (fun _ _ z => by rw [hx] at z; cases z)
        exact q _ r3 _ (((e1.trans e2).trans e3).trans w1) w2 .non
    · cases hf3
  | _ => cases hf1
end
end DL
/-! A dict of the store is locked while a statement or an expression runs. -/
namespace DL
open PySem PySem.Spec PyProof.Rows L2
variable {K : PySem.W.Frag}
def Rf.lock (r : Rf) (a : Addr) : Rf := ⟨r.adr, r.av, fun p => r.lk p ∨ p = a⟩
theorem lock_ex {r : Rf} {H : Hp} {a : Addr} {o : HO} (av : r.av a) : Ex r H (r.lock a) (upd H a o) := ⟨⟨[], by simp [Rf.lock]⟩, fun b u h n => by rw [upd_ne (fun y => n (by rw [y]; exact av))]; exact h, fun b h n => absurd h n⟩
theorem lock_sim {r : Rf} {H : Hp} {st : Store} (s : Sim K r H st) {n : Nat} {a : Addr} {xs : List (Key × V)} {kvs : List (Key × D)} (o : Obj) (ha : r.adr[n]? = some a) (hx : H a = some (.dK xs)) (l : RepK K r H xs kvs) (av : r.av a) :
    Sim K (r.lock a) (upd H a (.frz o (.dK xs))) (st.set n (.ldc kvs)) := by
  have e := lock_ex (H := H) (o := .frz o (.dK xs)) av
  have nlk : ∀ q, r.lk q → q ≠ a := fun q z y => by
    obtain ⟨o, u, h⟩ := s.lkd q z
    rw [y, hx] at h
    cases h
  refine ⟨by rw [List.length_set]; exact s.len, s.nd, fun m b x h1 h2 => ?_, fun b v => ?_, fun b v => ?_, fun b v => ?_⟩
  · by_cases z : n = m
    · subst z
      have h1' : r.adr[n]? = some b := h1
      rw [ha] at h1'
      cases h1'
      by_cases hl : n < st.length
      · rw [List.getElem?_set_self hl] at h2
        cases h2
        exact ⟨av, .inr rfl, o, xs, upd_same, l.ex e⟩
      · rw [List.getElem?_eq_none (by rw [List.length_set]; omega)] at h2
        cases h2
    · rw [List.getElem?_set_ne z] at h2
      have nb : b ≠ a := fun y => z (by
        subst y
        obtain ⟨l1, e1⟩ := List.getElem?_eq_some_iff.mp ha
        obtain ⟨l2, e2⟩ := List.getElem?_eq_some_iff.mp h1
        exact (List.getElem_inj s.nd).mp (e1.trans e2.symm))
      exact (s.ob m b x h1 h2).ex e (fun v => ⟨by rw [upd_ne nb], v⟩) (fun v => .inl v)
  · by_cases z : b = a
    · exact ⟨_, by rw [z]; exact upd_same⟩
    · rw [upd_ne z]; exact s.there b v
  · by_cases z : b = a
    · exact ⟨_, by rw [z]; exact upd_same⟩
    · rw [upd_ne z]; exact s.old b v
  · by_cases z : b = a
    · exact ⟨_, _, by rw [z]; exact upd_same⟩
    · rw [upd_ne z]
      rcases v with v | v
      · exact s.lkd b v
      · exact absurd v z
/-- .. and opened again -/
theorem unlock_sim {r r2 : Rf} {H H2 : Hp} {st st2 : Store} (s : Sim K r H st) {n : Nat} {a : Addr} {xs : List (Key × V)} {k2 : List (Key × D)} {o : Obj} (ha : r.adr[n]? = some a) (hx : H a = some (.dK xs)) (av : r.av a)
    (e : Ext (r.lock a) (upd H a (.frz o (.dK xs))) r2 H2) (s2 : Sim K r2 H2 st2) (h2 : st2[n]? = some (.ldc k2)) :
    H2 a = some (.frz o (.dK xs)) ∧ Ext r H ⟨r2.adr, r2.av, r.lk⟩ (upd H2 a (.dK xs)) ∧ Sim K ⟨r2.adr, r2.av, r.lk⟩ (upd H2 a (.dK xs)) (st2.set n (.dct k2)) ∧ Ex r2 H2 ⟨r2.adr, r2.av, r.lk⟩ (upd H2 a (.dK xs)) := by
  have hm := List.mem_of_getElem? ha
  have ha2 : r2.adr[n]? = some a := e.toEx.get ha
  have h2a : H2 a = some (.frz o (.dK xs)) := by rw [e.hd.lks a (.inr rfl)]; exact upd_same
  have nla : ¬ r.lk a := fun z => by
    obtain ⟨o, u, h⟩ := s.lkd a z
    rw [hx] at h
    cases h
  obtain ⟨av2, lk2, o2, xs2, hx2, l2⟩ := s2.ob n a _ ha2 h2
  rw [h2a] at hx2
  cases hx2
  have ex : Ex r2 H2 ⟨r2.adr, r2.av, r.lk⟩ (upd H2 a (.dK xs)) := ⟨⟨[], by simp⟩, fun b u h n => by rw [upd_ne (fun y => n (by rw [y]; exact av2))]; exact h, fun b h n => absurd h n⟩
  have lke : ∀ p, r2.lk p ↔ r.lk p ∨ p = a := fun p => e.hd.lke p
  refine ⟨h2a, ⟨⟨e.toEx.pre, fun b u h nn => ?_, fun b h nn => ?_⟩, fun b v nn => ?_, fun _ => Iff.rfl, fun b v => ?_⟩, ⟨by rw [List.length_set]; exact s2.len, s2.nd, fun m b x h1 h3 => ?_, fun b v => ?_, fun b v => ?_, fun b v => ?_⟩, ex⟩
  · have ne : b ≠ a := fun y => nn (by rw [y]; exact av)
    rw [upd_ne ne]
    exact e.toEx.keep b u (by rw [upd_ne ne]; exact h) nn
  · have := e.toEx.new b h nn
    have ne : b ≠ a := fun y => nn (by rw [y]; exact av)
    rwa [upd_ne ne] at this
  · have ne : b ≠ a := fun y => nn (by rw [y]; exact hm)
    obtain ⟨z1, z2, z3⟩ := e.hd.hid b v nn
    rw [upd_ne ne] at z1
    exact ⟨by rw [upd_ne ne]; exact z1, z2, z3⟩
  · have ne : b ≠ a := fun y => nla (by rw [← y]; exact v)
    have := e.hd.lks b (.inl v)
    rw [upd_ne ne] at this
    rw [upd_ne ne]
    exact this
  · by_cases z : n = m
    · subst z
      have h1' : r2.adr[n]? = some b := h1
      rw [ha2] at h1'
      cases h1'
      have hl := (List.getElem?_eq_some_iff.mp h2).1
      rw [List.getElem?_set_self hl] at h3
      cases h3
      exact ⟨av2, xs, upd_same, l2.ex ex⟩
    · rw [List.getElem?_set_ne z] at h3
      have nb : b ≠ a := fun y => z (by
        subst y
        obtain ⟨l1, e1⟩ := List.getElem?_eq_some_iff.mp ha2
        obtain ⟨l2, e2⟩ := List.getElem?_eq_some_iff.mp h1
        exact (List.getElem_inj s2.nd).mp (e1.trans e2.symm))
      exact (s2.ob m b x h1 h3).ex ex (fun v => ⟨by rw [upd_ne nb], v⟩) (fun v => ((lke b).mp v).resolve_right nb)
  · by_cases z : b = a
    · exact ⟨_, by rw [z]; exact upd_same⟩
    · rw [upd_ne z]; exact s2.there b v
  · by_cases z : b = a
    · exact ⟨_, by rw [z]; exact upd_same⟩
    · rw [upd_ne z]; exact s2.old b v
  · have ne : b ≠ a := fun y => nla (by rw [← y]; exact v)
    rw [upd_ne ne]
    exact s2.lkd b ((lke b).mpr (.inl v))
section
variable {X : Cx} {W : WXd}
/-- which object is locked: what an expression says -/
def whichR (f : F) : Lo → Store → Option Nat := fun env st => match f env st with | some (.ref n, _) => some n | _ => none
def ldcAt (n : Nat) (st : Store) : Option (List (Key × D)) := match st[n]? with | some (.ldc k) => some k | _ => none
def dctIn (n : Nat) (st : Store) : Option (List (Key × D)) := match st[n]? with | some (.dct k) => some k | _ => none
theorem ldcAt_some {n : Nat} {st : Store} {k : List (Key × D)} (h : ldcAt n st = some k) : st[n]? = some (.ldc k) := by
  unfold ldcAt at h
  split at h
  · rename_i q; cases h; exact q
  · cases h
theorem dctIn_some {n : Nat} {st : Store} {k : List (Key × D)} (h : dctIn n st = some k) : st[n]? = some (.dct k) := by
  unfold dctIn at h
  split at h
  · rename_i q; cases h; exact q
  · cases h
def sLock (w : Lo → Store → Option Nat) (g : FS) : FS := fun env st => (w env st).bind fun n => (dctIn n st).bind fun kvs => (g env (st.set n (.ldc kvs))).bind fun p => match p.1 with
  | .er _ _ _ => none
  | o => (ldcAt n p.2.2).map fun k2 => (o, p.2.1, p.2.2.set n (.dct k2))
theorem ds_lock (w : Lo → Store → Option Nat) {s : Stmt} {g : FS} (h : DS X W s g) : DS X W s (sLock w g) := weakS (ps_lock h) fun D' σ H hh => by
  obtain ⟨r, env, st, o, env', st', he, hs, hf, q⟩ := hh
  obtain ⟨n, h1, hf1⟩ := Option.bind_eq_some_iff.mp hf
  obtain ⟨kvs, h2, hf2⟩ := Option.bind_eq_some_iff.mp hf1
  obtain ⟨⟨o1, e1, s1⟩, h3, hf3⟩ := Option.bind_eq_some_iff.mp hf2
  have hst := dctIn_some h2
  have hlt := (List.getElem?_eq_some_iff.mp hst).1
  obtain ⟨a, ha⟩ : ∃ a, r.adr[n]? = some a := ⟨r.adr[n]'(by rw [hs.len]; exact hlt), List.getElem?_eq_getElem (by rw [hs.len]; exact hlt)⟩
  obtain ⟨av, xs, hx, l⟩ := hs.ob n a _ ha hst
  refine ⟨a, _, hx, trivial, fun od => ?_⟩
  have ls := lock_sim hs od ha hx l av
  have lex := lock_ex (r := r) (H := H) (o := .frz od (.dK xs)) av
  -- what is left once it runs through
  have fin : (∃ k2, ldcAt n s1 = some k2 ∧ (∃ o2, o2 = o1 ∧ o = o2 ∧ env' = e1 ∧ st' = s1.set n (.dct k2))) → OutOk X.K W (r.lock a) (upd H a (.frz od (.dK xs))) ⟨fun σ' H' => H' a = some (.frz od (.dK xs)) ∧ D'.nx σ' (upd H' a (.dK xs)), fun v H' => H' a = some (.frz od (.dK xs)) ∧ D'.rt v (upd H' a (.dK xs)), fun σ' H' => H' a = some (.frz od (.dK xs)) ∧ D'.bk σ' (upd H' a (.dK xs)), fun σ' H' => H' a = some (.frz od (.dK xs)) ∧ D'.ct σ' (upd H' a (.dK xs))⟩ e1 s1 o1 ∨ ∃ c f d, o1 = .er c f d := by
    rintro ⟨k2, h4, o2, rfl, rfl, rfl, rfl⟩
    have h4' := ldcAt_some h4
    cases o with
    | nx =>
      exact .inl fun σ' r' H' ex he' hs' => by
        obtain ⟨u1, u2, u3, u4⟩ := unlock_sim hs ha hx av ex hs' h4'
        exact ⟨u1, q σ' _ _ u2 (he'.exx u4) u3⟩
    | bk =>
      exact .inl fun σ' r' H' ex he' hs' => by
        obtain ⟨u1, u2, u3, u4⟩ := unlock_sim hs ha hx av ex hs' h4'
        exact ⟨u1, q σ' _ _ u2 (he'.exx u4) u3⟩
    | ct =>
      exact .inl fun σ' r' H' ex he' hs' => by
        obtain ⟨u1, u2, u3, u4⟩ := unlock_sim hs ha hx av ex hs' h4'
        exact ⟨u1, q σ' _ _ u2 (he'.exx u4) u3⟩
    | rt d =>
      exact .inl fun v r' H' ex hs' rv => by
        obtain ⟨u1, u2, u3, u4⟩ := unlock_sim hs ha hx av ex hs' h4'
        exact ⟨u1, q v _ _ u2 u3 (rv.ex u4)⟩
    | er c f d => exact .inr ⟨c, f, d, rfl⟩
  have key : OutOk X.K W (r.lock a) (upd H a (.frz od (.dK xs))) ⟨fun σ' H' => H' a = some (.frz od (.dK xs)) ∧ D'.nx σ' (upd H' a (.dK xs)), fun v H' => H' a = some (.frz od (.dK xs)) ∧ D'.rt v (upd H' a (.dK xs)), fun σ' H' => H' a = some (.frz od (.dK xs)) ∧ D'.bk σ' (upd H' a (.dK xs)), fun σ' H' => H' a = some (.frz od (.dK xs)) ∧ D'.ct σ' (upd H' a (.dK xs))⟩ e1 s1 o1 := by
    cases o1 with
    | er c f d => cases hf3
    | nx =>
      obtain ⟨k2, h4, h5⟩ := Option.map_eq_some_iff.mp (show ((ldcAt n s1).map fun k2 => (Out.nx, e1, s1.set n (.dct k2))) = some (o, env', st') from hf3)
      cases h5
      exact (fin ⟨k2, h4, _, rfl, rfl, rfl, rfl⟩).resolve_right (fun ⟨c, f, d, z⟩ => by cases z)
    | bk =>
      obtain ⟨k2, h4, h5⟩ := Option.map_eq_some_iff.mp (show ((ldcAt n s1).map fun k2 => (Out.bk, e1, s1.set n (.dct k2))) = some (o, env', st') from hf3)
      cases h5
      exact (fin ⟨k2, h4, _, rfl, rfl, rfl, rfl⟩).resolve_right (fun ⟨c, f, d, z⟩ => by cases z)
    | ct =>
      obtain ⟨k2, h4, h5⟩ := Option.map_eq_some_iff.mp (show ((ldcAt n s1).map fun k2 => (Out.ct, e1, s1.set n (.dct k2))) = some (o, env', st') from hf3)
      cases h5
      exact (fin ⟨k2, h4, _, rfl, rfl, rfl, rfl⟩).resolve_right (fun ⟨c, f, d, z⟩ => by cases z)
    | rt v =>
      obtain ⟨k2, h4, h5⟩ := Option.map_eq_some_iff.mp (show ((ldcAt n s1).map fun k2 => (Out.rt v, e1, s1.set n (.dct k2))) = some (o, env', st') from hf3)
      cases h5
      exact (fin ⟨k2, h4, _, rfl, rfl, rfl, rfl⟩).resolve_right (fun ⟨c, f, d, z⟩ => by cases z)
  exact ⟨r.lock a, env, _, o1, e1, s1, he.exx lex, ls, h3, key⟩
def fLock (w : Lo → Store → Option Nat) (g : F) : F := fun env st => (w env st).bind fun n => (dctIn n st).bind fun kvs => (g env (st.set n (.ldc kvs))).bind fun p => (ldcAt n p.2).map fun k2 => (p.1, p.2.set n (.dct k2))
theorem de_lock (w : Lo → Store → Option Nat) {e : Expr} {g : F} (h : DE X e g) : DE X e (fLock w g) := weakE (pe_lock h) fun σ H Q hh => by
  obtain ⟨r, env, st, d, st', he, hs, hf, q⟩ := hh
  obtain ⟨n, h1, hf1⟩ := Option.bind_eq_some_iff.mp hf
  obtain ⟨kvs, h2, hf2⟩ := Option.bind_eq_some_iff.mp hf1
  obtain ⟨⟨d1, s1⟩, h3, hf3⟩ := Option.bind_eq_some_iff.mp hf2
  obtain ⟨k2, h4, h5⟩ := Option.map_eq_some_iff.mp hf3
  cases h5
  have hst := dctIn_some h2
  have hlt := (List.getElem?_eq_some_iff.mp hst).1
  obtain ⟨a, ha⟩ : ∃ a, r.adr[n]? = some a := ⟨r.adr[n]'(by rw [hs.len]; exact hlt), List.getElem?_eq_getElem (by rw [hs.len]; exact hlt)⟩
  obtain ⟨av, xs, hx, l⟩ := hs.ob n a _ ha hst
  refine ⟨a, _, hx, trivial, fun od => ?_⟩
  have ls := lock_sim hs od ha hx l av
  have lex := lock_ex (r := r) (H := H) (o := .frz od (.dK xs)) av
  refine ⟨r.lock a, env, _, _, s1, he.exx lex, ls, h3, fun v r' H' ex hs' rv => ?_⟩
  obtain ⟨u1, u2, u3, u4⟩ := unlock_sim hs ha hx av ex hs' (ldcAt_some h4)
  exact ⟨u1, q v _ _ u2 u3 (rv.ex u4)⟩
/-! ### the walk of a dict that is a value or locked -/
def frzAt : D → Store → Option (List (Key × D)) := fun d st => match d with
  | .dct kvs => some kvs
  | .ref n => ldcAt n st
  | _ => none
def kKeys (kvs : List (Key × D)) : List D := kvs.map fun kv => keyD kv.1
def kItems (kvs : List (Key × D)) : List D := kvs.map fun kv => .tup [keyD kv.1, kv.2]
def kVals (kvs : List (Key × D)) : List D := kvs.map fun kv => kv.2
def iFrz (a : List (Key × D) → List D) (f : F) : FI := fun env st => (f env st).bind fun p => (frzAt p.1 p.2).map fun kvs => (a kvs, p.2)
/-- it stays -/
theorem frzRd {r : Rf} {H : Hp} {v : V} {d : D} {st : Store} {kvs : List (Key × D)} (h : Rep K r H v d) (si : Sim K r H st) (e : frzAt d st = some kvs) : ∃ a o xs, v = .ref a ∧ RepK K r H xs kvs ∧ H a = some (.frz o (.dK xs)) ∧ ∀ r' H', Ext r H r' H' → H' a = some (.frz o (.dK xs)) := by
  unfold frzAt at e
  split at e
  · cases e
    cases h with
    | dct a b c => exact ⟨_, _, _, rfl, c, a, fun r' H' x => x.keep _ _ a b⟩
  · rename_i n
    obtain ⟨a, rfl, ha⟩ := h.refI
    obtain ⟨av, lk, o, xs, hx, l⟩ := si.ob n a _ ha (ldcAt_some e)
    exact ⟨a, o, xs, rfl, l, hx, fun r' H' x => by rw [x.hd.lks a lk]; exact hx⟩
  · cases e
theorem di_keysF {tg iter : Expr} {f : F} (h : DE X iter f) : DI X tg iter (iFrz kKeys f) := weakI (pi_keys h) fun σ H R hh => by
  obtain ⟨r, env, st, ds, st', he, hs, hf, q⟩ := hh
  obtain ⟨⟨d, s1⟩, h1, h2⟩ := Option.bind_eq_some_iff.mp hf
  obtain ⟨kvs, h3, h4⟩ := Option.map_eq_some_iff.mp h2
  cases h4
  refine ⟨r, env, st, d, _, he, hs, h1, fun v r1 H1 e1 q1 p1 => ?_⟩
  obtain ⟨a, o, xs, rfl, c, hx, stay⟩ := frzRd p1 q1 h3
  refine ⟨a, o, rfl, .inl ⟨xs, hx, q _ r1 H1 e1 q1 fun r2 H2 st2 e2 s2 => ?_⟩⟩
  have a2 := stay r2 H2 e2
  refine ⟨fun i hi => ⟨a2, by rw [c.len]; simpa [kKeys] using hi⟩, fun i d hd => ?_⟩
  unfold kKeys at hd
  rw [List.getElem?_map] at hd
  obtain ⟨⟨k, e⟩, hk, rfl⟩ := Option.map_eq_some_iff.mp hd
  obtain ⟨v, hv, rv⟩ := c.get hk
  refine ⟨⟨a2, (List.getElem?_eq_some_iff.mp hv).1⟩, fun x H3 ⟨eH, k', v', hk', ex⟩ => ?_⟩
  subst eH
  rw [hv] at hk'
  cases hk'
  subst ex
  exact ⟨r2, .refl _ _, s2, keyD_rep k⟩
theorem di_itemsF {e : Expr} {f : F} {elts : List Expr} {kk : Nat} {tpos apos cpos : Pos} (h : DE X e f) (hbase : attributeBase e "items" X.env (eval e X.env) = eval e X.env := by rfl) (hline : (apos.endLine == cpos.line) = true := by rfl) :
    DIR X (RepI X.K) (.Tuple elts kk tpos) (.Call (.Attribute e "items" apos) [] [] cpos) (iFrz kItems f) := weakI (pi_items h hbase hline) fun σ H R hh => by
  obtain ⟨r, env, st, ds, st', he, hs, hf, q⟩ := hh
  obtain ⟨⟨d, s1⟩, h1, h2⟩ := Option.bind_eq_some_iff.mp hf
  obtain ⟨kvs, h3, h4⟩ := Option.map_eq_some_iff.mp h2
  cases h4
  refine ⟨r, env, st, d, _, he, hs, h1, fun v r1 H1 e1 q1 p1 => ?_⟩
  obtain ⟨a, o, xs, rfl, c, hx, stay⟩ := frzRd p1 q1 h3
  refine ⟨a, o, xs, rfl, hx, q _ r1 H1 e1 q1 fun r2 H2 st2 e2 s2 => ?_⟩
  have a2 := stay r2 H2 e2
  have c2 := c.ext e2
  refine ⟨fun i hi => ⟨a2, by rw [c.len]; simpa [kItems] using hi⟩, fun i d hd => ?_⟩
  unfold kItems at hd
  rw [List.getElem?_map] at hd
  obtain ⟨⟨k, e⟩, hk, rfl⟩ := Option.map_eq_some_iff.mp hd
  obtain ⟨v, hv, rv⟩ := c2.get hk
  refine ⟨⟨a2, (List.getElem?_eq_some_iff.mp hv).1⟩, fun x H3 ⟨T, k', v', hk', ex, hT, eH⟩ => ?_⟩
  subst eH
  rw [hv] at hk'
  cases hk'
  subst ex
  have sm : Same H2 (upd H2 T (.tup [kV k, v])) := same_alloc hT
  exact ⟨r2, s2.ext sm, s2.same sm, T, _, _, rfl, rfl, .inl (.inl upd_same), .cons (keyD_rep k) (.cons (rv.ext (s2.ext sm)) .nil)⟩
theorem di_valsF {tg e : Expr} {f : F} {apos cpos : Pos} (h : DE X e f) (hbase : attributeBase e "values" X.env (eval e X.env) = eval e X.env := by rfl) (hline : (apos.endLine == cpos.line) = true := by rfl) :
    DI X tg (.Call (.Attribute e "values" apos) [] [] cpos) (iFrz kVals f) := weakI (pi_values h hbase hline) fun σ H R hh => by
  obtain ⟨r, env, st, ds, st', he, hs, hf, q⟩ := hh
  obtain ⟨⟨d, s1⟩, h1, h2⟩ := Option.bind_eq_some_iff.mp hf
  obtain ⟨kvs, h3, h4⟩ := Option.map_eq_some_iff.mp h2
  cases h4
  refine ⟨r, env, st, d, _, he, hs, h1, fun v r1 H1 e1 q1 p1 => ?_⟩
  obtain ⟨a, o, xs, rfl, c, hx, stay⟩ := frzRd p1 q1 h3
  refine ⟨a, o, xs, rfl, hx, q _ r1 H1 e1 q1 fun r2 H2 st2 e2 s2 => ?_⟩
  have a2 := stay r2 H2 e2
  have c2 := c.ext e2
  refine ⟨fun i hi => ⟨a2, by rw [c.len]; simpa [kVals] using hi⟩, fun i d hd => ?_⟩
  unfold kVals at hd
  rw [List.getElem?_map] at hd
  obtain ⟨⟨k, e⟩, hk, rfl⟩ := Option.map_eq_some_iff.mp hd
  obtain ⟨v, hv, rv⟩ := c2.get hk
  refine ⟨⟨a2, (List.getElem?_eq_some_iff.mp hv).1⟩, fun x H3 ⟨eH, k', hk'⟩ => ?_⟩
  subst eH
  rw [hv] at hk'
  cases hk'
  exact ⟨r2, .refl _ _, s2, rv⟩
end
end DL
/-! {k: v for x in xs if ..}: a new dict of the store. -/
namespace DL
open PySem PySem.Spec PyProof.Rows L2
variable {K : PySem.W.Frag}
def loopD (is : List Nat) (bd : FB) (t : FT) (fk fv : F) : List D → List (Key × D) → Lo → Store → Option (List (Key × D) × Store)
  | [], acc, _, st => some (acc, st)
  | d :: ds, acc, env, st => (bd d).bind fun vs => (t (setL is vs env) st).bind fun p => if p.1 = true then (fk (setL is vs env) p.2).bind fun k => (asKey k.1).bind fun kk => (fv (setL is vs env) k.2).bind fun v =>
      if acc.length < sizeLine then loopD is bd t fk fv ds (putD acc kk v.1) env v.2 else none
    else loopD is bd t fk fv ds acc env p.2
def fDComp (fi : FI) (is : List Nat) (bd : FB) (t : FT) (fk fv : F) : F := fun env st => (fi env st).bind fun p => (loopD is bd t fk fv p.1 [] (wipeL env is) p.2).map fun q => (.ref q.2.length, q.2 ++ [.dct q.1])
theorem upd_self {H : Hp} {p : Addr} {o : HO} (h : H p = some o) : upd H p o = H := by
  funext b
  by_cases z : b = p
  · rw [z, upd_same, h]
  · rw [upd_ne z]
theorem dcompReads {RR : RD} {fi : FI} {is : List Nat} {bd : FB} {g : TG} {t : FT} {fk fv : F} (hg : TgOkR K RR g is bd) (σ : L2.St) (H : Hp) (Q : VK) (hh : tD K (fDComp fi is bd t fk fv) σ H Q) : tDc (tIR K RR fi) g (tT K t) (tD K fk) (tD K fv) is σ H Q := by
  obtain ⟨r, env, st, d, st', he, hs, hf, q⟩ := hh
  obtain ⟨⟨ds, s1⟩, h1, h2⟩ := Option.bind_eq_some_iff.mp hf
  obtain ⟨⟨zs, s2⟩, h3, h4⟩ := Option.map_eq_some_iff.mp h2
  cases h4
  refine ⟨r, env, st, ds, s1, he, hs, h1, fun J r1 H1 e1 q1 j1 Dl hD => ?_⟩
  have m0 := Mkg.start (o := .dK []) q1 hD
  refine ⟨fun k m H2 => m = ds.length - k ∧ k ≤ ds.length ∧ ∃ r2 st2 acc us, Mkg K r1 H1 Dl r2 H2 st2 ∧ EnvR K r2 H2 (DL.wipeL env is) (wipe σ is) ∧ H2 Dl = some (.dK us) ∧ RepK K r2 H2 us acc ∧
    loopD is bd t fk fv (ds.drop k) acc (DL.wipeL env is) st2 = some (zs, s2), ⟨_, rfl, Nat.zero_le _, r1.hide Dl, s1, [], [], m0, ((he.ext e1).ext m0.ex).wipeL is, upd_same, .nil, h3⟩, ?_⟩
  rintro k m H2 ⟨rfl, hk, r2, st2, acc, us, mk, wp, hus, racc, hl⟩
  obtain ⟨jst, jgo⟩ := j1 r2 H2 st2 mk.ex mk.sim
  by_cases hlt : k < ds.length
  case neg =>
    have e : k = ds.length := by omega
    subst e
    rw [List.drop_length] at hl
    cases hl
    have hid : Hid K r2 H2 s2 Dl := ⟨mk.av, mk.na, mk.nl, mk.sim⟩
    have us2 := upd_self hus
    have exa : Ex r2 H2 (r2.add Dl) (upd H2 Dl (.dK us)) := ⟨⟨[Dl], rfl⟩, fun q x z n => by rw [us2]; exact z, fun q z n => absurd z n⟩
    obtain ⟨w1, w2, w3⟩ := hid.add (o := .dK us) (ob := .dct zs) mk.ex q1 hD ⟨hid.av, us, upd_same, racc.ex exa⟩
    rw [us2] at w1 w2 w3
    exact .inl ⟨jst _ (Nat.le_refl _), q (.ref Dl) _ H2 (e1.trans w1) w2 (w3 _ rfl)⟩
  case pos =>
    have hd : ds[k]? = some ds[k] := List.getElem?_eq_getElem hlt
    rw [List.drop_eq_getElem_cons hlt] at hl
    obtain ⟨vals, hv, hl1⟩ := Option.bind_eq_some_iff.mp hl
    obtain ⟨⟨b, st3⟩, hb, hl2⟩ := Option.bind_eq_some_iff.mp hl1
    obtain ⟨j2, j3⟩ := jgo k _ hd
    refine .inr ⟨j2, fun H' => k + 1 ≤ ds.length ∧ ∃ r2 st2 acc us, Mkg K r1 H1 Dl r2 H' st2 ∧ EnvR K r2 H' (DL.wipeL env is) (wipe σ is) ∧ H' Dl = some (.dK us) ∧ RepK K r2 H' us acc ∧
      loopD is bd t fk fv (ds.drop (k + 1)) acc (DL.wipeL env is) st2 = some (zs, s2), fun H' ⟨hk', w⟩ => ⟨ds.length - (k + 1), by omega, rfl, hk', w⟩, fun x H3 y => ?_⟩
    obtain ⟨r3, e3, s3, rx⟩ := j3 x H3 y
    have wp3 := wp.ext e3
    refine hg r3 H3 x _ _ _ vals rx hv fun vs rvs => ⟨wipe_setL σ is vs, ?_⟩
    have he3 : EnvR K r3 H3 (DL.setL is vals (DL.wipeL env is)) (DL.setL is vs (wipe σ is)) := wp3.setL rvs
    refine ⟨r3, _, st2, b, st3, he3, s3, hb, fun r4 H4 e4 s4 => ?_⟩
    cases b with
    | false =>
      rw [if_neg Bool.false_ne_true] at hl2 ⊢
      obtain ⟨m4, k4⟩ := mk.step (e3.trans e4) s4
      exact ⟨hlt, r4, st3, acc, us, m4, wp3.ext e4, k4.trans hus, racc.ext (e3.trans e4), hl2⟩
    | true =>
      rw [if_pos rfl] at hl2 ⊢
      obtain ⟨⟨kd, st4⟩, hkd, hl3⟩ := Option.bind_eq_some_iff.mp hl2
      obtain ⟨kk, hkk, hl4⟩ := Option.bind_eq_some_iff.mp hl3
      obtain ⟨⟨vd, st5⟩, hvd, hl5⟩ := Option.bind_eq_some_iff.mp hl4
      by_cases hz : acc.length < sizeLine
      case neg => rw [if_neg hz] at hl5; cases hl5
      rw [if_pos hz] at hl5
      refine ⟨r4, _, st3, kd, st4, he3.ext e4, s4, hkd, fun kv r5 H5 e5 s5 rk => ⟨r5, _, st4, vd, st5, (he3.ext e4).ext e5, s5, hvd, fun vv r6 H6 e6 s6 rv => ?_⟩⟩
      have e26 : Ext r2 H2 r6 H6 := ((e3.trans e4).trans e5).trans e6
      obtain ⟨m6, k6⟩ := mk.step e26 s6
      obtain ⟨m7, g1⟩ := m6.put q1 hD (.dK (putK us kk vv))
      refine ⟨us, kk, asKey_rep rk hkk, k6.trans hus, by rw [racc.len]; exact hz, hlt, r6, st5, putD acc kk vd, putK us kk vv, m7, (((wp3.ext e4).ext e5).ext e6).exx g1, upd_same, ((racc.ext e26).ex g1).put (rv.ex g1), hl5⟩
section
variable {X : Cx} {W : WXd} {tg iter : Expr}
theorem de_dc {RR : RD} {kx vx : Expr} {ifs : List Expr} {scope : Scope} {own : List (Str × Nat)} {pos : Pos} {fi : FI} {bd : FB} {g : TG} {t : FT} {fk fv : F} (hc : X.calm = true) (hN : X.N.Nodup) (hi : DIR X RR tg iter fi) (ok : BlkOk X.N X.env.scope scope own)
    (tk : TgOkR X.K RR g (own.map (·.2)) bd)
    (hg : ∀ (s : Shared) (H : Hp) (C : Addr) (cl : List (Str × Addr)) (fp : List Addr), PG (X.blk s H scope (compEnvC scope cl C X.env) fp) tg g) (ht : ∀ (s : Shared) (H : Hp) (C : Addr) (cl : List (Str × Addr)) (fp : List Addr), DTs (X.blk s H scope (compEnvC scope cl C X.env) fp) ifs t)
    (hk : ∀ (s : Shared) (H : Hp) (C : Addr) (cl : List (Str × Addr)) (fp : List Addr), DE (X.blk s H scope (compEnvC scope cl C X.env) fp) kx fk)
    (he : ∀ (s : Shared) (H : Hp) (C : Addr) (cl : List (Str × Addr)) (fp : List Addr), DE (X.blk s H scope (compEnvC scope cl C X.env) fp) vx fv) (hs : ∀ x, foldedSetIterable iter X.env x = pure x := by intro _; rfl) :
    DE X (.DictComp kx vx [⟨tg, iter, ifs, 0⟩] scope pos) (fDComp fi (own.map (·.2)) bd t fk fv) := weakE (pe_dc hc hN hi ok hg ht hk he hs) fun σ H Q hh => dcompReads tk σ H Q hh
theorem ps_setDc {i : Nat} {y : Str} {py : Pos} {kx vx tg iter : Expr} {ifs : List Expr} {scope : Scope} {own : List (Str × Nat)} {pos spos : Pos} {wi : TI} {g : TG} {tt : TT} {tk te : TE} (hc : X.calm = true) (hN : X.N.Nodup) (hy : X.N[i]? = some y) (hyl : X.env.scope.names.lookup y = some .local)
    (hsw : swapsWith (.DictComp kx vx [⟨tg, iter, ifs, 0⟩] scope pos) (some (.Name y py)) spos.line X.env = pure true) (hi : PI X tg iter wi) (ok : BlkOk X.N X.env.scope scope own)
    (hg : ∀ (s : Shared) (H : Hp) (C : Addr) (cl : List (Str × Addr)) (fp : List Addr), PG (X.blk s H scope (compEnvC scope cl C X.env) fp) tg g) (ht : ∀ (s : Shared) (H : Hp) (C : Addr) (cl : List (Str × Addr)) (fp : List Addr), PTs (X.blk s H scope (compEnvC scope cl C X.env) fp) ifs tt)
    (hk : ∀ (s : Shared) (H : Hp) (C : Addr) (cl : List (Str × Addr)) (fp : List Addr), PE (X.blk s H scope (compEnvC scope cl C X.env) fp) kx tk)
    (he : ∀ (s : Shared) (H : Hp) (C : Addr) (cl : List (Str × Addr)) (fp : List Addr), PE (X.blk s H scope (compEnvC scope cl C X.env) fp) vx te) (hs : ∀ x, foldedSetIterable iter X.env x = pure x := by intro _; rfl) :
    PS X (.Assign [.Name y py] (.DictComp kx vx [⟨tg, iter, ifs, 0⟩] scope pos) spos) (tAsg (tDc wi g tt tk te (own.map (·.2))) (gName i)) := by
  refine ⟨fun pins s σ H D I h => ?_⟩
  rw [exec_Assign_Name_used _ _ _ _ hsw]
  refine wpAny_bind (wpAny_standAt (wpAny_bind ?_))
  show wpAny _ X.A (do let _ ← comprehension (.DictComp kx vx [⟨tg, iter, ifs, 0⟩] scope pos) scope X.env (firstIterPos [⟨tg, iter, ifs, 0⟩] pos) newDict false (eval iter X.env) (some (assign (.Name y py) X.env))) _ _ s
  have h : tDc wi g tt tk te (own.map (·.2)) σ H (fun x H1 => gName i x σ H1 D.nx) := h
  refine wpAny_bind (thn (dc_core (Qf := fun _ s' => SP X pins D .next s') hc hN I hi ok hg ht hk he hs h fun L C s' m H' I' q hn f => ?_) fun _ s' hq => wpAny_pure (wpAny_pure hq))
  show wpAny _ _ (assign (.Name y py) X.env (.ref L)) _ _ _
  refine wpAny_assign_Name (store_ok2 (v := V.ref L) I' hN hy (.inl hyl) rfl (fun s2 I2 ⟨a, sb, ha⟩ => ?_) (.inr hyl))
  obtain ⟨f0, f1, f2, f3, f4, f5⟩ := f
  have haC : C ≠ a := by
    rcases ha with z | z
    · rw [z]; exact f1
    · exact fun e => f4 y a z e.symm
  refine ⟨m, hn.sameBut sb haC, fun h3 sb3 => ?_⟩
  exact ⟨_, H', I2.turned (t' := s2.toks) (fun b o hb e => (sb3.2 b hb).trans e) f0 f1 f3 f4 f5, q⟩
theorem sw_trueD {kx vx : Expr} {gs : List Comprehension} {scope : Scope} {pos py : Pos} {y : Str} {l : Nat} {env : Env} (hk : env.scope.kind = .function) (hy : env.scope.names.lookup y = some .local) (hl : (py.line == pos.line) = true)
    (ha : (scope.names.any fun (n, k) => n == y && (k == .local || k == .cell)) = false) : swapsWith (.DictComp kx vx gs scope pos) (some (.Name y py)) l env = pure true := by
  have ky : env.kindOf y = some .local := hy
  have hb : env.blockKind = .function := by unfold Env.blockKind; rw [hk]; rfl
  unfold swapsWith
  simp only [hb, ky, ha, Expr.pos, hl]
  rfl
theorem ds_setDc {RR : RD} {i : Nat} {y : Str} {py : Pos} {kx vx : Expr} {ifs : List Expr} {scope : Scope} {own : List (Str × Nat)} {pos spos : Pos} {fi : FI} {bd : FB} {g : TG} {t : FT} {fk fv : F} (hc : X.calm = true) (hN : X.N.Nodup) (hy : X.N[i]? = some y) (hyl : X.env.scope.names.lookup y = some .local)
    (hsw : swapsWith (.DictComp kx vx [⟨tg, iter, ifs, 0⟩] scope pos) (some (.Name y py)) spos.line X.env = pure true) (hi : DIR X RR tg iter fi) (ok : BlkOk X.N X.env.scope scope own)
    (tk : TgOkR X.K RR g (own.map (·.2)) bd)
    (hg : ∀ (s : Shared) (H : Hp) (C : Addr) (cl : List (Str × Addr)) (fp : List Addr), PG (X.blk s H scope (compEnvC scope cl C X.env) fp) tg g) (ht : ∀ (s : Shared) (H : Hp) (C : Addr) (cl : List (Str × Addr)) (fp : List Addr), DTs (X.blk s H scope (compEnvC scope cl C X.env) fp) ifs t)
    (hk : ∀ (s : Shared) (H : Hp) (C : Addr) (cl : List (Str × Addr)) (fp : List Addr), DE (X.blk s H scope (compEnvC scope cl C X.env) fp) kx fk)
    (he : ∀ (s : Shared) (H : Hp) (C : Addr) (cl : List (Str × Addr)) (fp : List Addr), DE (X.blk s H scope (compEnvC scope cl C X.env) fp) vx fv) (hs : ∀ x, foldedSetIterable iter X.env x = pure x := by intro _; rfl) :
    DS X W (.Assign [.Name y py] (.DictComp kx vx [⟨tg, iter, ifs, 0⟩] scope pos) spos) (sAsg (fDComp fi (own.map (·.2)) bd t fk fv) (gN i)) := weakS (ps_setDc hc hN hy hyl hsw hi ok hg ht hk he hs) fun D' σ H hh => by
  obtain ⟨r, env, st, o, env', st', he, hs, hf, q⟩ := hh
  obtain ⟨⟨d, s1⟩, h1, h2⟩ := Option.bind_eq_some_iff.mp hf
  obtain ⟨e1, h3, h4⟩ := Option.map_eq_some_iff.mp h2
  cases h4
  cases h3
  exact dcompReads tk σ H _ ⟨r, env, st, d, _, he, hs, h1, fun v r1 H1 x1 q1 p1 => q _ r1 H1 x1 ((he.ext x1).set p1 i) q1⟩
end
end DL
/-! len(set(t)) of a tuple of texts. -/
namespace DL
open PySem PySem.Spec PyProof.Rows L2
/-- how many different ones stand before place i -/
def cntS (xs : List Str) : Nat → Nat
  | 0 => 0
  | i + 1 => if xs.getD i Str.empty ∈ xs.take i then cntS xs i else cntS xs i + 1
theorem cntS_le (xs : List Str) : ∀ i, cntS xs i ≤ i
  | 0 => Nat.le_refl _
  | i + 1 => by
    have := cntS_le xs i
    unfold cntS
    split <;> omega
theorem cntS_all {xs : List Str} : ∀ {i : Nat}, i ≤ xs.length → (cntS xs i = i ↔ (xs.take i).Nodup)
  | 0, _ => by simp [cntS]
  | i + 1, h => by
    have hi : i < xs.length := h
    have ih := cntS_all (xs := xs) (i := i) (Nat.le_of_lt hi)
    have le := cntS_le xs i
    have e : xs.getD i Str.empty = xs[i] := by rw [List.getD_eq_getElem?_getD, List.getElem?_eq_getElem hi]; rfl
    rw [List.take_add_one, List.getElem?_eq_getElem hi]
    unfold cntS
    rw [e]
    by_cases m : xs[i] ∈ xs.take i
    · rw [if_pos m]
      refine ⟨fun h => by omega, fun h => ?_⟩
      exact absurd rfl ((List.nodup_append.mp h).2.2 _ m _ (by simp))
    · rw [if_neg m]
      refine ⟨fun h => ?_, fun h => ?_⟩
      · refine List.nodup_append.mpr ⟨ih.mp (by omega), by simp, fun a ha b hb => ?_⟩
        simp at hb
        subst hb
        exact fun e => m (e ▸ ha)
      · have := ih.mpr (List.nodup_append.mp h).1
        omega
theorem cntS_nodup (xs : List Str) : cntS xs xs.length = xs.length ↔ xs.Nodup := by
  have := cntS_all (xs := xs) (Nat.le_refl _)
  rwa [List.take_length] at this
section
variable {prog : Program} {w : World} {A : Around} {R : Result → Shared → Prop} {I : Addr} {fp wr : List Addr} {G : Array GenState → Array GenState → Prop} {n : Nat} {P : Nat → Value → Prop} {St : Nat → Shared → Prop}
theorem loopSt (W : WalksS prog w A.in1 I fp wr G n P St) (S : Addr) (hSf : S ∉ fp) (xs : List Str) (hsz : xs.length = n) (hb : xs.length + 1 < scanBound)
    (hval : ∀ i v, P i v → ∃ t, v = .str (xs.getD i Str.empty) t) :
    ∀ (k i : Nat) (s : Shared), n - i = k → i ≤ n → St i s →
      s.heap.SetOf (PySem.strKind prog w) S (fun j => decide (j ∈ xs.take i)) (cntS xs i) →
      (∀ s', Moved (S :: wr) G s s' → s'.heap.SetOf (PySem.strKind prog w) S (fun j => decide (j ∈ xs)) (cntS xs n) → R (.ok (.ret .none)) s') →
      codeAny (model prog w) A (.builtin "set.update.loop" ⟨[.ref S, .ref I], []⟩) R s := by
  have hSw : S ∉ wr := fun h => hSf (W.sub _ h)
  have hsub : ∀ b ∈ wr, b ∈ S :: wr := fun b hb => List.mem_cons_of_mem _ hb
  intro k
  induction k with
  | zero =>
    intro i s hk hi hst hS hR
    have hin : i = n := by omega
    subst hin
    refine codeAny_builtin PyProof.Rows.F.entry_set_update_loop ?_
    rw [Around.under_plainId PyProof.Rows.F.plain_set_update_loop _]
    show wpAny _ A.in1 (pyNext (.ref I) >>= _) _ _ s
    refine wpAny_bind (W.done s _ _ hst fun s' hm => ?_)
    show wpAny _ A.in1 (ret Value.none) _ _ s'
    have e : xs.take i = xs := List.take_of_length_le (by omega)
    rw [e] at hS
    exact wpAny_pure (hR s' (hm.mono hsub) (by
      obtain ⟨o, es, ep, t, ho, rest⟩ := hS
      exact ⟨o, es, ep, t, hm.heap S _ hSw ho, rest⟩))
  | succ k ih =>
    intro i s hk hi hst hS hR
    have hlt : i < n := by omega
    refine codeAny_builtin PyProof.Rows.F.entry_set_update_loop ?_
    rw [Around.under_plainId PyProof.Rows.F.plain_set_update_loop _]
    show wpAny _ A.in1 (pyNext (.ref I) >>= _) _ _ s
    refine wpAny_bind (W.item i s _ _ hlt hst fun v s' hP hst' hm => ?_)
    obtain ⟨t, rfl⟩ := hval i v hP
    have hS' : s'.heap.SetOf (PySem.strKind prog w) S (fun j => decide (j ∈ xs.take i)) (cntS xs i) := by
      obtain ⟨o, es, ep, tb, ho, rest⟩ := hS
      exact ⟨o, es, ep, tb, hm.heap S _ hSw ho, rest⟩
    show wpAny _ A.in1 (holding [Value.str (xs.getD i Str.empty) t] (setAdd S (.str (xs.getD i Str.empty) t)) >>= _) _ _ s'
    refine wpAny_bind (wpAny_holding ?_)
    unfold setAdd
    refine wpAny_holding ?_
    have hle := cntS_le xs i
    refine wpAny_bind ((PySem.strKind prog w).pyHash (k := xs.getD i Str.empty) (strKind_is _ _ _ _) ?_)
    refine wpAny_setAddHashed_of (knd := PySem.strKind prog w) (s := { s' with toks := s'.toks + 1 }) (strKind_is _ _ _ _) rfl hS' (by omega) fun h' hsb hS2 => ?_
    have hSi : h'.SetOf (PySem.strKind prog w) S (fun j => decide (j ∈ xs.take (i + 1))) (cntS xs (i + 1)) := by
      refine SetOf_congr hS2 (fun j => ?_) ?_
      · have hil : i < xs.length := by omega
        have e : xs.getD i Str.empty = xs[i] := by rw [List.getD_eq_getElem?_getD, List.getElem?_eq_getElem hil]; rfl
        have m : j ∈ xs.take (i + 1) ↔ (j ∈ xs.take i ∨ j = xs[i]) := by
          rw [List.take_add_one, List.getElem?_eq_getElem hil, List.mem_append]
          simp
        rw [e, decide_eq_decide.mpr m, Bool.decide_or]
      · show (if decide (xs.getD i Str.empty ∈ xs.take i) = true then cntS xs i else cntS xs i + 1) = cntS xs (i + 1)
        simp [cntS]
    refine wpAny_pure ⟨plainId_quiet PyProof.Rows.F.plain_set_update_loop _, ih (i + 1) _ (by omega) hlt (W.frame _ s' _ _ hst' (Nat.le_succ _) fun b hb o e => ?_) hSi fun s'' hm'' hS'' => ?_⟩
    · rw [hsb.2 b (fun h : b = S => hSf (by rw [← h]; exact hb))]; exact e
    · refine hR s'' (Moved.trans W.gtrans ((hm.mono hsub).then_heap (Nat.le_succ _) fun b o hb e => ?_) hm'') hS''
      rw [hsb.2 b (fun h : b = S => hb (by rw [h]; exact List.mem_cons_self))]; exact e
end
section
variable {prog : Program} {w : World} {A : Around} {E : Value → Shared → Prop} {s : Shared}
set_option maxHeartbeats 3200000 in
theorem call_set_tupSt {l : Addr} {items : Array Value} {xs : List Str} {Q : Value → Shared → Prop}
    (hh : A.handled = none) (hl : s.heap.IsTuple l items) (hi : PyProof.Rows.StrsAre items.toList xs) (hn1 : xs.length + 1 < scanBound)
    (h : ∀ (h' : Heap) (tk : Nat), h'.SetOf (PySem.strKind prog w) s.heap.objs.size (fun j => decide (j ∈ xs)) (cntS xs xs.length) →
      (∀ b o, b < s.heap.objs.size → s.heap.get? b = some o → h'.get? b = some o) → Q (.ref s.heap.objs.size) { s with heap := h', toks := tk }) :
    wpAny (model prog w) A (call (.type "set") [.ref l]) Q E s := by
  obtain ⟨c, tl, hmro⟩ := PySem.F.called_set.mro
  have hmade := PySem.F.called_set.made
  have hsub := PySem.F.called_set.sub
  refine wpAny_call (codeAny_of_tree ?_)
  show wpAny _ _ (callAny (.type "set") _) _ _ _
  refine wpAny_pure ⟨Code.quiet_builtin _ (by decide +kernel), codeAny_builtin PySem.F.entry_type_call ?_⟩
  rw [Around.under_plain (weight_type_call_type "set" [.ref l] []) rfl]
  have h1 := PySem.F.called_set.notType
  have h2 := PySem.F.called_set.canCreate
  have hct := PySem.F.typeCall_set_1 (.ref l)
  repeat (any_goals (first | assumption | wp_step))

  refine codeAny_mono (code_set_new_1 (.ref l) (E := E) (Q₁ := fun obj s₁ => ∃ led : Bool, obj = .ref s.heap.objs.size ∧ s₁ = { s with heap := s.heap.push { cls := .type "set", dict := none, data := .set #[] 0 (.fresh 0 0 led) } }) fun led => ⟨led, rfl, rfl⟩) fun r s₁ hr => ?_
  cases r with
  | error e => exact hr
  | ok fl =>
    cases fl with
    | ret obj =>
      obtain ⟨led, rfl, rfl⟩ := hr
      have hS : (s.heap.push { cls := .type "set", dict := none, data := .set #[] 0 (.fresh 0 0 led) }).get? s.heap.objs.size = some { cls := .type "set", dict := none, data := .set #[] 0 (.fresh 0 0 led) } := Heap.get?_push_size _ rfl
      have hT : Shared.TypeIs { s with heap := s.heap.push { cls := .type "set", dict := none, data := .set #[] 0 (.fresh 0 0 led) } } (.ref s.heap.objs.size) "set" := ⟨_, hS, rfl⟩
      have hli := PySem.F.called_set.init.lookup
      have hbi := PySem.F.called_set.init.bind (.ref s.heap.objs.size)
      repeat (any_goals (first | assumption | wp_step))

      refine codeAny_mono (codeAny_call_builtin (R := wants (fun r s₂ => r = .none ∧ ∃ h' tk, s₂ = { s with heap := h', toks := tk } ∧
          h'.SetOf (PySem.strKind prog w) s.heap.objs.size (fun j => decide (j ∈ xs)) (cntS xs xs.length) ∧
          (∀ b o, b < s.heap.objs.size → s.heap.get? b = some o → h'.get? b = some o)) E) PySem.F.called_set.init.plain PySem.F.entry_set_init (check_set_init_1 hT ?_)) fun r₂ s₂ hr₂ => ?_
      · obtain ⟨ol, hol, hcl, nl, hdl⟩ := hl
        obtain ⟨ocls, odict, odata, oslots⟩ := ol
        simp only at hcl hdl
        subst hcl; subst hdl
        have hol' : (s.heap.push { cls := .type "set", dict := none, data := .set #[] 0 (.fresh 0 0 led) }).get? l = some { cls := .type "tuple", dict := odict, data := .seq items nl, slots := oslots } := Heap.get?_push_of_some _ hol
        have hsls := PySem.F.sub_tuple_set
        have hslf := PySem.F.sub_tuple_frozenset
        have hne : (Value.type "tuple" == Value.type "dict") = false := by decide
        have hl1 : (s.heap.push { cls := .type "set", dict := none, data := .set #[] 0 (.fresh 0 0 led) }).IsTuple l items := ⟨_, hol', rfl, nl, rfl⟩
        unfold Builtin.«set.__init__» noKeywords Builtin.Frozenset.updateFrom
        generalize hPI : pyIter = PI
        wp_walk
        subst hPI

        refine wpAny_pyIter_tuple hl1 ?_
        refine wpAny_bind (wpAny_runValue ?_)
        have hlS : l < s.heap.objs.size := Heap.lt_size hol
        have hh3 : A.in1.in1.in1.handled = none := by simp [hh]
        have hneI : l ≠ (s.heap.push { cls := .type "set", dict := none, data := .set #[] 0 (.fresh 0 0 led) }).objs.size := by
          rw [Heap.size_push]; exact Nat.ne_of_lt (Nat.lt_succ_of_lt hlS)
        have hSf : s.heap.objs.size ∉ [(s.heap.push { cls := .type "set", dict := none, data := .set #[] 0 (.fresh 0 0 led) }).objs.size, l] := by
          rw [Heap.size_push]; simp only [List.mem_cons, List.mem_singleton, List.not_mem_nil, or_false, not_or]
          exact ⟨Nat.ne_of_lt (Nat.lt_succ_self _), Nat.ne_of_gt hlS⟩
        have hsz : xs.length = items.size := by rw [← StrsAre.len_eq hi, Array.length_toList]
        have hval : ∀ (i : Nat) (v : Value), items[i]? = some v → ∃ t, v = .str (xs.getD i Str.empty) t := fun i v hv => SS.strs_at hi i v (by rw [Array.getElem?_toList]; exact hv)
        refine loopSt ((Walks.tuple hh3 _ l hneI items).toS) s.heap.objs.size
          hSf xs hsz hn1 hval (items.size - 0) 0 _ (by omega) (Nat.zero_le _)
          ⟨⟨_, Heap.get?_push_size _ rfl, rfl, rfl⟩, (hl1.push _)⟩ ?hS0 ?hR
        case hS0 =>
          have hget : ((s.heap.push { cls := .type "set", dict := none, data := .set #[] 0 (.fresh 0 0 led) }).push { cls := .type "tuple_iterator", data := .fields #[.ref l, .int 0 0] }).get? s.heap.objs.size
              = some { cls := .type "set", dict := none, data := .set #[] 0 (.fresh 0 0 led) } := Heap.get?_push_of_some _ hS
          exact PyProof.Rows.SetOf_congr ((PyProof.Rows.setObjOf_fresh (knd := PySem.strKind prog w) led).setOf hget (by unfold scanBound; omega)) (fun _ => by simp) rfl
        case hR =>
          intro s' hm hS'
          rw [← hsz] at hS'
          obtain ⟨h', g', d', tk', os'⟩ := s'
          have eg : g' = s.gens := hm.gens
          have ed : d' = s.drawn := hm.drawn
          have eo : os' = s.os := hm.os
          subst eg; subst ed; subst eo
          show wpAny _ _ _ _ _ _
          refine wpAny_pure ?_
          show wpAny _ _ (ret Value.none) _ _ _
          refine wpAny_pure ⟨rfl, h', tk', rfl, hS', fun b o hb e => ?_⟩
          have hb1 : b ≠ s.heap.objs.size := Nat.ne_of_lt hb
          have hb2 : b ≠ (s.heap.push { cls := .type "set", dict := none, data := .set #[] 0 (.fresh 0 0 led) }).objs.size := by
            rw [Heap.size_push]; exact Nat.ne_of_lt (Nat.lt_succ_of_lt hb)
          exact hm.heap b o (by simp only [List.mem_cons, List.mem_singleton, List.not_mem_nil, or_false, not_or]; exact ⟨hb1, hb2⟩) (Heap.get?_push_of_some _ (Heap.get?_push_of_some _ e))

      · cases r₂ with
        | error e => exact hr₂
        | ok fl₂ =>
          cases fl₂ with
          | ret r =>
            obtain ⟨rfl, h', tk, rfl, hS', hk'⟩ := hr₂
            repeat (any_goals (first | assumption | wp_step))
            exact h _ _ hS' hk'
          | _ => exact hr₂.elim
    | _ => exact hr.elim
end
section
variable {X : Cx}
def tLenSt (K : PySem.W.Frag) (ta : TE) : TE := fun σ H Q => ta σ H fun x H1 => ∃ l, ∃ xs : List Str, x = .ref l ∧ SqT K H1 l (xs.map V.str) ∧ xs.length < 1000 ∧ Q (.int (cntS xs xs.length)) H1
theorem pe_lenSt {a : Expr} {ta : TE} {p p2 q pos : Pos} (hc : X.calm = true) (hg : Gl X "len") (hm : X.mg "len" = none) (hg2 : Gl X "set") (hm2 : X.mg "set" = none) (ha : PE X a ta)
    (na : starEach [a] X.env = (false, eval a X.env) :: starEach [] X.env := by rfl) : PE X (.Call (.Name "len" p) [.Call (.Name "set" p2) [a] [] q] [] pos) (tLenSt X.K ta) := by
  refine ⟨fun pins s σ H Q I h => ?_⟩
  refine Call_ (ld_blt I hg hm boot_len ?_)
  refine PyProof.Rows.callWith_builtin1 (PyProof.Rows.args_cons ?_ rfl) rfl rfl
  refine Call_ (ld_blt I hg2 hm2 boot_set ?_)
  refine PyProof.Rows.callWith_type1 (PyProof.Rows.args_cons (thn (ha.run pins s σ H _ I h) fun v s1 ⟨x, H1, I1, r1, q1⟩ => PyProof.Rows.args_nil ?_) na) na rfl
  obtain ⟨l, xs, rfl, hq, h1, q1⟩ := q1
  cases r1
  obtain ⟨its, r, pl, hz⟩ := I1.tuple hq
  have hl : its.toArray.size = xs.length := by rw [List.size_toArray, ← r.length, List.length_map]
  have hle := cntS_le xs xs.length
  refine call_set_tupSt (I1.ok.hd hc) pl (xs := xs) (by simpa using strsAre_of r) (by unfold scanBound; omega) fun h' tk hS hk => ?_
  refine PyProof.Rows.args_nil ?_
  obtain ⟨o, es, ep, t, ho, hex, hd, _, _, _, hf, hn⟩ := hS
  have I2 : Inv X pins σ H1 { s1 with heap := h', toks := tk } := I1.kept fun b o e => hk b o (Heap.lt_size e) e
  refine call_len_set ho hex hd hf (by rw [hn]; omega) ⟨.int (cntS xs xs.length), H1, I2.tok _, ⟨_, by rw [hn]⟩, q1⟩
theorem strsD_eq' : ∀ {ds : List D} {ks : List Str}, strsD ds = some ks → ds = ks.map D.str
  | [], _, h => by cases h; rfl
  | .str k :: ds, _, h => by
    obtain ⟨l, h1, h2⟩ := Option.map_eq_some_iff.mp h
    subst h2
    rw [List.map_cons, ← strsD_eq' h1]
  | .non :: _, _, h => by cases h
  | .bl _ :: _, _, h => by cases h
  | .int _ :: _, _, h => by cases h
  | .tup _ :: _, _, h => by cases h
  | .lst _ :: _, _, h => by cases h
  | .dct _ :: _, _, h => by cases h
  | .scr _ :: _, _, h => by cases h
  | .ref _ :: _, _, h => by cases h
theorem RepL.strsV {r : Rf} {H : Hp} : ∀ {vs : List V} {ks : List Str}, RepL X.K r H vs (ks.map D.str) → vs = ks.map V.str
  | _, [], h => by cases h; rfl
  | _, k :: ks, h => by
    cases h with
    | cons a b =>
      cases a
      rw [RepL.strsV b]; rfl
def fLenSt (f : F) : F := fun env st => (f env st).bind fun p => match p.1 with
  | .tup ds => (strsD ds).bind fun xs => if xs.length < 1000 then some (.int (cntS xs xs.length), p.2) else none
  | _ => none
theorem de_lenSt {e : Expr} {f : F} {p p2 q pos : Pos} (hc : X.calm = true) (h : DE X e f) (hg : Gl X "len") (hm : X.mg "len" = none) (hg2 : Gl X "set") (hm2 : X.mg "set" = none)
    (na : starEach [e] X.env = (false, eval e X.env) :: starEach [] X.env := by rfl) : DE X (.Call (.Name "len" p) [.Call (.Name "set" p2) [e] [] q] [] pos) (fLenSt f) :=
  weakE (pe_lenSt hc hg hm hg2 hm2 h na) fun σ H Q hh => by
    obtain ⟨r, env, st, d, st', he, hs, hf, q⟩ := hh
    obtain ⟨⟨x, s1⟩, e1, e2⟩ := Option.bind_eq_some_iff.mp hf
    cases x with
    | tup ds =>
      obtain ⟨ks, e3, e4⟩ := Option.bind_eq_some_iff.mp (show ((strsD ds).bind fun xs => if xs.length < 1000 then some (D.int (cntS xs xs.length), s1) else none) = some (d, st') from e2)
      by_cases hz : ks.length < 1000
      case neg => rw [if_neg hz] at e4; cases e4
      rw [if_pos hz] at e4
      cases e4
      have ed := strsD_eq' e3
      subst ed
      refine ⟨r, env, st, .tup (ks.map .str), st', he, hs, e1, fun v r1 H1 x1 q1 p1 => ?_⟩
      obtain ⟨a, xs, rfl, sq, rl⟩ := p1.sqT
      rw [RepL.strsV rl] at sq
      exact ⟨a, ks, rfl, sq, hz, q _ r1 _ x1 q1 (.int _)⟩
    | _ => cases e2
end
end DL
/-! == and != of dicts, list(range(n)), sorted(set(xs)) of a list of ints, d.update(e). -/
namespace DL
open PySem PySem.Spec PyProof.Rows L2 L2.DX
variable {K : PySem.W.Frag}
def shB (p : PyData) : Bool := p.canLay0 && decide (p.depth ≤ 60)
def eqFl (a b : D) : Option Bool := (toPy a).bind fun p => (toPy b).bind fun q => if shB p = true ∧ shB q = true then some (PyData.eqv p q) else none
def eqGo (ls : List (Key × D)) : List (Key × D) → Option Bool
  | [] => some true
  | (k, v) :: r => match valD ls k with
    | none => some false
    | some y => (eqFl v y).bind fun b => (eqGo ls r).map fun c => b && c
def eqKv (ks ls : List (Key × D)) : Option Bool := if ks.length = ls.length then eqGo ls ks else some false
section
variable {X : Cx}
theorem eqFl_at {pins : List (Addr × Obj)} {σ : L2.St} {H : Hp} {s : Shared} {rho : Rf} {x y : V} {v u : Value} {a b : D} {k : Bool} {A : Around} (I : Inv X pins σ H s) (hu : A.units + 60 < cLine) (ra : Rep X.K rho H x a) (rb : Rep X.K rho H y b) (rx : RelV x v) (ry : RelV y u) (e : eqFl a b = some k) : SeqAt.EqAt A s v u k := by
  obtain ⟨p, h1, h2⟩ := Option.bind_eq_some_iff.mp e
  obtain ⟨q, h3, h4⟩ := Option.bind_eq_some_iff.mp h2
  by_cases z : shB p = true ∧ shB q = true
  case neg => rw [if_neg z] at h4; cases h4
  rw [if_pos z] at h4
  cases h4
  obtain ⟨as, r1⟩ := Dp.reads I p x v (ra.dp h1) rx
  obtain ⟨bs, r2⟩ := Dp.reads I q y u (rb.dp h3) ry
  have zp := Bool.and_eq_true_iff.mp z.1
  have zq := Bool.and_eq_true_iff.mp z.2
  have dp := of_decide_eq_true zp.2
  exact SeqAt.eqAt_reads p q A s v u as bs r1 r2 zp.1 zq.1 (by omega)
theorem hits_of {pins : List (Addr × Obj)} {σ : L2.St} {H : Hp} {s : Shared} {rho : Rf} {A : Around} (I : Inv X pins σ H s) (hu : A.units + 60 < cLine) {ls : List (Key × D)} {lv : List (Key × V)} {vb : List (Key × Value)} (rl : RepK X.K rho H lv ls) (rb : KV lv vb) :
    ∀ {ks : List (Key × D)} {kv : List (Key × V)} {va : List (Key × Value)} {b : Bool}, RepK X.K rho H kv ks → KV kv va → eqGo ls ks = some b → PySem.W.KeqHits A s vb va b
  | [], _, _, b, .nil, ra, e => by
    cases ra
    cases e
    exact .nil
  | (k, d) :: ks, _, _, b, .cons (v := v) rp rt, ra, e => by
    unfold KV at ra
    cases ra with
    | @cons _ q _ qs h t =>
      obtain ⟨h1, h2⟩ := h
      obtain ⟨key, w⟩ := q
      have h1' : k = key := h1
      subst h1'
      have e' : (match valD ls k with | none => some false | some y => (eqFl d y).bind fun b => (eqGo ls ks).map fun c => b && c) = some b := e
      rcases rl.opt (k := k) with ⟨e1, e2⟩ | ⟨y, yv, e1, e2, ry⟩
      · rw [e1] at e'
        cases e'
        have rr : RelO (none : Option V) (valueAt vb k) := by rw [← e2]; exact rb.val k
        exact .miss (by
          cases hq : valueAt vb k with
          | none => rfl
          | some _ => rw [hq] at rr; cases rr)
      · rw [e1] at e'
        obtain ⟨b1, g1, g2⟩ := Option.bind_eq_some_iff.mp (show (eqFl d y).bind (fun b => (eqGo ls ks).map fun c => b && c) = some b from e')
        obtain ⟨b2, g3, g4⟩ := Option.map_eq_some_iff.mp g2
        subst g4
        have rr : RelO (some yv) (valueAt vb k) := by rw [← e2]; exact rb.val k
        obtain ⟨yw, hy, rw'⟩ := rr.some_of
        exact .hit hy (eqFl_at I hu rp ry h2 rw' g1) (hits_of I hu rl rb rt t g3)
def rEqKv (K : PySem.W.Frag) (neg : Bool) : R2 := fun x y H Q => ∃ (rho : Rf) (a b : Addr) (kv lv : List (Key × V)) (ks ls : List (Key × D)) (k : Bool), x = .ref a ∧ y = .ref b ∧ Rd H a (.dK kv) ∧ Rd H b (.dK lv) ∧ RepK K rho H kv ks ∧ RepK K rho H lv ls ∧ eqKv ks ls = some k ∧ Q (.bl (if neg = true then !k else k)) H
theorem rd_ok {pins : List (Addr × Obj)} {σ : L2.St} {H : Hp} {s : Shared} {a : Addr} {kv : List (Key × V)} (I : Inv X pins σ H s) (h : Rd H a (.dK kv)) : ObjOk X.prog X.w H s.heap a (.dK kv) := by
  rcases h with h | ⟨o, h⟩
  · exact I.hok a _ h
  · exact (show ObjOk X.prog X.w H s.heap a (.dK kv) from (I.hok _ _ h).2)
theorem op_eqKv (neg : Bool) (hu : X.A.units + 64 < cLine) : OpR X (compareOp (if neg = true then .NotEq else .Eq)) (rEqKv X.K neg) := by
  intro pins s σ H x y v u Q I rx ry h
  obtain ⟨rho, a, b, kv, lv, ks, ls, k, rfl, rfl, ea, eb, ra, rb, e, q⟩ := h
  obtain rfl : v = Value.ref a := rx
  obtain rfl : u = Value.ref b := ry
  obtain ⟨_, ya, va, rva, da⟩ := rd_ok I ea
  obtain ⟨_, yb, vb, rvb, db⟩ := rd_ok I eb
  have la : va.length = ks.length := by rw [← rva.length, ra.len]
  have lb : vb.length = ls.length := by rw [← rvb.length, rb.len]
  have hA : X.A.in1.units + 60 < cLine := by show X.A.units + 1 + 60 < cLine; omega
  by_cases hl : ks.length = ls.length
  · have e' : eqGo ls ks = some k := by rw [eqKv, if_pos hl] at e; exact e
    have hits := hits_of (A := X.A.in1) I hA rb rvb ra rva e'
    have hz : (va.length == vb.length && k) = k := by rw [la, lb, hl]; simp
    cases neg with
    | false => exact PySem.W.keq_eq (knd := mixKind X.prog X.w) (r := k) ya yb da db (by omega) (fun _ => hits) (by rw [hz]; exact ⟨.bl k, H, I, rfl, q⟩)
    | true => exact PySem.W.keq_ne (knd := mixKind X.prog X.w) (r := k) ya yb da db (by omega) (fun _ => hits) (by rw [hz]; exact ⟨.bl (!k), H, I, rfl, q⟩)
  · have e' : k = false := by rw [eqKv, if_neg hl] at e; exact (Option.some.inj e).symm
    subst e'
    have hne : ¬ va.length = vb.length := by omega
    have hz : (va.length == vb.length && false) = false := by simp
    cases neg with
    | false => exact PySem.W.keq_eq (knd := mixKind X.prog X.w) (r := false) ya yb da db (by omega) (fun h => absurd h hne) (by rw [hz]; exact ⟨.bl false, H, I, rfl, q⟩)
    | true => exact PySem.W.keq_ne (knd := mixKind X.prog X.w) (r := false) ya yb da db (by omega) (fun h => absurd h hne) (by rw [hz]; exact ⟨.bl true, H, I, rfl, q⟩)
def fEqDt (neg : Bool) (fa fb : F) : F := fun env st => (fa env st).bind fun p => (fb env p.2).bind fun q => (dctAt p.1 q.2).bind fun x => (dctAt q.1 q.2).bind fun y => (eqKv x y).map fun k => (.bl (if neg = true then !k else k), q.2)
theorem eqDt_reads {neg : Bool} {fa fb : F} (σ : L2.St) (H : Hp) (Q : VK) (h : tD X.K (fEqDt neg fa fb) σ H Q) : tOp (rEqKv X.K neg) (tD X.K fa) (tD X.K fb) σ H Q := by
  obtain ⟨r, env, st, d, st', he, hs, hf, q⟩ := h
  obtain ⟨⟨x, s1⟩, h1, hf1⟩ := Option.bind_eq_some_iff.mp hf
  obtain ⟨⟨y, s2⟩, h2, hf2⟩ := Option.bind_eq_some_iff.mp hf1
  obtain ⟨px, h3, hf3⟩ := Option.bind_eq_some_iff.mp hf2
  obtain ⟨py, h4, hf4⟩ := Option.bind_eq_some_iff.mp hf3
  obtain ⟨k, h5, hf5⟩ := Option.map_eq_some_iff.mp hf4
  cases hf5
  refine two he hs h1 h2 fun u v r' H' e1 q1 pu pv => ?_
  obtain ⟨a, kv, rfl, da, ra⟩ := dctRd pu q1 h3
  obtain ⟨b, lv, rfl, db, rb⟩ := dctRd pv q1 h4
  exact ⟨r', a, b, kv, lv, px, py, k, rfl, rfl, da, db, ra, rb, h5, q _ r' H' e1 q1 (.bl _)⟩
theorem de_eqDt {a b : Expr} {fa fb : F} {pos : Pos} {k : Nat} (g : GX X k) (ha : DE X a fa) (hb : DE X b fb) (hm : behindInMarks .Eq b = false := by with_unfolding_all rfl) : DE X (.Compare a [.Eq] [b] pos) (fEqDt false fa fb) :=
  weakE (pe_cmpR (op_eqKv false g.room.units) ha hb hm) fun σ H Q h => eqDt_reads σ H Q h
theorem de_neDt {a b : Expr} {fa fb : F} {pos : Pos} {k : Nat} (g : GX X k) (ha : DE X a fa) (hb : DE X b fb) (hm : behindInMarks .NotEq b = false := by with_unfolding_all rfl) : DE X (.Compare a [.NotEq] [b] pos) (fEqDt true fa fb) :=
  weakE (pe_cmpR (op_eqKv true g.room.units) ha hb hm) fun σ H Q h => eqDt_reads σ H Q h
theorem dt_eqDt {a b : Expr} {fa fb : F} {pos : Pos} {k : Nat} (g : GX X k) (ha : DE X a fa) (hb : DE X b fb) (hm : behindInMarks .Eq b = false := by with_unfolding_all rfl) : DT X (.Compare a [.Eq] [b] pos) (fTest (fEqDt false fa fb)) :=
  weakT (pt_cmpR (op_eqKv false g.room.units) ha hb hm) fun σ H Q h => eqDt_reads σ H (fun x H1 => ∃ c, x = .bl c ∧ Q c H1) (testReads σ H Q h)
theorem dt_neDt {a b : Expr} {fa fb : F} {pos : Pos} {k : Nat} (g : GX X k) (ha : DE X a fa) (hb : DE X b fb) (hm : behindInMarks .NotEq b = false := by with_unfolding_all rfl) : DT X (.Compare a [.NotEq] [b] pos) (fTest (fEqDt true fa fb)) :=
  weakT (pt_cmpR (op_eqKv true g.room.units) ha hb hm) fun σ H Q h => eqDt_reads σ H (fun x H1 => ∃ c, x = .bl c ∧ Q c H1) (testReads σ H Q h)
end
end DL
/-! sorted(set(xs)) of a list of ints, list(range(n)). -/
namespace DL
open PySem PySem.Spec PyProof.Rows L2 L2.DX
section
variable {P : Program} {w : World} {A : Around} {E : Value → Shared → Prop} {s : Shared}
set_option maxHeartbeats 3200000 in
theorem call_set_lstI {l : Addr} {items : Array Value} (ns : List Int) {Q : Value → Shared → Prop} (hh : A.handled = none) (hl : s.heap.IsList l items) (hit : IntsAre items.toList ns) (hb : ns.length + 1 < scanBound)
    (h : ∀ (h' : Heap) (tk c : Nat), SetR w h' s.heap.objs.size (fun j => decide (j ∈ ns)) c → c ≤ ns.length → (∀ b o, s.heap.get? b = some o → h'.get? b = some o) → Q (.ref s.heap.objs.size) { s with heap := h', toks := tk }) :
    wpAny (model P w) A (call (.type "set") [.ref l]) Q E s := by
  have hisz : items.size = ns.length := by
    have q := IntsAre.length hit
    rw [Array.length_toList] at q
    exact q
  obtain ⟨c, tl, hmro⟩ := F.called_set.mro
  have hmade := F.called_set.made
  have hsub := F.called_set.sub
  refine wpAny_call (codeAny_of_tree ?_)
  show wpAny _ _ (callAny (.type "set") _) _ _ _
  refine wpAny_pure ⟨Code.quiet_builtin _ (by decide +kernel), codeAny_builtin F.entry_type_call ?_⟩
  rw [Around.under_plain (weight_type_call_type "set" [.ref l] []) rfl]
  have h1 := F.called_set.notType
  have h2 := F.called_set.canCreate
  have hct := F.typeCall_set_1 (.ref l)
  repeat (any_goals (first | assumption | wp_step))

  refine codeAny_mono (code_set_led1 (.ref l) (E := E) (Q₁ := fun obj s₁ => obj = .ref s.heap.objs.size ∧ s₁ = { s with heap := s.heap.push { cls := .type "set", dict := none, data := .set #[] 0 (.fresh 0 0 (!w.params.followText "set-order")) } }) ⟨rfl, rfl⟩) fun r s₁ hr => ?_
  cases r with
  | error e => exact hr
  | ok fl =>
    cases fl with
    | ret obj =>
      obtain ⟨rfl, rfl⟩ := hr
      have hS : (s.heap.push { cls := .type "set", dict := none, data := .set #[] 0 (.fresh 0 0 (!w.params.followText "set-order")) }).get? s.heap.objs.size = some { cls := .type "set", dict := none, data := .set #[] 0 (.fresh 0 0 (!w.params.followText "set-order")) } := Heap.get?_push_size _ rfl
      have hT : Shared.TypeIs { s with heap := s.heap.push { cls := .type "set", dict := none, data := .set #[] 0 (.fresh 0 0 (!w.params.followText "set-order")) } } (.ref s.heap.objs.size) "set" := ⟨_, hS, rfl⟩
      have hli := F.called_set.init.lookup
      have hbi := F.called_set.init.bind (.ref s.heap.objs.size)
      repeat (any_goals (first | assumption | wp_step))

      refine codeAny_mono (codeAny_call_builtin (R := wants (fun r s₂ => r = .none ∧ ∃ h' tk c, s₂ = { s with heap := h', toks := tk } ∧ SetR w h' s.heap.objs.size (fun j => decide (j ∈ ns)) c ∧ c ≤ ns.length ∧
          (∀ b o, s.heap.get? b = some o → h'.get? b = some o)) E) F.called_set.init.plain F.entry_set_init (check_set_init_1 hT ?_)) fun r₂ s₂ hr₂ => ?_
      · obtain ⟨ol, hol, hcl, nl, hdl⟩ := hl
        obtain ⟨ocls, odict, odata, oslots⟩ := ol
        simp only at hcl hdl
        subst hcl; subst hdl
        have hol' : (s.heap.push { cls := .type "set", dict := none, data := .set #[] 0 (.fresh 0 0 (!w.params.followText "set-order")) }).get? l = some { cls := .type "list", dict := odict, data := .seq items nl, slots := oslots } := Heap.get?_push_of_some _ hol
        have hsls := F.sub_list_set
        have hslf := F.sub_list_frozenset
        have hne : (Value.type "list" == Value.type "dict") = false := by decide
        have hl1 : (s.heap.push { cls := .type "set", dict := none, data := .set #[] 0 (.fresh 0 0 (!w.params.followText "set-order")) }).IsList l items := ⟨_, hol', rfl, nl, rfl⟩
        unfold Builtin.«set.__init__» noKeywords Builtin.Frozenset.updateFrom
        generalize hPI : pyIter = PI
        wp_walk
        subst hPI

        refine wpAny_pyIter_list hl1 ?_
        refine wpAny_bind (wpAny_runValue ?_)
        have hlS : l < s.heap.objs.size := Heap.lt_size hol
        have hh3 : A.in1.in1.in1.handled = none := by simp [hh]
        have hz1 : (s.heap.push { cls := .type "set", dict := none, data := .set #[] 0 (.fresh 0 0 (!w.params.followText "set-order")) }).objs.size = s.heap.objs.size + 1 := Heap.size_push ..
        have hneI : l ≠ (s.heap.push { cls := .type "set", dict := none, data := .set #[] 0 (.fresh 0 0 (!w.params.followText "set-order")) }).objs.size := by
          rw [Heap.size_push]; exact Nat.ne_of_lt (Nat.lt_succ_of_lt hlS)
        have hSf : s.heap.objs.size ∉ [(s.heap.push { cls := .type "set", dict := none, data := .set #[] 0 (.fresh 0 0 (!w.params.followText "set-order")) }).objs.size, l] := by
          rw [Heap.size_push]; simp only [List.mem_cons, List.mem_singleton, List.not_mem_nil, or_false, not_or]
          exact ⟨Nat.ne_of_lt (Nat.lt_succ_self _), Nat.ne_of_gt hlS⟩
        have hval : ∀ (i : Nat) (v : Value), items[i]? = some v → ∃ k t, ns[i]? = some k ∧ v = .int k t := fun i v hv => by
          have hi : i < ns.length := by rw [← hisz]; exact (Array.getElem?_eq_some_iff.mp hv).1
          obtain ⟨t, e⟩ := PyProof.Rows.IntsAre.int_at hit i v (by rw [Array.getElem?_toList]; exact hv)
          refine ⟨ns[i], t, List.getElem?_eq_getElem hi, ?_⟩
          rw [e, List.getD_eq_getElem?_getD, List.getElem?_eq_getElem hi] <;> rfl
        refine set_update_ints ((Walks.list hh3 _ l hneI items).toS) s.heap.objs.size
          hSf ns hisz hb hval (items.size - 0) 0 _ (by omega) (Nat.zero_le _)
          ⟨⟨_, Heap.get?_push_size _ rfl, rfl, rfl⟩, (hl1.push _)⟩ ?hS0 ?hR
        case hS0 =>
          have hget : ((s.heap.push { cls := .type "set", dict := none, data := .set #[] 0 (.fresh 0 0 (!w.params.followText "set-order")) }).push { cls := .type "list_iterator", data := .fields #[.ref l, .int 0 0] }).get? s.heap.objs.size
              = some { cls := .type "set", dict := none, data := .set #[] 0 (.fresh 0 0 (!w.params.followText "set-order")) } := Heap.get?_push_of_some _ hS
          exact ⟨0, Nat.le_refl 0, setR_new_at hget⟩
        case hR =>
          intro s' c' hm hc' hS'
          obtain ⟨h', g2, d', tk', os'⟩ := s'
          have eg : g2 = s.gens := hm.gens
          have ed : d' = s.drawn := hm.drawn
          have eo : os' = s.os := hm.os
          subst eg; subst ed; subst eo
          show wpAny _ _ _ _ _ _
          refine wpAny_pure ?_
          show wpAny _ _ (ret Value.none) _ _ _
          rw [hisz] at hc'
          refine wpAny_pure ⟨rfl, h', tk', c', rfl, hS', hc', fun b o e => ?_⟩
          have hb0 : b < s.heap.objs.size := Heap.lt_size e
          have hb1 : b ≠ s.heap.objs.size := Nat.ne_of_lt hb0
          have hb2 : b ≠ (s.heap.push { cls := .type "set", dict := none, data := .set #[] 0 (.fresh 0 0 (!w.params.followText "set-order")) }).objs.size := by
            rw [Heap.size_push]; exact Nat.ne_of_lt (Nat.lt_succ_of_lt hb0)
          exact hm.heap b o (by simp only [List.mem_cons, List.mem_singleton, List.not_mem_nil, or_false, not_or]; exact ⟨hb1, hb2⟩) (Heap.get?_push_of_some _ (Heap.get?_push_of_some _ e))

      · cases r₂ with
        | error e => exact hr₂
        | ok fl₂ =>
          cases fl₂ with
          | ret r =>
            obtain ⟨rfl, h', tk, c', rfl, hS', hc', hk'⟩ := hr₂
            repeat (any_goals (first | assumption | wp_step))
            exact h _ _ _ hS' hc' hk'
          | _ => exact hr₂.elim
    | _ => exact hr.elim

end
section
variable {X : Cx}
def rSetLI (K : PySem.W.Frag) (w : World) : List V → Hp → VK → Prop := fun xs H Q => ∃ (l : Addr) (ns : List Int), xs = [V.ref l] ∧ SqL K H l (ns.map V.int) ∧ ns.length < 64 ∧ ∀ p c, H p = none → c ≤ ns.length → Q (.ref p) (upd H p (SetO w p (fun j => decide (j ∈ ns)) c))
theorem cr_setLI (hc : X.calm = true) : CallR X (.type "set") (rSetLI X.K X.w) := by
  intro pins s σ H xs us Q I r h
  obtain ⟨l, ns, rfl, hs, h64, q⟩ := h
  rw [Vals.ref1 r]
  obtain ⟨its, rv, p, _⟩ := I.list hs
  refine call_set_lstI ns (I.ok.hd hc) p.isList (by simpa using ints_of_vals rv) (show ns.length + 1 < 4096 by omega) fun h' tk c new cle kk => ?_
  exact ⟨.ref _, upd H s.heap.objs.size (SetO X.w s.heap.objs.size (fun j => decide (j ∈ ns)) c), I.laid (t' := tk) kk (Nat.le_refl _) (setO_new new), rfl, q _ c (I.hok.fresh (Nat.le_refl _)) cle⟩
/-- sorted(set(xs)), xs a list by value -/
def fSortSetL (f : F) : F := fun env st => (f env st).bind fun p => match p.1 with
  | .lst ds => (intsD ds).bind fun ks => if ks.length < 64 then some (.lst ((srt ks).map .int), p.2) else none
  | _ => none
theorem de_sortSetL {e : Expr} {f : F} {p1 p2 q1 q2 : Pos} (hc : X.calm = true) (h : DE X e f) (hg : Gl X "sorted") (hm : X.mg "sorted" = none) (hg2 : Gl X "set") (hm2 : X.mg "set" = none)
    (h1 : starEach [Expr.Call (.Name "set" p2) [e] [] q2] X.env = (false, eval (Expr.Call (.Name "set" p2) [e] [] q2) X.env) :: starEach [] X.env := by rfl) (h2 : (backTo q1 (starEach [] X.env)).any (·.1) = false := by rfl)
    (h3 : starEach [e] X.env = (false, eval e X.env) :: starEach [] X.env := by rfl) (h4 : (backTo q2 (starEach [] X.env)).any (·.1) = false := by rfl) :
    DE X (.Call (.Name "sorted" p1) [.Call (.Name "set" p2) [e] [] q2] [] q1) (fSortSetL f) :=
  weakE (pe_callB (cr_sortedSet hc) hg hm (by decide +kernel) (pa_cons (pe_callTy (cr_setLI hc) hg2 hm2 (by decide +kernel) (pa_cons h pa_nil h3) (by decide) (by decide) h3 h4) pa_nil h1) (by decide) (by decide) h1 h2) fun σ H Q hh => by
    obtain ⟨r, env, st, d, st', he, hs, hf, q⟩ := hh
    obtain ⟨⟨x, s1⟩, e1, e2⟩ := Option.bind_eq_some_iff.mp hf
    cases x with
    | lst ds =>
      obtain ⟨ks, e3, e4⟩ := Option.bind_eq_some_iff.mp (show ((intsD ds).bind fun ks => if ks.length < 64 then some (D.lst ((srt ks).map .int), s1) else none) = some (d, st') from e2)
      by_cases hz : ks.length < 64
      case neg => rw [if_neg hz] at e4; cases e4
      rw [if_pos hz] at e4
      cases e4
      have ed := intsD_eq e3
      subst ed
      refine ⟨r, env, st, .lst (ks.map .int), st', he, hs, e1, fun v r1 H1 x1 q1 p1 => ?_⟩
      cases p1 with
      | lst g1 g2 g3 =>
        rw [RepL.intsV g3] at g1
        refine ⟨_, ks, rfl, .of g1, hz, fun p c hp cle => ⟨p, _, c, rfl, upd_same, by omega, fun ns' p' pw mem _ hp' => ?_⟩⟩
        have en : ns' = srt ks := pw_eq pw (srt_pw ks) fun j => by rw [mem j, srt_mem]; exact decide_eq_true_iff
        subst en
        have sm1 : Same H1 (upd H1 p (SetO X.w p (fun j => decide (j ∈ ks)) c)) := same_alloc hp
        have sm2 := same_alloc (o := HO.lst ((srt ks).map V.int)) hp'
        have q2 := q1.same sm1
        exact q _ r1 _ (x1.trans ((q1.ext sm1).trans (q2.ext sm2))) (q2.same sm2) (.lst upd_same (q2.free hp') (ints_repL _))
    | _ => cases e2
/-! ### list(range(n)) -/
def fLstRg (f : F) : F := fun env st => (f env st).bind fun p => match p.1 with
  | .int n => if 0 ≤ n ∧ n ≤ 1000000 then some (.lst (rg 0 n), p.2) else none
  | _ => none
theorem de_lstRg {e : Expr} {f : F} {p1 p2 q1 q2 : Pos} (hc : X.calm = true) (h : DE X e f) (hg : Gl X "list") (hm : X.mg "list" = none) (hg2 : Gl X "range") (hm2 : X.mg "range" = none)
    (h1 : starEach [Expr.Call (.Name "range" p2) [e] [] q2] X.env = (false, eval (Expr.Call (.Name "range" p2) [e] [] q2) X.env) :: starEach [] X.env := by rfl)
    (h3 : starEach [e] X.env = (false, eval e X.env) :: starEach [] X.env := by rfl) :
    DE X (.Call (.Name "list" p1) [.Call (.Name "range" p2) [e] [] q2] [] q1) (fLstRg f) :=
  weakE (pe_listRg hc hg hm (prg_1 hg2 hm2 h h3) h1) fun σ H Q hh => by
    obtain ⟨r, env, st, d, st', he, hs, hf, q⟩ := hh
    obtain ⟨⟨x, s1⟩, e1, e2⟩ := Option.bind_eq_some_iff.mp hf
    cases x with
    | int n =>
      have e4 : (if 0 ≤ n ∧ n ≤ 1000000 then some (D.lst (rg 0 n), s1) else none) = some (d, st') := e2
      by_cases hz : 0 ≤ n ∧ n ≤ 1000000
      case neg => rw [if_neg hz] at e4; cases e4
      rw [if_pos hz] at e4
      cases e4
      refine ⟨r, env, st, .int n, st', he, hs, e1, fun v r1 H1 x1 q1 p1 => ?_⟩
      cases p1
      refine ⟨n, rfl, .of_le (by omega) (by omega) (by omega) hz.1, fun p hp => ?_⟩
      have sm : Same H1 (upd H1 p (.lst (rgV 0 n))) := same_alloc hp
      exact q _ r1 _ (x1.trans (q1.ext sm)) (q1.same sm) (.lst upd_same (q1.free hp) (repL_map (fun i => .int _) _))
    | _ => cases e2
end
end DL
/-! d.update(e). -/
namespace DL
open PySem PySem.Spec PyProof.Rows L2 L2.DX
section
variable {X : Cx}
/-! ### d.update(e) -/
theorem d_update {pins : List (Addr × Obj)} {σ : L2.St} {H : Hp} {s : Shared} {A : Around} {E : Value → Shared → Prop} {a b : Addr} {kvs more : List (Key × V)} {Q : Value → Shared → Prop} (I : Inv X pins σ H s) (ha : H a = some (.dK kvs)) (hb : Rd H b (.dK more)) (hne : a ≠ b) (hz : kvs.length + more.length ≤ sizeLine)
    (q : ∀ s', Inv X pins σ (upd H a (.dK (mergeK kvs more))) s' → Q .none s') : wpAny (model X.prog X.w) A (call (.builtin "dict.update") [.ref a, .ref b]) Q E s := by
  obtain ⟨z, hd, vs, rel, dd⟩ := dk_of I.hok ha
  obtain ⟨z2, hd2, vs2, rel2, dd2⟩ := rd_ok I hb
  refine call_meetsIn PySem.F.slot_dict_update dd.typeIs PySem.F.entry_dict_update (PySem.F.args_dict_update_2 _ _) (meets_dict_update (mixKind X.prog X.w) a b hne hd2)
    ⟨vs, vs2, dd, dd2, by rw [← rel.length, ← rel2.length]; exact hz, fun h' hm _ hs => ?_⟩
  have hl : (mergeK kvs more).length ≤ sizeLine := Nat.le_trans (length_mergeK more kvs) hz
  have he : ∃ u, h'.get? a = some u := let ⟨u, _, _, hu, _⟩ := hm; ⟨u, hu⟩
  exact q _ (d_write I (by rw [ha]; exact True.intro) hs he (dk_new hl hd (rel2.merge rel) hm))
def tDUpd (td te : TE) : TE := fun σ H Q => td σ H fun x H1 => ∃ a, x = .ref a ∧ IsD H1 a ∧ te σ H1 fun y H2 => ∃ b kvs more, y = .ref b ∧ H2 a = some (.dK kvs) ∧ Rd H2 b (.dK more) ∧ a ≠ b ∧ kvs.length + more.length ≤ sizeLine ∧ Q .non (upd H2 a (.dK (mergeK kvs more)))
theorem pe_dupd {o e : Expr} {apos cpos : Pos} {td te : TE} (ho : PE X o td) (he : PE X e te) (m : M1 X o "update" apos e cpos) : PE X (.Call (.Attribute o "update" apos) [e] [] cpos) (tDUpd td te) := by
  refine ⟨fun pins s σ H Q I h => ?_⟩
  refine wpAny_Call_method m.base m.few m.line PySem.F.plainAttrs_dict PySem.F.slot_dict_update PySem.F.type_dict_update (thn (ho.run pins s σ H _ I h) fun u s1 ⟨x, H1, I1, rx, a, ex, d, q1⟩ => ?_)
  subst ex
  obtain rfl : u = Value.ref a := rx
  obtain ⟨t1, t2, _⟩ := isD_at I1 d
  refine ⟨t1, t2, ?_⟩
  rw [m.trees]
  refine Calls.callWith_builtin rfl (Calls.evalArgs_plain (Calls.spliced_cons (thn (he.run pins s1 σ H1 _ I1 q1) fun iv s2 ⟨y, H2, I2, ry, b, kvs, more, ey, ea, eb, ne, hz, q2⟩ => Calls.spliced_nil ?_)))
  subst ey
  obtain rfl : iv = Value.ref b := ry
  exact d_update I2 ea eb ne hz fun s3 I3 => ⟨.non, _, I3, rfl, q2⟩
/-- d.update(e), d of the store, e another dict -/
def notN (n : Nat) : D → Bool | .ref m => m != n | _ => true
def fUpd (fo fe : F) : F := fun env st => (fo env st).bind fun p => match p.1 with
  | .ref n => (dctAt (.ref n) p.2).bind fun _ => (fe env p.2).bind fun q => match q.2[n]? with
    | some (.dct kvs) => if notN n q.1 = true then (dctAt q.1 q.2).bind fun more => if kvs.length + more.length ≤ sizeLine then some (.non, q.2.set n (.dct (mergeD kvs more))) else none else none
    | _ => none
  | _ => none
theorem de_upd {o e : Expr} {fo fe : F} {apos cpos : Pos} (ho : DE X o fo) (he : DE X e fe) (m : M1 X o "update" apos e cpos) : DE X (.Call (.Attribute o "update" apos) [e] [] cpos) (fUpd fo fe) :=
  weakE (pe_dupd ho he m) fun σ H Q hh => by
  obtain ⟨r, env, st, d, st', he, hs, hf, q⟩ := hh
  obtain ⟨⟨x, s1⟩, h1, hf1⟩ := Option.bind_eq_some_iff.mp hf
  cases x with
  | ref n =>
    obtain ⟨kv0, h2, hf2⟩ := Option.bind_eq_some_iff.mp (show ((dctAt (.ref n) s1).bind fun _ => (fe env s1).bind fun q => match q.2[n]? with
      | some (.dct kvs) => if notN n q.1 = true then (dctAt q.1 q.2).bind fun more => if kvs.length + more.length ≤ sizeLine then some (D.non, q.2.set n (.dct (mergeD kvs more))) else none else none
      | _ => none) = some (d, st') from hf1)
    obtain ⟨⟨y, s2⟩, h3, hf3⟩ := Option.bind_eq_some_iff.mp hf2
    simp only at hf3
    split at hf3
    · rename_i kvs hst
      by_cases hn : notN n y = true
      case neg => rw [if_neg hn] at hf3; cases hf3
      rw [if_pos hn] at hf3
      obtain ⟨more, h5, hf5⟩ := Option.bind_eq_some_iff.mp hf3
      by_cases hz : kvs.length + more.length ≤ sizeLine
      case neg => rw [if_neg hz] at hf5; cases hf5
      rw [if_pos hz] at hf5
      cases hf5
      refine ⟨r, env, st, .ref n, s1, he, hs, h1, fun u r1 H1 e1 q1 p1 => ?_⟩
      obtain ⟨a, xs, rfl, rd, l⟩ := dctRd p1 q1 h2
      refine ⟨a, rfl, .inl ⟨xs, rd⟩, r1, env, s1, y, s2, he.ext e1, q1, h3, fun v r2 H2 e2 q2 p2 => ?_⟩
      obtain ⟨a', ea, ha⟩ := (p1.ext e2).refI
      cases ea
      obtain ⟨av, ys, hx, l2⟩ := q2.ob _ a _ ha hst
      obtain ⟨b, zs, rfl, rdb, lb⟩ := dctRd p2 q2 h5
      have ne : a ≠ b := by
        rintro rfl
        cases p2 with
        | dct g1 g2 g3 => exact g2 av
        | ref hm =>
          rename_i m
          have hm' : r2.adr[m]? = some a := hm
          obtain ⟨i1, j1⟩ := List.getElem?_eq_some_iff.mp hm'
          obtain ⟨i2, j2⟩ := List.getElem?_eq_some_iff.mp ha
          have : m = n := by
            rcases Nat.lt_trichotomy m n with lt | e | lt
            · exact absurd (j1.trans j2.symm) (List.pairwise_iff_getElem.mp q2.nd m n i1 i2 lt)
            · exact e
            · exact absurd (j2.trans j1.symm) (List.pairwise_iff_getElem.mp q2.nd n m i2 i1 lt)
          simp [notN, this] at hn
        | _ => cases h5
      have ee : Ex r2 H2 r2 (upd H2 a (.dK (mergeK ys zs))) := ⟨⟨[], by simp⟩, fun b o w m => by rw [upd_ne (fun y => m (by rw [y]; exact av))]; exact w, fun b w m => absurd w m⟩
      obtain ⟨w1, w2⟩ := q2.set (o := .dK (mergeK ys zs)) (ob := .dct (mergeD kvs more)) ha av ⟨av, _, upd_same, (RepK.merge lb l2).ex ee⟩ (fun _ _ z => by rw [hx] at z; cases z)
      exact ⟨b, ys, zs, rfl, hx, rdb, ne, by rw [l2.len, lb.len]; exact hz, q _ r2 _ ((e1.trans e2).trans w1) w2 .non⟩
    · cases hf3
  | _ => cases hf1
end
end DL
/-! a, b = xs, xs a list by value. -/
namespace DL
open PySem PySem.Spec PyProof.Rows L2
section
variable {X : Cx}
def gTL (n : Nat) (h : FGs) : FG := fun d env => match d with | .lst ds => if ds.length = n then h ds env else none | _ => none
theorem dg_lst {es : List Expr} {k n : Nat} {h : FGs} {pos : Pos} (hc : X.calm = true) (hh : DGs X es h) (hn : (assignEach es X.env).length = n := by rfl) (hst : (assignEach es X.env).findIdx? (·.1) = none := by rfl) : DG X (.Tuple es k pos) (gTL n h) :=
  weakG (pg_lst hc hh hn hst) fun v σ H Q hh => by
  obtain ⟨r, env, d, env', he, hr, hg, q⟩ := hh
  cases d with
  | lst ds =>
    have hg' : (if ds.length = n then h ds env else none) = some env' := hg
    by_cases hl : ds.length = n
    · rw [if_pos hl] at hg'
      cases hr with
      | lst g1 g2 g3 => exact ⟨_, _, rfl, .of g1, by rw [g3.len]; exact hl, r, env, ds, env', he, g3, hg', q⟩
    · rw [if_neg hl] at hg'
      cases hg'
  | _ => cases hg
end
end DL
/-! Dicts with int keys as maps: lookups after writes, equal maps have equal items. -/
namespace DL
open PySem PySem.Spec PyProof.Rows L2
abbrev KL := List (Key × D)
def gt (l : KL) (i : Int) : Option D := valD l (.inl i)
theorem valD_nil (k : Key) : valD [] k = none := rfl
theorem valD_cons (k j : Key) (v : D) (l : KL) : valD ((k, v) :: l) j = if k = j then some v else valD l j := by
  unfold valD
  by_cases h : k = j <;> simp [List.find?_cons, h]
theorem valD_app (l m : KL) (j : Key) : valD (l ++ m) j = (valD l j).or (valD m j) := by
  induction l with
  | nil => simp [valD_nil]
  | cons p l ih =>
    obtain ⟨k, v⟩ := p
    rw [List.cons_append, valD_cons, valD_cons, ih]
    by_cases h : k = j <;> simp [h]
theorem valD_none {l : KL} {k : Key} : valD l k = none ↔ k ∉ l.map (·.1) := by
  induction l with
  | nil => simp [valD_nil]
  | cons p l ih =>
    obtain ⟨j, v⟩ := p
    rw [valD_cons]
    by_cases h : j = k
    · simp [h]
    · have h' : ¬ k = j := fun e => h e.symm
      simp only [h, if_false, ih, List.map_cons, List.mem_cons, h', false_or]
theorem valD_some {l : KL} {k : Key} {v : D} : (l.map (·.1)).Nodup → (valD l k = some v ↔ (k, v) ∈ l) := by
  induction l with
  | nil => simp [valD_nil]
  | cons p l ih =>
    obtain ⟨j, u⟩ := p
    intro nd
    have nd' := List.nodup_cons.mp (show (j :: l.map (·.1)).Nodup from nd)
    rw [valD_cons, List.mem_cons]
    by_cases h : j = k
    · subst h
      have : (j, v) ∉ l := fun m => nd'.1 (List.mem_map.mpr ⟨_, m, rfl⟩)
      simp [this, eq_comm]
    · have : (k, v) ≠ (j, u) := fun e => h (by injection e with a b; exact a.symm)
      simp [h, ih nd'.2, this]
theorem valD_map (k : Key) (v : D) (l : KL) (j : Key) : valD (l.map fun kv => if kv.1 = k then (kv.1, v) else kv) j = if k = j then (valD l j).map (fun _ => v) else valD l j := by
  induction l with
  | nil => simp [valD_nil]
  | cons p l ih =>
    obtain ⟨i, u⟩ := p
    rw [List.map_cons]
    by_cases h : i = k
    · subst h
      simp only [if_true, valD_cons, ih]
      by_cases h2 : i = j <;> simp [h2]
    · simp only [h, if_false, valD_cons, ih]
      by_cases h2 : i = j
      · subst h2
        have : ¬ k = i := fun e => h e.symm
        simp [this]
      · simp [h2]
theorem any_key {l : KL} {k : Key} : (l.any fun kv => decide (kv.1 = k)) = (valD l k).isSome := by
  induction l with
  | nil => rfl
  | cons p l ih =>
    obtain ⟨i, u⟩ := p
    rw [List.any_cons, ih, valD_cons]
    by_cases h : i = k <;> simp [h]
theorem valD_put (l : KL) (k j : Key) (v : D) : valD (putD l k v) j = if k = j then some v else valD l j := by
  unfold putD
  rw [any_key]
  cases hs : valD l k with
  | some u =>
    simp only [Option.isSome_some, if_true]
    rw [valD_map]
    by_cases h : k = j
    · subst h; simp [hs]
    · simp [h]
  | none =>
    simp only [Option.isSome_none, Bool.false_eq_true, if_false]
    rw [valD_app, valD_cons, valD_nil]
    by_cases h : k = j
    · subst h; simp [hs]
    · simp [h]
theorem valD_drop (l : KL) (k j : Key) : valD (dropD l k) j = if k = j then none else valD l j := by
  unfold dropD
  induction l with
  | nil => simp [valD_nil]
  | cons p l ih =>
    obtain ⟨i, u⟩ := p
    rw [List.filter_cons]
    by_cases h : i = k
    · subst h
      simp only [ne_eq, not_true_eq_false, decide_false, Bool.false_eq_true, if_false, ih, valD_cons]
      by_cases h2 : i = j <;> simp [h2]
    · simp only [ne_eq, h, not_false_eq_true, decide_true, if_true, valD_cons, ih]
      by_cases h2 : i = j
      · subst h2
        have : ¬ k = i := fun e => h e.symm
        simp [this]
      · simp [h2]
theorem keys_put (l : KL) (k : Key) (v : D) : (putD l k v).map (·.1) = if (valD l k).isSome = true then l.map (·.1) else l.map (·.1) ++ [k] := by
  unfold putD
  rw [any_key]
  cases valD l k with
  | some u =>
    simp only [Option.isSome_some, if_true, List.map_map]
    refine List.map_congr_left fun p _ => ?_
    by_cases h : p.1 = k <;> simp [h]
  | none => simp
/-- int keys of U, each once -/
structure okK (U : List Int) (l : KL) : Prop where
  mem : ∀ p ∈ l, ∃ i ∈ U, p.1 = .inl i
  nd : (l.map (·.1)).Nodup
theorem okK.nil {U : List Int} : okK U [] := ⟨fun _ h => (by cases h), .nil⟩
theorem okK.put {U : List Int} {l : KL} (h : okK U l) {i : Int} (hi : i ∈ U) (v : D) : okK U (putD l (.inl i) v) := by
  refine ⟨fun p hp => ?_, ?_⟩
  · have hm : p.1 ∈ (putD l (.inl i) v).map (·.1) := List.mem_map.mpr ⟨p, hp, rfl⟩
    rw [keys_put] at hm
    have key : p.1 ∈ l.map (·.1) → ∃ j ∈ U, p.1 = .inl j := fun m => by
      obtain ⟨q, hq, e⟩ := List.mem_map.mp m
      obtain ⟨j, hj, e2⟩ := h.mem q hq
      exact ⟨j, hj, e.symm.trans e2⟩
    split at hm
    · exact key hm
    · rcases List.mem_append.mp hm with m | m
      · exact key m
      · exact ⟨i, hi, List.mem_singleton.mp m⟩
  · rw [keys_put]
    split
    · exact h.nd
    · rename_i hs
      have : valD l (.inl i) = none := by
        cases q : valD l (.inl i) with
        | none => rfl
        | some _ => rw [q] at hs; exact absurd rfl hs
      exact List.nodup_append.mpr ⟨h.nd, by simp, fun a ha b hb e => by
        rw [List.mem_singleton.mp hb] at e
        exact valD_none.mp this (e ▸ ha)⟩
theorem okK.drop {U : List Int} {l : KL} (h : okK U l) (k : Key) : okK U (dropD l k) :=
  ⟨fun p hp => h.mem p (List.mem_filter.mp hp).1, List.Sublist.nodup (List.Sublist.map (fun p : Key × D => p.1) List.filter_sublist) h.nd⟩
theorem okK.cons {U : List Int} {l : KL} {p : Key × D} (h : okK U (p :: l)) : okK U l := ⟨fun q hq => h.mem q (List.mem_cons_of_mem _ hq), (List.nodup_cons.mp (show (p.1 :: l.map (·.1)).Nodup from h.nd)).2⟩
theorem nodup_sub {α : Type} [DecidableEq α] : ∀ {l u : List α}, l.Nodup → (∀ x ∈ l, x ∈ u) → l.length ≤ u.length
  | [], _, _, _ => Nat.zero_le _
  | a :: l, u, nd, h => by
    have nd' := List.nodup_cons.mp nd
    have ha := h a List.mem_cons_self
    have := nodup_sub (u := u.erase a) nd'.2 fun x hx => (List.mem_erase_of_ne (fun e : x = a => nd'.1 (by rw [← e]; exact hx))).mpr (h x (List.mem_cons_of_mem _ hx))
    rw [List.length_erase_of_mem ha] at this
    have hp : 0 < u.length := List.length_pos_of_mem ha
    rw [List.length_cons]
    omega
theorem okK.ints {U : List Int} : ∀ {l : KL}, okK U l → ∃ ks, intKs l = some ks ∧ l.map (·.1) = ks.map Sum.inl ∧ ks.Nodup ∧ (∀ i ∈ ks, i ∈ U) ∧ ks.length = l.length
  | [], _ => ⟨[], rfl, rfl, .nil, fun _ h => (by cases h), rfl⟩
  | (k, v) :: l, h => by
    obtain ⟨ks, h1, h2, h3, h4, h5⟩ := okK.ints h.cons
    obtain ⟨i, hi, e⟩ := h.mem _ List.mem_cons_self
    have e' : k = .inl i := e
    subst e'
    refine ⟨i :: ks, by show (intKs l).map (i :: ·) = _; rw [h1]; rfl, by rw [List.map_cons, List.map_cons, h2], List.nodup_cons.mpr ⟨fun m => ?_, h3⟩, fun j hj => ?_, by simp [h5]⟩
    · have nd := List.nodup_cons.mp (show (Sum.inl i :: l.map (·.1)).Nodup from h.nd)
      exact nd.1 (by rw [h2]; exact List.mem_map.mpr ⟨i, m, rfl⟩)
    · rcases List.mem_cons.mp hj with rfl | hj
      · exact hi
      · exact h4 j hj
theorem okK.len {U : List Int} {l : KL} (h : okK U l) : l.length ≤ U.length := by
  obtain ⟨ks, _, _, nd, m, e⟩ := h.ints
  rw [← e]
  exact nodup_sub nd m
/-- equal maps -/
theorem okK.perm {U : List Int} {l m : KL} (h : okK U l) (g : okK U m) (e : ∀ i, gt l i = gt m i) : l.Perm m := by
  have nd : ∀ {z : KL}, okK U z → z.Nodup := fun {z} o => List.Pairwise.imp (fun {a b} (h : a.1 ≠ b.1) e => h (by rw [e])) (List.pairwise_map.mp o.nd)
  refine (List.perm_ext_iff_of_nodup (nd h) (nd g)).mpr fun p => ?_
  have key : ∀ {a b : KL}, okK U a → okK U b → (∀ i, gt a i = gt b i) → p ∈ a → p ∈ b := fun {a b} oa ob e hp => by
    obtain ⟨i, _, ei⟩ := oa.mem p hp
    obtain ⟨k, v⟩ := p
    have ek : k = .inl i := ei
    subst ek
    have := (valD_some oa.nd).mpr hp
    exact (valD_some ob.nd).mp ((e i).symm.trans this)
  exact ⟨key h g e, key g h fun i => (e i).symm⟩
theorem sortK_eq {U : List Int} {l m : KL} (h : okK U l) (g : okK U m) (e : ∀ i, gt l i = gt m i) : sortK l = sortK m := by
  have nk : ∀ {z : KL}, okK U z → (z.map fun p => keyI p.1).Nodup := fun {z} o => by
    obtain ⟨ks, _, h2, nd, _, _⟩ := o.ints
    have : (z.map fun p => keyI p.1) = ks := by
      have : (z.map fun p => keyI p.1) = (z.map (·.1)).map keyI := by rw [List.map_map]; rfl
      rw [this, h2, List.map_map]
      exact List.map_id _
    rw [this]; exact nd
  exact sortK_uniq ((sortK_perm l).trans (h.perm g e)) (sortK_pw (nk h))
theorem itemsD_eq {U : List Int} {l m : KL} (h : okK U l) (g : okK U m) (e : ∀ i, gt l i = gt m i) : itemsD l = itemsD m := by
  unfold itemsD
  rw [sortK_eq h g e]
theorem okK.sortedKs {U : List Int} {l : KL} (h : okK U l) (hu : U.length < 64) : ∃ ks, sortedKs l = some (srt ks) ∧ l.map (·.1) = ks.map Sum.inl ∧ ks.Nodup ∧ (∀ i, i ∈ srt ks ↔ (gt l i).isSome = true) ∧ (∀ i ∈ ks, i ∈ U) ∧ ks.length = l.length := by
  obtain ⟨ks, h1, h2, h3, h4, h5⟩ := h.ints
  have hl := nodup_sub h3 h4
  refine ⟨ks, by simp [DL.sortedKs, h1, h3, show ks.length < 64 by omega], h2, h3, fun i => ?_, h4, h5⟩
  rw [srt_mem]
  unfold gt
  cases q : valD l (.inl i) with
  | none =>
    have := valD_none.mp q
    rw [h2] at this
    simp only [Option.isSome_none, Bool.false_eq_true, iff_false]
    exact fun m => this (List.mem_map.mpr ⟨i, m, rfl⟩)
  | some v =>
    simp only [Option.isSome_some, iff_true]
    have m : (Sum.inl i : Key) ∈ l.map (·.1) := List.mem_map.mpr ⟨_, (valD_some h.nd).mp q, rfl⟩
    rw [h2] at m
    obtain ⟨j, hj, e⟩ := List.mem_map.mp m
    injection e with e
    exact e ▸ hj
end DL
namespace LW
open PySem PySem.Spec PyProof.Rows L2 DL
def topS (i : Nat) : Stmt := PySem.Challenge.pw_steadypages_k18_edits_and_versions.main.body.getD i (.Pass ⟨0, 0, 0, 0⟩)
abbrev s_is_integer : Stmt := topS 13
abbrev N_is_integer : List Str := ["value"]
theorem sc_is_integer : FnScope N_is_integer ["value"] (defScope s_is_integer) := ⟨rfl, rfl, rfl, by decide +kernel, rfl, by decide +kernel, by decide +kernel⟩
abbrev s_is_string : Stmt := topS 14
abbrev N_is_string : List Str := ["value", "sign"]
theorem sc_is_string : FnScope N_is_string ["value"] (defScope s_is_string) := ⟨rfl, rfl, rfl, by decide +kernel, rfl, by decide +kernel, by decide +kernel⟩
abbrev s_is_value : Stmt := topS 15
abbrev N_is_value : List Str := ["value"]
theorem sc_is_value : FnScope N_is_value ["value"] (defScope s_is_value) := ⟨rfl, rfl, rfl, by decide +kernel, rfl, by decide +kernel, by decide +kernel⟩
abbrev s_is_name : Stmt := topS 16
abbrev N_is_name : List Str := ["value", "sign"]
theorem sc_is_name : FnScope N_is_name ["value"] (defScope s_is_name) := ⟨rfl, rfl, rfl, by decide +kernel, rfl, by decide +kernel, by decide +kernel⟩
abbrev s_is_column_name : Stmt := topS 17
abbrev N_is_column_name : List Str := ["value"]
theorem sc_is_column_name : FnScope N_is_column_name ["value"] (defScope s_is_column_name) := ⟨rfl, rfl, rfl, by decide +kernel, rfl, by decide +kernel, by decide +kernel⟩
abbrev s_is_columns : Stmt := topS 18
abbrev N_is_columns : List Str := ["value", "name"]
theorem sc_is_columns : FnScope N_is_columns ["value"] (defScope s_is_columns) := ⟨rfl, rfl, rfl, by decide +kernel, rfl, by decide +kernel, by decide +kernel⟩
abbrev s_is_row_id : Stmt := topS 19
abbrev N_is_row_id : List Str := ["value"]
theorem sc_is_row_id : FnScope N_is_row_id ["value"] (defScope s_is_row_id) := ⟨rfl, rfl, rfl, by decide +kernel, rfl, by decide +kernel, by decide +kernel⟩
abbrev s_is_row : Stmt := topS 20
abbrev N_is_row : List Str := ["columns", "value", "row_id", "values", "item"]
theorem sc_is_row : FnScope N_is_row ["columns", "value"] (defScope s_is_row) := ⟨rfl, rfl, rfl, by decide +kernel, rfl, by decide +kernel, by decide +kernel⟩
abbrev s_is_edit : Stmt := topS 23
abbrev N_is_edit : List Str := ["columns", "value"]
theorem sc_is_edit : FnScope N_is_edit ["columns", "value"] (defScope s_is_edit) := ⟨rfl, rfl, rfl, by decide +kernel, rfl, by decide +kernel, by decide +kernel⟩
abbrev s_values_of : Stmt := topS 24
abbrev N_values_of : List Str := ["state"]
theorem sc_values_of : FnScope N_values_of ["state"] (defScope s_values_of) := ⟨rfl, rfl, rfl, by decide +kernel, rfl, by decide +kernel, by decide +kernel⟩
abbrev s_take_step : Stmt := topS 25
abbrev N_take_step : List Str := ["states", "step", "row_id"]
theorem sc_take_step : FnScope N_take_step ["states", "step"] (defScope s_take_step) := ⟨rfl, rfl, rfl, by decide +kernel, rfl, by decide +kernel, by decide +kernel⟩
abbrev s__law_tape : Stmt := topS 27
abbrev N__law_tape : List Str := ["script", "start", "mixed", "cell", "digits"]
theorem sc__law_tape : FnScope N__law_tape ["script", "start"] (defScope s__law_tape) := ⟨rfl, rfl, rfl, by decide +kernel, rfl, by decide +kernel, by decide +kernel⟩
abbrev s__law_pick : Stmt := topS 28
abbrev N__law_pick : List Str := ["tape", "size", "found"]
theorem sc__law_pick : FnScope N__law_pick ["tape", "size"] (defScope s__law_pick) := ⟨rfl, rfl, rfl, by decide +kernel, rfl, by decide +kernel, by decide +kernel⟩
abbrev s__law_one_of : Stmt := topS 29
abbrev N__law_one_of : List Str := ["tape", "items"]
theorem sc__law_one_of : FnScope N__law_one_of ["tape", "items"] (defScope s__law_one_of) := ⟨rfl, rfl, rfl, by decide +kernel, rfl, by decide +kernel, by decide +kernel⟩
abbrev s__law_value : Stmt := topS 30
abbrev N__law_value : List Str := ["tape", "signs", "some", "turn"]
theorem sc__law_value : FnScope N__law_value ["tape"] (defScope s__law_value) := ⟨rfl, rfl, rfl, by decide +kernel, rfl, by decide +kernel, by decide +kernel⟩
abbrev s__law_values : Stmt := topS 31
abbrev N__law_values : List Str := ["tape", "width", "column"]
theorem sc__law_values : FnScope N__law_values ["tape", "width"] (defScope s__law_values) := ⟨rfl, rfl, rfl, by decide +kernel, rfl, by decide +kernel, by decide +kernel⟩
abbrev s_Table_known_versions : Stmt := inClass (topS 22) 10
abbrev N_Table_known_versions : List Str := ["self"]
theorem sc_Table_known_versions : FnScope N_Table_known_versions ["self"] (defScope s_Table_known_versions) := ⟨rfl, rfl, rfl, by decide +kernel, rfl, by decide +kernel, by decide +kernel⟩
abbrev s_Table__check_known : Stmt := inClass (topS 22) 14
abbrev N_Table__check_known : List Str := ["self", "version"]
theorem sc_Table__check_known : FnScope N_Table__check_known ["self", "version"] (defScope s_Table__check_known) := ⟨rfl, rfl, rfl, by decide +kernel, rfl, by decide +kernel, by decide +kernel⟩
abbrev s_Table__states_at : Stmt := inClass (topS 22) 13
abbrev N_Table__states_at : List Str := ["self", "version", "states", "known", "step"]
theorem sc_Table__states_at : FnScope N_Table__states_at ["self", "version"] (defScope s_Table__states_at) := ⟨rfl, rfl, rfl, by decide +kernel, rfl, by decide +kernel, by decide +kernel⟩
abbrev s_Table_rows_at : Stmt := inClass (topS 22) 11
abbrev N_Table_rows_at : List Str := ["self", "version", "states", "row_id"]
theorem sc_Table_rows_at : FnScope N_Table_rows_at ["self", "version"] (defScope s_Table_rows_at) := ⟨rfl, rfl, rfl, by decide +kernel, rfl, by decide +kernel, by decide +kernel⟩
abbrev s_Table__change : Stmt := inClass (topS 22) 8
abbrev N_Table__change : List Str := ["self", "rows", "version", "step", "row_id", "values"]
theorem sc_Table__change : FnScope N_Table__change ["self", "rows"] (defScope s_Table__change) := ⟨rfl, rfl, rfl, by decide +kernel, rfl, by decide +kernel, by decide +kernel⟩
abbrev s_Table_revert_to : Stmt := inClass (topS 22) 7
abbrev N_Table_revert_to : List Str := ["self", "version", "earlier", "rows", "row_id"]
theorem sc_Table_revert_to : FnScope N_Table_revert_to ["self", "version"] (defScope s_Table_revert_to) := ⟨rfl, rfl, rfl, by decide +kernel, rfl, by decide +kernel, by decide +kernel⟩
abbrev s_Table_change_rows : Stmt := inClass (topS 22) 6
abbrev N_Table_change_rows : List Str := ["self", "edits", "edit", "rows"]
theorem sc_Table_change_rows : FnScope N_Table_change_rows ["self", "edits"] (defScope s_Table_change_rows) := ⟨rfl, rfl, rfl, by decide +kernel, rfl, by decide +kernel, by decide +kernel⟩
abbrev s_Table_drop_row : Stmt := inClass (topS 22) 5
abbrev N_Table_drop_row : List Str := ["self", "row_id"]
theorem sc_Table_drop_row : FnScope N_Table_drop_row ["self", "row_id"] (defScope s_Table_drop_row) := ⟨rfl, rfl, rfl, by decide +kernel, rfl, by decide +kernel, by decide +kernel⟩
abbrev s_Table_put_row : Stmt := inClass (topS 22) 4
abbrev N_Table_put_row : List Str := ["self", "row_id", "values", "row"]
theorem sc_Table_put_row : FnScope N_Table_put_row ["self", "row_id", "values"] (defScope s_Table_put_row) := ⟨rfl, rfl, rfl, by decide +kernel, rfl, by decide +kernel, by decide +kernel⟩
abbrev s__law_edit : Stmt := topS 32
abbrev N__law_edit : List Str := ["tape", "table", "past", "width", "number", "way", "rows", "changes", "goal", "version", "told", "batch", "step", "values", "column", "other"]
theorem sc__law_edit : FnScope N__law_edit ["tape", "table", "past", "width"] (defScope s__law_edit) := ⟨rfl, rfl, rfl, by decide +kernel, rfl, by decide +kernel, by decide +kernel⟩
abbrev s_Table_changes_at : Stmt := inClass (topS 22) 12
abbrev N_Table_changes_at : List Str := ["self", "version", "states", "row_id"]
theorem sc_Table_changes_at : FnScope N_Table_changes_at ["self", "version"] (defScope s_Table_changes_at) := ⟨rfl, rfl, rfl, by decide +kernel, rfl, by decide +kernel, by decide +kernel⟩
abbrev s__law_versions_right : Stmt := topS 33
abbrev N__law_versions_right : List Str := ["table", "past", "version", "rows", "changes", "again", "found", "changed"]
theorem sc__law_versions_right : FnScope N__law_versions_right ["table", "past"] (defScope s__law_versions_right) := ⟨rfl, rfl, rfl, by decide +kernel, rfl, by decide +kernel, by decide +kernel⟩
abbrev s_Table___init__ : Stmt := inClass (topS 22) 0
abbrev N_Table___init__ : List Str := ["self", "columns"]
theorem sc_Table___init__ : FnScope N_Table___init__ ["self", "columns"] (defScope s_Table___init__) := ⟨rfl, rfl, rfl, by decide +kernel, rfl, by decide +kernel, by decide +kernel⟩
abbrev s_Table___len__ : Stmt := inClass (topS 22) 2
abbrev N_Table___len__ : List Str := ["self"]
theorem sc_Table___len__ : FnScope N_Table___len__ ["self"] (defScope s_Table___len__) := ⟨rfl, rfl, rfl, by decide +kernel, rfl, by decide +kernel, by decide +kernel⟩
abbrev s_Table_present : Stmt := inClass (topS 22) 9
abbrev N_Table_present : List Str := ["self"]
theorem sc_Table_present : FnScope N_Table_present ["self"] (defScope s_Table_present) := ⟨rfl, rfl, rfl, by decide +kernel, rfl, by decide +kernel, by decide +kernel⟩
abbrev s_Table_column_names : Stmt := inClass (topS 22) 3
abbrev N_Table_column_names : List Str := ["self"]
theorem sc_Table_column_names : FnScope N_Table_column_names ["self"] (defScope s_Table_column_names) := ⟨rfl, rfl, rfl, by decide +kernel, rfl, by decide +kernel, by decide +kernel⟩
abbrev s_law : Stmt := topS 34
abbrev N_law : List Str := ["script", "start", "tape", "width", "names", "table", "past", "turn", "told"]
theorem sc_law : FnScope N_law ["script"] (defScope s_law) := ⟨rfl, rfl, rfl, by decide +kernel, rfl, by decide +kernel, by decide +kernel⟩
/-- what the top has left -/
structure Txt (K : PySem.W.Frag) (mg : Str → Option Value) where
  a_is_integer : Addr
  f_is_integer : FuncData
  F_is_integer : Fun K "is_integer" "is_integer" s_is_integer a_is_integer f_is_integer
  b_is_integer : Binds K f_is_integer ["value"] []
  g_is_integer : mg "is_integer" = some (.ref a_is_integer)
  a_is_string : Addr
  f_is_string : FuncData
  F_is_string : Fun K "is_string" "is_string" s_is_string a_is_string f_is_string
  b_is_string : Binds K f_is_string ["value"] []
  g_is_string : mg "is_string" = some (.ref a_is_string)
  a_is_value : Addr
  f_is_value : FuncData
  F_is_value : Fun K "is_value" "is_value" s_is_value a_is_value f_is_value
  b_is_value : Binds K f_is_value ["value"] []
  g_is_value : mg "is_value" = some (.ref a_is_value)
  a_is_name : Addr
  f_is_name : FuncData
  F_is_name : Fun K "is_name" "is_name" s_is_name a_is_name f_is_name
  b_is_name : Binds K f_is_name ["value"] []
  g_is_name : mg "is_name" = some (.ref a_is_name)
  a_is_column_name : Addr
  f_is_column_name : FuncData
  F_is_column_name : Fun K "is_column_name" "is_column_name" s_is_column_name a_is_column_name f_is_column_name
  b_is_column_name : Binds K f_is_column_name ["value"] []
  g_is_column_name : mg "is_column_name" = some (.ref a_is_column_name)
  a_is_columns : Addr
  f_is_columns : FuncData
  F_is_columns : Fun K "is_columns" "is_columns" s_is_columns a_is_columns f_is_columns
  b_is_columns : Binds K f_is_columns ["value"] []
  g_is_columns : mg "is_columns" = some (.ref a_is_columns)
  a_is_row_id : Addr
  f_is_row_id : FuncData
  F_is_row_id : Fun K "is_row_id" "is_row_id" s_is_row_id a_is_row_id f_is_row_id
  b_is_row_id : Binds K f_is_row_id ["value"] []
  g_is_row_id : mg "is_row_id" = some (.ref a_is_row_id)
  a_is_row : Addr
  f_is_row : FuncData
  F_is_row : Fun K "is_row" "is_row" s_is_row a_is_row f_is_row
  b_is_row : Binds K f_is_row ["columns", "value"] []
  g_is_row : mg "is_row" = some (.ref a_is_row)
  a_is_edit : Addr
  f_is_edit : FuncData
  F_is_edit : Fun K "is_edit" "is_edit" s_is_edit a_is_edit f_is_edit
  b_is_edit : Binds K f_is_edit ["columns", "value"] []
  g_is_edit : mg "is_edit" = some (.ref a_is_edit)
  a_values_of : Addr
  f_values_of : FuncData
  F_values_of : Fun K "values_of" "values_of" s_values_of a_values_of f_values_of
  b_values_of : Binds K f_values_of ["state"] []
  g_values_of : mg "values_of" = some (.ref a_values_of)
  a_take_step : Addr
  f_take_step : FuncData
  F_take_step : Fun K "take_step" "take_step" s_take_step a_take_step f_take_step
  b_take_step : Binds K f_take_step ["states", "step"] []
  g_take_step : mg "take_step" = some (.ref a_take_step)
  a__law_tape : Addr
  f__law_tape : FuncData
  F__law_tape : Fun K "_law_tape" "_law_tape" s__law_tape a__law_tape f__law_tape
  b__law_tape : Binds K f__law_tape ["script", "start"] []
  g__law_tape : mg "_law_tape" = some (.ref a__law_tape)
  a__law_pick : Addr
  f__law_pick : FuncData
  F__law_pick : Fun K "_law_pick" "_law_pick" s__law_pick a__law_pick f__law_pick
  b__law_pick : Binds K f__law_pick ["tape", "size"] []
  g__law_pick : mg "_law_pick" = some (.ref a__law_pick)
  a__law_one_of : Addr
  f__law_one_of : FuncData
  F__law_one_of : Fun K "_law_one_of" "_law_one_of" s__law_one_of a__law_one_of f__law_one_of
  b__law_one_of : Binds K f__law_one_of ["tape", "items"] []
  g__law_one_of : mg "_law_one_of" = some (.ref a__law_one_of)
  a__law_value : Addr
  f__law_value : FuncData
  F__law_value : Fun K "_law_value" "_law_value" s__law_value a__law_value f__law_value
  b__law_value : Binds K f__law_value ["tape"] []
  g__law_value : mg "_law_value" = some (.ref a__law_value)
  a__law_values : Addr
  f__law_values : FuncData
  F__law_values : Fun K "_law_values" "_law_values" s__law_values a__law_values f__law_values
  b__law_values : Binds K f__law_values ["tape", "width"] []
  g__law_values : mg "_law_values" = some (.ref a__law_values)
  a_Table_known_versions : Addr
  f_Table_known_versions : FuncData
  F_Table_known_versions : Fun K "known_versions" "Table.known_versions" s_Table_known_versions a_Table_known_versions f_Table_known_versions
  b_Table_known_versions : Binds K f_Table_known_versions ["self"] []
  a_Table__check_known : Addr
  f_Table__check_known : FuncData
  F_Table__check_known : Fun K "_check_known" "Table._check_known" s_Table__check_known a_Table__check_known f_Table__check_known
  b_Table__check_known : Binds K f_Table__check_known ["self", "version"] []
  a_Table__states_at : Addr
  f_Table__states_at : FuncData
  F_Table__states_at : Fun K "_states_at" "Table._states_at" s_Table__states_at a_Table__states_at f_Table__states_at
  b_Table__states_at : Binds K f_Table__states_at ["self", "version"] []
  a_Table_rows_at : Addr
  f_Table_rows_at : FuncData
  F_Table_rows_at : Fun K "rows_at" "Table.rows_at" s_Table_rows_at a_Table_rows_at f_Table_rows_at
  b_Table_rows_at : Binds K f_Table_rows_at ["self", "version"] []
  a_Table__change : Addr
  f_Table__change : FuncData
  F_Table__change : Fun K "_change" "Table._change" s_Table__change a_Table__change f_Table__change
  b_Table__change : Binds K f_Table__change ["self", "rows"] []
  a_Table_revert_to : Addr
  f_Table_revert_to : FuncData
  F_Table_revert_to : Fun K "revert_to" "Table.revert_to" s_Table_revert_to a_Table_revert_to f_Table_revert_to
  b_Table_revert_to : Binds K f_Table_revert_to ["self", "version"] []
  a_Table_change_rows : Addr
  f_Table_change_rows : FuncData
  F_Table_change_rows : Fun K "change_rows" "Table.change_rows" s_Table_change_rows a_Table_change_rows f_Table_change_rows
  b_Table_change_rows : Binds K f_Table_change_rows ["self", "edits"] []
  a_Table_drop_row : Addr
  f_Table_drop_row : FuncData
  F_Table_drop_row : Fun K "drop_row" "Table.drop_row" s_Table_drop_row a_Table_drop_row f_Table_drop_row
  b_Table_drop_row : Binds K f_Table_drop_row ["self", "row_id"] []
  a_Table_put_row : Addr
  f_Table_put_row : FuncData
  F_Table_put_row : Fun K "put_row" "Table.put_row" s_Table_put_row a_Table_put_row f_Table_put_row
  b_Table_put_row : Binds K f_Table_put_row ["self", "row_id", "values"] []
  a__law_edit : Addr
  f__law_edit : FuncData
  F__law_edit : Fun K "_law_edit" "_law_edit" s__law_edit a__law_edit f__law_edit
  b__law_edit : Binds K f__law_edit ["tape", "table", "past", "width"] []
  g__law_edit : mg "_law_edit" = some (.ref a__law_edit)
  a_Table_changes_at : Addr
  f_Table_changes_at : FuncData
  F_Table_changes_at : Fun K "changes_at" "Table.changes_at" s_Table_changes_at a_Table_changes_at f_Table_changes_at
  b_Table_changes_at : Binds K f_Table_changes_at ["self", "version"] []
  a__law_versions_right : Addr
  f__law_versions_right : FuncData
  F__law_versions_right : Fun K "_law_versions_right" "_law_versions_right" s__law_versions_right a__law_versions_right f__law_versions_right
  b__law_versions_right : Binds K f__law_versions_right ["table", "past"] []
  g__law_versions_right : mg "_law_versions_right" = some (.ref a__law_versions_right)
  a_Table___init__ : Addr
  f_Table___init__ : FuncData
  F_Table___init__ : Fun K "__init__" "Table.__init__" s_Table___init__ a_Table___init__ f_Table___init__
  b_Table___init__ : Binds K f_Table___init__ ["self", "columns"] []
  a_Table___len__ : Addr
  f_Table___len__ : FuncData
  F_Table___len__ : Fun K "__len__" "Table.__len__" s_Table___len__ a_Table___len__ f_Table___len__
  b_Table___len__ : Binds K f_Table___len__ ["self"] []
  a_Table_present : Addr
  f_Table_present : FuncData
  F_Table_present : Fun K "present" "Table.present" s_Table_present a_Table_present f_Table_present
  b_Table_present : Binds K f_Table_present ["self"] []
  a_Table_column_names : Addr
  f_Table_column_names : FuncData
  F_Table_column_names : Fun K "column_names" "Table.column_names" s_Table_column_names a_Table_column_names f_Table_column_names
  b_Table_column_names : Binds K f_Table_column_names ["self"] []
  a_law : Addr
  f_law : FuncData
  F_law : Fun K "law" "law" s_law a_law f_law
  b_law : Binds K f_law ["script"] []
  g_law : mg "law" = some (.ref a_law)
  C_Table : Addr
  K_Table : ClsAt K "Table" C_Table
  g_Table : mg "Table" = some (.ref C_Table)
  na_Table__columns : NoAttr K C_Table "_columns"
  na_Table__present : NoAttr K C_Table "_present"
  na_Table__states : NoAttr K C_Table "_states"
  na_Table__steps : NoAttr K C_Table "_steps"
  M_Table__change : Meth K C_Table "_change" a_Table__change
  M_Table__check_known : Meth K C_Table "_check_known" a_Table__check_known
  M_Table__states_at : Meth K C_Table "_states_at" a_Table__states_at
  M_Table_change_rows : Meth K C_Table "change_rows" a_Table_change_rows
  M_Table_changes_at : Meth K C_Table "changes_at" a_Table_changes_at
  M_Table_column_names : Meth K C_Table "column_names" a_Table_column_names
  M_Table_drop_row : Meth K C_Table "drop_row" a_Table_drop_row
  M_Table_known_versions : Meth K C_Table "known_versions" a_Table_known_versions
  M_Table_present : Meth K C_Table "present" a_Table_present
  M_Table_put_row : Meth K C_Table "put_row" a_Table_put_row
  M_Table_revert_to : Meth K C_Table "revert_to" a_Table_revert_to
  M_Table_rows_at : Meth K C_Table "rows_at" a_Table_rows_at
  mk_Table : Mk K C_Table a_Table___init__
  fi_Table : PySem.W.findIn K (.ref C_Table) "__len__" = some (some (.ref a_Table___len__))
  ty_Table : PySem.W.typeIn K (.ref a_Table___len__) = some (.type "function")
  n_all : mg "all" = none
  n_bool : mg "bool" = none
  n_dict : mg "dict" = none
  n_int : mg "int" = none
  n_isinstance : mg "isinstance" = none
  n_len : mg "len" = none
  n_list : mg "list" = none
  n_max : mg "max" = none
  n_min : mg "min" = none
  n_range : mg "range" = none
  n_repr : mg "repr" = none
  n_set : mg "set" = none
  n_sorted : mg "sorted" = none
  n_str : mg "str" = none
  n_tuple : mg "tuple" = none
  a_BARRED_NAMES : Addr
  o_BARRED_NAMES : Obj
  i_BARRED_NAMES : Array Value
  z_BARRED_NAMES : Nat
  c_BARRED_NAMES : mg "BARRED_NAMES" = some (.ref a_BARRED_NAMES)
  l_BARRED_NAMES : K.lookup a_BARRED_NAMES = some o_BARRED_NAMES
  h_BARRED_NAMES : o_BARRED_NAMES.cls = .type "tuple"
  x_BARRED_NAMES : o_BARRED_NAMES.dict = none
  d_BARRED_NAMES : o_BARRED_NAMES.data = .seq i_BARRED_NAMES z_BARRED_NAMES
  y_BARRED_NAMES : i_BARRED_NAMES.size ≤ sizeLine
  v_BARRED_NAMES : Vals (([Str.ofString "all", Str.ofString "and", Str.ofString "in", Str.ofString "none", Str.ofString "not", Str.ofString "or", Str.ofString "starts"] : List Str).map V.str) i_BARRED_NAMES.toList
  t_GREATEST_ID : Tok
  c_GREATEST_ID : mg "GREATEST_ID" = some (.int 1000000 t_GREATEST_ID)
  t_GREATEST_INTEGER : Tok
  c_GREATEST_INTEGER : mg "GREATEST_INTEGER" = some (.int 1000000000 t_GREATEST_INTEGER)
  t_LONGEST_NAME : Tok
  c_LONGEST_NAME : mg "LONGEST_NAME" = some (.int 8 t_LONGEST_NAME)
  t_LONGEST_STRING : Tok
  c_LONGEST_STRING : mg "LONGEST_STRING" = some (.int 20 t_LONGEST_STRING)
  t_MOST_COLUMNS : Tok
  c_MOST_COLUMNS : mg "MOST_COLUMNS" = some (.int 6 t_MOST_COLUMNS)
variable {P : Program} {w : World} {K : PySem.W.Frag} {mg : Str → Option Value} {base : Heap}
noncomputable def g_is_integer : FS := (sRet (fAnd (fIsi "int" (fVar 0)) (fNot (fIsi "bool" (fVar 0)))))
noncomputable def m_is_integer : FM := mOf N_is_integer.length g_is_integer
theorem d_is_integer (T : Txt K mg) : FnD P w K mg base 1 T.a_is_integer T.f_is_integer ["value"] m_is_integer := FnD.of T.F_is_integer sc_is_integer fun cd A outer s H gx => (ds_one (ds_ret (de_and (de_isi (T := "int") (de_var 0) (by decide) (by rfl) T.n_isinstance (by rfl) T.n_int (by decide +kernel)) (de_one (de_not (de_isi (T := "bool") (de_var 0) (by decide) (by rfl) T.n_isinstance (by rfl) T.n_bool (by decide +kernel)))))))
noncomputable def g_is_string : FS := (sSeq (sIf (fOrT (fNotT (fTest (fIsi "str" (fVar 0)))) (fTest (fOp opGt (fMk bLen (aCons (fVar 0) aNil)) (fC (.int 20))))) (sRet (fC (.bl false))) sNil) (sRet (fMk bAll (aCons (fComp (iOf asStr (fVar 0)) [1] b1 tTrue (fChain opLe opLe (fC (.str (Str.ofString " "))) (fVar 1) (fC (.str (Str.ofString "~"))))) aNil))))
noncomputable def m_is_string : FM := mOf N_is_string.length g_is_string
theorem d_is_string (T : Txt K mg) : FnD P w K mg base 1 T.a_is_string T.f_is_string ["value"] m_is_string := FnD.of T.F_is_string sc_is_string fun cd A outer s H gx => (ds_cons (ds_if (dt_w (dw_or (dt_not (dt_val (de_isi (T := "str") (de_var 0) (by decide) (by rfl) T.n_isinstance (by rfl) T.n_str (by decide +kernel)))) (dw_or1 (dt_cmp ok_gt (de_callB (id := "len") ok_len (by rfl) T.n_len (by decide +kernel) (da_cons (de_var 0) da_nil)) (de_gint (by rfl) T.c_LONGEST_STRING))))) (ds_one (ds_ret de_bl)) ds_nil) (ds_one (ds_ret (de_callB (id := "all") (ok_all gx) (by rfl) T.n_all (by decide +kernel) (da_cons (de_lc (own := [("sign", 1)]) gx.calm gx.nd (di_str (de_var 0)) (blkOk_by (N := N_is_string) (sc := defScope s_is_string) (by decide +kernel)) (tg1 1) (fun _ _ _ _ _ => (pg_name (i := 1) gx.nd rfl (.inl rfl))) (fun _ _ _ _ _ => dts_nil) (fun _ _ _ _ _ => (de_chain ok_le ok_le de_str (de_var 1) de_str))) da_nil)))))
noncomputable def g_is_value : FS := (sSeq (sIf (fTest (fCall m_is_integer (aCons (fVar 0) aNil))) (sRet (fChain opLe opLe (fUn negI (fC (.int 1000000000))) (fVar 0) (fC (.int 1000000000)))) sNil) (sRet (fOr (fOp opIs (fVar 0) (fC .non)) (fCall m_is_string (aCons (fVar 0) aNil)))))
noncomputable def m_is_value : FM := mOf N_is_value.length g_is_value
theorem d_is_value (T : Txt K mg) : FnD P w K mg base 2 T.a_is_value T.f_is_value ["value"] m_is_value := FnD.of T.F_is_value sc_is_value fun cd A outer s H gx => (ds_cons (ds_if (dt_val (de_call ((d_is_integer T).up (by decide)) gx (by rfl) T.g_is_integer T.F_is_integer.kp T.b_is_integer (da_cons (de_var 0) da_nil) (hn := (aCons_n aNil_n)))) (ds_one (ds_ret (de_chain ok_le ok_le (de_neg (de_gint (by rfl) T.c_GREATEST_INTEGER)) (de_var 0) (de_gint (by rfl) T.c_GREATEST_INTEGER)))) ds_nil) (ds_one (ds_ret (de_or (de_cmp ok_is (de_var 0) de_non) (de_one (de_call ((d_is_string T).up (by decide)) gx (by rfl) T.g_is_string T.F_is_string.kp T.b_is_string (da_cons (de_var 0) da_nil) (hn := (aCons_n aNil_n))))))))
noncomputable def g_is_name : FS := (sSeq (sIf (fOrT (fNotT (fTest (fIsi "str" (fVar 0)))) (fNotT (fTest (fChain opLe opLe (fC (.int 1)) (fMk bLen (aCons (fVar 0) aNil)) (fC (.int 8)))))) (sRet (fC (.bl false))) sNil) (sRet (fMk bAll (aCons (fComp (iOf asStr (fVar 0)) [1] b1 tTrue (fChain opLe opLe (fC (.str (Str.ofString "a"))) (fVar 1) (fC (.str (Str.ofString "z"))))) aNil))))
noncomputable def m_is_name : FM := mOf N_is_name.length g_is_name
theorem d_is_name (T : Txt K mg) : FnD P w K mg base 1 T.a_is_name T.f_is_name ["value"] m_is_name := FnD.of T.F_is_name sc_is_name fun cd A outer s H gx => (ds_cons (ds_if (dt_w (dw_or (dt_not (dt_val (de_isi (T := "str") (de_var 0) (by decide) (by rfl) T.n_isinstance (by rfl) T.n_str (by decide +kernel)))) (dw_or1 (dt_not (dt_chain ok_le ok_le de_int (de_callB (id := "len") ok_len (by rfl) T.n_len (by decide +kernel) (da_cons (de_var 0) da_nil)) (de_gint (by rfl) T.c_LONGEST_NAME)))))) (ds_one (ds_ret de_bl)) ds_nil) (ds_one (ds_ret (de_callB (id := "all") (ok_all gx) (by rfl) T.n_all (by decide +kernel) (da_cons (de_lc (own := [("sign", 1)]) gx.calm gx.nd (di_str (de_var 0)) (blkOk_by (N := N_is_name) (sc := defScope s_is_name) (by decide +kernel)) (tg1 1) (fun _ _ _ _ _ => (pg_name (i := 1) gx.nd rfl (.inl rfl))) (fun _ _ _ _ _ => dts_nil) (fun _ _ _ _ _ => (de_chain ok_le ok_le de_str (de_var 1) de_str))) da_nil)))))
noncomputable def g_is_column_name : FS := (sRet (fAnd (fCall m_is_name (aCons (fVar 0) aNil)) (fOp (inSeq true) (fVar 0) (fC (.tup (([Str.ofString "all", Str.ofString "and", Str.ofString "in", Str.ofString "none", Str.ofString "not", Str.ofString "or", Str.ofString "starts"] : List Str).map .str))))))
noncomputable def m_is_column_name : FM := mOf N_is_column_name.length g_is_column_name
theorem d_is_column_name (T : Txt K mg) : FnD P w K mg base 2 T.a_is_column_name T.f_is_column_name ["value"] m_is_column_name := FnD.of T.F_is_column_name sc_is_column_name fun cd A outer s H gx => (ds_one (ds_ret (de_and (de_call ((d_is_name T).up (by decide)) gx (by rfl) T.g_is_name T.F_is_name.kp T.b_is_name (da_cons (de_var 0) da_nil) (hn := (aCons_n aNil_n))) (de_one (de_cmp ok_notin (de_var 0) (de_gtupS (by rfl) T.c_BARRED_NAMES T.l_BARRED_NAMES T.h_BARRED_NAMES T.x_BARRED_NAMES T.d_BARRED_NAMES T.y_BARRED_NAMES T.v_BARRED_NAMES))))))
noncomputable def g_is_columns : FS := (sSeq (sIf (fOrT (fNotT (fTest (fIsi "tuple" (fVar 0)))) (fNotT (fTest (fChain opLe opLe (fC (.int 1)) (fMk bLen (aCons (fVar 0) aNil)) (fC (.int 6)))))) (sRet (fC (.bl false))) sNil) (sSeq (sIf (fNotT (fTest (fMk bAll (aCons (fComp (iOf asT (fVar 0)) [1] b1 tTrue (fCall m_is_column_name (aCons (fVar 1) aNil))) aNil)))) (sRet (fC (.bl false))) sNil) (sRet (fOp opEq (fLenSt (fVar 0)) (fMk bLen (aCons (fVar 0) aNil))))))
noncomputable def m_is_columns : FM := mOf N_is_columns.length g_is_columns
theorem d_is_columns (T : Txt K mg) : FnD P w K mg base 3 T.a_is_columns T.f_is_columns ["value"] m_is_columns := FnD.of T.F_is_columns sc_is_columns fun cd A outer s H gx => (ds_cons (ds_if (dt_w (dw_or (dt_not (dt_val (de_isi (T := "tuple") (de_var 0) (by decide) (by rfl) T.n_isinstance (by rfl) T.n_tuple (by decide +kernel)))) (dw_or1 (dt_not (dt_chain ok_le ok_le de_int (de_callB (id := "len") ok_len (by rfl) T.n_len (by decide +kernel) (da_cons (de_var 0) da_nil)) (de_gint (by rfl) T.c_MOST_COLUMNS)))))) (ds_one (ds_ret de_bl)) ds_nil) (ds_cons (ds_if (dt_not (dt_val (de_callB (id := "all") (ok_all gx) (by rfl) T.n_all (by decide +kernel) (da_cons (de_lc (own := [("name", 1)]) gx.calm gx.nd (di_tup (de_var 0)) (blkOk_by (N := N_is_columns) (sc := defScope s_is_columns) (by decide +kernel)) (tg1 1) (fun _ _ _ _ _ => (pg_name (i := 1) gx.nd rfl (.inl rfl))) (fun _ _ _ _ _ => dts_nil) (fun _ _ _ _ _ => (de_call ((d_is_column_name T).up (by decide)) gx.blk (by rfl) T.g_is_column_name T.F_is_column_name.kp T.b_is_column_name (da_cons (de_var 1) da_nil) (hn := (aCons_n aNil_n))))) da_nil)))) (ds_one (ds_ret de_bl)) ds_nil) (ds_one (ds_ret (de_cmp (ok_eq gx) (de_lenSt gx.calm (de_var 0) (by rfl) T.n_len (by rfl) T.n_set) (de_callB (id := "len") ok_len (by rfl) T.n_len (by decide +kernel) (da_cons (de_var 0) da_nil)))))))
noncomputable def g_is_row_id : FS := (sRet (fAnd (fCall m_is_integer (aCons (fVar 0) aNil)) (fChain opLe opLe (fC (.int 1)) (fVar 0) (fC (.int 1000000)))))
noncomputable def m_is_row_id : FM := mOf N_is_row_id.length g_is_row_id
theorem d_is_row_id (T : Txt K mg) : FnD P w K mg base 2 T.a_is_row_id T.f_is_row_id ["value"] m_is_row_id := FnD.of T.F_is_row_id sc_is_row_id fun cd A outer s H gx => (ds_one (ds_ret (de_and (de_call ((d_is_integer T).up (by decide)) gx (by rfl) T.g_is_integer T.F_is_integer.kp T.b_is_integer (da_cons (de_var 0) da_nil) (hn := (aCons_n aNil_n))) (de_one (de_chain ok_le ok_le de_int (de_var 0) (de_gint (by rfl) T.c_GREATEST_ID))))))
noncomputable def g_is_row : FS := (sSeq (sIf (fOrT (fNotT (fTest (fIsi "tuple" (fVar 1)))) (fTest (fOp opNe (fMk bLen (aCons (fVar 1) aNil)) (fC (.int 2))))) (sRet (fC (.bl false))) sNil) (sSeq (sAsg (fVar 1) (gT 2 (gCons' (gN 2) (gCons' (gN 3) gNil')))) (sSeq (sIf (fOrT (fNotT (fTest (fCall m_is_row_id (aCons (fVar 2) aNil)))) (fNotT (fTest (fIsi "tuple" (fVar 3))))) (sRet (fC (.bl false))) sNil) (sRet (fAnd (fOp opEq (fMk bLen (aCons (fVar 3) aNil)) (fMk bLen (aCons (fVar 0) aNil))) (fMk bAll (aCons (fComp (iOf asT (fVar 3)) [4] b1 tTrue (fCall m_is_value (aCons (fVar 4) aNil))) aNil)))))))
noncomputable def m_is_row : FM := mOf N_is_row.length g_is_row
theorem d_is_row (T : Txt K mg) : FnD P w K mg base 3 T.a_is_row T.f_is_row ["columns", "value"] m_is_row := FnD.of T.F_is_row sc_is_row fun cd A outer s H gx => (ds_cons (ds_if (dt_w (dw_or (dt_not (dt_val (de_isi (T := "tuple") (de_var 1) (by decide) (by rfl) T.n_isinstance (by rfl) T.n_tuple (by decide +kernel)))) (dw_or1 (dt_cmp (ok_ne gx) (de_callB (id := "len") ok_len (by rfl) T.n_len (by decide +kernel) (da_cons (de_var 1) da_nil)) de_int)))) (ds_one (ds_ret de_bl)) ds_nil) (ds_cons (ds_asg (de_var 1) (dg_tup gx.calm (dgs_cons (dg_name 2 gx.nd) (dgs_cons (dg_name 3 gx.nd) dgs_nil)))) (ds_cons (ds_if (dt_w (dw_or (dt_not (dt_val (de_call ((d_is_row_id T).up (by decide)) gx (by rfl) T.g_is_row_id T.F_is_row_id.kp T.b_is_row_id (da_cons (de_var 2) da_nil) (hn := (aCons_n aNil_n))))) (dw_or1 (dt_not (dt_val (de_isi (T := "tuple") (de_var 3) (by decide) (by rfl) T.n_isinstance (by rfl) T.n_tuple (by decide +kernel))))))) (ds_one (ds_ret de_bl)) ds_nil) (ds_one (ds_ret (de_and (de_cmp (ok_eq gx) (de_callB (id := "len") ok_len (by rfl) T.n_len (by decide +kernel) (da_cons (de_var 3) da_nil)) (de_callB (id := "len") ok_len (by rfl) T.n_len (by decide +kernel) (da_cons (de_var 0) da_nil))) (de_one (de_callB (id := "all") (ok_all gx) (by rfl) T.n_all (by decide +kernel) (da_cons (de_lc (own := [("item", 4)]) gx.calm gx.nd (di_tup (de_var 3)) (blkOk_by (N := N_is_row) (sc := defScope s_is_row) (by decide +kernel)) (tg1 4) (fun _ _ _ _ _ => (pg_name (i := 4) gx.nd rfl (.inl rfl))) (fun _ _ _ _ _ => dts_nil) (fun _ _ _ _ _ => (de_call ((d_is_value T).up (by decide)) gx.blk (by rfl) T.g_is_value T.F_is_value.kp T.b_is_value (da_cons (de_var 4) da_nil) (hn := (aCons_n aNil_n))))) da_nil)))))))))
noncomputable def g_is_edit : FS := (sSeq (sIf (fOrT (fNotT (fTest (fIsi "tuple" (fVar 1)))) (fTest (fOp opEq (fMk bLen (aCons (fVar 1) aNil)) (fC (.int 0))))) (sRet (fC (.bl false))) sNil) (sSeq (sIf (fTest (fOp opEq (fSub (fVar 1) (fC (.int 0))) (fC (.str (Str.ofString "put"))))) (sRet (fCall m_is_row (aCons (fVar 0) (aCons (fSlice (fVar 1) (oSome (fC (.int 1))) oNone) aNil)))) sNil) (sRet (fAnd (fOp opEq (fSub (fVar 1) (fC (.int 0))) (fC (.str (Str.ofString "drop")))) (fAnd (fOp opEq (fMk bLen (aCons (fVar 1) aNil)) (fC (.int 2))) (fCall m_is_row_id (aCons (fSub (fVar 1) (fC (.int 1))) aNil)))))))
noncomputable def m_is_edit : FM := mOf N_is_edit.length g_is_edit
theorem d_is_edit (T : Txt K mg) : FnD P w K mg base 4 T.a_is_edit T.f_is_edit ["columns", "value"] m_is_edit := FnD.of T.F_is_edit sc_is_edit fun cd A outer s H gx => (ds_cons (ds_if (dt_w (dw_or (dt_not (dt_val (de_isi (T := "tuple") (de_var 1) (by decide) (by rfl) T.n_isinstance (by rfl) T.n_tuple (by decide +kernel)))) (dw_or1 (dt_cmp (ok_eq gx) (de_callB (id := "len") ok_len (by rfl) T.n_len (by decide +kernel) (da_cons (de_var 1) da_nil)) de_int)))) (ds_one (ds_ret de_bl)) ds_nil) (ds_cons (ds_if (dt_cmp (ok_eq gx) (de_sub gx (de_var 1) de_int) de_str) (ds_one (ds_ret (de_call ((d_is_row T).up (by decide)) gx (by rfl) T.g_is_row T.F_is_row.kp T.b_is_row (da_cons (de_var 0) (da_cons (de_slice (de_var 1) (do_some de_int) do_none) da_nil)) (hn := (aCons_n (aCons_n aNil_n)))))) ds_nil) (ds_one (ds_ret (de_and (de_cmp (ok_eq gx) (de_sub gx (de_var 1) de_int) de_str) (de_and (de_cmp (ok_eq gx) (de_callB (id := "len") ok_len (by rfl) T.n_len (by decide +kernel) (da_cons (de_var 1) da_nil)) de_int) (de_one (de_call ((d_is_row_id T).up (by decide)) gx (by rfl) T.g_is_row_id T.F_is_row_id.kp T.b_is_row_id (da_cons (de_sub gx (de_var 1) de_int) da_nil) (hn := (aCons_n aNil_n))))))))))
noncomputable def g_values_of : FS := (sSeq (sIf (fTest (fOp opIs (fVar 0) (fC .non))) (sRet (fC .non)) sNil) (sRet (fSub (fVar 0) (fC (.int 1)))))
noncomputable def m_values_of : FM := mOf N_values_of.length g_values_of
theorem d_values_of (T : Txt K mg) : FnD P w K mg base 1 T.a_values_of T.f_values_of ["state"] m_values_of := FnD.of T.F_values_of sc_values_of fun cd A outer s H gx => (ds_cons (ds_if (dt_cmp ok_is (de_var 0) de_non) (ds_one (ds_ret de_non)) ds_nil) (ds_one (ds_ret (de_sub gx (de_var 0) de_int))))
noncomputable def g_take_step : FS := (sFor (iFrz kKeys (fVar 1)) (gN 2) (sIf (fTest (fOp opIs (fSub (fVar 1) (fVar 2)) (fC .non))) (sDrop (fPop2 (fVar 0) (fVar 2) (fC .non))) (sPut (fVar 0) (fVar 2) (fSub (fVar 1) (fVar 2)))))
noncomputable def m_take_step : FM := mOf N_take_step.length g_take_step
theorem d_take_step (T : Txt K mg) : FnD P w K mg base 1 T.a_take_step T.f_take_step ["states", "step"] m_take_step := FnD.of T.F_take_step sc_take_step fun cd A outer s H gx => (ds_one (ds_forR PassesOwn.never gx.calm (di_keysF (de_var 1)) (dg_name 2 gx.nd) (ds_one (ds_if (dt_cmp ok_is (de_sub gx (de_var 1) (de_var 2)) de_non) (ds_one (ds_expr (de_pop2 (de_var 0) (de_var 2) de_non ⟨rfl, rfl, rfl, rfl⟩))) (ds_one (ds_put gx (de_var 0) (de_var 2) (de_sub gx (de_var 1) (de_var 2))))))))
noncomputable def g__law_tape : FS := (sSeq (sAsg (fOp opAdd (fC (.int 97)) (fOp opMul (fVar 1) (fC (.int 31)))) (gN 2)) (sSeq (sFor (iOf asScr (fVar 0)) (gN 3) (sAsg (fOp opAdd (fOp modI (fOp powI (fOp opAdd (fOp opAdd (fOp opMul (fVar 2) (fC (.int 30011))) (fOp opMul (fVar 3) (fVar 3))) (fC (.int 7))) (fC (.int 2))) (fC (.int 2147483563))) (fC (.int 2))) (gN 2))) (sSeq (sAsg (fIfE (fAndT (fTest (fOp opLt (fVar 1) (fMk bLen (aCons (fVar 0) aNil)))) (fTest (fOp opGe (fSub (fVar 0) (fVar 1)) (fOp powI (fC (.int 10)) (fC (.int 18)))))) (fOp subI (fSub (fVar 0) (fVar 1)) (fOp powI (fC (.int 10)) (fC (.int 18)))) (fC (.int 0))) (gN 4)) (sRet (fDict (((fC (.str (Str.ofString "digits"))), (fVar 4)) :: (((fC (.str (Str.ofString "mixed"))), (fVar 2)) :: [])))))))
noncomputable def m__law_tape : FM := mOf N__law_tape.length g__law_tape
theorem d__law_tape (T : Txt K mg) : FnD P w K mg base 1 T.a__law_tape T.f__law_tape ["script", "start"] m__law_tape := FnD.of T.F__law_tape sc__law_tape fun cd A outer s H gx => (ds_cons (ds_asg (de_op ok_add de_int (de_op ok_mul (de_var 1) de_int)) (dg_name 2 gx.nd)) (ds_cons (ds_forR PassesOwn.never gx.calm (di_scr (de_var 0)) (dg_name 3 gx.nd) (ds_one (ds_asg (de_op ok_add (de_op ok_modI (de_op ok_powI (de_op ok_add (de_op ok_add (de_op ok_mul (de_var 2) de_int) (de_op ok_mul (de_var 3) (de_var 3))) de_int) de_int) de_int) de_int) (dg_name 2 gx.nd)))) (ds_cons (ds_asg (de_if (dt_w (dw_and (dt_cmp ok_lt (de_var 1) (de_callB (id := "len") ok_len (by rfl) T.n_len (by decide +kernel) (da_cons (de_var 0) da_nil))) (dw_and1 (dt_cmp ok_ge (de_sub gx (de_var 0) (de_var 1)) (de_op ok_powI de_int de_int))))) (de_op ok_subI (de_sub gx (de_var 0) (de_var 1)) (de_op ok_powI de_int de_int)) de_int) (dg_name 4 gx.nd)) (ds_one (ds_ret (de_dict (.cons de_str (de_var 4) (.cons de_str (de_var 2) .nil))))))))
noncomputable def g__law_pick : FS := (sSeq (sIf (fTest (fOp opGe (fSub (fVar 0) (fC (.str (Str.ofString "digits")))) (fVar 1))) (sSeq (sAsg (fOp modI (fSub (fVar 0) (fC (.str (Str.ofString "digits")))) (fVar 1)) (gN 2)) (sSeq (sPut (fVar 0) (fC (.str (Str.ofString "digits"))) (fOp fdivI (fSub (fVar 0) (fC (.str (Str.ofString "digits")))) (fVar 1))) (sRet (fVar 2)))) sNil) (sSeq (sPut (fVar 0) (fC (.str (Str.ofString "mixed"))) (fOp modI (fOp opAdd (fOp opMul (fSub (fVar 0) (fC (.str (Str.ofString "mixed")))) (fC (.int 40014))) (fC (.int 1013))) (fC (.int 2147483563)))) (sRet (fOp modI (fOp fdivI (fOp modI (fOp powI (fOp modI (fOp powI (fSub (fVar 0) (fC (.str (Str.ofString "mixed")))) (fC (.int 2))) (fC (.int 2147483399))) (fC (.int 3))) (fC (.int 998244353))) (fC (.int 5))) (fVar 1)))))
noncomputable def m__law_pick : FM := mOf N__law_pick.length g__law_pick
theorem d__law_pick (T : Txt K mg) : FnD P w K mg base 1 T.a__law_pick T.f__law_pick ["tape", "size"] m__law_pick := FnD.of T.F__law_pick sc__law_pick fun cd A outer s H gx => (ds_cons (ds_if (dt_cmp ok_ge (de_sub gx (de_var 0) de_str) (de_var 1)) (ds_cons (ds_asg (de_op ok_modI (de_sub gx (de_var 0) de_str) (de_var 1)) (dg_name 2 gx.nd)) (ds_cons (ds_put gx (de_var 0) de_str (de_op ok_fdivI (de_sub gx (de_var 0) de_str) (de_var 1))) (ds_one (ds_ret (de_var 2))))) ds_nil) (ds_cons (ds_put gx (de_var 0) de_str (de_op ok_modI (de_op ok_add (de_op ok_mul (de_sub gx (de_var 0) de_str) de_int) de_int) de_int)) (ds_one (ds_ret (de_op ok_modI (de_op ok_fdivI (de_op ok_modI (de_op ok_powI (de_op ok_modI (de_op ok_powI (de_sub gx (de_var 0) de_str) de_int) de_int) de_int) de_int) de_int) (de_var 1))))))
noncomputable def g__law_one_of : FS := (sRet (fSub (fVar 1) (fCall m__law_pick (aCons (fVar 0) (aCons (fMk bLen (aCons (fVar 1) aNil)) aNil)))))
noncomputable def m__law_one_of : FM := mOf N__law_one_of.length g__law_one_of
theorem d__law_one_of (T : Txt K mg) : FnD P w K mg base 2 T.a__law_one_of T.f__law_one_of ["tape", "items"] m__law_one_of := FnD.of T.F__law_one_of sc__law_one_of fun cd A outer s H gx => (ds_one (ds_ret (de_sub gx (de_var 1) (de_call ((d__law_pick T).up (by decide)) gx (by rfl) T.g__law_pick T.F__law_pick.kp T.b__law_pick (da_cons (de_var 0) (da_cons (de_callB (id := "len") ok_len (by rfl) T.n_len (by decide +kernel) (da_cons (de_var 1) da_nil)) da_nil)) (hn := (aCons_n (aCons_n aNil_n)))))))
noncomputable def g__law_value : FS := (sSeq (sIf (fTest (fOp opEq (fCall m__law_pick (aCons (fVar 0) (aCons (fC (.int 24)) aNil))) (fC (.int 0)))) (sSeq (sAsg (fC (.str (Str.ofString " !#$&'()*+,-./0123456789:;<=>?@ABCDEFGHIJKLMNOPQRSTUVWXYZ[]^_{|}~"))) (gN 1)) (sSeq (sAsg (fMk bList (aCons (fOp opAdd (fVar 1) (fC (.str (Str.ofString "abcdefghijklmnopqrstuvwxyz")))) aNil)) (gN 1)) (sRet (fMt joinD (fC (.str (Str.ofString ""))) (aCons (fComp (iOfA asR1 (aCons (fOp opAdd (fC (.int 1)) (fCall m__law_pick (aCons (fVar 0) (aCons (fC (.int 20)) aNil)))) aNil)) [3] b1 tTrue (fCall m__law_one_of (aCons (fVar 0) (aCons (fVar 1) aNil)))) aNil))))) sNil) (sSeq (sAsg (fMk mkLst (aCons (fC .non) (aCons (fC (.int 0)) (aCons (fC (.int 1)) (aCons (fC (.int 2)) (aCons (fOp subI (fC (.int 0)) (fC (.int 1))) (aCons (fC (.int 1)) (aCons (fC (.int 2)) (aCons (fOp powI (fC (.int 10)) (fC (.int 9))) (aCons (fOp subI (fC (.int 0)) (fOp powI (fC (.int 10)) (fC (.int 9)))) (aCons (fC (.str (Str.ofString ""))) (aCons (fC (.str (Str.ofString "a"))) (aCons (fC (.str (Str.ofString "ab"))) (aCons (fC (.str (Str.ofString "b"))) (aCons (fC (.str (Str.ofString "a b"))) (aCons (fC (.str (Str.ofString "A"))) (aCons (fC (.str (Str.ofString "~"))) (aCons (fOp opMul (fC (.str (Str.ofString "z"))) (fC (.int 20))) aNil)))))))))))))))))) (gN 2)) (sSeq (sAsg (fOp opAdd (fVar 2) (fMk mkLst (aCons (fOp opMul (fC (.str (Str.ofString "z"))) (fC (.int 19))) (aCons (fC (.str (Str.ofString "customer one"))) (aCons (fC (.str (Str.ofString "customer two"))) (aCons (fC (.str (Str.ofString "1"))) (aCons (fC (.str (Str.ofString "-1"))) (aCons (fC (.int 2)) (aCons (fC (.str (Str.ofString "abc"))) (aCons (fC (.str (Str.ofString "abd"))) aNil)))))))))) (gN 2)) (sRet (fCall m__law_one_of (aCons (fVar 0) (aCons (fVar 2) aNil)))))))
noncomputable def m__law_value : FM := mOf N__law_value.length g__law_value
theorem d__law_value (T : Txt K mg) : FnD P w K mg base 3 T.a__law_value T.f__law_value ["tape"] m__law_value := FnD.of T.F__law_value sc__law_value fun cd A outer s H gx => (ds_cons (ds_if (dt_cmp (ok_eq gx) (de_call ((d__law_pick T).up (by decide)) gx (by rfl) T.g__law_pick T.F__law_pick.kp T.b__law_pick (da_cons (de_var 0) (da_cons de_int da_nil)) (hn := (aCons_n (aCons_n aNil_n)))) de_int) (ds_cons (ds_asg de_str (dg_name 1 gx.nd)) (ds_cons (ds_asg (de_callTy (T := "list") (ok_list gx) (by rfl) T.n_list (by decide +kernel) (da_cons (de_op ok_add (de_var 1) de_str) da_nil)) (dg_name 1 gx.nd)) (ds_one (ds_ret (de_mt mt_join joinTy joinOk PySem.F.plainAttrs_str PySem.F.slot_str_join PySem.F.type_str_join de_str (da_cons (de_lc (own := [("turn", 3)]) gx.calm gx.nd (di_range1 (by rfl) T.n_range (da_cons (de_op ok_add de_int (de_call ((d__law_pick T).up (by decide)) gx (by rfl) T.g__law_pick T.F__law_pick.kp T.b__law_pick (da_cons (de_var 0) (da_cons de_int da_nil)) (hn := (aCons_n (aCons_n aNil_n))))) da_nil)) (blkOk_by (N := N__law_value) (sc := defScope s__law_value) (by decide +kernel)) (tg1 3) (fun _ _ _ _ _ => (pg_name (i := 3) gx.nd rfl (.inl rfl))) (fun _ _ _ _ _ => dts_nil) (fun _ _ _ _ _ => (de_call ((d__law_one_of T).up (by decide)) gx.blk (by rfl) T.g__law_one_of T.F__law_one_of.kp T.b__law_one_of (da_cons (de_var 0) (da_cons (de_var 1) da_nil)) (hn := (aCons_n (aCons_n aNil_n)))))) da_nil)))))) ds_nil) (ds_cons (ds_asg (de_lst (da_cons de_non (da_cons de_int (da_cons de_int (da_cons de_int (da_cons (de_op ok_subI de_int de_int) (da_cons de_int (da_cons de_int (da_cons (de_op ok_powI de_int de_int) (da_cons (de_op ok_subI de_int (de_op ok_powI de_int de_int)) (da_cons de_str (da_cons de_str (da_cons de_str (da_cons de_str (da_cons de_str (da_cons de_str (da_cons de_str (da_cons (de_op ok_mul de_str de_int) da_nil)))))))))))))))))) (dg_name 2 gx.nd)) (ds_cons (ds_asg (de_op ok_add (de_var 2) (de_lst (da_cons (de_op ok_mul de_str de_int) (da_cons de_str (da_cons de_str (da_cons de_str (da_cons de_str (da_cons de_int (da_cons de_str (da_cons de_str da_nil)))))))))) (dg_name 2 gx.nd)) (ds_one (ds_ret (de_call ((d__law_one_of T).up (by decide)) gx (by rfl) T.g__law_one_of T.F__law_one_of.kp T.b__law_one_of (da_cons (de_var 0) (da_cons (de_var 2) da_nil)) (hn := (aCons_n (aCons_n aNil_n)))))))))
noncomputable def g__law_values : FS := (sRet (fMk bTuple (aCons (fComp (iOfA asR1 (aCons (fVar 1) aNil)) [2] b1 tTrue (fCall m__law_value (aCons (fVar 0) aNil))) aNil)))
noncomputable def m__law_values : FM := mOf N__law_values.length g__law_values
theorem d__law_values (T : Txt K mg) : FnD P w K mg base 4 T.a__law_values T.f__law_values ["tape", "width"] m__law_values := FnD.of T.F__law_values sc__law_values fun cd A outer s H gx => (ds_one (ds_ret (de_callTy (T := "tuple") ok_tuple (by rfl) T.n_tuple (by decide +kernel) (da_cons (de_lc (own := [("column", 2)]) gx.calm gx.nd (di_range1 (by rfl) T.n_range (da_cons (de_var 1) da_nil)) (blkOk_by (N := N__law_values) (sc := defScope s__law_values) (by decide +kernel)) (tg1 2) (fun _ _ _ _ _ => (pg_name (i := 2) gx.nd rfl (.inl rfl))) (fun _ _ _ _ _ => dts_nil) (fun _ _ _ _ _ => (de_call ((d__law_value T).up (by decide)) gx.blk (by rfl) T.g__law_value T.F__law_value.kp T.b__law_value (da_cons (de_var 0) da_nil) (hn := (aCons_n aNil_n))))) da_nil))))
noncomputable def g_Table_known_versions : FS := (sRet (fSortKR (fFld "Table" "_steps" (fVar 0))))
noncomputable def m_Table_known_versions : FM := mOf N_Table_known_versions.length g_Table_known_versions
theorem d_Table_known_versions (T : Txt K mg) : FnD P w K mg base 1 T.a_Table_known_versions T.f_Table_known_versions ["self"] m_Table_known_versions := FnD.of T.F_Table_known_versions sc_Table_known_versions fun cd A outer s H gx => (ds_one (ds_ret (de_sortKR gx (de_fld T.K_Table T.na_Table__steps (de_var 0)) (by rfl) T.n_sorted)))
noncomputable def g_Table__check_known : FS := (sIf (fOrT (fNotT (fTest (fCall m_is_integer (aCons (fVar 1) aNil)))) (fTest (fInD true (fVar 1) (fFld "Table" "_steps" (fVar 0))))) sNever sNil)
noncomputable def m_Table__check_known : FM := mOf N_Table__check_known.length g_Table__check_known
theorem d_Table__check_known (T : Txt K mg) : FnD P w K mg base 2 T.a_Table__check_known T.f_Table__check_known ["self", "version"] m_Table__check_known := FnD.of T.F_Table__check_known sc_Table__check_known fun cd A outer s H gx => (ds_one (ds_if (dt_w (dw_or (dt_not (dt_val (de_call ((d_is_integer T).up (by decide)) gx (by rfl) T.g_is_integer T.F_is_integer.kp T.b_is_integer (da_cons (de_var 1) da_nil) (hn := (aCons_n aNil_n))))) (dw_or1 (dt_notinD gx (de_var 1) (de_fld T.K_Table T.na_Table__steps (de_var 0)))))) (ds_one ds_never) ds_nil))
noncomputable def g_Table__states_at : FS := (sSeq (sDrop (fMeth "Table" "_check_known" m_Table__check_known (fVar 0) (aCons (fVar 1) aNil))) (sSeq (sAsg fNewD (gN 2)) (sSeq (sLock (whichR (fFld "Table" "_steps" (fVar 0))) (sFor (iFrz kItems (fFld "Table" "_steps" (fVar 0))) (gT 2 (gCons' (gN 3) (gCons' (gN 4) gNil'))) (sIf (fTest (fOp opLe (fVar 3) (fVar 1))) (sDrop (fCall m_take_step (aCons (fVar 2) (aCons (fVar 4) aNil)))) sNil))) (sRet (fVar 2)))))
noncomputable def m_Table__states_at : FM := mOf N_Table__states_at.length g_Table__states_at
theorem d_Table__states_at (T : Txt K mg) : FnD P w K mg base 3 T.a_Table__states_at T.f_Table__states_at ["self", "version"] m_Table__states_at := FnD.of T.F_Table__states_at sc_Table__states_at fun cd A outer s H gx => (ds_cons (ds_expr (de_meth T.K_Table T.M_Table__check_known ((d_Table__check_known T).up (by decide)) gx T.b_Table__check_known (de_var 0) (da_cons (de_var 1) da_nil) (hn := (aCons_n aNil_n)))) (ds_cons (ds_asg de_newD (dg_name 2 gx.nd)) (ds_cons (ds_lock (whichR (fFld "Table" "_steps" (fVar 0))) (ds_forR PassesOwn.never gx.calm (di_itemsF (de_fld T.K_Table T.na_Table__steps (de_var 0))) (dg_tupI gx.calm (dgs_cons (dg_name 3 gx.nd) (dgs_cons (dg_name 4 gx.nd) dgs_nil))) (ds_one (ds_if (dt_cmp ok_le (de_var 3) (de_var 1)) (ds_one (ds_expr (de_call ((d_take_step T).up (by decide)) gx (by rfl) T.g_take_step T.F_take_step.kp T.b_take_step (da_cons (de_var 2) (da_cons (de_var 4) da_nil)) (hn := (aCons_n (aCons_n aNil_n)))))) ds_nil)))) (ds_one (ds_ret (de_var 2))))))
noncomputable def g_Table_rows_at : FS := (sSeq (sAsg (fMeth "Table" "_states_at" m_Table__states_at (fVar 0) (aCons (fVar 1) aNil)) (gN 2)) (sRet (fDComp (iOf asL (fSortKs (fVar 2))) [3] b1 tTrue (fVar 3) (fSub (fSub (fVar 2) (fVar 3)) (fC (.int 1))))))
noncomputable def m_Table_rows_at : FM := mOf N_Table_rows_at.length g_Table_rows_at
theorem d_Table_rows_at (T : Txt K mg) : FnD P w K mg base 4 T.a_Table_rows_at T.f_Table_rows_at ["self", "version"] m_Table_rows_at := FnD.of T.F_Table_rows_at sc_Table_rows_at fun cd A outer s H gx => (ds_cons (ds_asg (de_meth T.K_Table T.M_Table__states_at ((d_Table__states_at T).up (by decide)) gx T.b_Table__states_at (de_var 0) (da_cons (de_var 1) da_nil) (hn := (aCons_n aNil_n))) (dg_name 2 gx.nd)) (ds_one (ds_ret (de_dc (own := [("row_id", 3)]) gx.calm gx.nd (di_lst (de_sortKs gx (de_var 2) (by rfl) T.n_sorted)) (blkOk_by (N := N_Table_rows_at) (sc := defScope s_Table_rows_at) (by decide +kernel)) (tg1 3) (fun _ _ _ _ _ => (pg_name (i := 3) gx.nd rfl (.inl rfl))) (fun _ _ _ _ _ => dts_nil) (fun _ _ _ _ _ => (de_var 3)) (fun _ _ _ _ _ => (de_sub gx.blk (de_sub gx.blk (de_var 2) (de_var 3)) de_int))))))
noncomputable def g_Table__change : FS := (sSeq (sAsg (fOp opAdd (fFld "Table" "_present" (fVar 0)) (fC (.int 1))) (gN 2)) (sSeq (sAsg fNewD (gN 3)) (sSeq (sFor (iFrz kKeys (fVar 1)) (gN 4) (sSeq (sAsg (fSub (fVar 1) (fVar 4)) (gN 5)) (sIf (fTest (fOp opNe (fVar 5) (fCall m_values_of (aCons (fGet1 (fFld "Table" "_states" (fVar 0)) (fVar 4)) aNil)))) (sPut (fVar 3) (fVar 4) (fIfE (fTest (fOp opIs (fVar 5) (fC .non))) (fC .non) (fMk mkTup (aCons (fVar 2) (aCons (fVar 5) aNil))))) sNil))) (sSeq (sSeq (sFrzV 3) (sIf (fTest (fOp opGt (fMk bLen (aCons (fVar 3) aNil)) (fC (.int 0)))) (sSeq (sDrop (fCall m_take_step (aCons (fFld "Table" "_states" (fVar 0)) (aCons (fVar 3) aNil)))) (sSeq (sPut (fFld "Table" "_steps" (fVar 0)) (fVar 2) (fVar 3)) (sFldD "Table" "_present" (fVar 0) (fVar 2)))) sNil)) (sRet (fFld "Table" "_present" (fVar 0)))))))
noncomputable def m_Table__change : FM := mOf N_Table__change.length g_Table__change
theorem d_Table__change (T : Txt K mg) : FnD P w K mg base 2 T.a_Table__change T.f_Table__change ["self", "rows"] m_Table__change := FnD.of T.F_Table__change sc_Table__change fun cd A outer s H gx => (ds_cons (ds_asg (de_op ok_add (de_fld T.K_Table T.na_Table__present (de_var 0)) de_int) (dg_name 2 gx.nd)) (ds_cons (ds_asg de_newD (dg_name 3 gx.nd)) (ds_cons (ds_forR PassesOwn.never gx.calm (di_keysF (de_var 1)) (dg_name 4 gx.nd) (ds_cons (ds_asg (de_sub gx (de_var 1) (de_var 4)) (dg_name 5 gx.nd)) (ds_one (ds_if (dt_cmp (ok_ne gx) (de_var 5) (de_call ((d_values_of T).up (by decide)) gx (by rfl) T.g_values_of T.F_values_of.kp T.b_values_of (da_cons (de_get1 gx (de_fld T.K_Table T.na_Table__states (de_var 0)) (de_var 4) ⟨rfl, rfl, rfl, rfl⟩) da_nil) (hn := (aCons_n aNil_n)))) (ds_one (ds_put gx (de_var 3) (de_var 4) (de_if (dt_cmp ok_is (de_var 5) de_non) de_non (de_tup (da_cons (de_var 2) (da_cons (de_var 5) da_nil)))))) ds_nil)))) (ds_cons (ds_frzV 3 (ds_if (dt_cmp ok_gt (de_callB (id := "len") ok_len (by rfl) T.n_len (by decide +kernel) (da_cons (de_var 3) da_nil)) de_int) (ds_cons (ds_expr (de_call ((d_take_step T).up (by decide)) gx (by rfl) T.g_take_step T.F_take_step.kp T.b_take_step (da_cons (de_fld T.K_Table T.na_Table__states (de_var 0)) (da_cons (de_var 3) da_nil)) (hn := (aCons_n (aCons_n aNil_n))))) (ds_cons (ds_put gx (de_fld T.K_Table T.na_Table__steps (de_var 0)) (de_var 2) (de_var 3)) (ds_one (ds_fld T.K_Table T.na_Table__present (de_var 0) (de_var 2))))) ds_nil)) (ds_one (ds_ret (de_fld T.K_Table T.na_Table__present (de_var 0))))))))
noncomputable def g_Table_revert_to : FS := (sSeq (sAsg (fMeth "Table" "rows_at" m_Table_rows_at (fVar 0) (aCons (fVar 1) aNil)) (gN 2)) (sSeq (sLock (whichR (fFld "Table" "_states" (fVar 0))) (sAsg (fDComp (iFrz kKeys (fFld "Table" "_states" (fVar 0))) [4] b1 tTrue (fVar 4) (fC .non)) (gN 3))) (sSeq (sDrop (fUpd (fVar 3) (fVar 2))) (sSeq (sFrzV 3) (sRet (fMeth "Table" "_change" m_Table__change (fVar 0) (aCons (fVar 3) aNil)))))))
noncomputable def m_Table_revert_to : FM := mOf N_Table_revert_to.length g_Table_revert_to
theorem d_Table_revert_to (T : Txt K mg) : FnD P w K mg base 5 T.a_Table_revert_to T.f_Table_revert_to ["self", "version"] m_Table_revert_to := FnD.of T.F_Table_revert_to sc_Table_revert_to fun cd A outer s H gx => (ds_cons (ds_asg (de_meth T.K_Table T.M_Table_rows_at ((d_Table_rows_at T).up (by decide)) gx T.b_Table_rows_at (de_var 0) (da_cons (de_var 1) da_nil) (hn := (aCons_n aNil_n))) (dg_name 2 gx.nd)) (ds_cons (ds_lock (whichR (fFld "Table" "_states" (fVar 0))) (ds_setDc (own := [("row_id", 4)]) (i := 3) gx.calm gx.nd rfl rfl (sw_trueD rfl rfl rfl (by decide +kernel)) (di_keysF (de_fld T.K_Table T.na_Table__states (de_var 0))) (blkOk_by (N := N_Table_revert_to) (sc := defScope s_Table_revert_to) (by decide +kernel)) (tg1 4) (fun _ _ _ _ _ => (pg_name (i := 4) gx.nd rfl (.inl rfl))) (fun _ _ _ _ _ => dts_nil) (fun _ _ _ _ _ => (de_var 4)) (fun _ _ _ _ _ => de_non))) (ds_cons (ds_expr (de_upd (de_var 3) (de_var 2) ⟨rfl, rfl, rfl, rfl⟩)) (ds_one (ds_frzV 3 (ds_ret (de_meth T.K_Table T.M_Table__change ((d_Table__change T).up (by decide)) gx T.b_Table__change (de_var 0) (da_cons (de_var 3) da_nil) (hn := (aCons_n aNil_n)))))))))
noncomputable def g_Table_change_rows : FS := (sSeq (sFor (iOf asL (fVar 1)) (gN 2) (sIf (fNotT (fTest (fCall m_is_edit (aCons (fFld "Table" "_columns" (fVar 0)) (aCons (fVar 2) aNil))))) sNever sNil)) (sSeq (sAsg fNewD (gN 3)) (sSeq (sFor (iOf asL (fVar 1)) (gN 2) (sPut (fVar 3) (fSub (fVar 2) (fC (.int 1))) (fIfE (fTest (fOp opEq (fSub (fVar 2) (fC (.int 0))) (fC (.str (Str.ofString "put"))))) (fSub (fVar 2) (fC (.int 2))) (fC .non)))) (sSeq (sFrzV 3) (sRet (fMeth "Table" "_change" m_Table__change (fVar 0) (aCons (fVar 3) aNil)))))))
noncomputable def m_Table_change_rows : FM := mOf N_Table_change_rows.length g_Table_change_rows
theorem d_Table_change_rows (T : Txt K mg) : FnD P w K mg base 5 T.a_Table_change_rows T.f_Table_change_rows ["self", "edits"] m_Table_change_rows := FnD.of T.F_Table_change_rows sc_Table_change_rows fun cd A outer s H gx => (ds_cons (ds_forR PassesOwn.never gx.calm (di_lst (de_var 1)) (dg_name 2 gx.nd) (ds_one (ds_if (dt_not (dt_val (de_call ((d_is_edit T).up (by decide)) gx (by rfl) T.g_is_edit T.F_is_edit.kp T.b_is_edit (da_cons (de_fld T.K_Table T.na_Table__columns (de_var 0)) (da_cons (de_var 2) da_nil)) (hn := (aCons_n (aCons_n aNil_n)))))) (ds_one ds_never) ds_nil))) (ds_cons (ds_asg de_newD (dg_name 3 gx.nd)) (ds_cons (ds_forR PassesOwn.never gx.calm (di_lst (de_var 1)) (dg_name 2 gx.nd) (ds_one (ds_put gx (de_var 3) (de_sub gx (de_var 2) de_int) (de_if (dt_cmp (ok_eq gx) (de_sub gx (de_var 2) de_int) de_str) (de_sub gx (de_var 2) de_int) de_non)))) (ds_one (ds_frzV 3 (ds_ret (de_meth T.K_Table T.M_Table__change ((d_Table__change T).up (by decide)) gx T.b_Table__change (de_var 0) (da_cons (de_var 3) da_nil) (hn := (aCons_n aNil_n)))))))))
noncomputable def g_Table_drop_row : FS := (sSeq (sIf (fNotT (fTest (fCall m_is_row_id (aCons (fVar 1) aNil)))) sNever sNil) (sRet (fMeth "Table" "_change" m_Table__change (fVar 0) (aCons (fFrz (fDict (((fVar 1), (fC .non)) :: []))) aNil))))
noncomputable def m_Table_drop_row : FM := mOf N_Table_drop_row.length g_Table_drop_row
theorem d_Table_drop_row (T : Txt K mg) : FnD P w K mg base 3 T.a_Table_drop_row T.f_Table_drop_row ["self", "row_id"] m_Table_drop_row := FnD.of T.F_Table_drop_row sc_Table_drop_row fun cd A outer s H gx => (ds_cons (ds_if (dt_not (dt_val (de_call ((d_is_row_id T).up (by decide)) gx (by rfl) T.g_is_row_id T.F_is_row_id.kp T.b_is_row_id (da_cons (de_var 1) da_nil) (hn := (aCons_n aNil_n))))) (ds_one ds_never) ds_nil) (ds_one (ds_ret (de_meth T.K_Table T.M_Table__change ((d_Table__change T).up (by decide)) gx T.b_Table__change (de_var 0) (da_cons (de_frz (de_dict (.cons (de_var 1) de_non .nil))) da_nil) (hn := (aCons_n aNil_n))))))
noncomputable def g_Table_put_row : FS := (sSeq (sAsg (fMk mkTup (aCons (fVar 1) (aCons (fVar 2) aNil))) (gN 3)) (sSeq (sIf (fNotT (fTest (fCall m_is_row (aCons (fFld "Table" "_columns" (fVar 0)) (aCons (fVar 3) aNil))))) sNever sNil) (sRet (fMeth "Table" "_change" m_Table__change (fVar 0) (aCons (fFrz (fDict (((fVar 1), (fVar 2)) :: []))) aNil)))))
noncomputable def m_Table_put_row : FM := mOf N_Table_put_row.length g_Table_put_row
theorem d_Table_put_row (T : Txt K mg) : FnD P w K mg base 4 T.a_Table_put_row T.f_Table_put_row ["self", "row_id", "values"] m_Table_put_row := FnD.of T.F_Table_put_row sc_Table_put_row fun cd A outer s H gx => (ds_cons (ds_asg (de_tup (da_cons (de_var 1) (da_cons (de_var 2) da_nil))) (dg_name 3 gx.nd)) (ds_cons (ds_if (dt_not (dt_val (de_call ((d_is_row T).up (by decide)) gx (by rfl) T.g_is_row T.F_is_row.kp T.b_is_row (da_cons (de_fld T.K_Table T.na_Table__columns (de_var 0)) (da_cons (de_var 3) da_nil)) (hn := (aCons_n (aCons_n aNil_n)))))) (ds_one ds_never) ds_nil) (ds_one (ds_ret (de_meth T.K_Table T.M_Table__change ((d_Table__change T).up (by decide)) gx T.b_Table__change (de_var 0) (da_cons (de_frz (de_dict (.cons (de_var 1) (de_var 2) .nil))) da_nil) (hn := (aCons_n aNil_n)))))))
noncomputable def g__law_edit : FS := (sSeq (sPar (par2 4 5) (aCons (fOp opAdd (fC (.int 1)) (fCall m__law_pick (aCons (fVar 0) (aCons (fC (.int 7)) aNil)))) (aCons (fCall m__law_pick (aCons (fVar 0) (aCons (fC (.int 12)) aNil))) aNil))) (sSeq (sPar (par2 6 7) (aCons (fDictC (fSub (fSub (fVar 2) (fUn negI (fC (.int 1)))) (fC (.int 0)))) (aCons (fDictC (fSub (fSub (fVar 2) (fUn negI (fC (.int 1)))) (fC (.int 1)))) aNil))) (sSeq (sAsg (fDictC (fVar 6)) (gN 8)) (sSeq (sIf (fTest (fOp opEq (fVar 5) (fC (.int 0)))) (sSeq (sAsg (fCall m__law_one_of (aCons (fVar 0) (aCons (fMeth0 "Table" "known_versions" m_Table_known_versions (fVar 1)) aNil))) (gN 9)) (sSeq (sAsg (fMeth "Table" "revert_to" m_Table_revert_to (fVar 1) (aCons (fVar 9) aNil)) (gN 10)) (sAsg (fDictC (fSub (fSub (fVar 2) (fVar 9)) (fC (.int 0)))) (gN 8)))) (sIf (fTest (fOp opEq (fVar 5) (fC (.int 1)))) (sSeq (sAsg (fNewL (aCons (fMk mkTup (aCons (fC (.str (Str.ofString "put"))) (aCons (fVar 4) (aCons (fCall m__law_values (aCons (fVar 0) (aCons (fVar 3) aNil))) aNil)))) (aCons (fMk mkTup (aCons (fC (.str (Str.ofString "drop"))) (aCons (fOp opAdd (fC (.int 1)) (fCall m__law_pick (aCons (fVar 0) (aCons (fC (.int 7)) aNil)))) aNil))) aNil))) (gN 11)) (sSeq (sDrop (fIns (fVar 11) (fCall m__law_pick (aCons (fVar 0) (aCons (fC (.int 3)) aNil))) (fMk mkTup (aCons (fC (.str (Str.ofString "put"))) (aCons (fOp opAdd (fC (.int 1)) (fCall m__law_pick (aCons (fVar 0) (aCons (fC (.int 7)) aNil)))) (aCons (fCall m__law_values (aCons (fVar 0) (aCons (fVar 3) aNil))) aNil)))))) (sSeq (sSeq (sFrzL 11) (sAsg (fMeth "Table" "change_rows" m_Table_change_rows (fVar 1) (aCons (fVar 11) aNil)) (gN 10))) (sFor (iOf asL (fVar 11)) (gN 12) (sSeq (sDrop (fPop2 (fVar 8) (fSub (fVar 12) (fC (.int 1))) (fC .non))) (sIf (fTest (fOp opEq (fSub (fVar 12) (fC (.int 0))) (fC (.str (Str.ofString "put"))))) (sPut (fVar 8) (fSub (fVar 12) (fC (.int 1))) (fSub (fVar 12) (fC (.int 2)))) sNil)))))) (sIf (fTest (fOp opLt (fVar 5) (fC (.int 5)))) (sSeq (sAsg (fMeth "Table" "drop_row" m_Table_drop_row (fVar 1) (aCons (fVar 4) aNil)) (gN 10)) (sDrop (fPop2 (fVar 8) (fVar 4) (fC .non)))) (sSeq (sAsg (fCall m__law_values (aCons (fVar 0) (aCons (fVar 3) aNil))) (gN 13)) (sSeq (sIf (fAndT (fTest (fInD false (fVar 4) (fVar 6))) (fTest (fOp opGt (fCall m__law_pick (aCons (fVar 0) (aCons (fC (.int 3)) aNil))) (fC (.int 0))))) (sSeq (sAsg (fCall m__law_pick (aCons (fVar 0) (aCons (fVar 3) aNil))) (gN 14)) (sAsg (fOp opAdd (fOp opAdd (fSlice (fSub (fVar 6) (fVar 4)) oNone (oSome (fVar 14))) (fMk mkTup (aCons (fCall m__law_value (aCons (fVar 0) aNil)) aNil))) (fSlice (fSub (fVar 6) (fVar 4)) (oSome (fOp opAdd (fVar 14) (fC (.int 1)))) oNone)) (gN 13))) sNil) (sSeq (sAsg (fMeth "Table" "put_row" m_Table_put_row (fVar 1) (aCons (fVar 4) (aCons (fVar 13) aNil))) (gN 10)) (sPut (fVar 8) (fVar 4) (fVar 13)))))))) (sSeq (sFor (iOf asL (fSortSetL (fOp opAdd (fMk bListK (aCons (fVar 6) aNil)) (fMk bListK (aCons (fVar 8) aNil))))) (gN 15) (sIf (fTest (fOp opNe (fGet1 (fVar 6) (fVar 15)) (fGet1 (fVar 8) (fVar 15)))) (sSeq (sDrop (fPop2 (fVar 7) (fVar 15) (fC .non))) (sIf (fTest (fInD false (fVar 15) (fVar 8))) (sPut (fVar 7) (fVar 15) (fMk bLen (aCons (fVar 2) aNil))) sNil)) sNil)) (sSeq (sIf (fTest (fEqDt true (fVar 8) (fVar 6))) (sSeq (sFrzV 8) (sSeq (sFrzV 7) (sDrop (fApp (fVar 2) (fMk mkLst (aCons (fVar 8) (aCons (fVar 7) aNil))))))) sNil) (sRet (fVar 10))))))))
noncomputable def m__law_edit : FM := mOf N__law_edit.length g__law_edit
theorem d__law_edit (T : Txt K mg) : FnD P w K mg base 6 T.a__law_edit T.f__law_edit ["tape", "table", "past", "width"] m__law_edit := FnD.of T.F__law_edit sc__law_edit fun cd A outer s H gx => (ds_cons (ds_par2 4 5 gx rfl rfl (by decide) rfl rfl (da_cons (de_op ok_add de_int (de_call ((d__law_pick T).up (by decide)) gx (by rfl) T.g__law_pick T.F__law_pick.kp T.b__law_pick (da_cons (de_var 0) (da_cons de_int da_nil)) (hn := (aCons_n (aCons_n aNil_n))))) (da_cons (de_call ((d__law_pick T).up (by decide)) gx (by rfl) T.g__law_pick T.F__law_pick.kp T.b__law_pick (da_cons (de_var 0) (da_cons de_int da_nil)) (hn := (aCons_n (aCons_n aNil_n)))) da_nil))) (ds_cons (ds_par2 6 7 gx rfl rfl (by decide) rfl rfl (da_cons (de_dictC (de_sub gx (de_sub gx (de_var 2) (de_neg de_int)) de_int) (by rfl) T.n_dict) (da_cons (de_dictC (de_sub gx (de_sub gx (de_var 2) (de_neg de_int)) de_int) (by rfl) T.n_dict) da_nil))) (ds_cons (ds_asg (de_dictC (de_var 6) (by rfl) T.n_dict) (dg_name 8 gx.nd)) (ds_cons (ds_if (dt_cmp (ok_eq gx) (de_var 5) de_int) (ds_cons (ds_asg (de_call ((d__law_one_of T).up (by decide)) gx (by rfl) T.g__law_one_of T.F__law_one_of.kp T.b__law_one_of (da_cons (de_var 0) (da_cons (de_meth0 T.K_Table T.M_Table_known_versions ((d_Table_known_versions T).up (by decide)) gx T.b_Table_known_versions (de_var 1)) da_nil)) (hn := (aCons_n (aCons_n aNil_n)))) (dg_name 9 gx.nd)) (ds_cons (ds_asg (de_meth T.K_Table T.M_Table_revert_to ((d_Table_revert_to T).up (by decide)) gx T.b_Table_revert_to (de_var 1) (da_cons (de_var 9) da_nil) (hn := (aCons_n aNil_n))) (dg_name 10 gx.nd)) (ds_one (ds_asg (de_dictC (de_sub gx (de_sub gx (de_var 2) (de_var 9)) de_int) (by rfl) T.n_dict) (dg_name 8 gx.nd))))) (ds_one (ds_if (dt_cmp (ok_eq gx) (de_var 5) de_int) (ds_cons (ds_asg (de_newL (da_cons (de_tup (da_cons de_str (da_cons (de_var 4) (da_cons (de_call ((d__law_values T).up (by decide)) gx (by rfl) T.g__law_values T.F__law_values.kp T.b__law_values (da_cons (de_var 0) (da_cons (de_var 3) da_nil)) (hn := (aCons_n (aCons_n aNil_n)))) da_nil)))) (da_cons (de_tup (da_cons de_str (da_cons (de_op ok_add de_int (de_call ((d__law_pick T).up (by decide)) gx (by rfl) T.g__law_pick T.F__law_pick.kp T.b__law_pick (da_cons (de_var 0) (da_cons de_int da_nil)) (hn := (aCons_n (aCons_n aNil_n))))) da_nil))) da_nil))) (dg_name 11 gx.nd)) (ds_cons (ds_expr (de_insert (de_var 11) (de_call ((d__law_pick T).up (by decide)) gx (by rfl) T.g__law_pick T.F__law_pick.kp T.b__law_pick (da_cons (de_var 0) (da_cons de_int da_nil)) (hn := (aCons_n (aCons_n aNil_n)))) (de_tup (da_cons de_str (da_cons (de_op ok_add de_int (de_call ((d__law_pick T).up (by decide)) gx (by rfl) T.g__law_pick T.F__law_pick.kp T.b__law_pick (da_cons (de_var 0) (da_cons de_int da_nil)) (hn := (aCons_n (aCons_n aNil_n))))) (da_cons (de_call ((d__law_values T).up (by decide)) gx (by rfl) T.g__law_values T.F__law_values.kp T.b__law_values (da_cons (de_var 0) (da_cons (de_var 3) da_nil)) (hn := (aCons_n (aCons_n aNil_n)))) da_nil)))))) (ds_cons (ds_frzL 11 (ds_asg (de_meth T.K_Table T.M_Table_change_rows ((d_Table_change_rows T).up (by decide)) gx T.b_Table_change_rows (de_var 1) (da_cons (de_var 11) da_nil) (hn := (aCons_n aNil_n))) (dg_name 10 gx.nd))) (ds_one (ds_forR PassesOwn.never gx.calm (di_lst (de_var 11)) (dg_name 12 gx.nd) (ds_cons (ds_expr (de_pop2 (de_var 8) (de_sub gx (de_var 12) de_int) de_non ⟨rfl, rfl, rfl, rfl⟩)) (ds_one (ds_if (dt_cmp (ok_eq gx) (de_sub gx (de_var 12) de_int) de_str) (ds_one (ds_put gx (de_var 8) (de_sub gx (de_var 12) de_int) (de_sub gx (de_var 12) de_int))) ds_nil)))))))) (ds_one (ds_if (dt_cmp ok_lt (de_var 5) de_int) (ds_cons (ds_asg (de_meth T.K_Table T.M_Table_drop_row ((d_Table_drop_row T).up (by decide)) gx T.b_Table_drop_row (de_var 1) (da_cons (de_var 4) da_nil) (hn := (aCons_n aNil_n))) (dg_name 10 gx.nd)) (ds_one (ds_expr (de_pop2 (de_var 8) (de_var 4) de_non ⟨rfl, rfl, rfl, rfl⟩)))) (ds_cons (ds_asg (de_call ((d__law_values T).up (by decide)) gx (by rfl) T.g__law_values T.F__law_values.kp T.b__law_values (da_cons (de_var 0) (da_cons (de_var 3) da_nil)) (hn := (aCons_n (aCons_n aNil_n)))) (dg_name 13 gx.nd)) (ds_cons (ds_if (dt_w (dw_and (dt_inD gx (de_var 4) (de_var 6)) (dw_and1 (dt_cmp ok_gt (de_call ((d__law_pick T).up (by decide)) gx (by rfl) T.g__law_pick T.F__law_pick.kp T.b__law_pick (da_cons (de_var 0) (da_cons de_int da_nil)) (hn := (aCons_n (aCons_n aNil_n)))) de_int)))) (ds_cons (ds_asg (de_call ((d__law_pick T).up (by decide)) gx (by rfl) T.g__law_pick T.F__law_pick.kp T.b__law_pick (da_cons (de_var 0) (da_cons (de_var 3) da_nil)) (hn := (aCons_n (aCons_n aNil_n)))) (dg_name 14 gx.nd)) (ds_one (ds_asg (de_op ok_add (de_op ok_add (de_slice (de_sub gx (de_var 6) (de_var 4)) do_none (do_some (de_var 14))) (de_tup (da_cons (de_call ((d__law_value T).up (by decide)) gx (by rfl) T.g__law_value T.F__law_value.kp T.b__law_value (da_cons (de_var 0) da_nil) (hn := (aCons_n aNil_n))) da_nil))) (de_slice (de_sub gx (de_var 6) (de_var 4)) (do_some (de_op ok_add (de_var 14) de_int)) do_none)) (dg_name 13 gx.nd)))) ds_nil) (ds_cons (ds_asg (de_meth T.K_Table T.M_Table_put_row ((d_Table_put_row T).up (by decide)) gx T.b_Table_put_row (de_var 1) (da_cons (de_var 4) (da_cons (de_var 13) da_nil)) (hn := (aCons_n (aCons_n aNil_n)))) (dg_name 10 gx.nd)) (ds_one (ds_put gx (de_var 8) (de_var 4) (de_var 13))))))))))) (ds_cons (ds_forR PassesOwn.never gx.calm (di_lst (de_sortSetL gx.calm (de_op ok_add (de_callTy (T := "list") (ok_listK gx) (by rfl) T.n_list (by decide +kernel) (da_cons (de_var 6) da_nil)) (de_callTy (T := "list") (ok_listK gx) (by rfl) T.n_list (by decide +kernel) (da_cons (de_var 8) da_nil))) (by rfl) T.n_sorted (by rfl) T.n_set)) (dg_name 15 gx.nd) (ds_one (ds_if (dt_cmp (ok_ne gx) (de_get1 gx (de_var 6) (de_var 15) ⟨rfl, rfl, rfl, rfl⟩) (de_get1 gx (de_var 8) (de_var 15) ⟨rfl, rfl, rfl, rfl⟩)) (ds_cons (ds_expr (de_pop2 (de_var 7) (de_var 15) de_non ⟨rfl, rfl, rfl, rfl⟩)) (ds_one (ds_if (dt_inD gx (de_var 15) (de_var 8)) (ds_one (ds_put gx (de_var 7) (de_var 15) (de_callB (id := "len") ok_len (by rfl) T.n_len (by decide +kernel) (da_cons (de_var 2) da_nil)))) ds_nil))) ds_nil))) (ds_cons (ds_if (dt_neDt gx (de_var 8) (de_var 6)) (ds_one (ds_frzV 8 (ds_frzV 7 (ds_expr (de_append (de_var 2) (de_lst (da_cons (de_var 8) (da_cons (de_var 7) da_nil)))))))) ds_nil) (ds_one (ds_ret (de_var 10)))))))))
noncomputable def g_Table_changes_at : FS := (sSeq (sAsg (fMeth "Table" "_states_at" m_Table__states_at (fVar 0) (aCons (fVar 1) aNil)) (gN 2)) (sRet (fDComp (iOf asL (fSortKs (fVar 2))) [3] b1 tTrue (fVar 3) (fSub (fSub (fVar 2) (fVar 3)) (fC (.int 0))))))
noncomputable def m_Table_changes_at : FM := mOf N_Table_changes_at.length g_Table_changes_at
theorem d_Table_changes_at (T : Txt K mg) : FnD P w K mg base 4 T.a_Table_changes_at T.f_Table_changes_at ["self", "version"] m_Table_changes_at := FnD.of T.F_Table_changes_at sc_Table_changes_at fun cd A outer s H gx => (ds_cons (ds_asg (de_meth T.K_Table T.M_Table__states_at ((d_Table__states_at T).up (by decide)) gx T.b_Table__states_at (de_var 0) (da_cons (de_var 1) da_nil) (hn := (aCons_n aNil_n))) (dg_name 2 gx.nd)) (ds_one (ds_ret (de_dc (own := [("row_id", 3)]) gx.calm gx.nd (di_lst (de_sortKs gx (de_var 2) (by rfl) T.n_sorted)) (blkOk_by (N := N_Table_changes_at) (sc := defScope s_Table_changes_at) (by decide +kernel)) (tg1 3) (fun _ _ _ _ _ => (pg_name (i := 3) gx.nd rfl (.inl rfl))) (fun _ _ _ _ _ => dts_nil) (fun _ _ _ _ _ => (de_var 3)) (fun _ _ _ _ _ => (de_sub gx.blk (de_sub gx.blk (de_var 2) (de_var 3)) de_int))))))
noncomputable def g__law_versions_right : FS := (sSeq (sFor (iOfA asR1 (aCons (fMk bLen (aCons (fVar 1) aNil)) aNil)) (gN 2) (sSeq (sAsg (fSub (fVar 1) (fVar 2)) (gTL 2 (gCons' (gN 3) (gCons' (gN 4) gNil')))) (sFor (iOfA asR1 (aCons (fC (.int 2)) aNil)) (gN 5) (sSeq (sPar (par2 6 7) (aCons (fMeth "Table" "rows_at" m_Table_rows_at (fVar 0) (aCons (fVar 2) aNil)) (aCons (fMeth "Table" "changes_at" m_Table_changes_at (fVar 0) (aCons (fVar 2) aNil)) aNil))) (sSeq (sIf (fOrT (fNotT (fTest (fIsi "dict" (fVar 6)))) (fNotT (fTest (fIsi "dict" (fVar 7))))) (sRet (fC (.bl false))) sNil) (sSeq (sIf (fTest (fOp opNeS (fMk bReprA (aCons (fSortI (fVar 6)) aNil)) (fMk bReprA (aCons (fSortI (fVar 3)) aNil)))) (sRet (fC (.bl false))) sNil) (sSeq (sIf (fTest (fOp opNeS (fMk bReprA (aCons (fSortI (fVar 7)) aNil)) (fMk bReprA (aCons (fSortI (fVar 4)) aNil)))) (sRet (fC (.bl false))) sNil) (sSeq (sDrop (fClear (fVar 6))) (sDrop (fClear (fVar 7))))))))))) (sRet (fC (.bl true))))
noncomputable def m__law_versions_right : FM := mOf N__law_versions_right.length g__law_versions_right
theorem d__law_versions_right (T : Txt K mg) : FnD P w K mg base 5 T.a__law_versions_right T.f__law_versions_right ["table", "past"] m__law_versions_right := FnD.of T.F__law_versions_right sc__law_versions_right fun cd A outer s H gx => (ds_cons (ds_forR PassesOwn.never gx.calm (di_range1 (by rfl) T.n_range (da_cons (de_callB (id := "len") ok_len (by rfl) T.n_len (by decide +kernel) (da_cons (de_var 1) da_nil)) da_nil)) (dg_name 2 gx.nd) (ds_cons (ds_asg (de_sub gx (de_var 1) (de_var 2)) (dg_lst gx.calm (dgs_cons (dg_name 3 gx.nd) (dgs_cons (dg_name 4 gx.nd) dgs_nil)))) (ds_one (ds_forR PassesOwn.never gx.calm (di_range1 (by rfl) T.n_range (da_cons de_int da_nil)) (dg_name 5 gx.nd) (ds_cons (ds_par2 6 7 gx rfl rfl (by decide) rfl rfl (da_cons (de_meth T.K_Table T.M_Table_rows_at ((d_Table_rows_at T).up (by decide)) gx T.b_Table_rows_at (de_var 0) (da_cons (de_var 2) da_nil) (hn := (aCons_n aNil_n))) (da_cons (de_meth T.K_Table T.M_Table_changes_at ((d_Table_changes_at T).up (by decide)) gx T.b_Table_changes_at (de_var 0) (da_cons (de_var 2) da_nil) (hn := (aCons_n aNil_n))) da_nil))) (ds_cons (ds_if (dt_w (dw_or (dt_not (dt_val (de_isi (T := "dict") (de_var 6) (by decide) (by rfl) T.n_isinstance (by rfl) T.n_dict (by decide +kernel)))) (dw_or1 (dt_not (dt_val (de_isi (T := "dict") (de_var 7) (by decide) (by rfl) T.n_isinstance (by rfl) T.n_dict (by decide +kernel))))))) (ds_one (ds_ret de_bl)) ds_nil) (ds_cons (ds_if (dt_cmp ok_neS (de_callB (id := "repr") (ok_reprA gx) (by rfl) T.n_repr (by decide +kernel) (da_cons (de_sortI gx (de_var 6) (by rfl) T.n_sorted) da_nil)) (de_callB (id := "repr") (ok_reprA gx) (by rfl) T.n_repr (by decide +kernel) (da_cons (de_sortI gx (de_var 3) (by rfl) T.n_sorted) da_nil))) (ds_one (ds_ret de_bl)) ds_nil) (ds_cons (ds_if (dt_cmp ok_neS (de_callB (id := "repr") (ok_reprA gx) (by rfl) T.n_repr (by decide +kernel) (da_cons (de_sortI gx (de_var 7) (by rfl) T.n_sorted) da_nil)) (de_callB (id := "repr") (ok_reprA gx) (by rfl) T.n_repr (by decide +kernel) (da_cons (de_sortI gx (de_var 4) (by rfl) T.n_sorted) da_nil))) (ds_one (ds_ret de_bl)) ds_nil) (ds_cons (ds_expr (de_clear (de_var 6))) (ds_one (ds_expr (de_clear (de_var 7))))))))))))) (ds_one (ds_ret de_bl)))
noncomputable def g_Table___init__ : FS := (sSeq (sIf (fNotT (fTest (fCall m_is_columns (aCons (fVar 1) aNil)))) sNever sNil) (sSeq (sFldD "Table" "_columns" (fVar 0) (fVar 1)) (sSeq (sFldD "Table" "_present" (fVar 0) (fC (.int 0))) (sSeq (sFldD "Table" "_steps" (fVar 0) (fDict (((fC (.int 0)), (fC (.dct []))) :: []))) (sFldD "Table" "_states" (fVar 0) fNewD)))))
noncomputable def m_Table___init__ : FM := mOf N_Table___init__.length g_Table___init__
theorem d_Table___init__ (T : Txt K mg) : FnD P w K mg base 4 T.a_Table___init__ T.f_Table___init__ ["self", "columns"] m_Table___init__ := FnD.of T.F_Table___init__ sc_Table___init__ fun cd A outer s H gx => (ds_cons (ds_if (dt_not (dt_val (de_call ((d_is_columns T).up (by decide)) gx (by rfl) T.g_is_columns T.F_is_columns.kp T.b_is_columns (da_cons (de_var 1) da_nil) (hn := (aCons_n aNil_n))))) (ds_one ds_never) ds_nil) (ds_cons (ds_fld T.K_Table T.na_Table__columns (de_var 0) (de_var 1)) (ds_cons (ds_fld T.K_Table T.na_Table__present (de_var 0) de_int) (ds_cons (ds_fld T.K_Table T.na_Table__steps (de_var 0) (de_dict (.cons de_int de_dict0 .nil))) (ds_one (ds_fld T.K_Table T.na_Table__states (de_var 0) de_newD))))))
noncomputable def g_Table___len__ : FS := (sRet (fMk bLen (aCons (fFld "Table" "_states" (fVar 0)) aNil)))
noncomputable def m_Table___len__ : FM := mOf N_Table___len__.length g_Table___len__
theorem d_Table___len__ (T : Txt K mg) : FnD P w K mg base 1 T.a_Table___len__ T.f_Table___len__ ["self"] m_Table___len__ := FnD.of T.F_Table___len__ sc_Table___len__ fun cd A outer s H gx => (ds_one (ds_ret (de_callB (id := "len") ok_len (by rfl) T.n_len (by decide +kernel) (da_cons (de_fld T.K_Table T.na_Table__states (de_var 0)) da_nil))))
noncomputable def g_Table_present : FS := (sRet (fFld "Table" "_present" (fVar 0)))
noncomputable def m_Table_present : FM := mOf N_Table_present.length g_Table_present
theorem d_Table_present (T : Txt K mg) : FnD P w K mg base 1 T.a_Table_present T.f_Table_present ["self"] m_Table_present := FnD.of T.F_Table_present sc_Table_present fun cd A outer s H gx => (ds_one (ds_ret (de_fld T.K_Table T.na_Table__present (de_var 0))))
noncomputable def g_Table_column_names : FS := (sRet (fMk bTuple (aCons (fMk bList (aCons (fFld "Table" "_columns" (fVar 0)) aNil)) aNil)))
noncomputable def m_Table_column_names : FM := mOf N_Table_column_names.length g_Table_column_names
theorem d_Table_column_names (T : Txt K mg) : FnD P w K mg base 1 T.a_Table_column_names T.f_Table_column_names ["self"] m_Table_column_names := FnD.of T.F_Table_column_names sc_Table_column_names fun cd A outer s H gx => (ds_one (ds_ret (de_callTy (T := "tuple") ok_tuple (by rfl) T.n_tuple (by decide +kernel) (da_cons (de_callTy (T := "list") (ok_list gx) (by rfl) T.n_list (by decide +kernel) (da_cons (de_fld T.K_Table T.na_Table__columns (de_var 0)) da_nil)) da_nil))))
noncomputable def g_law : FS := (sSeq (sFor (iOfA asR1 (aCons (fMk bMax (aCons (fC (.int 1)) (aCons (fMk bMin (aCons (fC (.int 4)) (aCons (fMk bLen (aCons (fVar 0) aNil)) aNil))) aNil))) aNil)) (gN 1) (sSeq (sAsg (fCall m__law_tape (aCons (fVar 0) (aCons (fVar 1) aNil))) (gN 2)) (sSeq (sAsg (fOp opAdd (fC (.int 1)) (fCall m__law_pick (aCons (fVar 2) (aCons (fC (.int 3)) aNil)))) (gN 3)) (sSeq (sAsg (fSlice (fMk mkTup (aCons (fC (.str (Str.ofString "a"))) (aCons (fC (.str (Str.ofString "bb"))) (aCons (fC (.str (Str.ofString "ccc"))) aNil)))) oNone (oSome (fVar 3))) (gN 4)) (sSeq (sAsg (fMake "Table" m_Table___init__ (aCons (fVar 4) aNil)) (gN 5)) (sSeq (sAsg (fNewL (aCons (fMk mkLst (aCons (fC (.dct [])) (aCons (fC (.dct [])) aNil))) aNil)) (gN 6)) (sSeq (sFor (iOfA asR1 (aCons (fC (.int 14)) aNil)) (gN 7) (sSeq (sAsg (fCall m__law_edit (aCons (fVar 2) (aCons (fVar 5) (aCons (fVar 6) (aCons (fVar 3) aNil))))) (gN 8)) (sIf (fOrT (fTest (fOp opNeS (fMk bReprA (aCons (fVar 8) aNil)) (fMk bReprA (aCons (fOp subI (fMk bLen (aCons (fVar 6) aNil)) (fC (.int 1))) aNil)))) (fOrT (fTest (fOp opNe (fMeth0 "Table" "present" m_Table_present (fVar 5)) (fVar 8))) (fTest (fOp opNe (fLenO "Table" m_Table___len__ (fVar 5)) (fMk bLen (aCons (fSub (fSub (fVar 6) (fUn negI (fC (.int 1)))) (fC (.int 0))) aNil)))))) (sRet (fC (.bl false))) sNil))) (sSeq (sIf (fOrT (fTest (fEqR true (fMeth0 "Table" "known_versions" m_Table_known_versions (fVar 5)) (fLstRg (fMk bLen (aCons (fVar 6) aNil))))) (fTest (fOp opNe (fMeth0 "Table" "column_names" m_Table_column_names (fVar 5)) (fVar 4)))) (sRet (fC (.bl false))) sNil) (sSeq (sDrop (fApp (fMeth0 "Table" "known_versions" m_Table_known_versions (fVar 5)) (fC .non))) (sIf (fOrT (fTest (fEqR true (fMeth0 "Table" "known_versions" m_Table_known_versions (fVar 5)) (fLstRg (fMk bLen (aCons (fVar 6) aNil))))) (fNotT (fTest (fCall m__law_versions_right (aCons (fVar 5) (aCons (fVar 6) aNil)))))) (sRet (fC (.bl false))) sNil)))))))))) (sRet (fC (.bl true))))
noncomputable def m_law : FM := mOf N_law.length g_law
theorem d_law (T : Txt K mg) : FnD P w K mg base 7 T.a_law T.f_law ["script"] m_law := FnD.of T.F_law sc_law fun cd A outer s H gx => (ds_cons (ds_forR PassesOwn.never gx.calm (di_range1 (by rfl) T.n_range (da_cons (de_callB (id := "max") (ok_max gx) (by rfl) T.n_max (by decide +kernel) (da_cons de_int (da_cons (de_callB (id := "min") (ok_min gx) (by rfl) T.n_min (by decide +kernel) (da_cons de_int (da_cons (de_callB (id := "len") ok_len (by rfl) T.n_len (by decide +kernel) (da_cons (de_var 0) da_nil)) da_nil))) da_nil))) da_nil)) (dg_name 1 gx.nd) (ds_cons (ds_asg (de_call ((d__law_tape T).up (by decide)) gx (by rfl) T.g__law_tape T.F__law_tape.kp T.b__law_tape (da_cons (de_var 0) (da_cons (de_var 1) da_nil)) (hn := (aCons_n (aCons_n aNil_n)))) (dg_name 2 gx.nd)) (ds_cons (ds_asg (de_op ok_add de_int (de_call ((d__law_pick T).up (by decide)) gx (by rfl) T.g__law_pick T.F__law_pick.kp T.b__law_pick (da_cons (de_var 2) (da_cons de_int da_nil)) (hn := (aCons_n (aCons_n aNil_n))))) (dg_name 3 gx.nd)) (ds_cons (ds_asg (de_slice (de_tup (da_cons de_str (da_cons de_str (da_cons de_str da_nil)))) do_none (do_some (de_var 3))) (dg_name 4 gx.nd)) (ds_cons (ds_asg (de_make T.mk_Table T.K_Table.at_ ((d_Table___init__ T).up (by decide)) gx (by rfl) T.g_Table T.b_Table___init__ (da_cons (de_var 4) da_nil) (hn := (aCons_n aNil_n))) (dg_name 5 gx.nd)) (ds_cons (ds_asg (de_newL (da_cons (de_lst (da_cons de_dict0 (da_cons de_dict0 da_nil))) da_nil)) (dg_name 6 gx.nd)) (ds_cons (ds_forR PassesOwn.never gx.calm (di_range1 (by rfl) T.n_range (da_cons de_int da_nil)) (dg_name 7 gx.nd) (ds_cons (ds_asg (de_call ((d__law_edit T).up (by decide)) gx (by rfl) T.g__law_edit T.F__law_edit.kp T.b__law_edit (da_cons (de_var 2) (da_cons (de_var 5) (da_cons (de_var 6) (da_cons (de_var 3) da_nil)))) (hn := (aCons_n (aCons_n (aCons_n (aCons_n aNil_n)))))) (dg_name 8 gx.nd)) (ds_one (ds_if (dt_w (dw_or (dt_cmp ok_neS (de_callB (id := "repr") (ok_reprA gx) (by rfl) T.n_repr (by decide +kernel) (da_cons (de_var 8) da_nil)) (de_callB (id := "repr") (ok_reprA gx) (by rfl) T.n_repr (by decide +kernel) (da_cons (de_op ok_subI (de_callB (id := "len") ok_len (by rfl) T.n_len (by decide +kernel) (da_cons (de_var 6) da_nil)) de_int) da_nil))) (dw_or (dt_cmp (ok_ne gx) (de_meth0 T.K_Table T.M_Table_present ((d_Table_present T).up (by decide)) gx T.b_Table_present (de_var 5)) (de_var 8)) (dw_or1 (dt_cmp (ok_ne gx) (de_lenO T.K_Table T.fi_Table T.ty_Table ((d_Table___len__ T).up (by decide)) gx T.b_Table___len__ (by rfl) T.n_len (de_var 5)) (de_callB (id := "len") ok_len (by rfl) T.n_len (by decide +kernel) (da_cons (de_sub gx (de_sub gx (de_var 6) (de_neg de_int)) de_int) da_nil))))))) (ds_one (ds_ret de_bl)) ds_nil)))) (ds_cons (ds_if (dt_w (dw_or (dt_neR gx (de_meth0 T.K_Table T.M_Table_known_versions ((d_Table_known_versions T).up (by decide)) gx T.b_Table_known_versions (de_var 5)) (de_lstRg gx.calm (de_callB (id := "len") ok_len (by rfl) T.n_len (by decide +kernel) (da_cons (de_var 6) da_nil)) (by rfl) T.n_list (by rfl) T.n_range)) (dw_or1 (dt_cmp (ok_ne gx) (de_meth0 T.K_Table T.M_Table_column_names ((d_Table_column_names T).up (by decide)) gx T.b_Table_column_names (de_var 5)) (de_var 4))))) (ds_one (ds_ret de_bl)) ds_nil) (ds_cons (ds_expr (de_append (de_meth0 T.K_Table T.M_Table_known_versions ((d_Table_known_versions T).up (by decide)) gx T.b_Table_known_versions (de_var 5)) de_non)) (ds_one (ds_if (dt_w (dw_or (dt_neR gx (de_meth0 T.K_Table T.M_Table_known_versions ((d_Table_known_versions T).up (by decide)) gx T.b_Table_known_versions (de_var 5)) (de_lstRg gx.calm (de_callB (id := "len") ok_len (by rfl) T.n_len (by decide +kernel) (da_cons (de_var 6) da_nil)) (by rfl) T.n_list (by rfl) T.n_range)) (dw_or1 (dt_not (dt_val (de_call ((d__law_versions_right T).up (by decide)) gx (by rfl) T.g__law_versions_right T.F__law_versions_right.kp T.b__law_versions_right (da_cons (de_var 5) (da_cons (de_var 6) da_nil)) (hn := (aCons_n (aCons_n aNil_n))))))))) (ds_one (ds_ret de_bl)) ds_nil))))))))))) (ds_one (ds_ret de_bl)))
end LW
namespace LW
open PySem PySem.Spec PyProof.Rows L2 DL TL
theorem e_tape : m__law_tape = mTape := rfl
theorem e_pick : m__law_pick = mPick := rfl
theorem e_one : m__law_one_of = mOne := rfl
def asc (n : Nat) (x : Str) : Bool := decide (x.length ≤ n) && (tl x).all fun c => decide (c < 128)
theorem asc_gs {n : Nat} {x : Str} (h : asc n x = true) : GS n x := by
  unfold asc at h
  rw [Bool.and_eq_true] at h
  exact ⟨of_decide_eq_true h.1, fun c hc => of_decide_eq_true (List.all_eq_true.mp h.2 c hc)⟩
theorem gs_asc {n : Nat} {x : Str} (h : GS n x) : asc n x = true := by
  unfold asc
  rw [Bool.and_eq_true]
  exact ⟨decide_eq_true h.1, List.all_eq_true.mpr fun c hc => decide_eq_true (h.2 c hc)⟩
theorem eqL {a b : Str} {c : Bool} (ha : asc 16 a = true) (hb : asc 16 b = true) (h : (a == b) = c) : opEq (.str a) (.str b) = some (.bl c) := by
  rw [← h]
  exact opEq_fv (m := 16) (n := 16) (a := .str a) (b := .str b) (asc_gs ha) (asc_gs hb)
theorem qs : opEq (.str (Str.ofString "all")) (.str (Str.ofString "all")) = some (.bl true) ∧
  opEq (.str (Str.ofString "all")) (.str (Str.ofString "not")) = some (.bl false) ∧
  opEq (.str (Str.ofString "all")) (.str (Str.ofString "and")) = some (.bl false) ∧
  opEq (.str (Str.ofString "all")) (.str (Str.ofString "or")) = some (.bl false) ∧
  opEq (.str (Str.ofString "all")) (.str (Str.ofString "equal")) = some (.bl false) ∧
  opEq (.str (Str.ofString "all")) (.str (Str.ofString "less")) = some (.bl false) ∧
  opEq (.str (Str.ofString "all")) (.str (Str.ofString "starts")) = some (.bl false) ∧
  opEq (.str (Str.ofString "equal")) (.str (Str.ofString "all")) = some (.bl false) ∧
  opEq (.str (Str.ofString "equal")) (.str (Str.ofString "not")) = some (.bl false) ∧
  opEq (.str (Str.ofString "equal")) (.str (Str.ofString "and")) = some (.bl false) ∧
  opEq (.str (Str.ofString "equal")) (.str (Str.ofString "or")) = some (.bl false) ∧
  opEq (.str (Str.ofString "equal")) (.str (Str.ofString "equal")) = some (.bl true) ∧
  opEq (.str (Str.ofString "equal")) (.str (Str.ofString "less")) = some (.bl false) ∧
  opEq (.str (Str.ofString "equal")) (.str (Str.ofString "starts")) = some (.bl false) ∧
  opEq (.str (Str.ofString "less")) (.str (Str.ofString "all")) = some (.bl false) ∧
  opEq (.str (Str.ofString "less")) (.str (Str.ofString "not")) = some (.bl false) ∧
  opEq (.str (Str.ofString "less")) (.str (Str.ofString "and")) = some (.bl false) ∧
  opEq (.str (Str.ofString "less")) (.str (Str.ofString "or")) = some (.bl false) ∧
  opEq (.str (Str.ofString "less")) (.str (Str.ofString "equal")) = some (.bl false) ∧
  opEq (.str (Str.ofString "less")) (.str (Str.ofString "less")) = some (.bl true) ∧
  opEq (.str (Str.ofString "less")) (.str (Str.ofString "starts")) = some (.bl false) ∧
  opEq (.str (Str.ofString "starts")) (.str (Str.ofString "all")) = some (.bl false) ∧
  opEq (.str (Str.ofString "starts")) (.str (Str.ofString "not")) = some (.bl false) ∧
  opEq (.str (Str.ofString "starts")) (.str (Str.ofString "and")) = some (.bl false) ∧
  opEq (.str (Str.ofString "starts")) (.str (Str.ofString "or")) = some (.bl false) ∧
  opEq (.str (Str.ofString "starts")) (.str (Str.ofString "equal")) = some (.bl false) ∧
  opEq (.str (Str.ofString "starts")) (.str (Str.ofString "less")) = some (.bl false) ∧
  opEq (.str (Str.ofString "starts")) (.str (Str.ofString "starts")) = some (.bl true) ∧
  opEq (.str (Str.ofString "one_of")) (.str (Str.ofString "all")) = some (.bl false) ∧
  opEq (.str (Str.ofString "one_of")) (.str (Str.ofString "not")) = some (.bl false) ∧
  opEq (.str (Str.ofString "one_of")) (.str (Str.ofString "and")) = some (.bl false) ∧
  opEq (.str (Str.ofString "one_of")) (.str (Str.ofString "or")) = some (.bl false) ∧
  opEq (.str (Str.ofString "one_of")) (.str (Str.ofString "equal")) = some (.bl false) ∧
  opEq (.str (Str.ofString "one_of")) (.str (Str.ofString "less")) = some (.bl false) ∧
  opEq (.str (Str.ofString "one_of")) (.str (Str.ofString "starts")) = some (.bl false) ∧
  opEq (.str (Str.ofString "not")) (.str (Str.ofString "all")) = some (.bl false) ∧
  opEq (.str (Str.ofString "not")) (.str (Str.ofString "not")) = some (.bl true) ∧
  opEq (.str (Str.ofString "not")) (.str (Str.ofString "and")) = some (.bl false) ∧
  opEq (.str (Str.ofString "not")) (.str (Str.ofString "or")) = some (.bl false) ∧
  opEq (.str (Str.ofString "not")) (.str (Str.ofString "equal")) = some (.bl false) ∧
  opEq (.str (Str.ofString "not")) (.str (Str.ofString "less")) = some (.bl false) ∧
  opEq (.str (Str.ofString "not")) (.str (Str.ofString "starts")) = some (.bl false) ∧
  opEq (.str (Str.ofString "and")) (.str (Str.ofString "all")) = some (.bl false) ∧
  opEq (.str (Str.ofString "and")) (.str (Str.ofString "not")) = some (.bl false) ∧
  opEq (.str (Str.ofString "and")) (.str (Str.ofString "and")) = some (.bl true) ∧
  opEq (.str (Str.ofString "and")) (.str (Str.ofString "or")) = some (.bl false) ∧
  opEq (.str (Str.ofString "and")) (.str (Str.ofString "equal")) = some (.bl false) ∧
  opEq (.str (Str.ofString "and")) (.str (Str.ofString "less")) = some (.bl false) ∧
  opEq (.str (Str.ofString "and")) (.str (Str.ofString "starts")) = some (.bl false) ∧
  opEq (.str (Str.ofString "or")) (.str (Str.ofString "all")) = some (.bl false) ∧
  opEq (.str (Str.ofString "or")) (.str (Str.ofString "not")) = some (.bl false) ∧
  opEq (.str (Str.ofString "or")) (.str (Str.ofString "and")) = some (.bl false) ∧
  opEq (.str (Str.ofString "or")) (.str (Str.ofString "or")) = some (.bl true) ∧
  opEq (.str (Str.ofString "or")) (.str (Str.ofString "equal")) = some (.bl false) ∧
  opEq (.str (Str.ofString "or")) (.str (Str.ofString "less")) = some (.bl false) ∧
  opEq (.str (Str.ofString "or")) (.str (Str.ofString "starts")) = some (.bl false) :=
  ⟨eqL (by decide +kernel) (by decide +kernel) (by decide +kernel), eqL (by decide +kernel) (by decide +kernel) (by decide +kernel), eqL (by decide +kernel) (by decide +kernel) (by decide +kernel), eqL (by decide +kernel) (by decide +kernel) (by decide +kernel), eqL (by decide +kernel) (by decide +kernel) (by decide +kernel), eqL (by decide +kernel) (by decide +kernel) (by decide +kernel), eqL (by decide +kernel) (by decide +kernel) (by decide +kernel), eqL (by decide +kernel) (by decide +kernel) (by decide +kernel), eqL (by decide +kernel) (by decide +kernel) (by decide +kernel), eqL (by decide +kernel) (by decide +kernel) (by decide +kernel), eqL (by decide +kernel) (by decide +kernel) (by decide +kernel), eqL (by decide +kernel) (by decide +kernel) (by decide +kernel), eqL (by decide +kernel) (by decide +kernel) (by decide +kernel), eqL (by decide +kernel) (by decide +kernel) (by decide +kernel), eqL (by decide +kernel) (by decide +kernel) (by decide +kernel), eqL (by decide +kernel) (by decide +kernel) (by decide +kernel), eqL (by decide +kernel) (by decide +kernel) (by decide +kernel), eqL (by decide +kernel) (by decide +kernel) (by decide +kernel), eqL (by decide +kernel) (by decide +kernel) (by decide +kernel), eqL (by decide +kernel) (by decide +kernel) (by decide +kernel), eqL (by decide +kernel) (by decide +kernel) (by decide +kernel), eqL (by decide +kernel) (by decide +kernel) (by decide +kernel), eqL (by decide +kernel) (by decide +kernel) (by decide +kernel), eqL (by decide +kernel) (by decide +kernel) (by decide +kernel), eqL (by decide +kernel) (by decide +kernel) (by decide +kernel), eqL (by decide +kernel) (by decide +kernel) (by decide +kernel), eqL (by decide +kernel) (by decide +kernel) (by decide +kernel), eqL (by decide +kernel) (by decide +kernel) (by decide +kernel), eqL (by decide +kernel) (by decide +kernel) (by decide +kernel), eqL (by decide +kernel) (by decide +kernel) (by decide +kernel), eqL (by decide +kernel) (by decide +kernel) (by decide +kernel), eqL (by decide +kernel) (by decide +kernel) (by decide +kernel), eqL (by decide +kernel) (by decide +kernel) (by decide +kernel), eqL (by decide +kernel) (by decide +kernel) (by decide +kernel), eqL (by decide +kernel) (by decide +kernel) (by decide +kernel), eqL (by decide +kernel) (by decide +kernel) (by decide +kernel), eqL (by decide +kernel) (by decide +kernel) (by decide +kernel), eqL (by decide +kernel) (by decide +kernel) (by decide +kernel), eqL (by decide +kernel) (by decide +kernel) (by decide +kernel), eqL (by decide +kernel) (by decide +kernel) (by decide +kernel), eqL (by decide +kernel) (by decide +kernel) (by decide +kernel), eqL (by decide +kernel) (by decide +kernel) (by decide +kernel), eqL (by decide +kernel) (by decide +kernel) (by decide +kernel), eqL (by decide +kernel) (by decide +kernel) (by decide +kernel), eqL (by decide +kernel) (by decide +kernel) (by decide +kernel), eqL (by decide +kernel) (by decide +kernel) (by decide +kernel), eqL (by decide +kernel) (by decide +kernel) (by decide +kernel), eqL (by decide +kernel) (by decide +kernel) (by decide +kernel), eqL (by decide +kernel) (by decide +kernel) (by decide +kernel), eqL (by decide +kernel) (by decide +kernel) (by decide +kernel), eqL (by decide +kernel) (by decide +kernel) (by decide +kernel), eqL (by decide +kernel) (by decide +kernel) (by decide +kernel), eqL (by decide +kernel) (by decide +kernel) (by decide +kernel), eqL (by decide +kernel) (by decide +kernel) (by decide +kernel), eqL (by decide +kernel) (by decide +kernel) (by decide +kernel), eqL (by decide +kernel) (by decide +kernel) (by decide +kernel)⟩
/-- plain values -/
def pvB : D → Bool | .non => true | .int i => decide (-1000000000 ≤ i ∧ i ≤ 1000000000) | .str x => asc 40 x | _ => false
theorem pv_fv : ∀ {d : D}, pvB d = true → FV 40 d
  | .non, _ => trivial
  | .int _, _ => trivial
  | .str x, h => asc_gs h
  | .bl _, h => by cases h
  | .tup _, h => by cases h
  | .lst _, h => by cases h
  | .dct _, h => by cases h
  | .scr _, h => by cases h
  | .ref _, h => by cases h
theorem pv_sm : ∀ {d : D}, pvB d = true → Sm 0 40 d
  | .non, _ => Sm.non.mono (Nat.le_refl _) (Nat.zero_le _)
  | .int i, h => Sm.int (by have := of_decide_eq_true (show decide (-1000000000 ≤ i ∧ i ≤ 1000000000) = true from h); omega)
  | .str x, h => Sm.str (asc_gs h)
  | .bl _, h => by cases h
  | .tup _, h => by cases h
  | .lst _, h => by cases h
  | .dct _, h => by cases h
  | .scr _, h => by cases h
  | .ref _, h => by cases h
theorem strsD_of : ∀ {vs : List D}, (∀ v ∈ vs, ∃ x, v = .str x ∧ GS 1 x) → ∃ ys, strsD vs = some ys ∧ ys.length = vs.length ∧ ∀ y ∈ ys, GS 1 y
  | [], _ => ⟨[], rfl, rfl, fun _ h => by cases h⟩
  | v :: vs, h => by
    obtain ⟨x, rfl, g⟩ := h v List.mem_cons_self
    obtain ⟨ys, h1, h2, h3⟩ := strsD_of fun w hw => h w (List.mem_cons_of_mem _ hw)
    refine ⟨x :: ys, by simp [strsD, h1], by simp [h2], fun y hy => ?_⟩
    rcases List.mem_cons.mp hy with rfl | hy
    · exact g
    · exact h3 y hy
theorem sum_le {m : Nat} : ∀ {ys : List Str}, (∀ y ∈ ys, GS m y) → (ys.map (·.length)).sum ≤ ys.length * m
  | [], _ => Nat.zero_le _
  | y :: ys, h => by
    have h1 := sum_le fun z hz => h z (List.mem_cons_of_mem _ hz)
    have h2 := (h y List.mem_cons_self).1
    rw [List.map_cons, List.sum_cons, List.length_cons, Nat.succ_mul]
    omega
theorem join_ok {m k : Nat} {vs : List D} (h : ∀ v ∈ vs, ∃ x, v = .str x ∧ GS 1 x) (hl : vs.length ≤ k) (hk : k ≤ 1000) : ∃ z, joinD (.str (Str.ofString "")) [.lst vs] = some (.str z) ∧ GS k z := by
  obtain ⟨ys, h1, h2, h3⟩ := strsD_of h
  have hs := sum_le h3
  have : (ys.map (·.length)).sum + ys.length * (Str.ofString "").length ≤ 16777216 := by
    rw [show (Str.ofString "").length = 0 from rfl]
    omega
  refine ⟨_, by simp only [joinD, h1, Option.bind_some]; rw [if_pos this], ?_⟩
  exact (GS.join h3).mono (by omega)
end LW
namespace LW
open PySem PySem.Spec PyProof.Rows L2 DL TL
theorem pv_str {x : Str} (h : GS 40 x) : pvB (.str x) = true := gs_asc h
theorem bits10 : Builtin.Int.intBits 10 ≤ 32 := bits32 (by decide) (by decide)
theorem pow109 : powI (.int 10) (.int 9) = some (.int 1000000000) := by
  have p := powI_int (a := 10) (b := 9) (by decide) bits10 (by decide)
  simpa using p
theorem mulz (k : Int) (h : 0 ≤ k ∧ k ≤ 1000) : opMul (.str (Str.ofString "z")) (.int k) = some (.str (Txt.mul (Str.ofString "z") k)) := by
  have : (Str.ofString "z").length ≤ 1000 := by decide
  simp [opMul, orD, mulI, onI, mulS, this, h.1, h.2]
theorem addL_ok {xs ys : List D} (h : xs.length + ys.length ≤ 1000) : opAdd (.lst xs) (.lst ys) = some (.lst (xs ++ ys)) := by
  have : xs.length + ys.length ≤ sizeLine := Nat.le_trans h (by decide)
  simp [opAdd, orD, addI, addS, addL, onI, onS, this]
theorem addT_ok {xs ys : List D} (h : xs.length + ys.length ≤ 1000) : opAdd (.tup xs) (.tup ys) = some (.tup (xs ++ ys)) := by
  have : xs.length + ys.length ≤ sizeLine := Nat.le_trans h (by decide)
  simp [opAdd, orD, addI, addS, addL, addT, onI, onS, this]
def someV : List D := [.non, .int 0, .int 1, .int 2, .int (-1), .int 1, .int 2, .int 1000000000, .int (-1000000000), .str (Str.ofString ""), .str (Str.ofString "a"), .str (Str.ofString "ab"), .str (Str.ofString "b"), .str (Str.ofString "a b"), .str (Str.ofString "A"), .str (Str.ofString "~"), .str (Txt.mul (Str.ofString "z") 20)]
def moreV : List D := [.str (Txt.mul (Str.ofString "z") 19), .str (Str.ofString "customer one"), .str (Str.ofString "customer two"), .str (Str.ofString "1"), .str (Str.ofString "-1"), .int 2, .str (Str.ofString "abc"), .str (Str.ofString "abd")]
theorem allV : (someV ++ moreV).all pvB = true := by decide +kernel
abbrev sgn1 : String := " !#$&'()*+,-./0123456789:;<=>?@ABCDEFGHIJKLMNOPQRSTUVWXYZ[]^_{|}~"
abbrev sgn2 : String := "abcdefghijklmnopqrstuvwxyz"
end LW
namespace LW
open PySem PySem.Spec PyProof.Rows L2 DL TL
/-! what the document says of values and conditions -/
def signB (c : Nat) : Bool := decide (32 ≤ c ∧ c ≤ 126)
def isInt : D → Bool | .int _ => true | _ => false
def strB : D → Bool | .str x => decide (x.length ≤ 20) && (tl x).all signB | _ => false
def valB : D → Bool | .non => true | .int i => decide (-1000000000 ≤ i ∧ i ≤ 1000000000) | .str x => decide (x.length ≤ 20) && (tl x).all signB | _ => false
def choiceB : D → Bool | .tup us => decide (1 ≤ us.length ∧ us.length ≤ 8) && us.all valB | _ => false
def colB (w : Int) : D → Bool | .int i => decide (0 ≤ i ∧ i < w) | _ => false
def okw (d : D) : Prop := okD d = true ∧ wD d ≤ 200000
theorem okw.mem {ds : List D} (h : okw (.tup ds)) {d : D} (m : d ∈ ds) : okw d := ⟨okL_mem.mp h.1 d m, by have := wL_mem m; have h2 : wL ds ≤ 200000 := h.2; omega⟩
theorem len_wL : ∀ ds : List D, ds.length ≤ wL ds
  | [] => Nat.le_refl _
  | d :: ds => by have := len_wL ds; rw [wL, List.length_cons]; omega
theorem okw.len {ds : List D} (h : okw (.tup ds)) : ds.length ≤ sizeLine := Nat.le_trans (len_wL ds) (Nat.le_trans h.2 (by rw [sizeLine_eq]; decide))
theorem okw.strlen {x : Str} (h : okw (.str x)) : x.length ≤ sizeLine := Nat.le_trans (show x.length ≤ 200000 from h.2) (by rw [sizeLine_eq]; decide)
theorem int_ok {d : D} (h : okw d) (st : Store) : m_is_integer [d] st = some (.bl (isInt d), st) := by
  cases d <;> first
    | (cases h.1; done)
    | (simp [m_is_integer, g_is_integer, mOf, outM, startD, sRet, fAnd, fNot, fIsi, fVar, tyD, isiB, asB, isInt]; done)
theorem lt1 {a b : Nat} (h : a < b) : ([a] : List Nat) < [b] := by simp [List.cons_lt_cons_iff, h]
theorem le1 {a b : Nat} (h : a ≤ b) : ([a] : List Nat) ≤ [b] := List.not_lt.mp (by simp [List.cons_lt_cons_iff]; omega)
theorem chain_sign (c : Nat) (env : Lo) (st : Store) (h : env[1]? = some (some (.str ⟨#[c]⟩))) : fChain opLe opLe (fC (.str (Str.ofString " "))) (fVar 1) (fC (.str (Str.ofString "~"))) env st = some (.bl (signB c), st) := by
  have e1 : (Str.ofString " ").cps.toList = [32] := by decide +kernel
  have e2 : (Str.ofString "~").cps.toList = [126] := by decide +kernel
  have l1 : opLe (.str (Str.ofString " ")) (.str ⟨#[c]⟩) = some (.bl (decide (32 ≤ c))) := by
    by_cases q : 32 ≤ c
    · simp [opLe, orD, leI, leS, onI, onS, e1, q, le1 q]
    · simp [opLe, orD, leI, leS, onI, onS, e1, q, lt1 (show c < 32 by omega)]
  have l2 : opLe (.str ⟨#[c]⟩) (.str (Str.ofString "~")) = some (.bl (decide (c ≤ 126))) := by
    by_cases q : c ≤ 126
    · simp [opLe, orD, leI, leS, onI, onS, e2, q, le1 q]
    · simp [opLe, orD, leI, leS, onI, onS, e2, q, lt1 (show 126 < c by omega)]
  by_cases h1 : 32 ≤ c
  · simp [fChain, fC, fVar, h, l1, l2, asB, h1, signB]
  · simp [fChain, fC, fVar, h, l1, asB, h1, signB]
theorem bools_map : ∀ l : List Bool, bools (l.map .bl) = some l
  | [] => rfl
  | b :: l => by simp [bools, bools_map l]
def signD (c : Nat) : D := .str ⟨#[c]⟩
theorem signs_loop (x : Str) (st : Store) : loopC [1] b1 tTrue (fChain opLe opLe (fC (.str (Str.ofString " "))) (fVar 1) (fC (.str (Str.ofString "~")))) (x.cps.toList.map fun c => .str ⟨#[c]⟩) [some (.str x), none] st = some (((tl x).map signB).map .bl, st) := by
  have key : ∀ l : List Nat, loopC [1] b1 tTrue (fChain opLe opLe (fC (.str (Str.ofString " "))) (fVar 1) (fC (.str (Str.ofString "~")))) (l.map fun c => .str ⟨#[c]⟩) [some (.str x), none] st = some ((l.map signB).map .bl, st) := by
    intro l
    induction l with
    | nil => rfl
    | cons c l ih => simp only [List.map_cons, loopC, b1, Option.bind_some, tTrue, if_true, setL, chain_sign c [some (.str x), some (.str ⟨#[c]⟩)] st rfl, List.set_cons_succ, List.set_cons_zero, ih, Option.map_some]
  exact key (tl x)
theorem tl_len (x : Str) : (tl x).length = x.length := (len_tl x).symm
theorem string_ok {d : D} (h : okw d) (st : Store) : m_is_string [d] st = some (.bl (strB d), st) := by
  cases d with
  | str x =>
    have z := h.strlen
    by_cases c : x.length ≤ 20
    · have c2 : ¬ (20 : Int) < (x.length : Int) := by omega
      have zz : ((tl x).map signB).length ≤ sizeLine := by rw [List.length_map, tl_len]; exact z
      simp only [m_is_string, g_is_string, mOf, outM, startD, sSeq, sIf, sRet, sNil, fOrT, fNotT, fTest, fIsi, fVar, tyD, isiB, asB, fOp, fMk, bLen, lenL, aCons, aNil, fC]
      simp [z, opGt_int, c2, fComp, iOf, fVar, asStr, wipeL]
      rw [signs_loop x st]
      have ba := bools_map ((tl x).map signB)
      simp at ba zz
      simp [zz, ba, bAll, strB, c]
    · have c2 : (20 : Int) < (x.length : Int) := by omega
      simp [m_is_string, g_is_string, mOf, outM, startD, sSeq, sIf, sRet, sNil, fOrT, fNotT, fTest, fIsi, fVar, tyD, isiB, asB, fOp, fMk, bLen, lenL, aCons, aNil, fC, z, opGt_int, c2, strB, c]
  | scr _ => cases h.1
  | ref _ => cases h.1
  | _ => simp [m_is_string, g_is_string, mOf, outM, startD, sSeq, sIf, sRet, fOrT, fNotT, fTest, fIsi, fVar, tyD, isiB, asB, fC, strB]
end LW
namespace LW
open PySem PySem.Spec PyProof.Rows L2 DL TL
theorem opLe_int (a b : Int) : opLe (.int a) (.int b) = some (.bl (decide (a ≤ b))) := by simp [opLe, orD, leI, onI]
theorem chain_int {a b c : Int} {fa fb fc : F} {env : Lo} {st : Store} (h1 : fa env st = some (.int a, st)) (h2 : fb env st = some (.int b, st)) (h3 : fc env st = some (.int c, st)) : fChain opLe opLe fa fb fc env st = some (.bl (decide (a ≤ b ∧ b ≤ c)), st) := by
  by_cases q : a ≤ b
  · simp [fChain, h1, h2, h3, opLe_int, asB, q]
  · simp [fChain, h1, h2, opLe_int, asB, q]
theorem isval_ok {d : D} (h : okw d) (st : Store) : m_is_value [d] st = some (.bl (valB d), st) := by
  have k := string_ok h st
  have k2 := int_ok h st
  cases d with
  | int i =>
    have c := chain_int (a := -1000000000) (b := i) (c := 1000000000) (fa := fUn negI (fC (.int 1000000000))) (fb := fVar 0) (fc := fC (.int 1000000000)) (env := [some (.int i)]) (st := st) (by simp [fUn, negI, fC]) (by simp [fVar]) (by simp [fC])
    simp only [m_is_value, g_is_value, mOf, outM, startD, sSeq, sIf, sRet, sNil, fTest, fCall, aCons, aNil, List.map_cons, List.map_nil, List.singleton_append, show N_is_value.length = 1 from rfl, List.length_cons, List.length_nil, show List.replicate (1 - (0 + 1)) (none : Option D) = [] from rfl]
    simp [fVar, k2, isInt, asB]
    rw [show ([some (D.int i)] : Lo) = [some (.int i)] from rfl, c]
    simp [valB]
  | scr _ => cases h.1
  | ref _ => cases h.1
  | _ => simp [m_is_value, g_is_value, mOf, outM, startD, sSeq, sIf, sRet, sNil, fTest, fCall, aCons, aNil, fVar, k2, isInt, asB, fOr, fOp, fC, opIs, orD, isN, isB, DL.isNon, k, strB, valB]
theorem map_loop {is : List Nat} {f : F} {env : Lo} {st : Store} {g : D → Bool} {us : List D} (h : ∀ u ∈ us, f (setL is [u] env) st = some (.bl (g u), st)) : loopC is b1 tTrue f us env st = some ((us.map g).map .bl, st) := by
  have := loopC_map (is := is) (bd := b1) (f := f) (g := fun u => .bl (g u)) (env := env) (st := st) (ds := us) fun d hd => ⟨[d], rfl, h d hd⟩
  rw [this, List.map_map]
  rfl
theorem all_id (g : D → Bool) (us : List D) : (us.map g).all id = us.all g := by
  induction us with
  | nil => rfl
  | cons u us ih => rw [List.map_cons, List.all_cons, List.all_cons, ih]; rfl
/-- the text of a kind -/
def isK (s : String) : D → Bool | .str x => x == Str.ofString s | _ => false
theorem isK_str (s : String) (x : Str) : isK s (.str x) = (x == Str.ofString s) := rfl
theorem eqS_ok {d : D} (h : okD d = true) (s : String) : eqS (Str.ofString s) d = some (isK s d) := by
  cases d <;> first
    | rfl
    | (cases h; done)
theorem eqA_k {d : D} (h : okD d = true) (s : String) : opEqA d (.str (Str.ofString s)) = some (.bl (isK s d)) := by
  simp [opEqA, orD, DL.eqT, eqS_ok h s]
theorem inA_k {d : D} (h : okD d = true) (a b : String) : opInA d (.tup [.str (Str.ofString a), .str (Str.ofString b)]) = some (.bl (isK a d || isK b d)) := by
  simp [opInA, orD, inStr, strsD, anyS, eqS_ok h]
def operB (k : D) (d : D) : Bool := if isK "equal" k || isK "less" k then valB d else if isK "starts" k then (strB d && !isK "" d) else isK "one_of" k && choiceB d
end LW
namespace LW
open PySem PySem.Spec PyProof.Rows L2 DL TL
/-- a condition of depth k at most -/
def cw (w : Int) : Nat → D → Bool
  | k + 1, .tup (h :: r) => if isK "all" h then r.isEmpty else if isK "not" h then (match r with | [p] => cw w k p | _ => false) else (match r with | [p, q] => if isK "and" h || isK "or" h then cw w k p && cw w k q else colB w p && operB h q | _ => false)
  | _, _ => false
theorem ix0 {a : D} {r : List D} : L2.atI (a :: r) 0 = some a := atI_nat (j := 0) rfl
theorem ix1 {a b : D} {r : List D} : L2.atI (a :: b :: r) 1 = some b := atI_nat (j := 1) rfl
theorem ix2 {a b c : D} {r : List D} : L2.atI (a :: b :: c :: r) 2 = some c := atI_nat (j := 2) rfl
theorem cut1 {a : D} {r : List D} : DL.cutD (a :: r) (some 1) none = r := by
  unfold DL.cutD
  rw [show (1 : Int) = ((1 : Nat) : Int) from rfl, HT.sIx_nat, HT.sIx_none]
  simp
/-! the law's own reading -/
def rngB (a b : Int) : D → Bool | .int i => decide (a ≤ i ∧ i ≤ b) | _ => false
theorem bad_loop (x : Str) (st : Store) : loopC [1] b1 (fNotT (fTest (fChain opLe opLe (fC (.str (Str.ofString " "))) (fVar 1) (fC (.str (Str.ofString "~")))))) (fVar 1) (x.cps.toList.map fun c => .str ⟨#[c]⟩) [some (.str x), none] st = some (((tl x).filter fun c => !signB c).map fun c => .str ⟨#[c]⟩, st) := by
  have key : ∀ l : List Nat, loopC [1] b1 (fNotT (fTest (fChain opLe opLe (fC (.str (Str.ofString " "))) (fVar 1) (fC (.str (Str.ofString "~")))))) (fVar 1) (l.map fun c => .str ⟨#[c]⟩) [some (.str x), none] st = some ((l.filter fun c => !signB c).map fun c => .str ⟨#[c]⟩, st) := by
    intro l
    induction l with
    | nil => rfl
    | cons c l ih =>
      have e := chain_sign c [some (.str x), some (.str ⟨#[c]⟩)] st rfl
      rw [List.map_cons, List.filter_cons]
      cases q : signB c with
      | true =>
        rw [q] at e
        simp only [loopC, b1, Option.bind_some, setL, List.set_cons_succ, List.set_cons_zero, fNotT, fTest, e, asB, Option.map_some, Bool.not_true, Bool.false_eq_true, if_false]
        exact ih
      | false =>
        rw [q] at e
        simp only [loopC, b1, Option.bind_some, setL, List.set_cons_succ, List.set_cons_zero, fNotT, fTest, e, asB, Option.map_some, Bool.not_false, if_true]
        rw [show fVar 1 [some (D.str x), some (D.str ⟨#[c]⟩)] st = some (.str ⟨#[c]⟩, st) from rfl]
        simp only [Option.bind_some]
        rw [show loopC [1] b1 (fNotT (fTest (fChain opLe opLe (fC (.str (Str.ofString " "))) (fVar 1) (fC (.str (Str.ofString "~")))))) (fVar 1) (l.map fun c => .str ⟨#[c]⟩) [some (.str x), none] st = _ from ih]
        rfl
  exact key (tl x)
theorem signs_nil {l : List Nat} (h : ∀ c ∈ l, c < 128) : opEq (.lst (l.map fun c => .str ⟨#[c]⟩)) (.lst []) = some (.bl l.isEmpty) := by
  have s1 : SmL 0 ((l.map fun c => D.str ⟨#[c]⟩).length * 2) (l.map fun c => D.str ⟨#[c]⟩) := SmL.all fun d hd => by
    obtain ⟨c, hc, rfl⟩ := List.mem_map.mp hd
    exact Sm.str ⟨Nat.le_refl _, fun y hy => by
      have : y = c := by simpa using hy
      subst this
      exact h y hc⟩
  obtain ⟨p, h1, h2⟩ := (Sm.lst s1).shaped (by decide)
  obtain ⟨ps, h3, h4⟩ := Option.map_eq_some_iff.mp (show (toPyL _).map PyData.list = some p from h1)
  subst h4
  have e : PyData.eqv (.list ps) (.list []) = l.isEmpty := by
    cases l with
    | nil => cases h3; rfl
    | cons c l =>
      obtain ⟨q, g1, g2⟩ := Option.bind_eq_some_iff.mp (show ((toPy _).bind fun p => (toPyL _).map fun q => p :: q) = some ps from h3)
      obtain ⟨qs, g3, g4⟩ := Option.map_eq_some_iff.mp g2
      subst g4
      rfl
  have e2 : toPy (.lst []) = some (.list []) := rfl
  have e3 : SeqAt.shaped (.list []) = true := by decide
  simp only [opEq, h1, e2, Option.bind_some, h2, e3, and_self, if_true, e]
theorem filter_nil (l : List Nat) : (l.filter fun c => !signB c).isEmpty = l.all signB := by
  induction l with
  | nil => rfl
  | cons c l ih => cases q : signB c <;> simp [List.filter_cons, q, ih]
end LW
namespace LW
open PySem PySem.Spec PyProof.Rows L2 DL TL
def lowB (c : Nat) : Bool := decide (97 ≤ c ∧ c ≤ 122)
def nameB : D → Bool | .str x => decide (1 ≤ x.length ∧ x.length ≤ 8) && (tl x).all lowB | _ => false
def barL : List Str := [Str.ofString "all", Str.ofString "and", Str.ofString "in", Str.ofString "none", Str.ofString "not", Str.ofString "or", Str.ofString "starts"]
def barB (s : Str) : Bool := barL.any (· == s)
def colNameB (d : D) : Bool := nameB d && match d with | .str x => !barB x | _ => true
def strsB (ds : List D) : Bool := match strsD ds with | some xs => decide xs.Nodup | none => false
def colsB : D → Bool | .tup ds => decide (1 ≤ ds.length ∧ ds.length ≤ 6) && ds.all colNameB && strsB ds | _ => false
def rowB (n : Nat) : D → Bool | .tup [a, .tup vs] => rngB 1 1000000 a && (decide (vs.length = n) && vs.all valB) | _ => false
theorem chain_c {a b : Str} {lo hi c i : Nat} {env : Lo} {st : Store} (ea : a.cps.toList = [lo]) (eb : b.cps.toList = [hi]) (h : env[i]? = some (some (.str ⟨#[c]⟩))) : fChain opLe opLe (fC (.str a)) (fVar i) (fC (.str b)) env st = some (.bl (decide (lo ≤ c ∧ c ≤ hi)), st) := by
  have l1 : opLe (.str a) (.str ⟨#[c]⟩) = some (.bl (decide (lo ≤ c))) := by
    by_cases q : lo ≤ c
    · simp [opLe, orD, leI, leS, onI, onS, ea, q, le1 q]
    · simp [opLe, orD, leI, leS, onI, onS, ea, q, lt1 (show c < lo by omega)]
  have l2 : opLe (.str ⟨#[c]⟩) (.str b) = some (.bl (decide (c ≤ hi))) := by
    by_cases q : c ≤ hi
    · simp [opLe, orD, leI, leS, onI, onS, eb, q, le1 q]
    · simp [opLe, orD, leI, leS, onI, onS, eb, q, lt1 (show hi < c by omega)]
  by_cases h1 : lo ≤ c
  · simp [fChain, fC, fVar, h, l1, l2, asB, h1]
  · simp [fChain, fC, fVar, h, l1, asB, h1]
theorem chain_low {c i : Nat} {env : Lo} {st : Store} (h : env[i]? = some (some (.str ⟨#[c]⟩))) : fChain opLe opLe (fC (.str (Str.ofString "a"))) (fVar i) (fC (.str (Str.ofString "z"))) env st = some (.bl (lowB c), st) :=
  chain_c (by decide +kernel) (by decide +kernel) h
theorem lows_loop (l : List Nat) (x : D) (st : Store) : loopC [1] b1 tTrue (fChain opLe opLe (fC (.str (Str.ofString "a"))) (fVar 1) (fC (.str (Str.ofString "z")))) (l.map fun c => .str ⟨#[c]⟩) [some x, none] st = some ((l.map lowB).map .bl, st) := by
  induction l with
  | nil => rfl
  | cons c l ih => simp only [List.map_cons, loopC, b1, Option.bind_some, tTrue, if_true, setL, chain_low (c := c) (i := 1) (env := [some x, some (.str ⟨#[c]⟩)]) (st := st) rfl, List.set_cons_succ, List.set_cons_zero, ih, Option.map_some]
theorem lowbad_loop (l : List Nat) (x y : D) (st : Store) : loopC [2] b1 (fNotT (fTest (fChain opLe opLe (fC (.str (Str.ofString "a"))) (fVar 2) (fC (.str (Str.ofString "z")))))) (fVar 2) (l.map fun c => .str ⟨#[c]⟩) [some x, some y, none] st = some ((l.filter fun c => !lowB c).map fun c => .str ⟨#[c]⟩, st) := by
  induction l with
  | nil => rfl
  | cons c l ih =>
    have e := chain_low (c := c) (i := 2) (env := [some x, some y, some (.str ⟨#[c]⟩)]) (st := st) rfl
    rw [List.map_cons, List.filter_cons]
    cases q : lowB c with
    | true =>
      rw [q] at e
      simp only [loopC, b1, Option.bind_some, setL, List.set_cons_succ, List.set_cons_zero, fNotT, fTest, e, asB, Option.map_some, Bool.not_true, Bool.false_eq_true, if_false]
      exact ih
    | false =>
      rw [q] at e
      simp only [loopC, b1, Option.bind_some, setL, List.set_cons_succ, List.set_cons_zero, fNotT, fTest, e, asB, Option.map_some, Bool.not_false, if_true]
      rw [show fVar 2 [some x, some y, some (D.str ⟨#[c]⟩)] st = some (.str ⟨#[c]⟩, st) from rfl]
      simp only [Option.bind_some]
      rw [show loopC [2] b1 (fNotT (fTest (fChain opLe opLe (fC (.str (Str.ofString "a"))) (fVar 2) (fC (.str (Str.ofString "z")))))) (fVar 2) (l.map fun c => .str ⟨#[c]⟩) [some x, some y, none] st = _ from ih]
      rfl
theorem filter_nil' {p : Nat → Bool} (l : List Nat) : (l.filter fun c => !p c).isEmpty = l.all p := by
  induction l with
  | nil => rfl
  | cons c l ih => cases q : p c <;> simp [List.filter_cons, q, ih]
theorem name_ok {d : D} (h : okw d) (st : Store) : m_is_name [d] st = some (.bl (nameB d), st) := by
  cases d with
  | str x =>
    have z := h.strlen
    have c := chain_int (a := 1) (b := x.length) (c := 8) (fa := fC (.int 1)) (fb := fMk bLen (aCons (fVar 0) aNil)) (fc := fC (.int 8)) (env := [some (.str x), none]) (st := st) (by simp [fC]) (by simp [fMk, bLen, lenL, aCons, aNil, fVar, z]) (by simp [fC])
    by_cases q : 1 ≤ x.length ∧ x.length ≤ 8
    · have q2 : (1 : Int) ≤ x.length ∧ (x.length : Int) ≤ 8 := by omega
      have zz : ((tl x).map lowB).length ≤ sizeLine := by rw [List.length_map, tl_len]; exact z
      simp only [m_is_name, g_is_name, mOf, outM, startD, sSeq, sIf, sRet, sNil, fOrT, fNotT, fTest, fIsi, tyD, isiB, asB]
      simp [fVar, c, q2, asB, fMk, aCons, aNil, fComp, iOf, asStr, wipeL]
      have lp := lows_loop (tl x) (.str x) st
      rw [show (x.cps.toList.map fun c => D.str ⟨#[c]⟩) = (tl x).map fun c => D.str ⟨#[c]⟩ from rfl, lp]
      have ba := bools_map ((tl x).map lowB)
      simp at ba zz
      simp [zz, ba, bAll, nameB, q]
    · have q2 : ¬ ((1 : Int) ≤ x.length ∧ (x.length : Int) ≤ 8) := by omega
      simp only [q2, decide_false] at c
      simp only [m_is_name, g_is_name, mOf, outM, startD, sSeq, sIf, sRet, sNil, fOrT, fNotT, fTest, fIsi, tyD, isiB, asB, nameB]
      simp [fVar, c, fC, q, asB]
  | scr _ => cases h.1
  | ref _ => cases h.1
  | _ => simp [m_is_name, g_is_name, mOf, outM, startD, sSeq, sIf, sRet, sNil, fOrT, fNotT, fTest, fIsi, tyD, isiB, asB, fVar, fC, nameB]
theorem inBar (neg : Bool) (s : Str) : inSeq neg (.str s) (.tup (barL.map .str)) = some (.bl (if neg then !barB s else barB s)) := by
  have key : ∀ l : List Str, anyF (.str s) (l.map .str) = some (l.any (· == s)) := by
    intro l
    induction l with
    | nil => rfl
    | cons a l ih => simp [anyF, eqF, ih]
  show (if flatD (.str s) then (anyF (.str s) (barL.map .str)).map fun b => D.bl (if neg then !b else b) else none) = _
  rw [key]
  rfl
theorem colname_ok {d : D} (h : okw d) (st : Store) : m_is_column_name [d] st = some (.bl (colNameB d), st) := by
  have k := name_ok h st
  have ib : ∀ s, inSeq true (.str s) (.tup (([Str.ofString "all", Str.ofString "and", Str.ofString "in", Str.ofString "none", Str.ofString "not", Str.ofString "or", Str.ofString "starts"] : List Str).map .str)) = some (.bl (!barB s)) := fun s => inBar true s
  cases d with
  | str x =>
    cases q : nameB (.str x) with
    | true =>
      rw [q] at k
      simp only [m_is_column_name, g_is_column_name, mOf, outM, startD, sRet, fAnd, fCall, aCons, aNil, fOp, fC, show N_is_column_name.length = 1 from rfl]
      simp [fVar, k, asB, ib, colNameB, q]
      simp at ib
      simp [ib]
    | false =>
      rw [q] at k
      simp [m_is_column_name, g_is_column_name, mOf, outM, startD, sRet, fAnd, fCall, aCons, aNil, fVar, k, asB, colNameB, q]
  | scr _ => cases h.1
  | ref _ => cases h.1
  | _ => simp [m_is_column_name, g_is_column_name, mOf, outM, startD, sRet, fAnd, fCall, aCons, aNil, fVar, k, asB, colNameB, nameB]
theorem names_strs : ∀ {ds : List D}, ds.all colNameB = true → ∃ xs : List Str, strsD ds = some xs ∧ ds = xs.map .str
  | [], _ => ⟨[], rfl, rfl⟩
  | d :: ds, h => by
    rw [List.all_cons, Bool.and_eq_true] at h
    obtain ⟨xs, h1, h2⟩ := names_strs h.2
    cases d with
    | str x => exact ⟨x :: xs, by simp [strsD, h1], by rw [h2]; rfl⟩
    | _ => simp [colNameB, nameB] at h
theorem cols_ok {d : D} (h : okw d) (st : Store) : m_is_columns [d] st = some (.bl (colsB d), st) := by
  cases d with
  | tup us =>
    have z := h.len
    have c := chain_int (a := 1) (b := us.length) (c := 6) (fa := fC (.int 1)) (fb := fMk bLen (aCons (fVar 0) aNil)) (fc := fC (.int 6)) (env := [some (.tup us), none]) (st := st) (by simp [fC]) (by simp [fMk, bLen, lenL, aCons, aNil, fVar, z]) (by simp [fC])
    have lp := map_loop (is := [1]) (f := fCall m_is_column_name (aCons (fVar 1) aNil)) (env := [some (.tup us), none]) (st := st) (g := colNameB) (us := us) (fun u hu => by simp [fCall, aCons, aNil, fVar, setL, colname_ok (h.mem hu)])
    by_cases q : 1 ≤ us.length ∧ us.length ≤ 6
    · have q2 : (1 : Int) ≤ us.length ∧ (us.length : Int) ≤ 6 := by omega
      have ba := bools_map (us.map colNameB)
      have al := all_id colNameB us
      cases qa : us.all colNameB with
      | true =>
        obtain ⟨xs, h1, h2⟩ := names_strs qa
        have hl : xs.length = us.length := by rw [h2, List.length_map]
        have hx : xs.length < 1000 := by omega
        have nd := cntS_nodup xs
        have el : opEq (.int (cntS xs xs.length : Nat)) (.int us.length) = some (.bl (decide xs.Nodup)) := by
          rw [opEq_int, ← hl]
          by_cases hn : xs.Nodup
          · rw [nd.mpr hn]; simp [hn]
          · have hne : (cntS xs xs.length : Int) ≠ xs.length := fun e => hn (nd.mp (by omega))
            simp [hn, hne]
        rw [qa] at al
        simp at ba al
        simp only [m_is_columns, g_is_columns, mOf, outM, startD, sSeq, sIf, sRet, sNil, fOrT, fNotT, fTest, fIsi, tyD, isiB, asB]
        simp [fVar, c, q2, asB, fMk, aCons, aNil, fComp, iOf, asT, wipeL, lp, z, bAll, ba, fLenSt, h1, hx, fOp, bLen, lenL, el, colsB, q, strsB, qa]
      | false =>
        rw [qa] at al
        simp at ba al
        simp only [m_is_columns, g_is_columns, mOf, outM, startD, sSeq, sIf, sRet, sNil, fOrT, fNotT, fTest, fIsi, tyD, isiB, asB]
        simp [fVar, c, q2, asB, fMk, aCons, aNil, fComp, iOf, asT, wipeL, lp, z, bAll, ba, colsB, q, qa, fC, al]
    · have q2 : ¬ ((1 : Int) ≤ us.length ∧ (us.length : Int) ≤ 6) := by omega
      simp only [q2, decide_false] at c
      simp only [m_is_columns, g_is_columns, mOf, outM, startD, sSeq, sIf, sRet, sNil, fOrT, fNotT, fTest, fIsi, tyD, isiB, asB, colsB]
      simp [fVar, c, fC, q, asB]
  | scr _ => cases h.1
  | ref _ => cases h.1
  | _ => simp [m_is_columns, g_is_columns, mOf, outM, startD, sSeq, sIf, sRet, sNil, fOrT, fNotT, fTest, fIsi, tyD, isiB, asB, fVar, fC, colsB]
theorem rowid_ok {d : D} (h : okw d) (st : Store) : m_is_row_id [d] st = some (.bl (rngB 1 1000000 d), st) := by
  have k := int_ok h st
  cases d with
  | int i =>
    have c := chain_int (a := 1) (b := i) (c := 1000000) (fa := fC (.int 1)) (fb := fVar 0) (fc := fC (.int 1000000)) (env := [some (.int i)]) (st := st) (by simp [fC]) (by simp [fVar]) (by simp [fC])
    simp only [m_is_row_id, g_is_row_id, mOf, outM, startD, sRet, fAnd, fCall, aCons, aNil, show N_is_row_id.length = 1 from rfl]
    simp [fVar, k, isInt, asB]
    rw [c]
    simp [rngB]
  | scr _ => cases h.1
  | ref _ => cases h.1
  | _ => simp [m_is_row_id, g_is_row_id, mOf, outM, startD, sRet, fAnd, fCall, aCons, aNil, fVar, k, isInt, asB, rngB]
end LW
namespace LW
open PySem PySem.Spec PyProof.Rows L2 DL TL
theorem opNe_of {a b : D} {k : Bool} (h : opEq a b = some (.bl k)) : opNe a b = some (.bl (!k)) := by
  obtain ⟨p, h1, h2⟩ := Option.bind_eq_some_iff.mp (show (toPy a).bind (fun p => (toPy b).bind fun q => if SeqAt.shaped p = true ∧ SeqAt.shaped q = true then some (D.bl (PyData.eqv p q)) else none) = some (.bl k) from h)
  obtain ⟨q, h3, h4⟩ := Option.bind_eq_some_iff.mp h2
  by_cases z : SeqAt.shaped p = true ∧ SeqAt.shaped q = true
  · rw [if_pos z] at h4
    cases h4
    simp [opNe, h1, h3, z]
  · rw [if_neg z] at h4; cases h4
theorem loopS_all {tg : FG} {body : FS} {g : D → Bool} {I : Lo → Prop} {st : Store} : ∀ {us : List D}, (∀ u ∈ us, ∀ env, I env → ∃ e1, tg u env = some e1 ∧ ∃ e2, I e2 ∧ body e1 st = some (if g u = true then (.nx, e2, st) else (.rt (.bl false), e2, st))) →
    ∀ env, I env → ∃ e2, I e2 ∧ loopS tg body us env st = some (if us.all g = true then .nx else .rt (.bl false), e2, st)
  | [], _, env, i => ⟨env, i, rfl⟩
  | u :: us, h, env, i => by
    obtain ⟨e1, h1, e2, i2, h2⟩ := h u List.mem_cons_self env i
    cases q : g u with
    | true =>
      obtain ⟨e3, i3, h3⟩ := loopS_all (fun v hv => h v (List.mem_cons_of_mem _ hv)) e2 i2
      refine ⟨e3, i3, ?_⟩
      rw [q] at h2
      simp [loopS, h1, h2, h3, q]
    | false =>
      refine ⟨e2, i2, ?_⟩
      rw [q] at h2
      simp [loopS, h1, h2, q]
end LW
namespace LW
open PySem PySem.Spec PyProof.Rows L2 DL TL
theorem ix0' {a : D} {r : List D} : L2.atI (a :: r) 0 = some a := atI_nat (j := 0) rfl
theorem ix1' {a b : D} {r : List D} : L2.atI (a :: b :: r) 1 = some b := atI_nat (j := 1) rfl
theorem len2 {us : List D} (h : us.length = 2) : ∃ a b, us = [a, b] := by
  match us, h with
  | [a, b], _ => exact ⟨a, b, rfl⟩
theorem rowB_no {n : Nat} {us : List D} (h : ¬ us.length = 2) : rowB n (.tup us) = false := by
  match us, h with
  | [], _ => rfl
  | [_], _ => rfl
  | [_, _], h => exact absurd rfl h
  | a :: b :: c :: r, _ => cases b <;> rfl
theorem noFalse (l : List Bool) : inSeq true (.bl false) (.lst (l.map .bl)) = some (.bl (l.all id)) := by
  have key : ∀ l : List Bool, anyF (.bl false) (l.map .bl) = some (!(l.all id)) := by
    intro l
    induction l with
    | nil => rfl
    | cons b l ih => cases b <;> simp [anyF, eqF, ih]
  have := key l
  simp only [inSeq, flatD, if_true, this, Option.map_some, Bool.not_not]
theorem row_ok {cs : List D} {d : D} (hc : cs.length ≤ sizeLine) (h : okw d) (st : Store) : m_is_row [.tup cs, d] st = some (.bl (rowB cs.length d), st) := by
  cases d with
  | tup us =>
    have z := h.len
    by_cases q : us.length = 2
    · obtain ⟨a, b, rfl⟩ := len2 q
      have ha := h.mem (d := a) (by simp)
      have hb := h.mem (d := b) (by simp)
      have k1 := rowid_ok ha st
      have z2 : 2 ≤ sizeLine := by decide
      have nq : opNe (.int 2) (.int 2) = some (.bl false) := by rw [opNe_int]; rfl
      have pre : ∀ k, (k = false → rngB 1 1000000 a = false) → True := fun _ _ => trivial
      cases qa : rngB 1 1000000 a with
      | false =>
        rw [qa] at k1
        have e : rowB cs.length (.tup [a, b]) = false := by cases b <;> simp [rowB, qa]
        rw [e]
        simp [m_is_row, g_is_row, mOf, outM, startD, sSeq, sIf, sRet, sNil, sAsg, gT, gCons', gNil', gN, fOrT, fNotT, fTest, fIsi, tyD, isiB, asB, fVar, fOp, fMk, bLen, lenL, aCons, aNil, z2, fC, nq, fCall, k1]
      | true =>
        rw [qa] at k1
        cases b with
        | tup vs =>
          have zv := hb.len
          have lp := map_loop (is := [4]) (f := fCall m_is_value (aCons (fVar 4) aNil)) (env := [some (.tup cs), some (.tup [a, .tup vs]), some a, some (.tup vs), none]) (st := st) (g := valB) (us := vs) (fun u hu => by simp [fCall, aCons, aNil, fVar, setL, isval_ok (hb.mem hu)])
          have ba := bools_map (vs.map valB)
          have al := all_id valB vs
          have e : rowB cs.length (.tup [a, .tup vs]) = (decide (vs.length = cs.length) && vs.all valB) := by simp only [rowB]; rw [qa, Bool.true_and]
          rw [e]
          by_cases ql : vs.length = cs.length
          · have qe : opEq (.int vs.length) (.int cs.length) = some (.bl true) := by rw [opEq_int, ql]; simp
            rw [decide_eq_true ql, Bool.true_and]
            generalize vs.all valB = kk at al
            simp only [m_is_row, g_is_row, mOf, outM, startD, sSeq, sIf, sRet, sNil, sAsg, gT, gCons', gNil', gN, fOrT, fNotT, fTest, fIsi, tyD, isiB, asB, fAnd]
            simp at ba al zv
            simp [fVar, fOp, fMk, bLen, lenL, aCons, aNil, z2, fC, nq, fCall, k1, asB, isiB, tyD, zv, hc, qe, fComp, iOf, asT, wipeL, lp, bAll, ba, al]
          · have qe : opEq (.int vs.length) (.int cs.length) = some (.bl false) := by
              rw [opEq_int]
              have : (vs.length : Int) ≠ cs.length := by omega
              simp [this]
            rw [decide_eq_false ql, Bool.false_and]
            simp only [m_is_row, g_is_row, mOf, outM, startD, sSeq, sIf, sRet, sNil, sAsg, gT, gCons', gNil', gN, fOrT, fNotT, fTest, fIsi, tyD, isiB, asB, fAnd]
            simp [fVar, fOp, fMk, bLen, lenL, aCons, aNil, z2, fC, nq, fCall, k1, asB, isiB, tyD, zv, hc, qe]
        | scr _ => cases hb.1
        | ref _ => cases hb.1
        | _ => simp [m_is_row, g_is_row, mOf, outM, startD, sSeq, sIf, sRet, sNil, sAsg, gT, gCons', gNil', gN, fOrT, fNotT, fTest, fIsi, tyD, isiB, asB, fVar, fOp, fMk, bLen, lenL, aCons, aNil, z2, fC, nq, fCall, k1, rowB]
    · have nq : opNe (.int us.length) (.int 2) = some (.bl true) := by
        rw [opNe_int]
        have : (us.length : Int) ≠ 2 := by omega
        simp [this]
      rw [rowB_no q]
      simp [m_is_row, g_is_row, mOf, outM, startD, sSeq, sIf, sRet, sNil, fOrT, fNotT, fTest, fIsi, tyD, isiB, asB, fVar, fOp, fMk, bLen, lenL, aCons, aNil, z, fC, nq]
  | scr _ => cases h.1
  | ref _ => cases h.1
  | _ => simp [m_is_row, g_is_row, mOf, outM, startD, sSeq, sIf, sRet, sNil, fOrT, fNotT, fTest, fIsi, tyD, isiB, asB, fVar, fC, rowB]
theorem pow106 : powI (.int 10) (.int 6) = some (.int 1000000) := by
  have := bits10
  simp [powI, onI, this]
  omega
end LW
namespace LW
open PySem PySem.Spec PyProof.Rows L2 DL TL
theorem sign_lt {x : Str} (h : (tl x).all signB = true) : ∀ c ∈ tl x, c < 128 := fun c hc => by
  have := of_decide_eq_true (List.all_eq_true.mp h c hc)
  omega
theorem str_valB {x : Str} (hl : x.length ≤ 20) (h : (tl x).all signB = true) : valB (.str x) = true := by
  show (decide (x.length ≤ 20) && (tl x).all signB) = true
  rw [h, decide_eq_true hl]; rfl
theorem valB_str {x : Str} (h : valB (.str x) = true) : x.length ≤ 20 ∧ (tl x).all signB = true := by
  have := Bool.and_eq_true_iff.mp (show (decide (x.length ≤ 20) && (tl x).all signB) = true from h)
  exact ⟨of_decide_eq_true this.1, this.2⟩
theorem valB_pv {d : D} (h : valB d = true) : pvB d = true := by
  cases d with
  | non => rfl
  | int i => exact h
  | str x =>
    obtain ⟨a, b⟩ := valB_str h
    exact gs_asc (n := 40) ⟨by omega, sign_lt b⟩
  | _ => cases h
theorem val_okw {d : D} (h : valB d = true) : okD d = true ∧ wD d ≤ 300 ∧ hD d = 0 := by
  cases d with
  | non => exact ⟨rfl, by decide, rfl⟩
  | int i =>
    have := of_decide_eq_true (show decide (-1000000000 ≤ i ∧ i ≤ 1000000000) = true from h)
    refine ⟨decide_eq_true ?_, Nat.le_trans (Nat.le_refl 210) (by decide), rfl⟩
    have : (10 : Nat) ^ 10 ≤ 10 ^ 62 := by decide
    omega
  | str x =>
    obtain ⟨a, b⟩ := valB_str h
    exact ⟨List.all_eq_true.mpr fun c hc => decide_eq_true (sign_lt b c hc), Nat.le_trans a (by decide), rfl⟩
  | _ => cases h
theorem allVB : (someV ++ moreV).all valB = true := by decide +kernel
theorem joinV {k : Nat} {vs : List D} (h : ∀ v ∈ vs, ∃ c, v = .str ⟨#[c]⟩ ∧ signB c = true) (hl : vs.length ≤ k) (hk : k ≤ 20) : ∃ z, joinD (.str (Str.ofString "")) [.lst vs] = some (.str z) ∧ valB (.str z) = true := by
  have key : ∀ {vs : List D}, (∀ v ∈ vs, ∃ c, v = .str ⟨#[c]⟩ ∧ signB c = true) → ∃ ys, strsD vs = some ys ∧ ys.length = vs.length ∧ ∀ y ∈ ys, ∃ c, y = ⟨#[c]⟩ ∧ signB c = true := by
    intro vs
    induction vs with
    | nil => exact fun _ => ⟨[], rfl, rfl, fun _ h => by cases h⟩
    | cons v vs ih =>
      intro h
      obtain ⟨c, rfl, g⟩ := h v List.mem_cons_self
      obtain ⟨ys, h1, h2, h3⟩ := ih fun w hw => h w (List.mem_cons_of_mem _ hw)
      refine ⟨⟨#[c]⟩ :: ys, by simp [strsD, h1], by simp [h2], fun y hy => ?_⟩
      rcases List.mem_cons.mp hy with rfl | hy
      · exact ⟨c, rfl, g⟩
      · exact h3 y hy
  obtain ⟨ys, h1, h2, h3⟩ := key h
  have h3' : ∀ y ∈ ys, GS 1 y := fun y hy => by
    obtain ⟨c, rfl, g⟩ := h3 y hy
    refine ⟨Nat.le_refl _, fun x hx => ?_⟩
    have : x = c := by simpa using hx
    have := of_decide_eq_true g
    omega
  have hs := sum_le h3'
  have : (ys.map (·.length)).sum + ys.length * (Str.ofString "").length ≤ 16777216 := by
    rw [show (Str.ofString "").length = 0 from rfl]
    omega
  refine ⟨_, by simp only [joinD, h1, Option.bind_some]; rw [if_pos this], str_valB ?_ ?_⟩
  · have := (GS.join h3').1
    omega
  · rw [tl_join0]
    refine List.all_eq_true.mpr fun c hc => ?_
    obtain ⟨l, hl, hc⟩ := List.mem_flatten.mp hc
    obtain ⟨y, hy, rfl⟩ := List.mem_map.mp hl
    obtain ⟨c', rfl, g⟩ := h3 y hy
    have : c = c' := by simpa using hc
    rw [this]; exact g
theorem value_ok {st : Store} {n : Nat} (t : Tp st n) : ∃ d st', m__law_value [.ref n] st = some (d, st') ∧ valB d = true ∧ Tp st' n ∧ Fr n st st' ∧ st'.length = st.length := by
  obtain ⟨r, s1, h1, r0, r8, t1, f1, l1⟩ := pick_ok t (s := 24) (by decide) (by decide)
  by_cases c0 : r = 0
  · subst c0
    let sg : List D := (Str.ofString sgn1 ++ Str.ofString sgn2).cps.toList.map fun c => D.str ⟨#[c]⟩
    have hsg : ∀ v ∈ sg, ∃ c, v = .str ⟨#[c]⟩ ∧ signB c = true := fun v hv => by
      obtain ⟨c, hc, rfl⟩ := List.mem_map.mp hv
      exact ⟨c, rfl, List.all_eq_true.mp (show ((Str.ofString sgn1 ++ Str.ofString sgn2).cps.toList.all signB) = true by decide +kernel) c hc⟩
    have ad : opAdd (.str (Str.ofString sgn1)) (.str (Str.ofString sgn2)) = some (.str (Str.ofString sgn1 ++ Str.ofString sgn2)) := opAdd_str (by decide +kernel)
    have bl : bList [.str (Str.ofString sgn1 ++ Str.ofString sgn2)] = fun _ => some (.lst sg) := by
      funext s
      have : (Str.ofString sgn1 ++ Str.ofString sgn2).length ≤ sizeLine := Nat.le_trans (show _ ≤ 1000 by decide +kernel) (by decide)
      simp [bList, listSeq, listTxt, this, sg]
    obtain ⟨r2, s2, h2, r20, r24, t2, f2, l2⟩ := pick_ok t1 (s := 20) (by decide) (by decide)
    obtain ⟨vs, s3, h3, l3, p3, t3, f3, q3⟩ := loopC_draw2 (is := [3]) (bd := b1) (f := fCall m__law_one_of (aCons (fVar 0) (aCons (fVar 1) aNil))) (n := n) (P := fun v => ∃ c, v = .str ⟨#[c]⟩ ∧ signB c = true)
      (env := [some (.ref n), some (.lst sg), none, none]) (ds := rg 0 (1 + r2)) (fun d hd => ⟨[d], rfl, fun s t => by
        obtain ⟨v, s', g1, g2, g3, g4, g5⟩ := one_ok (xs := sg) t (by decide +kernel) (by decide +kernel)
        exact ⟨v, s', by simp [fCall, aCons, aNil, fVar, setL, e_one, g1], hsg v g2, g3, g4, g5⟩⟩) t2
    obtain ⟨w, hw, gw⟩ := joinV (k := 20) p3 (by rw [l3, rg_len]; omega) (by decide)
    have zc : vs.length ≤ sizeLine := Nat.le_trans (by rw [l3, rg_len]; omega) (show 20 ≤ sizeLine by decide)
    have ra := asR1_ok (n := 1 + r2) (by omega) (by omega)
    refine ⟨.str w, s3, ?_, gw, t3, (f1.trans f2).trans f3, by rw [q3, l2, l1]⟩
    rw [e_one] at h3
    simp [m__law_value, g__law_value, mOf, outM, startD, sSeq, sAsg, gN, sIf, sRet, sNil, fCall, aCons, aNil, fVar, fC, fTest, fOp, e_pick, h1, opEq_int, asB, ad, fMk, bl, fMt, fComp, iOfA, h2, opAdd_int, ra, wipeL, e_one, h3, zc, hw]
  · have q0 : (r == 0) = false := by simp [c0]
    obtain ⟨d, s2, h2, m2, t2, f2, l2⟩ := one_ok (xs := someV ++ moreV) t1 (by decide) (by decide)
    refine ⟨d, s2, ?_, List.all_eq_true.mp allVB d m2, t2, f1.trans f2, by rw [l2, l1]⟩
    have z1 : 17 ≤ sizeLine := by decide
    have z2 : 8 ≤ sizeLine := by decide
    have ad : opAdd (.lst someV) (.lst moreV) = some (.lst (someV ++ moreV)) := addL_ok (by decide)
    simp only [someV, moreV] at ad h2
    simp [m__law_value, g__law_value, mOf, outM, startD, sSeq, sAsg, gN, sIf, sRet, sNil, fCall, aCons, aNil, fVar, fC, fTest, fOp, e_pick, h1, opEq_int, asB, q0, fMk, mkLst, subI_int, pow109, mulz, z1, z2]
    simp at ad h2
    simp [ad, e_one, h2]
theorem values_ok {st : Store} {n : Nat} {w : Int} (t : Tp st n) (h0 : 0 ≤ w) (h1 : w ≤ 10) : ∃ vs st', m__law_values [.ref n, .int w] st = some (.tup vs, st') ∧ (vs.length : Int) = w ∧ (∀ v ∈ vs, valB v = true) ∧ Tp st' n ∧ Fr n st st' ∧ st'.length = st.length := by
  obtain ⟨vs, s3, h3, l3, p3, t3, f3, q3⟩ := loopC_draw2 (is := [2]) (bd := b1) (f := fCall m__law_value (aCons (fVar 0) aNil)) (n := n) (P := fun v => valB v = true)
    (env := [some (.ref n), some (.int w), none]) (ds := rg 0 w) (fun d hd => ⟨[d], rfl, fun s t => by
      obtain ⟨v, s', g1, g2, g3, g4, g5⟩ := value_ok t
      exact ⟨v, s', by simp [fCall, aCons, aNil, fVar, setL, g1], g2, g3, g4, g5⟩⟩) t
  rw [rg_len] at l3
  have zc : vs.length ≤ sizeLine := Nat.le_trans (by rw [l3]; omega) (show 10 ≤ sizeLine by decide)
  have ra := asR1_ok (n := w) h0 (by omega)
  refine ⟨vs, s3, ?_, by omega, p3, t3, f3, q3⟩
  simp [m__law_values, g__law_values, mOf, outM, startD, sRet, fMk, aCons, aNil, fComp, iOfA, fVar, ra, wipeL, h3, zc, bTuple]
/-! rows' values: nothing, or a tuple of values -/
def Vt (d : D) : Prop := d = .non ∨ ∃ vs, d = .tup vs ∧ vs.length ≤ 10 ∧ ∀ v ∈ vs, valB v = true
theorem val_eqv {a b : D} {p q : PyData} (ha : valB a = true) (hb : valB b = true) (h1 : toPy a = some p) (h2 : toPy b = some q) : PyData.eqv p q = true ↔ a = b := by
  cases a <;> cases b <;> first
    | (cases ha; done)
    | (cases hb; done)
    | (cases h1; cases h2; simp [PyData.eqv])
theorem vals_eqv : ∀ {as bs : List D} {ps qs : List PyData}, (∀ v ∈ as, valB v = true) → (∀ v ∈ bs, valB v = true) → toPyL as = some ps → toPyL bs = some qs → (PyData.eqvAll ps qs = true ↔ as = bs)
  | [], [], _, _, _, _, h1, h2 => by cases h1; cases h2; simp [PyData.eqvAll]
  | [], b :: bs, _, _, _, _, h1, h2 => by
    cases h1
    obtain ⟨q, g1, g2⟩ := Option.bind_eq_some_iff.mp (show ((toPy b).bind fun p => (toPyL bs).map fun q => p :: q) = some _ from h2)
    obtain ⟨qs, g3, g4⟩ := Option.map_eq_some_iff.mp g2
    subst g4
    simp [PyData.eqvAll]
  | a :: as, [], _, _, _, _, h1, h2 => by
    cases h2
    obtain ⟨q, g1, g2⟩ := Option.bind_eq_some_iff.mp (show ((toPy a).bind fun p => (toPyL as).map fun q => p :: q) = some _ from h1)
    obtain ⟨qs, g3, g4⟩ := Option.map_eq_some_iff.mp g2
    subst g4
    simp [PyData.eqvAll]
  | a :: as, b :: bs, _, _, ha, hb, h1, h2 => by
    obtain ⟨p, g1, g2⟩ := Option.bind_eq_some_iff.mp (show ((toPy a).bind fun p => (toPyL as).map fun q => p :: q) = some _ from h1)
    obtain ⟨ps, g3, g4⟩ := Option.map_eq_some_iff.mp g2
    subst g4
    obtain ⟨q, f1, f2⟩ := Option.bind_eq_some_iff.mp (show ((toPy b).bind fun p => (toPyL bs).map fun q => p :: q) = some _ from h2)
    obtain ⟨qs, f3, f4⟩ := Option.map_eq_some_iff.mp f2
    subst f4
    have e1 := val_eqv (ha a List.mem_cons_self) (hb b List.mem_cons_self) g1 f1
    have e2 := vals_eqv (fun v hv => ha v (List.mem_cons_of_mem _ hv)) (fun v hv => hb v (List.mem_cons_of_mem _ hv)) g3 f3
    simp [PyData.eqvAll, e1, e2]
theorem vt_py {d : D} (h : Vt d) : ∃ p, toPy d = some p ∧ shB p = true ∧ SeqAt.shaped p = true := by
  rcases h with rfl | ⟨vs, rfl, hl, hv⟩
  · exact ⟨.none, rfl, by decide, by decide⟩
  · obtain ⟨p, h1, h2, h3, _⟩ := Sm.tup (SmL.all (dp := 0) (wt := 40) fun v m => pv_sm (valB_pv (hv v m)))
    refine ⟨p, h1, ?_, ?_⟩
    · unfold shB
      rw [h2, decide_eq_true (by omega)]; rfl
    · unfold SeqAt.shaped
      rw [h2, decide_eq_true (by omega)]; rfl
theorem vt_eqv {a b : D} {p q : PyData} (ha : Vt a) (hb : Vt b) (h1 : toPy a = some p) (h2 : toPy b = some q) : PyData.eqv p q = true ↔ a = b := by
  rcases ha with rfl | ⟨vs, rfl, _, hv⟩ <;> rcases hb with rfl | ⟨us, rfl, _, hu⟩
  · cases h1; cases h2; simp [PyData.eqv]
  · cases h1
    obtain ⟨qs, _, rfl⟩ := Option.map_eq_some_iff.mp (show (toPyL us).map PyData.tuple = some q from h2)
    simp [PyData.eqv]
  · cases h2
    obtain ⟨qs, _, rfl⟩ := Option.map_eq_some_iff.mp (show (toPyL vs).map PyData.tuple = some p from h1)
    simp [PyData.eqv]
  · obtain ⟨ps, f1, rfl⟩ := Option.map_eq_some_iff.mp (show (toPyL vs).map PyData.tuple = some p from h1)
    obtain ⟨qs, f2, rfl⟩ := Option.map_eq_some_iff.mp (show (toPyL us).map PyData.tuple = some q from h2)
    have := vals_eqv hv hu f1 f2
    simp [PyData.eqv, this]
/-- they differ -/
def neB (a b : D) : Bool := match opNe a b with | some (.bl c) => c | _ => false
theorem ne_ok {a b : D} (ha : Vt a) (hb : Vt b) : opNe a b = some (.bl (neB a b)) ∧ eqFl a b = some (!neB a b) ∧ (neB a b = false ↔ a = b) := by
  obtain ⟨p, h1, s1, t1⟩ := vt_py ha
  obtain ⟨q, h2, s2, t2⟩ := vt_py hb
  have e := vt_eqv ha hb h1 h2
  have o : opNe a b = some (.bl (!PyData.eqv p q)) := by simp [opNe, h1, h2, t1, t2]
  have n : neB a b = !PyData.eqv p q := by simp [neB, o]
  refine ⟨by rw [n]; exact o, by simp [eqFl, h1, h2, s1, s2, n], ?_⟩
  rw [n, ← e]
  cases PyData.eqv p q <;> simp
end LW
namespace LW
open PySem PySem.Spec PyProof.Rows L2 DL TL
/-! take_step -/
theorem set_same {α : Type} {l : List α} {n : Nat} {x : α} (h : l[n]? = some x) : l.set n x = l := by
  refine List.ext_getElem? fun m => ?_
  by_cases e : n = m
  · subst e
    rw [List.getElem?_set_self (List.getElem?_eq_some_iff.mp h).1, h]
  · rw [List.getElem?_set_ne e]
theorem dropD_none {T : KL} {k : Key} (h : valD T k = none) : dropD T k = T := by
  unfold dropD
  refine List.filter_eq_self.mpr fun p hp => ?_
  have := valD_none.mp h
  exact decide_eq_true fun e => this (List.mem_map.mpr ⟨p, hp, e⟩)
def takeF (acc : KL) (kv : Key × D) : KL := if DL.isNon kv.2 = true then dropD acc kv.1 else putD acc kv.1 kv.2
def takeK (T s : KL) : KL := s.foldl takeF T
/-- what a step holds: nothing, or a tuple -/
def StB : D → Bool | .non => true | .tup _ => true | _ => false
theorem okK_takeF {U : List Int} {T : KL} (h : okK U T) {kv : Key × D} (hk : ∃ i ∈ U, kv.1 = .inl i) : okK U (takeF T kv) := by
  obtain ⟨i, hi, e⟩ := hk
  unfold takeF
  split
  · exact h.drop _
  · rw [e]; exact h.put hi _
theorem okK_take {U : List Int} {s : KL} : ∀ {T : KL}, okK U T → (∀ p ∈ s, ∃ i ∈ U, p.1 = .inl i) → okK U (takeK T s) := by
  induction s with
  | nil => exact fun h _ => h
  | cons p s ih => exact fun h g => ih (okK_takeF h (g p List.mem_cons_self)) fun q hq => g q (List.mem_cons_of_mem _ hq)
theorem gt_takeF (T : KL) (k : Key) (v : D) (i : Int) : gt (takeF T (k, v)) i = if k = .inl i then (if DL.isNon v = true then none else some v) else gt T i := by
  unfold takeF gt
  by_cases h : DL.isNon v = true
  · simp only [h, if_true]
    rw [valD_drop]
  · simp only [h, Bool.false_eq_true, if_false]
    rw [valD_put]
theorem gt_take {s : KL} : ∀ {T : KL} {i : Int}, (s.map (·.1)).Nodup → gt (takeK T s) i = match gt s i with | none => gt T i | some v => if DL.isNon v = true then none else some v := by
  induction s with
  | nil => intro T i _; rfl
  | cons p s ih =>
    obtain ⟨k, v⟩ := p
    intro T i nd
    have nd' := List.nodup_cons.mp (show (k :: s.map (·.1)).Nodup from nd)
    show gt (takeK (takeF T (k, v)) s) i = _
    rw [ih nd'.2, gt_takeF]
    show _ = match valD ((k, v) :: s) (.inl i) with | none => gt T i | some v => if DL.isNon v = true then none else some v
    rw [valD_cons]
    by_cases h : k = .inl i
    · subst h
      have : gt s i = none := valD_none.mpr nd'.1
      simp [this]
    · simp only [h, if_false]
      rfl
theorem is_non {d : D} (h : StB d = true) : opIs d .non = some (.bl (DL.isNon d)) := by
  cases d with
  | non => rfl
  | tup _ => rfl
  | _ => cases h
theorem take_loop {U : List Int} {s : KL} (hU : U.length ≤ 60) (hs : okK U s) (hv : ∀ p ∈ s, StB p.2 = true) {n : Nat} : ∀ {r : KL}, (∀ p ∈ r, p ∈ s) → ∀ {T : KL} {st : Store} {x : Option D}, okK U T → st[n]? = some (.dct T) →
    ∃ y, loopS (gN 2) (sIf (fTest (fOp opIs (fSub (fVar 1) (fVar 2)) (fC .non))) (sDrop (fPop2 (fVar 0) (fVar 2) (fC .non))) (sPut (fVar 0) (fVar 2) (fSub (fVar 1) (fVar 2)))) (kKeys r) [some (.ref n), some (.dct s), x] st = some (.nx, [some (.ref n), some (.dct s), y], st.set n (.dct (takeK T r))) := by
  intro r
  induction r with
  | nil => intro _ T st x _ hn; exact ⟨x, by simp [kKeys, loopS, takeK, set_same hn]⟩
  | cons p r ih =>
    intro hr T st x hT hn
    obtain ⟨k, v⟩ := p
    obtain ⟨i, hi, e⟩ := hs.mem _ (hr _ List.mem_cons_self)
    have e' : k = .inl i := e
    subst e'
    have g : valD s (.inl i) = some v := (valD_some hs.nd).mpr (hr _ List.mem_cons_self)
    have iv := is_non (hv _ (hr _ List.mem_cons_self))
    have hlen : n < st.length := (List.getElem?_eq_some_iff.mp hn).1
    have hsz : T.length < sizeLine := Nat.lt_of_le_of_lt (Nat.le_trans hT.len hU) (by decide)
    obtain ⟨y, hy⟩ := ih (fun q hq => hr q (List.mem_cons_of_mem _ hq)) (T := takeF T (.inl i, v)) (st := st.set n (.dct (takeF T (.inl i, v)))) (x := some (.int i)) (okK_takeF hT ⟨i, hi, rfl⟩) (by rw [List.getElem?_set_self hlen])
    refine ⟨y, ?_⟩
    rw [List.set_set] at hy
    show loopS _ _ (.int i :: kKeys r) _ _ = some (.nx, _, st.set n (.dct (takeK (takeF T (.inl i, v)) r)))
    rw [← hy]
    cases hq : DL.isNon v with
    | true =>
      rw [hq] at iv
      have tf : takeF T (.inl i, v) = dropD T (.inl i) := by simp [takeF, hq]
      rw [tf]
      cases hg : valD T (.inl i) with
      | none =>
        rw [dropD_none hg, set_same hn]
        simp [loopS, gN, sIf, fTest, fOp, fSub, fVar, ixD, asKey, g, fC, iv, asB, sDrop, fPop2, dctAt, hn, hg]
      | some d => simp [loopS, gN, sIf, fTest, fOp, fSub, fVar, ixD, asKey, g, fC, iv, asB, sDrop, fPop2, dctAt, hn, hg]
    | false =>
      rw [hq] at iv
      have tf : takeF T (.inl i, v) = putD T (.inl i) v := by simp [takeF, hq]
      rw [tf]
      simp [loopS, gN, sIf, fTest, fOp, fSub, fVar, ixD, asKey, g, fC, iv, asB, sPut, hn, hsz]
theorem take_ok {U : List Int} {s T : KL} (hU : U.length ≤ 60) (hs : okK U s) (hv : ∀ p ∈ s, StB p.2 = true) {n : Nat} {st : Store} (hT : okK U T) (hn : st[n]? = some (.dct T)) : m_take_step [.ref n, .dct s] st = some (.non, st.set n (.dct (takeK T s))) := by
  obtain ⟨y, hy⟩ := take_loop hU hs hv (n := n) (fun p h => h) (T := T) (st := st) (x := none) hT hn
  simp only [m_take_step, g_take_step, mOf, outM, startD, sFor]
  simp [iFrz, fVar, frzAt]
  rw [hy]
theorem vof_non (st : Store) : m_values_of [.non] st = some (.non, st) := by
  simp [m_values_of, g_values_of, mOf, outM, startD, sSeq, sIf, fTest, fOp, fVar, fC, opIs, orD, isN, isB, DL.isNon, asB, sRet]
theorem vof_tup (a b : D) (st : Store) : m_values_of [.tup [a, b]] st = some (b, st) := by
  have i1 : L2.atI [a, b] 1 = some b := ix1'
  simp [m_values_of, g_values_of, mOf, outM, startD, sSeq, sIf, sNil, fTest, fOp, fVar, fC, opIs, orD, isN, isB, DL.isNon, asB, sRet, fSub, ixD, i1]
end LW
namespace LW
open PySem PySem.Spec PyProof.Rows L2 DL TL
/-! the steps of a table, by version -/
def mkS : Nat → List KL → KL
  | _, [] => []
  | i, s :: r => (.inl (i : Int), .dct s) :: mkS (i + 1) r
theorem mkS_app (s : List KL) (c : KL) : ∀ i, mkS i (s ++ [c]) = mkS i s ++ [(.inl ((i + s.length : Nat) : Int), .dct c)] := by
  induction s with
  | nil => intro i; simp [mkS]
  | cons a s ih =>
    intro i
    have e : i + 1 + s.length = i + (a :: s).length := by rw [List.length_cons]; omega
    rw [List.cons_append, mkS, ih, mkS, e, List.cons_append]
theorem mkS_keys : ∀ (s : List KL) (i : Nat) (j : Int), (valD (mkS i s) (.inl j)).isSome = decide ((i : Int) ≤ j ∧ j < i + s.length)
  | [], i, j => by
    rw [decide_eq_false (by rw [List.length_nil]; omega)]; rfl
  | a :: s, i, j => by
    rw [mkS, valD_cons, List.length_cons]
    by_cases h : (i : Int) = j
    · subst h
      have : (i : Int) ≤ i ∧ (i : Int) < i + ((s.length + 1 : Nat) : Int) := by omega
      rw [decide_eq_true this]
      simp
    · have h' : ¬ (Sum.inl (i : Int) : Key) = .inl j := fun e => h (by injection e)
      simp only [h', if_false]
      rw [mkS_keys s (i + 1) j]
      by_cases q : (i : Int) + 1 ≤ j ∧ j < i + 1 + s.length
      · rw [decide_eq_true (by omega), decide_eq_true (by omega)]
      · rw [decide_eq_false (by omega), decide_eq_false (by omega)]
theorem mkS_len : ∀ (s : List KL) (i : Nat), (mkS i s).length = s.length
  | [], _ => rfl
  | a :: s, i => by rw [mkS, List.length_cons, List.length_cons, mkS_len s]
theorem mkS_none {s : List KL} {j : Int} (h : j = s.length) : valD (mkS 0 s) (.inl j) = none := by
  have := mkS_keys s 0 j
  rw [decide_eq_false (by omega)] at this
  cases q : valD (mkS 0 s) (.inl j) with
  | none => rfl
  | some _ => rw [q] at this; cases this
theorem mkS_put (s : List KL) (c : KL) {j : Int} (h : j = s.length) : putD (mkS 0 s) (.inl j) (.dct c) = mkS 0 (s ++ [c]) := by
  unfold putD
  rw [any_key, mkS_none h, mkS_app]
  simp [h]
def ap (l : List KL) : KL := l.foldl takeK []
def stAt (v : Int) : Nat → List KL → KL → KL
  | _, [], acc => acc
  | i, s :: r, acc => stAt v (i + 1) r (if (i : Int) ≤ v then takeK acc s else acc)
theorem stAt_over {v : Int} : ∀ {s : List KL} {i : Nat} {acc : KL}, v < i → stAt v i s acc = acc
  | [], _, _, _ => rfl
  | a :: s, i, acc, h => by
    have : ¬ (i : Int) ≤ v := by omega
    rw [stAt, if_neg this]
    exact stAt_over (by omega)
theorem stAt_take {v : Nat} : ∀ {s : List KL} {i : Nat} {acc : KL}, i ≤ v → stAt v i s acc = (s.take (v - i + 1)).foldl takeK acc
  | [], _, _, _ => by simp [stAt]
  | a :: s, i, acc, h => by
    have hi : (i : Int) ≤ (v : Int) := by omega
    rw [stAt, if_pos hi, List.take_succ_cons, List.foldl_cons]
    by_cases e : i = v
    · subst e
      rw [stAt_over (by omega)]
      simp
    · rw [stAt_take (by omega), show v - i = v - (i + 1) + 1 by omega]
/-- a step that may stand in a table -/
structure OkStep (U : List Int) (s : KL) : Prop where
  ok : okK U s
  st : ∀ p ∈ s, StB p.2 = true
theorem ap_ok {U : List Int} : ∀ {l : List KL} {acc : KL}, (∀ s ∈ l, OkStep U s) → okK U acc → okK U (l.foldl takeK acc)
  | [], _, _, h => h
  | s :: l, acc, hs, h => ap_ok (l := l) (fun t ht => hs t (List.mem_cons_of_mem s ht)) (okK_take h (hs s List.mem_cons_self).ok.mem)
abbrev fSteps : F := fFld "Table" "_steps" (fVar 0)
theorem states_loop {U : List Int} (hU : U.length ≤ 60) {v : Int} {L : Nat} {e0 : Option D} : ∀ {s : List KL}, (∀ x ∈ s, OkStep U x) → ∀ {i : Nat} {acc : KL} {st : Store} {x y : Option D}, okK U acc → st[L]? = some (.dct acc) →
    ∃ x' y', loopS (gT 2 (gCons' (gN 3) (gCons' (gN 4) gNil'))) (sIf (fTest (fOp opLe (fVar 3) (fVar 1))) (sDrop (fCall m_take_step (aCons (fVar 2) (aCons (fVar 4) aNil)))) sNil) (kItems (mkS i s)) [e0, some (.int v), some (.ref L), x, y] st = some (.nx, [e0, some (.int v), some (.ref L), x', y'], st.set L (.dct (stAt v i s acc))) := by
  intro s
  induction s with
  | nil => intro _ i acc st x y _ hL; exact ⟨x, y, by simp [mkS, kItems, loopS, stAt, set_same hL]⟩
  | cons a s ih =>
    intro hs i acc st x y hacc hL
    have oa := hs a List.mem_cons_self
    have hlen : L < st.length := (List.getElem?_eq_some_iff.mp hL).1
    have tk := take_ok hU oa.ok oa.st (n := L) hacc hL
    by_cases c : (i : Int) ≤ v
    · obtain ⟨x', y', hy⟩ := ih (fun t ht => hs t (List.mem_cons_of_mem _ ht)) (i := i + 1) (acc := takeK acc a) (st := st.set L (.dct (takeK acc a))) (x := some (.int i)) (y := some (.dct a)) (okK_take hacc oa.ok.mem) (by rw [List.getElem?_set_self hlen])
      refine ⟨x', y', ?_⟩
      rw [List.set_set] at hy
      rw [show stAt v i (a :: s) acc = stAt v (i + 1) s (takeK acc a) by rw [stAt, if_pos c], ← hy]
      simp [mkS, kItems, loopS, gT, gCons', gNil', gN, keyD, sIf, fTest, fOp, fVar, opLe_int, c, asB, sDrop, fCall, aCons, aNil, tk]
    · obtain ⟨x', y', hy⟩ := ih (fun t ht => hs t (List.mem_cons_of_mem _ ht)) (i := i + 1) (acc := acc) (st := st) (x := some (.int i)) (y := some (.dct a)) hacc hL
      refine ⟨x', y', ?_⟩
      rw [show stAt v i (a :: s) acc = stAt v (i + 1) s acc by rw [stAt, if_neg c], ← hy]
      simp [mkS, kItems, loopS, gT, gCons', gNil', gN, keyD, sIf, fTest, fOp, fVar, opLe_int, c, asB, sNil]
def tabF (cs : List D) (p : Int) (sp ss : Nat) : List (Str × D) := [("_columns", .tup cs), ("_present", .int p), ("_steps", .ref sp), ("_states", .ref ss)]
/-- the table at t -/
structure Tab (st : Store) (t sp ss : Nat) (cs : List D) (S : List KL) (T : KL) : Prop where
  tab : st[t]? = some (.ins "Table" (tabF cs ((S.length : Int) - 1) sp ss))
  stp : st[sp]? = some (.dct (mkS 0 S))
  sta : st[ss]? = some (.dct T)
  n1 : sp ≠ ss
  n2 : t ≠ sp
  n3 : t ≠ ss
theorem Tab.ins {st : Store} {t sp ss : Nat} {cs : List D} {S : List KL} {T : KL} (h : Tab st t sp ss cs S T) : insAt "Table" t st = some (tabF cs ((S.length : Int) - 1) sp ss) := by
  simp [insAt, h.tab]
theorem Tab.app {st : Store} {t sp ss : Nat} {cs : List D} {S : List KL} {T : KL} (h : Tab st t sp ss cs S T) (l : Store) : Tab (st ++ l) t sp ss cs S T := by
  have key : ∀ {n : Nat} {o : Ob}, st[n]? = some o → (st ++ l)[n]? = some o := fun {n o} e => by rw [List.getElem?_append_left (List.getElem?_eq_some_iff.mp e).1]; exact e
  exact ⟨key h.tab, key h.stp, key h.sta, h.n1, h.n2, h.n3⟩
theorem lk_c (cs : List D) (p : Int) (sp ss : Nat) : List.lookup ("_columns" : Str) (tabF cs p sp ss) = some (.tup cs) := rfl
theorem lk_p (cs : List D) (p : Int) (sp ss : Nat) : List.lookup ("_present" : Str) (tabF cs p sp ss) = some (.int p) := rfl
theorem lk_s (cs : List D) (p : Int) (sp ss : Nat) : List.lookup ("_steps" : Str) (tabF cs p sp ss) = some (.ref sp) := rfl
theorem lk_t (cs : List D) (p : Int) (sp ss : Nat) : List.lookup ("_states" : Str) (tabF cs p sp ss) = some (.ref ss) := rfl
theorem noF_T {st : Store} {t sp ss : Nat} {cs : List D} {S : List KL} {T : KL} (h : Tab st t sp ss cs S T) {m : Str} (hm : ∀ p, List.lookup m (tabF cs p sp ss) = none) : noF m (insAt "Table" t st) = true := by
  rw [h.ins]
  show (List.lookup m _).isNone = true
  rw [hm]; rfl
theorem check_ok {st : Store} {t sp ss : Nat} {cs : List D} {S : List KL} {T : KL} (h : Tab st t sp ss cs S T) {v : Nat} (hv : v < S.length) (hl : S.length ≤ 1000000) : m_Table__check_known [.ref t, .int v] st = some (.non, st) := by
  have k := int_ok (d := .int (v : Int)) ⟨decide_eq_true (by
    have : (10 : Nat) ^ 7 ≤ 10 ^ 62 := by decide
    omega), Nat.le_trans (Nat.le_refl 210) (by decide)⟩ st
  have kk := mkS_keys S 0 v
  rw [decide_eq_true (by omega)] at kk
  have kn : valD (mkS 0 S) (.inl (v : Int)) ≠ none := fun e => by rw [e] at kk; cases kk
  simp [m_Table__check_known, g_Table__check_known, mOf, outM, startD, sIf, fOrT, fNotT, fTest, fCall, aCons, aNil, fVar, k, isInt, asB, fInD, asKey, fFld, h.ins, lk_s, dctAt, h.stp, kn, sNil]
theorem states_ok {U : List Int} (hU : U.length ≤ 60) {st : Store} {t sp ss : Nat} {cs : List D} {S : List KL} {T : KL} (h : Tab st t sp ss cs S T) (hs : ∀ x ∈ S, OkStep U x) {v : Nat} (hv : v < S.length) (hl : S.length ≤ 1000000) :
    m_Table__states_at [.ref t, .int v] st = some (.ref st.length, st ++ [.dct (ap (S.take (v + 1)))]) := by
  have ck := check_ok h hv hl
  have hm : noF "_check_known" (insAt "Table" t st) = true := noF_T h fun _ => rfl
  have h1 := h.app [.dct []]
  have hsp : sp < st.length := (List.getElem?_eq_some_iff.mp h.stp).1
  have ht : t < st.length := (List.getElem?_eq_some_iff.mp h.tab).1
  have hL : ((st ++ [Ob.dct []]).set sp (.ldc (mkS 0 S)))[st.length]? = some (.dct []) := by
    rw [List.getElem?_set_ne (by omega)]; simp
  obtain ⟨x', y', lp⟩ := states_loop hU (v := v) (L := st.length) (e0 := some (.ref t)) hs (i := 0) (acc := []) (st := (st ++ [Ob.dct []]).set sp (.ldc (mkS 0 S))) (x := none) (y := none) okK.nil hL
  have e1 : stAt v 0 S [] = ap (S.take (v + 1)) := by rw [stAt_take (Nat.zero_le _)]; rfl
  rw [e1] at lp
  have tab2 : ((st ++ [Ob.dct []]).set sp (.ldc (mkS 0 S)))[t]? = some (.ins "Table" (tabF cs ((S.length : Int) - 1) sp ss)) := by
    rw [List.getElem?_set_ne (fun e => h.n2 e.symm)]; exact h1.tab
  have i2 : insAt "Table" t ((st ++ [Ob.dct []]).set sp (.ldc (mkS 0 S))) = some (tabF cs ((S.length : Int) - 1) sp ss) := by simp [insAt, tab2]
  have l2 : ((st ++ [Ob.dct []]).set sp (.ldc (mkS 0 S)))[sp]? = some (.ldc (mkS 0 S)) := by rw [List.getElem?_set_self (by simp; omega)]
  have l3 : (((st ++ [Ob.dct []]).set sp (.ldc (mkS 0 S))).set st.length (.dct (ap (S.take (v + 1)))))[sp]? = some (.ldc (mkS 0 S)) := by rw [List.getElem?_set_ne (by omega)]; exact l2
  have fin : (((st ++ [Ob.dct []]).set sp (.ldc (mkS 0 S))).set st.length (.dct (ap (S.take (v + 1))))).set sp (.dct (mkS 0 S)) = st ++ [.dct (ap (S.take (v + 1)))] := by
    rw [List.set_comm _ _ (by omega), List.set_set, List.set_append_left _ _ hsp, set_same h.stp]
    simp
  simp only [m_Table__states_at, g_Table__states_at, mOf, outM, startD, sSeq, sDrop, sAsg, gN, fNewD]
  simp [fMeth, fVar, hm, aCons, aNil, ck, sLock, whichR, fFld, h1.ins, lk_s, dctIn, h1.stp, sFor, iFrz, i2, frzAt, ldcAt, l2, lp, l3, sRet]
  simp [fin]
end LW
namespace LW
open PySem PySem.Spec PyProof.Rows L2 DL TL
theorem loopD_keys {U : List Int} (hU : U.length ≤ 60) {k : Nat} {fk fv : F} {φ : Int → D} {env : Lo} {st : Store} : ∀ {ks : List Int}, (∀ i ∈ ks, i ∈ U ∧ fk (env.set k (some (.int i))) st = some (.int i, st) ∧ fv (env.set k (some (.int i))) st = some (φ i, st)) → ∀ {acc : KL}, okK U acc →
    ∃ R, loopD [k] b1 tTrue fk fv (ks.map .int) acc env st = some (R, st) ∧ okK U R ∧ ∀ j, gt R j = if j ∈ ks then some (φ j) else gt acc j
  | [], _, acc, h => ⟨acc, rfl, h, fun j => by simp⟩
  | i :: ks, hh, acc, h => by
    obtain ⟨h1, h2, h3⟩ := hh i List.mem_cons_self
    obtain ⟨R, g1, g2, g3⟩ := loopD_keys hU (fun j hj => hh j (List.mem_cons_of_mem _ hj)) (acc := putD acc (.inl i) (φ i)) (h.put h1 _)
    have hz : acc.length < sizeLine := Nat.lt_of_le_of_lt (Nat.le_trans h.len hU) (by decide)
    refine ⟨R, by simp [loopD, b1, tTrue, setL, h2, asKey, h3, hz, g1], g2, fun j => ?_⟩
    rw [g3]
    show (if j ∈ ks then some (φ j) else valD (putD acc (.inl i) (φ i)) (.inl j)) = _
    rw [valD_put]
    by_cases m : j ∈ ks
    · simp [m]
    · by_cases e : i = j
      · subst e; simp [m]
      · have e' : ¬ j = i := fun z => e z.symm
        have e2 : ¬ (Sum.inl i : Key) = .inl j := fun z => e (by injection z)
        simp [m, e', e2, gt]
def fstD : D → D | .tup [a, _] => a | _ => .non
def sndD : D → D | .tup [_, b] => b | _ => .non
theorem rowsat_ok {U : List Int} (hU : U.length ≤ 60) {st : Store} {t sp ss : Nat} {cs : List D} {S : List KL} {T : KL} (h : Tab st t sp ss cs S T) (hs : ∀ x ∈ S, OkStep U x) {v : Nat} (hv : v < S.length) (hl : S.length ≤ 1000000)
    (hp : ∀ i d, gt (ap (S.take (v + 1))) i = some d → ∃ c x, d = .tup [c, x]) :
    ∃ R, m_Table_rows_at [.ref t, .int v] st = some (.ref (st.length + 1), st ++ [.dct (ap (S.take (v + 1))), .dct R]) ∧ okK U R ∧ ∀ i, gt R i = (gt (ap (S.take (v + 1))) i).map sndD := by
  have so := states_ok hU h hs hv hl
  have hm : noF "_states_at" (insAt "Table" t st) = true := noF_T h fun _ => rfl
  have oz : okK U (ap (S.take (v + 1))) := ap_ok (fun s hs' => hs s (List.mem_of_mem_take hs')) okK.nil
  generalize ap (S.take (v + 1)) = Z at *
  obtain ⟨ks, k1, k2, k3, k4, k5, k6⟩ := oz.sortedKs (show U.length < 64 by omega)
  have hZ : (st ++ [Ob.dct Z])[st.length]? = some (.dct Z) := by simp
  obtain ⟨R, g1, g2, g3⟩ := loopD_keys hU (k := 3) (fk := fVar 3) (fv := fSub (fSub (fVar 2) (fVar 3)) (fC (.int 1))) (φ := fun i => sndD ((gt Z i).getD .non)) (env := [some (.ref t), some (.int v), some (.ref st.length), none]) (st := st ++ [Ob.dct Z]) (ks := srt ks) (fun i hi => by
    refine ⟨k5 i (srt_mem.mp hi), by simp [fVar], ?_⟩
    obtain ⟨d, hd⟩ := Option.isSome_iff_exists.mp ((k4 i).mp hi)
    obtain ⟨c, x, rfl⟩ := hp i d hd
    have i1 : L2.atI [c, x] 1 = some x := ix1'
    have hd' : valD Z (.inl i) = some (.tup [c, x]) := hd
    simp [fSub, fVar, ixD, hZ, asKey, hd', fC, i1, hd, sndD]) okK.nil
  refine ⟨R, ?_, g2, fun i => ?_⟩
  · simp only [m_Table_rows_at, g_Table_rows_at, mOf, outM, startD, sSeq, sAsg, gN, sRet]
    simp [fMeth, fVar, hm, aCons, aNil, so, fDComp, iOf, fSortKs, dctAt, hZ, k1, asL, wipeL, g1]
  · rw [g3]
    by_cases m : i ∈ srt ks
    · obtain ⟨d, hd⟩ := Option.isSome_iff_exists.mp ((k4 i).mp m)
      simp [m, hd]
    · have : gt Z i = none := by
        cases q : gt Z i with
        | none => rfl
        | some d => exact absurd ((k4 i).mpr (by rw [q]; rfl)) m
      simp [m, this]; rfl
theorem changesat_ok {U : List Int} (hU : U.length ≤ 60) {st : Store} {t sp ss : Nat} {cs : List D} {S : List KL} {T : KL} (h : Tab st t sp ss cs S T) (hs : ∀ x ∈ S, OkStep U x) {v : Nat} (hv : v < S.length) (hl : S.length ≤ 1000000)
    (hp : ∀ i d, gt (ap (S.take (v + 1))) i = some d → ∃ c x, d = .tup [c, x]) :
    ∃ R, m_Table_changes_at [.ref t, .int v] st = some (.ref (st.length + 1), st ++ [.dct (ap (S.take (v + 1))), .dct R]) ∧ okK U R ∧ ∀ i, gt R i = (gt (ap (S.take (v + 1))) i).map fstD := by
  have so := states_ok hU h hs hv hl
  have hm : noF "_states_at" (insAt "Table" t st) = true := noF_T h fun _ => rfl
  have oz : okK U (ap (S.take (v + 1))) := ap_ok (fun s hs' => hs s (List.mem_of_mem_take hs')) okK.nil
  generalize ap (S.take (v + 1)) = Z at *
  obtain ⟨ks, k1, k2, k3, k4, k5, k6⟩ := oz.sortedKs (show U.length < 64 by omega)
  have hZ : (st ++ [Ob.dct Z])[st.length]? = some (.dct Z) := by simp
  obtain ⟨R, g1, g2, g3⟩ := loopD_keys hU (k := 3) (fk := fVar 3) (fv := fSub (fSub (fVar 2) (fVar 3)) (fC (.int 0))) (φ := fun i => fstD ((gt Z i).getD .non)) (env := [some (.ref t), some (.int v), some (.ref st.length), none]) (st := st ++ [Ob.dct Z]) (ks := srt ks) (fun i hi => by
    refine ⟨k5 i (srt_mem.mp hi), by simp [fVar], ?_⟩
    obtain ⟨d, hd⟩ := Option.isSome_iff_exists.mp ((k4 i).mp hi)
    obtain ⟨c, x, rfl⟩ := hp i d hd
    have i0 : L2.atI [c, x] 0 = some c := ix0'
    have hd' : valD Z (.inl i) = some (.tup [c, x]) := hd
    simp [fSub, fVar, ixD, hZ, asKey, hd', fC, i0, hd, fstD]) okK.nil
  refine ⟨R, ?_, g2, fun i => ?_⟩
  · simp only [m_Table_changes_at, g_Table_changes_at, mOf, outM, startD, sSeq, sAsg, gN, sRet]
    simp [fMeth, fVar, hm, aCons, aNil, so, fDComp, iOf, fSortKs, dctAt, hZ, k1, asL, wipeL, g1]
  · rw [g3]
    by_cases m : i ∈ srt ks
    · obtain ⟨d, hd⟩ := Option.isSome_iff_exists.mp ((k4 i).mp m)
      simp [m, hd]
    · have : gt Z i = none := by
        cases q : gt Z i with
        | none => rfl
        | some d => exact absurd ((k4 i).mpr (by rw [q]; rfl)) m
      simp [m, this]; rfl
/-! _change -/
def vofD : Option D → D | none => .non | some d => sndD d
def entD (p : Int) (v : D) : D := if DL.isNon v = true then .non else .tup [.int p, v]
def chgF (p : Int) (T : KL) (acc : KL) (kv : Key × D) : KL := if neB kv.2 (vofD (valD T kv.1)) = true then putD acc kv.1 (entD p kv.2) else acc
theorem gt_chg {p : Int} {T : KL} : ∀ {r : KL} {acc : KL} {i : Int}, (r.map (·.1)).Nodup → (∀ j, gt acc j ≠ none → gt r j = none) →
    gt (r.foldl (chgF p T) acc) i = match gt r i with | none => gt acc i | some v => if neB v (vofD (gt T i)) = true then some (entD p v) else none
  | [], _, _, _, _ => rfl
  | (k, v) :: r, acc, i, nd, ha => by
    have nd' := List.nodup_cons.mp (show (k :: r.map (·.1)).Nodup from nd)
    rw [List.foldl_cons, gt_chg nd'.2 (fun j hj => by
      unfold chgF at hj
      split at hj
      · by_cases e : k = .inl j
        · subst e
          exact valD_none.mpr nd'.1
        · have hj' : valD (putD acc k (entD p v)) (.inl j) ≠ none := hj
          rw [valD_put, if_neg e] at hj'
          have := ha j hj'
          rw [gt, valD_cons, if_neg e] at this
          exact this
      · have := ha j hj
        rw [gt, valD_cons] at this
        split at this
        · cases this
        · exact this)]
    show _ = match valD ((k, v) :: r) (.inl i) with | none => gt acc i | some v => if neB v (vofD (gt T i)) = true then some (entD p v) else none
    rw [valD_cons]
    by_cases e : k = .inl i
    · subst e
      have hr : gt r i = none := valD_none.mpr nd'.1
      have hacc : gt acc i = none := by
        cases q : gt acc i with
        | none => rfl
        | some d =>
          have := ha i (by rw [q]; exact fun z => by cases z)
          rw [gt, valD_cons, if_pos rfl] at this
          cases this
      simp only [hr, if_true]
      unfold chgF
      show gt (if neB v (vofD (gt T i)) = true then _ else _) i = _
      split
      · show valD (putD acc (.inl i) (entD p v)) (.inl i) = _
        rw [valD_put, if_pos rfl]
      · exact hacc
    · simp only [if_neg e]
      have : gt (chgF p T acc (k, v)) i = gt acc i := by
        unfold chgF
        split
        · show valD (putD acc k (entD p v)) (.inl i) = _
          rw [valD_put, if_neg e]; rfl
        · rfl
      rw [this]
      rfl
theorem chg_ok {U : List Int} {p : Int} {T : KL} : ∀ {r : KL} {acc : KL}, (∀ q ∈ r, ∃ i ∈ U, q.1 = .inl i) → OkStep U acc → OkStep U (r.foldl (chgF p T) acc)
  | [], _, _, h => h
  | (k, v) :: r, acc, hr, h => by
    refine chg_ok (r := r) (fun q hq => hr q (List.mem_cons_of_mem _ hq)) ?_
    obtain ⟨i, hi, e⟩ := hr _ List.mem_cons_self
    have e' : k = .inl i := e
    subst e'
    unfold chgF
    split
    · refine ⟨h.ok.put hi _, fun q hq => ?_⟩
      unfold putD at hq
      split at hq
      · obtain ⟨z, hz, rfl⟩ := List.mem_map.mp hq
        split
        · show StB (entD p v) = true
          unfold entD
          split <;> rfl
        · exact h.st z hz
      · rcases List.mem_append.mp hq with m | m
        · exact h.st q m
        · rw [List.mem_singleton.mp m]
          show StB (entD p v) = true
          unfold entD
          split <;> rfl
    · exact h
end LW
namespace LW
open PySem PySem.Spec PyProof.Rows L2 DL TL
/-- all but the table's three stays -/
structure Kp (t sp ss : Nat) (st st' : Store) : Prop where
  le : st.length ≤ st'.length
  at_ : ∀ m, m < st.length → m ≠ t → m ≠ sp → m ≠ ss → st'[m]? = st[m]?
theorem Kp.refl {t sp ss : Nat} (st : Store) : Kp t sp ss st st := ⟨Nat.le_refl _, fun _ _ _ _ _ => rfl⟩
theorem Kp.trans {t sp ss : Nat} {a b c : Store} (h : Kp t sp ss a b) (g : Kp t sp ss b c) : Kp t sp ss a c :=
  ⟨Nat.le_trans h.le g.le, fun m hm h1 h2 h3 => (g.at_ m (Nat.lt_of_lt_of_le hm h.le) h1 h2 h3).trans (h.at_ m hm h1 h2 h3)⟩
theorem Kp.app {t sp ss : Nat} (st l : Store) : Kp t sp ss st (st ++ l) := ⟨by simp, fun m hm _ _ _ => List.getElem?_append_left hm⟩
theorem Tab.set {st : Store} {t sp ss : Nat} {cs : List D} {S : List KL} {T : KL} (h : Tab st t sp ss cs S T) {L : Nat} (o : Ob) (h1 : L ≠ t) (h2 : L ≠ sp) (h3 : L ≠ ss) : Tab (st.set L o) t sp ss cs S T :=
  ⟨by rw [List.getElem?_set_ne h1]; exact h.tab, by rw [List.getElem?_set_ne h2]; exact h.stp, by rw [List.getElem?_set_ne h3]; exact h.sta, h.n1, h.n2, h.n3⟩
/-- what the states hold -/
def OkT (T : KL) : Prop := ∀ i d, gt T i = some d → ∃ c x, d = .tup [c, x] ∧ Vt x
theorem vt_of {T : KL} (h : OkT T) (i : Int) : Vt (vofD (gt T i)) := by
  cases q : gt T i with
  | none => exact .inl rfl
  | some d =>
    obtain ⟨c, x, rfl, hx⟩ := h i d q
    exact hx
theorem vof_at {T : KL} (h : OkT T) (i : Int) (st : Store) : m_values_of [(valD T (.inl i)).getD .non] st = some (vofD (gt T i), st) := by
  cases q : valD T (.inl i) with
  | none =>
    have q' : gt T i = none := q
    rw [q']
    exact vof_non st
  | some d =>
    have q' : gt T i = some d := q
    obtain ⟨c, x, rfl, hx⟩ := h i d q'
    rw [q']
    exact vof_tup c x st
noncomputable abbrev bChg : FS := (sSeq (sAsg (fSub (fVar 1) (fVar 4)) (gN 5)) (sIf (fTest (fOp opNe (fVar 5) (fCall m_values_of (aCons (fGet1 (fFld "Table" "_states" (fVar 0)) (fVar 4)) aNil)))) (sPut (fVar 3) (fVar 4) (fIfE (fTest (fOp opIs (fVar 5) (fC .non))) (fC .non) (fMk mkTup (aCons (fVar 2) (aCons (fVar 5) aNil))))) sNil))
theorem vt_stb {v : D} (h : Vt v) : StB v = true := by
  rcases h with rfl | ⟨_, rfl, _⟩ <;> rfl
theorem chg_loop {U : List Int} (hU : U.length ≤ 60) {t sp ss L : Nat} {cs : List D} {S : List KL} {T rows : KL} {p : Int} (hT : OkT T) (hr : okK U rows) (hv : ∀ q ∈ rows, Vt q.2) (l1 : L ≠ t) (l2 : L ≠ sp) (l3 : L ≠ ss) : ∀ {r : KL}, (∀ q ∈ r, q ∈ rows) → ∀ {acc : KL} {st : Store} {x y : Option D}, Tab st t sp ss cs S T → okK U acc → st[L]? = some (.dct acc) →
    ∃ x' y', loopS (gN 4) bChg (kKeys r) [some (.ref t), some (.dct rows), some (.int p), some (.ref L), x, y] st = some (.nx, [some (.ref t), some (.dct rows), some (.int p), some (.ref L), x', y'], st.set L (.dct (r.foldl (chgF p T) acc))) := by
  intro r
  induction r with
  | nil => intro _ acc st x y _ _ hL; exact ⟨x, y, by simp [kKeys, loopS, set_same hL]⟩
  | cons q r ih =>
    intro hq acc st x y tab hacc hL
    obtain ⟨k, v⟩ := q
    obtain ⟨i, hi, e⟩ := hr.mem _ (hq _ List.mem_cons_self)
    have e' : k = .inl i := e
    subst e'
    have g : valD rows (.inl i) = some v := (valD_some hr.nd).mpr (hq _ List.mem_cons_self)
    have hvv := hv _ (hq _ List.mem_cons_self)
    have hlen : L < st.length := (List.getElem?_eq_some_iff.mp hL).1
    have hsz : acc.length < sizeLine := Nat.lt_of_le_of_lt (Nat.le_trans hacc.len hU) (by decide)
    have vo := vof_at hT i st
    have ne := (ne_ok hvv (vt_of hT i)).1
    have iv := is_non (vt_stb hvv)
    have z2 : 2 ≤ sizeLine := by decide
    have t1 := tab.ins
    have t2 := tab.sta
    cases hn : neB v (vofD (gt T i)) with
    | true =>
      rw [hn] at ne
      have cf : chgF p T acc (.inl i, v) = putD acc (.inl i) (entD p v) := by
        have : neB v (vofD (valD T (.inl i))) = true := hn
        simp [chgF, this]
      obtain ⟨x', y', hy⟩ := ih (fun a ha => hq a (List.mem_cons_of_mem _ ha)) (acc := putD acc (.inl i) (entD p v)) (st := st.set L (.dct (putD acc (.inl i) (entD p v)))) (x := some (.int i)) (y := some v) (tab.set _ l1 l2 l3) (hacc.put hi _) (by rw [List.getElem?_set_self hlen])
      refine ⟨x', y', ?_⟩
      rw [List.set_set] at hy
      rw [List.foldl_cons, cf, ← hy]
      have vo' := vo
      cases hnn : DL.isNon v with
      | true =>
        rw [hnn] at iv
        have en : entD p v = .non := by simp [entD, hnn]
        rw [en]
        simp [kKeys, keyD, loopS, gN, bChg, sSeq, sAsg, fSub, fVar, ixD, asKey, g, sIf, fTest, fOp, fCall, aCons, aNil, fGet1, fFld, t1, lk_t, dctAt, t2, vo, ne, asB, sPut, fIfE, fC, iv, hL, hsz]
      | false =>
        rw [hnn] at iv
        have en : entD p v = .tup [.int p, v] := by simp [entD, hnn]
        rw [en]
        simp [kKeys, keyD, loopS, gN, bChg, sSeq, sAsg, fSub, fVar, ixD, asKey, g, sIf, fTest, fOp, fCall, aCons, aNil, fGet1, fFld, t1, lk_t, dctAt, t2, vo, ne, asB, sPut, fIfE, fC, iv, hL, hsz, fMk, mkTup, z2]
    | false =>
      rw [hn] at ne
      have cf : chgF p T acc (.inl i, v) = acc := by
        have : neB v (vofD (valD T (.inl i))) = false := hn
        simp [chgF, this]
      obtain ⟨x', y', hy⟩ := ih (fun a ha => hq a (List.mem_cons_of_mem _ ha)) (acc := acc) (st := st) (x := some (.int i)) (y := some v) tab hacc hL
      refine ⟨x', y', ?_⟩
      rw [List.foldl_cons, cf, ← hy]
      simp [kKeys, keyD, loopS, gN, bChg, sSeq, sAsg, fSub, fVar, ixD, asKey, g, sIf, fTest, fOp, fCall, aCons, aNil, fGet1, fFld, t1, lk_t, dctAt, t2, vo, ne, asB, sNil]
def nxS (S : List KL) (C : KL) : List KL := if C.isEmpty = true then S else S ++ [C]
theorem change_ok {U : List Int} (hU : U.length ≤ 60) {st : Store} {t sp ss : Nat} {cs : List D} {S : List KL} {T rows : KL} (tab : Tab st t sp ss cs S T) (oT : okK U T) (hT : OkT T) (hr : okK U rows) (hv : ∀ q ∈ rows, Vt q.2) (hS : S.length ≤ 1000) (h0 : 0 < S.length) :
    ∃ st', m_Table__change [.ref t, .dct rows] st = some (.int (((nxS S (rows.foldl (chgF S.length T) [])).length : Int) - 1), st') ∧ Tab st' t sp ss cs (nxS S (rows.foldl (chgF S.length T) [])) (takeK T (rows.foldl (chgF S.length T) [])) ∧ Kp t sp ss st st' := by
  have lt : t < st.length := (List.getElem?_eq_some_iff.mp tab.tab).1
  have lp : sp < st.length := (List.getElem?_eq_some_iff.mp tab.stp).1
  have ls : ss < st.length := (List.getElem?_eq_some_iff.mp tab.sta).1
  have tab1 := tab.app [.dct []]
  have hp : ((S.length : Int) - 1 + 1) = S.length := by omega
  obtain ⟨x, y, hl⟩ := chg_loop hU (L := st.length) (p := S.length) hT hr hv (by omega) (by omega) (by omega) (r := rows) (fun q h => h) (acc := []) (st := st ++ [.dct []]) (x := none) (y := none) tab1 okK.nil (by simp)
  have oc : OkStep U (rows.foldl (chgF S.length T) []) := chg_ok hr.mem ⟨okK.nil, fun _ h => by cases h⟩
  generalize hC : rows.foldl (chgF S.length T) [] = C at *
  have e1 : (st ++ [Ob.dct []]).set st.length (.dct C) = st ++ [.dct C] := by simp
  rw [e1] at hl
  have e2 : (st ++ [Ob.dct C]).set st.length .dead = st ++ [.dead] := by simp
  have tab2 := tab.app [.dead]
  have a1 : (st ++ [Ob.dct C])[st.length]? = some (.dct C) := by simp
  have pre : ∀ (f g : FS), (sSeq (sAsg (fOp opAdd (fFld "Table" "_present" (fVar 0)) (fC (.int 1))) (gN 2)) (sSeq (sAsg fNewD (gN 3)) (sSeq (sFor (iFrz kKeys (fVar 1)) (gN 4) bChg) (sSeq (sSeq (sFrzV 3) f) g)))) [some (.ref t), some (.dct rows), none, none, none, none] st = (sSeq f g) [some (.ref t), some (.dct rows), some (.int S.length), some (.dct C), x, y] (st ++ [.dead]) := by
    intro f g
    simp only [sSeq, sAsg, gN]
    simp [fOp, fFld, fVar, tab.ins, lk_p, fC, opAdd_int, hp, fNewD, sFor, iFrz, frzAt, hl, sFrzV, a1, e2]
  have z : ∀ (g : FS), m_Table__change = mOf N_Table__change.length g_Table__change := fun _ => rfl
  cases hC0 : C with
  | nil =>
    have nx : nxS S [] = S := rfl
    have tk : takeK T [] = T := rfl
    rw [nx, tk]
    refine ⟨st ++ [.dead], ?_, tab2, Kp.app st _⟩
    rw [hC0] at pre
    simp only [m_Table__change, g_Table__change, mOf, outM, startD]
    simp
    rw [pre]
    simp [sSeq, sIf, fTest, fOp, fMk, bLen, lenL, lenK, aCons, aNil, fVar, fC, opGt_int, asB, sNil, sRet, fFld, tab2.ins, lk_p]
  | cons c C' =>
    rw [← hC0]
    have hne : C.isEmpty = false := by rw [hC0]; rfl
    have nx : nxS S C = S ++ [C] := by simp [nxS, hne]
    have hlen : (0 : Int) < C.length := by rw [hC0, List.length_cons]; omega
    rw [nx]
    have tk := take_ok hU oc.ok oc.st (n := ss) oT tab2.sta
    have ls2 : ss < (st ++ [Ob.dead]).length := by simp; omega
    -- after the states
    let s3 : Store := (st ++ [Ob.dead]).set ss (.dct (takeK T C))
    have p3 : s3[sp]? = some (.dct (mkS 0 S)) := by
      show ((st ++ [Ob.dead]).set ss (.dct (takeK T C)))[sp]? = _
      rw [List.getElem?_set_ne (Ne.symm tab.n1)]; exact tab2.stp
    have q3 : s3[t]? = some (.ins "Table" (tabF cs ((S.length : Int) - 1) sp ss)) := by
      show ((st ++ [Ob.dead]).set ss (.dct (takeK T C)))[t]? = _
      rw [List.getElem?_set_ne (Ne.symm tab.n3)]; exact tab2.tab
    have r3 : s3[ss]? = some (.dct (takeK T C)) := by
      show ((st ++ [Ob.dead]).set ss (.dct (takeK T C)))[ss]? = _
      rw [List.getElem?_set_self ls2]
    have l3 : s3.length = st.length + 1 := by show ((st ++ [Ob.dead]).set ss (.dct (takeK T C))).length = _; simp
    have i3 : insAt "Table" t s3 = some (tabF cs ((S.length : Int) - 1) sp ss) := by simp [insAt, q3]
    have mz : (mkS 0 S).length < sizeLine := by rw [mkS_len]; exact Nat.lt_of_le_of_lt hS (by decide)
    have mp := mkS_put S C (j := S.length) rfl
    let s4 : Store := s3.set sp (.dct (mkS 0 (S ++ [C])))
    have q4 : s4[t]? = some (.ins "Table" (tabF cs ((S.length : Int) - 1) sp ss)) := by
      show (s3.set sp (.dct (mkS 0 (S ++ [C]))))[t]? = _
      rw [List.getElem?_set_ne (Ne.symm tab.n2)]; exact q3
    have i4 : insAt "Table" t s4 = some (tabF cs ((S.length : Int) - 1) sp ss) := by simp [insAt, q4]
    let s5 : Store := s4.set t (.ins "Table" (tabF cs S.length sp ss))
    have pf : putFD "_present" (.int S.length) (tabF cs ((S.length : Int) - 1) sp ss) = tabF cs S.length sp ss := rfl
    have l4 : s4.length = st.length + 1 := by show (s3.set sp _).length = _; simp [l3]
    have fin : ((((S ++ [C]).length : Nat) : Int) - 1) = S.length := by simp
    have q5 : s5[t]? = some (.ins "Table" (tabF cs S.length sp ss)) := by
      show (s4.set t _)[t]? = _
      rw [List.getElem?_set_self (by omega)]
    have tab5 : Tab s5 t sp ss cs (S ++ [C]) (takeK T C) := by
      refine ⟨by rw [fin]; exact q5, ?_, ?_, tab.n1, tab.n2, tab.n3⟩
      · show (s4.set t _)[sp]? = _
        rw [List.getElem?_set_ne tab.n2]
        show (s3.set sp _)[sp]? = _
        rw [List.getElem?_set_self (by omega)]
      · show (s4.set t _)[ss]? = _
        rw [List.getElem?_set_ne tab.n3]
        show (s3.set sp _)[ss]? = _
        rw [List.getElem?_set_ne tab.n1]; exact r3
    have i5 := tab5.ins
    have kp : Kp t sp ss st s5 := by
      refine ⟨by show st.length ≤ (s4.set t _).length; simp [l4], fun m hm h1 h2 h3 => ?_⟩
      show (s4.set t _)[m]? = _
      rw [List.getElem?_set_ne (Ne.symm h1)]
      show (s3.set sp _)[m]? = _
      rw [List.getElem?_set_ne (Ne.symm h2)]
      show ((st ++ [Ob.dead]).set ss _)[m]? = _
      rw [List.getElem?_set_ne (Ne.symm h3), List.getElem?_append_left hm]
    refine ⟨s5, ?_, tab5, kp⟩
    have tabz : (tabF cs ((S.length : Int) - 1) sp ss).length < 1000 := by show 4 < 1000; decide
    simp only [m_Table__change, g_Table__change, mOf, outM, startD]
    simp
    rw [pre]
    have tk' : m_take_step [.ref ss, .dct C] (st ++ [Ob.dead]) = some (.non, s3) := tk
    have e4 : s3.set sp (.dct (putD (mkS 0 S) (.inl (S.length : Int)) (.dct C))) = s4 := by rw [mp]
    simp [sSeq, sIf, fTest, fOp, fMk, bLen, lenL, lenK, aCons, aNil, fVar, fC, opGt_int, hlen, asB, sDrop, fCall, fFld, tab2.ins, lk_t, tk', sPut, i3, lk_s, asKey, p3, mz, e4, sFldD, i4, tabz, pf]
    have e5 : s4.set t (.ins "Table" (tabF cs S.length sp ss)) = s5 := rfl
    have hln : 0 < C.length := by omega
    simp [e5, hln, sRet, fFld, fVar, i5, lk_p]
end LW
namespace LW
open PySem PySem.Spec PyProof.Rows L2 DL TL
/-- row values of the table's width -/
def Rv (w : Nat) (d : D) : Prop := ∃ vs, d = .tup vs ∧ vs.length = w ∧ ∀ v ∈ vs, valB v = true
theorem Rv.vt {w : Nat} {d : D} (hw : w ≤ 10) (h : Rv w d) : Vt d := by
  obtain ⟨vs, rfl, hl, hv⟩ := h
  exact .inr ⟨vs, rfl, by omega, hv⟩
theorem wL_le {m : Nat} : ∀ {vs : List D}, (∀ v ∈ vs, wD v ≤ m) → wL vs ≤ vs.length * (m + 1)
  | [], _ => Nat.zero_le _
  | v :: vs, h => by
    have h1 := h v List.mem_cons_self
    have h2 := wL_le (vs := vs) fun u hu => h u (List.mem_cons_of_mem _ hu)
    rw [wL, List.length_cons, Nat.add_mul]
    omega
theorem okw_vals {vs : List D} (hl : vs.length ≤ 10) (hv : ∀ v ∈ vs, valB v = true) : okD (.tup vs) = true ∧ wD (.tup vs) ≤ 4000 := by
  refine ⟨okL_mem.mpr fun v m => (val_okw (hv v m)).1, ?_⟩
  show wL vs ≤ 4000
  have := wL_le (m := 300) fun v m => (val_okw (hv v m)).2.1
  have : vs.length * (300 + 1) ≤ 10 * 301 := Nat.mul_le_mul hl (Nat.le_refl _)
  omega
theorem okw_int {i : Int} (h : 1 ≤ i ∧ i ≤ 1000000) : okD (.int i) = true ∧ wD (.int i) = 210 :=
  ⟨decide_eq_true (by have : (10 : Nat) ^ 7 ≤ 10 ^ 62 := by decide
                      omega), rfl⟩
theorem row_okw {i : Int} {vs : List D} (hi : 1 ≤ i ∧ i ≤ 1000000) (hl : vs.length ≤ 10) (hv : ∀ v ∈ vs, valB v = true) : okw (.tup [.int i, .tup vs]) := by
  obtain ⟨a1, a2⟩ := okw_int hi
  obtain ⟨b1, b2⟩ := okw_vals hl hv
  refine ⟨Bool.and_eq_true_iff.mpr ⟨a1, Bool.and_eq_true_iff.mpr ⟨b1, rfl⟩⟩, ?_⟩
  show wL [.int i, .tup vs] ≤ 200000
  rw [wL, wL, wL, a2]
  omega
theorem row_B {i : Int} {vs : List D} {n : Nat} (hi : 1 ≤ i ∧ i ≤ 1000000) (hl : vs.length = n) (hv : ∀ v ∈ vs, valB v = true) : rowB n (.tup [.int i, .tup vs]) = true := by
  simp only [rowB, rngB]
  rw [decide_eq_true hi, decide_eq_true hl, List.all_eq_true.mpr hv]; rfl
variable {U : List Int} {st : Store} {t sp ss : Nat} {cs : List D} {S : List KL} {T : KL}
/-- the table and what is known of it -/
structure TabOk (U : List Int) (st : Store) (t sp ss : Nat) (cs : List D) (S : List KL) (T : KL) : Prop where
  tab : Tab st t sp ss cs S T
  oT : okK U T
  hT : OkT T
  len : S.length ≤ 1000
  pos : 0 < S.length
  cl : cs.length ≤ 10
/-- what the table is after rows came -/
def nxC (S : List KL) (T rows : KL) : KL := rows.foldl (chgF S.length T) []
theorem change_ok' (hU : U.length ≤ 60) {rows : KL} (tab : Tab st t sp ss cs S T) (oT : okK U T) (hT : OkT T) (hr : okK U rows) (hv : ∀ q ∈ rows, Vt q.2) (hS : S.length ≤ 1000) (h0 : 0 < S.length) :
    ∃ st', m_Table__change [.ref t, .dct rows] st = some (.int (((nxS S (nxC S T rows)).length : Int) - 1), st') ∧ Tab st' t sp ss cs (nxS S (nxC S T rows)) (takeK T (nxC S T rows)) ∧ Kp t sp ss st st' := change_ok hU tab oT hT hr hv hS h0
theorem put_ok (hU : U.length ≤ 60) (h : TabOk U st t sp ss cs S T) {i : Int} (hi : i ∈ U) (h1 : 1 ≤ i ∧ i ≤ 1000000) {vs : List D} (hl : vs.length = cs.length) (hv : ∀ v ∈ vs, valB v = true) :
    ∃ st', m_Table_put_row [.ref t, .int i, .tup vs] st = some (.int (((nxS S (nxC S T [(.inl i, .tup vs)])).length : Int) - 1), st') ∧ Tab st' t sp ss cs (nxS S (nxC S T [(.inl i, .tup vs)])) (takeK T (nxC S T [(.inl i, .tup vs)])) ∧ Kp t sp ss st st' := by
  have hcl := h.cl
  have tab1 := h.tab.app [.dead]
  have hr : okK U [(Sum.inl i, D.tup vs)] := ⟨fun p hp => ⟨i, hi, by rw [List.mem_singleton.mp hp]⟩, by simp⟩
  obtain ⟨st', g1, g2, g3⟩ := change_ok' hU tab1 h.oT h.hT hr (fun q hq => by rw [List.mem_singleton.mp hq]; exact .inr ⟨vs, rfl, by omega, hv⟩) h.len h.pos
  refine ⟨st', ?_, g2, (Kp.app st _).trans g3⟩
  have k := row_ok (cs := cs) (Nat.le_trans hcl (by decide)) (row_okw h1 (by omega) hv) st
  rw [row_B h1 hl hv] at k
  have hm : noF "_change" (some (tabF cs ((S.length : Int) - 1) sp ss)) = true := rfl
  have z2 : 2 ≤ sizeLine := by decide
  have mg : mergeD [] [((.inl i : Key), D.tup vs)] = [(.inl i, .tup vs)] := rfl
  simp [m_Table_put_row, g_Table_put_row, mOf, outM, startD, sSeq, sAsg, gN, fMk, mkTup, z2, aCons, aNil, fVar, sIf, fNotT, fTest, fCall, fFld, h.tab.ins, lk_c, k, asB, sNil, sRet, fMeth, hm, fFrz, fDict, evP, asKey, mg, g1]
theorem drop_ok (hU : U.length ≤ 60) (h : TabOk U st t sp ss cs S T) {i : Int} (hi : i ∈ U) (h1 : 1 ≤ i ∧ i ≤ 1000000) :
    ∃ st', m_Table_drop_row [.ref t, .int i] st = some (.int (((nxS S (nxC S T [(.inl i, .non)])).length : Int) - 1), st') ∧ Tab st' t sp ss cs (nxS S (nxC S T [(.inl i, .non)])) (takeK T (nxC S T [(.inl i, .non)])) ∧ Kp t sp ss st st' := by
  have tab1 := h.tab.app [.dead]
  have hr : okK U [(Sum.inl i, D.non)] := ⟨fun p hp => ⟨i, hi, by rw [List.mem_singleton.mp hp]⟩, by simp⟩
  obtain ⟨st', g1, g2, g3⟩ := change_ok' hU tab1 h.oT h.hT hr (fun q hq => by rw [List.mem_singleton.mp hq]; exact .inl rfl) h.len h.pos
  refine ⟨st', ?_, g2, (Kp.app st _).trans g3⟩
  obtain ⟨a1, a2⟩ := okw_int h1
  have k := rowid_ok (d := .int i) ⟨a1, by omega⟩ st
  rw [show rngB 1 1000000 (.int i) = true from decide_eq_true h1] at k
  have hm : noF "_change" (insAt "Table" t st) = true := noF_T h.tab fun _ => rfl
  have mg : mergeD [] [((.inl i : Key), D.non)] = [(.inl i, .non)] := rfl
  simp [m_Table_drop_row, g_Table_drop_row, mOf, outM, startD, sSeq, aCons, aNil, fVar, sIf, fNotT, fTest, fCall, k, asB, sNil, sRet, fMeth, hm, fFrz, fDict, evP, asKey, fC, mg, g1]
/-! edits of a batch -/
def edD (e : Int × D) : D := if DL.isNon e.2 = true then .tup [.str (Str.ofString "drop"), .int e.1] else .tup [.str (Str.ofString "put"), .int e.1, e.2]
def edR (es : List (Int × D)) : KL := es.foldl (fun acc e => putD acc (.inl e.1) e.2) []
structure OkE (U : List Int) (w : Nat) (e : Int × D) : Prop where
  mem : e.1 ∈ U
  id : 1 ≤ e.1 ∧ e.1 ≤ 1000000
  val : e.2 = .non ∨ Rv w e.2
theorem s_pp : opEq (.str (Str.ofString "put")) (.str (Str.ofString "put")) = some (.bl true) := eqL (by decide +kernel) (by decide +kernel) (by decide +kernel)
theorem s_dp : opEq (.str (Str.ofString "drop")) (.str (Str.ofString "put")) = some (.bl false) := eqL (by decide +kernel) (by decide +kernel) (by decide +kernel)
theorem s_dd : opEq (.str (Str.ofString "drop")) (.str (Str.ofString "drop")) = some (.bl true) := eqL (by decide +kernel) (by decide +kernel) (by decide +kernel)
theorem edit_ok {e : Int × D} (hw : cs.length ≤ 10) (h : OkE U cs.length e) (st : Store) : m_is_edit [.tup cs, edD e] st = some (.bl true, st) := by
  obtain ⟨i, v⟩ := e
  have h1 : 1 ≤ i ∧ i ≤ 1000000 := h.id
  rcases h.val with hn | ⟨vs, hn, hl, hv⟩
  · have hn' : v = .non := hn
    subst hn'
    obtain ⟨a1, a2⟩ := okw_int h1
    have k := rowid_ok (d := .int i) ⟨a1, by omega⟩ st
    rw [show rngB 1 1000000 (.int i) = true from decide_eq_true h1] at k
    have i0 : L2.atI [D.str (Str.ofString "drop"), .int i] 0 = some (.str (Str.ofString "drop")) := ix0'
    have i1 : L2.atI [D.str (Str.ofString "drop"), .int i] 1 = some (.int i) := ix1'
    have z2 : 2 ≤ sizeLine := by decide
    have e0 : opEq (.int 2) (.int 0) = some (.bl false) := by rw [opEq_int]; rfl
    have e2 : opEq (.int 2) (.int 2) = some (.bl true) := by rw [opEq_int]; rfl
    show m_is_edit [.tup cs, .tup [.str (Str.ofString "drop"), .int i]] st = _
    simp [m_is_edit, g_is_edit, mOf, outM, startD, sSeq, sIf, sNil, fOrT, fNotT, fTest, fIsi, tyD, isiB, asB, fVar, fOp, fMk, bLen, lenL, aCons, aNil, z2, fC, e0, fSub, ixD, i0, i1, s_dp, s_dd, sRet, fAnd, e2, fCall, k]
  · have hn' : v = .tup vs := hn
    subst hn'
    have k := row_ok (cs := cs) (Nat.le_trans hw (by decide)) (row_okw h1 (by omega) hv) st
    rw [row_B h1 hl hv] at k
    have i0 : L2.atI [D.str (Str.ofString "put"), .int i, .tup vs] 0 = some (.str (Str.ofString "put")) := ix0'
    have z3 : 3 ≤ sizeLine := by decide
    have e0 : opEq (.int 3) (.int 0) = some (.bl false) := by rw [opEq_int]; rfl
    have c1 : DL.cutD [D.str (Str.ofString "put"), .int i, .tup vs] (some 1) none = [.int i, .tup vs] := cut1
    show m_is_edit [.tup cs, .tup [.str (Str.ofString "put"), .int i, .tup vs]] st = _
    simp [m_is_edit, g_is_edit, mOf, outM, startD, sSeq, sIf, sNil, fOrT, fNotT, fTest, fIsi, tyD, isiB, asB, fVar, fOp, fMk, bLen, lenL, aCons, aNil, z3, fC, e0, fSub, ixD, i0, s_pp, sRet, fCall, fSlice, oSome, oNone, slD, c1, k]
theorem edR_ok {w : Nat} : ∀ {es : List (Int × D)} {acc : KL}, (∀ e ∈ es, OkE U w e) → okK U acc → (∀ q ∈ acc, q.2 = .non ∨ Rv w q.2) → okK U (es.foldl (fun acc e => putD acc (.inl e.1) e.2) acc) ∧ ∀ q ∈ es.foldl (fun acc e => putD acc (.inl e.1) e.2) acc, q.2 = .non ∨ Rv w q.2
  | [], _, _, h, g => ⟨h, g⟩
  | e :: es, acc, he, h, g => by
    have oe := he e List.mem_cons_self
    refine edR_ok (es := es) (fun x hx => he x (List.mem_cons_of_mem _ hx)) (h.put oe.mem _) fun q hq => ?_
    have hq' : q ∈ putD acc (.inl e.1) e.2 := hq
    unfold putD at hq'
    split at hq'
    · obtain ⟨z, hz, rfl⟩ := List.mem_map.mp hq'
      split
      · exact oe.val
      · exact g z hz
    · rcases List.mem_append.mp hq' with m | m
      · exact g q m
      · rw [List.mem_singleton.mp m]; exact oe.val
theorem edits_check (hcl : cs.length ≤ 10) (tab : Tab st t sp ss cs S T) {b : List D} {x3 : Option D} : ∀ {es : List (Int × D)} {x : Option D}, (∀ e ∈ es, OkE U cs.length e) →
    ∃ y, loopS (gN 2) (sIf (fNotT (fTest (fCall m_is_edit (aCons (fFld "Table" "_columns" (fVar 0)) (aCons (fVar 2) aNil))))) sNever sNil) (es.map edD) [some (.ref t), some (.lst b), x, x3] st = some (.nx, [some (.ref t), some (.lst b), y, x3], st)
  | [], x, _ => ⟨x, rfl⟩
  | e :: es, x, h => by
    obtain ⟨y, hy⟩ := edits_check hcl tab (b := b) (x3 := x3) (es := es) (x := some (edD e)) fun a ha => h a (List.mem_cons_of_mem _ ha)
    have k := edit_ok hcl (h e List.mem_cons_self) st
    exact ⟨y, by simp [loopS, gN, sIf, fNotT, fTest, fCall, aCons, aNil, fFld, fVar, tab.ins, lk_c, k, asB, sNil, hy]⟩
theorem edits_loop (hU : U.length ≤ 60) {w L : Nat} {e0 e1 : Option D} : ∀ {es : List (Int × D)} {acc : KL} {st : Store} {x : Option D}, (∀ e ∈ es, OkE U w e) → okK U acc → st[L]? = some (.dct acc) →
    ∃ y, loopS (gN 2) (sPut (fVar 3) (fSub (fVar 2) (fC (.int 1))) (fIfE (fTest (fOp opEq (fSub (fVar 2) (fC (.int 0))) (fC (.str (Str.ofString "put"))))) (fSub (fVar 2) (fC (.int 2))) (fC .non))) (es.map edD) [e0, e1, x, some (.ref L)] st = some (.nx, [e0, e1, y, some (.ref L)], st.set L (.dct (es.foldl (fun acc e => putD acc (.inl e.1) e.2) acc)))
  | [], acc, st, x, _, _, hL => ⟨x, by simp [loopS, set_same hL]⟩
  | (i, v) :: es, acc, st, x, h, ha, hL => by
    have oe := h _ List.mem_cons_self
    have hlen : L < st.length := (List.getElem?_eq_some_iff.mp hL).1
    have hz : acc.length < sizeLine := Nat.lt_of_le_of_lt (Nat.le_trans ha.len hU) (by decide)
    obtain ⟨y, hy⟩ := edits_loop hU (es := es) (acc := putD acc (.inl i) v) (st := st.set L (.dct (putD acc (.inl i) v))) (x := some (edD (i, v))) (fun a hm => h a (List.mem_cons_of_mem _ hm)) (ha.put oe.mem _) (by rw [List.getElem?_set_self hlen])
    rw [List.set_set] at hy
    refine ⟨y, ?_⟩
    rw [List.foldl_cons, ← hy]
    rcases oe.val with hn | ⟨vs, hn, _, _⟩
    · have hn' : v = .non := hn
      subst hn'
      have ed : edD (i, .non) = .tup [.str (Str.ofString "drop"), .int i] := rfl
      have i0 : L2.atI [D.str (Str.ofString "drop"), .int i] 0 = some (.str (Str.ofString "drop")) := ix0'
      have i1 : L2.atI [D.str (Str.ofString "drop"), .int i] 1 = some (.int i) := ix1'
      rw [List.map_cons, ed]
      simp [loopS, gN, sPut, fIfE, fTest, fOp, fSub, fVar, fC, ixD, i0, i1, s_dp, asB, hL, asKey, hz]
    · have hn' : v = .tup vs := hn
      subst hn'
      have ed : edD (i, .tup vs) = .tup [.str (Str.ofString "put"), .int i, .tup vs] := rfl
      have i0 : L2.atI [D.str (Str.ofString "put"), .int i, .tup vs] 0 = some (.str (Str.ofString "put")) := ix0'
      have i1 : L2.atI [D.str (Str.ofString "put"), .int i, .tup vs] 1 = some (.int i) := ix1'
      have i2 : L2.atI [D.str (Str.ofString "put"), .int i, .tup vs] 2 = some (.tup vs) := atI_nat (j := 2) rfl
      rw [List.map_cons, ed]
      simp [loopS, gN, sPut, fIfE, fTest, fOp, fSub, fVar, fC, ixD, i0, i1, i2, s_pp, asB, hL, asKey, hz]
theorem batch_ok (hU : U.length ≤ 60) (h : TabOk U st t sp ss cs S T) {es : List (Int × D)} (he : ∀ e ∈ es, OkE U cs.length e) :
    ∃ st', m_Table_change_rows [.ref t, .lst (es.map edD)] st = some (.int (((nxS S (nxC S T (edR es))).length : Int) - 1), st') ∧ Tab st' t sp ss cs (nxS S (nxC S T (edR es))) (takeK T (nxC S T (edR es))) ∧ Kp t sp ss st st' := by
  have hcl := h.cl
  obtain ⟨o1, o2⟩ := edR_ok (acc := []) he okK.nil (fun q hq => by cases hq)
  have o1' : okK U (edR es) := o1
  have o2' : ∀ q ∈ edR es, q.2 = .non ∨ Rv cs.length q.2 := o2
  have tab1 := h.tab.app [.dead]
  obtain ⟨st', g1, g2, g3⟩ := change_ok' hU tab1 h.oT h.hT o1' (fun q hq => (o2' q hq).elim (fun e => .inl e) fun e => e.vt hcl) h.len h.pos
  refine ⟨st', ?_, g2, (Kp.app st _).trans g3⟩
  obtain ⟨y, hy⟩ := edits_check hcl h.tab (b := es.map edD) (x3 := none) (x := none) he
  obtain ⟨z, hz⟩ := edits_loop hU (L := st.length) (e0 := some (.ref t)) (e1 := some (.lst (es.map edD))) (acc := []) (st := st ++ [.dct []]) (x := y) he okK.nil (by simp)
  have e1 : (st ++ [Ob.dct []]).set st.length (.dct (edR es)) = st ++ [.dct (edR es)] := by simp
  have hz' : loopS (gN 2) (sPut (fVar 3) (fSub (fVar 2) (fC (.int 1))) (fIfE (fTest (fOp opEq (fSub (fVar 2) (fC (.int 0))) (fC (.str (Str.ofString "put"))))) (fSub (fVar 2) (fC (.int 2))) (fC .non))) (es.map edD) [some (.ref t), some (.lst (es.map edD)), y, some (.ref st.length)] (st ++ [.dct []]) = some (.nx, [some (.ref t), some (.lst (es.map edD)), z, some (.ref st.length)], st ++ [.dct (edR es)]) := by rw [hz]; rw [← e1]; rfl
  have hm : noF "_change" (insAt "Table" t (st ++ [.dead])) = true := noF_T tab1 fun _ => rfl
  have a1 : (st ++ [Ob.dct (edR es)])[st.length]? = some (.dct (edR es)) := by simp
  have e2 : (st ++ [Ob.dct (edR es)]).set st.length .dead = st ++ [.dead] := by simp
  simp only [m_Table_change_rows, g_Table_change_rows, mOf, outM, startD, sSeq, sFor]
  simp [iOf, asL, fVar, hy, sAsg, gN, fNewD, hz', sFrzV, a1, e2, sRet, fMeth, hm, aCons, aNil, g1]
end LW
namespace LW
open PySem PySem.Spec PyProof.Rows L2 DL TL
theorem gt_merge : ∀ {b a : KL} {i : Int}, (b.map (·.1)).Nodup → gt (mergeD a b) i = (gt b i).or (gt a i)
  | [], a, i, _ => by simp [mergeD, gt, valD_nil]
  | (k, v) :: b, a, i, nd => by
    have nd' := List.nodup_cons.mp (show (k :: b.map (·.1)).Nodup from nd)
    show gt (mergeD (putD a k v) b) i = _
    rw [gt_merge nd'.2]
    show (gt b i).or (valD (putD a k v) (.inl i)) = (valD ((k, v) :: b) (.inl i)).or (gt a i)
    rw [valD_put, valD_cons]
    by_cases e : k = .inl i
    · subst e
      have : gt b i = none := valD_none.mpr nd'.1
      simp [this]
    · simp only [if_neg e]; rfl
theorem merge_ok {U : List Int} {P : D → Prop} : ∀ {b a : KL}, okK U a → (∀ q ∈ b, ∃ i ∈ U, q.1 = .inl i) → (∀ q ∈ a, P q.2) → (∀ q ∈ b, P q.2) → okK U (mergeD a b) ∧ ∀ q ∈ mergeD a b, P q.2
  | [], a, h, _, g, _ => ⟨h, g⟩
  | (k, v) :: b, a, h, hb, g, gb => by
    obtain ⟨i, hi, e⟩ := hb _ List.mem_cons_self
    have e' : k = .inl i := e
    subst e'
    refine merge_ok (b := b) (a := putD a (.inl i) v) (h.put hi _) (fun q hq => hb q (List.mem_cons_of_mem _ hq)) (fun q hq => ?_) fun q hq => gb q (List.mem_cons_of_mem _ hq)
    unfold putD at hq
    split at hq
    · obtain ⟨z, hz, rfl⟩ := List.mem_map.mp hq
      split
      · exact gb (.inl i, v) List.mem_cons_self
      · exact g z hz
    · rcases List.mem_append.mp hq with m | m
      · exact g q m
      · rw [List.mem_singleton.mp m]; exact gb _ List.mem_cons_self
variable {U : List Int} {st : Store} {t sp ss : Nat} {cs : List D} {S : List KL} {T : KL}
theorem kKeys_int {U : List Int} {l : KL} (h : okK U l) : ∃ ks : List Int, kKeys l = ks.map .int ∧ (∀ i ∈ ks, i ∈ U) ∧ ∀ i, i ∈ ks ↔ (gt l i).isSome = true := by
  obtain ⟨ks, h1, h2, h3, h4, h5⟩ := h.ints
  refine ⟨ks, ?_, h4, fun i => ?_⟩
  · have : kKeys l = (l.map (·.1)).map keyD := by rw [kKeys, List.map_map]; rfl
    rw [this, h2, List.map_map]; rfl
  · have : (Sum.inl i : Key) ∈ l.map (·.1) ↔ i ∈ ks := by
      rw [h2]
      exact ⟨fun m => by obtain ⟨j, hj, e⟩ := List.mem_map.mp m; injection e with e; exact e ▸ hj, fun m => List.mem_map.mpr ⟨i, m, rfl⟩⟩
    rw [← this]
    unfold gt
    cases q : valD l (.inl i) with
    | none => simp only [Option.isSome_none, Bool.false_eq_true, iff_false]; exact valD_none.mp q
    | some v => simp only [Option.isSome_some, iff_true]; exact List.mem_map.mpr ⟨_, (valD_some h.nd).mp q, rfl⟩
theorem revert_ok (hU : U.length ≤ 60) (h : TabOk U st t sp ss cs S T) (hs : ∀ x ∈ S, OkStep U x) {v : Nat} (hv : v < S.length) (hz : OkT (ap (S.take (v + 1)))) :
    ∃ st' rows, m_Table_revert_to [.ref t, .int v] st = some (.int (((nxS S (nxC S T rows)).length : Int) - 1), st') ∧ Tab st' t sp ss cs (nxS S (nxC S T rows)) (takeK T (nxC S T rows)) ∧ Kp t sp ss st st' ∧ okK U rows ∧ (∀ q ∈ rows, Vt q.2) ∧
      ∀ i, gt rows i = match gt (ap (S.take (v + 1))) i with | some d => some (sndD d) | none => if (gt T i).isSome = true then some .non else none := by
  obtain ⟨R, r1, r2, r3⟩ := rowsat_ok hU h.tab hs hv (Nat.le_trans h.len (by decide)) fun i d e => by obtain ⟨c, x, a, _⟩ := hz i d e; exact ⟨c, x, a⟩
  generalize hZ : ap (S.take (v + 1)) = Z at *
  have lt : t < st.length := (List.getElem?_eq_some_iff.mp h.tab.tab).1
  have lp : sp < st.length := (List.getElem?_eq_some_iff.mp h.tab.stp).1
  have ls : ss < st.length := (List.getElem?_eq_some_iff.mp h.tab.sta).1
  have tab1 := h.tab.app [.dct Z, .dct R]
  have hm : noF "rows_at" (insAt "Table" t st) = true := noF_T h.tab fun _ => rfl
  obtain ⟨ks, k1, k2, k3⟩ := kKeys_int h.oT
  let st1 : Store := st ++ [.dct Z, .dct R]
  have l1 : st1.length = st.length + 2 := by show (st ++ _).length = _; simp
  have tab1' : Tab st1 t sp ss cs S T := tab1
  let st2 : Store := st1.set ss (.ldc T)
  have t2 : st2[t]? = some (.ins "Table" (tabF cs ((S.length : Int) - 1) sp ss)) := by
    show (st1.set ss _)[t]? = _
    rw [List.getElem?_set_ne (Ne.symm h.tab.n3)]; exact tab1'.tab
  have i2 : insAt "Table" t st2 = some (tabF cs ((S.length : Int) - 1) sp ss) := by simp [insAt, t2]
  have d2 : st2[ss]? = some (.ldc T) := by
    show (st1.set ss _)[ss]? = _
    rw [List.getElem?_set_self (by omega)]
  obtain ⟨R2, g1, g2, g3⟩ := loopD_keys hU (k := 4) (fk := fVar 4) (fv := fC .non) (φ := fun _ => .non) (env := [some (.ref t), some (.int v), some (.ref (st.length + 1)), none, none]) (st := st2) (ks := ks) (fun i hi => ⟨k2 i hi, by simp [fVar], by simp [fC]⟩) okK.nil
  let st3 : Store := st1 ++ [.dct R2]
  have e3 : (st2 ++ [Ob.dct R2]).set ss (.dct T) = st3 := by
    show ((st1.set ss (.ldc T)) ++ [Ob.dct R2]).set ss (.dct T) = st1 ++ [.dct R2]
    rw [List.set_append_left _ _ (by rw [List.length_set]; omega), List.set_set, set_same tab1'.sta]
  have d3 : (st2 ++ [Ob.dct R2])[ss]? = some (.ldc T) := by
    rw [List.getElem?_append_left (List.getElem?_eq_some_iff.mp d2).1]; exact d2
  have l2 : st2.length = st.length + 2 := by show (st1.set ss _).length = _; rw [List.length_set]; exact l1
  have a3 : st3[st.length + 2]? = some (.dct R2) := by
    show (st1 ++ [Ob.dct R2])[st.length + 2]? = _
    rw [← l1]; simp
  have b3 : st3[st.length + 1]? = some (.dct R) := by
    show (st1 ++ [Ob.dct R2])[st.length + 1]? = _
    rw [List.getElem?_append_left (by omega)]
    show (st ++ [Ob.dct Z, .dct R])[st.length + 1]? = _
    rw [List.getElem?_append_right (by omega)]; simp
  have hle : R2.length + R.length ≤ sizeLine := by
    have q1 := g2.len
    have q2 := r2.len
    exact Nat.le_trans (show _ ≤ 120 by omega) (by decide)
  let rows : KL := mergeD R2 R
  have gR2 : ∀ i d, gt R2 i = some d → d = .non := fun i d e => by
    rw [g3] at e
    split at e
    · cases e; rfl
    · cases e
  have gR : ∀ i d, gt R i = some d → Vt d := fun i d e => by
    rw [r3] at e
    obtain ⟨x, hx, rfl⟩ := Option.map_eq_some_iff.mp e
    obtain ⟨c, y, rfl, hy⟩ := hz i x hx
    exact hy
  have inV : ∀ {l : KL}, okK U l → (∀ i d, gt l i = some d → Vt d) → ∀ q ∈ l, Vt q.2 := fun {l} o g q hq => by
    obtain ⟨i, _, e⟩ := o.mem q hq
    obtain ⟨k, d⟩ := q
    have e' : k = .inl i := e
    subst e'
    exact g i d ((valD_some o.nd).mpr hq)
  obtain ⟨o1, o2⟩ := merge_ok (P := Vt) g2 r2.mem (inV g2 fun i d e => by rw [gR2 i d e]; exact .inl rfl) (inV r2 gR)
  have gr : ∀ i, gt rows i = match gt Z i with | some d => some (sndD d) | none => if (gt T i).isSome = true then some .non else none := fun i => by
    show gt (mergeD R2 R) i = _
    rw [gt_merge r2.nd, r3, g3]
    cases gt Z i with
    | some d => rfl
    | none =>
      show (if i ∈ ks then some D.non else gt [] i) = _
      by_cases m : i ∈ ks
      · rw [if_pos m, if_pos ((k3 i).mp m)]
      · rw [if_neg m, if_neg fun z => m ((k3 i).mpr z)]; rfl
  have tab4 : Tab (st1 ++ [.dead]) t sp ss cs S T := tab1'.app [.dead]
  obtain ⟨st', c1, c2, c3⟩ := change_ok' hU tab4 h.oT h.hT o1 o2 h.len h.pos
  refine ⟨st', rows, ?_, c2, ((Kp.app st [.dct Z, .dct R]).trans (Kp.app st1 [.dead])).trans c3, o1, o2, gr⟩
  have hm2 : noF "_change" (insAt "Table" t (st1 ++ [.dead])) = true := noF_T tab4 fun _ => rfl
  have e4 : (st3.set (st.length + 2) (.dct (mergeD R2 R))).set (st.length + 2) .dead = st1 ++ [.dead] := by
    rw [List.set_set]
    show (st1 ++ [Ob.dct R2]).set (st.length + 2) .dead = _
    rw [← l1]; simp
  have a4 : (st3.set (st.length + 2) (.dct (mergeD R2 R)))[st.length + 2]? = some (.dct (mergeD R2 R)) := by
    rw [List.getElem?_set_self (List.getElem?_eq_some_iff.mp a3).1]
  have g1' : loopD [4] b1 tTrue (fVar 4) (fC .non) (kKeys T) [] [some (.ref t), some (.int v), some (.ref (st.length + 1)), none, none] st2 = some (R2, st2) := by rw [k1]; exact g1
  have nn : notN (st.length + 2) (.ref (st.length + 1)) = true := by simp [notN]
  have rr : m_Table_rows_at [.ref t, .int v] st = some (.ref (st.length + 1), st1) := r1
  have w1 : st1.set ss (.ldc T) = st2 := rfl
  simp only [m_Table_revert_to, g_Table_revert_to, mOf, outM, startD, sSeq, sAsg, gN]
  simp [fMeth, fVar, hm, aCons, aNil, rr, sLock, whichR, fFld, tab1'.ins, lk_t, dctIn, tab1'.sta, w1, fDComp, iFrz, i2, frzAt, ldcAt, d2, sAsg, gN, wipeL, g1', l2, d3, e3, sDrop, fUpd, dctAt, a3, b3, nn, hle, sFrzV, a4, e4, sRet, hm2]
  rw [c1]; rfl
end LW
namespace LW
open PySem PySem.Spec PyProof.Rows L2 DL TL
/-! what the law keeps of the past, and what an edit does to it -/
def cmb (r c : KL) (i : Int) : Option D := match gt r i, gt c i with | some x, some v => some (.tup [v, x]) | _, _ => none
structure Vsn (U : List Int) (w : Nat) (Z r c : KL) : Prop where
  or_ : okK U r
  oc : okK U c
  z : ∀ i, gt Z i = cmb r c i
  rv : ∀ i d, gt r i = some d → Rv w d
  cs : ∀ i, (gt c i).isSome = (gt r i).isSome
  cv : ∀ i d, gt c i = some d → ∃ k : Nat, d = .int k ∧ k ≤ 1000
structure Pst (U : List Int) (w : Nat) (S : List KL) (T : KL) (ps : List (KL × KL)) : Prop where
  len : ps.length = S.length
  steps : ∀ x ∈ S, OkStep U x
  at_ : ∀ v r c, ps[v]? = some (r, c) → Vsn U w (ap (S.take (v + 1))) r c
  oT : okK U T
  last : ∀ r c, ps[ps.length - 1]? = some (r, c) → ∀ i, gt T i = cmb r c i
theorem Vsn.okT {U : List Int} {w : Nat} (hw : w ≤ 10) {Z r c : KL} (h : Vsn U w Z r c) {T : KL} (e : ∀ i, gt T i = cmb r c i) : OkT T := fun i d hd => by
  rw [e, cmb] at hd
  cases hr : gt r i with
  | none => rw [hr] at hd; cases hd
  | some x =>
    cases hc : gt c i with
    | none => rw [hr, hc] at hd; cases hd
    | some v =>
      rw [hr, hc] at hd
      cases hd
      exact ⟨v, x, rfl, (h.rv i x hr).vt hw⟩
theorem Vsn.vof {U : List Int} {w : Nat} {Z r c : KL} (h : Vsn U w Z r c) {T : KL} (e : ∀ i, gt T i = cmb r c i) (i : Int) : vofD (gt T i) = (gt r i).getD .non := by
  rw [e, cmb]
  have s := h.cs i
  cases hr : gt r i with
  | none => rfl
  | some x =>
    rw [hr] at s
    cases hc : gt c i with
    | none => rw [hc] at s; cases s
    | some v => rfl
theorem Rv.nn {w : Nat} {d : D} (h : Rv w d) : DL.isNon d = false := by
  obtain ⟨vs, rfl, _⟩ := h; rfl
theorem opt_vt {w : Nat} (hw : w ≤ 10) {o : Option D} (h : ∀ d, o = some d → Rv w d) : Vt (o.getD .non) := by
  cases o with
  | none => exact .inl rfl
  | some d => exact (h d rfl).vt hw
theorem opt_eq {w : Nat} {a b : Option D} (ha : ∀ d, a = some d → Rv w d) (hb : ∀ d, b = some d → Rv w d) : a.getD .non = b.getD .non ↔ a = b := by
  cases a with
  | none =>
    cases b with
    | none => simp
    | some d =>
      have := (hb d rfl).nn
      refine ⟨fun e => ?_, fun e => by cases e⟩
      rw [show (some d).getD .non = d from rfl] at e
      rw [← e] at this; cases this
  | some c =>
    cases b with
    | none =>
      have := (ha c rfl).nn
      refine ⟨fun e => ?_, fun e => by cases e⟩
      rw [show (some c).getD .non = c from rfl] at e
      rw [e] at this; cases this
    | some d => simp
/-- the goal, told by the rows that come -/
def goalOf (r rows : KL) (i : Int) : Option D := match gt rows i with | none => gt r i | some d => if DL.isNon d = true then none else some d
open Classical in
theorem chg_none {U : List Int} {w : Nat} (hw : w ≤ 10) {Z r c T rows : KL} (h : Vsn U w Z r c) (e : ∀ i, gt T i = cmb r c i) (hr : okK U rows) (hv : ∀ q ∈ rows, q.2 = .non ∨ Rv w q.2) (S : List KL) (i : Int) :
    gt (nxC S T rows) i = if goalOf r rows i = gt r i then none else (gt rows i).map (entD S.length) := by
  unfold nxC
  rw [gt_chg hr.nd (fun j hj => absurd rfl hj)]
  unfold goalOf
  cases hg : gt rows i with
  | none => simp; rfl
  | some v =>
    have m : (Sum.inl i, v) ∈ rows := (valD_some hr.nd).mp hg
    have hv' := hv _ m
    have va : Vt v := hv'.elim (fun z => .inl z) fun z => z.vt hw
    have vb : Vt ((gt r i).getD .non) := opt_vt hw (h.rv i)
    have key := (ne_ok va vb).2.2
    simp only [h.vof e]
    have iff : neB v ((gt r i).getD .non) = false ↔ (if DL.isNon v = true then none else some v) = gt r i := by
      rw [key]
      rcases hv' with z | z
      · have z' : v = .non := z
        subst z'
        have := opt_eq (w := w) (a := none) (b := gt r i) (fun _ z => by cases z) (h.rv i)
        exact this
      · have z' : Rv w v := z
        rw [z'.nn]
        have := opt_eq (w := w) (a := some v) (b := gt r i) (fun d hd => by cases hd; exact z') (h.rv i)
        exact this
    cases hn : neB v ((gt r i).getD .non) with
    | true =>
      have : ¬ (if DL.isNon v = true then none else some v) = gt r i := fun z => by rw [iff.mpr z] at hn; cases hn
      simp only [if_true, if_neg this]; rfl
    | false =>
      rw [if_pos (iff.mp hn)]; simp
theorem okK_empty {U : List Int} {l : KL} (h : okK U l) : l = [] ↔ ∀ i, gt l i = none := by
  refine ⟨fun e i => by rw [e]; rfl, fun g => ?_⟩
  cases l with
  | nil => rfl
  | cons p l =>
    obtain ⟨k, v⟩ := p
    obtain ⟨i, _, e⟩ := h.mem _ List.mem_cons_self
    have e' : k = .inl i := e
    subst e'
    have := g i
    rw [gt, valD_cons, if_pos rfl] at this
    cases this
theorem nxC_ok {U : List Int} {S : List KL} {T rows : KL} (hr : okK U rows) : OkStep U (nxC S T rows) := chg_ok hr.mem ⟨okK.nil, fun _ h => by cases h⟩
open Classical in
/-- the changes, told -/
noncomputable def chgOf (n : Nat) (r g c : KL) (i : Int) : Option D := if gt g i = gt r i then gt c i else if (gt g i).isSome = true then some (.int n) else none
open Classical in
theorem step_ok {U : List Int} {w : Nat} (hw : w ≤ 10) {S : List KL} {T rows : KL} {ps : List (KL × KL)} {r c g c' : KL} (h : Pst U w S T ps) (hl : ps[ps.length - 1]? = some (r, c)) (hS : S.length ≤ 900) (hr : okK U rows) (hv : ∀ q ∈ rows, q.2 = .non ∨ Rv w q.2)
    (og : okK U g) (oc : okK U c') (hg : ∀ i, gt g i = goalOf r rows i) (hc : ∀ i, gt c' i = chgOf S.length r g c i) :
    ((nxC S T rows).isEmpty = true ↔ ∀ i, gt g i = gt r i) ∧ ((nxC S T rows).isEmpty = false → Pst U w (S ++ [nxC S T rows]) (takeK T (nxC S T rows)) (ps ++ [(g, c')])) ∧ ((nxC S T rows).isEmpty = true → nxC S T rows = []) := by
  have vs := h.at_ _ r c hl
  have lst := h.last r c hl
  have oC := nxC_ok (S := S) (T := T) hr
  have cn := chg_none hw vs lst hr hv S
  have hgv : ∀ i d, gt g i = some d → Rv w d := fun i d e => by
    rw [hg, goalOf] at e
    cases hq : gt rows i with
    | none => rw [hq] at e; exact vs.rv i d e
    | some v =>
      rw [hq] at e
      have m : (Sum.inl i, v) ∈ rows := (valD_some hr.nd).mp hq
      have e' : (if DL.isNon v = true then none else some v) = some d := e
      split at e'
      · cases e'
      · rename_i nn
        cases e'
        rcases hv _ m with z | z
        · exact absurd (show DL.isNon d = true by rw [show d = .non from z]; rfl) nn
        · exact z
  have emp : (nxC S T rows).isEmpty = true ↔ ∀ i, gt g i = gt r i := by
    rw [List.isEmpty_iff, okK_empty oC.ok]
    refine ⟨fun z i => ?_, fun z i => ?_⟩
    · have := z i
      rw [cn] at this
      by_cases q : goalOf r rows i = gt r i
      · rw [hg]; exact q
      · rw [if_neg q] at this
        cases hq : gt rows i with
        | none => exact absurd (by rw [goalOf, hq]) q
        | some v => rw [hq] at this; cases this
    · rw [cn, if_pos (by rw [← hg]; exact z i)]
  refine ⟨emp, fun ne => ?_, fun z => List.isEmpty_iff.mp z⟩
  generalize hC : nxC S T rows = C at *
  have oZ : okK U (takeK T C) := okK_take h.oT oC.ok.mem
  have cnv : ∀ i d, gt c' i = some d → ∃ k : Nat, d = .int k ∧ k ≤ 1000 := fun i d e => by
    rw [hc, chgOf] at e
    split at e
    · exact vs.cv i d e
    · split at e
      · cases e; exact ⟨S.length, rfl, by omega⟩
      · cases e
  have cis : ∀ i, (gt c' i).isSome = (gt g i).isSome := fun i => by
    rw [hc, chgOf]
    by_cases q : gt g i = gt r i
    · rw [if_pos q, q]; exact vs.cs i
    · rw [if_neg q]
      cases gt g i with
      | none => simp
      | some d => simp
  have zz : ∀ i, gt (takeK T C) i = cmb g c' i := fun i => by
    rw [gt_take oC.ok.nd, cn]
    by_cases q : goalOf r rows i = gt r i
    · rw [if_pos q]
      have q' : gt g i = gt r i := by rw [hg]; exact q
      simp only
      rw [lst, cmb, cmb, q', hc, chgOf, if_pos q']
    · rw [if_neg q]
      have q' : ¬ gt g i = gt r i := by rw [hg]; exact q
      have hc' := hc i
      rw [chgOf, if_neg q'] at hc'
      have hgi := hg i
      unfold goalOf at hgi
      cases hq : gt rows i with
      | none => rw [hq] at hgi; exact absurd hgi q'
      | some v =>
        rw [hq] at hgi
        simp only [Option.map_some]
        simp only at hgi
        cases hn : DL.isNon v with
        | true =>
          rw [hn] at hgi
          simp only [if_true] at hgi
          have en : entD S.length v = .non := by simp [entD, hn]
          rw [en, cmb, hgi]; rfl
        | false =>
          rw [hn] at hgi
          simp only [Bool.false_eq_true, if_false] at hgi
          have en : entD S.length v = .tup [.int S.length, v] := by simp [entD, hn]
          rw [hgi] at hc'
          simp only [Option.isSome_some, if_true] at hc'
          rw [en, cmb, hgi, hc']; rfl
  have lenp : ps.length = S.length := h.len
  have pos : 0 < ps.length := by
    have := (List.getElem?_eq_some_iff.mp hl).1
    omega
  refine ⟨by simp [h.len], fun x hx => ?_, fun v a b hv' => ?_, oZ, fun a b hab => ?_⟩
  · rcases List.mem_append.mp hx with m | m
    · exact h.steps x m
    · rw [List.mem_singleton.mp m]; exact oC
  · by_cases q : v < ps.length
    · rw [List.getElem?_append_left q] at hv'
      rw [List.take_append_of_le_length (by omega)]
      exact h.at_ v a b hv'
    · have : v = ps.length := by
        have := (List.getElem?_eq_some_iff.mp hv').1
        simp at this
        omega
      subst this
      simp at hv'
      obtain ⟨rfl, rfl⟩ := hv'
      have tk : (S ++ [C]).take (ps.length + 1) = S ++ [C] := List.take_of_length_le (by simp; omega)
      have apx : ∀ i, gt (ap (S ++ [C])) i = cmb g c' i := fun i => by
        unfold ap
        rw [List.foldl_append]
        show gt (takeK (ap S) C) i = _
        rw [gt_take oC.ok.nd, ← zz i, gt_take oC.ok.nd]
        have v0 := (vs.z i)
        rw [show ps.length - 1 + 1 = ps.length by omega, lenp, List.take_length] at v0
        rw [v0, ← lst]
      rw [tk]
      exact ⟨og, oc, apx, hgv, cis, cnv⟩
  · have e : (ps ++ [(g, c')]).length - 1 = ps.length := by simp
    rw [e] at hab
    simp at hab
    obtain ⟨rfl, rfl⟩ := hab
    exact zz
end LW
namespace LW
open PySem PySem.Spec PyProof.Rows L2 DL TL
variable {U : List Int} {st : Store} {t sp ss : Nat} {cs : List D} {S : List KL} {T : KL}
theorem present_ok (h : Tab st t sp ss cs S T) : m_Table_present [.ref t] st = some (.int ((S.length : Int) - 1), st) := by
  simp [m_Table_present, g_Table_present, mOf, outM, startD, sRet, fFld, fVar, h.ins, lk_p]
theorem tlen_ok (h : Tab st t sp ss cs S T) : m_Table___len__ [.ref t] st = some (.int T.length, st) := by
  simp [m_Table___len__, g_Table___len__, mOf, outM, startD, sRet, fMk, bLen, lenL, lenK, aCons, aNil, fFld, fVar, h.ins, lk_t, h.sta]
theorem cols_names (h : Tab st t sp ss cs S T) (hl : cs.length ≤ 10) : m_Table_column_names [.ref t] st = some (.tup cs, st) := by
  have z : cs.length ≤ sizeLine := Nat.le_trans hl (by decide)
  simp [m_Table_column_names, g_Table_column_names, mOf, outM, startD, sRet, fMk, bTuple, bList, listSeq, aCons, aNil, fFld, fVar, h.ins, lk_c, z]
theorem srt_id : ∀ {ks : List Int}, ks.Pairwise (· < ·) → srt ks = ks := fun {ks} h => pw_eq (srt_pw ks) h fun j => srt_mem
theorem mkS_ints : ∀ (s : List KL) (i : Nat), intKs (mkS i s) = some ((List.range s.length).map fun k : Nat => ((i : Int) + (k : Int)))
  | [], _ => rfl
  | a :: s, i => by
    show (intKs (mkS (i + 1) s)).map ((i : Int) :: ·) = _
    rw [mkS_ints s (i + 1), List.length_cons, List.range_succ_eq_map, List.map_cons, List.map_map, Option.map_some]
    congr 2
    · simp
      intro k _
      omega
theorem known_ok (h : Tab st t sp ss cs S T) (hl : S.length < 64) : m_Table_known_versions [.ref t] st = some (.ref st.length, st ++ [.lst (rg 0 S.length)]) := by
  have k1 := mkS_ints S 0
  have pw : ((List.range S.length).map fun k : Nat => ((0 : Nat) : Int) + (k : Int)).Pairwise (· < ·) := by
    refine List.pairwise_map.mpr (List.pairwise_lt_range.imp fun h => ?_)
    omega
  have nd : ((List.range S.length).map fun k : Nat => ((0 : Nat) : Int) + (k : Int)).Nodup := pw.imp fun h => by omega
  have ks : sortedKs (mkS 0 S) = some ((List.range S.length).map fun k : Nat => ((0 : Nat) : Int) + (k : Int)) := by
    unfold sortedKs
    rw [k1]
    simp only [Option.bind_some]
    rw [if_pos ⟨by rw [List.length_map, List.length_range]; exact hl, nd⟩, srt_id pw]
  have rr : (((List.range S.length).map fun k : Nat => ((0 : Nat) : Int) + (k : Int)).map D.int) = rg 0 S.length := by
    rw [List.map_map, rg]
    rw [show ((S.length : Int) - 0).toNat = S.length by omega]
    rfl
  simp only [m_Table_known_versions, g_Table_known_versions, mOf, outM, startD, sRet]
  simp only [fSortKR, fFld]
  simp [fVar, h.ins, lk_s, dctAt, h.stp, ks]
  rw [← rr]
  simp
theorem init_ok {n : Nat} (hn : n = st.length) (hc : okw (.tup cs)) (hB : colsB (.tup cs) = true) :
    m_Table___init__ [.ref n, .tup cs] (st ++ [.ins "Table" []]) = some (.non, st ++ [.ins "Table" (tabF cs 0 (n + 1) (n + 2)), .dct (mkS 0 [[]]), .dct []]) := by
  subst hn
  have k := cols_ok hc (st ++ [.ins "Table" []])
  rw [hB] at k
  let f1 : List (Str × D) := [("_columns", .tup cs)]
  let f2 : List (Str × D) := [("_columns", .tup cs), ("_present", .int 0)]
  let f3 : List (Str × D) := [("_columns", .tup cs), ("_present", .int 0), ("_steps", .ref (st.length + 1))]
  have at_ : ∀ (fs : List (Str × D)) (l : Store), insAt "Table" st.length (st ++ Ob.ins "Table" fs :: l) = some fs := fun fs l => by
    simp [insAt]
  have set_ : ∀ (fs gs : List (Str × D)) (l : Store), (st ++ Ob.ins "Table" fs :: l).set st.length (.ins "Table" gs) = st ++ Ob.ins "Table" gs :: l := fun fs gs l => by
    simp
  have p1 : putFD "_columns" (.tup cs) [] = f1 := rfl
  have p2 : putFD "_present" (.int 0) f1 = f2 := rfl
  have p3 : putFD "_steps" (.ref (st.length + 1)) f2 = f3 := rfl
  have p4 : putFD "_states" (.ref (st.length + 2)) f3 = tabF cs 0 (st.length + 1) (st.length + 2) := rfl
  have mg : mergeD [] [((.inl 0 : Key), D.dct [])] = mkS 0 [[]] := rfl
  have a1 : ∀ (v : F) (f : Str) (fs : List (Str × D)) (d : D) (l l' : Store), fs.length < 1000 → v [some (.ref st.length), some (.tup cs)] (st ++ Ob.ins "Table" fs :: l) = some (d, st ++ Ob.ins "Table" fs :: l') →
      sFldD "Table" f (fVar 0) v [some (.ref st.length), some (.tup cs)] (st ++ Ob.ins "Table" fs :: l) = some (.nx, [some (.ref st.length), some (.tup cs)], st ++ Ob.ins "Table" (putFD f d fs) :: l') := fun v f fs d l l' hl hv => by
    simp [sFldD, hv, fVar, at_, hl, set_]
  have e1 := a1 (fVar 1) "_columns" [] (.tup cs) [] [] (by decide) (by simp [fVar])
  have e2 := a1 (fC (.int 0)) "_present" f1 (.int 0) [] [] (by show 1 < 1000; decide) (by simp [fC])
  have e3 := a1 (fDict (((fC (.int 0)), (fC (.dct []))) :: [])) "_steps" f2 (.ref (st.length + 1)) [] [.dct (mkS 0 [[]])] (by show 2 < 1000; decide) (by simp [fDict, evP, fC, asKey, mg])
  have e4 := a1 fNewD "_states" f3 (.ref (st.length + 2)) [.dct (mkS 0 [[]])] [.dct (mkS 0 [[]]), .dct []] (by show 3 < 1000; decide) (by simp [fNewD])
  rw [p1] at e1
  rw [p2] at e2
  rw [p3] at e3
  rw [p4] at e4
  simp only [m_Table___init__, g_Table___init__, mOf, outM, startD, sSeq, sIf, fNotT, fTest]
  simp [fCall, aCons, aNil, fVar, k, asB, sNil]
  simp [e1, e2, e3, e4]
end LW
namespace LW
open PySem PySem.Spec PyProof.Rows L2 DL TL
/-! == of two maps of rows -/
theorem eqGo_ok {w : Nat} (hw : w ≤ 10) {r : KL} (hr : ∀ i d, gt r i = some d → Rv w d) : ∀ {l : KL}, (∀ q ∈ l, (∃ i, q.1 = .inl i) ∧ Rv w q.2) → ∃ b, eqGo r l = some b ∧ (b = true ↔ ∀ q ∈ l, valD r q.1 = some q.2)
  | [], _ => ⟨true, rfl, by simp⟩
  | (k, v) :: l, h => by
    obtain ⟨b, h1, h2⟩ := eqGo_ok hw hr (l := l) fun q hq => h q (List.mem_cons_of_mem _ hq)
    obtain ⟨⟨i, e⟩, hv⟩ := h _ List.mem_cons_self
    have e' : k = .inl i := e
    subst e'
    have hv' : Rv w v := hv
    cases hy : valD r (.inl i) with
    | none =>
      refine ⟨false, by simp [eqGo, hy], ?_⟩
      simp [hy]
    | some y =>
      obtain ⟨_, n2, n3⟩ := ne_ok (hv'.vt hw) ((hr i y hy).vt hw)
      refine ⟨!neB v y && b, by simp [eqGo, hy, n2, h1], ?_⟩
      rw [Bool.and_eq_true, h2]
      constructor
      · rintro ⟨a1, a2⟩ q hq
        rcases List.mem_cons.mp hq with rfl | hq
        · have : neB v y = false := by simpa using a1
          rw [n3] at this
          rw [this]; exact hy
        · exact a2 q hq
      · intro a
        refine ⟨?_, fun q hq => a q (List.mem_cons_of_mem _ hq)⟩
        have := a (.inl i, v) List.mem_cons_self
        rw [hy] at this
        have e2 : y = v := Option.some.inj this
        have := n3.mpr e2.symm
        simp [this]
theorem eqKv_ok {U : List Int} {w : Nat} (hw : w ≤ 10) {g r : KL} (og : okK U g) (or_ : okK U r) (hg : ∀ i d, gt g i = some d → Rv w d) (hr : ∀ i d, gt r i = some d → Rv w d) : ∃ b, eqKv g r = some b ∧ (b = true ↔ ∀ i, gt g i = gt r i) := by
  have mem : ∀ q ∈ g, (∃ i, q.1 = .inl i) ∧ Rv w q.2 := fun q hq => by
    obtain ⟨i, _, e⟩ := og.mem q hq
    obtain ⟨k, v⟩ := q
    have e' : k = .inl i := e
    subst e'
    exact ⟨⟨i, rfl⟩, hg i v ((valD_some og.nd).mpr hq)⟩
  obtain ⟨b, h1, h2⟩ := eqGo_ok hw hr mem
  by_cases hl : g.length = r.length
  · refine ⟨b, by rw [eqKv, if_pos hl, h1], ?_⟩
    rw [h2]
    constructor
    · intro a
      have sub : ∀ q ∈ g, q ∈ r := fun q hq => (valD_some or_.nd).mp (a q hq)
      have ndg : g.Nodup := List.Pairwise.imp (fun {a b} (h : a.1 ≠ b.1) e => h (by rw [e])) (List.pairwise_map.mp og.nd)
      have sub2 : ∀ k ∈ r.map (·.1), k ∈ g.map (·.1) := fun k hk => by
        refine Classical.byContradiction fun n => ?_
        have nd : (k :: g.map (·.1)).Nodup := List.nodup_cons.mpr ⟨n, og.nd⟩
        have := nodup_sub (u := r.map (·.1)) nd fun x hx => by
          rcases List.mem_cons.mp hx with rfl | hx
          · exact hk
          · obtain ⟨q, hq, rfl⟩ := List.mem_map.mp hx
            exact List.mem_map.mpr ⟨q, sub q hq, rfl⟩
        simp at this
        omega
      intro i
      cases q : gt g i with
      | some d => exact ((valD_some or_.nd).mpr (sub _ ((valD_some og.nd).mp q))).symm
      | none =>
        cases q2 : gt r i with
        | none => rfl
        | some d =>
          have := sub2 (.inl i) (List.mem_map.mpr ⟨_, (valD_some or_.nd).mp q2, rfl⟩)
          exact absurd this (valD_none.mp q)
    · intro a q hq
      obtain ⟨⟨i, e⟩, _⟩ := mem q hq
      obtain ⟨k, v⟩ := q
      have e' : k = .inl i := e
      subst e'
      exact (a i).symm.trans ((valD_some og.nd).mpr hq)
  · refine ⟨false, by rw [eqKv, if_neg hl], ?_⟩
    simp only [Bool.false_eq_true, false_iff]
    exact fun a => hl (og.perm or_ a).length_eq
/-! the place -/
def prD (x : KL × KL) : D := .lst [.dct x.1, .dct x.2]
structure Wd (U : List Int) (w : Nat) (st : Store) (n t sp ss p : Nat) (cs : List D) (S : List KL) (T : KL) (ps : List (KL × KL)) : Prop where
  tp : Tp st n
  tab : Tab st t sp ss cs S T
  past : st[p]? = some (.lst (ps.map prD))
  pst : Pst U w S T ps
  d1 : n ≠ t
  d2 : n ≠ sp
  d3 : n ≠ ss
  d4 : p ≠ n
  d5 : p ≠ t
  d6 : p ≠ sp
  d7 : p ≠ ss
  cl : cs.length = w
  w0 : 0 < w
  cw : w ≤ 10
  sl : S.length ≤ 60
  pos : 0 < S.length
theorem Tp.of {a b : Store} {n : Nat} (h : Tp a n) (e : b[n]? = a[n]?) : Tp b n := by
  obtain ⟨x, y, k1, k2, k3, k4⟩ := h.at_
  exact ⟨x, y, by rw [e]; exact k1, k2, k3, k4⟩
theorem at_some {α : Type} {l : List α} {n : Nat} {x : α} (h : l[n]? = some x) : n < l.length := (List.getElem?_eq_some_iff.mp h).1
theorem app_at {α : Type} {l : List α} {n : Nat} {x : α} (h : l[n]? = some x) (m : List α) : (l ++ m)[n]? = some x := by
  rw [List.getElem?_append_left (at_some h)]; exact h
theorem Tab.fr {a b : Store} {t sp ss n : Nat} {cs : List D} {S : List KL} {T : KL} (h : Tab a t sp ss cs S T) (f : Fr n a b) (h1 : n ≠ t) (h2 : n ≠ sp) (h3 : n ≠ ss) : Tab b t sp ss cs S T :=
  ⟨by rw [f.at_ _ (Ne.symm h1) (at_some h.tab)]; exact h.tab, by rw [f.at_ _ (Ne.symm h2) (at_some h.stp)]; exact h.stp, by rw [f.at_ _ (Ne.symm h3) (at_some h.sta)]; exact h.sta, h.n1, h.n2, h.n3⟩
/-- one of the store's list -/
theorem one_okR {st : Store} {n m : Nat} {xs : List D} (t : Tp st n) (hm : st[m]? = some (.lst xs)) (ne : m ≠ n) (h0 : 0 < xs.length) (h1 : xs.length < 1000000) : ∃ d st', mOne [.ref n, .ref m] st = some (d, st') ∧ d ∈ xs ∧ Tp st' n ∧ Fr n st st' ∧ st'.length = st.length := by
  obtain ⟨r, st', h, hr0, hr1, t', f, l⟩ := pick_ok t (s := (xs.length : Int)) (by omega) (by omega)
  obtain ⟨d, hd, hmem⟩ := atI_lt hr0 hr1
  have hm' : st'[m]? = some (.lst xs) := by rw [f.at_ _ ne (at_some hm)]; exact hm
  refine ⟨d, st', ?_, hmem, t', f, l⟩
  simp [mOne, gOne, mOf, outM, startD, sRet, fSub, fVar, fCall, aCons, aNil, fMk, bLen, lenL, hm, h, ixD, hm', hd]
/-- what an edit's way leaves -/
structure Edt (U : List Int) (w : Nat) (st' : Store) (n t sp ss p L : Nat) (cs : List D) (S : List KL) (T r c : KL) (ps : List (KL × KL)) (told : D) (G : Nat) (g rows : KL) : Prop where
  hr : okK U rows
  hv : ∀ q ∈ rows, q.2 = .non ∨ Rv w q.2
  og : okK U g
  gg : ∀ i, gt g i = goalOf r rows i
  told_ : told = .int (((nxS S (nxC S T rows)).length : Int) - 1)
  tab : Tab st' t sp ss cs (nxS S (nxC S T rows)) (takeK T (nxC S T rows))
  tp : Tp st' n
  past : st'[p]? = some (.lst (ps.map prD))
  rL : st'[L]? = some (.dct r)
  cL : st'[L + 1]? = some (.dct c)
  gL : st'[G]? = some (.dct g)
  Gn : L + 2 ≤ G
/-- the store in front of the ways -/
structure Pre (U : List Int) (w : Nat) (s : Store) (n t sp ss p L : Nat) (cs : List D) (S : List KL) (T r c : KL) (ps : List (KL × KL)) : Prop where
  wd : Wd U w s n t sp ss p cs S T ps
  last : ps[ps.length - 1]? = some (r, c)
  l1 : n < L
  l2 : t < L
  l3 : sp < L
  l4 : ss < L
  l5 : p < L
  rL : s[L]? = some (.dct r)
  cL : s[L + 1]? = some (.dct c)
  gL : s[L + 2]? = some (.dct r)
theorem Pre.vs {U : List Int} {w : Nat} {s : Store} {n t sp ss p L : Nat} {cs : List D} {S : List KL} {T r c : KL} {ps : List (KL × KL)} (h : Pre U w s n t sp ss p L cs S T r c ps) : Vsn U w (ap (S.take (ps.length - 1 + 1))) r c := h.wd.pst.at_ _ r c h.last
theorem Pre.tabOk {U : List Int} {w : Nat} {s : Store} {n t sp ss p L : Nat} {cs : List D} {S : List KL} {T r c : KL} {ps : List (KL × KL)} (h : Pre U w s n t sp ss p L cs S T r c ps) {s' : Store} (tab : Tab s' t sp ss cs S T) : TabOk U s' t sp ss cs S T :=
  ⟨tab, h.wd.pst.oT, h.vs.okT h.wd.cw (h.wd.pst.last r c h.last), by have := h.wd.sl; omega, h.wd.pos, by rw [h.wd.cl]; exact h.wd.cw⟩
/-- a call of the table behind a change of the tape -/
theorem Kp.at {t sp ss : Nat} {a b : Store} (k : Kp t sp ss a b) {m : Nat} {o : Ob} (h : a[m]? = some o) (h1 : m ≠ t) (h2 : m ≠ sp) (h3 : m ≠ ss) : b[m]? = some o := by
  rw [k.at_ m (at_some h) h1 h2 h3]; exact h
end LW
namespace LW
open PySem PySem.Spec PyProof.Rows L2 DL TL
noncomputable abbrev eA : FS := (sPar (par2 4 5) (aCons (fOp opAdd (fC (.int 1)) (fCall m__law_pick (aCons (fVar 0) (aCons (fC (.int 7)) aNil)))) (aCons (fCall m__law_pick (aCons (fVar 0) (aCons (fC (.int 12)) aNil))) aNil)))
noncomputable abbrev eB : FS := (sPar (par2 6 7) (aCons (fDictC (fSub (fSub (fVar 2) (fUn negI (fC (.int 1)))) (fC (.int 0)))) (aCons (fDictC (fSub (fSub (fVar 2) (fUn negI (fC (.int 1)))) (fC (.int 1)))) aNil)))
noncomputable abbrev eC : FS := (sAsg (fDictC (fVar 6)) (gN 8))
noncomputable abbrev eRev : FS := (sSeq (sAsg (fCall m__law_one_of (aCons (fVar 0) (aCons (fMeth0 "Table" "known_versions" m_Table_known_versions (fVar 1)) aNil))) (gN 9)) (sSeq (sAsg (fMeth "Table" "revert_to" m_Table_revert_to (fVar 1) (aCons (fVar 9) aNil)) (gN 10)) (sAsg (fDictC (fSub (fSub (fVar 2) (fVar 9)) (fC (.int 0)))) (gN 8))))
noncomputable abbrev eBat : FS := (sSeq (sAsg (fNewL (aCons (fMk mkTup (aCons (fC (.str (Str.ofString "put"))) (aCons (fVar 4) (aCons (fCall m__law_values (aCons (fVar 0) (aCons (fVar 3) aNil))) aNil)))) (aCons (fMk mkTup (aCons (fC (.str (Str.ofString "drop"))) (aCons (fOp opAdd (fC (.int 1)) (fCall m__law_pick (aCons (fVar 0) (aCons (fC (.int 7)) aNil)))) aNil))) aNil))) (gN 11)) (sSeq (sDrop (fIns (fVar 11) (fCall m__law_pick (aCons (fVar 0) (aCons (fC (.int 3)) aNil))) (fMk mkTup (aCons (fC (.str (Str.ofString "put"))) (aCons (fOp opAdd (fC (.int 1)) (fCall m__law_pick (aCons (fVar 0) (aCons (fC (.int 7)) aNil)))) (aCons (fCall m__law_values (aCons (fVar 0) (aCons (fVar 3) aNil))) aNil)))))) (sSeq (sSeq (sFrzL 11) (sAsg (fMeth "Table" "change_rows" m_Table_change_rows (fVar 1) (aCons (fVar 11) aNil)) (gN 10))) (sFor (iOf asL (fVar 11)) (gN 12) (sSeq (sDrop (fPop2 (fVar 8) (fSub (fVar 12) (fC (.int 1))) (fC .non))) (sIf (fTest (fOp opEq (fSub (fVar 12) (fC (.int 0))) (fC (.str (Str.ofString "put"))))) (sPut (fVar 8) (fSub (fVar 12) (fC (.int 1))) (fSub (fVar 12) (fC (.int 2)))) sNil))))))
noncomputable abbrev eDrp : FS := (sSeq (sAsg (fMeth "Table" "drop_row" m_Table_drop_row (fVar 1) (aCons (fVar 4) aNil)) (gN 10)) (sDrop (fPop2 (fVar 8) (fVar 4) (fC .non))))
noncomputable abbrev ePut : FS := (sSeq (sAsg (fCall m__law_values (aCons (fVar 0) (aCons (fVar 3) aNil))) (gN 13)) (sSeq (sIf (fAndT (fTest (fInD false (fVar 4) (fVar 6))) (fTest (fOp opGt (fCall m__law_pick (aCons (fVar 0) (aCons (fC (.int 3)) aNil))) (fC (.int 0))))) (sSeq (sAsg (fCall m__law_pick (aCons (fVar 0) (aCons (fVar 3) aNil))) (gN 14)) (sAsg (fOp opAdd (fOp opAdd (fSlice (fSub (fVar 6) (fVar 4)) oNone (oSome (fVar 14))) (fMk mkTup (aCons (fCall m__law_value (aCons (fVar 0) aNil)) aNil))) (fSlice (fSub (fVar 6) (fVar 4)) (oSome (fOp opAdd (fVar 14) (fC (.int 1)))) oNone)) (gN 13))) sNil) (sSeq (sAsg (fMeth "Table" "put_row" m_Table_put_row (fVar 1) (aCons (fVar 4) (aCons (fVar 13) aNil))) (gN 10)) (sPut (fVar 8) (fVar 4) (fVar 13)))))
noncomputable abbrev eOth : FS := (sIf (fTest (fOp opNe (fGet1 (fVar 6) (fVar 15)) (fGet1 (fVar 8) (fVar 15)))) (sSeq (sDrop (fPop2 (fVar 7) (fVar 15) (fC .non))) (sIf (fTest (fInD false (fVar 15) (fVar 8))) (sPut (fVar 7) (fVar 15) (fMk bLen (aCons (fVar 2) aNil))) sNil)) sNil)
noncomputable abbrev eFor : FS := (sFor (iOf asL (fSortSetL (fOp opAdd (fMk bListK (aCons (fVar 6) aNil)) (fMk bListK (aCons (fVar 8) aNil))))) (gN 15) (sIf (fTest (fOp opNe (fGet1 (fVar 6) (fVar 15)) (fGet1 (fVar 8) (fVar 15)))) (sSeq (sDrop (fPop2 (fVar 7) (fVar 15) (fC .non))) (sIf (fTest (fInD false (fVar 15) (fVar 8))) (sPut (fVar 7) (fVar 15) (fMk bLen (aCons (fVar 2) aNil))) sNil)) sNil))
noncomputable abbrev eFin : FS := (sIf (fTest (fEqDt true (fVar 8) (fVar 6))) (sSeq (sFrzV 8) (sSeq (sFrzV 7) (sDrop (fApp (fVar 2) (fMk mkLst (aCons (fVar 8) (aCons (fVar 7) aNil))))))) sNil)
theorem edit_eq : g__law_edit = sSeq eA (sSeq eB (sSeq eC (sSeq (sIf (fTest (fOp opEq (fVar 5) (fC (.int 0)))) eRev (sIf (fTest (fOp opEq (fVar 5) (fC (.int 1)))) eBat (sIf (fTest (fOp opLt (fVar 5) (fC (.int 5)))) eDrp ePut))) (sSeq eFor (sSeq eFin (sRet (fVar 10))))))) := rfl
noncomputable abbrev eB1 : FS := (sAsg (fNewL (aCons (fMk mkTup (aCons (fC (.str (Str.ofString "put"))) (aCons (fVar 4) (aCons (fCall m__law_values (aCons (fVar 0) (aCons (fVar 3) aNil))) aNil)))) (aCons (fMk mkTup (aCons (fC (.str (Str.ofString "drop"))) (aCons (fOp opAdd (fC (.int 1)) (fCall m__law_pick (aCons (fVar 0) (aCons (fC (.int 7)) aNil)))) aNil))) aNil))) (gN 11))
noncomputable abbrev eB2 : FS := (sDrop (fIns (fVar 11) (fCall m__law_pick (aCons (fVar 0) (aCons (fC (.int 3)) aNil))) (fMk mkTup (aCons (fC (.str (Str.ofString "put"))) (aCons (fOp opAdd (fC (.int 1)) (fCall m__law_pick (aCons (fVar 0) (aCons (fC (.int 7)) aNil)))) (aCons (fCall m__law_values (aCons (fVar 0) (aCons (fVar 3) aNil))) aNil))))))
noncomputable abbrev eB3 : FS := (sSeq (sFrzL 11) (sAsg (fMeth "Table" "change_rows" m_Table_change_rows (fVar 1) (aCons (fVar 11) aNil)) (gN 10)))
noncomputable abbrev eGl : FS := (sSeq (sDrop (fPop2 (fVar 8) (fSub (fVar 12) (fC (.int 1))) (fC .non))) (sIf (fTest (fOp opEq (fSub (fVar 12) (fC (.int 0))) (fC (.str (Str.ofString "put"))))) (sPut (fVar 8) (fSub (fVar 12) (fC (.int 1))) (fSub (fVar 12) (fC (.int 2)))) sNil))
noncomputable abbrev eP1 : FS := (sAsg (fCall m__law_values (aCons (fVar 0) (aCons (fVar 3) aNil))) (gN 13))
noncomputable abbrev eP2 : FS := (sIf (fAndT (fTest (fInD false (fVar 4) (fVar 6))) (fTest (fOp opGt (fCall m__law_pick (aCons (fVar 0) (aCons (fC (.int 3)) aNil))) (fC (.int 0))))) (sSeq (sAsg (fCall m__law_pick (aCons (fVar 0) (aCons (fVar 3) aNil))) (gN 14)) (sAsg (fOp opAdd (fOp opAdd (fSlice (fSub (fVar 6) (fVar 4)) oNone (oSome (fVar 14))) (fMk mkTup (aCons (fCall m__law_value (aCons (fVar 0) aNil)) aNil))) (fSlice (fSub (fVar 6) (fVar 4)) (oSome (fOp opAdd (fVar 14) (fC (.int 1)))) oNone)) (gN 13))) sNil)
noncomputable abbrev eP3 : FS := (sAsg (fMeth "Table" "put_row" m_Table_put_row (fVar 1) (aCons (fVar 4) (aCons (fVar 13) aNil))) (gN 10))
noncomputable abbrev eP4 : FS := (sPut (fVar 8) (fVar 4) (fVar 13))

abbrev ev (n t p : Nat) (wi : Int) (L G : Nat) (x4 x5 x9 x10 x11 x12 x13 x14 x15 : Option D) : Lo := [some (.ref n), some (.ref t), some (.ref p), some (.int wi), x4, x5, some (.ref L), some (.ref (L + 1)), some (.ref G), x9, x10, x11, x12, x13, x14, x15]
def U7 : List Int := [1, 2, 3, 4, 5, 6, 7]
theorem U7_mem {i : Int} (h : 1 ≤ i ∧ i ≤ 7) : i ∈ U7 := by
  have : i = 1 ∨ i = 2 ∨ i = 3 ∨ i = 4 ∨ i = 5 ∨ i = 6 ∨ i = 7 := by omega
  simp [U7, this]
theorem U7_len : U7.length ≤ 60 := by decide
variable {w : Nat} {wi : Int} {s : Store} {n t sp ss p L : Nat} {cs : List D} {S : List KL} {T r c : KL} {ps : List (KL × KL)} {x5 x9 x10 x11 x12 x13 x14 x15 : Option D}
theorem Pre.fr (h : Pre U7 w s n t sp ss p L cs S T r c ps) {s' : Store} (tp : Tp s' n) (f : Fr n s s') : Pre U7 w s' n t sp ss p L cs S T r c ps := by
  have g : ∀ {m : Nat} {o : Ob}, s[m]? = some o → m ≠ n → s'[m]? = some o := fun {m o} e ne => by rw [f.at_ _ ne (at_some e)]; exact e
  have wd := h.wd
  have a1 := h.l1
  exact ⟨⟨tp, wd.tab.fr f wd.d1 wd.d2 wd.d3, g wd.past wd.d4, wd.pst, wd.d1, wd.d2, wd.d3, wd.d4, wd.d5, wd.d6, wd.d7, wd.cl, wd.w0, wd.cw, wd.sl, wd.pos⟩, h.last, h.l1, h.l2, h.l3, h.l4, h.l5, g h.rL (by omega), g h.cL (by omega), g h.gL (by omega)⟩
theorem Pre.app (h : Pre U7 w s n t sp ss p L cs S T r c ps) (l : Store) : Pre U7 w (s ++ l) n t sp ss p L cs S T r c ps := by
  have wd := h.wd
  exact ⟨⟨Tp.of wd.tp (by rw [List.getElem?_append_left wd.tp.lt]), wd.tab.app l, app_at wd.past l, wd.pst, wd.d1, wd.d2, wd.d3, wd.d4, wd.d5, wd.d6, wd.d7, wd.cl, wd.w0, wd.cw, wd.sl, wd.pos⟩, h.last, h.l1, h.l2, h.l3, h.l4, h.l5, app_at h.rL l, app_at h.cL l, app_at h.gL l⟩
theorem Pre.rv (h : Pre U7 w s n t sp ss p L cs S T r c ps) : ∀ i d, gt r i = some d → Rv w d := h.vs.rv
/-- the table has answered, the goal is written -/
theorem Pre.edt (h : Pre U7 w s n t sp ss p L cs S T r c ps) {rows g : KL} {s1 : Store} {told : D} (hr : okK U7 rows) (hv : ∀ q ∈ rows, q.2 = .non ∨ Rv w q.2) (tab : Tab s1 t sp ss cs (nxS S (nxC S T rows)) (takeK T (nxC S T rows))) (k : Kp t sp ss s s1)
    (ht : told = .int (((nxS S (nxC S T rows)).length : Int) - 1)) (og : okK U7 g) (gg : ∀ i, gt g i = goalOf r rows i) : Edt U7 w (s1.set (L + 2) (.dct g)) n t sp ss p L cs S T r c ps told (L + 2) g rows := by
  have wd := h.wd
  have a1 := h.l1
  have a2 := h.l2
  have a3 := h.l3
  have a4 := h.l4
  have a5 := h.l5
  have hG : L + 2 < s1.length := Nat.lt_of_lt_of_le (at_some h.gL) k.le
  have q : ∀ {m : Nat} {o : Ob}, s[m]? = some o → m ≠ t → m ≠ sp → m ≠ ss → m ≠ L + 2 → (s1.set (L + 2) (.dct g))[m]? = some o := fun {m o} e h1 h2 h3 h4 => by
    rw [List.getElem?_set_ne (Ne.symm h4)]; exact k.at e h1 h2 h3
  refine ⟨hr, hv, og, gg, ht, tab.set _ (by omega) (by omega) (by omega), ?_, q wd.past wd.d5 wd.d6 wd.d7 (by omega), q h.rL (by omega) (by omega) (by omega) (by omega), q h.cL (by omega) (by omega) (by omega) (by omega), by rw [List.getElem?_set_self hG], Nat.le_refl _⟩
  exact Tp.of (Tp.of wd.tp (b := s1) (k.at_ n wd.tp.lt wd.d1 wd.d2 wd.d3)) (by rw [List.getElem?_set_ne (by omega)])
theorem one_rows {i : Int} (hi : i ∈ U7) (v : D) : okK U7 [((.inl i : Key), v)] := ⟨fun q hq => ⟨i, hi, by rw [List.mem_singleton.mp hq]⟩, by simp⟩
theorem drp_way (h : Pre U7 w s n t sp ss p L cs S T r c ps) {i : Int} (h1 : 1 ≤ i ∧ i ≤ 7) :
    ∃ s' told g rows, eDrp (ev n t p wi L (L + 2) (some (.int i)) x5 x9 x10 x11 x12 x13 x14 x15) s = some (.nx, ev n t p wi L (L + 2) (some (.int i)) x5 x9 (some told) x11 x12 x13 x14 x15, s') ∧ Edt U7 w s' n t sp ss p L cs S T r c ps told (L + 2) g rows := by
  have a2 := h.l2
  have a3 := h.l3
  have a4 := h.l4
  obtain ⟨s1, g1, g2, g3⟩ := drop_ok U7_len (h.tabOk h.wd.tab) (U7_mem h1) (by omega)
  have hm : noF "drop_row" (insAt "Table" t s) = true := noF_T h.wd.tab fun _ => rfl
  have gl : s1[L + 2]? = some (.dct r) := g3.at h.gL (by omega) (by omega) (by omega)
  have e := h.edt (g := dropD r (.inl i)) (one_rows (U7_mem h1) .non) (fun q hq => .inl (by rw [List.mem_singleton.mp hq])) g2 g3 rfl (h.vs.or_.drop _) (fun j => by
    unfold goalOf gt
    rw [valD_drop, valD_cons, valD_nil]
    by_cases q : (Sum.inl i : Key) = .inl j
    · simp [q, DL.isNon]
    · simp [q])
  refine ⟨_, _, _, _, ?_, e⟩
  cases hg : valD r (.inl i) with
  | none =>
    rw [dropD_none hg, set_same gl]
    simp [eDrp, ev, sSeq, sAsg, gN, fMeth, fVar, hm, aCons, aNil, g1, sDrop, fPop2, dctAt, gl, asKey, fC, hg]
  | some d => simp [eDrp, ev, sSeq, sAsg, gN, fMeth, fVar, hm, aCons, aNil, g1, sDrop, fPop2, dctAt, gl, asKey, fC, hg]
theorem cutTo {xs : List D} {i : Int} (h0 : 0 ≤ i) (h1 : i ≤ xs.length) : DL.cutD xs none (some i) = xs.take i.toNat := by
  unfold DL.cutD
  rw [show i = ((i.toNat : Nat) : Int) from (Int.toNat_of_nonneg h0).symm, HT.sIx_nat, HT.sIx_none, Int.toNat_natCast]
  simp
theorem cutFrom {xs : List D} {i : Int} (h0 : 0 ≤ i) (h1 : i ≤ xs.length) : DL.cutD xs (some i) none = xs.drop i.toNat := by
  unfold DL.cutD
  rw [show i = ((i.toNat : Nat) : Int) from (Int.toNat_of_nonneg h0).symm, HT.sIx_nat, HT.sIx_none, Int.toNat_natCast]
  rw [Nat.min_eq_left (by omega), List.take_of_length_le (by rw [List.length_drop]; exact Nat.le_refl _)]
/-- the values that are put -/
theorem put_vals (h : Pre U7 w s n t sp ss p L cs S T r c ps) (hwi : wi = (w : Int)) {i : Int} :
    ∃ s' vs y14, sSeq eP1 eP2 (ev n t p wi L (L + 2) (some (.int i)) x5 x9 x10 x11 x12 x13 x14 x15) s = some (.nx, ev n t p wi L (L + 2) (some (.int i)) x5 x9 x10 x11 x12 (some (.tup vs)) y14 x15, s') ∧ vs.length = w ∧ (∀ v ∈ vs, valB v = true) ∧ Pre U7 w s' n t sp ss p L cs S T r c ps := by
  have w0 := h.wd.w0
  have cw := h.wd.cw
  obtain ⟨vs, s1, g1, l1, v1, t1, f1, _⟩ := values_ok h.wd.tp (w := wi) (by omega) (by omega)
  have h1 := h.fr t1 f1
  have q1 : eP1 (ev n t p wi L (L + 2) (some (.int i)) x5 x9 x10 x11 x12 x13 x14 x15) s = some (.nx, ev n t p wi L (L + 2) (some (.int i)) x5 x9 x10 x11 x12 (some (.tup vs)) x14 x15, s1) := by
    have b : fCall m__law_values (aCons (fVar 0) (aCons (fVar 3) aNil)) (ev n t p wi L (L + 2) (some (.int i)) x5 x9 x10 x11 x12 x13 x14 x15) s = some (.tup vs, s1) := by
      rw [← g1]
      simp [fCall, aCons, aNil, fVar, ev]
    unfold eP1
    rw [sAsg, b]
    rfl
  have rl := h1.rL
  cases hg : valD r (.inl i) with
  | none =>
    refine ⟨s1, vs, x14, ?_, by omega, v1, h1⟩
    have b6 : fAndT (fTest (fInD false (fVar 4) (fVar 6))) (fTest (fOp opGt (fCall m__law_pick (aCons (fVar 0) (aCons (fC (.int 3)) aNil))) (fC (.int 0)))) (ev n t p wi L (L + 2) (some (.int i)) x5 x9 x10 x11 x12 (some (.tup vs)) x14 x15) s1 = some (false, s1) := by
      simp [fAndT, fTest, fInD, fVar, ev, asKey, dctAt, rl, hg, asB]
    simp only [sSeq, q1, Option.bind_some]
    unfold eP2
    rw [sIf, b6]
    rfl
  | some d =>
    obtain ⟨us, rfl, lu, vu⟩ := h.rv i d hg
    obtain ⟨q, s2, g2, q0, q3, t2, f2, _⟩ := pick_ok t1 (s := 3) (by decide) (by decide)
    have h2 := h1.fr t2 f2
    by_cases c0 : 0 < q
    · obtain ⟨col, s3, g3, c1, c2, t3, f3, _⟩ := pick_ok t2 (s := wi) (by omega) (by omega)
      obtain ⟨x, s4, g4, vx, t4, f4, _⟩ := value_ok t3
      have h3 := h2.fr t3 f3
      have h4 := h3.fr t4 f4
      have r3 := h3.rL
      have r4 := h4.rL
      have ca := cutTo (xs := us) (i := col) c1 (by omega)
      have cb := cutFrom (xs := us) (i := col + 1) (by omega) (by omega)
      have ea : (col + 1).toNat = col.toNat + 1 := by omega
      rw [ea] at cb
      have la : (us.take col.toNat).length = col.toNat := by rw [List.length_take]; omega
      have lb : (us.drop (col.toNat + 1)).length = w - (col.toNat + 1) := by rw [List.length_drop]; omega
      have ad1 := addT_ok (xs := us.take col.toNat) (ys := [x]) (by simp [la]; omega)
      have ad2 := addT_ok (xs := us.take col.toNat ++ [x]) (ys := us.drop (col.toNat + 1)) (by simp [la, lb]; omega)
      refine ⟨s4, us.take col.toNat ++ [x] ++ us.drop (col.toNat + 1), some (.int col), ?_, ?_, ?_, h4⟩
      · have z1 : 1 ≤ sizeLine := by decide
        have b0 : fSub (fVar 6) (fVar 4) (ev n t p wi L (L + 2) (some (.int i)) x5 x9 x10 x11 x12 (some (.tup vs)) (some (.int col)) x15) s3 = some (.tup us, s3) := by
          simp [fSub, fVar, ev, ixD, r3, asKey, hg]
        have b4 : fSub (fVar 6) (fVar 4) (ev n t p wi L (L + 2) (some (.int i)) x5 x9 x10 x11 x12 (some (.tup vs)) (some (.int col)) x15) s4 = some (.tup us, s4) := by
          simp [fSub, fVar, ev, ixD, r4, asKey, hg]
        have b1 : fSlice (fSub (fVar 6) (fVar 4)) oNone (oSome (fVar 14)) (ev n t p wi L (L + 2) (some (.int i)) x5 x9 x10 x11 x12 (some (.tup vs)) (some (.int col)) x15) s3 = some (.tup (us.take col.toNat), s3) := by
          simp only [fSlice, b0]
          simp [oNone, oSome, fVar, ev, slD, ca]
        have b2 : fMk mkTup (aCons (fCall m__law_value (aCons (fVar 0) aNil)) aNil) (ev n t p wi L (L + 2) (some (.int i)) x5 x9 x10 x11 x12 (some (.tup vs)) (some (.int col)) x15) s3 = some (.tup [x], s4) := by
          simp [fMk, aCons, aNil, fCall, fVar, ev, g4, mkTup, z1]
        have b3 : fSlice (fSub (fVar 6) (fVar 4)) (oSome (fOp opAdd (fVar 14) (fC (.int 1)))) oNone (ev n t p wi L (L + 2) (some (.int i)) x5 x9 x10 x11 x12 (some (.tup vs)) (some (.int col)) x15) s4 = some (.tup (us.drop (col.toNat + 1)), s4) := by
          simp only [fSlice, b4]
          simp [oNone, oSome, fVar, ev, slD, fOp, fC, opAdd_int, cb]
        have b5 : fOp opAdd (fOp opAdd (fSlice (fSub (fVar 6) (fVar 4)) oNone (oSome (fVar 14))) (fMk mkTup (aCons (fCall m__law_value (aCons (fVar 0) aNil)) aNil))) (fSlice (fSub (fVar 6) (fVar 4)) (oSome (fOp opAdd (fVar 14) (fC (.int 1)))) oNone) (ev n t p wi L (L + 2) (some (.int i)) x5 x9 x10 x11 x12 (some (.tup vs)) (some (.int col)) x15) s3 = some (.tup (us.take col.toNat ++ [x] ++ us.drop (col.toNat + 1)), s4) := by
          rw [fOp, fOp, b1]
          simp only [Option.bind_some]
          rw [b2]
          simp only [Option.bind_some, ad1, Option.map_some]
          rw [b3]
          simp only [Option.bind_some, ad2, Option.map_some]
        have b6 : fAndT (fTest (fInD false (fVar 4) (fVar 6))) (fTest (fOp opGt (fCall m__law_pick (aCons (fVar 0) (aCons (fC (.int 3)) aNil))) (fC (.int 0)))) (ev n t p wi L (L + 2) (some (.int i)) x5 x9 x10 x11 x12 (some (.tup vs)) x14 x15) s1 = some (true, s2) := by
          simp [fAndT, fTest, fInD, fVar, ev, asKey, dctAt, rl, hg, asB, fOp, fCall, aCons, aNil, fC, e_pick, g2, opGt_int, c0]
        have b7 : sAsg (fCall m__law_pick (aCons (fVar 0) (aCons (fVar 3) aNil))) (gN 14) (ev n t p wi L (L + 2) (some (.int i)) x5 x9 x10 x11 x12 (some (.tup vs)) x14 x15) s2 = some (.nx, ev n t p wi L (L + 2) (some (.int i)) x5 x9 x10 x11 x12 (some (.tup vs)) (some (.int col)) x15, s3) := by
          simp [sAsg, gN, fCall, aCons, aNil, fVar, ev, e_pick, g3]
        simp only [sSeq, q1, Option.bind_some]
        unfold eP2
        rw [sIf, b6]
        simp only [Option.bind_some, if_true]
        rw [sSeq, b7]
        simp only [Option.bind_some]
        rw [sAsg, b5]
        simp [gN, ev]
      · simp [la, lb]; omega
      · intro v hv
        rcases List.mem_append.mp hv with m | m
        · rcases List.mem_append.mp m with m | m
          · exact vu v (List.mem_of_mem_take m)
          · rw [List.mem_singleton.mp m]; exact vx
        · exact vu v (List.mem_of_mem_drop m)
    · refine ⟨s2, vs, x14, ?_, by omega, v1, h2⟩
      have b6 : fAndT (fTest (fInD false (fVar 4) (fVar 6))) (fTest (fOp opGt (fCall m__law_pick (aCons (fVar 0) (aCons (fC (.int 3)) aNil))) (fC (.int 0)))) (ev n t p wi L (L + 2) (some (.int i)) x5 x9 x10 x11 x12 (some (.tup vs)) x14 x15) s1 = some (false, s2) := by
        simp [fAndT, fTest, fInD, fVar, ev, asKey, dctAt, rl, hg, asB, fOp, fCall, aCons, aNil, fC, e_pick, g2, opGt_int, c0]
      simp only [sSeq, q1, Option.bind_some]
      unfold eP2
      rw [sIf, b6]
      rfl
theorem put_way (h : Pre U7 w s n t sp ss p L cs S T r c ps) (hwi : wi = (w : Int)) {i : Int} (h1 : 1 ≤ i ∧ i ≤ 7) :
    ∃ s' told g rows y13 y14, ePut (ev n t p wi L (L + 2) (some (.int i)) x5 x9 x10 x11 x12 x13 x14 x15) s = some (.nx, ev n t p wi L (L + 2) (some (.int i)) x5 x9 (some told) x11 x12 y13 y14 x15, s') ∧ Edt U7 w s' n t sp ss p L cs S T r c ps told (L + 2) g rows := by
  obtain ⟨s1, vs, y14, e1, lv, vv, h2⟩ := put_vals h hwi (i := i) (x5 := x5) (x9 := x9) (x10 := x10) (x11 := x11) (x12 := x12) (x13 := x13) (x14 := x14) (x15 := x15)
  have a2 := h.l2
  have a3 := h.l3
  have a4 := h.l4
  obtain ⟨s2, g1, g2, g3⟩ := put_ok U7_len (h2.tabOk h2.wd.tab) (U7_mem h1) (by omega) (vs := vs) (by rw [h2.wd.cl]; exact lv) vv
  have hm : noF "put_row" (insAt "Table" t s1) = true := noF_T h2.wd.tab fun _ => rfl
  have gl : s2[L + 2]? = some (.dct r) := g3.at h2.gL (by omega) (by omega) (by omega)
  have e := h2.edt (g := putD r (.inl i) (.tup vs)) (one_rows (U7_mem h1) (.tup vs)) (fun q hq => .inr (by rw [List.mem_singleton.mp hq]; exact ⟨vs, rfl, lv, vv⟩)) g2 g3 rfl (h2.vs.or_.put (U7_mem h1) _) (fun j => by
    unfold goalOf gt
    rw [valD_put, valD_cons, valD_nil]
    by_cases q : (Sum.inl i : Key) = .inl j
    · simp [q, DL.isNon]
    · simp [q])
  refine ⟨_, _, _, _, some (.tup vs), y14, ?_, e⟩
  have hz : r.length < sizeLine := Nat.lt_of_le_of_lt h2.vs.or_.len (by decide)
  have q2 : sSeq eP3 eP4 (ev n t p wi L (L + 2) (some (.int i)) x5 x9 x10 x11 x12 (some (.tup vs)) y14 x15) s1 = some (.nx, ev n t p wi L (L + 2) (some (.int i)) x5 x9 (some (.int (((nxS S (nxC S T [(.inl i, .tup vs)])).length : Int) - 1))) x11 x12 (some (.tup vs)) y14 x15, s2.set (L + 2) (.dct (putD r (.inl i) (.tup vs)))) := by
    simp [eP3, eP4, ev, sSeq, sAsg, gN, fMeth, fVar, hm, aCons, aNil, g1, sPut, gl, asKey, hz]
  have assoc : ∀ (a b c d : FS) (env : Lo) (st : Store) (e1 : Lo) (s1 : Store), sSeq a b env st = some (.nx, e1, s1) → sSeq a (sSeq b (sSeq c d)) env st = sSeq c d e1 s1 := by
    intro a b c d env st e1 s1 h
    have h' : ((a env st).bind fun p => match p with | (.nx, e1, s1) => b e1 s1 | q => some q) = some (.nx, e1, s1) := h
    obtain ⟨⟨o, e2, s2⟩, k1, k2⟩ := Option.bind_eq_some_iff.mp h'
    show ((a env st).bind fun p => match p with | (.nx, e1, s1) => sSeq b (sSeq c d) e1 s1 | q => some q) = _
    rw [k1]
    cases o with
    | nx =>
      have k3 : b e2 s2 = some (.nx, e1, s1) := k2
      show ((b e2 s2).bind fun p => match p with | (.nx, e1, s1) => sSeq c d e1 s1 | q => some q) = _
      rw [k3]; rfl
    | _ => cases k2
  have := assoc eP1 eP2 eP3 eP4 _ _ _ _ e1
  rw [q2] at this
  exact this
end LW
namespace LW
open PySem PySem.Spec PyProof.Rows L2 DL TL
variable {w : Nat} {wi : Int} {s : Store} {n t sp ss p L : Nat} {cs : List D} {S : List KL} {T r c : KL} {ps : List (KL × KL)} {x4 x5 x9 x10 x11 x12 x13 x14 x15 : Option D}
theorem Pre.set (h : Pre U7 w s n t sp ss p L cs S T r c ps) {M : Nat} (hM : L + 3 ≤ M) (o : Ob) : Pre U7 w (s.set M o) n t sp ss p L cs S T r c ps := by
  have wd := h.wd
  have a1 := h.l1
  have a2 := h.l2
  have a3 := h.l3
  have a4 := h.l4
  have a5 := h.l5
  have g : ∀ {m : Nat} {x : Ob}, s[m]? = some x → M ≠ m → (s.set M o)[m]? = some x := fun {m x} e ne => by rw [List.getElem?_set_ne ne]; exact e
  exact ⟨⟨Tp.of wd.tp (by rw [List.getElem?_set_ne (by omega)]), wd.tab.set o (by omega) (by omega) (by omega), g wd.past (by omega), wd.pst, wd.d1, wd.d2, wd.d3, wd.d4, wd.d5, wd.d6, wd.d7, wd.cl, wd.w0, wd.cw, wd.sl, wd.pos⟩, h.last, h.l1, h.l2, h.l3, h.l4, h.l5, g h.rL (by omega), g h.cL (by omega), g h.gL (by omega)⟩
theorem rev_way (h : Pre U7 w s n t sp ss p L cs S T r c ps) :
    ∃ s' told G g rows y9, eRev (ev n t p wi L (L + 2) x4 x5 x9 x10 x11 x12 x13 x14 x15) s = some (.nx, ev n t p wi L G x4 x5 y9 (some told) x11 x12 x13 x14 x15, s') ∧ Edt U7 w s' n t sp ss p L cs S T r c ps told G g rows := by
  have a1 := h.l1
  have a2 := h.l2
  have a3 := h.l3
  have a4 := h.l4
  have a5 := h.l5
  have wd := h.wd
  have hL := at_some h.gL
  have sl := wd.sl
  have kn := known_ok wd.tab (by omega)
  have hm1 : noF "known_versions" (insAt "Table" t s) = true := noF_T wd.tab fun _ => rfl
  have h1 := h.app [.lst (rg 0 S.length)]
  have rl : (rg 0 (S.length : Int)).length = S.length := by rw [rg_len]; omega
  obtain ⟨d, s2, g2, m2, t2, f2, _⟩ := one_okR (m := s.length) (xs := rg 0 S.length) h1.wd.tp (by simp) (by omega) (by have := wd.pos; omega) (by omega)
  obtain ⟨vi, rfl, v0, v1⟩ := rg_mem m2
  have h2 := h1.fr t2 f2
  obtain ⟨v, hv⟩ : ∃ v : Nat, vi = (v : Int) := ⟨vi.toNat, (Int.toNat_of_nonneg v0).symm⟩
  have vl : v < S.length := by omega
  have pl : ps.length = S.length := wd.pst.len
  obtain ⟨⟨rv, cv⟩, hp⟩ : ∃ x, ps[v]? = some x := ⟨ps[v]'(by omega), List.getElem?_eq_getElem (by omega)⟩
  have vs := wd.pst.at_ v rv cv hp
  have hz : OkT (ap (S.take (v + 1))) := vs.okT wd.cw vs.z
  obtain ⟨s3, rows, g3, tab3, k3, or3, vt3, gr⟩ := revert_ok U7_len (h2.tabOk h2.wd.tab) h2.wd.pst.steps vl hz
  have lst := wd.pst.last r c h.last
  have gc : ∀ i, gt rv i = none → gt (ap (S.take (v + 1))) i = none := fun i e => by rw [vs.z, cmb, e]
  have gs : ∀ i x, gt rv i = some x → ∃ y, gt (ap (S.take (v + 1))) i = some (.tup [y, x]) := fun i x e => by
    have q := vs.cs i
    rw [e] at q
    obtain ⟨y, hy⟩ := Option.isSome_iff_exists.mp q
    exact ⟨y, by rw [vs.z, cmb, e, hy]⟩
  have gT : ∀ i, (gt T i).isSome = (gt r i).isSome := fun i => by
    rw [lst, cmb]
    have q := h.vs.cs i
    cases hr : gt r i with
    | none => rfl
    | some x =>
      rw [hr] at q
      obtain ⟨y, hy⟩ := Option.isSome_iff_exists.mp q
      rw [hy]; rfl
  have gg : ∀ i, gt rv i = goalOf r rows i := fun i => by
    unfold goalOf
    rw [gr i]
    cases e : gt rv i with
    | some x =>
      obtain ⟨y, hy⟩ := gs i x e
      have nn := (vs.rv i x e).nn
      rw [hy]
      simp [sndD, nn]
    | none =>
      rw [gc i e]
      simp only [gT i]
      cases e2 : gt r i with
      | none => simp
      | some x => simp [DL.isNon]
  have hv3 : ∀ q ∈ rows, q.2 = .non ∨ Rv w q.2 := fun q hq => by
    obtain ⟨i, _, e⟩ := or3.mem q hq
    obtain ⟨k, d⟩ := q
    have e' : k = .inl i := e
    subst e'
    have e2 : gt rows i = some d := (valD_some or3.nd).mpr hq
    rw [gr i] at e2
    cases e3 : gt rv i with
    | some x =>
      obtain ⟨y, hy⟩ := gs i x e3
      rw [hy] at e2
      have e4 : some (sndD (.tup [y, x])) = some d := e2
      cases e4
      exact .inr (vs.rv i x e3)
    | none =>
      rw [gc i e3] at e2
      have e4 : (if (gt T i).isSome = true then some D.non else none) = some d := e2
      split at e4
      · cases e4; exact .inl rfl
      · cases e4
  have p3 : s3[p]? = some (.lst (ps.map prD)) := k3.at h2.wd.past wd.d5 wd.d6 wd.d7
  have le3 := k3.le
  have hL2 := at_some h2.gL
  rw [← hv] at g3
  have hm2 : noF "revert_to" (insAt "Table" t s2) = true := noF_T h2.wd.tab fun _ => rfl
  have ia : L2.atI (ps.map prD) vi = some (.lst [.dct rv, .dct cv]) := by
    have := atI_nat (xs := ps.map prD) (j := v) (v := prD (rv, cv)) (by rw [List.getElem?_map, hp]; rfl)
    rw [hv]; exact this
  have i0 : L2.atI [D.dct rv, .dct cv] 0 = some (.dct rv) := ix0'
  refine ⟨s3 ++ [.dct rv], _, s3.length, rv, rows, some (.int vi), ?_, or3, hv3, vs.or_, gg, rfl, tab3.app _, ?_, app_at p3 _, app_at (k3.at h2.rL (by omega) (by omega) (by omega)) _, app_at (k3.at h2.cL (by omega) (by omega) (by omega)) _, by simp, by omega⟩
  · have q1 : fCall m__law_one_of (aCons (fVar 0) (aCons (fMeth0 "Table" "known_versions" m_Table_known_versions (fVar 1)) aNil)) (ev n t p wi L (L + 2) x4 x5 x9 x10 x11 x12 x13 x14 x15) s = some (.int vi, s2) := by
      simp only [fCall, aCons, fMeth0]
      simp [fVar, ev, hm1, kn, aNil, e_one, g2]
    have q2 : fMeth "Table" "revert_to" m_Table_revert_to (fVar 1) (aCons (fVar 9) aNil) (ev n t p wi L (L + 2) x4 x5 (some (.int vi)) x10 x11 x12 x13 x14 x15) s2 = some (.int (((nxS S (nxC S T rows)).length : Int) - 1), s3) := by
      simp [fMeth, fVar, ev, hm2, aCons, aNil, g3]
    generalize htold : D.int (((nxS S (nxC S T rows)).length : Int) - 1) = told at *
    have q3 : fDictC (fSub (fSub (fVar 2) (fVar 9)) (fC (.int 0))) (ev n t p wi L (L + 2) x4 x5 (some (.int vi)) (some told) x11 x12 x13 x14 x15) s3 = some (.ref s3.length, s3 ++ [.dct rv]) := by
      simp [fDictC, fSub, fVar, ev, ixD, p3, ia, fC, i0, dctAt]
    unfold eRev
    rw [sSeq, sAsg, q1]
    simp only [Option.bind_some, gN, Option.map_some]
    rw [show List.set (ev n t p wi L (L + 2) x4 x5 x9 x10 x11 x12 x13 x14 x15) 9 (some (.int vi)) = ev n t p wi L (L + 2) x4 x5 (some (.int vi)) x10 x11 x12 x13 x14 x15 from rfl, sSeq, sAsg, q2]
    simp only [Option.bind_some, gN, Option.map_some]
    rw [show List.set (ev n t p wi L (L + 2) x4 x5 (some (.int vi)) x10 x11 x12 x13 x14 x15) 10 (some told) = ev n t p wi L (L + 2) x4 x5 (some (.int vi)) (some told) x11 x12 x13 x14 x15 from rfl, sAsg, q3]
    rfl
  · exact Tp.of (Tp.of h2.wd.tp (b := s3) (k3.at_ n h2.wd.tp.lt wd.d1 wd.d2 wd.d3)) (by rw [List.getElem?_append_left (Nat.lt_of_lt_of_le h2.wd.tp.lt le3)])
end LW
namespace LW
open PySem PySem.Spec PyProof.Rows L2 DL TL
variable {w : Nat} {wi : Int} {s : Store} {n t sp ss p L : Nat} {cs : List D} {S : List KL} {T r c : KL} {ps : List (KL × KL)} {x4 x5 x9 x10 x11 x12 x13 x14 x15 : Option D}
def gF (acc : KL) (e : Int × D) : KL := if DL.isNon e.2 = true then dropD acc (.inl e.1) else putD (dropD acc (.inl e.1)) (.inl e.1) e.2
theorem gF_okK {acc : KL} {e : Int × D} (h : okK U7 acc) (he : OkE U7 w e) : okK U7 (gF acc e) := by
  unfold gF
  split
  · exact h.drop _
  · exact (h.drop _).put he.mem _
theorem gt_gF (acc : KL) (i : Int) (v : D) (j : Int) : gt (gF acc (i, v)) j = if i = j then (if DL.isNon v = true then none else some v) else gt acc j := by
  unfold gF gt
  have e : ((Sum.inl i : Key) = .inl j) = (i = j) := by simp
  by_cases h : DL.isNon v = true
  · simp only [h, if_true]
    rw [valD_drop]
    by_cases q : i = j <;> simp [q]
  · simp only [h, Bool.false_eq_true, if_false]
    rw [valD_put, valD_drop]
    by_cases q : i = j <;> simp [q]
theorem gF_goal (r : KL) : ∀ {es : List (Int × D)} {acc g : KL}, (∀ j, gt g j = goalOf r acc j) → ∀ j, gt (es.foldl gF g) j = goalOf r (es.foldl (fun a e => putD a (.inl e.1) e.2) acc) j
  | [], _, _, h, j => h j
  | (i, v) :: es, acc, g, h, j => by
    rw [List.foldl_cons, List.foldl_cons]
    refine gF_goal r (es := es) (fun k => ?_) j
    rw [gt_gF]
    unfold goalOf
    have e : gt (putD acc (.inl i) v) k = if i = k then some v else gt acc k := by
      show valD (putD acc (.inl i) v) (.inl k) = _
      rw [valD_put]
      by_cases q : i = k
      · simp [q]
      · simp [q, gt]
    show _ = match gt (putD acc (.inl i) v) k with | none => gt r k | some d => if DL.isNon d = true then none else some d
    rw [e]
    by_cases q : i = k
    · simp [q]
    · simp only [q, if_false]
      exact h k
theorem goal_loop {p0 M G : Nat} {e0 : Lo} : ∀ {es : List (Int × D)} {acc : KL} {s : Store} {x12 : Option D}, (∀ e ∈ es, OkE U7 w e) → okK U7 acc → s[G]? = some (.dct acc) →
    ∃ y, loopS (gN 12) eGl (es.map edD) (ev n t p wi L G x4 x5 x9 x10 x11 x12 x13 x14 x15) s = some (.nx, ev n t p wi L G x4 x5 x9 x10 x11 y x13 x14 x15, s.set G (.dct (es.foldl gF acc)))
  | [], acc, s, x12, _, _, hG => ⟨x12, by simp [loopS, set_same hG]⟩
  | (i, v) :: es, acc, s, x12, he, ha, hG => by
    have oe := he _ List.mem_cons_self
    have hlen := at_some hG
    have o1 : okK U7 (dropD acc (.inl i)) := ha.drop _
    have hz : (dropD acc (.inl i)).length < sizeLine := Nat.lt_of_le_of_lt o1.len (by decide)
    obtain ⟨y, hy⟩ := goal_loop (p0 := p0) (M := M) (e0 := e0) (es := es) (acc := gF acc (i, v)) (s := s.set G (.dct (gF acc (i, v)))) (x12 := some (edD (i, v))) (fun a hm => he a (List.mem_cons_of_mem _ hm)) (gF_okK ha oe) (by rw [List.getElem?_set_self hlen])
    rw [List.set_set] at hy
    refine ⟨y, ?_⟩
    rw [List.foldl_cons, ← hy]
    -- the pop
    have pop : ∀ (ds : List D) , L2.atI ds 1 = some (.int i) → sDrop (fPop2 (fVar 8) (fSub (fVar 12) (fC (.int 1))) (fC .non)) (ev n t p wi L G x4 x5 x9 x10 x11 (some (.tup ds)) x13 x14 x15) s = some (.nx, ev n t p wi L G x4 x5 x9 x10 x11 (some (.tup ds)) x13 x14 x15, s.set G (.dct (dropD acc (.inl i)))) := by
      intro ds h1
      cases hg : valD acc (.inl i) with
      | none =>
        rw [dropD_none hg, set_same hG]
        simp [sDrop, fPop2, fVar, ev, dctAt, hG, fSub, fC, ixD, h1, asKey, hg]
      | some d => simp [sDrop, fPop2, fVar, ev, dctAt, hG, fSub, fC, ixD, h1, asKey, hg]
    have hG2 : (s.set G (.dct (dropD acc (.inl i))))[G]? = some (.dct (dropD acc (.inl i))) := by rw [List.getElem?_set_self hlen]
    rcases oe.val with hn | ⟨vs, hn, _, _⟩
    · have hn' : v = .non := hn
      subst hn'
      have ed : edD (i, .non) = .tup [.str (Str.ofString "drop"), .int i] := rfl
      have i0 : L2.atI [D.str (Str.ofString "drop"), .int i] 0 = some (.str (Str.ofString "drop")) := ix0'
      have i1 : L2.atI [D.str (Str.ofString "drop"), .int i] 1 = some (.int i) := ix1'
      have gf : gF acc (i, .non) = dropD acc (.inl i) := rfl
      rw [List.map_cons, ed, gf]
      have b1 := pop _ i1
      have b2 : eGl (ev n t p wi L G x4 x5 x9 x10 x11 (some (.tup [.str (Str.ofString "drop"), .int i])) x13 x14 x15) s = some (.nx, ev n t p wi L G x4 x5 x9 x10 x11 (some (.tup [.str (Str.ofString "drop"), .int i])) x13 x14 x15, s.set G (.dct (dropD acc (.inl i)))) := by
        unfold eGl
        rw [sSeq, b1]
        simp [sIf, fTest, fOp, fSub, fVar, ev, fC, ixD, i0, s_dp, asB, sNil]
      rw [loopS, show gN 12 (D.tup [.str (Str.ofString "drop"), .int i]) (ev n t p wi L G x4 x5 x9 x10 x11 x12 x13 x14 x15) = some (ev n t p wi L G x4 x5 x9 x10 x11 (some (.tup [.str (Str.ofString "drop"), .int i])) x13 x14 x15) from rfl]
      simp only [Option.bind_some]
      rw [b2]
      rfl
    · have hn' : v = .tup vs := hn
      subst hn'
      have ed : edD (i, .tup vs) = .tup [.str (Str.ofString "put"), .int i, .tup vs] := rfl
      have i0 : L2.atI [D.str (Str.ofString "put"), .int i, .tup vs] 0 = some (.str (Str.ofString "put")) := ix0'
      have i1 : L2.atI [D.str (Str.ofString "put"), .int i, .tup vs] 1 = some (.int i) := ix1'
      have i2 : L2.atI [D.str (Str.ofString "put"), .int i, .tup vs] 2 = some (.tup vs) := atI_nat (j := 2) rfl
      have gf : gF acc (i, .tup vs) = putD (dropD acc (.inl i)) (.inl i) (.tup vs) := rfl
      rw [List.map_cons, ed, gf]
      have b1 := pop _ i1
      have b2 : eGl (ev n t p wi L G x4 x5 x9 x10 x11 (some (.tup [.str (Str.ofString "put"), .int i, .tup vs])) x13 x14 x15) s = some (.nx, ev n t p wi L G x4 x5 x9 x10 x11 (some (.tup [.str (Str.ofString "put"), .int i, .tup vs])) x13 x14 x15, s.set G (.dct (putD (dropD acc (.inl i)) (.inl i) (.tup vs)))) := by
        unfold eGl
        rw [sSeq, b1]
        simp only [Option.bind_some]
        rw [← List.set_set (a := Ob.dct (dropD acc (.inl i))) (b := Ob.dct (putD (dropD acc (.inl i)) (.inl i) (.tup vs)))]
        generalize s.set G (.dct (dropD acc (.inl i))) = s' at hG2
        simp [sIf, fTest, fOp, fSub, fVar, ev, fC, ixD, i0, i1, i2, s_pp, asB, sPut, hG2, asKey, hz]
      rw [loopS, show gN 12 (D.tup [.str (Str.ofString "put"), .int i, .tup vs]) (ev n t p wi L G x4 x5 x9 x10 x11 x12 x13 x14 x15) = some (ev n t p wi L G x4 x5 x9 x10 x11 (some (.tup [.str (Str.ofString "put"), .int i, .tup vs])) x13 x14 x15) from rfl]
      simp only [Option.bind_some]
      rw [b2]
      rfl
end LW
namespace LW
open PySem PySem.Spec PyProof.Rows L2 DL TL
variable {w : Nat} {wi : Int} {s : Store} {n t sp ss p L : Nat} {cs : List D} {S : List KL} {T r c : KL} {ps : List (KL × KL)} {x5 x9 x10 x11 x12 x13 x14 x15 : Option D}
theorem bat_way (h : Pre U7 w s n t sp ss p L cs S T r c ps) (hwi : wi = (w : Int)) {i : Int} (h1 : 1 ≤ i ∧ i ≤ 7) :
    ∃ s' told g rows y11 y12, eBat (ev n t p wi L (L + 2) (some (.int i)) x5 x9 x10 x11 x12 x13 x14 x15) s = some (.nx, ev n t p wi L (L + 2) (some (.int i)) x5 x9 (some told) y11 y12 x13 x14 x15, s') ∧ Edt U7 w s' n t sp ss p L cs S T r c ps told (L + 2) g rows := by
  have a1 := h.l1
  have a2 := h.l2
  have a3 := h.l3
  have a4 := h.l4
  have w0 := h.wd.w0
  have cw := h.wd.cw
  have hcl := h.wd.cl
  obtain ⟨vs, s1, g1, lv, vv, t1, f1, _⟩ := values_ok h.wd.tp (w := wi) (by omega) (by omega)
  have p1 := h.fr t1 f1
  obtain ⟨q2, s2, g2, q20, q27, t2, f2, _⟩ := pick_ok t1 (s := 7) (by decide) (by decide)
  have p2 := p1.fr t2 f2
  let es0 : List (Int × D) := [(i, .tup vs), (1 + q2, .non)]
  have l0 : es0.map edD = [.tup [.str (Str.ofString "put"), .int i, .tup vs], .tup [.str (Str.ofString "drop"), .int (1 + q2)]] := rfl
  have p3 := p2.app [.lst (es0.map edD)]
  have hM : L + 3 ≤ s2.length := at_some p2.gL
  have hMn : s2.length ≠ n := by omega
  generalize hm : s2.length = M at *
  have m3 : (s2 ++ [Ob.lst (es0.map edD)])[M]? = some (.lst (es0.map edD)) := by rw [← hm]; simp
  obtain ⟨k, s4, g4, k0, k3, t4, f4, _⟩ := pick_ok p3.wd.tp (s := 3) (by decide) (by decide)
  have p4 := p3.fr t4 f4
  obtain ⟨q5, s5, g5, q50, q57, t5, f5, _⟩ := pick_ok t4 (s := 7) (by decide) (by decide)
  have p5 := p4.fr t5 f5
  obtain ⟨us, s6, g6, lu, vu, t6, f6, _⟩ := values_ok t5 (w := wi) (by omega) (by omega)
  have p6 := p5.fr t6 f6
  have m4 : s4[M]? = some (.lst (es0.map edD)) := by rw [f4.at_ _ hMn (at_some m3)]; exact m3
  have m5 : s5[M]? = some (.lst (es0.map edD)) := by rw [f5.at_ _ hMn (at_some m4)]; exact m4
  have m6 : s6[M]? = some (.lst (es0.map edD)) := by rw [f6.at_ _ hMn (at_some m5)]; exact m5
  let e3 : Int × D := (1 + q5, .tup us)
  have e3d : edD e3 = .tup [.str (Str.ofString "put"), .int (1 + q5), .tup us] := rfl
  obtain ⟨es, hes⟩ : ∃ es, es = es0.take k.toNat ++ [e3] ++ es0.drop k.toNat := ⟨_, rfl⟩
  have ins : insAtL (es0.map edD) k (edD e3) = es.map edD := by
    rw [hes]
    simp [insAtL, List.map_take, List.map_drop]
  have oke0 : ∀ e ∈ es0, OkE U7 w e := fun e he => by
    have he' : e = (i, .tup vs) ∨ e = (1 + q2, .non) := by simpa [es0] using he
    rcases he' with rfl | rfl
    · exact ⟨U7_mem h1, by show 1 ≤ i ∧ i ≤ 1000000; omega, .inr ⟨vs, rfl, by omega, vv⟩⟩
    · exact ⟨U7_mem (by omega), by show 1 ≤ 1 + q2 ∧ 1 + q2 ≤ 1000000; omega, .inl rfl⟩
  have oke : ∀ e ∈ es, OkE U7 w e := fun e he => by
    rw [hes] at he
    rcases List.mem_append.mp he with m | m
    · rcases List.mem_append.mp m with m | m
      · exact oke0 e (List.mem_of_mem_take m)
      · rw [List.mem_singleton.mp m]
        exact ⟨U7_mem (show 1 ≤ 1 + q5 ∧ 1 + q5 ≤ 7 by omega), by show 1 ≤ 1 + q5 ∧ 1 + q5 ≤ 1000000; omega, .inr ⟨us, rfl, by omega, vu⟩⟩
    · exact oke0 e (List.mem_of_mem_drop m)
  have p7 := p6.set hM (.lst (es.map edD))
  have m7 : (s6.set M (.lst (es.map edD)))[M]? = some (.lst (es.map edD)) := by rw [List.getElem?_set_self (at_some m6)]
  have p8 := p7.set hM .dead
  generalize hs7 : s6.set M (.lst (es.map edD)) = s7 at *
  generalize hs8 : s7.set M .dead = s8 at *
  obtain ⟨s9, g9, tab9, k9⟩ := batch_ok U7_len (p8.tabOk p8.wd.tab) (es := es) (by rw [hcl]; exact oke)
  have gl : s9[L + 2]? = some (.dct r) := k9.at p8.gL (by omega) (by omega) (by omega)
  have or_ := h.vs.or_
  have hmm : noF "change_rows" (insAt "Table" t s8) = true := noF_T p8.wd.tab fun _ => rfl
  obtain ⟨o1, o2⟩ := edR_ok (acc := []) oke okK.nil (fun q hq => by cases hq)
  have og : okK U7 (es.foldl gF r) := by
    have : ∀ {l : List (Int × D)} {acc : KL}, (∀ e ∈ l, OkE U7 w e) → okK U7 acc → okK U7 (l.foldl gF acc) := by
      intro l
      induction l with
      | nil => exact fun _ h => h
      | cons e l ih => exact fun h g => ih (fun x hx => h x (List.mem_cons_of_mem _ hx)) (gF_okK g (h e List.mem_cons_self))
    exact this oke or_
  obtain ⟨told, htold⟩ : ∃ d, d = D.int (((nxS S (nxC S T (edR es))).length : Int) - 1) := ⟨_, rfl⟩
  rw [← htold] at g9
  obtain ⟨y12, lp⟩ := goal_loop (p0 := 0) (M := 0) (e0 := []) (w := w) (n := n) (t := t) (p := p) (wi := wi) (L := L) (G := L + 2) (x4 := some (.int i)) (x5 := x5) (x9 := x9) (x10 := some told) (x11 := some (.lst (es.map edD))) (x12 := x12) (x13 := x13) (x14 := x14) (x15 := x15) oke or_ gl
  have e := p8.edt (rows := edR es) (g := es.foldl gF r) o1 o2 tab9 k9 htold og (gF_goal r (es := es) (acc := []) (g := r) fun j => rfl)
  refine ⟨_, told, _, _, some (.lst (es.map edD)), y12, ?_, e⟩
  have z2 : 2 ≤ sizeLine := by decide
  have z3 : 3 ≤ sizeLine := by decide
  have b1 : eB1 (ev n t p wi L (L + 2) (some (.int i)) x5 x9 x10 x11 x12 x13 x14 x15) s = some (.nx, ev n t p wi L (L + 2) (some (.int i)) x5 x9 x10 (some (.ref M)) x12 x13 x14 x15, s2 ++ [.lst (es0.map edD)]) := by
    rw [l0]
    have c1 : fMk mkTup (aCons (fC (.str (Str.ofString "put"))) (aCons (fVar 4) (aCons (fCall m__law_values (aCons (fVar 0) (aCons (fVar 3) aNil))) aNil))) (ev n t p wi L (L + 2) (some (.int i)) x5 x9 x10 x11 x12 x13 x14 x15) s = some (.tup [.str (Str.ofString "put"), .int i, .tup vs], s1) := by
      simp [fMk, aCons, aNil, fC, fVar, ev, fCall, g1, mkTup, z3]
    have c2 : fMk mkTup (aCons (fC (.str (Str.ofString "drop"))) (aCons (fOp opAdd (fC (.int 1)) (fCall m__law_pick (aCons (fVar 0) (aCons (fC (.int 7)) aNil)))) aNil)) (ev n t p wi L (L + 2) (some (.int i)) x5 x9 x10 x11 x12 x13 x14 x15) s1 = some (.tup [.str (Str.ofString "drop"), .int (1 + q2)], s2) := by
      simp [fMk, aCons, aNil, fC, fVar, ev, fOp, fCall, e_pick, g2, opAdd_int, mkTup, z2]
    have c3 : fNewL (aCons (fMk mkTup (aCons (fC (.str (Str.ofString "put"))) (aCons (fVar 4) (aCons (fCall m__law_values (aCons (fVar 0) (aCons (fVar 3) aNil))) aNil)))) (aCons (fMk mkTup (aCons (fC (.str (Str.ofString "drop"))) (aCons (fOp opAdd (fC (.int 1)) (fCall m__law_pick (aCons (fVar 0) (aCons (fC (.int 7)) aNil)))) aNil))) aNil)) (ev n t p wi L (L + 2) (some (.int i)) x5 x9 x10 x11 x12 x13 x14 x15) s = some (.ref M, s2 ++ [.lst [.tup [.str (Str.ofString "put"), .int i, .tup vs], .tup [.str (Str.ofString "drop"), .int (1 + q2)]]]) := by
      rw [fNewL, aCons, c1]
      simp only [Option.bind_some]
      rw [aCons, c2]
      simp [aNil, z2, hm]
    unfold eB1
    rw [sAsg, c3]
    rfl
  have b2 : eB2 (ev n t p wi L (L + 2) (some (.int i)) x5 x9 x10 (some (.ref M)) x12 x13 x14 x15) (s2 ++ [.lst (es0.map edD)]) = some (.nx, ev n t p wi L (L + 2) (some (.int i)) x5 x9 x10 (some (.ref M)) x12 x13 x14 x15, s7) := by
    have c1 : fMk mkTup (aCons (fC (.str (Str.ofString "put"))) (aCons (fOp opAdd (fC (.int 1)) (fCall m__law_pick (aCons (fVar 0) (aCons (fC (.int 7)) aNil)))) (aCons (fCall m__law_values (aCons (fVar 0) (aCons (fVar 3) aNil))) aNil))) (ev n t p wi L (L + 2) (some (.int i)) x5 x9 x10 (some (.ref M)) x12 x13 x14 x15) s4 = some (edD e3, s6) := by
      rw [e3d]
      simp [fMk, aCons, aNil, fC, fVar, ev, fOp, fCall, e_pick, g5, opAdd_int, g6, mkTup, z3]
    have c2 : fCall m__law_pick (aCons (fVar 0) (aCons (fC (.int 3)) aNil)) (ev n t p wi L (L + 2) (some (.int i)) x5 x9 x10 (some (.ref M)) x12 x13 x14 x15) (s2 ++ [.lst (es0.map edD)]) = some (.int k, s4) := by
      simp [fCall, aCons, aNil, fVar, ev, fC, e_pick, g4]
    have hk : (es0.map edD).length < sizeLine ∧ 0 ≤ k ∧ k < 2 ^ 62 := ⟨by show 2 < sizeLine; decide, k0, by omega⟩
    unfold eB2
    rw [sDrop, fIns]
    simp only [show fVar 11 (ev n t p wi L (L + 2) (some (.int i)) x5 x9 x10 (some (.ref M)) x12 x13 x14 x15) (s2 ++ [.lst (es0.map edD)]) = some (.ref M, s2 ++ [.lst (es0.map edD)]) from rfl, Option.bind_some, m3, isLs, if_true]
    rw [c2]
    simp only [Option.bind_some]
    rw [c1]
    simp only [Option.bind_some, m6]
    rw [if_pos hk, ins, hs7]
    rfl
  have b3 : eB3 (ev n t p wi L (L + 2) (some (.int i)) x5 x9 x10 (some (.ref M)) x12 x13 x14 x15) s7 = some (.nx, ev n t p wi L (L + 2) (some (.int i)) x5 x9 (some told) (some (.lst (es.map edD))) x12 x13 x14 x15, s9) := by
    have c1 : sFrzL 11 (ev n t p wi L (L + 2) (some (.int i)) x5 x9 x10 (some (.ref M)) x12 x13 x14 x15) s7 = some (.nx, ev n t p wi L (L + 2) (some (.int i)) x5 x9 x10 (some (.lst (es.map edD))) x12 x13 x14 x15, s8) := by
      show (match s7[M]? with | some (.lst ds) => some (Out.nx, _, s7.set M .dead) | _ => none) = _
      rw [m7, hs8]
      rfl
    unfold eB3
    rw [sSeq, c1]
    simp only [Option.bind_some]
    simp [sAsg, fMeth, fVar, ev, hmm, aCons, aNil, g9, gN]
  have b4 : sFor (iOf asL (fVar 11)) (gN 12) eGl (ev n t p wi L (L + 2) (some (.int i)) x5 x9 (some told) (some (.lst (es.map edD))) x12 x13 x14 x15) s9 = some (.nx, ev n t p wi L (L + 2) (some (.int i)) x5 x9 (some told) (some (.lst (es.map edD))) y12 x13 x14 x15, s9.set (L + 2) (.dct (es.foldl gF r))) := by
    rw [sFor, show iOf asL (fVar 11) (ev n t p wi L (L + 2) (some (.int i)) x5 x9 (some told) (some (.lst (es.map edD))) x12 x13 x14 x15) s9 = some (es.map edD, s9) from rfl]
    exact lp
  show sSeq eB1 (sSeq eB2 (sSeq eB3 (sFor (iOf asL (fVar 11)) (gN 12) eGl))) _ _ = _
  rw [sSeq, b1]
  simp only [Option.bind_some]
  rw [sSeq, b2]
  simp only [Option.bind_some]
  rw [sSeq, b3]
  simp only [Option.bind_some]
  exact b4
end LW
namespace LW
open PySem PySem.Spec PyProof.Rows L2 DL TL
variable {w : Nat} {wi : Int} {s : Store} {n t sp ss p L G : Nat} {cs : List D} {S : List KL} {T r c g : KL} {ps : List (KL × KL)} {x4 x5 x9 x10 x11 x12 x13 x14 x15 : Option D}
open Classical in
theorem oth_loop (hw : w ≤ 10) (hr : ∀ i d, gt r i = some d → Rv w d) (hg : ∀ i d, gt g i = some d → Rv w d) (hG : L + 2 ≤ G) (hp : p < L) : ∀ {ks : List Int} {acc : KL} {s : Store} {x15 : Option D}, ks.Nodup → (∀ i ∈ ks, i ∈ U7) → okK U7 acc → (∀ j ∈ ks, gt acc j = gt c j) →
    s[L]? = some (.dct r) → s[G]? = some (.dct g) → s[L + 1]? = some (.dct acc) → s[p]? = some (.lst (ps.map prD)) →
    ∃ y acc', loopS (gN 15) eOth (ks.map .int) (ev n t p wi L G x4 x5 x9 x10 x11 x12 x13 x14 x15) s = some (.nx, ev n t p wi L G x4 x5 x9 x10 x11 x12 x13 x14 y, s.set (L + 1) (.dct acc')) ∧ okK U7 acc' ∧ ∀ j, gt acc' j = if j ∈ ks then chgOf ps.length r g c j else gt acc j
  | [], acc, s, x15, _, _, ha, _, _, _, hc, _ => ⟨x15, acc, by simp [loopS, set_same hc], ha, fun j => by simp⟩
  | i :: ks, acc, s, x15, nd, hU, ha, he, h1, h2, h3, h4 => by
    have nd' := List.nodup_cons.mp nd
    have hi := hU i List.mem_cons_self
    have hlen := at_some h3
    have va : Vt ((valD r (.inl i)).getD .non) := opt_vt hw (hr i)
    have vb : Vt ((valD g (.inl i)).getD .non) := opt_vt hw (hg i)
    obtain ⟨n1, _, n3⟩ := ne_ok va vb
    have n4 : neB ((valD r (.inl i)).getD .non) ((valD g (.inl i)).getD .non) = false ↔ gt r i = gt g i := n3.trans (opt_eq (w := w) (a := gt r i) (b := gt g i) (hr i) (hg i))
    have step : ∃ acc1, eOth (ev n t p wi L G x4 x5 x9 x10 x11 x12 x13 x14 (some (.int i))) s = some (.nx, ev n t p wi L G x4 x5 x9 x10 x11 x12 x13 x14 (some (.int i)), s.set (L + 1) (.dct acc1)) ∧ okK U7 acc1 ∧ ∀ j, gt acc1 j = if i = j then chgOf ps.length r g c i else gt acc j := by
      have t1 : fOp opNe (fGet1 (fVar 6) (fVar 15)) (fGet1 (fVar 8) (fVar 15)) (ev n t p wi L G x4 x5 x9 x10 x11 x12 x13 x14 (some (.int i))) s = some (.bl (neB ((valD r (.inl i)).getD .non) ((valD g (.inl i)).getD .non)), s) := by
        simp [fOp, fGet1, fVar, ev, dctAt, h1, h2, asKey, n1]
      cases hq : neB ((valD r (.inl i)).getD .non) ((valD g (.inl i)).getD .non) with
      | false =>
        rw [hq] at t1
        refine ⟨acc, ?_, ha, fun j => ?_⟩
        · rw [set_same h3]
          unfold eOth
          rw [sIf, fTest, t1]
          rfl
        · by_cases e : i = j
          · subst e
            have e1 := n4.mp hq
            rw [if_pos rfl, chgOf, if_pos e1.symm]
            exact he i List.mem_cons_self
          · rw [if_neg e]
      | true =>
        rw [hq] at t1
        have ne1 : ¬ gt g i = gt r i := fun e => by
          have := n4.mpr e.symm
          rw [this] at hq; cases hq
        have t2 : sDrop (fPop2 (fVar 7) (fVar 15) (fC .non)) (ev n t p wi L G x4 x5 x9 x10 x11 x12 x13 x14 (some (.int i))) s = some (.nx, ev n t p wi L G x4 x5 x9 x10 x11 x12 x13 x14 (some (.int i)), s.set (L + 1) (.dct (dropD acc (.inl i)))) := by
          cases hv : valD acc (.inl i) with
          | none =>
            rw [dropD_none hv, set_same h3]
            simp [sDrop, fPop2, fVar, ev, dctAt, h3, asKey, fC, hv]
          | some d => simp [sDrop, fPop2, fVar, ev, dctAt, h3, asKey, fC, hv]
        have o1 : okK U7 (dropD acc (.inl i)) := ha.drop _
        have hz : (dropD acc (.inl i)).length < sizeLine := Nat.lt_of_le_of_lt o1.len (by decide)
        have g2 : (s.set (L + 1) (.dct (dropD acc (.inl i))))[G]? = some (.dct g) := by rw [List.getElem?_set_ne (by omega)]; exact h2
        have p2 : (s.set (L + 1) (.dct (dropD acc (.inl i))))[p]? = some (.lst (ps.map prD)) := by rw [List.getElem?_set_ne (by omega)]; exact h4
        have c2 : (s.set (L + 1) (.dct (dropD acc (.inl i))))[L + 1]? = some (.dct (dropD acc (.inl i))) := by rw [List.getElem?_set_self hlen]
        cases hv : valD g (.inl i) with
        | none =>
          have hv' : gt g i = none := hv
          refine ⟨dropD acc (.inl i), ?_, o1, fun j => ?_⟩
          · unfold eOth
            rw [sIf, fTest, t1]
            simp only [Option.bind_some, asB, Option.map_some, if_true]
            rw [sSeq, t2]
            simp only [Option.bind_some]
            generalize s.set (L + 1) (.dct (dropD acc (.inl i))) = s' at g2 p2 c2
            simp [sIf, fTest, fInD, fVar, ev, asKey, dctAt, g2, hv, asB, sNil]
          · show valD (dropD acc (.inl i)) (.inl j) = _
            rw [valD_drop]
            by_cases e : i = j
            · subst e
              rw [if_pos rfl, if_pos rfl, chgOf, if_neg ne1, hv']; simp
            · simp [e, gt]
        | some d =>
          have hv' : gt g i = some d := hv
          refine ⟨putD (dropD acc (.inl i)) (.inl i) (.int ps.length), ?_, o1.put hi _, fun j => ?_⟩
          · unfold eOth
            rw [sIf, fTest, t1]
            simp only [Option.bind_some, asB, Option.map_some, if_true]
            rw [sSeq, t2]
            simp only [Option.bind_some]
            rw [← List.set_set (a := Ob.dct (dropD acc (.inl i))) (b := Ob.dct (putD (dropD acc (.inl i)) (.inl i) (.int ps.length)))]
            generalize s.set (L + 1) (.dct (dropD acc (.inl i))) = s' at g2 p2 c2
            simp [sIf, fTest, fInD, fVar, ev, asKey, dctAt, g2, hv, asB, sPut, fMk, bLen, lenL, aCons, aNil, p2, c2, hz]
          · show valD (putD (dropD acc (.inl i)) (.inl i) (.int ps.length)) (.inl j) = _
            rw [valD_put, valD_drop]
            by_cases e : i = j
            · subst e
              rw [if_pos rfl, if_pos rfl, chgOf, if_neg ne1, hv']; simp
            · simp [e, gt]
    obtain ⟨acc1, k1, k2, k3⟩ := step
    obtain ⟨y, acc', m1, m2, m3⟩ := oth_loop hw hr hg hG hp (ks := ks) (acc := acc1) (s := s.set (L + 1) (.dct acc1)) (x15 := some (.int i)) nd'.2 (fun j hj => hU j (List.mem_cons_of_mem _ hj)) k2 (fun j hj => by
      have : i ≠ j := fun e => nd'.1 (e ▸ hj)
      rw [k3, if_neg this]; exact he j (List.mem_cons_of_mem _ hj)) (by rw [List.getElem?_set_ne (by omega)]; exact h1) (by rw [List.getElem?_set_ne (by omega)]; exact h2) (by rw [List.getElem?_set_self hlen]) (by rw [List.getElem?_set_ne (by omega)]; exact h4)
    refine ⟨y, acc', ?_, m2, fun j => ?_⟩
    · rw [List.set_set] at m1
      rw [List.map_cons, loopS, show gN 15 (D.int i) (ev n t p wi L G x4 x5 x9 x10 x11 x12 x13 x14 x15) = some (ev n t p wi L G x4 x5 x9 x10 x11 x12 x13 x14 (some (.int i))) from rfl]
      simp only [Option.bind_some]
      rw [k1]
      exact m1
    · rw [m3, k3]
      by_cases e : i = j
      · subst e; simp [nd'.1]
      · have e' : ¬ j = i := fun z => e z.symm
        simp [e, e']
open Classical in
theorem oth_ok (h : Edt U7 w s n t sp ss p L cs S T r c ps (x10.getD .non) G g rows) (hw : w ≤ 10) (hr : ∀ i d, gt r i = some d → Rv w d) (or_ : okK U7 r) (oc : okK U7 c) (hg : ∀ i d, gt g i = some d → Rv w d) (hp : p < L) :
    ∃ y c', eFor (ev n t p wi L G x4 x5 x9 x10 x11 x12 x13 x14 x15) s = some (.nx, ev n t p wi L G x4 x5 x9 x10 x11 x12 x13 x14 y, s.set (L + 1) (.dct c')) ∧ okK U7 c' ∧ ∀ j, gt c' j = chgOf ps.length r g c j := by
  obtain ⟨k1, i1, i2, i3, i4, i5⟩ := or_.ints
  obtain ⟨k2, j1, j2, j3, j4, j5⟩ := h.og.ints
  have e1 : (r.map fun kv => keyD kv.1) = k1.map .int := by
    have : (r.map fun kv => keyD kv.1) = (r.map (·.1)).map keyD := by rw [List.map_map]; rfl
    rw [this, i2, List.map_map]; rfl
  have e2 : (g.map fun kv => keyD kv.1) = k2.map .int := by
    have : (g.map fun kv => keyD kv.1) = (g.map (·.1)).map keyD := by rw [List.map_map]; rfl
    rw [this, j2, List.map_map]; rfl
  have l1 := nodup_sub i3 i4
  have l2 := nodup_sub j3 j4
  have u7 : U7.length = 7 := rfl
  have ad : opAdd (.lst (k1.map .int)) (.lst (k2.map .int)) = some (.lst ((k1 ++ k2).map .int)) := by
    rw [List.map_append]
    exact addL_ok (by simp; omega)
  have id : intsD ((k1 ++ k2).map .int) = some (k1 ++ k2) := intsD_map _
  have ll : (k1 ++ k2).length < 64 := by simp; omega
  have pw := srt_pw (k1 ++ k2)
  have mem : ∀ j, j ∈ srt (k1 ++ k2) ↔ (gt r j).isSome = true ∨ (gt g j).isSome = true := fun j => by
    rw [srt_mem, List.mem_append]
    have key : ∀ {l : KL} {ks : List Int}, okK U7 l → l.map (·.1) = ks.map Sum.inl → (j ∈ ks ↔ (gt l j).isSome = true) := fun {l ks} o e => by
      have : (Sum.inl j : Key) ∈ l.map (·.1) ↔ j ∈ ks := by
        rw [e]
        exact ⟨fun m => by obtain ⟨i, hi, e⟩ := List.mem_map.mp m; injection e with e; exact e ▸ hi, fun m => List.mem_map.mpr ⟨j, m, rfl⟩⟩
      rw [← this]
      unfold gt
      cases q : valD l (.inl j) with
      | none => simp only [Option.isSome_none, Bool.false_eq_true, iff_false]; exact valD_none.mp q
      | some v => simp only [Option.isSome_some, iff_true]; exact List.mem_map.mpr ⟨_, (valD_some o.nd).mp q, rfl⟩
    rw [key or_ i2, key h.og j2]
  obtain ⟨y, c', m1, m2, m3⟩ := oth_loop hw hr hg h.Gn hp (n := n) (t := t) (ps := ps) (c := c) (x4 := x4) (x5 := x5) (x9 := x9) (x10 := x10) (x11 := x11) (x12 := x12) (x13 := x13) (x14 := x14) (wi := wi) (ks := srt (k1 ++ k2)) (acc := c) (s := s) (x15 := x15) (pw.imp fun z => by omega) (fun i hi => by
    rcases List.mem_append.mp (srt_mem.mp hi) with m | m
    · exact i4 i m
    · exact j4 i m) oc (fun _ _ => rfl) h.rL h.gL h.cL h.past
  refine ⟨y, c', ?_, m2, fun j => ?_⟩
  · have q1 : fMk bListK (aCons (fVar 6) aNil) (ev n t p wi L G x4 x5 x9 x10 x11 x12 x13 x14 x15) s = some (.lst (k1.map .int), s) := by
      simp [fMk, bListK, bList, listSeq, listTxt, keysL, aCons, aNil, fVar, ev, dctAt, h.rL, e1]
    have q2 : fMk bListK (aCons (fVar 8) aNil) (ev n t p wi L G x4 x5 x9 x10 x11 x12 x13 x14 x15) s = some (.lst (k2.map .int), s) := by
      simp [fMk, bListK, bList, listSeq, listTxt, keysL, aCons, aNil, fVar, ev, dctAt, h.gL, e2]
    have q3 : iOf asL (fSortSetL (fOp opAdd (fMk bListK (aCons (fVar 6) aNil)) (fMk bListK (aCons (fVar 8) aNil)))) (ev n t p wi L G x4 x5 x9 x10 x11 x12 x13 x14 x15) s = some ((srt (k1 ++ k2)).map .int, s) := by
      rw [iOf, fSortSetL, fOp, q1]
      simp only [Option.bind_some]
      rw [q2]
      simp only [Option.bind_some, ad, Option.map_some, id]
      rw [if_pos ll]
      rfl
    unfold eFor
    rw [sFor, q3]
    exact m1
  · rw [m3]
    by_cases q : j ∈ srt (k1 ++ k2)
    · rw [if_pos q]
    · rw [if_neg q]
      have n1 : gt r j = none := by
        cases z : gt r j with
        | none => rfl
        | some _ => exact absurd ((mem j).mpr (.inl (by rw [z]; rfl))) q
      have n2 : gt g j = none := by
        cases z : gt g j with
        | none => rfl
        | some _ => exact absurd ((mem j).mpr (.inr (by rw [z]; rfl))) q
      rw [chgOf, if_pos (by rw [n1, n2])]
end LW
namespace LW
open PySem PySem.Spec PyProof.Rows L2 DL TL
variable {w : Nat} {wi : Int} {s : Store} {n t sp ss p L G : Nat} {cs : List D} {S : List KL} {T r c g : KL} {ps : List (KL × KL)} {x4 x5 x9 x10 x11 x12 x13 x14 x15 : Option D}
theorem Wd.fr (h : Wd U7 w s n t sp ss p cs S T ps) {s' : Store} (tp : Tp s' n) (f : Fr n s s') : Wd U7 w s' n t sp ss p cs S T ps :=
  ⟨tp, h.tab.fr f h.d1 h.d2 h.d3, by rw [f.at_ _ h.d4 (at_some h.past)]; exact h.past, h.pst, h.d1, h.d2, h.d3, h.d4, h.d5, h.d6, h.d7, h.cl, h.w0, h.cw, h.sl, h.pos⟩
theorem Wd.app (h : Wd U7 w s n t sp ss p cs S T ps) (l : Store) : Wd U7 w (s ++ l) n t sp ss p cs S T ps :=
  ⟨Tp.of h.tp (by rw [List.getElem?_append_left h.tp.lt]), h.tab.app l, app_at h.past l, h.pst, h.d1, h.d2, h.d3, h.d4, h.d5, h.d6, h.d7, h.cl, h.w0, h.cw, h.sl, h.pos⟩
/-- the ways, together -/
theorem ways_ok (h : Pre U7 w s n t sp ss p L cs S T r c ps) (hwi : wi = (w : Int)) {i y : Int} (h1 : 1 ≤ i ∧ i ≤ 7) :
    ∃ s' told G g rows y9 y11 y12 y13 y14, sIf (fTest (fOp opEq (fVar 5) (fC (.int 0)))) eRev (sIf (fTest (fOp opEq (fVar 5) (fC (.int 1)))) eBat (sIf (fTest (fOp opLt (fVar 5) (fC (.int 5)))) eDrp ePut)) (ev n t p wi L (L + 2) (some (.int i)) (some (.int y)) x9 x10 x11 x12 x13 x14 x15) s =
      some (.nx, ev n t p wi L G (some (.int i)) (some (.int y)) y9 (some told) y11 y12 y13 y14 x15, s') ∧ Edt U7 w s' n t sp ss p L cs S T r c ps told G g rows := by
  have tst : ∀ (op : D → D → Option D) (k : Int) (b : Bool), op (.int y) (.int k) = some (.bl b) → fTest (fOp op (fVar 5) (fC (.int k))) (ev n t p wi L (L + 2) (some (.int i)) (some (.int y)) x9 x10 x11 x12 x13 x14 x15) s = some (b, s) := fun op k b e => by
    simp [fTest, fOp, fVar, ev, fC, e, asB]
  by_cases c0 : y = 0
  · obtain ⟨s', told, G, g, rows, y9, e, z⟩ := rev_way h (wi := wi) (x4 := some (.int i)) (x5 := some (.int y)) (x9 := x9) (x10 := x10) (x11 := x11) (x12 := x12) (x13 := x13) (x14 := x14) (x15 := x15)
    refine ⟨s', told, G, g, rows, y9, x11, x12, x13, x14, ?_, z⟩
    rw [sIf, tst opEq 0 true (by rw [opEq_int, c0]; rfl)]
    exact e
  have q0 : (y == 0) = false := by simp [c0]
  rw [sIf, tst opEq 0 false (by rw [opEq_int, q0])]
  simp only [Option.bind_some, Bool.false_eq_true, if_false]
  by_cases c1 : y = 1
  · obtain ⟨s', told, g, rows, y11, y12, e, z⟩ := bat_way h hwi h1 (x5 := some (.int y)) (x9 := x9) (x10 := x10) (x11 := x11) (x12 := x12) (x13 := x13) (x14 := x14) (x15 := x15)
    refine ⟨s', told, L + 2, g, rows, x9, y11, y12, x13, x14, ?_, z⟩
    rw [sIf, tst opEq 1 true (by rw [opEq_int, c1]; rfl)]
    exact e
  have q1 : (y == 1) = false := by simp [c1]
  rw [sIf, tst opEq 1 false (by rw [opEq_int, q1])]
  simp only [Option.bind_some, Bool.false_eq_true, if_false]
  by_cases c2 : y < 5
  · obtain ⟨s', told, g, rows, e, z⟩ := drp_way h h1 (wi := wi) (x5 := some (.int y)) (x9 := x9) (x10 := x10) (x11 := x11) (x12 := x12) (x13 := x13) (x14 := x14) (x15 := x15)
    refine ⟨s', told, L + 2, g, rows, x9, x11, x12, x13, x14, ?_, z⟩
    rw [sIf, tst opLt 5 true (by rw [opLt_int]; simp [c2])]
    exact e
  · obtain ⟨s', told, g, rows, y13, y14, e, z⟩ := put_way h hwi h1 (x5 := some (.int y)) (x9 := x9) (x10 := x10) (x11 := x11) (x12 := x12) (x13 := x13) (x14 := x14) (x15 := x15)
    refine ⟨s', told, L + 2, g, rows, x9, x11, x12, y13, y14, ?_, z⟩
    rw [sIf, tst opLt 5 false (by rw [opLt_int]; simp [c2])]
    exact e
theorem goal_rv {rows : KL} (hr : ∀ i d, gt r i = some d → Rv w d) (or_ : okK U7 rows) (hv : ∀ q ∈ rows, q.2 = .non ∨ Rv w q.2) (gg : ∀ i, gt g i = goalOf r rows i) : ∀ i d, gt g i = some d → Rv w d := fun i d e => by
  rw [gg, goalOf] at e
  cases hq : gt rows i with
  | none => rw [hq] at e; exact hr i d e
  | some v =>
    rw [hq] at e
    have m : (Sum.inl i, v) ∈ rows := (valD_some or_.nd).mp hq
    have e' : (if DL.isNon v = true then none else some v) = some d := e
    split at e'
    · cases e'
    · rename_i nn
      cases e'
      rcases hv _ m with z | z
      · exact absurd (show DL.isNon d = true by rw [show d = .non from z]; rfl) nn
      · exact z
/-- behind the ways: changes, and the past grows -/
theorem fin_ok (h : Pre U7 w s n t sp ss p L cs S T r c ps) (hS : S.length < 60) {s' : Store} {told : D} {rows : KL} (e : Edt U7 w s' n t sp ss p L cs S T r c ps told G g rows) :
    ∃ st' S' T' ps' y7 y8 y15, sSeq eFor (sSeq eFin (sRet (fVar 10))) (ev n t p wi L G x4 x5 x9 (some told) x11 x12 x13 x14 x15) s' = some (.rt (.int ((S'.length : Int) - 1)), [some (.ref n), some (.ref t), some (.ref p), some (.int wi), x4, x5, some (.ref L), y7, y8, x9, some told, x11, x12, x13, x14, y15], st') ∧
      Wd U7 w st' n t sp ss p cs S' T' ps' ∧ S'.length ≤ S.length + 1 := by
  have wd := h.wd
  have a1 := h.l1
  have a2 := h.l2
  have a3 := h.l3
  have a4 := h.l4
  have a5 := h.l5
  have vs := h.vs
  have hgv := goal_rv vs.rv e.hr e.hv e.gg
  have pl : ps.length = S.length := wd.pst.len
  have Gn := e.Gn
  obtain ⟨y, c', f1, f2, f3⟩ := oth_ok (x10 := some told) e wd.cw vs.rv vs.or_ vs.oc hgv a5 (wi := wi) (x4 := x4) (x5 := x5) (x9 := x9) (x11 := x11) (x12 := x12) (x13 := x13) (x14 := x14) (x15 := x15)
  rw [pl] at f3
  obtain ⟨st1, st2, st3⟩ := step_ok wd.cw wd.pst h.last (by omega) e.hr e.hv e.og f2 e.gg f3
  obtain ⟨b, b1, b2⟩ := eqKv_ok wd.cw e.og vs.or_ hgv vs.rv
  have hlen := at_some e.cL
  let s2 : Store := s'.set (L + 1) (.dct c')
  have q : ∀ {m : Nat} {o : Ob}, s'[m]? = some o → m ≠ L + 1 → s2[m]? = some o := fun {m o} z ne => by
    show (s'.set (L + 1) _)[m]? = _
    rw [List.getElem?_set_ne (Ne.symm ne)]; exact z
  have rL := q e.rL (by omega)
  have gL := q e.gL (by omega)
  have pL := q e.past (by omega)
  have cL : s2[L + 1]? = some (.dct c') := by
    show (s'.set (L + 1) _)[L + 1]? = _
    rw [List.getElem?_set_self hlen]
  have tab2 : Tab s2 t sp ss cs (nxS S (nxC S T rows)) (takeK T (nxC S T rows)) := e.tab.set _ (by omega) (by omega) (by omega)
  have tp2 : Tp s2 n := Tp.of e.tp (by show (s'.set (L + 1) _)[n]? = _; rw [List.getElem?_set_ne (by omega)])
  have ht := e.told_
  have cmp : fTest (fEqDt true (fVar 8) (fVar 6)) (ev n t p wi L G x4 x5 x9 (some told) x11 x12 x13 x14 y) s2 = some (!b, s2) := by
    simp [fTest, fEqDt, fVar, ev, dctAt, gL, rL, b1, asB]
  generalize hC : nxC S T rows = C at *
  have hf1 : eFor (ev n t p wi L G x4 x5 x9 (some told) x11 x12 x13 x14 x15) s' = some (.nx, ev n t p wi L G x4 x5 x9 (some told) x11 x12 x13 x14 y, s2) := f1
  cases hb : b with
  | true =>
    rw [hb] at cmp
    have em := st1.mpr (b2.mp hb)
    have C0 := st3 em
    have nS : nxS S C = S := by simp [nxS, em]
    have tk : takeK T C = T := by rw [C0]; rfl
    rw [nS, tk] at tab2
    rw [nS] at ht
    refine ⟨s2, S, T, ps, some (.ref (L + 1)), some (.ref G), y, ?_, ⟨tp2, tab2, pL, wd.pst, wd.d1, wd.d2, wd.d3, wd.d4, wd.d5, wd.d6, wd.d7, wd.cl, wd.w0, wd.cw, wd.sl, wd.pos⟩, by omega⟩
    rw [sSeq, hf1]
    simp only [Option.bind_some]
    have k : eFin (ev n t p wi L G x4 x5 x9 (some told) x11 x12 x13 x14 y) s2 = some (.nx, ev n t p wi L G x4 x5 x9 (some told) x11 x12 x13 x14 y, s2) := by
      unfold eFin
      rw [sIf, cmp]
      rfl
    rw [sSeq, k]
    simp only [Option.bind_some]
    rw [ht]
    rfl
  | false =>
    rw [hb] at cmp
    have em : C.isEmpty = false := by
      cases z : C.isEmpty with
      | false => rfl
      | true => rw [b2.mpr (st1.mp z)] at hb; cases hb
    have P' := st2 em
    have nS : nxS S C = S ++ [C] := by simp [nxS, em]
    rw [nS] at tab2 ht
    let s3 : Store := s2.set G .dead
    have c3 : s3[L + 1]? = some (.dct c') := by
      show (s2.set G _)[L + 1]? = _
      rw [List.getElem?_set_ne (by omega)]; exact cL
    let s4 : Store := s3.set (L + 1) .dead
    have p4 : s4[p]? = some (.lst (ps.map prD)) := by
      show (s3.set (L + 1) _)[p]? = _
      rw [List.getElem?_set_ne (by omega)]
      show (s2.set G _)[p]? = _
      rw [List.getElem?_set_ne (by omega)]; exact pL
    let s5 : Store := s4.set p (.lst ((ps ++ [(g, c')]).map prD))
    have tab5 : Tab s5 t sp ss cs (S ++ [C]) (takeK T C) := ((tab2.set .dead (L := G) (by omega) (by omega) (by omega)).set .dead (L := L + 1) (by omega) (by omega) (by omega)).set _ wd.d5 wd.d6 wd.d7
    have tp5 : Tp s5 n := Tp.of tp2 (by
      show (((s2.set G .dead).set (L + 1) .dead).set p _)[n]? = _
      rw [List.getElem?_set_ne wd.d4, List.getElem?_set_ne (by omega), List.getElem?_set_ne (by omega)])
    have past5 : s5[p]? = some (.lst ((ps ++ [(g, c')]).map prD)) := by
      show (s4.set p _)[p]? = _
      rw [List.getElem?_set_self (at_some p4)]
    refine ⟨s5, S ++ [C], takeK T C, ps ++ [(g, c')], some (.dct c'), some (.dct g), y, ?_, ⟨tp5, tab5, past5, P', wd.d1, wd.d2, wd.d3, wd.d4, wd.d5, wd.d6, wd.d7, wd.cl, wd.w0, wd.cw, by simp; omega, by simp⟩, by simp⟩
    rw [sSeq, hf1]
    simp only [Option.bind_some]
    have z2 : 2 ≤ sizeLine := by decide
    have zp : (ps.map prD).length < sizeLine := by rw [List.length_map, pl]; exact Nat.lt_of_lt_of_le hS (by decide)
    have k1 : sFrzV 8 (ev n t p wi L G x4 x5 x9 (some told) x11 x12 x13 x14 y) s2 = some (.nx, [some (.ref n), some (.ref t), some (.ref p), some (.int wi), x4, x5, some (.ref L), some (.ref (L + 1)), some (.dct g), x9, some told, x11, x12, x13, x14, y], s3) := by
      show (match s2[G]? with | some (.dct kvs) => some (Out.nx, _, s2.set G .dead) | _ => none) = _
      rw [gL]; rfl
    have k2 : sFrzV 7 [some (.ref n), some (.ref t), some (.ref p), some (.int wi), x4, x5, some (.ref L), some (.ref (L + 1)), some (.dct g), x9, some told, x11, x12, x13, x14, y] s3 = some (.nx, [some (.ref n), some (.ref t), some (.ref p), some (.int wi), x4, x5, some (.ref L), some (.dct c'), some (.dct g), x9, some told, x11, x12, x13, x14, y], s4) := by
      show (match s3[L + 1]? with | some (.dct kvs) => some (Out.nx, _, s3.set (L + 1) .dead) | _ => none) = _
      rw [c3]; rfl
    have k3 : sDrop (fApp (fVar 2) (fMk mkLst (aCons (fVar 8) (aCons (fVar 7) aNil)))) [some (.ref n), some (.ref t), some (.ref p), some (.int wi), x4, x5, some (.ref L), some (.dct c'), some (.dct g), x9, some told, x11, x12, x13, x14, y] s4 = some (.nx, [some (.ref n), some (.ref t), some (.ref p), some (.int wi), x4, x5, some (.ref L), some (.dct c'), some (.dct g), x9, some told, x11, x12, x13, x14, y], s5) := by
      have e5 : s4.set p (.lst (ps.map prD ++ [.lst [.dct g, .dct c']])) = s5 := by
        show _ = s4.set p (.lst ((ps ++ [(g, c')]).map prD))
        rw [List.map_append]; rfl
      simp only [List.length_map] at zp
      simp [sDrop, fApp, fVar, p4, isLs, fMk, mkLst, aCons, aNil, z2, appAt, zp, e5]
    have k : eFin (ev n t p wi L G x4 x5 x9 (some told) x11 x12 x13 x14 y) s2 = some (.nx, [some (.ref n), some (.ref t), some (.ref p), some (.int wi), x4, x5, some (.ref L), some (.dct c'), some (.dct g), x9, some told, x11, x12, x13, x14, y], s5) := by
      unfold eFin
      rw [sIf, cmp]
      simp only [Option.bind_some, Bool.not_false, if_true]
      rw [sSeq, k1]
      simp only [Option.bind_some]
      rw [sSeq, k2]
      simp only [Option.bind_some]
      exact k3
    rw [sSeq, k]
    simp only [Option.bind_some]
    rw [ht]
    rfl
end LW
namespace LW
open PySem PySem.Spec PyProof.Rows L2 DL TL
variable {w : Nat} {wi : Int} {s st : Store} {n t sp ss p L G : Nat} {cs : List D} {S : List KL} {T r c g : KL} {ps : List (KL × KL)}
theorem at_last {α : Type} {us : List α} {x : α} (h : us[us.length - 1]? = some x) : L2.atI us (-1) = some x := by
  have hl := at_some h
  unfold L2.atI
  have : ixN us.length (-1) = some (us.length - 1) := by
    simp [ixN]
    omega
  simp [this, h]
theorem edits_ok (h : Wd U7 w s n t sp ss p cs S T ps) (hwi : wi = (w : Int)) (hS : S.length < 60) :
    ∃ st' S' T' ps', m__law_edit [.ref n, .ref t, .ref p, .int wi] s = some (.int ((S'.length : Int) - 1), st') ∧ Wd U7 w st' n t sp ss p cs S' T' ps' ∧ S'.length ≤ S.length + 1 := by
  have pl : ps.length = S.length := h.pst.len
  have pos := h.pos
  obtain ⟨⟨r, c⟩, hl⟩ : ∃ x, ps[ps.length - 1]? = some x := ⟨ps[ps.length - 1]'(by omega), List.getElem?_eq_getElem (by omega)⟩
  obtain ⟨q, s1, g1, q0, q7, t1, f1, _⟩ := pick_ok h.tp (s := 7) (by decide) (by decide)
  have h1 := h.fr t1 f1
  obtain ⟨y, s2, g2, y0, y12, t2, f2, _⟩ := pick_ok t1 (s := 12) (by decide) (by decide)
  have h2 := h1.fr t2 f2
  have hm : (ps.map prD)[(ps.map prD).length - 1]? = some (prD (r, c)) := by rw [List.length_map, List.getElem?_map, hl]; rfl
  have la := at_last hm
  have i0 : L2.atI [D.dct r, .dct c] 0 = some (.dct r) := ix0'
  have i1 : L2.atI [D.dct r, .dct c] 1 = some (.dct c) := ix1'
  let L := s2.length
  have pre : Pre U7 w (s2 ++ [.dct r, .dct c, .dct r]) n t sp ss p L cs S T r c ps := by
    refine ⟨h2.app _, hl, h2.tp.lt, at_some h2.tab.tab, at_some h2.tab.stp, at_some h2.tab.sta, at_some h2.past, ?_, ?_, ?_⟩
    · show (s2 ++ _)[s2.length]? = _
      simp
    · show (s2 ++ _)[s2.length + 1]? = _
      simp
    · show (s2 ++ _)[s2.length + 2]? = _
      simp
  obtain ⟨s3, told, G, g, rows, y9, y11, y12', y13, y14, w1, ed⟩ := ways_ok pre hwi (i := 1 + q) (y := y) (by omega) (x9 := none) (x10 := none) (x11 := none) (x12 := none) (x13 := none) (x14 := none) (x15 := none)
  obtain ⟨st', S', T', ps', z7, z8, z15, w2, w3, w4⟩ := fin_ok pre hS ed (wi := wi) (x4 := some (.int (1 + q))) (x5 := some (.int y)) (x9 := y9) (x11 := y11) (x12 := y12') (x13 := y13) (x14 := y14) (x15 := none)
  refine ⟨st', S', T', ps', ?_, w3, w4⟩
  have b1 : eA [some (.ref n), some (.ref t), some (.ref p), some (.int wi), none, none, none, none, none, none, none, none, none, none, none, none] s = some (.nx, [some (.ref n), some (.ref t), some (.ref p), some (.int wi), some (.int (1 + q)), some (.int y), none, none, none, none, none, none, none, none, none, none], s2) := by
    simp [eA, sPar, par2, aCons, aNil, fOp, fC, fCall, fVar, e_pick, g1, opAdd_int, g2]
  have c1 : ∀ (k : Int) (x : D) (l : Store), L2.atI [D.dct r, .dct c] k = some x → fSub (fSub (fVar 2) (fUn negI (fC (.int 1)))) (fC (.int k)) [some (.ref n), some (.ref t), some (.ref p), some (.int wi), some (.int (1 + q)), some (.int y), none, none, none, none, none, none, none, none, none, none] (s2 ++ l) = some (x, s2 ++ l) := fun k x l e => by
    have pp := app_at h2.past l
    have la' : L2.atI (ps.map prD) (-1) = some (.lst [.dct r, .dct c]) := la
    simp [fSub, fVar, fUn, negI, fC, ixD, pp, la', e]
  have d0 := c1 0 (.dct r) [] i0
  rw [List.append_nil] at d0
  have d1 := c1 1 (.dct c) [.dct r] i1
  have b2 : eB [some (.ref n), some (.ref t), some (.ref p), some (.int wi), some (.int (1 + q)), some (.int y), none, none, none, none, none, none, none, none, none, none] s2 = some (.nx, [some (.ref n), some (.ref t), some (.ref p), some (.int wi), some (.int (1 + q)), some (.int y), some (.ref L), some (.ref (L + 1)), none, none, none, none, none, none, none, none], s2 ++ [.dct r, .dct c]) := by
    unfold eB
    rw [sPar, aCons, fDictC, d0]
    simp only [Option.bind_some, dctAt, Option.map_some]
    rw [aCons, fDictC, d1]
    simp [dctAt, aNil, par2, L]
  have b3 : eC [some (.ref n), some (.ref t), some (.ref p), some (.int wi), some (.int (1 + q)), some (.int y), some (.ref L), some (.ref (L + 1)), none, none, none, none, none, none, none, none] (s2 ++ [.dct r, .dct c]) = some (.nx, ev n t p wi L (L + 2) (some (.int (1 + q))) (some (.int y)) none none none none none none none, s2 ++ [.dct r, .dct c, .dct r]) := by
    have e : (s2 ++ [Ob.dct r, .dct c])[L]? = some (.dct r) := by show (s2 ++ _)[s2.length]? = _; simp
    simp [eC, sAsg, fDictC, fVar, dctAt, e, gN, ev, L]
  rw [m__law_edit, edit_eq, mOf]
  show outM (sSeq eA _ [some (.ref n), some (.ref t), some (.ref p), some (.int wi), none, none, none, none, none, none, none, none, none, none, none, none] s) = _
  rw [sSeq, b1]
  simp only [Option.bind_some]
  rw [sSeq, b2]
  simp only [Option.bind_some]
  rw [sSeq, b3]
  simp only [Option.bind_some]
  rw [sSeq, w1]
  simp only [Option.bind_some]
  rw [w2]
  rfl
end LW
namespace LW
open PySem PySem.Spec PyProof.Rows L2 DL TL
noncomputable abbrev vAg : FS := (sSeq (sPar (par2 6 7) (aCons (fMeth "Table" "rows_at" m_Table_rows_at (fVar 0) (aCons (fVar 2) aNil)) (aCons (fMeth "Table" "changes_at" m_Table_changes_at (fVar 0) (aCons (fVar 2) aNil)) aNil))) (sSeq (sIf (fOrT (fNotT (fTest (fIsi "dict" (fVar 6)))) (fNotT (fTest (fIsi "dict" (fVar 7))))) (sRet (fC (.bl false))) sNil) (sSeq (sIf (fTest (fOp opNeS (fMk bReprA (aCons (fSortI (fVar 6)) aNil)) (fMk bReprA (aCons (fSortI (fVar 3)) aNil)))) (sRet (fC (.bl false))) sNil) (sSeq (sIf (fTest (fOp opNeS (fMk bReprA (aCons (fSortI (fVar 7)) aNil)) (fMk bReprA (aCons (fSortI (fVar 4)) aNil)))) (sRet (fC (.bl false))) sNil) (sSeq (sDrop (fClear (fVar 6))) (sDrop (fClear (fVar 7))))))))
noncomputable abbrev vBd : FS := (sSeq (sAsg (fSub (fVar 1) (fVar 2)) (gTL 2 (gCons' (gN 3) (gCons' (gN 4) gNil')))) (sFor (iOfA asR1 (aCons (fC (.int 2)) aNil)) (gN 5) (sSeq (sPar (par2 6 7) (aCons (fMeth "Table" "rows_at" m_Table_rows_at (fVar 0) (aCons (fVar 2) aNil)) (aCons (fMeth "Table" "changes_at" m_Table_changes_at (fVar 0) (aCons (fVar 2) aNil)) aNil))) (sSeq (sIf (fOrT (fNotT (fTest (fIsi "dict" (fVar 6)))) (fNotT (fTest (fIsi "dict" (fVar 7))))) (sRet (fC (.bl false))) sNil) (sSeq (sIf (fTest (fOp opNeS (fMk bReprA (aCons (fSortI (fVar 6)) aNil)) (fMk bReprA (aCons (fSortI (fVar 3)) aNil)))) (sRet (fC (.bl false))) sNil) (sSeq (sIf (fTest (fOp opNeS (fMk bReprA (aCons (fSortI (fVar 7)) aNil)) (fMk bReprA (aCons (fSortI (fVar 4)) aNil)))) (sRet (fC (.bl false))) sNil) (sSeq (sDrop (fClear (fVar 6))) (sDrop (fClear (fVar 7))))))))))
noncomputable abbrev v0 : FS := (sPar (par2 6 7) (aCons (fMeth "Table" "rows_at" m_Table_rows_at (fVar 0) (aCons (fVar 2) aNil)) (aCons (fMeth "Table" "changes_at" m_Table_changes_at (fVar 0) (aCons (fVar 2) aNil)) aNil)))
noncomputable abbrev v1 : FS := (sIf (fOrT (fNotT (fTest (fIsi "dict" (fVar 6)))) (fNotT (fTest (fIsi "dict" (fVar 7))))) (sRet (fC (.bl false))) sNil)
noncomputable abbrev v2 : FS := (sIf (fTest (fOp opNeS (fMk bReprA (aCons (fSortI (fVar 6)) aNil)) (fMk bReprA (aCons (fSortI (fVar 3)) aNil)))) (sRet (fC (.bl false))) sNil)
noncomputable abbrev v3 : FS := (sIf (fTest (fOp opNeS (fMk bReprA (aCons (fSortI (fVar 7)) aNil)) (fMk bReprA (aCons (fSortI (fVar 4)) aNil)))) (sRet (fC (.bl false))) sNil)
noncomputable abbrev v4 : FS := (sDrop (fClear (fVar 6)))
noncomputable abbrev v5 : FS := (sDrop (fClear (fVar 7)))
theorem vAg_eq : vAg = sSeq v0 (sSeq v1 (sSeq v2 (sSeq v3 (sSeq v4 v5)))) := rfl

variable {w : Nat} {wi : Int} {s st : Store} {n t sp ss p L G : Nat} {cs : List D} {S : List KL} {T r c g : KL} {ps : List (KL × KL)}
theorem wL_mem_le {m : Nat} {vs : List D} (h : ∀ v ∈ vs, wD v ≤ m) (hl : vs.length ≤ 60) (hm : m ≤ 3000) : wL vs ≤ 190000 := by
  have := wL_le h
  have h2 : vs.length * (m + 1) ≤ 60 * 3001 := Nat.mul_le_mul hl (by omega)
  omega
theorem item_ok {l : KL} (o : okK U7 l) (hw : w ≤ 10) (h : ∀ i d, gt l i = some d → Rv w d ∨ ∃ k : Nat, d = .int k ∧ k ≤ 1000) : ∃ x, ∀ st, bReprA [.lst (itemsD l)] st = some (.str x) := by
  have it : ∀ d ∈ itemsD l, okD d = true ∧ wD d ≤ 2500 ∧ hD d ≤ 2 := fun d hd => by
    obtain ⟨q, hq, rfl⟩ := List.mem_map.mp hd
    have hq' := (sortK_perm l).mem_iff.mp hq
    obtain ⟨i, hi, e⟩ := o.mem q hq'
    obtain ⟨k, v⟩ := q
    have e' : k = .inl i := e
    subst e'
    have gv := h i v ((valD_some o.nd).mpr hq')
    have ib : 1 ≤ i ∧ i ≤ 1000000 := by
      have : i = 1 ∨ i = 2 ∨ i = 3 ∨ i = 4 ∨ i = 5 ∨ i = 6 ∨ i = 7 := by simpa [U7] using hi
      omega
    obtain ⟨b1, b2⟩ := okw_int ib
    show okD (.tup [.int i, v]) = true ∧ wD (.tup [.int i, v]) ≤ 2500 ∧ hD (.tup [.int i, v]) ≤ 2
    rcases gv with ⟨vs, rfl, hl, hv⟩ | ⟨k, rfl, hk⟩
    · have wv : wL vs ≤ vs.length * (200 + 11) := by
        have : ∀ {vs : List D}, (∀ v ∈ vs, valB v = true) → wL vs ≤ vs.length * 211 := by
          intro vs
          induction vs with
          | nil => exact fun _ => Nat.le_refl _
          | cons v vs ih =>
            intro h
            have h1 := ih fun u hu => h u (List.mem_cons_of_mem _ hu)
            have h2 : wD v ≤ 210 := by
              have hv := h v List.mem_cons_self
              cases v with
              | non => exact Nat.zero_le _
              | int i => exact Nat.le_refl 210
              | str x => obtain ⟨a, _⟩ := valB_str hv; exact Nat.le_trans a (by decide)
              | _ => cases hv
            rw [wL, List.length_cons, Nat.add_mul]
            omega
        exact this hv
      have hl2 : vs.length * (200 + 11) ≤ 10 * 211 := Nat.mul_le_mul (by omega) (Nat.le_refl _)
      have ov : okL vs = true := okL_mem.mpr fun v m => (val_okw (hv v m)).1
      have hv0 : hL vs ≤ 0 := hL_le.mpr fun v m => Nat.le_of_eq (val_okw (hv v m)).2.2
      refine ⟨Bool.and_eq_true_iff.mpr ⟨b1, Bool.and_eq_true_iff.mpr ⟨ov, rfl⟩⟩, ?_, ?_⟩
      · show wL [.int i, .tup vs] ≤ 2500
        rw [wL, wL, wL, b2]
        show 210 + 1 + (wL vs + 1 + 0) ≤ 2500
        omega
      · show max 0 (max (hL vs + 1) 0) + 1 ≤ 2
        omega
    · have kb : okD (.int (k : Int)) = true := decide_eq_true (by
        have : (10 : Nat) ^ 7 ≤ 10 ^ 62 := by decide
        omega)
      refine ⟨Bool.and_eq_true_iff.mpr ⟨b1, Bool.and_eq_true_iff.mpr ⟨kb, rfl⟩⟩, ?_, ?_⟩
      · show 210 + 1 + (210 + 1 + 0) ≤ 2500
        omega
      · show max 0 (max 0 0) + 1 ≤ 2
        omega
  have len : (itemsD l).length ≤ 7 := by
    show ((sortK l).map _).length ≤ 7
    rw [List.length_map, (sortK_perm l).length_eq]
    exact o.len
  refine repr_any (okL_mem.mpr fun d hd => (it d hd).1) ?_ ?_
  · show hL (itemsD l) + 1 ≤ 64
    have := hL_le.mpr fun d hd => (it d hd).2.2
    omega
  · show wL (itemsD l) ≤ 200000
    have := wL_mem_le (fun d hd => (it d hd).2.1) (by omega) (by decide)
    omega
abbrev vv (t p : Nat) (x2 x3 x4 x5 x6 x7 : Option D) : Lo := [some (.ref t), some (.ref p), x2, x3, x4, x5, x6, x7]
theorem Wd.put (h : Wd U7 w s n t sp ss p cs S T ps) {M : Nat} (o : Ob) (h1 : M ≠ n) (h2 : M ≠ t) (h3 : M ≠ sp) (h4 : M ≠ ss) (h5 : M ≠ p) : Wd U7 w (s.set M o) n t sp ss p cs S T ps :=
  ⟨Tp.of h.tp (by rw [List.getElem?_set_ne h1]), h.tab.set o h2 h3 h4, by rw [List.getElem?_set_ne h5]; exact h.past, h.pst, h.d1, h.d2, h.d3, h.d4, h.d5, h.d6, h.d7, h.cl, h.w0, h.cw, h.sl, h.pos⟩
theorem again_ok (h : Wd U7 w s n t sp ss p cs S T ps) {v : Nat} {vi : Int} (hvi : vi = v) (hp : ps[v]? = some (r, c)) {x5 x6 x7 : Option D} :
    ∃ s' y6 y7, vAg (vv t p (some (.int vi)) (some (.dct r)) (some (.dct c)) x5 x6 x7) s = some (.nx, vv t p (some (.int vi)) (some (.dct r)) (some (.dct c)) x5 y6 y7, s') ∧ Wd U7 w s' n t sp ss p cs S T ps := by
  have vs := h.pst.at_ v r c hp
  have pl : ps.length = S.length := h.pst.len
  have vl : v < S.length := by have := at_some hp; omega
  have hz : OkT (ap (S.take (v + 1))) := vs.okT h.cw vs.z
  have hz' : ∀ i d, gt (ap (S.take (v + 1))) i = some d → ∃ c x, d = .tup [c, x] := fun i d e => by obtain ⟨c, x, a, _⟩ := hz i d e; exact ⟨c, x, a⟩
  have sl := h.sl
  obtain ⟨R, r1, r2, r3⟩ := rowsat_ok U7_len h.tab h.pst.steps vl (by omega) hz'
  generalize hZ : ap (S.take (v + 1)) = Z at *
  have h1 := h.app [.dct Z, .dct R]
  obtain ⟨C, c1, c2, c3⟩ := changesat_ok U7_len h1.tab h1.pst.steps vl (by omega) (by rw [hZ]; exact hz')
  rw [hZ] at c1 c3
  have zr : ∀ i, (gt Z i).map sndD = gt r i := fun i => by
    rw [vs.z, cmb]
    have q := vs.cs i
    cases e : gt r i with
    | none => rfl
    | some x =>
      rw [e] at q
      obtain ⟨y, hy⟩ := Option.isSome_iff_exists.mp q
      rw [hy]; rfl
  have zc : ∀ i, (gt Z i).map fstD = gt c i := fun i => by
    rw [vs.z, cmb]
    have q := vs.cs i
    cases e : gt r i with
    | none =>
      rw [e] at q
      cases e2 : gt c i with
      | none => rfl
      | some _ => rw [e2] at q; cases q
    | some x =>
      rw [e] at q
      obtain ⟨y, hy⟩ := Option.isSome_iff_exists.mp q
      rw [hy]; rfl
  have iR : itemsD R = itemsD r := itemsD_eq r2 vs.or_ fun i => by rw [r3, zr]
  have iC : itemsD C = itemsD c := itemsD_eq c2 vs.oc fun i => by rw [c3, zc]
  obtain ⟨xr, hr⟩ := item_ok vs.or_ h.cw (fun i d e => .inl (vs.rv i d e))
  obtain ⟨xc, hc⟩ := item_ok (w := w) vs.oc h.cw (fun i d e => .inr (vs.cv i d e))
  let s2 : Store := s ++ [.dct Z, .dct R] ++ [.dct Z, .dct C]
  have h2 : Wd U7 w s2 n t sp ss p cs S T ps := h1.app _
  have l1 : (s ++ [Ob.dct Z, .dct R]).length = s.length + 2 := by simp
  rw [l1] at c1
  have aR : s2[s.length + 1]? = some (.dct R) := by
    show ((s ++ [Ob.dct Z, .dct R]) ++ [Ob.dct Z, .dct C])[s.length + 1]? = _
    rw [List.getElem?_append_left (by rw [l1]; omega), List.getElem?_append_right (by omega)]; simp
  have aC : s2[s.length + 2 + 1]? = some (.dct C) := by
    show ((s ++ [Ob.dct Z, .dct R]) ++ [Ob.dct Z, .dct C])[s.length + 2 + 1]? = _
    rw [List.getElem?_append_right (by rw [l1]; omega), l1]; simp
  rw [← hvi] at r1 c1
  have m1 : noF "rows_at" (insAt "Table" t s) = true := noF_T h.tab fun _ => rfl
  have m2 : noF "changes_at" (insAt "Table" t (s ++ [.dct Z, .dct R])) = true := noF_T h1.tab fun _ => rfl
  have k0 : v0 (vv t p (some (.int vi)) (some (.dct r)) (some (.dct c)) x5 x6 x7) s = some (.nx, vv t p (some (.int vi)) (some (.dct r)) (some (.dct c)) x5 (some (.ref (s.length + 1))) (some (.ref (s.length + 2 + 1))), s2) := by
    have q1 : fMeth "Table" "rows_at" m_Table_rows_at (fVar 0) (aCons (fVar 2) aNil) (vv t p (some (.int vi)) (some (.dct r)) (some (.dct c)) x5 x6 x7) s = some (.ref (s.length + 1), s ++ [.dct Z, .dct R]) := by
      simp [fMeth, fVar, vv, m1, aCons, aNil, r1]
    have q2 : fMeth "Table" "changes_at" m_Table_changes_at (fVar 0) (aCons (fVar 2) aNil) (vv t p (some (.int vi)) (some (.dct r)) (some (.dct c)) x5 x6 x7) (s ++ [.dct Z, .dct R]) = some (.ref (s.length + 2 + 1), s2) := by
      simp only [fMeth]
      simp [fVar, vv, m2, aCons, aNil, c1, s2]
    unfold v0
    rw [sPar, aCons, q1]
    simp only [Option.bind_some]
    rw [aCons, q2]
    rfl
  generalize hs2 : s2 = s2' at *
  have k1 : v1 (vv t p (some (.int vi)) (some (.dct r)) (some (.dct c)) x5 (some (.ref (s.length + 1))) (some (.ref (s.length + 2 + 1)))) s2' = some (.nx, vv t p (some (.int vi)) (some (.dct r)) (some (.dct c)) x5 (some (.ref (s.length + 1))) (some (.ref (s.length + 2 + 1))), s2') := by
    simp [v1, sIf, fOrT, fNotT, fTest, fIsi, fVar, vv, tyD, tyOb, aR, aC, isiB, asB, sNil]
  have si : ∀ {l : KL}, okK U7 l → ∃ ks, intKs l = some ks ∧ ks.Nodup := fun {l} o => by
    obtain ⟨ks, a, _, b, _⟩ := o.ints
    exact ⟨ks, a, b⟩
  obtain ⟨kR, sR1, sR2⟩ := si r2
  obtain ⟨kC, sC1, sC2⟩ := si c2
  obtain ⟨kr, sr1, sr2⟩ := si vs.or_
  obtain ⟨kc, sc1, sc2⟩ := si vs.oc
  have k2 : v2 (vv t p (some (.int vi)) (some (.dct r)) (some (.dct c)) x5 (some (.ref (s.length + 1))) (some (.ref (s.length + 2 + 1)))) s2' = some (.nx, vv t p (some (.int vi)) (some (.dct r)) (some (.dct c)) x5 (some (.ref (s.length + 1))) (some (.ref (s.length + 2 + 1))), s2') := by
    simp [v2, sIf, fTest, fOp, fMk, aCons, aNil, fSortI, fVar, vv, dctAt, aR, sR1, sR2, sr1, sr2, iR, hr, opNeS_same, asB, sNil]
  have k3 : v3 (vv t p (some (.int vi)) (some (.dct r)) (some (.dct c)) x5 (some (.ref (s.length + 1))) (some (.ref (s.length + 2 + 1)))) s2' = some (.nx, vv t p (some (.int vi)) (some (.dct r)) (some (.dct c)) x5 (some (.ref (s.length + 1))) (some (.ref (s.length + 2 + 1))), s2') := by
    simp [v3, sIf, fTest, fOp, fMk, aCons, aNil, fSortI, fVar, vv, dctAt, aC, sC1, sC2, sc1, sc2, iC, hc, opNeS_same, asB, sNil]
  have k4 : v4 (vv t p (some (.int vi)) (some (.dct r)) (some (.dct c)) x5 (some (.ref (s.length + 1))) (some (.ref (s.length + 2 + 1)))) s2' = some (.nx, vv t p (some (.int vi)) (some (.dct r)) (some (.dct c)) x5 (some (.ref (s.length + 1))) (some (.ref (s.length + 2 + 1))), s2'.set (s.length + 1) (.dct [])) := by
    simp [v4, sDrop, fClear, fVar, vv, aR]
  have aC2 : (s2'.set (s.length + 1) (.dct []))[s.length + 2 + 1]? = some (.dct C) := by rw [List.getElem?_set_ne (by omega)]; exact aC
  have k5 : v5 (vv t p (some (.int vi)) (some (.dct r)) (some (.dct c)) x5 (some (.ref (s.length + 1))) (some (.ref (s.length + 2 + 1)))) (s2'.set (s.length + 1) (.dct [])) = some (.nx, vv t p (some (.int vi)) (some (.dct r)) (some (.dct c)) x5 (some (.ref (s.length + 1))) (some (.ref (s.length + 2 + 1))), (s2'.set (s.length + 1) (.dct [])).set (s.length + 2 + 1) (.dct [])) := by
    generalize s2'.set (s.length + 1) (.dct []) = s3 at aC2
    simp [v5, sDrop, fClear, fVar, vv, aC2]
  have b1 := h.tp.lt
  have b2 := at_some h.tab.tab
  have b3 := at_some h.tab.stp
  have b4 := at_some h.tab.sta
  have b5 := at_some h.past
  refine ⟨_, some (.ref (s.length + 1)), some (.ref (s.length + 2 + 1)), ?_, (h2.put (.dct []) (M := s.length + 1) (by omega) (by omega) (by omega) (by omega) (by omega)).put (.dct []) (M := s.length + 2 + 1) (by omega) (by omega) (by omega) (by omega) (by omega)⟩
  rw [vAg_eq, sSeq, k0]
  simp only [Option.bind_some]
  rw [sSeq, k1]
  simp only [Option.bind_some]
  rw [sSeq, k2]
  simp only [Option.bind_some]
  rw [sSeq, k3]
  simp only [Option.bind_some]
  rw [sSeq, k4]
  simp only [Option.bind_some]
  exact k5
theorem versions_ok (h : Wd U7 w s n t sp ss p cs S T ps) : ∃ s', m__law_versions_right [.ref t, .ref p] s = some (.bl true, s') ∧ Wd U7 w s' n t sp ss p cs S T ps := by
  have pl : ps.length = S.length := h.pst.len
  have sl := h.sl
  obtain ⟨N, hN⟩ : ∃ N : Int, N = ps.length := ⟨_, rfl⟩
  obtain ⟨e2, s2, g2, ⟨y2, y3, y4, y5, y6, y7, he⟩, w2⟩ := loopS_inv (tg := gN 2) (body := vBd) (fun env st => (∃ y2 y3 y4 y5 y6 y7, env = vv t p y2 y3 y4 y5 y6 y7) ∧ Wd U7 w st n t sp ss p cs S T ps) (ds := rg 0 N) (fun d hd env st i => by
    obtain ⟨⟨y2, y3, y4, y5, y6, y7, rfl⟩, wd⟩ := i
    obtain ⟨vi, rfl, v0', v1'⟩ := rg_mem hd
    obtain ⟨v, hv⟩ : ∃ v : Nat, vi = (v : Int) := ⟨vi.toNat, (Int.toNat_of_nonneg v0').symm⟩
    obtain ⟨⟨r, c⟩, hp⟩ : ∃ x, ps[v]? = some x := ⟨ps[v]'(by omega), List.getElem?_eq_getElem (by omega)⟩
    have ia : L2.atI (ps.map prD) vi = some (.lst [.dct r, .dct c]) := by
      have := atI_nat (xs := ps.map prD) (j := v) (v := prD (r, c)) (by rw [List.getElem?_map, hp]; rfl)
      rw [hv]; exact this
    have hpast := wd.past
    obtain ⟨e3, s3, g3, ⟨z5, z6, z7, hz⟩, w3⟩ := loopS_inv (tg := gN 5) (body := vAg) (fun env st => (∃ z5 z6 z7, env = vv t p (some (.int vi)) (some (.dct r)) (some (.dct c)) z5 z6 z7) ∧ Wd U7 w st n t sp ss p cs S T ps) (ds := rg 0 2) (fun d hd env st i => by
      obtain ⟨⟨z5, z6, z7, rfl⟩, wd⟩ := i
      obtain ⟨s', y6, y7, k1, k2⟩ := again_ok wd hv hp (x5 := some d) (x6 := z6) (x7 := z7)
      exact ⟨vv t p (some (.int vi)) (some (.dct r)) (some (.dct c)) (some d) z6 z7, rfl, .nx, _, s', k1, .inl rfl, ⟨_, _, _, rfl⟩, k2⟩) (env := vv t p (some (.int vi)) (some (.dct r)) (some (.dct c)) y5 y6 y7) (st := st) ⟨⟨_, _, _, rfl⟩, wd⟩
    subst hz
    have ra := asR1_ok (n := 2) (by decide) (by decide)
    refine ⟨vv t p (some (.int vi)) y3 y4 y5 y6 y7, rfl, .nx, vv t p (some (.int vi)) (some (.dct r)) (some (.dct c)) z5 z6 z7, s3, ?_, .inl rfl, ⟨_, _, _, _, _, _, rfl⟩, w3⟩
    have k1 : sAsg (fSub (fVar 1) (fVar 2)) (gTL 2 (gCons' (gN 3) (gCons' (gN 4) gNil'))) (vv t p (some (.int vi)) y3 y4 y5 y6 y7) st = some (.nx, vv t p (some (.int vi)) (some (.dct r)) (some (.dct c)) y5 y6 y7, st) := by
      simp [sAsg, fSub, fVar, vv, ixD, hpast, ia, gTL, gCons', gNil', gN]
    have k2 : sFor (iOfA asR1 (aCons (fC (.int 2)) aNil)) (gN 5) vAg (vv t p (some (.int vi)) (some (.dct r)) (some (.dct c)) y5 y6 y7) st = some (.nx, vv t p (some (.int vi)) (some (.dct r)) (some (.dct c)) z5 z6 z7, s3) := by
      rw [sFor, iOfA]
      simp only [aCons, aNil, fC, Option.bind_some, ra, Option.map_some]
      exact g3
    unfold vBd
    rw [sSeq, k1]
    simp only [Option.bind_some]
    exact k2) (env := vv t p none none none none none none) (st := s) ⟨⟨_, _, _, _, _, _, rfl⟩, h⟩
  subst he
  have ra := asR1_ok (n := N) (by omega) (by omega)
  have hpast := h.past
  refine ⟨s2, ?_, w2⟩
  have k0 : iOfA asR1 (aCons (fMk bLen (aCons (fVar 1) aNil)) aNil) (vv t p none none none none none none) s = some (rg 0 N, s) := by
    have q : fMk bLen (aCons (fVar 1) aNil) (vv t p none none none none none none) s = some (.int N, s) := by
      rw [hN]
      simp [fMk, aCons, aNil, fVar, vv, bLen, lenL, hpast]
    rw [iOfA, aCons, q]
    simp only [Option.bind_some, aNil, Option.map_some, ra]
  rw [m__law_versions_right, g__law_versions_right, mOf]
  show outM (sSeq (sFor (iOfA asR1 (aCons (fMk bLen (aCons (fVar 1) aNil)) aNil)) (gN 2) vBd) (sRet (fC (.bl true))) (vv t p none none none none none none) s) = _
  rw [sSeq, sFor, k0]
  simp only [Option.bind_some]
  rw [g2]
  rfl
end LW
namespace LW
open PySem PySem.Spec PyProof.Rows L2 DL TL
noncomputable abbrev lTurn : FS := (sSeq (sAsg (fCall m__law_edit (aCons (fVar 2) (aCons (fVar 5) (aCons (fVar 6) (aCons (fVar 3) aNil))))) (gN 8)) (sIf (fOrT (fTest (fOp opNeS (fMk bReprA (aCons (fVar 8) aNil)) (fMk bReprA (aCons (fOp subI (fMk bLen (aCons (fVar 6) aNil)) (fC (.int 1))) aNil)))) (fOrT (fTest (fOp opNe (fMeth0 "Table" "present" m_Table_present (fVar 5)) (fVar 8))) (fTest (fOp opNe (fLenO "Table" m_Table___len__ (fVar 5)) (fMk bLen (aCons (fSub (fSub (fVar 6) (fUn negI (fC (.int 1)))) (fC (.int 0))) aNil)))))) (sRet (fC (.bl false))) sNil))
noncomputable abbrev lBody : FS := (sSeq (sAsg (fCall m__law_tape (aCons (fVar 0) (aCons (fVar 1) aNil))) (gN 2)) (sSeq (sAsg (fOp opAdd (fC (.int 1)) (fCall m__law_pick (aCons (fVar 2) (aCons (fC (.int 3)) aNil)))) (gN 3)) (sSeq (sAsg (fSlice (fMk mkTup (aCons (fC (.str (Str.ofString "a"))) (aCons (fC (.str (Str.ofString "bb"))) (aCons (fC (.str (Str.ofString "ccc"))) aNil)))) oNone (oSome (fVar 3))) (gN 4)) (sSeq (sAsg (fMake "Table" m_Table___init__ (aCons (fVar 4) aNil)) (gN 5)) (sSeq (sAsg (fNewL (aCons (fMk mkLst (aCons (fC (.dct [])) (aCons (fC (.dct [])) aNil))) aNil)) (gN 6)) (sSeq (sFor (iOfA asR1 (aCons (fC (.int 14)) aNil)) (gN 7) (sSeq (sAsg (fCall m__law_edit (aCons (fVar 2) (aCons (fVar 5) (aCons (fVar 6) (aCons (fVar 3) aNil))))) (gN 8)) (sIf (fOrT (fTest (fOp opNeS (fMk bReprA (aCons (fVar 8) aNil)) (fMk bReprA (aCons (fOp subI (fMk bLen (aCons (fVar 6) aNil)) (fC (.int 1))) aNil)))) (fOrT (fTest (fOp opNe (fMeth0 "Table" "present" m_Table_present (fVar 5)) (fVar 8))) (fTest (fOp opNe (fLenO "Table" m_Table___len__ (fVar 5)) (fMk bLen (aCons (fSub (fSub (fVar 6) (fUn negI (fC (.int 1)))) (fC (.int 0))) aNil)))))) (sRet (fC (.bl false))) sNil))) (sSeq (sIf (fOrT (fTest (fEqR true (fMeth0 "Table" "known_versions" m_Table_known_versions (fVar 5)) (fLstRg (fMk bLen (aCons (fVar 6) aNil))))) (fTest (fOp opNe (fMeth0 "Table" "column_names" m_Table_column_names (fVar 5)) (fVar 4)))) (sRet (fC (.bl false))) sNil) (sSeq (sDrop (fApp (fMeth0 "Table" "known_versions" m_Table_known_versions (fVar 5)) (fC .non))) (sIf (fOrT (fTest (fEqR true (fMeth0 "Table" "known_versions" m_Table_known_versions (fVar 5)) (fLstRg (fMk bLen (aCons (fVar 6) aNil))))) (fNotT (fTest (fCall m__law_versions_right (aCons (fVar 5) (aCons (fVar 6) aNil)))))) (sRet (fC (.bl false))) sNil)))))))))
noncomputable abbrev l0 : FS := (sAsg (fCall m__law_tape (aCons (fVar 0) (aCons (fVar 1) aNil))) (gN 2))
noncomputable abbrev l1 : FS := (sAsg (fOp opAdd (fC (.int 1)) (fCall m__law_pick (aCons (fVar 2) (aCons (fC (.int 3)) aNil)))) (gN 3))
noncomputable abbrev l2 : FS := (sAsg (fSlice (fMk mkTup (aCons (fC (.str (Str.ofString "a"))) (aCons (fC (.str (Str.ofString "bb"))) (aCons (fC (.str (Str.ofString "ccc"))) aNil)))) oNone (oSome (fVar 3))) (gN 4))
noncomputable abbrev l3 : FS := (sAsg (fMake "Table" m_Table___init__ (aCons (fVar 4) aNil)) (gN 5))
noncomputable abbrev l4 : FS := (sAsg (fNewL (aCons (fMk mkLst (aCons (fC (.dct [])) (aCons (fC (.dct [])) aNil))) aNil)) (gN 6))
noncomputable abbrev l5 : FS := (sFor (iOfA asR1 (aCons (fC (.int 14)) aNil)) (gN 7) (sSeq (sAsg (fCall m__law_edit (aCons (fVar 2) (aCons (fVar 5) (aCons (fVar 6) (aCons (fVar 3) aNil))))) (gN 8)) (sIf (fOrT (fTest (fOp opNeS (fMk bReprA (aCons (fVar 8) aNil)) (fMk bReprA (aCons (fOp subI (fMk bLen (aCons (fVar 6) aNil)) (fC (.int 1))) aNil)))) (fOrT (fTest (fOp opNe (fMeth0 "Table" "present" m_Table_present (fVar 5)) (fVar 8))) (fTest (fOp opNe (fLenO "Table" m_Table___len__ (fVar 5)) (fMk bLen (aCons (fSub (fSub (fVar 6) (fUn negI (fC (.int 1)))) (fC (.int 0))) aNil)))))) (sRet (fC (.bl false))) sNil)))
noncomputable abbrev l6 : FS := (sIf (fOrT (fTest (fEqR true (fMeth0 "Table" "known_versions" m_Table_known_versions (fVar 5)) (fLstRg (fMk bLen (aCons (fVar 6) aNil))))) (fTest (fOp opNe (fMeth0 "Table" "column_names" m_Table_column_names (fVar 5)) (fVar 4)))) (sRet (fC (.bl false))) sNil)
noncomputable abbrev l7 : FS := (sDrop (fApp (fMeth0 "Table" "known_versions" m_Table_known_versions (fVar 5)) (fC .non)))
noncomputable abbrev l8 : FS := (sIf (fOrT (fTest (fEqR true (fMeth0 "Table" "known_versions" m_Table_known_versions (fVar 5)) (fLstRg (fMk bLen (aCons (fVar 6) aNil))))) (fNotT (fTest (fCall m__law_versions_right (aCons (fVar 5) (aCons (fVar 6) aNil)))))) (sRet (fC (.bl false))) sNil)
theorem lBody_eq : lBody = sSeq l0 (sSeq l1 (sSeq l2 (sSeq l3 (sSeq l4 (sSeq l5 (sSeq l6 (sSeq l7 (l8)))))))) := rfl

variable {w : Nat} {wi : Int} {s st : Store} {n t sp ss p L G : Nat} {cs : List D} {S : List KL} {T r c g : KL} {ps : List (KL × KL)}
theorem loopS_ix {tg : FG} {body : FS} {I : Nat → Lo → Store → Prop} : ∀ {ds : List D} {k : Nat} {env : Lo} {st : Store}, (∀ m d env st, m < k + ds.length → I m env st → ∃ e1, tg d env = some e1 ∧ ∃ e2 s2, body e1 st = some (.nx, e2, s2) ∧ I (m + 1) e2 s2) → I k env st →
    ∃ e2 s2, loopS tg body ds env st = some (.nx, e2, s2) ∧ I (k + ds.length) e2 s2
  | [], k, env, st, _, i => ⟨env, st, rfl, i⟩
  | d :: ds, k, env, st, h, i => by
    obtain ⟨e1, h1, e2, s2, h2, i2⟩ := h k d env st (by simp) i
    obtain ⟨e3, s3, h3, i3⟩ := loopS_ix (ds := ds) (k := k + 1) (env := e2) (st := s2) (fun m d env st hm => h m d env st (by rw [List.length_cons]; omega)) i2
    exact ⟨e3, s3, by simp [loopS, h1, h2, h3], by rw [List.length_cons, show k + (ds.length + 1) = k + 1 + ds.length by omega]; exact i3⟩
theorem rg_py {N : Int} (h0 : 0 ≤ N) (h1 : N ≤ 60) : ∃ x, toPy (.lst (rg 0 N)) = some x ∧ SeqAt.shaped x = true ∧ PyData.eqv x x = true := by
  obtain ⟨p, k1, k2, k3, _⟩ := Sm.lst (SmL.all (dp := 0) (wt := 40) (ds := rg 0 N) fun d hd => by
    obtain ⟨i, rfl, i0, i1⟩ := rg_mem hd
    exact pv_sm (show pvB (.int i) = true from decide_eq_true (by omega)))
  refine ⟨p, k1, ?_, SeqAt.eqv_refl p k2⟩
  unfold SeqAt.shaped
  rw [k2, decide_eq_true (by omega)]; rfl
theorem repr_int (k : Int) (h : 0 ≤ k ∧ k ≤ 1000) : ∃ x, ∀ st, bReprA [.int k] st = some (.str x) :=
  repr_any (decide_eq_true (by have : (10 : Nat) ^ 7 ≤ 10 ^ 62 := by decide
                               omega)) (by show 0 ≤ 64; decide) (by show 210 ≤ 200000; decide)
theorem Wd.tlen (h : Wd U7 w s n t sp ss p cs S T ps) (hl : ps[ps.length - 1]? = some (r, c)) : T.length = r.length := by
  have vs := h.pst.at_ _ r c hl
  have lst := h.pst.last r c hl
  have key : ∀ i, (gt T i).isSome = (gt r i).isSome := fun i => by
    rw [lst, cmb]
    have q := vs.cs i
    cases e : gt r i with
    | none => rfl
    | some x =>
      rw [e] at q
      obtain ⟨y, hy⟩ := Option.isSome_iff_exists.mp q
      rw [hy]; rfl
  have sub : ∀ {a b : KL}, okK U7 a → (∀ i, (gt a i).isSome = (gt b i).isSome) → ∀ k ∈ a.map (·.1), k ∈ b.map (·.1) := fun {a b} o e k hk => by
    obtain ⟨q, hq, rfl⟩ := List.mem_map.mp hk
    obtain ⟨i, _, ei⟩ := o.mem q hq
    refine Classical.byContradiction fun n => ?_
    have n' : valD b q.1 = none := valD_none.mpr n
    rw [ei] at n'
    have z := e i
    have n2 : gt b i = none := n'
    rw [n2] at z
    obtain ⟨k, v⟩ := q
    have ei' : k = .inl i := ei
    subst ei'
    have z2 : gt a i = some v := (valD_some o.nd).mpr hq
    rw [z2] at z
    cases z
  have q1 := nodup_sub h.pst.oT.nd (sub h.pst.oT key)
  have q2 := nodup_sub vs.or_.nd (sub vs.or_ fun i => (key i).symm)
  simp at q1 q2
  omega
abbrev lv (a0 a1 : Option D) (n : Nat) (wi : Int) (cs : List D) (t p : Nat) (a7 a8 : Option D) : Lo := [a0, a1, some (.ref n), some (.int wi), some (.tup cs), some (.ref t), some (.ref p), a7, a8]
theorem turn_ok (h : Wd U7 w s n t sp ss p cs S T ps) (hwi : wi = (w : Int)) (hS : S.length < 60) {a0 a1 a7 a8 : Option D} :
    ∃ s' y8 S' T' ps', lTurn (lv a0 a1 n wi cs t p a7 a8) s = some (.nx, lv a0 a1 n wi cs t p a7 y8, s') ∧ Wd U7 w s' n t sp ss p cs S' T' ps' ∧ S'.length ≤ S.length + 1 := by
  obtain ⟨s', S', T', ps', e, w2, l2⟩ := edits_ok h hwi hS
  obtain ⟨N, hN⟩ : ∃ N : Int, N = (S'.length : Int) - 1 := ⟨_, rfl⟩
  have pl : ps'.length = S'.length := w2.pst.len
  have pos := w2.pos
  have sl := w2.sl
  rw [← hN] at e
  obtain ⟨⟨r, c⟩, hl⟩ : ∃ x, ps'[ps'.length - 1]? = some x := ⟨ps'[ps'.length - 1]'(by omega), List.getElem?_eq_getElem (by omega)⟩
  have tl := w2.tlen hl
  obtain ⟨x, hx⟩ := repr_int N (by omega)
  have pp := w2.past
  have hm : (ps'.map prD)[(ps'.map prD).length - 1]? = some (prD (r, c)) := by rw [List.length_map, List.getElem?_map, hl]; rfl
  have la : L2.atI (ps'.map prD) (-1) = some (.lst [.dct r, .dct c]) := at_last hm
  have i0 : L2.atI [D.dct r, .dct c] 0 = some (.dct r) := ix0'
  have q1 : fOp subI (fMk bLen (aCons (fVar 6) aNil)) (fC (.int 1)) (lv a0 a1 n wi cs t p a7 (some (.int N))) s' = some (.int N, s') := by
    rw [hN, ← pl]
    simp [fOp, fMk, aCons, aNil, fVar, lv, bLen, lenL, pp, fC, subI_int]
  have q2 : fTest (fOp opNeS (fMk bReprA (aCons (fVar 8) aNil)) (fMk bReprA (aCons (fOp subI (fMk bLen (aCons (fVar 6) aNil)) (fC (.int 1))) aNil))) (lv a0 a1 n wi cs t p a7 (some (.int N))) s' = some (false, s') := by
    have b1 : fMk bReprA (aCons (fVar 8) aNil) (lv a0 a1 n wi cs t p a7 (some (.int N))) s' = some (.str x, s') := by
      simp [fMk, aCons, aNil, fVar, lv, hx]
    have b2 : fMk bReprA (aCons (fOp subI (fMk bLen (aCons (fVar 6) aNil)) (fC (.int 1))) aNil) (lv a0 a1 n wi cs t p a7 (some (.int N))) s' = some (.str x, s') := by
      rw [fMk, aCons, q1]
      simp [aNil, hx]
    rw [fTest, fOp, b1]
    simp only [Option.bind_some]
    rw [b2]
    simp [opNeS_same, asB]
  have m1 : noF "present" (insAt "Table" t s') = true := noF_T w2.tab fun _ => rfl
  have pr := present_ok w2.tab
  rw [← hN] at pr
  have q3 : fTest (fOp opNe (fMeth0 "Table" "present" m_Table_present (fVar 5)) (fVar 8)) (lv a0 a1 n wi cs t p a7 (some (.int N))) s' = some (false, s') := by
    have b1 : fMeth0 "Table" "present" m_Table_present (fVar 5) (lv a0 a1 n wi cs t p a7 (some (.int N))) s' = some (.int N, s') := by
      simp [fMeth0, fVar, lv, m1, pr]
    rw [fTest, fOp, b1]
    simp [fVar, lv, opNe_int, asB]
  obtain ⟨M, hM⟩ : ∃ M : Int, M = T'.length := ⟨_, rfl⟩
  have tn := tlen_ok w2.tab
  rw [← hM] at tn
  have b7 : T'.length ≤ 7 := w2.pst.oT.len
  have q4 : fTest (fOp opNe (fLenO "Table" m_Table___len__ (fVar 5)) (fMk bLen (aCons (fSub (fSub (fVar 6) (fUn negI (fC (.int 1)))) (fC (.int 0))) aNil))) (lv a0 a1 n wi cs t p a7 (some (.int N))) s' = some (false, s') := by
    have mb : 0 ≤ M ∧ M < 2 ^ 62 := by omega
    have b1 : fLenO "Table" m_Table___len__ (fVar 5) (lv a0 a1 n wi cs t p a7 (some (.int N))) s' = some (.int M, s') := by
      rw [fLenO]
      simp only [show fVar 5 (lv a0 a1 n wi cs t p a7 (some (.int N))) s' = some (.ref t, s') from rfl, Option.bind_some, w2.tab.ins, tn]
      rw [if_pos mb]
    have b2 : fMk bLen (aCons (fSub (fSub (fVar 6) (fUn negI (fC (.int 1)))) (fC (.int 0))) aNil) (lv a0 a1 n wi cs t p a7 (some (.int N))) s' = some (.int M, s') := by
      rw [hM, tl]
      simp [fMk, aCons, aNil, fSub, fVar, lv, fUn, negI, fC, ixD, pp, la, i0, bLen, lenL, lenK]
    rw [fTest, fOp, b1]
    simp only [Option.bind_some]
    rw [b2]
    simp [opNe_int, asB]
  refine ⟨s', some (.int N), S', T', ps', ?_, w2, l2⟩
  have k1 : sAsg (fCall m__law_edit (aCons (fVar 2) (aCons (fVar 5) (aCons (fVar 6) (aCons (fVar 3) aNil))))) (gN 8) (lv a0 a1 n wi cs t p a7 a8) s = some (.nx, lv a0 a1 n wi cs t p a7 (some (.int N)), s') := by
    simp [sAsg, fCall, aCons, aNil, fVar, lv, e, gN]
  unfold lTurn
  rw [sSeq, k1]
  simp only [Option.bind_some]
  rw [sIf, fOrT, q2]
  simp only [Option.bind_some, Bool.false_eq_true, if_false]
  rw [fOrT, q3]
  simp only [Option.bind_some, Bool.false_eq_true, if_false]
  rw [q4]
  rfl
def nmL : List D := [.str (Str.ofString "a"), .str (Str.ofString "bb"), .str (Str.ofString "ccc")]
def nmB (cs : List D) : Bool := (okD (.tup cs) && decide (wD (.tup cs) ≤ 200000)) && (colsB (.tup cs) && cs.all valB)
theorem nm_ok : nmB (nmL.take 1) = true ∧ nmB (nmL.take 2) = true ∧ nmB (nmL.take 3) = true := by decide +kernel
theorem known_two (h : Wd U7 w s n t sp ss p cs S T ps) {e : Lo} (ht : e[5]? = some (some (.ref t))) (hp : e[6]? = some (some (.ref p))) :
    fTest (fEqR true (fMeth0 "Table" "known_versions" m_Table_known_versions (fVar 5)) (fLstRg (fMk bLen (aCons (fVar 6) aNil)))) e s = some (false, s ++ [.lst (rg 0 S.length)]) := by
  have sl := h.sl
  have pl : ps.length = S.length := h.pst.len
  obtain ⟨N, hN⟩ : ∃ N : Int, N = S.length := ⟨_, rfl⟩
  have kn := known_ok h.tab (by omega)
  rw [← hN] at kn
  rw [← hN]
  have m1 : noF "known_versions" (insAt "Table" t s) = true := noF_T h.tab fun _ => rfl
  obtain ⟨x, x1, x2, x3⟩ := rg_py (N := N) (by omega) (by omega)
  have hpast := (h.app [.lst (rg 0 N)]).past
  have b1 : fMeth0 "Table" "known_versions" m_Table_known_versions (fVar 5) e s = some (.ref s.length, s ++ [.lst (rg 0 N)]) := by
    simp [fMeth0, fVar, ht, m1, kn]
  have b2 : fMk bLen (aCons (fVar 6) aNil) e (s ++ [.lst (rg 0 N)]) = some (.int N, s ++ [.lst (rg 0 N)]) := by
    rw [hN, ← pl] at *
    simp [fMk, aCons, aNil, fVar, hp, bLen, lenL, hpast]
  have hb : 0 ≤ N ∧ N ≤ 1000000 := by omega
  have b3 : fLstRg (fMk bLen (aCons (fVar 6) aNil)) e (s ++ [.lst (rg 0 N)]) = some (.lst (rg 0 N), s ++ [.lst (rg 0 N)]) := by
    rw [fLstRg, b2]
    simp only [Option.bind_some]
    rw [if_pos hb]
  have c1 : pyOf (.ref s.length) (s ++ [.lst (rg 0 N)]) = some x := by
    have : (s ++ [Ob.lst (rg 0 N)])[s.length]? = some (.lst (rg 0 N)) := by simp
    obtain ⟨a, h1, h2⟩ := Option.map_eq_some_iff.mp (show (toPyL (rg 0 N)).map PyData.list = some x from x1)
    simp [pyOf, this, h1, h2]
  have c2 : pyOf (.lst (rg 0 N)) (s ++ [.lst (rg 0 N)]) = some x := by
    simp [pyOf, x1]
  rw [fTest, fEqR, b1]
  simp only [Option.bind_some]
  rw [b3]
  simp only [Option.bind_some, c1, c2]
  rw [if_pos ⟨x2, x2⟩, x3]
  rfl
theorem start_ok {ns : List Int} (hb : ∀ z ∈ ns, Builtin.Int.intBits z ≤ 1048576) {k : Int} (k0 : 0 ≤ k) (k1 : k < 5) {x2 x3 x4 x5 x6 x7 x8 : Option D} {st : Store} :
    ∃ st' e', lBody [some (.scr ns), some (.int k), x2, x3, x4, x5, x6, x7, x8] st = some (.nx, e', st') ∧ ∃ y2 y3 y4 y5 y6 y7 y8, e' = [some (.scr ns), some (.int k), y2, y3, y4, y5, y6, y7, y8] := by
  obtain ⟨sa, ha, _, ta, _⟩ := tape_ok (st := st) hb k0 (by omega)
  generalize st.length = n at *
  obtain ⟨q, sb, g1, q0, q3, tb, _, _⟩ := pick_ok ta (s := 3) (by decide) (by decide)
  obtain ⟨wi, hwi⟩ : ∃ wi : Int, wi = 1 + q := ⟨_, rfl⟩
  obtain ⟨w, hw⟩ : ∃ w : Nat, wi = (w : Int) := ⟨wi.toNat, (Int.toNat_of_nonneg (by omega)).symm⟩
  have w13 : w = 1 ∨ w = 2 ∨ w = 3 := by omega
  have ct := cutTo (xs := nmL) (i := wi) (by omega) (by show wi ≤ ((3 : Nat) : Int); omega)
  rw [show wi.toNat = w by omega] at ct
  obtain ⟨cs, hcs⟩ : ∃ cs, cs = nmL.take w := ⟨_, rfl⟩
  rw [← hcs] at ct
  have nb : nmB cs = true := by
    rw [hcs]
    rcases w13 with rfl | rfl | rfl
    · exact nm_ok.1
    · exact nm_ok.2.1
    · exact nm_ok.2.2
  unfold nmB at nb
  rw [Bool.and_eq_true, Bool.and_eq_true, Bool.and_eq_true] at nb
  obtain ⟨⟨n1, n2⟩, n3, n4⟩ := nb
  have hcl : cs.length = w := by
    rw [hcs, List.length_take]
    show min w 3 = w
    omega
  have ik := init_ok (n := sb.length) (st := sb) rfl ⟨n1, of_decide_eq_true n2⟩ n3
  let s3 : Store := sb ++ [.ins "Table" (tabF cs 0 (sb.length + 1) (sb.length + 2)), .dct (mkS 0 [[]]), .dct []]
  let s4 : Store := s3 ++ [.lst ([(([] : KL), ([] : KL))].map prD)]
  have hl3 : s3.length = sb.length + 3 := by show (sb ++ _).length = _; simp
  have hn := tb.lt
  have wd : Wd U7 w s4 n sb.length (sb.length + 1) (sb.length + 2) (sb.length + 3) cs [[]] [] [([], [])] := by
    refine ⟨Tp.of tb ?_, ⟨?_, ?_, ?_, by omega, by omega, by omega⟩, ?_, ⟨rfl, fun x hx => ?_, fun v a b hv => ?_, okK.nil, fun a b hab => ?_⟩, by omega, by omega, by omega, by omega, by omega, by omega, by omega, hcl, by omega, by omega, by decide, by decide⟩
    · show ((sb ++ _) ++ _)[n]? = _
      rw [List.append_assoc, List.getElem?_append_left hn]
    · show ((sb ++ _) ++ _)[sb.length]? = _
      simp
    · show ((sb ++ _) ++ _)[sb.length + 1]? = _
      simp
    · show ((sb ++ _) ++ _)[sb.length + 2]? = _
      simp
    · show (s3 ++ _)[sb.length + 3]? = _
      rw [← hl3]; simp
    · have : x = [] := by simpa using hx
      subst this
      exact ⟨okK.nil, fun _ h => by cases h⟩
    · have hv0 : v = 0 := by
        have := at_some hv
        simp at this
        exact this
      subst hv0
      have e : (([] : KL), ([] : KL)) = (a, b) := Option.some.inj hv
      cases e
      exact ⟨okK.nil, okK.nil, fun _ => rfl, fun _ _ h => (by cases h), fun _ => rfl, fun _ _ h => (by cases h)⟩
    · have e : (([] : KL), ([] : KL)) = (a, b) := Option.some.inj hab
      cases e
      exact fun _ => rfl
  obtain ⟨e5, s5, g5, ⟨S5, T5, ps5, y7, y8, he5, wd5, lS5⟩⟩ := loopS_ix (tg := gN 7) (body := lTurn) (I := fun m env st => ∃ S T ps y7 y8, env = lv (some (.scr ns)) (some (.int k)) n wi cs sb.length (sb.length + 3) y7 y8 ∧ Wd U7 w st n sb.length (sb.length + 1) (sb.length + 2) (sb.length + 3) cs S T ps ∧ S.length ≤ m + 1) (ds := rg 0 14) (k := 0) (env := lv (some (.scr ns)) (some (.int k)) n wi cs sb.length (sb.length + 3) x7 x8) (st := s4) (fun m d env st hm i => by
    obtain ⟨S, T, ps, y7, y8, rfl, wd, hl⟩ := i
    have hm' : m < 14 := by simpa [rg_len] using hm
    obtain ⟨s', z8, S', T', ps', e, w2, l2⟩ := turn_ok wd hw (by omega) (a0 := some (.scr ns)) (a1 := some (.int k)) (a7 := some d) (a8 := y8)
    exact ⟨lv (some (.scr ns)) (some (.int k)) n wi cs sb.length (sb.length + 3) (some d) y8, rfl, _, s', e, S', T', ps', some d, z8, rfl, w2, by omega⟩) ⟨[[]], [], [([], [])], x7, x8, rfl, wd, by decide⟩
  subst he5
  have kt := known_two wd5 (e := lv (some (.scr ns)) (some (.int k)) n wi cs sb.length (sb.length + 3) y7 y8) rfl rfl
  have wd6 := wd5.app [.lst (rg 0 S5.length)]
  generalize hs6 : s5 ++ [Ob.lst (rg 0 S5.length)] = s6 at *
  have cnm := cols_names wd6.tab (by omega)
  have m6 : noF "column_names" (insAt "Table" sb.length s6) = true := noF_T wd6.tab fun _ => rfl
  have vtn : Vt (.tup cs) := .inr ⟨cs, rfl, by omega, List.all_eq_true.mp n4⟩
  have nne : opNe (.tup cs) (.tup cs) = some (.bl false) := by
    obtain ⟨a, _, b⟩ := ne_ok vtn vtn
    rw [b.mpr rfl] at a; exact a
  have kn6 := known_ok wd6.tab (by have := wd6.sl; omega)
  have mk6 : noF "known_versions" (insAt "Table" sb.length s6) = true := noF_T wd6.tab fun _ => rfl
  obtain ⟨xs, hxs⟩ : ∃ xs, xs = rg 0 S5.length := ⟨_, rfl⟩
  rw [← hxs] at kn6
  have xl : xs.length < sizeLine := by
    rw [hxs, rg_len]
    have := wd6.sl
    exact Nat.lt_of_le_of_lt (show _ ≤ 60 by omega) (by decide)
  have wd7 := (wd6.app [.lst xs]).put (.lst (xs ++ [.non])) (M := s6.length) (by have := wd6.tp.lt; omega) (by have := at_some wd6.tab.tab; omega) (by have := at_some wd6.tab.stp; omega) (by have := at_some wd6.tab.sta; omega) (by have := at_some wd6.past; omega)
  have e7 : (s6 ++ [Ob.lst xs]).set s6.length (.lst (xs ++ [.non])) = s6 ++ [.lst (xs ++ [.non])] := by simp
  rw [e7] at wd7
  have kt8 := known_two wd7 (e := lv (some (.scr ns)) (some (.int k)) n wi cs sb.length (sb.length + 3) y7 y8) rfl rfl
  obtain ⟨s9, g9, _⟩ := versions_ok (wd7.app [.lst (rg 0 S5.length)])
  refine ⟨s9, lv (some (.scr ns)) (some (.int k)) n wi cs sb.length (sb.length + 3) y7 y8, ?_, ⟨_, _, _, _, _, _, _, rfl⟩⟩
  have z3 : 3 ≤ sizeLine := by decide
  have z2 : 2 ≤ sizeLine := by decide
  have z1 : 1 ≤ sizeLine := by decide
  have b0 : l0 [some (.scr ns), some (.int k), x2, x3, x4, x5, x6, x7, x8] st = some (.nx, [some (.scr ns), some (.int k), some (.ref n), x3, x4, x5, x6, x7, x8], sa) := by
    simp [l0, sAsg, fCall, aCons, aNil, fVar, e_tape, ha, gN]
  have b1 : l1 [some (.scr ns), some (.int k), some (.ref n), x3, x4, x5, x6, x7, x8] sa = some (.nx, [some (.scr ns), some (.int k), some (.ref n), some (.int wi), x4, x5, x6, x7, x8], sb) := by
    rw [hwi]
    simp [l1, sAsg, fOp, fC, fCall, aCons, aNil, fVar, e_pick, g1, opAdd_int, gN]
  have b2 : l2 [some (.scr ns), some (.int k), some (.ref n), some (.int wi), x4, x5, x6, x7, x8] sb = some (.nx, [some (.scr ns), some (.int k), some (.ref n), some (.int wi), some (.tup cs), x5, x6, x7, x8], sb) := by
    have c1 : fMk mkTup (aCons (fC (.str (Str.ofString "a"))) (aCons (fC (.str (Str.ofString "bb"))) (aCons (fC (.str (Str.ofString "ccc"))) aNil))) [some (.scr ns), some (.int k), some (.ref n), some (.int wi), x4, x5, x6, x7, x8] sb = some (.tup nmL, sb) := by
      simp [fMk, mkTup, aCons, aNil, fC, z3, nmL]
    unfold l2
    rw [sAsg, fSlice, c1]
    simp only [Option.bind_some]
    simp [oNone, oSome, fVar, slD, ct, gN]
  have b3 : l3 [some (.scr ns), some (.int k), some (.ref n), some (.int wi), some (.tup cs), x5, x6, x7, x8] sb = some (.nx, [some (.scr ns), some (.int k), some (.ref n), some (.int wi), some (.tup cs), some (.ref sb.length), x6, x7, x8], s3) := by
    have c1 : fMake "Table" m_Table___init__ (aCons (fVar 4) aNil) [some (.scr ns), some (.int k), some (.ref n), some (.int wi), some (.tup cs), x5, x6, x7, x8] sb = some (.ref sb.length, s3) := by
      rw [fMake]
      simp only [show aCons (fVar 4) aNil [some (.scr ns), some (.int k), some (.ref n), some (.int wi), some (.tup cs), x5, x6, x7, x8] sb = some ([.tup cs], sb) from rfl, Option.bind_some]
      rw [ik]
      rfl
    unfold l3
    rw [sAsg, c1]
    rfl
  have b4 : l4 [some (.scr ns), some (.int k), some (.ref n), some (.int wi), some (.tup cs), some (.ref sb.length), x6, x7, x8] s3 = some (.nx, lv (some (.scr ns)) (some (.int k)) n wi cs sb.length (sb.length + 3) x7 x8, s4) := by
    have c1 : fNewL (aCons (fMk mkLst (aCons (fC (.dct [])) (aCons (fC (.dct [])) aNil))) aNil) [some (.scr ns), some (.int k), some (.ref n), some (.int wi), some (.tup cs), some (.ref sb.length), x6, x7, x8] s3 = some (.ref (sb.length + 3), s4) := by
      rw [← hl3]
      simp [fNewL, aCons, aNil, fMk, mkLst, fC, z2, z1, s4, prD]
    unfold l4
    rw [sAsg, c1]
    rfl
  have b5 : l5 (lv (some (.scr ns)) (some (.int k)) n wi cs sb.length (sb.length + 3) x7 x8) s4 = some (.nx, lv (some (.scr ns)) (some (.int k)) n wi cs sb.length (sb.length + 3) y7 y8, s5) := by
    have ra := asR1_ok (n := 14) (by decide) (by decide)
    show sFor (iOfA asR1 (aCons (fC (.int 14)) aNil)) (gN 7) lTurn _ _ = _
    rw [sFor, iOfA]
    simp only [aCons, aNil, fC, Option.bind_some, ra, Option.map_some]
    exact g5
  have b6 : l6 (lv (some (.scr ns)) (some (.int k)) n wi cs sb.length (sb.length + 3) y7 y8) s5 = some (.nx, lv (some (.scr ns)) (some (.int k)) n wi cs sb.length (sb.length + 3) y7 y8, s6) := by
    have c1 : fTest (fOp opNe (fMeth0 "Table" "column_names" m_Table_column_names (fVar 5)) (fVar 4)) (lv (some (.scr ns)) (some (.int k)) n wi cs sb.length (sb.length + 3) y7 y8) s6 = some (false, s6) := by
      simp [fTest, fOp, fMeth0, fVar, lv, m6, cnm, nne, asB]
    unfold l6
    rw [sIf, fOrT, kt]
    simp only [Option.bind_some, Bool.false_eq_true, if_false]
    rw [c1]
    rfl
  have b7 : l7 (lv (some (.scr ns)) (some (.int k)) n wi cs sb.length (sb.length + 3) y7 y8) s6 = some (.nx, lv (some (.scr ns)) (some (.int k)) n wi cs sb.length (sb.length + 3) y7 y8, s6 ++ [.lst (xs ++ [.non])]) := by
    have c1 : fMeth0 "Table" "known_versions" m_Table_known_versions (fVar 5) (lv (some (.scr ns)) (some (.int k)) n wi cs sb.length (sb.length + 3) y7 y8) s6 = some (.ref s6.length, s6 ++ [.lst xs]) := by
      simp [fMeth0, fVar, lv, mk6, kn6]
    have c2 : (s6 ++ [Ob.lst xs])[s6.length]? = some (.lst xs) := by simp
    unfold l7
    rw [sDrop, fApp, c1]
    simp only [Option.bind_some, c2, isLs, if_true, fC, appAt]
    rw [if_pos xl, e7]
    rfl
  have b8 : l8 (lv (some (.scr ns)) (some (.int k)) n wi cs sb.length (sb.length + 3) y7 y8) (s6 ++ [.lst (xs ++ [.non])]) = some (.nx, lv (some (.scr ns)) (some (.int k)) n wi cs sb.length (sb.length + 3) y7 y8, s9) := by
    have c1 : fNotT (fTest (fCall m__law_versions_right (aCons (fVar 5) (aCons (fVar 6) aNil)))) (lv (some (.scr ns)) (some (.int k)) n wi cs sb.length (sb.length + 3) y7 y8) ((s6 ++ [.lst (xs ++ [.non])]) ++ [.lst (rg 0 S5.length)]) = some (false, s9) := by
      rw [fNotT, fTest, fCall]
      simp only [show aCons (fVar 5) (aCons (fVar 6) aNil) (lv (some (.scr ns)) (some (.int k)) n wi cs sb.length (sb.length + 3) y7 y8) ((s6 ++ [.lst (xs ++ [.non])]) ++ [.lst (rg 0 S5.length)]) = some ([.ref sb.length, .ref (sb.length + 3)], (s6 ++ [.lst (xs ++ [.non])]) ++ [.lst (rg 0 S5.length)]) from rfl, Option.bind_some]
      rw [g9]
      rfl
    unfold l8
    rw [sIf, fOrT, kt8]
    simp only [Option.bind_some, Bool.false_eq_true, if_false]
    rw [c1]
    rfl
  rw [lBody_eq, sSeq, b0]
  simp only [Option.bind_some]
  rw [sSeq, b1]
  simp only [Option.bind_some]
  rw [sSeq, b2]
  simp only [Option.bind_some]
  rw [sSeq, b3]
  simp only [Option.bind_some]
  rw [sSeq, b4]
  simp only [Option.bind_some]
  rw [sSeq, b5]
  simp only [Option.bind_some]
  rw [sSeq, b6]
  simp only [Option.bind_some]
  rw [sSeq, b7]
  simp only [Option.bind_some]
  exact b8
theorem law_true (ns : List Int) (h : ns.length ≤ 63) (hb : ∀ z ∈ ns, Builtin.Int.intBits z ≤ 1048576) : ∃ st', m_law [.scr ns] [] = some (.bl true, st') := by
  obtain ⟨j, hj, hj2⟩ : ∃ j : Int, (iOfA asR1 (aCons (fMk bMax (aCons (fC (.int 1)) (aCons (fMk bMin (aCons (fC (.int 4)) (aCons (fMk bLen (aCons (fVar 0) aNil)) aNil))) aNil))) aNil)) [some (.scr ns), none, none, none, none, none, none, none, none] [] = some (rg 0 j, []) ∧ j ≤ 4 := by
    refine ⟨if (if (ns.length : Int) < 4 then (ns.length : Int) else 4) > 1 then (if (ns.length : Int) < 4 then (ns.length : Int) else 4) else 1, ?_, by split <;> (try split) <;> omega⟩
    generalize hq : (if (if (ns.length : Int) < 4 then (ns.length : Int) else 4) > 1 then (if (ns.length : Int) < 4 then (ns.length : Int) else 4) else 1) = q
    have q0 : 0 ≤ q ∧ q ≤ 4 := by
      subst hq
      split <;> (try split) <;> omega
    have := asR1_ok (n := q) q0.1 (by omega)
    simp [iOfA, aCons, aNil, fMk, fC, fVar, bMax, bMin, bLen, lenL]
    simp at hq
    rw [hq, this]
  obtain ⟨e2, s2, h2, ⟨y1, y2, y3, y4, y5, y6, y7, y8, he2⟩⟩ := loopS_inv (tg := gN 1) (body := lBody) (fun env _ => ∃ y1 y2 y3 y4 y5 y6 y7 y8, env = [some (.scr ns), y1, y2, y3, y4, y5, y6, y7, y8]) (ds := rg 0 j) (fun d hd env st i => by
      obtain ⟨y1, y2, y3, y4, y5, y6, y7, y8, rfl⟩ := i
      obtain ⟨k, rfl, k0, k1⟩ := rg_mem hd
      obtain ⟨st', e', ee, z2, z3, z4, z5, z6, z7, z8, rfl⟩ := start_ok hb k0 (by omega) (x2 := y2) (x3 := y3) (x4 := y4) (x5 := y5) (x6 := y6) (x7 := y7) (x8 := y8) (st := st)
      exact ⟨[some (.scr ns), some (.int k), y2, y3, y4, y5, y6, y7, y8], rfl, .nx, _, st', ee, .inl rfl, ⟨_, _, _, _, _, _, _, _, rfl⟩⟩) (env := [some (.scr ns), none, none, none, none, none, none, none, none]) (st := []) ⟨_, _, _, _, _, _, _, _, rfl⟩
  subst he2
  refine ⟨s2, ?_⟩
  rw [m_law, g_law, mOf]
  show outM (sSeq (sFor (iOfA asR1 (aCons (fMk bMax (aCons (fC (.int 1)) (aCons (fMk bMin (aCons (fC (.int 4)) (aCons (fMk bLen (aCons (fVar 0) aNil)) aNil))) aNil))) aNil)) (gN 1) lBody) (sRet (fC (.bl true))) [some (.scr ns), none, none, none, none, none, none, none, none] []) = _
  rw [sSeq, sFor, hj]
  simp only [Option.bind_some]
  rw [h2]
  rfl
end LW
namespace LW
open PySem PySem.Spec PyProof.Rows L2 DL
theorem all_mk {l : PySem.W.OpenLaw} {w : World} {K : PySem.W.Frag} {h : Heap} {mg : Str → Option Value} {fa : Addr} (X : K.In h) (G : h.Ns mainGlobals mg) (hfa : mg "law" = some (.ref fa))
    {C_Table : Addr} (aC_Table : PySem.W.nsIn K mainGlobals "Table" = some (some (.ref C_Table))) (pg_Table : PySem.W.plainGet K C_Table Str.empty = true) (hd_Table : PySem.W.hasDictIn K C_Table = true) (po_Table : PySem.W.plainOver K C_Table = true) (sa_Table : PySem.W.findIn K (.ref C_Table) "__setattr__" = some (some (.builtin "object.__setattr__"))) (km_Table : PySem.W.makesIn K C_Table = true) (kc_Table : PySem.W.keepIn K (.ref C_Table) = true)
    (nf_Table__columns : PySem.W.findIn K (.ref C_Table) "_columns" = some none)
    (nf_Table__present : PySem.W.findIn K (.ref C_Table) "_present" = some none)
    (nf_Table__states : PySem.W.findIn K (.ref C_Table) "_states" = some none)
    (nf_Table__steps : PySem.W.findIn K (.ref C_Table) "_steps" = some none)
    {p_is_integer : Addr} {od_is_integer an_is_integer : Option Addr} {sl_is_integer : Array (Option Value)} {oc_is_integer kV_is_integer dc_is_integer pm_is_integer cd_is_integer ct_is_integer : Value}
    (a_is_integer : PySem.W.nsIn K mainGlobals "is_integer" = some (some (.ref p_is_integer))) (l_is_integer : K.lookup p_is_integer = some ⟨oc_is_integer, od_is_integer, .func (PySem.W.fnOf "is_integer" "is_integer" (defArgs s_is_integer) (defBody s_is_integer) (defScope s_is_integer) .none kV_is_integer dc_is_integer pm_is_integer an_is_integer cd_is_integer ct_is_integer), sl_is_integer⟩) (c_is_integer : PySem.W.codeIn K cd_is_integer "is_integer" = true) (k_is_integer : PySem.W.keepIn K (.ref p_is_integer) = true)
    {p_is_string : Addr} {od_is_string an_is_string : Option Addr} {sl_is_string : Array (Option Value)} {oc_is_string kV_is_string dc_is_string pm_is_string cd_is_string ct_is_string : Value}
    (a_is_string : PySem.W.nsIn K mainGlobals "is_string" = some (some (.ref p_is_string))) (l_is_string : K.lookup p_is_string = some ⟨oc_is_string, od_is_string, .func (PySem.W.fnOf "is_string" "is_string" (defArgs s_is_string) (defBody s_is_string) (defScope s_is_string) .none kV_is_string dc_is_string pm_is_string an_is_string cd_is_string ct_is_string), sl_is_string⟩) (c_is_string : PySem.W.codeIn K cd_is_string "is_string" = true) (k_is_string : PySem.W.keepIn K (.ref p_is_string) = true)
    {p_is_value : Addr} {od_is_value an_is_value : Option Addr} {sl_is_value : Array (Option Value)} {oc_is_value kV_is_value dc_is_value pm_is_value cd_is_value ct_is_value : Value}
    (a_is_value : PySem.W.nsIn K mainGlobals "is_value" = some (some (.ref p_is_value))) (l_is_value : K.lookup p_is_value = some ⟨oc_is_value, od_is_value, .func (PySem.W.fnOf "is_value" "is_value" (defArgs s_is_value) (defBody s_is_value) (defScope s_is_value) .none kV_is_value dc_is_value pm_is_value an_is_value cd_is_value ct_is_value), sl_is_value⟩) (c_is_value : PySem.W.codeIn K cd_is_value "is_value" = true) (k_is_value : PySem.W.keepIn K (.ref p_is_value) = true)
    {p_is_name : Addr} {od_is_name an_is_name : Option Addr} {sl_is_name : Array (Option Value)} {oc_is_name kV_is_name dc_is_name pm_is_name cd_is_name ct_is_name : Value}
    (a_is_name : PySem.W.nsIn K mainGlobals "is_name" = some (some (.ref p_is_name))) (l_is_name : K.lookup p_is_name = some ⟨oc_is_name, od_is_name, .func (PySem.W.fnOf "is_name" "is_name" (defArgs s_is_name) (defBody s_is_name) (defScope s_is_name) .none kV_is_name dc_is_name pm_is_name an_is_name cd_is_name ct_is_name), sl_is_name⟩) (c_is_name : PySem.W.codeIn K cd_is_name "is_name" = true) (k_is_name : PySem.W.keepIn K (.ref p_is_name) = true)
    {p_is_column_name : Addr} {od_is_column_name an_is_column_name : Option Addr} {sl_is_column_name : Array (Option Value)} {oc_is_column_name kV_is_column_name dc_is_column_name pm_is_column_name cd_is_column_name ct_is_column_name : Value}
    (a_is_column_name : PySem.W.nsIn K mainGlobals "is_column_name" = some (some (.ref p_is_column_name))) (l_is_column_name : K.lookup p_is_column_name = some ⟨oc_is_column_name, od_is_column_name, .func (PySem.W.fnOf "is_column_name" "is_column_name" (defArgs s_is_column_name) (defBody s_is_column_name) (defScope s_is_column_name) .none kV_is_column_name dc_is_column_name pm_is_column_name an_is_column_name cd_is_column_name ct_is_column_name), sl_is_column_name⟩) (c_is_column_name : PySem.W.codeIn K cd_is_column_name "is_column_name" = true) (k_is_column_name : PySem.W.keepIn K (.ref p_is_column_name) = true)
    {p_is_columns : Addr} {od_is_columns an_is_columns : Option Addr} {sl_is_columns : Array (Option Value)} {oc_is_columns kV_is_columns dc_is_columns pm_is_columns cd_is_columns ct_is_columns : Value}
    (a_is_columns : PySem.W.nsIn K mainGlobals "is_columns" = some (some (.ref p_is_columns))) (l_is_columns : K.lookup p_is_columns = some ⟨oc_is_columns, od_is_columns, .func (PySem.W.fnOf "is_columns" "is_columns" (defArgs s_is_columns) (defBody s_is_columns) (defScope s_is_columns) .none kV_is_columns dc_is_columns pm_is_columns an_is_columns cd_is_columns ct_is_columns), sl_is_columns⟩) (c_is_columns : PySem.W.codeIn K cd_is_columns "is_columns" = true) (k_is_columns : PySem.W.keepIn K (.ref p_is_columns) = true)
    {p_is_row_id : Addr} {od_is_row_id an_is_row_id : Option Addr} {sl_is_row_id : Array (Option Value)} {oc_is_row_id kV_is_row_id dc_is_row_id pm_is_row_id cd_is_row_id ct_is_row_id : Value}
    (a_is_row_id : PySem.W.nsIn K mainGlobals "is_row_id" = some (some (.ref p_is_row_id))) (l_is_row_id : K.lookup p_is_row_id = some ⟨oc_is_row_id, od_is_row_id, .func (PySem.W.fnOf "is_row_id" "is_row_id" (defArgs s_is_row_id) (defBody s_is_row_id) (defScope s_is_row_id) .none kV_is_row_id dc_is_row_id pm_is_row_id an_is_row_id cd_is_row_id ct_is_row_id), sl_is_row_id⟩) (c_is_row_id : PySem.W.codeIn K cd_is_row_id "is_row_id" = true) (k_is_row_id : PySem.W.keepIn K (.ref p_is_row_id) = true)
    {p_is_row : Addr} {od_is_row an_is_row : Option Addr} {sl_is_row : Array (Option Value)} {oc_is_row kV_is_row dc_is_row pm_is_row cd_is_row ct_is_row : Value}
    (a_is_row : PySem.W.nsIn K mainGlobals "is_row" = some (some (.ref p_is_row))) (l_is_row : K.lookup p_is_row = some ⟨oc_is_row, od_is_row, .func (PySem.W.fnOf "is_row" "is_row" (defArgs s_is_row) (defBody s_is_row) (defScope s_is_row) .none kV_is_row dc_is_row pm_is_row an_is_row cd_is_row ct_is_row), sl_is_row⟩) (c_is_row : PySem.W.codeIn K cd_is_row "is_row" = true) (k_is_row : PySem.W.keepIn K (.ref p_is_row) = true)
    {p_is_edit : Addr} {od_is_edit an_is_edit : Option Addr} {sl_is_edit : Array (Option Value)} {oc_is_edit kV_is_edit dc_is_edit pm_is_edit cd_is_edit ct_is_edit : Value}
    (a_is_edit : PySem.W.nsIn K mainGlobals "is_edit" = some (some (.ref p_is_edit))) (l_is_edit : K.lookup p_is_edit = some ⟨oc_is_edit, od_is_edit, .func (PySem.W.fnOf "is_edit" "is_edit" (defArgs s_is_edit) (defBody s_is_edit) (defScope s_is_edit) .none kV_is_edit dc_is_edit pm_is_edit an_is_edit cd_is_edit ct_is_edit), sl_is_edit⟩) (c_is_edit : PySem.W.codeIn K cd_is_edit "is_edit" = true) (k_is_edit : PySem.W.keepIn K (.ref p_is_edit) = true)
    {p_values_of : Addr} {od_values_of an_values_of : Option Addr} {sl_values_of : Array (Option Value)} {oc_values_of kV_values_of dc_values_of pm_values_of cd_values_of ct_values_of : Value}
    (a_values_of : PySem.W.nsIn K mainGlobals "values_of" = some (some (.ref p_values_of))) (l_values_of : K.lookup p_values_of = some ⟨oc_values_of, od_values_of, .func (PySem.W.fnOf "values_of" "values_of" (defArgs s_values_of) (defBody s_values_of) (defScope s_values_of) .none kV_values_of dc_values_of pm_values_of an_values_of cd_values_of ct_values_of), sl_values_of⟩) (c_values_of : PySem.W.codeIn K cd_values_of "values_of" = true) (k_values_of : PySem.W.keepIn K (.ref p_values_of) = true)
    {p_take_step : Addr} {od_take_step an_take_step : Option Addr} {sl_take_step : Array (Option Value)} {oc_take_step kV_take_step dc_take_step pm_take_step cd_take_step ct_take_step : Value}
    (a_take_step : PySem.W.nsIn K mainGlobals "take_step" = some (some (.ref p_take_step))) (l_take_step : K.lookup p_take_step = some ⟨oc_take_step, od_take_step, .func (PySem.W.fnOf "take_step" "take_step" (defArgs s_take_step) (defBody s_take_step) (defScope s_take_step) .none kV_take_step dc_take_step pm_take_step an_take_step cd_take_step ct_take_step), sl_take_step⟩) (c_take_step : PySem.W.codeIn K cd_take_step "take_step" = true) (k_take_step : PySem.W.keepIn K (.ref p_take_step) = true)
    {p__law_tape : Addr} {od__law_tape an__law_tape : Option Addr} {sl__law_tape : Array (Option Value)} {oc__law_tape kV__law_tape dc__law_tape pm__law_tape cd__law_tape ct__law_tape : Value}
    (a__law_tape : PySem.W.nsIn K mainGlobals "_law_tape" = some (some (.ref p__law_tape))) (l__law_tape : K.lookup p__law_tape = some ⟨oc__law_tape, od__law_tape, .func (PySem.W.fnOf "_law_tape" "_law_tape" (defArgs s__law_tape) (defBody s__law_tape) (defScope s__law_tape) .none kV__law_tape dc__law_tape pm__law_tape an__law_tape cd__law_tape ct__law_tape), sl__law_tape⟩) (c__law_tape : PySem.W.codeIn K cd__law_tape "_law_tape" = true) (k__law_tape : PySem.W.keepIn K (.ref p__law_tape) = true)
    {p__law_pick : Addr} {od__law_pick an__law_pick : Option Addr} {sl__law_pick : Array (Option Value)} {oc__law_pick kV__law_pick dc__law_pick pm__law_pick cd__law_pick ct__law_pick : Value}
    (a__law_pick : PySem.W.nsIn K mainGlobals "_law_pick" = some (some (.ref p__law_pick))) (l__law_pick : K.lookup p__law_pick = some ⟨oc__law_pick, od__law_pick, .func (PySem.W.fnOf "_law_pick" "_law_pick" (defArgs s__law_pick) (defBody s__law_pick) (defScope s__law_pick) .none kV__law_pick dc__law_pick pm__law_pick an__law_pick cd__law_pick ct__law_pick), sl__law_pick⟩) (c__law_pick : PySem.W.codeIn K cd__law_pick "_law_pick" = true) (k__law_pick : PySem.W.keepIn K (.ref p__law_pick) = true)
    {p__law_one_of : Addr} {od__law_one_of an__law_one_of : Option Addr} {sl__law_one_of : Array (Option Value)} {oc__law_one_of kV__law_one_of dc__law_one_of pm__law_one_of cd__law_one_of ct__law_one_of : Value}
    (a__law_one_of : PySem.W.nsIn K mainGlobals "_law_one_of" = some (some (.ref p__law_one_of))) (l__law_one_of : K.lookup p__law_one_of = some ⟨oc__law_one_of, od__law_one_of, .func (PySem.W.fnOf "_law_one_of" "_law_one_of" (defArgs s__law_one_of) (defBody s__law_one_of) (defScope s__law_one_of) .none kV__law_one_of dc__law_one_of pm__law_one_of an__law_one_of cd__law_one_of ct__law_one_of), sl__law_one_of⟩) (c__law_one_of : PySem.W.codeIn K cd__law_one_of "_law_one_of" = true) (k__law_one_of : PySem.W.keepIn K (.ref p__law_one_of) = true)
    {p__law_value : Addr} {od__law_value an__law_value : Option Addr} {sl__law_value : Array (Option Value)} {oc__law_value kV__law_value dc__law_value pm__law_value cd__law_value ct__law_value : Value}
    (a__law_value : PySem.W.nsIn K mainGlobals "_law_value" = some (some (.ref p__law_value))) (l__law_value : K.lookup p__law_value = some ⟨oc__law_value, od__law_value, .func (PySem.W.fnOf "_law_value" "_law_value" (defArgs s__law_value) (defBody s__law_value) (defScope s__law_value) .none kV__law_value dc__law_value pm__law_value an__law_value cd__law_value ct__law_value), sl__law_value⟩) (c__law_value : PySem.W.codeIn K cd__law_value "_law_value" = true) (k__law_value : PySem.W.keepIn K (.ref p__law_value) = true)
    {p__law_values : Addr} {od__law_values an__law_values : Option Addr} {sl__law_values : Array (Option Value)} {oc__law_values kV__law_values dc__law_values pm__law_values cd__law_values ct__law_values : Value}
    (a__law_values : PySem.W.nsIn K mainGlobals "_law_values" = some (some (.ref p__law_values))) (l__law_values : K.lookup p__law_values = some ⟨oc__law_values, od__law_values, .func (PySem.W.fnOf "_law_values" "_law_values" (defArgs s__law_values) (defBody s__law_values) (defScope s__law_values) .none kV__law_values dc__law_values pm__law_values an__law_values cd__law_values ct__law_values), sl__law_values⟩) (c__law_values : PySem.W.codeIn K cd__law_values "_law_values" = true) (k__law_values : PySem.W.keepIn K (.ref p__law_values) = true)
    {p_Table_known_versions : Addr} {od_Table_known_versions an_Table_known_versions : Option Addr} {sl_Table_known_versions : Array (Option Value)} {oc_Table_known_versions kV_Table_known_versions dc_Table_known_versions pm_Table_known_versions cd_Table_known_versions ct_Table_known_versions : Value}
    (a_Table_known_versions : PySem.W.findIn K (.ref C_Table) "known_versions" = some (some (.ref p_Table_known_versions))) (i_Table_known_versions : PySem.W.isFn K (.ref p_Table_known_versions) = true) (l_Table_known_versions : K.lookup p_Table_known_versions = some ⟨oc_Table_known_versions, od_Table_known_versions, .func (PySem.W.fnOf "known_versions" "Table.known_versions" (defArgs s_Table_known_versions) (defBody s_Table_known_versions) (defScope s_Table_known_versions) .none kV_Table_known_versions dc_Table_known_versions pm_Table_known_versions an_Table_known_versions cd_Table_known_versions ct_Table_known_versions), sl_Table_known_versions⟩) (c_Table_known_versions : PySem.W.codeIn K cd_Table_known_versions "Table.known_versions" = true) (k_Table_known_versions : PySem.W.keepIn K (.ref p_Table_known_versions) = true)
    {p_Table__check_known : Addr} {od_Table__check_known an_Table__check_known : Option Addr} {sl_Table__check_known : Array (Option Value)} {oc_Table__check_known kV_Table__check_known dc_Table__check_known pm_Table__check_known cd_Table__check_known ct_Table__check_known : Value}
    (a_Table__check_known : PySem.W.findIn K (.ref C_Table) "_check_known" = some (some (.ref p_Table__check_known))) (i_Table__check_known : PySem.W.isFn K (.ref p_Table__check_known) = true) (l_Table__check_known : K.lookup p_Table__check_known = some ⟨oc_Table__check_known, od_Table__check_known, .func (PySem.W.fnOf "_check_known" "Table._check_known" (defArgs s_Table__check_known) (defBody s_Table__check_known) (defScope s_Table__check_known) .none kV_Table__check_known dc_Table__check_known pm_Table__check_known an_Table__check_known cd_Table__check_known ct_Table__check_known), sl_Table__check_known⟩) (c_Table__check_known : PySem.W.codeIn K cd_Table__check_known "Table._check_known" = true) (k_Table__check_known : PySem.W.keepIn K (.ref p_Table__check_known) = true)
    {p_Table__states_at : Addr} {od_Table__states_at an_Table__states_at : Option Addr} {sl_Table__states_at : Array (Option Value)} {oc_Table__states_at kV_Table__states_at dc_Table__states_at pm_Table__states_at cd_Table__states_at ct_Table__states_at : Value}
    (a_Table__states_at : PySem.W.findIn K (.ref C_Table) "_states_at" = some (some (.ref p_Table__states_at))) (i_Table__states_at : PySem.W.isFn K (.ref p_Table__states_at) = true) (l_Table__states_at : K.lookup p_Table__states_at = some ⟨oc_Table__states_at, od_Table__states_at, .func (PySem.W.fnOf "_states_at" "Table._states_at" (defArgs s_Table__states_at) (defBody s_Table__states_at) (defScope s_Table__states_at) .none kV_Table__states_at dc_Table__states_at pm_Table__states_at an_Table__states_at cd_Table__states_at ct_Table__states_at), sl_Table__states_at⟩) (c_Table__states_at : PySem.W.codeIn K cd_Table__states_at "Table._states_at" = true) (k_Table__states_at : PySem.W.keepIn K (.ref p_Table__states_at) = true)
    {p_Table_rows_at : Addr} {od_Table_rows_at an_Table_rows_at : Option Addr} {sl_Table_rows_at : Array (Option Value)} {oc_Table_rows_at kV_Table_rows_at dc_Table_rows_at pm_Table_rows_at cd_Table_rows_at ct_Table_rows_at : Value}
    (a_Table_rows_at : PySem.W.findIn K (.ref C_Table) "rows_at" = some (some (.ref p_Table_rows_at))) (i_Table_rows_at : PySem.W.isFn K (.ref p_Table_rows_at) = true) (l_Table_rows_at : K.lookup p_Table_rows_at = some ⟨oc_Table_rows_at, od_Table_rows_at, .func (PySem.W.fnOf "rows_at" "Table.rows_at" (defArgs s_Table_rows_at) (defBody s_Table_rows_at) (defScope s_Table_rows_at) .none kV_Table_rows_at dc_Table_rows_at pm_Table_rows_at an_Table_rows_at cd_Table_rows_at ct_Table_rows_at), sl_Table_rows_at⟩) (c_Table_rows_at : PySem.W.codeIn K cd_Table_rows_at "Table.rows_at" = true) (k_Table_rows_at : PySem.W.keepIn K (.ref p_Table_rows_at) = true)
    {p_Table__change : Addr} {od_Table__change an_Table__change : Option Addr} {sl_Table__change : Array (Option Value)} {oc_Table__change kV_Table__change dc_Table__change pm_Table__change cd_Table__change ct_Table__change : Value}
    (a_Table__change : PySem.W.findIn K (.ref C_Table) "_change" = some (some (.ref p_Table__change))) (i_Table__change : PySem.W.isFn K (.ref p_Table__change) = true) (l_Table__change : K.lookup p_Table__change = some ⟨oc_Table__change, od_Table__change, .func (PySem.W.fnOf "_change" "Table._change" (defArgs s_Table__change) (defBody s_Table__change) (defScope s_Table__change) .none kV_Table__change dc_Table__change pm_Table__change an_Table__change cd_Table__change ct_Table__change), sl_Table__change⟩) (c_Table__change : PySem.W.codeIn K cd_Table__change "Table._change" = true) (k_Table__change : PySem.W.keepIn K (.ref p_Table__change) = true)
    {p_Table_revert_to : Addr} {od_Table_revert_to an_Table_revert_to : Option Addr} {sl_Table_revert_to : Array (Option Value)} {oc_Table_revert_to kV_Table_revert_to dc_Table_revert_to pm_Table_revert_to cd_Table_revert_to ct_Table_revert_to : Value}
    (a_Table_revert_to : PySem.W.findIn K (.ref C_Table) "revert_to" = some (some (.ref p_Table_revert_to))) (i_Table_revert_to : PySem.W.isFn K (.ref p_Table_revert_to) = true) (l_Table_revert_to : K.lookup p_Table_revert_to = some ⟨oc_Table_revert_to, od_Table_revert_to, .func (PySem.W.fnOf "revert_to" "Table.revert_to" (defArgs s_Table_revert_to) (defBody s_Table_revert_to) (defScope s_Table_revert_to) .none kV_Table_revert_to dc_Table_revert_to pm_Table_revert_to an_Table_revert_to cd_Table_revert_to ct_Table_revert_to), sl_Table_revert_to⟩) (c_Table_revert_to : PySem.W.codeIn K cd_Table_revert_to "Table.revert_to" = true) (k_Table_revert_to : PySem.W.keepIn K (.ref p_Table_revert_to) = true)
    {p_Table_change_rows : Addr} {od_Table_change_rows an_Table_change_rows : Option Addr} {sl_Table_change_rows : Array (Option Value)} {oc_Table_change_rows kV_Table_change_rows dc_Table_change_rows pm_Table_change_rows cd_Table_change_rows ct_Table_change_rows : Value}
    (a_Table_change_rows : PySem.W.findIn K (.ref C_Table) "change_rows" = some (some (.ref p_Table_change_rows))) (i_Table_change_rows : PySem.W.isFn K (.ref p_Table_change_rows) = true) (l_Table_change_rows : K.lookup p_Table_change_rows = some ⟨oc_Table_change_rows, od_Table_change_rows, .func (PySem.W.fnOf "change_rows" "Table.change_rows" (defArgs s_Table_change_rows) (defBody s_Table_change_rows) (defScope s_Table_change_rows) .none kV_Table_change_rows dc_Table_change_rows pm_Table_change_rows an_Table_change_rows cd_Table_change_rows ct_Table_change_rows), sl_Table_change_rows⟩) (c_Table_change_rows : PySem.W.codeIn K cd_Table_change_rows "Table.change_rows" = true) (k_Table_change_rows : PySem.W.keepIn K (.ref p_Table_change_rows) = true)
    {p_Table_drop_row : Addr} {od_Table_drop_row an_Table_drop_row : Option Addr} {sl_Table_drop_row : Array (Option Value)} {oc_Table_drop_row kV_Table_drop_row dc_Table_drop_row pm_Table_drop_row cd_Table_drop_row ct_Table_drop_row : Value}
    (a_Table_drop_row : PySem.W.findIn K (.ref C_Table) "drop_row" = some (some (.ref p_Table_drop_row))) (i_Table_drop_row : PySem.W.isFn K (.ref p_Table_drop_row) = true) (l_Table_drop_row : K.lookup p_Table_drop_row = some ⟨oc_Table_drop_row, od_Table_drop_row, .func (PySem.W.fnOf "drop_row" "Table.drop_row" (defArgs s_Table_drop_row) (defBody s_Table_drop_row) (defScope s_Table_drop_row) .none kV_Table_drop_row dc_Table_drop_row pm_Table_drop_row an_Table_drop_row cd_Table_drop_row ct_Table_drop_row), sl_Table_drop_row⟩) (c_Table_drop_row : PySem.W.codeIn K cd_Table_drop_row "Table.drop_row" = true) (k_Table_drop_row : PySem.W.keepIn K (.ref p_Table_drop_row) = true)
    {p_Table_put_row : Addr} {od_Table_put_row an_Table_put_row : Option Addr} {sl_Table_put_row : Array (Option Value)} {oc_Table_put_row kV_Table_put_row dc_Table_put_row pm_Table_put_row cd_Table_put_row ct_Table_put_row : Value}
    (a_Table_put_row : PySem.W.findIn K (.ref C_Table) "put_row" = some (some (.ref p_Table_put_row))) (i_Table_put_row : PySem.W.isFn K (.ref p_Table_put_row) = true) (l_Table_put_row : K.lookup p_Table_put_row = some ⟨oc_Table_put_row, od_Table_put_row, .func (PySem.W.fnOf "put_row" "Table.put_row" (defArgs s_Table_put_row) (defBody s_Table_put_row) (defScope s_Table_put_row) .none kV_Table_put_row dc_Table_put_row pm_Table_put_row an_Table_put_row cd_Table_put_row ct_Table_put_row), sl_Table_put_row⟩) (c_Table_put_row : PySem.W.codeIn K cd_Table_put_row "Table.put_row" = true) (k_Table_put_row : PySem.W.keepIn K (.ref p_Table_put_row) = true)
    {p__law_edit : Addr} {od__law_edit an__law_edit : Option Addr} {sl__law_edit : Array (Option Value)} {oc__law_edit kV__law_edit dc__law_edit pm__law_edit cd__law_edit ct__law_edit : Value}
    (a__law_edit : PySem.W.nsIn K mainGlobals "_law_edit" = some (some (.ref p__law_edit))) (l__law_edit : K.lookup p__law_edit = some ⟨oc__law_edit, od__law_edit, .func (PySem.W.fnOf "_law_edit" "_law_edit" (defArgs s__law_edit) (defBody s__law_edit) (defScope s__law_edit) .none kV__law_edit dc__law_edit pm__law_edit an__law_edit cd__law_edit ct__law_edit), sl__law_edit⟩) (c__law_edit : PySem.W.codeIn K cd__law_edit "_law_edit" = true) (k__law_edit : PySem.W.keepIn K (.ref p__law_edit) = true)
    {p_Table_changes_at : Addr} {od_Table_changes_at an_Table_changes_at : Option Addr} {sl_Table_changes_at : Array (Option Value)} {oc_Table_changes_at kV_Table_changes_at dc_Table_changes_at pm_Table_changes_at cd_Table_changes_at ct_Table_changes_at : Value}
    (a_Table_changes_at : PySem.W.findIn K (.ref C_Table) "changes_at" = some (some (.ref p_Table_changes_at))) (i_Table_changes_at : PySem.W.isFn K (.ref p_Table_changes_at) = true) (l_Table_changes_at : K.lookup p_Table_changes_at = some ⟨oc_Table_changes_at, od_Table_changes_at, .func (PySem.W.fnOf "changes_at" "Table.changes_at" (defArgs s_Table_changes_at) (defBody s_Table_changes_at) (defScope s_Table_changes_at) .none kV_Table_changes_at dc_Table_changes_at pm_Table_changes_at an_Table_changes_at cd_Table_changes_at ct_Table_changes_at), sl_Table_changes_at⟩) (c_Table_changes_at : PySem.W.codeIn K cd_Table_changes_at "Table.changes_at" = true) (k_Table_changes_at : PySem.W.keepIn K (.ref p_Table_changes_at) = true)
    {p__law_versions_right : Addr} {od__law_versions_right an__law_versions_right : Option Addr} {sl__law_versions_right : Array (Option Value)} {oc__law_versions_right kV__law_versions_right dc__law_versions_right pm__law_versions_right cd__law_versions_right ct__law_versions_right : Value}
    (a__law_versions_right : PySem.W.nsIn K mainGlobals "_law_versions_right" = some (some (.ref p__law_versions_right))) (l__law_versions_right : K.lookup p__law_versions_right = some ⟨oc__law_versions_right, od__law_versions_right, .func (PySem.W.fnOf "_law_versions_right" "_law_versions_right" (defArgs s__law_versions_right) (defBody s__law_versions_right) (defScope s__law_versions_right) .none kV__law_versions_right dc__law_versions_right pm__law_versions_right an__law_versions_right cd__law_versions_right ct__law_versions_right), sl__law_versions_right⟩) (c__law_versions_right : PySem.W.codeIn K cd__law_versions_right "_law_versions_right" = true) (k__law_versions_right : PySem.W.keepIn K (.ref p__law_versions_right) = true)
    {p_Table___init__ : Addr} {od_Table___init__ an_Table___init__ : Option Addr} {sl_Table___init__ : Array (Option Value)} {oc_Table___init__ kV_Table___init__ dc_Table___init__ pm_Table___init__ cd_Table___init__ ct_Table___init__ : Value}
    (a_Table___init__ : PySem.W.findIn K (.ref C_Table) "__init__" = some (some (.ref p_Table___init__))) (i_Table___init__ : PySem.W.isFn K (.ref p_Table___init__) = true) (l_Table___init__ : K.lookup p_Table___init__ = some ⟨oc_Table___init__, od_Table___init__, .func (PySem.W.fnOf "__init__" "Table.__init__" (defArgs s_Table___init__) (defBody s_Table___init__) (defScope s_Table___init__) .none kV_Table___init__ dc_Table___init__ pm_Table___init__ an_Table___init__ cd_Table___init__ ct_Table___init__), sl_Table___init__⟩) (c_Table___init__ : PySem.W.codeIn K cd_Table___init__ "Table.__init__" = true) (k_Table___init__ : PySem.W.keepIn K (.ref p_Table___init__) = true)
    {p_Table___len__ : Addr} {od_Table___len__ an_Table___len__ : Option Addr} {sl_Table___len__ : Array (Option Value)} {oc_Table___len__ kV_Table___len__ dc_Table___len__ pm_Table___len__ cd_Table___len__ ct_Table___len__ : Value}
    (a_Table___len__ : PySem.W.findIn K (.ref C_Table) "__len__" = some (some (.ref p_Table___len__))) (i_Table___len__ : PySem.W.isFn K (.ref p_Table___len__) = true) (l_Table___len__ : K.lookup p_Table___len__ = some ⟨oc_Table___len__, od_Table___len__, .func (PySem.W.fnOf "__len__" "Table.__len__" (defArgs s_Table___len__) (defBody s_Table___len__) (defScope s_Table___len__) .none kV_Table___len__ dc_Table___len__ pm_Table___len__ an_Table___len__ cd_Table___len__ ct_Table___len__), sl_Table___len__⟩) (c_Table___len__ : PySem.W.codeIn K cd_Table___len__ "Table.__len__" = true) (k_Table___len__ : PySem.W.keepIn K (.ref p_Table___len__) = true)
    {p_Table_present : Addr} {od_Table_present an_Table_present : Option Addr} {sl_Table_present : Array (Option Value)} {oc_Table_present kV_Table_present dc_Table_present pm_Table_present cd_Table_present ct_Table_present : Value}
    (a_Table_present : PySem.W.findIn K (.ref C_Table) "present" = some (some (.ref p_Table_present))) (i_Table_present : PySem.W.isFn K (.ref p_Table_present) = true) (l_Table_present : K.lookup p_Table_present = some ⟨oc_Table_present, od_Table_present, .func (PySem.W.fnOf "present" "Table.present" (defArgs s_Table_present) (defBody s_Table_present) (defScope s_Table_present) .none kV_Table_present dc_Table_present pm_Table_present an_Table_present cd_Table_present ct_Table_present), sl_Table_present⟩) (c_Table_present : PySem.W.codeIn K cd_Table_present "Table.present" = true) (k_Table_present : PySem.W.keepIn K (.ref p_Table_present) = true)
    {p_Table_column_names : Addr} {od_Table_column_names an_Table_column_names : Option Addr} {sl_Table_column_names : Array (Option Value)} {oc_Table_column_names kV_Table_column_names dc_Table_column_names pm_Table_column_names cd_Table_column_names ct_Table_column_names : Value}
    (a_Table_column_names : PySem.W.findIn K (.ref C_Table) "column_names" = some (some (.ref p_Table_column_names))) (i_Table_column_names : PySem.W.isFn K (.ref p_Table_column_names) = true) (l_Table_column_names : K.lookup p_Table_column_names = some ⟨oc_Table_column_names, od_Table_column_names, .func (PySem.W.fnOf "column_names" "Table.column_names" (defArgs s_Table_column_names) (defBody s_Table_column_names) (defScope s_Table_column_names) .none kV_Table_column_names dc_Table_column_names pm_Table_column_names an_Table_column_names cd_Table_column_names ct_Table_column_names), sl_Table_column_names⟩) (c_Table_column_names : PySem.W.codeIn K cd_Table_column_names "Table.column_names" = true) (k_Table_column_names : PySem.W.keepIn K (.ref p_Table_column_names) = true)
    {p_law : Addr} {od_law an_law : Option Addr} {sl_law : Array (Option Value)} {oc_law kV_law dc_law pm_law cd_law ct_law : Value}
    (a_law : PySem.W.nsIn K mainGlobals "law" = some (some (.ref p_law))) (l_law : K.lookup p_law = some ⟨oc_law, od_law, .func (PySem.W.fnOf "law" "law" (defArgs s_law) (defBody s_law) (defScope s_law) .none kV_law dc_law pm_law an_law cd_law ct_law), sl_law⟩) (c_law : PySem.W.codeIn K cd_law "law" = true) (k_law : PySem.W.keepIn K (.ref p_law) = true)
    (ty_Table : PySem.W.typeIn K (.ref p_Table___len__) = some (.type "function"))
    (n_all : PySem.W.nsIn K mainGlobals "all" = some none)
    (n_bool : PySem.W.nsIn K mainGlobals "bool" = some none)
    (n_dict : PySem.W.nsIn K mainGlobals "dict" = some none)
    (n_int : PySem.W.nsIn K mainGlobals "int" = some none)
    (n_isinstance : PySem.W.nsIn K mainGlobals "isinstance" = some none)
    (n_len : PySem.W.nsIn K mainGlobals "len" = some none)
    (n_list : PySem.W.nsIn K mainGlobals "list" = some none)
    (n_max : PySem.W.nsIn K mainGlobals "max" = some none)
    (n_min : PySem.W.nsIn K mainGlobals "min" = some none)
    (n_range : PySem.W.nsIn K mainGlobals "range" = some none)
    (n_repr : PySem.W.nsIn K mainGlobals "repr" = some none)
    (n_set : PySem.W.nsIn K mainGlobals "set" = some none)
    (n_sorted : PySem.W.nsIn K mainGlobals "sorted" = some none)
    (n_str : PySem.W.nsIn K mainGlobals "str" = some none)
    (n_tuple : PySem.W.nsIn K mainGlobals "tuple" = some none)
    {a_BARRED_NAMES : Addr} {z_BARRED_NAMES : Nat} {sl_BARRED_NAMES : Array (Option Value)} {t0_BARRED_NAMES t1_BARRED_NAMES t2_BARRED_NAMES t3_BARRED_NAMES t4_BARRED_NAMES t5_BARRED_NAMES t6_BARRED_NAMES : Tok} (c_BARRED_NAMES : PySem.W.nsIn K mainGlobals "BARRED_NAMES" = some (some (.ref a_BARRED_NAMES))) (l_BARRED_NAMES : K.lookup a_BARRED_NAMES = some ⟨.type "tuple", none, .seq #[.str (Str.ofString "all") t0_BARRED_NAMES, .str (Str.ofString "and") t1_BARRED_NAMES, .str (Str.ofString "in") t2_BARRED_NAMES, .str (Str.ofString "none") t3_BARRED_NAMES, .str (Str.ofString "not") t4_BARRED_NAMES, .str (Str.ofString "or") t5_BARRED_NAMES, .str (Str.ofString "starts") t6_BARRED_NAMES] z_BARRED_NAMES, sl_BARRED_NAMES⟩)
    {t_GREATEST_ID : Tok} (c_GREATEST_ID : PySem.W.nsIn K mainGlobals "GREATEST_ID" = some (some (.int 1000000 t_GREATEST_ID)))
    {t_GREATEST_INTEGER : Tok} (c_GREATEST_INTEGER : PySem.W.nsIn K mainGlobals "GREATEST_INTEGER" = some (some (.int 1000000000 t_GREATEST_INTEGER)))
    {t_LONGEST_NAME : Tok} (c_LONGEST_NAME : PySem.W.nsIn K mainGlobals "LONGEST_NAME" = some (some (.int 8 t_LONGEST_NAME)))
    {t_LONGEST_STRING : Tok} (c_LONGEST_STRING : PySem.W.nsIn K mainGlobals "LONGEST_STRING" = some (some (.int 20 t_LONGEST_STRING)))
    {t_MOST_COLUMNS : Tok} (c_MOST_COLUMNS : PySem.W.nsIn K mainGlobals "MOST_COLUMNS" = some (some (.int 6 t_MOST_COLUMNS)))
    : ∃ fd : FuncData, (∀ (s : Shared) (v : Value), BindsTo s fd ⟨[v], []⟩ [("script", v)]) ∧ ∀ base : Heap, K.In base → base.Ns mainGlobals mg → FnD l.prog w K mg base 7 fa fd ["script"] m_law := by
  have e := hfa.symm.trans (PySem.W.mg_of X G a_law)
  cases e
  let T : Txt K mg := { a_is_integer := p_is_integer, f_is_integer := _, F_is_integer := fun_mk (st := s_is_integer) l_is_integer c_is_integer k_is_integer, b_is_integer := (fun_mk (st := s_is_integer) l_is_integer c_is_integer k_is_integer).binds (ps := ["value"]) (fun _ _ _ _ _ _ us hl => (match us, hl with | [_], _ => rfl)), g_is_integer := PySem.W.mg_of X G a_is_integer, a_is_string := p_is_string, f_is_string := _, F_is_string := fun_mk (st := s_is_string) l_is_string c_is_string k_is_string, b_is_string := (fun_mk (st := s_is_string) l_is_string c_is_string k_is_string).binds (ps := ["value"]) (fun _ _ _ _ _ _ us hl => (match us, hl with | [_], _ => rfl)), g_is_string := PySem.W.mg_of X G a_is_string, a_is_value := p_is_value, f_is_value := _, F_is_value := fun_mk (st := s_is_value) l_is_value c_is_value k_is_value, b_is_value := (fun_mk (st := s_is_value) l_is_value c_is_value k_is_value).binds (ps := ["value"]) (fun _ _ _ _ _ _ us hl => (match us, hl with | [_], _ => rfl)), g_is_value := PySem.W.mg_of X G a_is_value, a_is_name := p_is_name, f_is_name := _, F_is_name := fun_mk (st := s_is_name) l_is_name c_is_name k_is_name, b_is_name := (fun_mk (st := s_is_name) l_is_name c_is_name k_is_name).binds (ps := ["value"]) (fun _ _ _ _ _ _ us hl => (match us, hl with | [_], _ => rfl)), g_is_name := PySem.W.mg_of X G a_is_name, a_is_column_name := p_is_column_name, f_is_column_name := _, F_is_column_name := fun_mk (st := s_is_column_name) l_is_column_name c_is_column_name k_is_column_name, b_is_column_name := (fun_mk (st := s_is_column_name) l_is_column_name c_is_column_name k_is_column_name).binds (ps := ["value"]) (fun _ _ _ _ _ _ us hl => (match us, hl with | [_], _ => rfl)), g_is_column_name := PySem.W.mg_of X G a_is_column_name, a_is_columns := p_is_columns, f_is_columns := _, F_is_columns := fun_mk (st := s_is_columns) l_is_columns c_is_columns k_is_columns, b_is_columns := (fun_mk (st := s_is_columns) l_is_columns c_is_columns k_is_columns).binds (ps := ["value"]) (fun _ _ _ _ _ _ us hl => (match us, hl with | [_], _ => rfl)), g_is_columns := PySem.W.mg_of X G a_is_columns, a_is_row_id := p_is_row_id, f_is_row_id := _, F_is_row_id := fun_mk (st := s_is_row_id) l_is_row_id c_is_row_id k_is_row_id, b_is_row_id := (fun_mk (st := s_is_row_id) l_is_row_id c_is_row_id k_is_row_id).binds (ps := ["value"]) (fun _ _ _ _ _ _ us hl => (match us, hl with | [_], _ => rfl)), g_is_row_id := PySem.W.mg_of X G a_is_row_id, a_is_row := p_is_row, f_is_row := _, F_is_row := fun_mk (st := s_is_row) l_is_row c_is_row k_is_row, b_is_row := (fun_mk (st := s_is_row) l_is_row c_is_row k_is_row).binds (ps := ["columns", "value"]) (fun _ _ _ _ _ _ us hl => (match us, hl with | [_, _], _ => rfl)), g_is_row := PySem.W.mg_of X G a_is_row, a_is_edit := p_is_edit, f_is_edit := _, F_is_edit := fun_mk (st := s_is_edit) l_is_edit c_is_edit k_is_edit, b_is_edit := (fun_mk (st := s_is_edit) l_is_edit c_is_edit k_is_edit).binds (ps := ["columns", "value"]) (fun _ _ _ _ _ _ us hl => (match us, hl with | [_, _], _ => rfl)), g_is_edit := PySem.W.mg_of X G a_is_edit, a_values_of := p_values_of, f_values_of := _, F_values_of := fun_mk (st := s_values_of) l_values_of c_values_of k_values_of, b_values_of := (fun_mk (st := s_values_of) l_values_of c_values_of k_values_of).binds (ps := ["state"]) (fun _ _ _ _ _ _ us hl => (match us, hl with | [_], _ => rfl)), g_values_of := PySem.W.mg_of X G a_values_of, a_take_step := p_take_step, f_take_step := _, F_take_step := fun_mk (st := s_take_step) l_take_step c_take_step k_take_step, b_take_step := (fun_mk (st := s_take_step) l_take_step c_take_step k_take_step).binds (ps := ["states", "step"]) (fun _ _ _ _ _ _ us hl => (match us, hl with | [_, _], _ => rfl)), g_take_step := PySem.W.mg_of X G a_take_step, a__law_tape := p__law_tape, f__law_tape := _, F__law_tape := fun_mk (st := s__law_tape) l__law_tape c__law_tape k__law_tape, b__law_tape := (fun_mk (st := s__law_tape) l__law_tape c__law_tape k__law_tape).binds (ps := ["script", "start"]) (fun _ _ _ _ _ _ us hl => (match us, hl with | [_, _], _ => rfl)), g__law_tape := PySem.W.mg_of X G a__law_tape, a__law_pick := p__law_pick, f__law_pick := _, F__law_pick := fun_mk (st := s__law_pick) l__law_pick c__law_pick k__law_pick, b__law_pick := (fun_mk (st := s__law_pick) l__law_pick c__law_pick k__law_pick).binds (ps := ["tape", "size"]) (fun _ _ _ _ _ _ us hl => (match us, hl with | [_, _], _ => rfl)), g__law_pick := PySem.W.mg_of X G a__law_pick, a__law_one_of := p__law_one_of, f__law_one_of := _, F__law_one_of := fun_mk (st := s__law_one_of) l__law_one_of c__law_one_of k__law_one_of, b__law_one_of := (fun_mk (st := s__law_one_of) l__law_one_of c__law_one_of k__law_one_of).binds (ps := ["tape", "items"]) (fun _ _ _ _ _ _ us hl => (match us, hl with | [_, _], _ => rfl)), g__law_one_of := PySem.W.mg_of X G a__law_one_of, a__law_value := p__law_value, f__law_value := _, F__law_value := fun_mk (st := s__law_value) l__law_value c__law_value k__law_value, b__law_value := (fun_mk (st := s__law_value) l__law_value c__law_value k__law_value).binds (ps := ["tape"]) (fun _ _ _ _ _ _ us hl => (match us, hl with | [_], _ => rfl)), g__law_value := PySem.W.mg_of X G a__law_value, a__law_values := p__law_values, f__law_values := _, F__law_values := fun_mk (st := s__law_values) l__law_values c__law_values k__law_values, b__law_values := (fun_mk (st := s__law_values) l__law_values c__law_values k__law_values).binds (ps := ["tape", "width"]) (fun _ _ _ _ _ _ us hl => (match us, hl with | [_, _], _ => rfl)), g__law_values := PySem.W.mg_of X G a__law_values, a_Table_known_versions := p_Table_known_versions, f_Table_known_versions := _, F_Table_known_versions := fun_mk (st := s_Table_known_versions) l_Table_known_versions c_Table_known_versions k_Table_known_versions, b_Table_known_versions := (fun_mk (st := s_Table_known_versions) l_Table_known_versions c_Table_known_versions k_Table_known_versions).binds (ps := ["self"]) (fun _ _ _ _ _ _ us hl => (match us, hl with | [_], _ => rfl)), a_Table__check_known := p_Table__check_known, f_Table__check_known := _, F_Table__check_known := fun_mk (st := s_Table__check_known) l_Table__check_known c_Table__check_known k_Table__check_known, b_Table__check_known := (fun_mk (st := s_Table__check_known) l_Table__check_known c_Table__check_known k_Table__check_known).binds (ps := ["self", "version"]) (fun _ _ _ _ _ _ us hl => (match us, hl with | [_, _], _ => rfl)), a_Table__states_at := p_Table__states_at, f_Table__states_at := _, F_Table__states_at := fun_mk (st := s_Table__states_at) l_Table__states_at c_Table__states_at k_Table__states_at, b_Table__states_at := (fun_mk (st := s_Table__states_at) l_Table__states_at c_Table__states_at k_Table__states_at).binds (ps := ["self", "version"]) (fun _ _ _ _ _ _ us hl => (match us, hl with | [_, _], _ => rfl)), a_Table_rows_at := p_Table_rows_at, f_Table_rows_at := _, F_Table_rows_at := fun_mk (st := s_Table_rows_at) l_Table_rows_at c_Table_rows_at k_Table_rows_at, b_Table_rows_at := (fun_mk (st := s_Table_rows_at) l_Table_rows_at c_Table_rows_at k_Table_rows_at).binds (ps := ["self", "version"]) (fun _ _ _ _ _ _ us hl => (match us, hl with | [_, _], _ => rfl)), a_Table__change := p_Table__change, f_Table__change := _, F_Table__change := fun_mk (st := s_Table__change) l_Table__change c_Table__change k_Table__change, b_Table__change := (fun_mk (st := s_Table__change) l_Table__change c_Table__change k_Table__change).binds (ps := ["self", "rows"]) (fun _ _ _ _ _ _ us hl => (match us, hl with | [_, _], _ => rfl)), a_Table_revert_to := p_Table_revert_to, f_Table_revert_to := _, F_Table_revert_to := fun_mk (st := s_Table_revert_to) l_Table_revert_to c_Table_revert_to k_Table_revert_to, b_Table_revert_to := (fun_mk (st := s_Table_revert_to) l_Table_revert_to c_Table_revert_to k_Table_revert_to).binds (ps := ["self", "version"]) (fun _ _ _ _ _ _ us hl => (match us, hl with | [_, _], _ => rfl)), a_Table_change_rows := p_Table_change_rows, f_Table_change_rows := _, F_Table_change_rows := fun_mk (st := s_Table_change_rows) l_Table_change_rows c_Table_change_rows k_Table_change_rows, b_Table_change_rows := (fun_mk (st := s_Table_change_rows) l_Table_change_rows c_Table_change_rows k_Table_change_rows).binds (ps := ["self", "edits"]) (fun _ _ _ _ _ _ us hl => (match us, hl with | [_, _], _ => rfl)), a_Table_drop_row := p_Table_drop_row, f_Table_drop_row := _, F_Table_drop_row := fun_mk (st := s_Table_drop_row) l_Table_drop_row c_Table_drop_row k_Table_drop_row, b_Table_drop_row := (fun_mk (st := s_Table_drop_row) l_Table_drop_row c_Table_drop_row k_Table_drop_row).binds (ps := ["self", "row_id"]) (fun _ _ _ _ _ _ us hl => (match us, hl with | [_, _], _ => rfl)), a_Table_put_row := p_Table_put_row, f_Table_put_row := _, F_Table_put_row := fun_mk (st := s_Table_put_row) l_Table_put_row c_Table_put_row k_Table_put_row, b_Table_put_row := (fun_mk (st := s_Table_put_row) l_Table_put_row c_Table_put_row k_Table_put_row).binds (ps := ["self", "row_id", "values"]) (fun _ _ _ _ _ _ us hl => (match us, hl with | [_, _, _], _ => rfl)), a__law_edit := p__law_edit, f__law_edit := _, F__law_edit := fun_mk (st := s__law_edit) l__law_edit c__law_edit k__law_edit, b__law_edit := (fun_mk (st := s__law_edit) l__law_edit c__law_edit k__law_edit).binds (ps := ["tape", "table", "past", "width"]) (fun _ _ _ _ _ _ us hl => (match us, hl with | [_, _, _, _], _ => rfl)), g__law_edit := PySem.W.mg_of X G a__law_edit, a_Table_changes_at := p_Table_changes_at, f_Table_changes_at := _, F_Table_changes_at := fun_mk (st := s_Table_changes_at) l_Table_changes_at c_Table_changes_at k_Table_changes_at, b_Table_changes_at := (fun_mk (st := s_Table_changes_at) l_Table_changes_at c_Table_changes_at k_Table_changes_at).binds (ps := ["self", "version"]) (fun _ _ _ _ _ _ us hl => (match us, hl with | [_, _], _ => rfl)), a__law_versions_right := p__law_versions_right, f__law_versions_right := _, F__law_versions_right := fun_mk (st := s__law_versions_right) l__law_versions_right c__law_versions_right k__law_versions_right, b__law_versions_right := (fun_mk (st := s__law_versions_right) l__law_versions_right c__law_versions_right k__law_versions_right).binds (ps := ["table", "past"]) (fun _ _ _ _ _ _ us hl => (match us, hl with | [_, _], _ => rfl)), g__law_versions_right := PySem.W.mg_of X G a__law_versions_right, a_Table___init__ := p_Table___init__, f_Table___init__ := _, F_Table___init__ := fun_mk (st := s_Table___init__) l_Table___init__ c_Table___init__ k_Table___init__, b_Table___init__ := (fun_mk (st := s_Table___init__) l_Table___init__ c_Table___init__ k_Table___init__).binds (ps := ["self", "columns"]) (fun _ _ _ _ _ _ us hl => (match us, hl with | [_, _], _ => rfl)), a_Table___len__ := p_Table___len__, f_Table___len__ := _, F_Table___len__ := fun_mk (st := s_Table___len__) l_Table___len__ c_Table___len__ k_Table___len__, b_Table___len__ := (fun_mk (st := s_Table___len__) l_Table___len__ c_Table___len__ k_Table___len__).binds (ps := ["self"]) (fun _ _ _ _ _ _ us hl => (match us, hl with | [_], _ => rfl)), a_Table_present := p_Table_present, f_Table_present := _, F_Table_present := fun_mk (st := s_Table_present) l_Table_present c_Table_present k_Table_present, b_Table_present := (fun_mk (st := s_Table_present) l_Table_present c_Table_present k_Table_present).binds (ps := ["self"]) (fun _ _ _ _ _ _ us hl => (match us, hl with | [_], _ => rfl)), a_Table_column_names := p_Table_column_names, f_Table_column_names := _, F_Table_column_names := fun_mk (st := s_Table_column_names) l_Table_column_names c_Table_column_names k_Table_column_names, b_Table_column_names := (fun_mk (st := s_Table_column_names) l_Table_column_names c_Table_column_names k_Table_column_names).binds (ps := ["self"]) (fun _ _ _ _ _ _ us hl => (match us, hl with | [_], _ => rfl)), a_law := fa, f_law := _, F_law := fun_mk (st := s_law) l_law c_law k_law, b_law := (fun_mk (st := s_law) l_law c_law k_law).binds (ps := ["script"]) (fun _ _ _ _ _ _ us hl => (match us, hl with | [_], _ => rfl)), g_law := PySem.W.mg_of X G a_law, C_Table := C_Table, K_Table := ⟨aC_Table, ⟨pg_Table, hd_Table, po_Table, sa_Table⟩⟩, g_Table := PySem.W.mg_of X G aC_Table, na_Table__columns := nf_Table__columns, na_Table__present := nf_Table__present, na_Table__states := nf_Table__states, na_Table__steps := nf_Table__steps, M_Table__change := ⟨a_Table__change, i_Table__change, k_Table__change⟩, M_Table__check_known := ⟨a_Table__check_known, i_Table__check_known, k_Table__check_known⟩, M_Table__states_at := ⟨a_Table__states_at, i_Table__states_at, k_Table__states_at⟩, M_Table_change_rows := ⟨a_Table_change_rows, i_Table_change_rows, k_Table_change_rows⟩, M_Table_changes_at := ⟨a_Table_changes_at, i_Table_changes_at, k_Table_changes_at⟩, M_Table_column_names := ⟨a_Table_column_names, i_Table_column_names, k_Table_column_names⟩, M_Table_drop_row := ⟨a_Table_drop_row, i_Table_drop_row, k_Table_drop_row⟩, M_Table_known_versions := ⟨a_Table_known_versions, i_Table_known_versions, k_Table_known_versions⟩, M_Table_present := ⟨a_Table_present, i_Table_present, k_Table_present⟩, M_Table_put_row := ⟨a_Table_put_row, i_Table_put_row, k_Table_put_row⟩, M_Table_revert_to := ⟨a_Table_revert_to, i_Table_revert_to, k_Table_revert_to⟩, M_Table_rows_at := ⟨a_Table_rows_at, i_Table_rows_at, k_Table_rows_at⟩, mk_Table := ⟨km_Table, a_Table___init__, i_Table___init__, kc_Table⟩, fi_Table := a_Table___len__, ty_Table := ty_Table, n_all := PySem.W.mg_none_of X G n_all, n_bool := PySem.W.mg_none_of X G n_bool, n_dict := PySem.W.mg_none_of X G n_dict, n_int := PySem.W.mg_none_of X G n_int, n_isinstance := PySem.W.mg_none_of X G n_isinstance, n_len := PySem.W.mg_none_of X G n_len, n_list := PySem.W.mg_none_of X G n_list, n_max := PySem.W.mg_none_of X G n_max, n_min := PySem.W.mg_none_of X G n_min, n_range := PySem.W.mg_none_of X G n_range, n_repr := PySem.W.mg_none_of X G n_repr, n_set := PySem.W.mg_none_of X G n_set, n_sorted := PySem.W.mg_none_of X G n_sorted, n_str := PySem.W.mg_none_of X G n_str, n_tuple := PySem.W.mg_none_of X G n_tuple, a_BARRED_NAMES := a_BARRED_NAMES, o_BARRED_NAMES := _, i_BARRED_NAMES := _, z_BARRED_NAMES := _, c_BARRED_NAMES := PySem.W.mg_of X G c_BARRED_NAMES, l_BARRED_NAMES := l_BARRED_NAMES, h_BARRED_NAMES := rfl, x_BARRED_NAMES := rfl, d_BARRED_NAMES := rfl, y_BARRED_NAMES := (show 7 ≤ sizeLine by decide), v_BARRED_NAMES := (.cons ⟨_, rfl⟩ (.cons ⟨_, rfl⟩ (.cons ⟨_, rfl⟩ (.cons ⟨_, rfl⟩ (.cons ⟨_, rfl⟩ (.cons ⟨_, rfl⟩ (.cons ⟨_, rfl⟩ .nil))))))), t_GREATEST_ID := t_GREATEST_ID, c_GREATEST_ID := PySem.W.mg_of X G c_GREATEST_ID, t_GREATEST_INTEGER := t_GREATEST_INTEGER, c_GREATEST_INTEGER := PySem.W.mg_of X G c_GREATEST_INTEGER, t_LONGEST_NAME := t_LONGEST_NAME, c_LONGEST_NAME := PySem.W.mg_of X G c_LONGEST_NAME, t_LONGEST_STRING := t_LONGEST_STRING, c_LONGEST_STRING := PySem.W.mg_of X G c_LONGEST_STRING, t_MOST_COLUMNS := t_MOST_COLUMNS, c_MOST_COLUMNS := PySem.W.mg_of X G c_MOST_COLUMNS }
  exact ⟨_, fun s v => .of_eq rfl, fun base _ _ => d_law T⟩
end LW
open PySem PySem.W PyProof.Rows
set_option maxHeartbeats 0 in
theorem PySem.Challenge.cw_steadypages_k18_edits_and_versions_holds : PySem.Challenge.rw_steadypages_k18_edits_and_versions.Holds := by
  w_on; o_law; k_head; (case hw => w_witness2)
  k_fill
  refine DL.walkD (l := PySem.Challenge.rw_steadypages_k18_edits_and_versions) (n := 63) (k := 7) (x := "script") (m := LW.m_law) rfl (by decide) rfl ⟨rfl, by decide, by decide⟩ (fun w h Y => PySem.W.kIn_of Y) ?F LW.law_true
  case F =>
    intro w mg fa h KX G hmg
    refine' LW.all_mk KX G hmg ?aC_Table ?pg_Table ?hd_Table ?po_Table ?sa_Table ?km_Table ?kc_Table ?nf_Table__columns ?nf_Table__present ?nf_Table__states ?nf_Table__steps ?a_is_integer ?l_is_integer ?c_is_integer ?k_is_integer ?a_is_string ?l_is_string ?c_is_string ?k_is_string ?a_is_value ?l_is_value ?c_is_value ?k_is_value ?a_is_name ?l_is_name ?c_is_name ?k_is_name ?a_is_column_name ?l_is_column_name ?c_is_column_name ?k_is_column_name ?a_is_columns ?l_is_columns ?c_is_columns ?k_is_columns ?a_is_row_id ?l_is_row_id ?c_is_row_id ?k_is_row_id ?a_is_row ?l_is_row ?c_is_row ?k_is_row ?a_is_edit ?l_is_edit ?c_is_edit ?k_is_edit ?a_values_of ?l_values_of ?c_values_of ?k_values_of ?a_take_step ?l_take_step ?c_take_step ?k_take_step ?a__law_tape ?l__law_tape ?c__law_tape ?k__law_tape ?a__law_pick ?l__law_pick ?c__law_pick ?k__law_pick ?a__law_one_of ?l__law_one_of ?c__law_one_of ?k__law_one_of ?a__law_value ?l__law_value ?c__law_value ?k__law_value ?a__law_values ?l__law_values ?c__law_values ?k__law_values ?a_Table_known_versions ?i_Table_known_versions ?l_Table_known_versions ?c_Table_known_versions ?k_Table_known_versions ?a_Table__check_known ?i_Table__check_known ?l_Table__check_known ?c_Table__check_known ?k_Table__check_known ?a_Table__states_at ?i_Table__states_at ?l_Table__states_at ?c_Table__states_at ?k_Table__states_at ?a_Table_rows_at ?i_Table_rows_at ?l_Table_rows_at ?c_Table_rows_at ?k_Table_rows_at ?a_Table__change ?i_Table__change ?l_Table__change ?c_Table__change ?k_Table__change ?a_Table_revert_to ?i_Table_revert_to ?l_Table_revert_to ?c_Table_revert_to ?k_Table_revert_to ?a_Table_change_rows ?i_Table_change_rows ?l_Table_change_rows ?c_Table_change_rows ?k_Table_change_rows ?a_Table_drop_row ?i_Table_drop_row ?l_Table_drop_row ?c_Table_drop_row ?k_Table_drop_row ?a_Table_put_row ?i_Table_put_row ?l_Table_put_row ?c_Table_put_row ?k_Table_put_row ?a__law_edit ?l__law_edit ?c__law_edit ?k__law_edit ?a_Table_changes_at ?i_Table_changes_at ?l_Table_changes_at ?c_Table_changes_at ?k_Table_changes_at ?a__law_versions_right ?l__law_versions_right ?c__law_versions_right ?k__law_versions_right ?a_Table___init__ ?i_Table___init__ ?l_Table___init__ ?c_Table___init__ ?k_Table___init__ ?a_Table___len__ ?i_Table___len__ ?l_Table___len__ ?c_Table___len__ ?k_Table___len__ ?a_Table_present ?i_Table_present ?l_Table_present ?c_Table_present ?k_Table_present ?a_Table_column_names ?i_Table_column_names ?l_Table_column_names ?c_Table_column_names ?k_Table_column_names ?a_law ?l_law ?c_law ?k_law ?ty_Table ?n_all ?n_bool ?n_dict ?n_int ?n_isinstance ?n_len ?n_list ?n_max ?n_min ?n_range ?n_repr ?n_set ?n_sorted ?n_str ?n_tuple ?c_BARRED_NAMES ?l_BARRED_NAMES ?c_GREATEST_ID ?c_GREATEST_INTEGER ?c_LONGEST_NAME ?c_LONGEST_STRING ?c_MOST_COLUMNS
    (case aC_Table => k_is); (case pg_Table => k_is); (case hd_Table => k_is); (case po_Table => k_is); (case sa_Table => k_is); (case km_Table => k_is); (case kc_Table => k_is); (case nf_Table__columns => k_is); (case nf_Table__present => k_is); (case nf_Table__states => k_is); (case nf_Table__steps => k_is); (case a_is_integer => k_is); (case l_is_integer => k_is); (case c_is_integer => k_is); (case k_is_integer => k_is); (case a_is_string => k_is); (case l_is_string => k_is); (case c_is_string => k_is); (case k_is_string => k_is); (case a_is_value => k_is); (case l_is_value => k_is); (case c_is_value => k_is); (case k_is_value => k_is); (case a_is_name => k_is); (case l_is_name => k_is); (case c_is_name => k_is); (case k_is_name => k_is); (case a_is_column_name => k_is); (case l_is_column_name => k_is); (case c_is_column_name => k_is); (case k_is_column_name => k_is); (case a_is_columns => k_is); (case l_is_columns => k_is); (case c_is_columns => k_is); (case k_is_columns => k_is); (case a_is_row_id => k_is); (case l_is_row_id => k_is); (case c_is_row_id => k_is); (case k_is_row_id => k_is); (case a_is_row => k_is); (case l_is_row => k_is); (case c_is_row => k_is); (case k_is_row => k_is); (case a_is_edit => k_is); (case l_is_edit => k_is); (case c_is_edit => k_is); (case k_is_edit => k_is); (case a_values_of => k_is); (case l_values_of => k_is); (case c_values_of => k_is); (case k_values_of => k_is); (case a_take_step => k_is); (case l_take_step => k_is); (case c_take_step => k_is); (case k_take_step => k_is); (case a__law_tape => k_is); (case l__law_tape => k_is); (case c__law_tape => k_is); (case k__law_tape => k_is); (case a__law_pick => k_is); (case l__law_pick => k_is); (case c__law_pick => k_is); (case k__law_pick => k_is); (case a__law_one_of => k_is); (case l__law_one_of => k_is); (case c__law_one_of => k_is); (case k__law_one_of => k_is); (case a__law_value => k_is); (case l__law_value => k_is); (case c__law_value => k_is); (case k__law_value => k_is); (case a__law_values => k_is); (case l__law_values => k_is); (case c__law_values => k_is); (case k__law_values => k_is); (case a_Table_known_versions => k_is); (case i_Table_known_versions => k_is); (case l_Table_known_versions => k_is); (case c_Table_known_versions => k_is); (case k_Table_known_versions => k_is); (case a_Table__check_known => k_is); (case i_Table__check_known => k_is); (case l_Table__check_known => k_is); (case c_Table__check_known => k_is); (case k_Table__check_known => k_is); (case a_Table__states_at => k_is); (case i_Table__states_at => k_is); (case l_Table__states_at => k_is); (case c_Table__states_at => k_is); (case k_Table__states_at => k_is); (case a_Table_rows_at => k_is); (case i_Table_rows_at => k_is); (case l_Table_rows_at => k_is); (case c_Table_rows_at => k_is); (case k_Table_rows_at => k_is); (case a_Table__change => k_is); (case i_Table__change => k_is); (case l_Table__change => k_is); (case c_Table__change => k_is); (case k_Table__change => k_is); (case a_Table_revert_to => k_is); (case i_Table_revert_to => k_is); (case l_Table_revert_to => k_is); (case c_Table_revert_to => k_is); (case k_Table_revert_to => k_is); (case a_Table_change_rows => k_is); (case i_Table_change_rows => k_is); (case l_Table_change_rows => k_is); (case c_Table_change_rows => k_is); (case k_Table_change_rows => k_is); (case a_Table_drop_row => k_is); (case i_Table_drop_row => k_is); (case l_Table_drop_row => k_is); (case c_Table_drop_row => k_is); (case k_Table_drop_row => k_is); (case a_Table_put_row => k_is); (case i_Table_put_row => k_is); (case l_Table_put_row => k_is); (case c_Table_put_row => k_is); (case k_Table_put_row => k_is); (case a__law_edit => k_is); (case l__law_edit => k_is); (case c__law_edit => k_is); (case k__law_edit => k_is); (case a_Table_changes_at => k_is); (case i_Table_changes_at => k_is); (case l_Table_changes_at => k_is); (case c_Table_changes_at => k_is); (case k_Table_changes_at => k_is); (case a__law_versions_right => k_is); (case l__law_versions_right => k_is); (case c__law_versions_right => k_is); (case k__law_versions_right => k_is); (case a_Table___init__ => k_is); (case i_Table___init__ => k_is); (case l_Table___init__ => k_is); (case c_Table___init__ => k_is); (case k_Table___init__ => k_is); (case a_Table___len__ => k_is); (case i_Table___len__ => k_is); (case l_Table___len__ => k_is); (case c_Table___len__ => k_is); (case k_Table___len__ => k_is); (case a_Table_present => k_is); (case i_Table_present => k_is); (case l_Table_present => k_is); (case c_Table_present => k_is); (case k_Table_present => k_is); (case a_Table_column_names => k_is); (case i_Table_column_names => k_is); (case l_Table_column_names => k_is); (case c_Table_column_names => k_is); (case k_Table_column_names => k_is); (case a_law => k_is); (case l_law => k_is); (case c_law => k_is); (case k_law => k_is); (case ty_Table => k_is); (case n_all => k_is); (case n_bool => k_is); (case n_dict => k_is); (case n_int => k_is); (case n_isinstance => k_is); (case n_len => k_is); (case n_list => k_is); (case n_max => k_is); (case n_min => k_is); (case n_range => k_is); (case n_repr => k_is); (case n_set => k_is); (case n_sorted => k_is); (case n_str => k_is); (case n_tuple => k_is); (case c_BARRED_NAMES => k_is); (case l_BARRED_NAMES => k_is); (case c_GREATEST_ID => k_is); (case c_GREATEST_INTEGER => k_is); (case c_LONGEST_NAME => k_is); (case c_LONGEST_STRING => k_is); (case c_MOST_COLUMNS => k_is)
