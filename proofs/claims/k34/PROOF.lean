import PyProof.Rows.All
import Wide.All
import OpenK.AllK
import Wide.FinOn
import HandS.ForMost
import HandS.IsInst
import HandS.Wide
import HandS.TupAny
import HandS.TupMul
import HandS.Style
import HandS.Flow
import HandS.Conv
import HandS.EndBits
import HandS.SetBool
import HandS.Strs
import HandS.Lambda
import KE.IntBitsLaws
import KE.DataFind
import KE.LtSeq
import HandS.ForExc
import HandS.ExcOwn
import HandS.Zip
import HandS.Star
import HandS.DictComp
import KE.GoesEnum
import KE.GoesMore
import KE.LtData
import HandS.SetFor
import HandS.SortInts
import HandS.NamedTupGet
import HandS.DictTup
import HandS.ListItems
import HandS.More
import HandS.Finally
import HandS.DictEq
import HandS.TryOnly
import HandS.TupSets
import HandS.ExcCtx
import HandS.Codes
import KE.KEqNest
import HandS.OwnEq
import KE.KDictList
import PyProof.RowDictHeap
import PyProof.ReprRoads
import PyProof.P3Eq
import PySem.Challenge.RW_steadypages_k34_corrections
set_option Elab.async false
set_option linter.all false
set_option maxRecDepth 100000
set_option maxHeartbeats 4000000
/-! New tuples whose object is known: it has no dict. -/
namespace DL
open PySem PySem.Spec PyProof.Rows L2
/-- what a new tuple brings -/
abbrev Fz (Q : VK) (H : Hp) (xs : List V) : Prop := ∀ (p : Addr) (o : Obj), H p = none → o.dict = none → Q (.ref p) (upd H p (.frz o (.tup xs)))
section
variable {X : Cx}
theorem laidF {pins : List (Addr × Obj)} {σ : L2.St} {H : Hp} {s : Shared} {Q : VK} {xs : List V} {us : List Value} {t' : Nat} (I : Inv X pins σ H s) (r : Vals xs us) (z : xs.length ≤ sizeLine) (q : Fz Q H xs) :
    EP X pins σ Q (.ref s.heap.objs.size) { s with heap := s.heap.push { cls := .type "tuple", data := .seq us.toArray }, toks := t' } :=
  ⟨.ref s.heap.objs.size, _, I.laid (t' := t') (o := .frz { cls := .type "tuple", data := .seq us.toArray } (.tup xs)) (fun _ _ e => Heap.get?_push_of_some _ e) (Nat.le_refl _) ⟨Heap.get?_push_size _ rfl, z, us, r, IsTup.new _ _⟩, rfl, q _ _ (I.hok.fresh (Nat.le_refl _)) rfl⟩
theorem pe_tupF {es : List Expr} {t : TA} {x1 : Nat} {pos : Pos} (h : PA X es t) : PE X (.Tuple es x1 pos) (fun σ H Q => t σ H fun xs H1 => xs.length ≤ sizeLine ∧ Fz Q H1 xs) :=
  ⟨fun pins s σ H Q I hq => wpAny_Tuple_spliced (thn (h.run pos pins s σ H _ I hq) fun us s1 ⟨xs, H1, I1, r, z, q⟩ => ⟨by rw [← r.length]; exact z, laidF (t' := s1.toks) I1 r z q⟩)⟩
theorem call_tupF : CallR X (.type "tuple") (fun xs H Q => ∃ p ys, xs = [.ref p] ∧ ((SqL X.K H p ys ∧ Fz Q H ys) ∨ (SqT X.K H p ys ∧ Q (.ref p) H))) := by
  intro pins s σ H xs us Q I r h
  obtain ⟨p, ys, rfl, h⟩ := h
  obtain ⟨u, rfl, rx⟩ := vals1 r
  cases rx
  rcases h with ⟨sq, q⟩ | ⟨sq, q⟩
  · obtain ⟨its, r2, pl, hz⟩ := I.list sq
    have hlen := r2.length
    exact call_tuple_list pl.isList (fun h' kp => laidF (t' := s.toks) (I.kept (t' := s.toks) kp) r2 hz q) (by simp only [List.size_toArray] <;> omega)
  · obtain ⟨its, r2, pl, hz⟩ := I.tuple sq
    exact call_tuple_same pl ⟨.ref p, H, I, rfl, q⟩
def rCatF (K : PySem.W.Frag) : R2 := fun x y H Q => ∃ a b xs ys, x = .ref a ∧ y = .ref b ∧ SqT K H a xs ∧ SqT K H b ys ∧ xs.length + ys.length ≤ sizeLine ∧ (xs = [] → Q (.ref b) H) ∧ (xs ≠ [] → ys = [] → Q (.ref a) H) ∧ Fz Q H (xs ++ ys)
theorem op_catF : OpR X (binaryOp .Add) (rCatF X.K) := by
  intro pins s σ H x y v u Q I rx ry h
  obtain ⟨a, b, xs, ys, rfl, rfl, ha, hb, hz, q0, q1, q2⟩ := h
  cases rx
  cases ry
  obtain ⟨its, r1, p1, _⟩ := I.tuple ha
  obtain ⟨its2, r2, p2, _⟩ := I.tuple hb
  by_cases hx : xs = []
  · subst hx
    cases r1
    exact cat_tup0 p1 p2 ⟨.ref b, H, I, rfl, q0 rfl⟩
  · exact HT.cat_tup p1 p2 (fun z => hx (r1.nil_iff.mp z)) (fun z => ⟨.ref a, H, I, rfl, q1 hx (r2.nil_iff.mp z)⟩) (fun _ => laidF (t' := s.toks) I (r1.append r2) (by rw [List.length_append]; exact hz) q2) (by rw [← r1.length, ← r2.length]; exact hz)
def rSlF (K : PySem.W.Frag) : V → Option Int → Option Int → Hp → VK → Prop := fun x lo hi H Q => ∃ a xs, x = .ref a ∧ SqT K H a xs ∧ (HT.sIx xs.length 0 lo = 0 ∧ HT.sIx xs.length xs.length hi = xs.length → Q (.ref a) H) ∧ Fz Q H (cutV xs lo hi)
theorem sl_tupF : SlR X (rSlF X.K) := by
  intro pins s σ H x v vl vu lo hi sl Q I rx hs pl pu h
  obtain ⟨a, xs, rfl, hx, q1, q2⟩ := h
  cases rx
  obtain ⟨its, r, ht, hz⟩ := I.tuple hx
  have hlen : its.toArray.size = xs.length := by rw [List.size_toArray]; exact r.length.symm
  refine ⟨"tuple", _, PyProof.Rows.slot_tuple_getitem.lookup, ht.typeIs, ?_⟩
  by_cases hw : HT.sIx xs.length 0 lo = 0 ∧ HT.sIx xs.length xs.length hi = xs.length
  · exact getItem_tuple_whole ht hs pl pu (by rw [hlen]; exact hw) ⟨.ref a, H, I, rfl, q1 hw⟩
  · refine HT.getItem_tuple_cut ht hs pl pu (by rw [hlen]; exact hw) ?_ (by rw [hlen]; exact hz)
    rw [hlen]
    exact laidF (t' := s.toks) I ((r.drop (HT.sIx xs.length 0 lo)).take (HT.sIx xs.length xs.length hi - HT.sIx xs.length 0 lo)) (Nat.le_trans (cutV_length xs lo hi) hz) q2
/-- t * n -/
def rRepF (K : PySem.W.Frag) : R2 := fun x y H Q => ∃ l k xs, x = .ref l ∧ y = .int k ∧ SqT K H l xs ∧ xs ≠ [] ∧ 2 ≤ k ∧ k ≤ 1000 ∧ xs.length ≤ 1000 ∧ Fz Q H (List.replicate k.toNat xs).flatten
theorem op_repF : OpR X (binaryOp .Mult) (rRepF X.K) := by
  intro pins s σ H x y v u Q I rx ry h
  obtain ⟨l, k, xs, rfl, rfl, sq, hne, k2, k1000, len, q⟩ := h
  cases rx
  obtain ⟨t, rfl⟩ := ry
  obtain ⟨its, r, ⟨⟨cls, dd, data, sl⟩, ho, hc, n, hd⟩, _⟩ := I.tuple sq
  simp only at hc hd
  subst hc hd
  have el : its.length = xs.length := r.length.symm
  have full : its.toArray.isEmpty = false := by
    cases its with
    | nil => exact absurd (List.eq_nil_of_length_eq_zero el.symm) hne
    | cons _ _ => rfl
  have sz : its.toArray.size = xs.length := by rw [List.size_toArray, el]
  have prod : ((its.toArray.size : Nat) : Int) * k ≤ 1000 * 1000 := by
    rw [sz]
    exact Int.mul_le_mul (by omega) k1000 (by omega) (by omega)
  have few : k.toNat * xs.length ≤ 1000 * 1000 := Nat.mul_le_mul (by omega) len
  have flat : (List.replicate k.toNat its).flatten.length ≤ sizeLine := by
    rw [PyProof.Rows.lm_len_rep_flat, el, sizeLine_eq]
    omega
  have b0 : (decide (k < -(2 ^ 63)) || decide (k ≥ 2 ^ 63)) = false := by simp; omega
  have b1 : (its.toArray.isEmpty || k == 1) = false := by rw [full]; simp; omega
  have b2 : (decide (k ≤ 0) || its.toArray.isEmpty) = false := by rw [full]; simp; omega
  have b3 : Builtin.Tuple.tupleTooMany (((its.toArray.size : Nat) : Int) * k) = false := by
    unfold Builtin.Tuple.tupleTooMany
    rw [sizeLine_eq]
    exact decide_eq_false (by omega)
  have last : EP X pins σ Q (.ref s.heap.objs.size) { s with heap := s.heap.push { cls := .type "tuple", data := .seq (List.replicate k.toNat its).flatten.toArray } } :=
    laidF (t' := s.toks) I (r.rep k.toNat) (by rw [PyProof.Rows.lm_len_rep_flat, sizeLine_eq]; omega) q
  rw [← size_rep] at last
  refine wpAny_binaryOp_repeat_ref (T := "tuple") (U := "int") (by decide) ⟨_, ho, rfl⟩ (fun z => typeIs_int z k t) noFill_tuple_mul PySem.F.fills_int_mul PySem.F.slot_int_rmul repeat_tuple PySem.F.slot_int_index.lookup (call_meets PySem.F.slot_int_rmul (typeIs_int s k t) PySem.F.entry_int_rmul (PySem.F.args_int_rmul_2 _ _) (int_rmul_tuple k t l its.toArray n dd sl) ⟨ho, rfl, ⟨_, ho, rfl⟩, ?_⟩)
  exact call_meets PySem.F.slot_tuple_mul ⟨_, ho, rfl⟩ PySem.F.entry_tuple_mul (PySem.F.args_tuple_mul_2 _ _) (tuple_mulW l its.toArray n dd sl k t b0 b1 b2 (by omega) b3 (by rw [size_rep, List.size_toArray]; exact flat)) ⟨ho, last⟩
/-- a tuple of which it is known that it has no dict -/
def Bare (K : PySem.W.Frag) (x : V) (H : Hp) : Prop := ∃ a, x = .ref a ∧ ((∃ o xs, H a = some (.frz o (.tup xs)) ∧ o.dict = none) ∨ ∃ o, K.lookup a = some o ∧ o.cls = .type "tuple" ∧ o.dict = none)
theorem bare_is {pins : List (Addr × Obj)} {σ : L2.St} {H : Hp} {s : Shared} {x : V} {v : Value} (I : Inv X pins σ H s) (r : RelV x v) (b : Bare X.K x H) : s.TypeIs v "tuple" ∧ ∀ a, v = .ref a → ∃ ob, s.heap.get? a = some ob ∧ ob.dict = none := by
  obtain ⟨a, rfl, h⟩ := b
  cases r
  rcases h with ⟨o, xs, hx, hz⟩ | ⟨o, ho, hc, hz⟩
  · obtain ⟨e, hl, its, _, ob, e2, c, _⟩ := (show ObjOk X.prog X.w H s.heap a (.frz o (.tup xs)) from I.hok a _ hx)
    exact ⟨⟨ob, e2, c⟩, fun b hb => by cases hb; exact ⟨o, e, hz⟩⟩
  · have e := I.kIn a o ho
    exact ⟨⟨o, e, hc⟩, fun b hb => by cases hb; exact ⟨o, e, hz⟩⟩
theorem pe_tm {o e : Expr} {es : List Expr} {to : TE} {t : TA} {name : Str} {apos cpos : Pos} {id : String} {r : V → List V → Hp → VK → Prop} (pa : PlainAttrs "tuple") (slot : Slot "tuple" name id) (hty : typeOf (.builtin id) = pure (.type "method_descriptor")) (hm : MtR X id r) (ho : PE X o to) (ha : PA X (e :: es) t)
    (hbase : attributeBase o name X.env (eval o X.env) = eval o X.env := by rfl)
    (hfew : ((backTo cpos (starEach (e :: es) X.env)).all (fun x => !x.1) && (backToKw cpos (keywordEach [] X.env)).all (fun x => x.1.isSome) && decide ((e :: es).length + ([] : List Keyword).length + (if ([] : List Keyword).isEmpty then 0 else 1) < 30)) = true := by rfl)
    (hline : (apos.endLine == cpos.line) = true := by rfl) (hs : starEach (e :: es) X.env = (false, eval e X.env) :: starEach es X.env := by rfl) (hplain : (backTo cpos (starEach es X.env)).any (·.1) = false := by rfl) :
    PE X (.Call (.Attribute o name apos) (e :: es) [] cpos) (fun σ H Q => to σ H fun x H1 => Bare X.K x H1 ∧ t σ H1 fun xs H2 => r x xs H2 Q) := by
  refine ⟨fun pins s σ H Q I h => wpAny_Call_method_late hbase hfew hline rfl (thn (ho.run pins s σ H _ I h) fun v s1 ⟨x, H1, I1, r1, ty, q1⟩ => ?_)⟩
  have hA := ha.run cpos pins s1 σ H1 _ I1 q1
  refine ⟨"tuple", id, pa, slot, hty, (bare_is I1 r1 ty).1, (bare_is I1 r1 ty).2, ?_⟩
  rw [hs] at hA ⊢
  exact Calls.callWith_builtin (by show (false || (backTo cpos (starEach es X.env)).any (·.1)) = false; rw [hplain] <;> rfl) (Calls.evalArgs_plain (thn hA fun us s2 ⟨vs, H2, I2, r2, q2⟩ => hm pins s2 σ H2 x vs v us Q I2 r1 r2 q2))
end
end DL
/-! Data level: values as trees, a store for what may be written, and judgements that say "this piece of text computes this function". -/
namespace DL
open PySem PySem.Spec PyProof.Rows L2

inductive D where
  | non | bl (b : Bool) | int (i : Int) | str (x : Str)
  | tup (ds : List D) | lst (ds : List D) | dct (kvs : List (Key × D))
  | scr (ns : List Int) | ref (n : Nat)

inductive Ob where
  | dead
  | dct (kvs : List (Key × D))
  | lst (ds : List D)
  | ins (c : Str) (fs : List (Str × D))
  | ldc (kvs : List (Key × D))
  | st (ns : List Int)
  | tb (x : Str)
/-- where the store's objects stand; what no value may lean on -/
structure Rf where
  adr : List Addr
  av : Addr → Prop
  lk : Addr → Prop
abbrev Store := List Ob
abbrev Lo := List (Option D)

variable {K : PySem.W.Frag}

mutual
inductive Rep (K : PySem.W.Frag) (r : Rf) (H : Hp) : V → D → Prop
  | non : Rep K r H .non .non
  | bl (b : Bool) : Rep K r H (.bl b) (.bl b)
  | int (i : Int) : Rep K r H (.int i) (.int i)
  | str (x : Str) : Rep K r H (.str x) (.str x)
  | tup {a : Addr} {xs : List V} {ds : List D} {o : Obj} : H a = some (.frz o (.tup xs)) → o.dict = none → ¬ r.av a → RepL K r H xs ds → Rep K r H (.ref a) (.tup ds)
  | tupK {a : Addr} {o : Obj} {its : Array Value} {n : Nat} {xs : List V} {ds : List D} : K.lookup a = some o → o.cls = .type "tuple" → o.dict = none → o.data = .seq its n → its.size ≤ sizeLine → Vals xs its.toList → RepL K r H xs ds → Rep K r H (.ref a) (.tup ds)
  | lst {a : Addr} {xs : List V} {ds : List D} : H a = some (.lst xs) → ¬ r.av a → RepL K r H xs ds → Rep K r H (.ref a) (.lst ds)
  | tupP {a : Addr} {xs : List V} {ds : List D} : H a = some (.tup xs) → ¬ r.av a → RepL K r H xs ds → Rep K r H (.ref a) (.tup ds)
  | dct {a : Addr} {o : Obj} {xs : List (Key × V)} {kvs : List (Key × D)} : H a = some (.frz o (.dK xs)) → ¬ r.av a → RepK K r H xs kvs → Rep K r H (.ref a) (.dct kvs)
  | scr {a : Addr} {ns : List Int} {o : Obj} : H a = some (.frz o (.lst (ns.map V.int))) → ¬ r.av a → Rep K r H (.ref a) (.scr ns)
  | scrK {a : Addr} {ns : List Int} {o : Obj} {its : Array Value} {n : Nat} : K.lookup a = some o → o.cls = .type "list" → o.dict = none → o.data = .seq its n → its.size ≤ sizeLine → Vals (ns.map V.int) its.toList → Rep K r H (.ref a) (.scr ns)
  | ref {n : Nat} {a : Addr} : r.adr[n]? = some a → Rep K r H (.ref a) (.ref n)
inductive RepL (K : PySem.W.Frag) (r : Rf) (H : Hp) : List V → List D → Prop
  | nil : RepL K r H [] []
  | cons {v : V} {vs : List V} {d : D} {ds : List D} : Rep K r H v d → RepL K r H vs ds → RepL K r H (v :: vs) (d :: ds)
inductive RepK (K : PySem.W.Frag) (r : Rf) (H : Hp) : List (Key × V) → List (Key × D) → Prop
  | nil : RepK K r H [] []
  | cons {k : Key} {v : V} {vs : List (Key × V)} {d : D} {ds : List (Key × D)} : Rep K r H v d → RepK K r H vs ds → RepK K r H ((k, v) :: vs) ((k, d) :: ds)
end

/-- what was known stays known -/
structure Ex (r : Rf) (H : Hp) (r' : Rf) (H' : Hp) : Prop where
  pre : ∃ l, r'.adr = r.adr ++ l
  keep : ∀ p o, H p = some o → ¬ r.av p → H' p = some o
  new : ∀ p, r'.av p → ¬ r.av p → H p = none
/-- .. and nothing is done to what is hidden -/
structure HidL (r : Rf) (H : Hp) (r' : Rf) (H' : Hp) : Prop where
  hid : ∀ p, r.av p → p ∉ r.adr → H' p = H p ∧ r'.av p ∧ p ∉ r'.adr
  lke : ∀ p, r'.lk p ↔ r.lk p
  lks : ∀ p, r.lk p → H' p = H p
structure Ext (r : Rf) (H : Hp) (r' : Rf) (H' : Hp) : Prop extends Ex r H r' H' where
  hd : HidL r H r' H'
theorem Ext.hid {r r' : Rf} {H H' : Hp} (e : Ext r H r' H') : ∀ p, r.av p → p ∉ r.adr → H' p = H p ∧ r'.av p ∧ p ∉ r'.adr := e.hd.hid
theorem HidL.refl (r : Rf) (H : Hp) : HidL r H r H := ⟨fun _ a b => ⟨rfl, a, b⟩, fun _ => Iff.rfl, fun _ _ => rfl⟩
theorem HidL.trans {r r1 r2 : Rf} {H H1 H2 : Hp} (a : HidL r H r1 H1) (b : HidL r1 H1 r2 H2) : HidL r H r2 H2 :=
  ⟨fun p x y => let ⟨h1, h2, h3⟩ := a.hid p x y; let ⟨h4, h5, h6⟩ := b.hid p h2 h3; ⟨h4.trans h1, h5, h6⟩, fun p => (b.lke p).trans (a.lke p), fun p x => (b.lks p ((a.lke p).mpr x)).trans (a.lks p x)⟩

theorem Ext.refl (r : Rf) (H : Hp) : Ext r H r H := ⟨⟨⟨[], by simp⟩, fun _ _ h _ => h, fun _ h n => absurd h n⟩, .refl r H⟩
theorem Ex.out {r r' : Rf} {H H' : Hp} (e : Ex r H r' H') {p : Addr} {o : HO} (h : H p = some o) (n : ¬ r.av p) : ¬ r'.av p := fun z => by
  rw [e.new p z n] at h; cases h
theorem Ex.get {r r' : Rf} {H H' : Hp} (e : Ex r H r' H') {n : Nat} {a : Addr} (h : r.adr[n]? = some a) : r'.adr[n]? = some a := by
  obtain ⟨l, hl⟩ := e.pre
  obtain ⟨q, _⟩ := List.getElem?_eq_some_iff.mp h
  rw [hl, List.getElem?_append_left q]; exact h
theorem Ex.trans {r r1 r2 : Rf} {H H1 H2 : Hp} (a : Ex r H r1 H1) (b : Ex r1 H1 r2 H2) : Ex r H r2 H2 := by
  refine ⟨?_, fun p o h n => b.keep p o (a.keep p o h n) (a.out h n), fun p h n => ?_⟩
  · obtain ⟨l, hl⟩ := a.pre
    obtain ⟨m, hm⟩ := b.pre
    exact ⟨l ++ m, by rw [hm, hl, List.append_assoc]⟩
  · by_cases q : r1.av p
    · exact a.new p q n
    · cases z : H p with
      | none => rfl
      | some o =>
        have := b.new p h q
        rw [a.keep p o z n] at this
        cases this
theorem Ext.trans {r r1 r2 : Rf} {H H1 H2 : Hp} (a : Ext r H r1 H1) (b : Ext r1 H1 r2 H2) : Ext r H r2 H2 :=
  ⟨a.toEx.trans b.toEx, a.hd.trans b.hd⟩
theorem Ext.same (r : Rf) {H H' : Hp} (s : Same H H') (there : ∀ p, r.av p → ∃ o, H p = some o) (lkd : ∀ p, r.lk p → ∃ o u, H p = some (.frz o u)) : Ext r H r H' :=
  ⟨⟨⟨[], by simp⟩, fun p o h _ => s p o h, fun p h n => absurd h n⟩, fun p a b => ⟨by obtain ⟨o, h⟩ := there p a; rw [h]; exact s p o h, a, b⟩, fun _ => Iff.rfl, fun p a => by obtain ⟨o, u, h⟩ := lkd p a; rw [h]; exact s p _ h⟩
theorem Ex.same (r : Rf) {H H' : Hp} (s : Same H H') : Ex r H r H' := ⟨⟨[], by simp⟩, fun p o h _ => s p o h, fun p h n => absurd h n⟩
theorem same_alloc {H : Hp} {p : Addr} {o : HO} (h : H p = none) : Same H (upd H p o) := fun b x e => by
  rw [upd_ne (ne_of_none e h)]; exact e

mutual
theorem Rep.ex {r r' : Rf} {H H' : Hp} (e : Ex r H r' H') : ∀ {v : V} {d : D}, Rep K r H v d → Rep K r' H' v d
  | _, _, .non => .non
  | _, _, .bl b => .bl b
  | _, _, .int i => .int i
  | _, _, .str x => .str x
  | _, _, .tup h z n l => .tup (e.keep _ _ h n) z (e.out h n) (RepL.ex e l)
  | _, _, .tupK a b z c d f l => .tupK a b z c d f (RepL.ex e l)
  | _, _, .lst h n l => .lst (e.keep _ _ h n) (e.out h n) (RepL.ex e l)
  | _, _, .tupP h n l => .tupP (e.keep _ _ h n) (e.out h n) (RepL.ex e l)
  | _, _, .dct h n l => .dct (e.keep _ _ h n) (e.out h n) (RepK.ex e l)
  | _, _, .scr h n => .scr (e.keep _ _ h n) (e.out h n)
  | _, _, .scrK a b c d f g => .scrK a b c d f g
  | _, _, .ref h => .ref (e.get h)
theorem RepL.ex {r r' : Rf} {H H' : Hp} (e : Ex r H r' H') : ∀ {v : List V} {d : List D}, RepL K r H v d → RepL K r' H' v d
  | _, _, .nil => .nil
  | _, _, .cons a b => .cons (Rep.ex e a) (RepL.ex e b)
theorem RepK.ex {r r' : Rf} {H H' : Hp} (e : Ex r H r' H') : ∀ {v : List (Key × V)} {d : List (Key × D)}, RepK K r H v d → RepK K r' H' v d
  | _, _, .nil => .nil
  | _, _, .cons a b => .cons (Rep.ex e a) (RepK.ex e b)
end
theorem Rep.ext {r r' : Rf} {H H' : Hp} {v : V} {d : D} (h : Rep K r H v d) (e : Ext r H r' H') : Rep K r' H' v d := h.ex e.toEx
theorem RepL.ext {r r' : Rf} {H H' : Hp} {v : List V} {d : List D} (h : RepL K r H v d) (e : Ext r H r' H') : RepL K r' H' v d := h.ex e.toEx
theorem RepK.ext {r r' : Rf} {H H' : Hp} {v : List (Key × V)} {d : List (Key × D)} (h : RepK K r H v d) (e : Ext r H r' H') : RepK K r' H' v d := h.ex e.toEx
theorem RepL.len {r : Rf} {H : Hp} : ∀ {v : List V} {d : List D}, RepL K r H v d → v.length = d.length
  | _, _, .nil => rfl
  | _, _, .cons _ b => by rw [List.length_cons, List.length_cons, RepL.len b]
theorem RepL.get {r : Rf} {H : Hp} : ∀ {vs : List V} {ds : List D}, RepL K r H vs ds → ∀ {i : Nat} {d : D}, ds[i]? = some d → ∃ v, vs[i]? = some v ∧ Rep K r H v d
  | _, _, .nil, i, d, h => by simp at h
  | _, _, .cons a b, 0, d, h => by
    have e := Option.some.inj h
    subst e
    exact ⟨_, rfl, a⟩
  | _, _, .cons a b, i + 1, d, h => RepL.get b (i := i) h
theorem RepL.getV {r : Rf} {H : Hp} : ∀ {vs : List V} {ds : List D}, RepL K r H vs ds → ∀ {i : Nat} {v : V}, vs[i]? = some v → ∃ d, ds[i]? = some d ∧ Rep K r H v d
  | _, _, .nil, i, d, h => by simp at h
  | _, _, .cons a b, 0, d, h => by
    have e := Option.some.inj h
    subst e
    exact ⟨_, rfl, a⟩
  | _, _, .cons a b, i + 1, d, h => RepL.getV b (i := i) h
theorem RepL.append {r : Rf} {H : Hp} : ∀ {vs us : List V} {ds es : List D}, RepL K r H vs ds → RepL K r H us es → RepL K r H (vs ++ us) (ds ++ es)
  | _, _, _, _, .nil, q => q
  | _, _, _, _, .cons a b, q => .cons a (RepL.append b q)
theorem RepL.take {r : Rf} {H : Hp} : ∀ (n : Nat) {vs : List V} {ds : List D}, RepL K r H vs ds → RepL K r H (vs.take n) (ds.take n)
  | 0, _, _, _ => .nil
  | _ + 1, _, _, .nil => .nil
  | n + 1, _, _, .cons a b => .cons a (RepL.take n b)
theorem RepL.drop {r : Rf} {H : Hp} : ∀ (n : Nat) {vs : List V} {ds : List D}, RepL K r H vs ds → RepL K r H (vs.drop n) (ds.drop n)
  | 0, _, _, q => q
  | _ + 1, _, _, .nil => .nil
  | n + 1, _, _, .cons a b => RepL.drop n b
theorem RepL.ints {r : Rf} {H : Hp} : ∀ {vs : List V} {ns : List Int}, RepL K r H vs (ns.map D.int) → vs = ns.map V.int
  | _, [], .nil => rfl
  | _, n :: r, .cons (.int _) b => by rw [List.map_cons, RepL.ints b]
theorem RepL.ofInts {r : Rf} {H : Hp} : ∀ (ns : List Int), RepL K r H (ns.map V.int) (ns.map D.int)
  | [] => .nil
  | n :: r => .cons (.int n) (RepL.ofInts r)

/-- the table of the code of the def x stands at a -/
def TbAt (K : PySem.W.Frag) (x : Str) (a : Addr) : Prop := ∃ (f c : Addr) (o : Obj) (fd : FuncData) (e : Value) (dd : Option Addr) (vs : Array Value) (sl : Array (Option Value)), PySem.W.nsIn K mainGlobals x = some (some (.ref f)) ∧ K.lookup f = some o ∧ o.data = .func fd ∧ fd.code = .ref c ∧ K.lookup c = some ⟨e, dd, .fields vs, sl⟩ ∧ vs[11]? = some (.ref a)
def qn (x : Str) : Str := (x ++ Str.ofString ".<locals>.") ++ Str.ofString "<lambda>"
/-- each code object that the table at a tells bears the name q -/
def TabR (r : Rf) (H : Hp) (a : Addr) (q : Str) : Prop := ∃ ps : Array Value, H a = some (.tbl ps) ∧ TriplesOk ps.toList ∧ ∀ (pos : Pos) (cv : Value), codeAmong pos ps.toList = some cv → ∃ c, cv = .ref c ∧ H c = some (LamX.CodeO c q) ∧ ¬ r.av c
theorem TabR.ex {r r' : Rf} {H H' : Hp} (e : Ex r H r' H') {a : Addr} {q : Str} (k : H' a = H a) (t : TabR r H a q) : TabR r' H' a q := by
  obtain ⟨ps, h1, h2, h3⟩ := t
  refine ⟨ps, k.trans h1, h2, fun pos cv hc => ?_⟩
  obtain ⟨c, rfl, h4, h5⟩ := h3 pos cv hc
  exact ⟨c, rfl, e.keep _ _ h4 h5, e.out h4 h5⟩
/-- the store is held -/
def ObR (K : PySem.W.Frag) (r : Rf) (H : Hp) (a : Addr) : Ob → Prop
  | .dead => True
  | .dct kvs => r.av a ∧ ∃ xs, H a = some (.dK xs) ∧ RepK K r H xs kvs
  | .lst ds => r.av a ∧ ∃ xs, H a = some (.lst xs) ∧ RepL K r H xs ds
  | .ldc kvs => r.av a ∧ r.lk a ∧ ∃ o xs, H a = some (.frz o (.dK xs)) ∧ RepK K r H xs kvs
  | .ins c fs => r.av a ∧ ∃ (C dx : Addr) (vs : List (Str × V)), PySem.W.nsIn K mainGlobals c = some (some (.ref C)) ∧ H a = some (.ins C dx vs) ∧ vs.map (·.1) = fs.map (·.1) ∧ RepL K r H (vs.map (·.2)) (fs.map (·.2))
  | .st ns => r.av a ∧ ∃ (w : World) (n : Nat), H a = some (SetO w a (fun j => decide (j ∈ ns)) n)
  | .tb x => r.av a ∧ TbAt K x a ∧ TabR r H a (qn x)
theorem ObR.ex {r r' : Rf} {H H' : Hp} (e : Ex r H r' H') {a : Addr} (k : r.av a → H' a = H a ∧ r'.av a) (kl : r.lk a → r'.lk a := by exact fun z => z) : ∀ {o : Ob}, ObR K r H a o → ObR K r' H' a o
  | .dead, _ => trivial
  | .dct _, ⟨v, xs, h, l⟩ => ⟨(k v).2, xs, (k v).1.trans h, l.ex e⟩
  | .lst _, ⟨v, xs, h, l⟩ => ⟨(k v).2, xs, (k v).1.trans h, l.ex e⟩
  | .ldc _, ⟨v, w, o, xs, h, l⟩ => ⟨(k v).2, kl w, o, xs, (k v).1.trans h, l.ex e⟩
  | .ins _ _, ⟨v, C, dx, vs, g, h, n, l⟩ => ⟨(k v).2, C, dx, vs, g, (k v).1.trans h, n, l.ex e⟩
  | .st _, ⟨v, w, n, h⟩ => ⟨(k v).2, w, n, (k v).1.trans h⟩
  | .tb _, ⟨v, t, h⟩ => ⟨(k v).2, t, h.ex e (k v).1⟩
structure Sim (K : PySem.W.Frag) (r : Rf) (H : Hp) (st : Store) : Prop where
  len : r.adr.length = st.length
  nd : r.adr.Nodup
  ob : ∀ (n : Nat) (a : Addr) (o : Ob), r.adr[n]? = some a → st[n]? = some o → ObR K r H a o
  there : ∀ p, r.av p → ∃ o, H p = some o
  old : ∀ a ∈ r.adr, ∃ o, H a = some o
  lkd : ∀ p, r.lk p → ∃ o u, H p = some (.frz o u)
theorem Sim.same {r : Rf} {H H' : Hp} {st : Store} (s : Sim K r H st) (e : Same H H') : Sim K r H' st :=
  ⟨s.len, s.nd, fun n a o h1 h2 => (s.ob n a o h1 h2).ex (Ex.same r e) (fun v => by
    obtain ⟨h, z⟩ := s.there a v
    exact ⟨by rw [z]; exact e a h z, v⟩), fun p v => let ⟨o, h⟩ := s.there p v; ⟨o, e p o h⟩, fun p v => let ⟨o, h⟩ := s.old p v; ⟨o, e p o h⟩, fun p v => let ⟨o, u, h⟩ := s.lkd p v; ⟨o, u, e p _ h⟩⟩

theorem Sim.ext {r : Rf} {H H' : Hp} {st : Store} (s : Sim K r H st) (e : Same H H') : Ext r H r H' := Ext.same r e s.there s.lkd
/-- the locals -/
structure EnvR (K : PySem.W.Frag) (r : Rf) (H : Hp) (env : Lo) (σ : L2.St) : Prop where
  len : env.length = σ.length
  at_ : ∀ (i : Nat) (d : D), env[i]? = some (some d) → ∃ v, σ[i]? = some (some v) ∧ Rep K r H v d
theorem EnvR.ext {r r' : Rf} {H H' : Hp} {env : Lo} {σ : L2.St} (h : EnvR K r H env σ) (e : Ext r H r' H') : EnvR K r' H' env σ :=
  ⟨h.len, fun i d q => let ⟨v, a, b⟩ := h.at_ i d q; ⟨v, a, b.ext e⟩⟩
theorem EnvR.set {r : Rf} {H : Hp} {env : Lo} {σ : L2.St} (h : EnvR K r H env σ) {v : V} {d : D} (q : Rep K r H v d) (i : Nat) : EnvR K r H (env.set i (some d)) (σ.set i (some v)) := by
  refine ⟨by rw [List.length_set, List.length_set]; exact h.len, fun j c e => ?_⟩
  by_cases z : i = j
  · subst z
    by_cases hi : i < env.length
    · rw [List.getElem?_set_self hi] at e
      cases e
      exact ⟨v, by rw [List.getElem?_set_self (by rw [← h.len]; exact hi)], q⟩
    · rw [List.getElem?_eq_none (by rw [List.length_set]; omega)] at e
      cases e
  · rw [List.getElem?_set_ne z] at e
    obtain ⟨u, a, b⟩ := h.at_ j c e
    exact ⟨u, by rw [List.getElem?_set_ne z]; exact a, b⟩
/-- a slot forgotten on both sides -/
theorem EnvR.wipe {r : Rf} {H : Hp} {env : Lo} {σ : L2.St} (h : EnvR K r H env σ) (i : Nat) : EnvR K r H (env.set i none) (σ.set i none) := by
  refine ⟨by rw [List.length_set, List.length_set]; exact h.len, fun j c e => ?_⟩
  by_cases z : i = j
  · subst z
    by_cases hi : i < env.length
    · rw [List.getElem?_set_self hi] at e
      cases e
    · rw [List.getElem?_eq_none (by rw [List.length_set]; omega)] at e
      cases e
  · rw [List.getElem?_set_ne z] at e
    obtain ⟨u, a, b⟩ := h.at_ j c e
    exact ⟨u, by rw [List.getElem?_set_ne z]; exact a, b⟩

/-! ### judgements -/
abbrev F := Lo → Store → Option (D × Store)
abbrev FT := Lo → Store → Option (Bool × Store)
abbrev FA := Lo → Store → Option (List D × Store)
def tD (K : PySem.W.Frag) (f : F) : TE := fun σ H Q => ∃ r env st d st', EnvR K r H env σ ∧ Sim K r H st ∧ f env st = some (d, st') ∧ ∀ v r' H', Ext r H r' H' → Sim K r' H' st' → Rep K r' H' v d → Q v H'
def tT (K : PySem.W.Frag) (f : FT) : TT := fun σ H Q => ∃ r env st b st', EnvR K r H env σ ∧ Sim K r H st ∧ f env st = some (b, st') ∧ ∀ r' H', Ext r H r' H' → Sim K r' H' st' → Q b H'
def tA (K : PySem.W.Frag) (f : FA) : TA := fun σ H Q => ∃ r env st ds st', EnvR K r H env σ ∧ Sim K r H st ∧ f env st = some (ds, st') ∧ ∀ vs r' H', Ext r H r' H' → Sim K r' H' st' → RepL K r' H' vs ds → Q vs H'
abbrev DE (X : Cx) (e : Expr) (f : F) : Prop := PE X e (tD X.K f)
abbrev DT (X : Cx) (e : Expr) (f : FT) : Prop := PT X e (tT X.K f)
abbrev DA (X : Cx) (es : List Expr) (f : FA) : Prop := PA X es (tA X.K f)

section
variable {X : Cx}
theorem weakE {e : Expr} {t t' : TE} (h : PE X e t) (i : ∀ σ H Q, t' σ H Q → t σ H Q) : PE X e t' := ⟨fun pins s σ H Q I q => h.run pins s σ H Q I (i σ H Q q)⟩
theorem weakT {e : Expr} {t t' : TT} (h : PT X e t) (i : ∀ σ H Q, t' σ H Q → t σ H Q) : PT X e t' := ⟨fun pins s σ H Q I q => h.run pins s σ H Q I (i σ H Q q)⟩
theorem weakA {e : List Expr} {t t' : TA} (h : PA X e t) (i : ∀ σ H Q, t' σ H Q → t σ H Q) : PA X e t' := ⟨fun pos pins s σ H Q I q => h.run pos pins s σ H Q I (i σ H Q q)⟩
theorem weakS {e : Stmt} {t t' : TS} (h : PS X e t) (i : ∀ D σ H, t' D σ H → t D σ H) : PS X e t' := ⟨fun pins s σ H D I q => h.run pins s σ H D I (i D σ H q)⟩
theorem weakSs {e : List Stmt} {t t' : TS} (h : PSs X e t) (i : ∀ D σ H, t' D σ H → t D σ H) : PSs X e t' := ⟨fun pins s σ H D I q => h.run pins s σ H D I (i D σ H q)⟩

/-- an object is locked for good -/
theorem pe_frz {e : Expr} {t : TE} (h : PE X e t) : PE X e (fun σ H Q => t σ H fun v H1 => ∃ d u, v = .ref d ∧ H1 d = some u ∧ Mut (some u) ∧ ∀ o, Q v (upd H1 d (.frz o u))) := by
  refine ⟨fun pins s σ H Q I hw => thn (h.run pins s σ H _ I hw) fun v s1 ⟨x, H1, I1, r, d, u, e1, hd, mu, q⟩ => ?_⟩
  obtain ⟨od, I2⟩ := I1.lock hd mu
  exact ⟨x, _, I2, r, q od⟩
/-- what a context must bear -/
structure GX (X : Cx) (k : Nat) : Prop where
  calm : X.calm = true
  nd : X.N.Nodup
  room : Room k X.A
  gd : X.A.guards = some []

/-! ### names, constants -/
def fVar (i : Nat) : F := fun env st => match env[i]? with | some (some d) => some (d, st) | _ => none
def fC (d : D) : F := fun _ st => some (d, st)
theorem de_var (i : Nat) {x : Str} {pos : Pos} (hN : X.N[i]? = some x := by rfl) (hv : Vis X.env.scope x := by first | exact Or.inl rfl | exact Or.inr (Or.inl rfl) | exact Or.inr (Or.inr rfl)) (hd : (x == ("__debug__" : Str)) = false := by decide)
    (hcd : (x == ("__classdict__" : Str)) = false := by decide) : DE X (.Name x pos) (fVar i) := weakE (pe_var hN hv hd hcd) fun σ H Q h => by
  obtain ⟨r, env, st, d, st', he, hs, hf, q⟩ := h
  unfold fVar at hf
  split at hf
  · rename_i d' hd'
    cases hf
    obtain ⟨v, a, b⟩ := he.at_ i _ hd'
    exact ⟨v, a, q v r H (.refl r H) hs b⟩
  · cases hf
theorem de_c {e : Expr} {v : V} {d : D} (h : PE X e (tC v)) (q : ∀ r H, Rep X.K r H v d) : DE X e (fC d) := weakE h fun σ H Q hh => by
  obtain ⟨r, env, st, d', st', he, hs, hf, k⟩ := hh
  cases hf
  exact k v r H (.refl r H) hs (q r H)
theorem de_int {i j pos} : DE X (.Constant (.int i) j pos) (fC (.int i)) := de_c pe_int fun _ _ => .int i
theorem de_bl {i j pos} : DE X (.Constant (.bool i) j pos) (fC (.bl i)) := de_c pe_bl fun _ _ => .bl i
theorem de_non {j pos} : DE X (.Constant .none j pos) (fC .non) := de_c pe_non fun _ _ => .non
theorem de_str {i j pos} : DE X (.Constant (.str i) j pos) (fC (.str i)) := de_c pe_str fun _ _ => .str i
theorem de_gint {x : Str} {i : Int} {t : Tok} {pos : Pos} (hg : Gl X x) (hm : X.mg x = some (.int i t)) (hd : (x == ("__debug__" : Str)) = false := by decide) : DE X (.Name x pos) (fC (.int i)) :=
  de_c (pe_glob (v := .int i) hg hm ⟨t, rfl⟩ hd) fun _ _ => .int i
theorem de_gstr {x : Str} {i : Str} {t : Tok} {pos : Pos} (hg : Gl X x) (hm : X.mg x = some (.str i t)) (hd : (x == ("__debug__" : Str)) = false := by decide) : DE X (.Name x pos) (fC (.str i)) :=
  de_c (pe_glob (v := .str i) hg hm ⟨t, rfl⟩ hd) fun _ _ => .str i

/-! ### two values -/
def OpOk (X : Cx) (f : Value → Value → Sem Value) (g : D → D → Option D) : Prop :=
  ∃ r : R2, OpR X f r ∧ ∀ (rho : Rf) (H : Hp) (x y : V) (a b d : D) (st : Store) (Q : VK), Sim X.K rho H st → Rep X.K rho H x a → Rep X.K rho H y b → g a b = some d → (∀ v H', Same H H' → Rep X.K rho H' v d → Q v H') → r x y H Q
def fOp (g : D → D → Option D) (fa fb : F) : F := fun env st => (fa env st).bind fun p => (fb env p.2).bind fun q => (g p.1 q.1).map fun d => (d, q.2)
theorem fOp_some {g : D → D → Option D} {fa fb : F} {env : Lo} {st : Store} {z : D × Store} (h : fOp g fa fb env st = some z) : ∃ x s1 y s2 d, fa env st = some (x, s1) ∧ fb env s1 = some (y, s2) ∧ g x y = some d ∧ z = (d, s2) := by
  unfold fOp at h
  obtain ⟨⟨x, s1⟩, h1, h⟩ := Option.bind_eq_some_iff.mp h
  obtain ⟨⟨y, s2⟩, h2, h⟩ := Option.bind_eq_some_iff.mp h
  obtain ⟨d, h3, h⟩ := Option.map_eq_some_iff.mp h
  exact ⟨x, s1, y, s2, d, h1, h2, h3, h.symm⟩
/-- the reading of two data expressions in a row -/
theorem two {fa fb : F} {σ : L2.St} {H : Hp} {Q : V → V → Hp → Prop} {r : Rf} {env : Lo} {st s1 s2 : Store} {x y : D} (he : EnvR K r H env σ) (hs : Sim K r H st) (h1 : fa env st = some (x, s1)) (h2 : fb env s1 = some (y, s2))
    (k : ∀ u v r' H', Ext r H r' H' → Sim K r' H' s2 → Rep K r' H' u x → Rep K r' H' v y → Q u v H') : tD K fa σ H fun u H1 => tD K fb σ H1 fun v H2 => Q u v H2 :=
  ⟨r, env, st, x, s1, he, hs, h1, fun u r1 H1 e1 q1 p1 => ⟨r1, env, s1, y, s2, he.ext e1, q1, h2, fun v r2 H2 e2 q2 p2 => k u v r2 H2 (e1.trans e2) q2 (p1.ext e2) p2⟩⟩
theorem opReads {f : Value → Value → Sem Value} {g : D → D → Option D} {r : R2} (k : ∀ (rho : Rf) (H : Hp) (x y : V) (a b d : D) (st : Store) (Q : VK), Sim K rho H st → Rep K rho H x a → Rep K rho H y b → g a b = some d → (∀ v H', Same H H' → Rep K rho H' v d → Q v H') → r x y H Q)
    {fa fb : F} (σ : L2.St) (H : Hp) (Q : VK) (h : tD K (fOp g fa fb) σ H Q) : tOp r (tD K fa) (tD K fb) σ H Q := by
  obtain ⟨rho, env, st, d, st', he, hs, hf, q⟩ := h
  obtain ⟨x, s1, y, s2, d', h1, h2, h3, e⟩ := fOp_some hf
  cases e
  exact two he hs h1 h2 fun u v r' H' e1 q1 pu pv => k r' H' u v x y d _ Q q1 pu pv h3 fun w H2 sm pw => q w r' H2 (e1.trans (q1.ext sm)) (q1.same sm) pw
theorem de_op {op : Operator} {g : D → D → Option D} {a b : Expr} {fa fb : F} {pos : Pos} (ho : OpOk X (binaryOp op) g) (ha : DE X a fa) (hb : DE X b fb) : DE X (.BinOp a op b pos) (fOp g fa fb) := by
  obtain ⟨r, hr, k⟩ := ho
  exact weakE (pe_op hr ha hb) fun σ H Q h => opReads (f := binaryOp op) k σ H Q h
theorem de_cmp {op : CmpOp} {g : D → D → Option D} {a b : Expr} {fa fb : F} {pos : Pos} (ho : OpOk X (compareOp op) g) (ha : DE X a fa) (hb : DE X b fb) (hm : behindInMarks op b = false := by with_unfolding_all rfl) : DE X (.Compare a [op] [b] pos) (fOp g fa fb) := by
  obtain ⟨r, hr, k⟩ := ho
  exact weakE (pe_cmpR hr ha hb hm) fun σ H Q h => opReads (f := compareOp op) k σ H Q h
end
end DL
namespace DL
abbrev WXd := PySem.Value → Option PySem.Addr → L2.St → L2.Hp → Prop
open PySem PySem.Spec PyProof.Rows L2
variable {K : PySem.W.Frag}

/-! ### arguments, displays -/
def aNil : FA := fun _ st => some ([], st)
def aCons (f : F) (g : FA) : FA := fun env st => (f env st).bind fun p => (g env p.2).map fun q => (p.1 :: q.1, q.2)
theorem aCons_some {f : F} {g : FA} {env : Lo} {st : Store} {z : List D × Store} (h : aCons f g env st = some z) : ∃ x s1 ys s2, f env st = some (x, s1) ∧ g env s1 = some (ys, s2) ∧ z = (x :: ys, s2) := by
  unfold aCons at h
  obtain ⟨⟨x, s1⟩, h1, h⟩ := Option.bind_eq_some_iff.mp h
  obtain ⟨⟨y, s2⟩, h2, h⟩ := Option.map_eq_some_iff.mp h
  exact ⟨x, s1, y, s2, h1, h2, h.symm⟩
section
variable {X : Cx} {W : WXd}
theorem da_nil : DA X [] aNil := weakA pa_nil fun σ H Q h => by
  obtain ⟨r, env, st, ds, st', he, hs, hf, q⟩ := h
  cases hf
  exact q [] r H (.refl r H) hs .nil
theorem da_cons {e : Expr} {es : List Expr} {f : F} {g : FA} (h : DE X e f) (t : DA X es g) (hs : starEach (e :: es) X.env = (false, eval e X.env) :: starEach es X.env := by rfl) : DA X (e :: es) (aCons f g) :=
  weakA (pa_cons h t hs) fun σ H Q hh => by
  obtain ⟨r, env, st, ds, st', he, hs, hf, q⟩ := hh
  obtain ⟨x, s1, ys, s2, h1, h2, e⟩ := aCons_some hf
  cases e
  exact ⟨r, env, st, x, s1, he, hs, h1, fun u r1 H1 e1 q1 p1 => ⟨r1, env, s1, ys, _, he.ext e1, q1, h2, fun us r2 H2 e2 q2 p2 => q (u :: us) r2 H2 (e1.trans e2) q2 (.cons (p1.ext e2) p2)⟩⟩

/-- a value made of the values of several expressions -/
def fMk (g : List D → Store → Option D) (fa : FA) : F := fun env st => (fa env st).bind fun p => (g p.1 p.2).map fun d => (d, p.2)
theorem fMk_some {g : List D → Store → Option D} {fa : FA} {env : Lo} {st : Store} {z : D × Store} (h : fMk g fa env st = some z) : ∃ xs s1 d, fa env st = some (xs, s1) ∧ g xs s1 = some d ∧ z = (d, s1) := by
  unfold fMk at h
  obtain ⟨⟨x, s1⟩, h1, h⟩ := Option.bind_eq_some_iff.mp h
  obtain ⟨d, h2, h⟩ := Option.map_eq_some_iff.mp h
  exact ⟨x, s1, d, h1, h2, h.symm⟩
/-- values in, a value out, new objects at most -/
def ArgOk (K : PySem.W.Frag) (r : List V → Hp → VK → Prop) (g : List D → Store → Option D) : Prop :=
  ∀ (rho : Rf) (H : Hp) (xs : List V) (ds : List D) (d : D) (st : Store) (Q : VK), RepL K rho H xs ds → Sim K rho H st → g ds st = some d → (∀ v H', Same H H' → Rep K rho H' v d → Q v H') → r xs H Q
theorem argReads {r : List V → Hp → VK → Prop} {g : List D → Store → Option D} (k : ArgOk K r g) {fa : FA} (σ : L2.St) (H : Hp) (Q : VK) (h : tD K (fMk g fa) σ H Q) : tA K fa σ H fun vs H1 => r vs H1 Q := by
  obtain ⟨rho, env, st, d, st', he, hs, hf, q⟩ := h
  obtain ⟨xs, s1, d', h1, h2, e⟩ := fMk_some hf
  cases e
  exact ⟨rho, env, st, xs, _, he, hs, h1, fun us r1 H1 e1 q1 p1 => k r1 H1 us xs d _ Q p1 q1 h2 fun v H2 sm pv => q v r1 H2 (e1.trans (q1.ext sm)) (q1.same sm) pv⟩
/-- a new object that no value is -/
theorem Sim.free {r : Rf} {H : Hp} {st : Store} (s : Sim K r H st) {p : Addr} (h : H p = none) : ¬ r.av p := fun z => by
  obtain ⟨o, e⟩ := s.there p z
  rw [h] at e; cases e
def mkTup (ds : List D) (_ : Store) : Option D := if ds.length ≤ sizeLine then some (.tup ds) else none
def mkLst (ds : List D) (_ : Store) : Option D := if ds.length ≤ sizeLine then some (.lst ds) else none
theorem de_tup {es : List Expr} {fa : FA} {x1 : Nat} {pos : Pos} (h : DA X es fa) : DE X (.Tuple es x1 pos) (fMk mkTup fa) :=
  weakE (pe_tupF h) fun σ H Q hh => argReads (r := fun xs H1 Q => xs.length ≤ sizeLine ∧ Fz Q H1 xs) (fun rho H xs ds d st Q hr hs hg k => by
    unfold mkTup at hg
    split at hg
    · rename_i hl
      cases hg
      refine ⟨by rw [hr.len]; exact hl, fun p o hp hz => k _ _ (same_alloc hp) (.tup upd_same hz (hs.free hp) (hr.ex (Ex.same rho (same_alloc hp))))⟩
    · cases hg) σ H Q hh
theorem de_lst {es : List Expr} {fa : FA} {pos : Pos} (h : DA X es fa) : DE X (.List es pos) (fMk mkLst fa) :=
  weakE (pe_lst h) fun σ H Q hh => argReads (r := fun xs H1 Q => xs.length ≤ sizeLine ∧ ∀ p, H1 p = none → Q (.ref p) (upd H1 p (.lst xs))) (fun rho H xs ds d st Q hr hs hg k => by
    unfold mkLst at hg
    split at hg
    · rename_i hl
      cases hg
      refine ⟨by rw [hr.len]; exact hl, fun p hp => k _ _ (same_alloc hp) (.lst upd_same (hs.free hp) (hr.ex (Ex.same rho (same_alloc hp))))⟩
    · cases hg) σ H Q hh
/-- a call of a built-in -/
def CallOk (X : Cx) (f : Value) (g : List D → Store → Option D) : Prop := ∃ r, CallR X f r ∧ ArgOk X.K r g
theorem de_callB {id : String} {x : Str} {g : List D → Store → Option D} {fa : FA} {e : Expr} {es : List Expr} {p pos : Pos} (ho : CallOk X (.builtin id) g) (hg : Gl X x) (hm : X.mg x = none) (hv : bootBuiltins x = some (.builtin id)) (ha : DA X (e :: es) fa) (hn : x ≠ "__name__" := by decide) (hdb : (x == ("__debug__" : Str)) = false := by decide)
    (he : starEach (e :: es) X.env = (false, eval e X.env) :: starEach es X.env := by rfl) (hpl : (backTo pos (starEach es X.env)).any (·.1) = false := by rfl) : DE X (.Call (.Name x p) (e :: es) [] pos) (fMk g fa) := by
  obtain ⟨r, hr, k⟩ := ho
  exact weakE (pe_callB hr hg hm hv ha hn hdb he hpl) fun σ H Q h => argReads k σ H Q h
theorem de_callTy {T : String} {x : Str} {g : List D → Store → Option D} {fa : FA} {e : Expr} {es : List Expr} {p pos : Pos} (ho : CallOk X (.type T) g) (hg : Gl X x) (hm : X.mg x = none) (hv : bootBuiltins x = some (.type T)) (ha : DA X (e :: es) fa) (hn : x ≠ "__name__" := by decide) (hdb : (x == ("__debug__" : Str)) = false := by decide)
    (he : starEach (e :: es) X.env = (false, eval e X.env) :: starEach es X.env := by rfl) (hpl : (backTo pos (starEach es X.env)).any (·.1) = false := by rfl) : DE X (.Call (.Name x p) (e :: es) [] pos) (fMk g fa) := by
  obtain ⟨r, hr, k⟩ := ho
  exact weakE (pe_callTy hr hg hm hv ha hn hdb he hpl) fun σ H Q h => argReads k σ H Q h

/-! ### tests, and, or, not -/
def asB : D → Option Bool | .bl b => some b | _ => none
def fTest (f : F) : FT := fun env st => (f env st).bind fun p => (asB p.1).map fun b => (b, p.2)
theorem fTest_some {f : F} {env : Lo} {st : Store} {z : Bool × Store} (h : fTest f env st = some z) : f env st = some (.bl z.1, z.2) := by
  unfold fTest at h
  obtain ⟨⟨x, s1⟩, h1, h⟩ := Option.bind_eq_some_iff.mp h
  obtain ⟨b, h2, h⟩ := Option.map_eq_some_iff.mp h
  cases x with
  | bl c => cases h2; subst h; exact h1
  | _ => cases h2
theorem testReads {f : F} (σ : L2.St) (H : Hp) (Q : Bool → Hp → Prop) (h : tT K (fTest f) σ H Q) : tD K f σ H fun x H1 => ∃ c, x = .bl c ∧ Q c H1 := by
  obtain ⟨r, env, st, b, st', he, hs, hf, q⟩ := h
  exact ⟨r, env, st, _, _, he, hs, fTest_some hf, fun v r1 H1 e1 q1 p1 => by
    cases p1
    exact ⟨b, rfl, q r1 H1 e1 q1⟩⟩
theorem dt_val {e : Expr} {f : F} (h : DE X e f) (he : ∀ whole, isTrue e X.env whole = (do let v ← whole; standAt e.pos; holding [v] (truthy v)) := by intro _; rfl) : DT X e (fTest f) := weakT (pt_val h he) fun σ H Q hh => testReads σ H Q hh
theorem dt_cmp {op : CmpOp} {g : D → D → Option D} {a b : Expr} {fa fb : F} {pos : Pos} (ho : OpOk X (compareOp op) g) (ha : DE X a fa) (hb : DE X b fb) (hm : behindInMarks op b = false := by with_unfolding_all rfl) : DT X (.Compare a [op] [b] pos) (fTest (fOp g fa fb)) := by
  obtain ⟨r, hr, k⟩ := ho
  exact weakT (pt_cmpR hr ha hb hm) fun σ H Q h => opReads (f := compareOp op) k σ H (fun x H1 => ∃ c, x = .bl c ∧ Q c H1) (testReads σ H Q h)
def fNotT (f : FT) : FT := fun env st => (f env st).map fun p => (!p.1, p.2)
theorem dt_not {e : Expr} {f : FT} {pos : Pos} (h : DT X e f) : DT X (.UnaryOp .Not e pos) (fNotT f) := weakT (pt_not h) fun σ H Q hh => by
  obtain ⟨r, env, st, b, st', he, hs, hf, q⟩ := hh
  obtain ⟨⟨c, s1⟩, h1, h2⟩ := Option.map_eq_some_iff.mp hf
  cases h2
  exact ⟨r, env, st, c, _, he, hs, h1, q⟩
def fAndT (f g : FT) : FT := fun env st => (f env st).bind fun p => if p.1 = true then g env p.2 else some (false, p.2)
def fOrT (f g : FT) : FT := fun env st => (f env st).bind fun p => if p.1 = true then some (true, p.2) else g env p.2
/-- a test whatever the whole is -/
abbrev DW (X : Cx) (e : Expr) (f : FT) : Prop := PW X e (tT X.K f)
theorem weakW {e : Expr} {t t' : TT} (h : PW X e t) (i : ∀ σ H Q, t' σ H Q → t σ H Q) : PW X e t' := ⟨fun wh pins s σ H Q I q => h.run wh pins s σ H Q I (i σ H Q q)⟩
theorem dw_and1 {a : Expr} {f : FT} {pos : Pos} (h : DT X a f) : DW X (.BoolOp .And [a] pos) f := pw_and1 h
theorem dw_or1 {a : Expr} {f : FT} {pos : Pos} (h : DT X a f) : DW X (.BoolOp .Or [a] pos) f := pw_or1 h
theorem dw_and {a b : Expr} {rest : List Expr} {f g : FT} {pos : Pos} (ha : DT X a f) (hb : DW X (.BoolOp .And (b :: rest) pos) g) : DW X (.BoolOp .And (a :: b :: rest) pos) (fAndT f g) := weakW (pw_and ha hb) fun σ H Q hh => by
  obtain ⟨r, env, st, b, st', he, hs, hf, q⟩ := hh
  obtain ⟨⟨c, s1⟩, h1, h2⟩ := Option.bind_eq_some_iff.mp hf
  refine ⟨r, env, st, c, s1, he, hs, h1, fun r1 H1 e1 q1 => ?_⟩
  cases c with
  | true => exact ⟨r1, env, s1, b, st', he.ext e1, q1, h2, fun r2 H2 e2 q2 => q r2 H2 (e1.trans e2) q2⟩
  | false =>
    cases h2
    exact q r1 H1 e1 q1
theorem dw_or {a b : Expr} {rest : List Expr} {f g : FT} {pos : Pos} (ha : DT X a f) (hb : DW X (.BoolOp .Or (b :: rest) pos) g) : DW X (.BoolOp .Or (a :: b :: rest) pos) (fOrT f g) := weakW (pw_or ha hb) fun σ H Q hh => by
  obtain ⟨r, env, st, b, st', he, hs, hf, q⟩ := hh
  obtain ⟨⟨c, s1⟩, h1, h2⟩ := Option.bind_eq_some_iff.mp hf
  refine ⟨r, env, st, c, s1, he, hs, h1, fun r1 H1 e1 q1 => ?_⟩
  cases c with
  | false => exact ⟨r1, env, s1, b, st', he.ext e1, q1, h2, fun r2 H2 e2 q2 => q r2 H2 (e1.trans e2) q2⟩
  | true =>
    cases h2
    exact q r1 H1 e1 q1
theorem dt_w {e : Expr} {f : FT} (h : DW X e f) : DT X e f := h.pt
/-- as values: bools alone -/
def fAnd (f g : F) : F := fun env st => (f env st).bind fun p => (asB p.1).bind fun b => if b = true then g env p.2 else some (.bl false, p.2)
def fOr (f g : F) : F := fun env st => (f env st).bind fun p => (asB p.1).bind fun b => if b = true then some (.bl true, p.2) else g env p.2
def fNot (f : F) : F := fun env st => (f env st).bind fun p => (asB p.1).map fun b => (.bl (!b), p.2)
theorem asB_some {d : D} {b : Bool} (h : asB d = some b) : d = .bl b := by
  cases d with
  | bl c => cases h; rfl
  | _ => cases h
theorem de_one {a : Expr} {op} {f : F} {pos : Pos} (h : DE X a f) : DE X (.BoolOp op [a] pos) f := pe_one h
theorem de_and {a b : Expr} {rest : List Expr} {f g : F} {pos : Pos} (ha : DE X a f) (hb : DE X (.BoolOp .And (b :: rest) pos) g) : DE X (.BoolOp .And (a :: b :: rest) pos) (fAnd f g) := weakE (pe_and ha hb) fun σ H Q hh => by
  obtain ⟨r, env, st, d, st', he, hs, hf, q⟩ := hh
  obtain ⟨⟨x, s1⟩, h1, h2⟩ := Option.bind_eq_some_iff.mp hf
  obtain ⟨c, h3, h4⟩ := Option.bind_eq_some_iff.mp h2
  have e := asB_some h3
  subst e
  refine ⟨r, env, st, .bl c, s1, he, hs, h1, fun u r1 H1 e1 q1 p1 => ?_⟩
  cases p1
  refine ⟨c, rfl, ?_⟩
  cases c with
  | true => exact ⟨r1, env, s1, d, st', he.ext e1, q1, h4, fun v r2 H2 e2 q2 p2 => q v r2 H2 (e1.trans e2) q2 p2⟩
  | false =>
    cases h4
    exact q _ r1 H1 e1 q1 (.bl false)
theorem de_or {a b : Expr} {rest : List Expr} {f g : F} {pos : Pos} (ha : DE X a f) (hb : DE X (.BoolOp .Or (b :: rest) pos) g) : DE X (.BoolOp .Or (a :: b :: rest) pos) (fOr f g) := weakE (pe_or ha hb) fun σ H Q hh => by
  obtain ⟨r, env, st, d, st', he, hs, hf, q⟩ := hh
  obtain ⟨⟨x, s1⟩, h1, h2⟩ := Option.bind_eq_some_iff.mp hf
  obtain ⟨c, h3, h4⟩ := Option.bind_eq_some_iff.mp h2
  have e := asB_some h3
  subst e
  refine ⟨r, env, st, .bl c, s1, he, hs, h1, fun u r1 H1 e1 q1 p1 => ?_⟩
  cases p1
  refine ⟨c, rfl, ?_⟩
  cases c with
  | false => exact ⟨r1, env, s1, d, st', he.ext e1, q1, h4, fun v r2 H2 e2 q2 p2 => q v r2 H2 (e1.trans e2) q2 p2⟩
  | true =>
    cases h4
    exact q _ r1 H1 e1 q1 (.bl true)
theorem de_not {a : Expr} {f : F} {pos : Pos} (ha : DE X a f) : DE X (.UnaryOp .Not a pos) (fNot f) := weakE (pe_not ha) fun σ H Q hh => by
  obtain ⟨r, env, st, d, st', he, hs, hf, q⟩ := hh
  obtain ⟨⟨x, s1⟩, h1, h2⟩ := Option.bind_eq_some_iff.mp hf
  obtain ⟨c, h3, h4⟩ := Option.map_eq_some_iff.mp h2
  have e := asB_some h3
  subst e
  cases h4
  refine ⟨r, env, st, .bl c, _, he, hs, h1, fun u r1 H1 e1 q1 p1 => ?_⟩
  cases p1
  exact ⟨c, rfl, q _ r1 H1 e1 q1 (.bl (!c))⟩
def fIfE (t : FT) (f g : F) : F := fun env st => (t env st).bind fun p => if p.1 = true then f env p.2 else g env p.2
theorem de_if {c a b : Expr} {t : FT} {f g : F} {pos : Pos} (hc : DT X c t) (ha : DE X a f) (hb : DE X b g) : DE X (.IfExp c a b pos) (fIfE t f g) := weakE (pe_ifExp hc ha hb) fun σ H Q hh => by
  obtain ⟨r, env, st, d, st', he, hs, hf, q⟩ := hh
  obtain ⟨⟨c, s1⟩, h1, h2⟩ := Option.bind_eq_some_iff.mp hf
  refine ⟨r, env, st, c, s1, he, hs, h1, fun r1 H1 e1 q1 => ?_⟩
  cases c with
  | true => exact ⟨r1, env, s1, d, st', he.ext e1, q1, h2, fun v r2 H2 e2 q2 p2 => q v r2 H2 (e1.trans e2) q2 p2⟩
  | false => exact ⟨r1, env, s1, d, st', he.ext e1, q1, h2, fun v r2 H2 e2 q2 p2 => q v r2 H2 (e1.trans e2) q2 p2⟩
/-- a op b op' c -/
def fChain (g g' : D → D → Option D) (fa fb fc : F) : F := fun env st => (fa env st).bind fun p => (fb env p.2).bind fun q => (g p.1 q.1).bind fun z => (asB z).bind fun k =>
  if k = true then (fc env q.2).bind fun w => (g' q.1 w.1).map fun d => (d, w.2) else some (.bl false, q.2)
theorem chainReads {r r' : R2} {g g' : D → D → Option D}
    (k : ∀ (rho : Rf) (H : Hp) (x y : V) (a b d : D) (st : Store) (Q : VK), Sim K rho H st → Rep K rho H x a → Rep K rho H y b → g a b = some d → (∀ v H', Same H H' → Rep K rho H' v d → Q v H') → r x y H Q)
    (k' : ∀ (rho : Rf) (H : Hp) (x y : V) (a b d : D) (st : Store) (Q : VK), Sim K rho H st → Rep K rho H x a → Rep K rho H y b → g' a b = some d → (∀ v H', Same H H' → Rep K rho H' v d → Q v H') → r' x y H Q)
    {fa fb fc : F} (σ : L2.St) (H : Hp) (Q : VK) (h : tD K (fChain g g' fa fb fc) σ H Q) : tChain r r' (tD K fa) (tD K fb) (tD K fc) σ H Q := by
  obtain ⟨rho, env, st, d, st', he, hs, hf, q⟩ := h
  obtain ⟨⟨x, s1⟩, h1, hf1⟩ := Option.bind_eq_some_iff.mp hf
  obtain ⟨⟨y, s2⟩, h2, hf2⟩ := Option.bind_eq_some_iff.mp hf1
  obtain ⟨z, h3, hf3⟩ := Option.bind_eq_some_iff.mp hf2
  obtain ⟨c, h4, hf4⟩ := Option.bind_eq_some_iff.mp hf3
  have e := asB_some h4
  subst e
  refine two he hs h1 h2 fun u v r1 H1 e1 q1 pu pv => k r1 H1 u v x y _ _ _ q1 pu pv h3 fun w H2 sm pw => ?_
  cases pw
  refine ⟨c, rfl, ?_⟩
  cases c with
  | false =>
    cases hf4
    exact q _ r1 H2 (e1.trans (q1.ext sm)) (q1.same sm) (.bl false)
  | true =>
    rw [if_pos rfl] at hf4
    obtain ⟨⟨w, s3⟩, h5, hf5⟩ := Option.bind_eq_some_iff.mp hf4
    obtain ⟨d', h6, hf6⟩ := Option.map_eq_some_iff.mp hf5
    cases hf6
    rw [if_pos rfl]
    have e2 : Ext rho H r1 H2 := e1.trans (q1.ext sm)
    refine ⟨r1, env, s2, w, _, he.ext e2, q1.same sm, h5, fun w' r3 H3 e3 q3 pw' => ?_⟩
    exact k' r3 H3 v w' y w _ _ _ q3 (pv.ext ((q1.ext sm).trans e3)) pw' h6 fun v4 H4 sm4 p4 => q v4 r3 H4 ((e2.trans e3).trans (q3.ext sm4)) (q3.same sm4) p4
theorem de_chain {op op' : CmpOp} {g g' : D → D → Option D} {a b c : Expr} {fa fb fc : F} {pos : Pos} (ho : OpOk X (compareOp op) g) (ho' : OpOk X (compareOp op') g') (ha : DE X a fa) (hb : DE X b fb) (hc : DE X c fc)
    (hm : lastMarks [op, op'] [b, c] = false := by with_unfolding_all rfl) : DE X (.Compare a [op, op'] [b, c] pos) (fChain g g' fa fb fc) := by
  obtain ⟨r, hr, k⟩ := ho
  obtain ⟨r', hr', k'⟩ := ho'
  exact weakE (pe_chain hr hr' ha hb hc hm) fun σ H Q h => chainReads k k' σ H Q h
theorem dt_chain {op op' : CmpOp} {g g' : D → D → Option D} {a b c : Expr} {fa fb fc : F} {pos : Pos} (ho : OpOk X (compareOp op) g) (ho' : OpOk X (compareOp op') g') (ha : DE X a fa) (hb : DE X b fb) (hc : DE X c fc)
    (hm : lastMarks [op, op'] [b, c] = false := by with_unfolding_all rfl) : DT X (.Compare a [op, op'] [b, c] pos) (fTest (fChain g g' fa fb fc)) := by
  obtain ⟨r, hr, k⟩ := ho
  obtain ⟨r', hr', k'⟩ := ho'
  exact weakT (pt_chain hr hr' ha hb hc hm) fun σ H Q h => chainReads k k' σ H (fun x H1 => ∃ c, x = .bl c ∧ Q c H1) (testReads σ H Q h)

/-! ### statements -/
inductive Out | nx | bk | ct | rt (d : D) | er (c f : Str) (d : D)
/-- an error of class c, its one field f -/
def ErrAt (K : PySem.W.Frag) (r : Rf) (H : Hp) (c f : Str) (d : D) (C dd : Addr) : Prop := PySem.W.nsIn K mainGlobals c = some (some (.ref C)) ∧ ∃ v, H dd = some (.xd [(f, v)]) ∧ Rep K r H v d
abbrev FS := Lo → Store → Option (Out × Lo × Store)
def OutOk (K : PySem.W.Frag) (W : WXd) (r : Rf) (H : Hp) (D' : Ends) (env' : Lo) (st' : Store) : Out → Prop
  | .nx => ∀ σ' r' H', Ext r H r' H' → EnvR K r' H' env' σ' → Sim K r' H' st' → D'.nx σ' H'
  | .bk => ∀ σ' r' H', Ext r H r' H' → EnvR K r' H' env' σ' → Sim K r' H' st' → D'.bk σ' H'
  | .ct => ∀ σ' r' H', Ext r H r' H' → EnvR K r' H' env' σ' → Sim K r' H' st' → D'.ct σ' H'
  | .rt d => ∀ v r' H', Ext r H r' H' → Sim K r' H' st' → Rep K r' H' v d → D'.rt v H'
  | .er c f d => ∀ σ' r' H' C dd, Ext r H r' H' → EnvR K r' H' env' σ' → Sim K r' H' st' → ErrAt K r' H' c f d C dd → W (.ref C) (some dd) σ' H'
theorem OutOk.ext {W : WXd} {r r1 : Rf} {H H1 : Hp} {D' : Ends} {env' : Lo} {st' : Store} (e : Ext r H r1 H1) : ∀ {o : Out}, OutOk K W r H D' env' st' o → OutOk K W r1 H1 D' env' st' o
  | .nx, h => fun σ' r' H' e' a b => h σ' r' H' (e.trans e') a b
  | .bk, h => fun σ' r' H' e' a b => h σ' r' H' (e.trans e') a b
  | .ct, h => fun σ' r' H' e' a b => h σ' r' H' (e.trans e') a b
  | .rt _, h => fun v r' H' e' a b => h v r' H' (e.trans e') a b
  | .er _ _ _, h => fun σ' r' H' C dd e' a b c => h σ' r' H' C dd (e.trans e') a b c
def tS (K : PySem.W.Frag) (W : WXd) (g : FS) : TS := fun D' σ H => ∃ r env st o env' st', EnvR K r H env σ ∧ Sim K r H st ∧ g env st = some (o, env', st') ∧ OutOk K W r H D' env' st' o
abbrev DS (X : Cx) (W : WXd) (st : Stmt) (g : FS) : Prop := PS X st (tS X.K W g)
abbrev DSs (X : Cx) (W : WXd) (st : List Stmt) (g : FS) : Prop := PSs X st (tS X.K W g)
def sNil : FS := fun env st => some (.nx, env, st)
def sSeq (g h : FS) : FS := fun env st => (g env st).bind fun p => match p with | (.nx, e1, s1) => h e1 s1 | q => some q
theorem ds_nil : DSs X W [] sNil := weakSs pss_nil fun D' σ H hh => by
  obtain ⟨r, env, st, o, env', st', he, hs, hf, q⟩ := hh
  cases hf
  exact q σ r H (.refl r H) he hs
theorem ds_one {s : Stmt} {g : FS} (h : DS X W s g) : DSs X W [s] g := pss_one h
theorem ds_cons {s : Stmt} {rest : List Stmt} {g h : FS} (hg : DS X W s g) (hr : DSs X W rest h) : DSs X W (s :: rest) (sSeq g h) := weakSs (pss_cons hg hr) fun D' σ H hh => by
  obtain ⟨r, env, st, o, env', st', he, hs, hf, q⟩ := hh
  obtain ⟨⟨o1, e1, s1⟩, h1, h2⟩ := Option.bind_eq_some_iff.mp hf
  refine ⟨r, env, st, o1, e1, s1, he, hs, h1, ?_⟩
  cases o1 with
  | nx => exact fun σ' r' H' ex he' hs' => ⟨r', e1, s1, o, env', st', he', hs', h2, q.ext ex⟩
  | bk => cases h2; exact q
  | ct => cases h2; exact q
  | rt d => cases h2; exact q
  | er c f d => cases h2; exact q
def sRet (f : F) : FS := fun env st => (f env st).map fun p => (.rt p.1, env, p.2)
theorem ds_ret {e : Expr} {f : F} {pos : Pos} (h : DE X e f) : DS X W (.Return (some e) pos) (sRet f) := weakS (ps_ret h) fun D' σ H hh => by
  obtain ⟨r, env, st, o, env', st', he, hs, hf, q⟩ := hh
  obtain ⟨⟨d, s1⟩, h1, h2⟩ := Option.map_eq_some_iff.mp hf
  cases h2
  exact ⟨r, env, st, d, _, he, hs, h1, q⟩
def sRetN : FS := fun env st => some (.rt .non, env, st)
theorem ds_retN {pos : Pos} : DS X W (.Return none pos) sRetN := weakS ps_retN fun D' σ H hh => by
  obtain ⟨r, env, st, o, env', st', he, hs, hf, q⟩ := hh
  cases hf
  exact q _ r H (.refl r H) hs .non
def sBrk : FS := fun env st => some (.bk, env, st)
def sCnt : FS := fun env st => some (.ct, env, st)
theorem ds_pass {pos : Pos} : DS X W (.Pass pos) sNil := weakS ps_pass fun D' σ H hh => by
  obtain ⟨r, env, st, o, env', st', he, hs, hf, q⟩ := hh
  cases hf
  exact q σ r H (.refl r H) he hs
theorem ds_brk {pos : Pos} : DS X W (.Break pos) sBrk := weakS ps_break fun D' σ H hh => by
  obtain ⟨r, env, st, o, env', st', he, hs, hf, q⟩ := hh
  cases hf
  exact q σ r H (.refl r H) he hs
theorem ds_cnt {pos : Pos} : DS X W (.Continue pos) sCnt := weakS ps_continue fun D' σ H hh => by
  obtain ⟨r, env, st, o, env', st', he, hs, hf, q⟩ := hh
  cases hf
  exact q σ r H (.refl r H) he hs
def sDrop (f : F) : FS := fun env st => (f env st).map fun p => (.nx, env, p.2)
theorem ds_expr {e : Expr} {f : F} {pos : Pos} (h : DE X e f) (hs : swapsWith e none pos.line X.env = pure false := by rfl) : DS X W (.Expr e pos) (sDrop f) := weakS (ps_expr h hs) fun D' σ H hh => by
  obtain ⟨r, env, st, o, env', st', he, hs, hf, q⟩ := hh
  obtain ⟨⟨d, s1⟩, h1, h2⟩ := Option.map_eq_some_iff.mp hf
  cases h2
  exact ⟨r, env, st, d, _, he, hs, h1, fun v r1 H1 e1 q1 p1 => q σ r1 H1 e1 (he.ext e1) q1⟩
def sIf (t : FT) (g h : FS) : FS := fun env st => (t env st).bind fun p => if p.1 = true then g env p.2 else h env p.2
theorem ds_if {c : Expr} {a b : List Stmt} {t : FT} {g h : FS} {pos : Pos} (hc : DT X c t) (ha : DSs X W a g) (hb : DSs X W b h) : DS X W (.If c a b pos) (sIf t g h) := weakS (ps_if hc ha hb) fun D' σ H hh => by
  obtain ⟨r, env, st, o, env', st', he, hs, hf, q⟩ := hh
  obtain ⟨⟨k, s1⟩, h1, h2⟩ := Option.bind_eq_some_iff.mp hf
  refine ⟨r, env, st, k, s1, he, hs, h1, fun r1 H1 e1 q1 => ?_⟩
  cases k with
  | true => exact ⟨r1, env, s1, o, env', st', he.ext e1, q1, h2, q.ext e1⟩
  | false => exact ⟨r1, env, s1, o, env', st', he.ext e1, q1, h2, q.ext e1⟩

/-! ### targets -/
abbrev FG := D → Lo → Option Lo
abbrev FGs := List D → Lo → Option Lo
/-- how an item stands for its data -/
abbrev RD := Rf → Hp → V → D → Prop
/-- .. by Rep, or as a tuple of which no more is known -/
def RepI (K : PySem.W.Frag) : RD := fun r H v d => ∃ a xs ds, v = .ref a ∧ d = .tup ds ∧ SqT K H a xs ∧ RepL K r H xs ds
def tGR (K : PySem.W.Frag) (R : RD) (g : FG) : TG := fun v σ H Q => ∃ r env d env', EnvR K r H env σ ∧ R r H v d ∧ g d env = some env' ∧ ∀ σ', EnvR K r H env' σ' → Q σ' H
abbrev tG (K : PySem.W.Frag) (g : FG) : TG := tGR K (Rep K) g
abbrev DGR (X : Cx) (R : RD) (e : Expr) (g : FG) : Prop := PG X e (tGR X.K R g)
def tGs (K : PySem.W.Frag) (g : FGs) : TGs := fun vs σ H Q => ∃ r env ds env', EnvR K r H env σ ∧ RepL K r H vs ds ∧ g ds env = some env' ∧ ∀ σ', EnvR K r H env' σ' → Q σ' H
abbrev DG (X : Cx) (e : Expr) (g : FG) : Prop := PG X e (tG X.K g)
abbrev DGs (X : Cx) (e : List Expr) (g : FGs) : Prop := PGs X e (tGs X.K g)
theorem weakG {e : Expr} {t t' : TG} (h : PG X e t) (i : ∀ v σ H Q, t' v σ H Q → t v σ H Q) : PG X e t' := ⟨fun pins s σ H v u Q I r q => h.run pins s σ H v u Q I r (i v σ H Q q)⟩
theorem weakGs {e : List Expr} {t t' : TGs} (h : PGs X e t) (i : ∀ v σ H Q, t' v σ H Q → t v σ H Q) : PGs X e t' := ⟨fun pins s σ H v u Q I r q => h.run pins s σ H v u Q I r (i v σ H Q q)⟩
def gN (i : Nat) : FG := fun d env => some (env.set i (some d))
theorem dg_name (i : Nat) {x : Str} {pos : Pos} (hN : X.N.Nodup) (hi : X.N[i]? = some x := by rfl) (hx : Loc X.env.scope x := by first | exact Or.inl rfl | exact Or.inr rfl) (hf : X.fn x = true ∨ X.env.scope.names.lookup x = some .local := by first | exact .inl rfl | exact .inr rfl | assumption) : DG X (.Name x pos) (gN i) :=
  weakG (pg_name hN hi hx hf) fun v σ H Q hh => by
  obtain ⟨r, env, d, env', he, hr, hg, q⟩ := hh
  cases hg
  exact q _ (he.set hr i)
def gNil' : FGs := fun ds env => match ds with | [] => some env | _ => none
def gCons' (g : FG) (h : FGs) : FGs := fun ds env => match ds with | d :: r => (g d env).bind fun e1 => h r e1 | [] => none
theorem dgs_nil : DGs X [] gNil' := weakGs pgs_nil fun v σ H Q hh => by
  obtain ⟨r, env, ds, env', he, hr, hg, q⟩ := hh
  cases ds with
  | nil =>
    cases hg
    cases hr
    exact ⟨rfl, q _ he⟩
  | cons a b => cases hg
theorem dgs_cons {e : Expr} {es : List Expr} {g : FG} {h : FGs} (h1 : DG X e g) (h2 : DGs X es h) (hs : (assignEach (e :: es) X.env).map (·.2) = assign e X.env :: (assignEach es X.env).map (·.2) := by rfl) : DGs X (e :: es) (gCons' g h) := weakGs (pgs_cons h1 h2 hs) fun v σ H Q hh => by
  obtain ⟨r, env, ds, env', he, hr, hg, q⟩ := hh
  cases ds with
  | nil => cases hg
  | cons a b =>
    cases hr with
    | cons ra rb =>
      obtain ⟨e1, g1, g2⟩ := Option.bind_eq_some_iff.mp hg
      exact ⟨_, _, rfl, r, env, a, e1, he, ra, g1, fun σ' he' => ⟨r, e1, b, env', he', rb, g2, q⟩⟩
def gT (n : Nat) (h : FGs) : FG := fun d env => match d with | .tup ds => if ds.length = n then h ds env else none | _ => none
theorem Rep.sqT {r : Rf} {H : Hp} {v : V} {ds : List D} (h : Rep K r H v (.tup ds)) : ∃ a xs, v = .ref a ∧ SqT K H a xs ∧ RepL K r H xs ds := by
  cases h with
  | tup a z b c => exact ⟨_, _, rfl, .inl (.inr ⟨_, a⟩), c⟩
  | tupP a b c => exact ⟨_, _, rfl, .inl (.inl a), c⟩
  | tupK a b z c d e f => exact ⟨_, _, rfl, .inr ⟨_, _, _, a, b, c, d, e⟩, f⟩
theorem dg_tup {es : List Expr} {k n : Nat} {h : FGs} {pos : Pos} (hc : X.calm = true) (hh : DGs X es h) (hn : (assignEach es X.env).length = n := by rfl) (hst : (assignEach es X.env).findIdx? (·.1) = none := by rfl) : DG X (.Tuple es k pos) (gT n h) :=
  weakG (pg_tup hc hh hn hst) fun v σ H Q hh => by
  obtain ⟨r, env, d, env', he, hr, hg, q⟩ := hh
  cases d with
  | tup ds =>
    obtain ⟨a, xs, e, s, l⟩ := hr.sqT
    have hg' : (if ds.length = n then h ds env else none) = some env' := hg
    by_cases hl : ds.length = n
    · rw [if_pos hl] at hg'
      exact ⟨a, xs, e, s, by rw [l.len]; exact hl, r, env, ds, env', he, l, hg', q⟩
    · rw [if_neg hl] at hg'
      cases hg'
  | _ => cases hg
/-- a tuple's target takes an item of either kind -/
theorem dg_tupI {es : List Expr} {k n : Nat} {h : FGs} {pos : Pos} (hc : X.calm = true) (hh : DGs X es h) (hn : (assignEach es X.env).length = n := by rfl) (hst : (assignEach es X.env).findIdx? (·.1) = none := by rfl) : DGR X (RepI X.K) (.Tuple es k pos) (gT n h) :=
  weakG (pg_tup hc hh hn hst) fun v σ H Q hh => by
  obtain ⟨r, env, d, env', he, hr, hg, q⟩ := hh
  obtain ⟨a, xs, ds, e, ed, s, l⟩ := hr
  subst ed
  have hg' : (if ds.length = n then h ds env else none) = some env' := hg
  by_cases hl : ds.length = n
  · rw [if_pos hl] at hg'
    exact ⟨a, xs, e, s, by rw [l.len]; exact hl, r, env, ds, env', he, l, hg', q⟩
  · rw [if_neg hl] at hg'
    cases hg'
def sAsg (f : F) (g : FG) : FS := fun env st => (f env st).bind fun p => (g p.1 env).map fun e1 => (.nx, e1, p.2)
theorem asgReads {W : WXd} {f : F} {g : FG} (D' : Ends) (σ : L2.St) (H : Hp) (hh : tS K W (sAsg f g) D' σ H) : tAsg (tD K f) (tG K g) D' σ H := by
  obtain ⟨r, env, st, o, env', st', he, hs, hf, q⟩ := hh
  obtain ⟨⟨d, s1⟩, h1, h2⟩ := Option.bind_eq_some_iff.mp hf
  obtain ⟨e1, h3, h4⟩ := Option.map_eq_some_iff.mp h2
  cases h4
  exact ⟨r, env, st, d, _, he, hs, h1, fun v r1 H1 x1 q1 p1 => ⟨r1, env, d, _, he.ext x1, p1, h3, fun σ' he' => q σ' r1 H1 x1 he' q1⟩⟩
theorem ds_asg {tg e : Expr} {f : F} {g : FG} {pos : Pos} (he : DE X e f) (hg : DG X tg g) (hs : swapsWithSole [tg] e pos.line X.env = pure false := by rfl) (hw : swappedStores [tg] e X.env = pure none := by rfl)
    (h1 : (assignEach [tg] X.env).map (·.2) = [assign tg X.env] := by rfl) : DS X W (.Assign [tg] e pos) (sAsg f g) := weakS (ps_asg he hg hs hw h1) fun D' σ H hh => asgReads D' σ H hh
end
end DL
namespace DL
open PySem PySem.Spec PyProof.Rows L2
variable {K : PySem.W.Frag}

/-! ### what is walked -/
abbrev FI := Lo → Store → Option (List D × Store)
/-- the iterator yields these data, whatever has become known since -/
def ItOkR (K : PySem.W.Frag) (R : RD) (J : It) (r : Rf) (H : Hp) (ds : List D) : Prop :=
  ∀ r1 H1 st1, Ext r H r1 H1 → Sim K r1 H1 st1 → (∀ i, ds.length ≤ i → J.stop i H1) ∧
    ∀ (i : Nat) d, ds[i]? = some d → J.go i H1 ∧ ∀ x H2, J.yld i H1 x H2 → ∃ r2, Ext r1 H1 r2 H2 ∧ Sim K r2 H2 st1 ∧ R r2 H2 x d
abbrev ItOk (K : PySem.W.Frag) (J : It) (r : Rf) (H : Hp) (ds : List D) : Prop := ItOkR K (Rep K) J r H ds
def tIR (K : PySem.W.Frag) (RR : RD) (f : FI) : TI := fun σ H R => ∃ r env st ds st', EnvR K r H env σ ∧ Sim K r H st ∧ f env st = some (ds, st') ∧ ∀ J r' H', Ext r H r' H' → Sim K r' H' st' → ItOkR K RR J r' H' ds → R J H'
abbrev tI (K : PySem.W.Frag) (f : FI) : TI := tIR K (Rep K) f
abbrev DIR (X : Cx) (RR : RD) (tg iter : Expr) (f : FI) : Prop := PI X tg iter (tIR X.K RR f)
abbrev DI (X : Cx) (tg iter : Expr) (f : FI) : Prop := DIR X (Rep X.K) tg iter f
theorem ItOk.ext {R : RD} {J : It} {r r' : Rf} {H H' : Hp} {ds : List D} (h : ItOkR K R J r H ds) (e : Ext r H r' H') : ItOkR K R J r' H' ds := fun r1 H1 st1 e1 s1 => h r1 H1 st1 (e.trans e1) s1

section
variable {X : Cx} {W : WXd} {tg iter : Expr}
theorem weakI {t t' : TI} (h : PI X tg iter t) (i : ∀ σ H Q, t' σ H Q → t σ H Q) : PI X tg iter t' := ⟨fun pins s σ H Q I q => h.run pins s σ H Q I (i σ H Q q)⟩

def asL : D → Option (List D) | .lst ds => some ds | _ => none
def asT : D → Option (List D) | .tup ds => some ds | _ => none
def asScr : D → Option (List D) | .scr ns => some (ns.map D.int) | _ => none
def asStr : D → Option (List D) | .str x => some (x.cps.toList.map fun c => .str ⟨#[c]⟩) | _ => none
def iOf (a : D → Option (List D)) (f : F) : FI := fun env st => (f env st).bind fun p => (a p.1).map fun ds => (ds, p.2)
theorem iOf_some {a : D → Option (List D)} {f : F} {env : Lo} {st : Store} {z : List D × Store} (h : iOf a f env st = some z) : ∃ d, f env st = some (d, z.2) ∧ a d = some z.1 := by
  obtain ⟨⟨x, s1⟩, h1, h2⟩ := Option.bind_eq_some_iff.mp h
  obtain ⟨ds, h3, h4⟩ := Option.map_eq_some_iff.mp h2
  cases h4
  exact ⟨x, h1, h3⟩
theorem sql_ok {J : It} {a : Addr} {r : Rf} {H : Hp} {xs : List V} {ds : List D} (hJ : J = Itl K a) (h : ∀ r1 H1, Ext r H r1 H1 → SqL K H1 a xs) (l : RepL K r H xs ds) : ItOk K J r H ds := fun r1 H1 st1 e1 s1 => by
  subst hJ
  have q := h r1 H1 e1
  have l1 := l.ext e1
  refine ⟨fun i hi => ⟨xs, q, by rw [l.len]; exact hi⟩, fun i d hd => ?_⟩
  obtain ⟨v, hv, rv⟩ := l1.get hd
  exact ⟨⟨xs, v, q, hv⟩, fun x H2 ⟨e, y⟩ => by
    subst e
    have := y xs q
    rw [hv] at this
    cases this
    exact ⟨r1, .refl _ _, s1, rv⟩⟩
theorem di_lst {f : F} (h : DE X iter f) : DI X tg iter (iOf asL f) := weakI (pi_list h) fun σ H R hh => by
  obtain ⟨r, env, st, ds, st', he, hs, hf, q⟩ := hh
  obtain ⟨d, h1, h2⟩ := iOf_some hf
  refine ⟨r, env, st, d, st', he, hs, h1, fun v r1 H1 e1 q1 p1 => ?_⟩
  cases d with
  | lst es =>
    cases h2
    cases p1 with
    | lst a b c => exact ⟨_, rfl, ⟨_, .of a⟩, q _ r1 H1 e1 q1 (sql_ok rfl (fun r2 H2 e2 => .of (e2.keep _ _ a b)) c)⟩
  | _ => cases h2
theorem di_scr {f : F} (h : DE X iter f) : DI X tg iter (iOf asScr f) := weakI (pi_list h) fun σ H R hh => by
  obtain ⟨r, env, st, ds, st', he, hs, hf, q⟩ := hh
  obtain ⟨d, h1, h2⟩ := iOf_some hf
  refine ⟨r, env, st, d, st', he, hs, h1, fun v r1 H1 e1 q1 p1 => ?_⟩
  cases d with
  | scr es =>
    cases h2
    cases p1 with
    | scr a b => exact ⟨_, rfl, ⟨_, .inl (.inr ⟨_, a⟩)⟩, q _ r1 H1 e1 q1 (sql_ok rfl (fun r2 H2 e2 => .inl (.inr ⟨_, e2.keep _ _ a b⟩)) (RepL.ofInts es))⟩
    | scrK a b c d e f => exact ⟨_, rfl, ⟨_, .inr ⟨_, _, _, a, b, c, d, e, f⟩⟩, q _ r1 H1 e1 q1 (sql_ok rfl (fun r2 H2 e2 => .inr ⟨_, _, _, a, b, c, d, e, f⟩) (RepL.ofInts es))⟩
  | _ => cases h2
theorem di_tup {f : F} (h : DE X iter f) : DI X tg iter (iOf asT f) := weakI (pi_tup h) fun σ H R hh => by
  obtain ⟨r, env, st, ds, st', he, hs, hf, q⟩ := hh
  obtain ⟨d, h1, h2⟩ := iOf_some hf
  refine ⟨r, env, st, d, st', he, hs, h1, fun v r1 H1 e1 q1 p1 => ?_⟩
  cases d with
  | tup es =>
    have ees : es = ds := Option.some.inj h2
    subst ees
    have key : ∀ {a : Addr} {xs : List V}, (∀ r2 H2, Ext r1 H1 r2 H2 → SqT X.K H2 a xs) → RepL X.K r1 H1 xs es → ItOk X.K (Itt X.K a) r1 H1 es := fun {a xs} hq l r2 H2 st2 e2 s2 => by
      have qq := hq r2 H2 e2
      have l1 := l.ext e2
      refine ⟨fun i hi => ⟨xs, qq, by rw [l.len]; exact hi⟩, fun i d hd => ?_⟩
      obtain ⟨v, hv, rv⟩ := l1.get hd
      exact ⟨⟨xs, v, qq, hv⟩, fun x H3 ⟨e, y⟩ => by
        subst e
        have := y xs qq
        rw [hv] at this
        cases this
        exact ⟨r2, .refl _ _, s2, rv⟩⟩
    cases p1 with
    | tup a z b c => exact ⟨_, rfl, ⟨_, .inl (.inr ⟨_, a⟩)⟩, q _ r1 H1 e1 q1 (key (fun r2 H2 e2 => .inl (.inr ⟨_, e2.keep _ _ a b⟩)) c)⟩
    | tupP a b c => exact ⟨_, rfl, ⟨_, .inl (.inl a)⟩, q _ r1 H1 e1 q1 (key (fun r2 H2 e2 => .inl (.inl (e2.keep _ _ a b))) c)⟩
    | tupK a b z c d e f => exact ⟨_, rfl, ⟨_, .inr ⟨_, _, _, a, b, c, d, e⟩⟩, q _ r1 H1 e1 q1 (key (fun r2 H2 e2 => .inr ⟨_, _, _, a, b, c, d, e⟩) f)⟩
  | _ => cases h2
theorem di_str {f : F} (h : DE X iter f) : DI X tg iter (iOf asStr f) := weakI (pi_str h) fun σ H R hh => by
  obtain ⟨r, env, st, ds, st', he, hs, hf, q⟩ := hh
  obtain ⟨d, h1, h2⟩ := iOf_some hf
  refine ⟨r, env, st, d, st', he, hs, h1, fun v r1 H1 e1 q1 p1 => ?_⟩
  cases d with
  | str x =>
    cases h2
    cases p1
    refine ⟨x, rfl, q _ r1 H1 e1 q1 fun r2 H2 st2 e2 s2 => ⟨fun i hi => ?_, fun i d hd => ?_⟩⟩
    · show x.cps.size ≤ i
      simpa using hi
    · rw [List.getElem?_map] at hd
      obtain ⟨c, hc, e⟩ := Option.map_eq_some_iff.mp hd
      subst e
      have hc' : x.cps[i]? = some c := by simpa using hc
      refine ⟨(Array.getElem?_eq_some_iff.mp hc').1, fun y H3 ⟨e, c', hc2, ey⟩ => ?_⟩
      subst e
      rw [hc'] at hc2
      cases hc2
      subst ey
      exact ⟨r2, .refl _ _, s2, .str _⟩
  | _ => cases h2
/-- range(n) -/
def rg (lo hi : Int) : List D := (List.range (hi - lo).toNat).map fun k => .int (lo + (k : Nat))
def asR1 : List D → Option (List D) | [.int n] => if -(2 ^ 62) ≤ n ∧ n < 2 ^ 62 then some (rg 0 n) else none | _ => none
def asR2 : List D → Option (List D) | [.int i, .int n] => if (-(2 ^ 62) ≤ i ∧ i < 2 ^ 62) ∧ (-(2 ^ 62) ≤ n ∧ n < 2 ^ 62) then some (rg i n) else none | _ => none
def iOfA (a : List D → Option (List D)) (f : FA) : FI := fun env st => (f env st).bind fun p => (a p.1).map fun ds => (ds, p.2)
theorem iOfA_some {a : List D → Option (List D)} {f : FA} {env : Lo} {st : Store} {z : List D × Store} (h : iOfA a f env st = some z) : ∃ d, f env st = some (d, z.2) ∧ a d = some z.1 := by
  obtain ⟨⟨x, s1⟩, h1, h2⟩ := Option.bind_eq_some_iff.mp h
  obtain ⟨ds, h3, h4⟩ := Option.map_eq_some_iff.mp h2
  cases h4
  exact ⟨x, h1, h3⟩
theorem rng_ok {lo hi : Int} {r : Rf} {H : Hp} : ItOk K (Itr lo (hi - lo).toNat) r H (rg lo hi) := fun r1 H1 st1 e1 s1 => by
  refine ⟨fun i h => ?_, fun i d hd => ?_⟩
  · show (hi - lo).toNat ≤ i
    simpa [rg] using h
  · unfold rg at hd
    rw [List.getElem?_map] at hd
    obtain ⟨c, hc, e⟩ := Option.map_eq_some_iff.mp hd
    subst e
    obtain ⟨h1, h2⟩ := List.getElem?_eq_some_iff.mp hc
    rw [List.getElem_range] at h2
    subst h2
    refine ⟨by show i < (hi - lo).toNat; simpa using h1, fun x H2 ⟨e, y⟩ => ?_⟩
    subst e
    subst y
    exact ⟨r1, .refl _ _, s1, .int _⟩
theorem di_range1 {a : Expr} {fa : FA} {p pos : Pos} (hg : Gl X "range") (hm : X.mg "range" = none) (ha : DA X [a] fa) (hs : starEach [a] X.env = [(false, eval a X.env)] := by rfl) : DI X tg (.Call (.Name "range" p) [a] [] pos) (iOfA asR1 fa) := weakI (pi_range1 hg hm ha hs) fun σ H R hh => by
  obtain ⟨r, env, st, ds, st', he, hs, hf, q⟩ := hh
  obtain ⟨d, h1, h2⟩ := iOfA_some hf
  refine ⟨r, env, st, d, st', he, hs, h1, fun v r1 H1 e1 q1 p1 => ?_⟩
  unfold asR1 at h2
  split at h2
  · rename_i n
    split at h2
    · rename_i hn
      cases h2
      cases p1 with
      | cons pa pb =>
        cases pa
        cases pb
        refine ⟨n, rfl, hn.1, hn.2, q _ r1 H1 e1 q1 ?_⟩
        have z : (n - 0).toNat = n.toNat := by rw [Int.sub_zero]
        have := rng_ok (K := X.K) (lo := 0) (hi := n) (r := r1) (H := H1)
        rw [z] at this
        exact this
    · cases h2
  · cases h2
theorem di_range2 {a b : Expr} {fa : FA} {p pos : Pos} (hg : Gl X "range") (hm : X.mg "range" = none) (ha : DA X [a, b] fa) (hs : starEach [a, b] X.env = [(false, eval a X.env), (false, eval b X.env)] := by rfl) (hs2 : starEach [b] X.env = [(false, eval b X.env)] := by rfl) :
    DI X tg (.Call (.Name "range" p) [a, b] [] pos) (iOfA asR2 fa) := weakI (pi_range2 hg hm ha hs hs2) fun σ H R hh => by
  obtain ⟨r, env, st, ds, st', he, hs, hf, q⟩ := hh
  obtain ⟨d, h1, h2⟩ := iOfA_some hf
  refine ⟨r, env, st, d, st', he, hs, h1, fun v r1 H1 e1 q1 p1 => ?_⟩
  unfold asR2 at h2
  split at h2
  · rename_i i n
    split at h2
    · rename_i hn
      cases h2
      cases p1 with
      | cons pa pb =>
        cases pa
        cases pb with
        | cons pc pd =>
          cases pc
          cases pd
          exact ⟨i, n, rfl, ⟨hn.1.1, hn.1.2, hn.2.1, hn.2.2⟩, q _ r1 H1 e1 q1 rng_ok⟩
    · cases h2
  · cases h2
/-- for i, x in enumerate(xs) -/
def pairUp : Nat → List D → List D
  | _, [] => []
  | n, d :: ds => .tup [.int (n : Int), d] :: pairUp (n + 1) ds
def asEn : List D → Option (List D) | [.lst ds] => some (pairUp 0 ds) | _ => none
end

/-! ### for -/
def loopS (tg : FG) (body : FS) : List D → Lo → Store → Option (Out × Lo × Store)
  | [], env, st => some (.nx, env, st)
  | d :: ds, env, st => (tg d env).bind fun e1 => (body e1 st).bind fun p => match p with
    | (.nx, e2, s2) => loopS tg body ds e2 s2
    | (.ct, e2, s2) => loopS tg body ds e2 s2
    | (.bk, e2, s2) => some (.nx, e2, s2)
    | (.rt v, e2, s2) => some (.rt v, e2, s2)
    | (.er c f v, e2, s2) => some (.er c f v, e2, s2)
def sFor (fi : FI) (tg : FG) (body : FS) : FS := fun env st => (fi env st).bind fun p => loopS tg body p.1 env p.2
section
variable {X : Cx} {W : WXd} {tg iter : Expr}
theorem ds_forR {RR : RD} {body : List Stmt} {fi : FI} {g : FG} {b : FS} {pos : Pos} (hp : PassesOwn (model X.prog X.w) X.A X.env X.xe) (hc : X.calm = true) (hi : DIR X RR tg iter fi) (hg : DGR X RR tg g) (hb : DSs X W body b)
    (hs : ∀ x, foldedSetIterable iter X.env x = pure x := by intro _; rfl) : DS X W (.For tg iter body [] pos) (sFor fi g b) := weakS (ps_for hp hc hi hg hb hs) fun D' σ H hh => by
  obtain ⟨r, env, st, o, env', st', he, hs, hf, q⟩ := hh
  obtain ⟨⟨ds, s1⟩, h1, h2⟩ := Option.bind_eq_some_iff.mp hf
  refine ⟨r, env, st, ds, s1, he, hs, h1, fun J r1 H1 e1 q1 j1 => ?_⟩
  refine ⟨fun i m σ2 H2 => m = ds.length - i ∧ i ≤ ds.length ∧ ∃ r2 env2 st2, Ext r1 H1 r2 H2 ∧ EnvR X.K r2 H2 env2 σ2 ∧ Sim X.K r2 H2 st2 ∧ loopS g b (ds.drop i) env2 st2 = some (o, env', st'),
    ⟨_, rfl, Nat.zero_le _, r1, env, s1, .refl _ _, he.ext e1, q1, h2⟩, ?_⟩
  rintro i m σ2 H2 ⟨rfl, hi, r2, env2, st2, e2, he2, hs2, h3⟩
  obtain ⟨jst, jgo⟩ := j1 r2 H2 st2 e2 hs2
  by_cases hlt : i < ds.length
  · have hd : ds[i]? = some ds[i] := List.getElem?_eq_getElem hlt
    rw [List.drop_eq_getElem_cons hlt] at h3
    obtain ⟨env3, g1, h4⟩ := Option.bind_eq_some_iff.mp h3
    obtain ⟨⟨o4, env4, st4⟩, g2, h5⟩ := Option.bind_eq_some_iff.mp h4
    obtain ⟨j2, j3⟩ := jgo i _ hd
    refine .inr ⟨j2, fun σ' H' => i + 1 ≤ ds.length ∧ ∃ r2 env2 st2, Ext r1 H1 r2 H' ∧ EnvR X.K r2 H' env2 σ' ∧ Sim X.K r2 H' st2 ∧ loopS g b (ds.drop (i + 1)) env2 st2 = some (o, env', st'),
      fun σ' H' ⟨hi', w⟩ => ⟨ds.length - (i + 1), by omega, rfl, hi', w⟩, fun x H3 y => ?_⟩
    obtain ⟨r3, e3, hs3, rx⟩ := j3 x H3 y
    refine ⟨r3, env2, ds[i], env3, he2.ext e3, rx, g1, fun σ3 he3 => ⟨r3, env3, st2, o4, env4, st4, he3, hs3, g2, ?_⟩⟩
    cases o4 with
    | nx => exact fun σ' r' H' e' a c => ⟨by omega, r', env4, st4, (e2.trans e3).trans e', a, c, h5⟩
    | ct => exact fun σ' r' H' e' a c => ⟨by omega, r', env4, st4, (e2.trans e3).trans e', a, c, h5⟩
    | bk =>
      cases h5
      exact fun σ' r' H' e' a c => q σ' r' H' (((e1.trans e2).trans e3).trans e') a c
    | rt v =>
      cases h5
      exact fun v r' H' e' a c => q v r' H' (((e1.trans e2).trans e3).trans e') a c
    | er c' f' v =>
      cases h5
      exact fun σ' r' H' C dd e' a c z => q σ' r' H' C dd (((e1.trans e2).trans e3).trans e') a c z
  · have e : i = ds.length := by omega
    subst e
    rw [List.drop_length] at h3
    cases h3
    exact .inl ⟨jst _ (Nat.le_refl _), q σ2 r2 H2 (e1.trans e2) he2 hs2⟩
end

section
variable {X : Cx} {W : WXd} {tg iter : Expr}
theorem ds_for {body : List Stmt} {fi : FI} {g : FG} {b : FS} {pos : Pos} (hp : PassesOwn (model X.prog X.w) X.A X.env X.xe) (hc : X.calm = true) (hi : DI X tg iter fi) (hg : DG X tg g) (hb : DSs X W body b)
    (hs : ∀ x, foldedSetIterable iter X.env x = pure x := by intro _; rfl) : DS X W (.For tg iter body [] pos) (sFor fi g b) := ds_forR hp hc hi hg hb hs
end
/-! ### a new object that is being made: hidden, then shown as a value, or taken into the store -/
def Rf.hide (r : Rf) (p : Addr) : Rf := ⟨r.adr, fun a => r.av a ∨ a = p, r.lk⟩
def Rf.shown (r : Rf) (p : Addr) : Rf := ⟨r.adr, fun a => r.av a ∧ a ≠ p, r.lk⟩
def Rf.add (r : Rf) (p : Addr) : Rf := ⟨r.adr ++ [p], r.av, r.lk⟩
structure Hid (K : PySem.W.Frag) (r : Rf) (H : Hp) (st : Store) (p : Addr) : Prop where
  av : r.av p
  na : p ∉ r.adr
  nl : ¬ r.lk p
  sim : Sim K r H st
theorem hideNew {r : Rf} {H : Hp} {st : Store} {p : Addr} {o : HO} (q1 : Sim K r H st) (hD : H p = none) : Ext r H (r.hide p) (upd H p o) ∧ Hid K (r.hide p) (upd H p o) st p := by
  have e0 : Ext r H (r.hide p) (upd H p o) := ⟨⟨⟨[], by simp [Rf.hide]⟩, fun a x h _ => same_alloc hD a x h, fun a h n => by
    rcases h with h | h
    · exact absurd h n
    · rw [h]; exact hD⟩, fun a b c => ⟨by obtain ⟨o, h⟩ := q1.there a b; rw [h]; exact same_alloc hD a o h, .inl b, c⟩, fun _ => Iff.rfl, fun a b => by obtain ⟨o, u, h⟩ := q1.lkd a b; rw [h]; exact same_alloc hD a _ h⟩
  refine ⟨e0, .inr rfl, fun z => ?_, fun z => ?_, q1.len, q1.nd, fun n a x h1 h2 => (q1.ob n a x h1 h2).ex e0.toEx (fun v => ⟨?_, .inl v⟩), fun a v => ?_, fun a v => ?_, fun a v => ?_⟩
  · obtain ⟨x, y⟩ := q1.old p z
    rw [hD] at y; cases y
  · obtain ⟨o, u, y⟩ := q1.lkd p z
    rw [hD] at y; cases y
  · obtain ⟨x, z⟩ := q1.there a v
    rw [z]; exact same_alloc hD a x z
  · rcases v with v | v
    · obtain ⟨x, z⟩ := q1.there a v
      exact ⟨x, same_alloc hD a x z⟩
    · exact ⟨_, by rw [v]; exact upd_same⟩
  · obtain ⟨x, z⟩ := q1.old a v
    exact ⟨x, same_alloc hD a x z⟩
  · obtain ⟨o, u, z⟩ := q1.lkd a v
    exact ⟨o, u, same_alloc hD a _ z⟩
theorem Hid.ext {r r' : Rf} {H H' : Hp} {st st' : Store} {p : Addr} (h : Hid K r H st p) (e : Ext r H r' H') (s : Sim K r' H' st') : Hid K r' H' st' p ∧ H' p = H p :=
  let ⟨a, b, c⟩ := e.hid p h.av h.na; ⟨⟨b, c, fun z => h.nl ((e.hd.lke p).mp z), s⟩, a⟩
/-- the hidden object is taken into the store -/
theorem Hid.add {r r0 : Rf} {H H0 : Hp} {st st0 : Store} {p : Addr} {o : HO} {ob : Ob} (h : Hid K r H st p) (e : Ext r0 H0 r H) (q0 : Sim K r0 H0 st0) (hn : H0 p = none) (hob : ObR K (r.add p) (upd H p o) p ob) :
    Ext r0 H0 (r.add p) (upd H p o) ∧ Sim K (r.add p) (upd H p o) (st ++ [ob]) ∧ ∀ d, d = D.ref st.length → Rep K (r.add p) (upd H p o) (.ref p) d := by
  have ex : Ex r H (r.add p) (upd H p o) := ⟨⟨[p], rfl⟩, fun q x z n => by rw [upd_ne (fun y => n (by rw [y]; exact h.av))]; exact z, fun q z n => absurd z n⟩
  have nlk : ∀ q, r.lk q → q ≠ p := fun q z y => h.nl (by rw [← y]; exact z)
  refine ⟨⟨e.toEx.trans ex, fun q a b => ?_, e.hd.lke, fun q z => by rw [upd_ne (nlk q ((e.hd.lke q).mpr z))]; exact e.hd.lks q z⟩, ⟨?_, ?_, fun n a x h1 h2 => ?_, fun q v => ?_, fun q v => ?_, fun q v => ?_⟩, fun d hd => ?_⟩
  · obtain ⟨z1, z2, z3⟩ := e.hid q a b
    have nq : q ≠ p := fun y => by
      obtain ⟨x, z⟩ := q0.there q a
      rw [y, hn] at z; cases z
    exact ⟨by rw [upd_ne nq]; exact z1, z2, fun z => by
      rcases List.mem_append.mp z with z | z
      · exact z3 z
      · exact nq (List.mem_singleton.mp z)⟩
  · show (r.adr ++ [p]).length = (st ++ [ob]).length
    rw [List.length_append, List.length_append, h.sim.len]; rfl
  · exact List.nodup_append.mpr ⟨h.sim.nd, by simp, fun a ha b hb e => h.na (by rw [List.mem_singleton.mp hb] at e; rw [← e]; exact ha)⟩
  · by_cases hlt : n < r.adr.length
    · have h1' : r.adr[n]? = some a := by
        have : (r.adr ++ [p])[n]? = some a := h1
        rwa [List.getElem?_append_left hlt] at this
      have h2' : st[n]? = some x := by rwa [List.getElem?_append_left (by rw [← h.sim.len]; exact hlt)] at h2
      exact (h.sim.ob n a x h1' h2').ex ex fun v => ⟨by rw [upd_ne (fun y => h.na (by rw [← y]; exact List.mem_of_getElem? h1'))], v⟩
    · have hl : n = r.adr.length := by
        have : n < (r.adr ++ [p]).length := (List.getElem?_eq_some_iff.mp (show (r.adr ++ [p])[n]? = some a from h1)).1
        rw [List.length_append, List.length_singleton] at this
        omega
      have e1 : a = p := by
        have : (r.adr ++ [p])[n]? = some a := h1
        rw [hl, List.getElem?_append_right (Nat.le_refl _), Nat.sub_self] at this
        exact (Option.some.inj this).symm
      have e2 : x = ob := by
        rw [hl, h.sim.len, List.getElem?_append_right (Nat.le_refl _), Nat.sub_self] at h2
        exact (Option.some.inj h2).symm
      rw [e1, e2]; exact hob
  · by_cases z : q = p
    · exact ⟨_, by rw [z]; exact upd_same⟩
    · rw [upd_ne z]; exact h.sim.there q v
  · by_cases z : q = p
    · exact ⟨_, by rw [z]; exact upd_same⟩
    · rw [upd_ne z]
      rcases List.mem_append.mp v with v | v
      · exact h.sim.old q v
      · exact absurd (List.mem_singleton.mp v) z
  · rw [upd_ne (nlk q v)]; exact h.sim.lkd q v
  · subst hd
    refine .ref ?_
    show (r.adr ++ [p])[st.length]? = some p
    rw [← h.sim.len, List.getElem?_append_right (Nat.le_refl _), Nat.sub_self]; rfl
/-! ### list comprehensions of one clause, the target one name or several (slots is) -/
def setL {α : Type} : List Nat → List α → List (Option α) → List (Option α)
  | i :: is, v :: vs, σ => setL is vs (σ.set i (some v))
  | _, _, σ => σ
theorem setL_length {α : Type} : ∀ (is : List Nat) (vs : List α) (σ : List (Option α)), (setL is vs σ).length = σ.length
  | [], _, _ => rfl
  | _ :: _, [], _ => rfl
  | i :: is, v :: vs, σ => by unfold setL; rw [setL_length is vs, List.length_set]
theorem setL_out {α : Type} {j : Nat} : ∀ (is : List Nat) (vs : List α) (σ : List (Option α)), j ∉ is → (setL is vs σ)[j]? = σ[j]?
  | [], _, _, _ => rfl
  | _ :: _, [], _, _ => rfl
  | i :: is, v :: vs, σ, h => by
    unfold setL
    rw [setL_out is vs _ (fun z => h (List.mem_cons_of_mem _ z)), List.getElem?_set_ne (fun z => h (by rw [z]; exact List.mem_cons_self))]
theorem wipe_in {σ : L2.St} {j : Nat} : ∀ {is : List Nat}, j ∈ is → (wipe σ is)[j]? = σ[j]?.map fun _ => none
  | [], h => by cases h
  | i :: is, h => by
    unfold wipe
    by_cases z : i = j
    · subst z
      by_cases hi : i < σ.length
      · rw [List.getElem?_set_self (by rw [wipe_length]; exact hi), List.getElem?_eq_getElem hi]; rfl
      · rw [List.getElem?_eq_none (by rw [List.length_set, wipe_length]; omega), List.getElem?_eq_none (by omega)]; rfl
    · rw [List.getElem?_set_ne z]
      rcases List.mem_cons.mp h with e | e
      · exact absurd e.symm z
      · exact wipe_in e
theorem wipe_setL (σ : L2.St) (is : List Nat) (vs : List V) : wipe (setL is vs (wipe σ is)) is = wipe σ is := by
  refine List.ext_getElem? fun j => ?_
  by_cases h : j ∈ is
  · rw [wipe_in h]
    by_cases hj : j < σ.length
    · have h1 : j < (setL is vs (wipe σ is)).length := by rw [setL_length, wipe_length]; exact hj
      have h2 : j < (wipe σ is).length := by rw [wipe_length]; exact hj
      rw [List.getElem?_eq_getElem h1, wipe_in h, List.getElem?_eq_getElem hj]; rfl
    · rw [List.getElem?_eq_none (by rw [setL_length, wipe_length]; omega), List.getElem?_eq_none (by rw [wipe_length]; omega)]; rfl
  · rw [wipe_out h, setL_out is vs _ h]
/-- the slots of a block's own names, forgotten -/
def wipeL (env : Lo) : List Nat → Lo
  | [] => env
  | i :: is => (wipeL env is).set i none
theorem EnvR.wipeL {r : Rf} {H : Hp} {env : Lo} {σ : L2.St} (h : EnvR K r H env σ) : ∀ is : List Nat, EnvR K r H (DL.wipeL env is) (L2.wipe σ is)
  | [] => h
  | i :: is => EnvR.wipe (EnvR.wipeL h is) i
theorem EnvR.setL {r : Rf} {H : Hp} : ∀ {is : List Nat} {vs : List V} {ds : List D} {env : Lo} {σ : L2.St}, EnvR K r H env σ → RepL K r H vs ds → EnvR K r H (DL.setL is ds env) (DL.setL is vs σ)
  | [], _, _, _, _, h, _ => h
  | _ :: _, _, _, _, _, h, .nil => h
  | i :: is, _ :: _, _ :: _, env, σ, h, .cons a b => by
    have := EnvR.setL (is := is) (EnvR.set h a i) b
    exact this
/-- how a target takes an item -/
abbrev FB := D → Option (List D)
def b1 : FB := fun d => some [d]
def bT (n : Nat) : FB := fun d => match d with | .tup ds => if ds.length = n then some ds else none | _ => none
def loopC (is : List Nat) (bd : FB) (t : FT) (f : F) : List D → Lo → Store → Option (List D × Store)
  | [], _, st => some ([], st)
  | d :: ds, env, st => (bd d).bind fun vs => (t (setL is vs env) st).bind fun p => if p.1 = true then (f (setL is vs env) p.2).bind fun q => (loopC is bd t f ds env q.2).map fun z => (q.1 :: z.1, z.2) else loopC is bd t f ds env p.2
def fComp (fi : FI) (is : List Nat) (bd : FB) (t : FT) (f : F) : F := fun env st => (fi env st).bind fun p => (loopC is bd t f p.1 (wipeL env is) p.2).bind fun q => if q.1.length ≤ sizeLine then some (.lst q.1, q.2) else none
/-- a raw target -/
def TgOkR (K : PySem.W.Frag) (R : RD) (g : TG) (is : List Nat) (bd : FB) : Prop := ∀ r H x d σ (Q : L2.St → Hp → Prop) vals, R r H x d → bd d = some vals → (∀ vs, RepL K r H vs vals → Q (setL is vs σ) H) → g x σ H Q
abbrev TgOk (K : PySem.W.Frag) (g : TG) (is : List Nat) (bd : FB) : Prop := TgOkR K (Rep K) g is bd
theorem tg1 (i : Nat) : TgOk K (gName i) [i] b1 := fun r H x d σ Q vals hr hb q => by
  cases hb
  exact q [x] (.cons hr .nil)
def tTrue : FT := fun _ st => some (true, st)
abbrev DTs (X : Cx) (ifs : List Expr) (t : FT) : Prop := PTs X ifs (tT X.K t)
section
variable {X : Cx} {W : WXd} {tg iter : Expr}
theorem weakTs {ifs : List Expr} {t t' : TT} (h : PTs X ifs t) (i : ∀ σ H Q, t' σ H Q → t σ H Q) : PTs X ifs t' := ⟨fun pins s σ H Q I q => h.run pins s σ H Q I (i σ H Q q)⟩
theorem dts_nil : DTs X [] tTrue := weakTs pts_nil fun σ H Q hh => by
  obtain ⟨r, env, st, b, st', he, hs, hf, q⟩ := hh
  cases hf
  exact q r H (.refl r H) hs
theorem dts_one {c : Expr} {t : FT} (h : DT X c t) : DTs X [c] t := pts_one h
/-- the object p is being made since (r1, H1): nothing leans on it -/
structure Mkg (K : PySem.W.Frag) (r1 : Rf) (H1 : Hp) (p : Addr) (r : Rf) (H : Hp) (st : Store) : Prop where
  ex : Ext r1 H1 r H
  av : r.av p
  na : p ∉ r.adr
  nl : ¬ r.lk p
  sim : Sim K r H st
theorem EnvR.exx {r r' : Rf} {H H' : Hp} {env : Lo} {σ : L2.St} (h : EnvR K r H env σ) (e : Ex r H r' H') : EnvR K r' H' env σ := ⟨h.len, fun j dd z => let ⟨v, a, b⟩ := h.at_ j dd z; ⟨v, a, b.ex e⟩⟩
theorem Mkg.start {r1 : Rf} {H1 : Hp} {s1 : Store} {p : Addr} {o : HO} (q1 : Sim K r1 H1 s1) (hD : H1 p = none) : Mkg K r1 H1 p (r1.hide p) (upd H1 p o) s1 :=
  let ⟨e0, hd0⟩ := hideNew (o := o) q1 hD; ⟨e0, hd0.av, hd0.na, hd0.nl, hd0.sim⟩
theorem Mkg.step {r1 r r' : Rf} {H1 H H' : Hp} {st st' : Store} {p : Addr} (m : Mkg K r1 H1 p r H st) (e : Ext r H r' H') (s : Sim K r' H' st') : Mkg K r1 H1 p r' H' st' ∧ H' p = H p :=
  let ⟨a, b, c⟩ := e.hid p m.av m.na; ⟨⟨m.ex.trans e, b, c, fun z => m.nl ((e.hd.lke p).mp z), s⟩, a⟩
theorem Mkg.put {r1 r : Rf} {H1 H : Hp} {st s1 : Store} {p : Addr} (m : Mkg K r1 H1 p r H st) (q1 : Sim K r1 H1 s1) (hD : H1 p = none) (o : HO) : Mkg K r1 H1 p r (upd H p o) st ∧ Ex r H r (upd H p o) := by
  have e : Ex r H r (upd H p o) := ⟨⟨[], by simp⟩, fun a x h n => by rw [upd_ne (fun z => n (by rw [z]; exact m.av))]; exact h, fun a h n => absurd h n⟩
  have av0 : ∀ a, r1.av a → a ≠ p := fun a h z => by
    obtain ⟨x, y⟩ := q1.there a h
    rw [z, hD] at y; cases y
  have lk0 : ∀ a, r1.lk a → a ≠ p := fun a h z => by
    obtain ⟨x, u, y⟩ := q1.lkd a h
    rw [z, hD] at y; cases y
  refine ⟨⟨⟨m.ex.toEx.trans e, fun a h n => ?_, m.ex.hd.lke, fun a h => ?_⟩, m.av, m.na, m.nl, m.sim.len, m.sim.nd, fun n a x h1 h2 => (m.sim.ob n a x h1 h2).ex e fun v => ⟨?_, v⟩, fun a v => ?_, fun a v => ?_, fun a v => ?_⟩, e⟩
  · obtain ⟨z1, z2, z3⟩ := m.ex.hid a h n
    exact ⟨by rw [upd_ne (av0 a h)]; exact z1, z2, z3⟩
  · rw [upd_ne (lk0 a h)]; exact m.ex.hd.lks a h
  · rw [upd_ne (fun z => m.na (by rw [← z]; exact List.mem_of_getElem? h1))]
  · by_cases z : a = p
    · exact ⟨_, by rw [z]; exact upd_same⟩
    · rw [upd_ne z]; exact m.sim.there a v
  · by_cases z : a = p
    · exact ⟨_, by rw [z]; exact upd_same⟩
    · rw [upd_ne z]; exact m.sim.old a v
  · rw [upd_ne (fun z => m.nl (by rw [← z]; exact v))]; exact m.sim.lkd a v
theorem Mkg.show {r1 r : Rf} {H1 H : Hp} {st s1 : Store} {p : Addr} (m : Mkg K r1 H1 p r H st) (q1 : Sim K r1 H1 s1) (hD : H1 p = none) : Ext r1 H1 (r.shown p) H ∧ Sim K (r.shown p) H st ∧ Ex r H (r.shown p) H := by
  have es : Ex r H (r.shown p) H := ⟨⟨[], by simp [Rf.shown]⟩, fun p o h _ => h, fun p h n => absurd h.1 n⟩
  refine ⟨⟨⟨m.ex.pre, fun a o h n => m.ex.keep a o h n, fun a h n => m.ex.new a h.1 n⟩, fun a h n => ?_, m.ex.hd.lke, m.ex.hd.lks⟩, ⟨m.sim.len, m.sim.nd, fun n a o h1 h2 => (m.sim.ob n a o h1 h2).ex es fun v => ⟨rfl, v, fun z => m.na (by rw [← z]; exact List.mem_of_getElem? h1)⟩, fun a v => m.sim.there a v.1, m.sim.old, m.sim.lkd⟩, es⟩
  obtain ⟨z1, z2, z3⟩ := m.ex.hid a h n
  exact ⟨z1, ⟨z2, fun z => by
    obtain ⟨x, y⟩ := q1.there a h
    rw [z, hD] at y; cases y⟩, z3⟩
theorem compReads {RR : RD} {fi : FI} {is : List Nat} {bd : FB} {g : TG} {t : FT} {f : F} (hg : TgOkR K RR g is bd) (σ : L2.St) (H : Hp) (Q : VK) (hh : tD K (fComp fi is bd t f) σ H Q) : tLc (tIR K RR fi) g (tT K t) (tD K f) is σ H Q := by
  obtain ⟨r, env, st, d, st', he, hs, hf, q⟩ := hh
  obtain ⟨⟨ds, s1⟩, h1, h2⟩ := Option.bind_eq_some_iff.mp hf
  obtain ⟨⟨zs, s2⟩, h3, h4⟩ := Option.bind_eq_some_iff.mp h2
  by_cases hz : zs.length ≤ sizeLine
  case neg => rw [if_neg hz] at h4; cases h4
  rw [if_pos hz] at h4
  cases h4
  refine ⟨r, env, st, ds, s1, he, hs, h1, fun J r1 H1 e1 q1 j1 Dl hD => ?_⟩
  have m0 := Mkg.start (o := .lst []) q1 hD
  refine ⟨fun k m H2 => m = ds.length - k ∧ k ≤ ds.length ∧ ∃ r2 st2 acc us ys, Mkg K r1 H1 Dl r2 H2 st2 ∧ EnvR K r2 H2 (DL.wipeL env is) (wipe σ is) ∧ H2 Dl = some (.lst us) ∧ RepL K r2 H2 us acc ∧
    loopC is bd t f (ds.drop k) (DL.wipeL env is) st2 = some (ys, s2) ∧ acc ++ ys = zs, ⟨_, rfl, Nat.zero_le _, r1.hide Dl, s1, [], [], zs, m0, ((he.ext e1).ext m0.ex).wipeL is, upd_same, .nil, h3, rfl⟩, ?_⟩
  rintro k m H2 ⟨rfl, hk, r2, st2, acc, us, ys, mk, wp, hus, racc, hl, hcat⟩
  obtain ⟨jst, jgo⟩ := j1 r2 H2 st2 mk.ex mk.sim
  by_cases hlt : k < ds.length
  case neg =>
    have e : k = ds.length := by omega
    subst e
    rw [List.drop_length] at hl
    cases hl
    rw [List.append_nil] at hcat
    subst hcat
    obtain ⟨w1, w2, w3⟩ := mk.show q1 hD
    exact .inl ⟨jst _ (Nat.le_refl _), q (.ref Dl) (r2.shown Dl) H2 (e1.trans w1) w2 (.lst hus (fun z => z.2 rfl) (racc.ex w3))⟩
  case pos =>
    have hd : ds[k]? = some ds[k] := List.getElem?_eq_getElem hlt
    rw [List.drop_eq_getElem_cons hlt] at hl
    obtain ⟨vals, hv, hl1⟩ := Option.bind_eq_some_iff.mp hl
    obtain ⟨⟨b, st3⟩, hb, hl2⟩ := Option.bind_eq_some_iff.mp hl1
    obtain ⟨j2, j3⟩ := jgo k _ hd
    refine .inr ⟨j2, fun H' => k + 1 ≤ ds.length ∧ ∃ r2 st2 acc us ys, Mkg K r1 H1 Dl r2 H' st2 ∧ EnvR K r2 H' (DL.wipeL env is) (wipe σ is) ∧ H' Dl = some (.lst us) ∧ RepL K r2 H' us acc ∧
      loopC is bd t f (ds.drop (k + 1)) (DL.wipeL env is) st2 = some (ys, s2) ∧ acc ++ ys = zs, fun H' ⟨hk', w⟩ => ⟨ds.length - (k + 1), by omega, rfl, hk', w⟩, fun x H3 y => ?_⟩
    obtain ⟨r3, e3, s3, rx⟩ := j3 x H3 y
    have wp3 := wp.ext e3
    refine hg r3 H3 x _ _ _ vals rx hv fun vs rvs => ⟨wipe_setL σ is vs, ?_⟩
    · have he3 : EnvR K r3 H3 (DL.setL is vals (DL.wipeL env is)) (DL.setL is vs (wipe σ is)) := wp3.setL rvs
      refine ⟨r3, _, st2, b, st3, he3, s3, hb, fun r4 H4 e4 s4 => ?_⟩
      cases b with
      | false =>
        rw [if_neg Bool.false_ne_true] at hl2 ⊢
        obtain ⟨m4, k4⟩ := mk.step (e3.trans e4) s4
        exact ⟨hlt, r4, st3, acc, us, ys, m4, wp3.ext e4, k4.trans hus, racc.ext (e3.trans e4), hl2, hcat⟩
      | true =>
        rw [if_pos rfl] at hl2 ⊢
        obtain ⟨⟨yd, st4⟩, hy, hl3⟩ := Option.bind_eq_some_iff.mp hl2
        obtain ⟨⟨ys', st5⟩, hl4, hl5⟩ := Option.map_eq_some_iff.mp hl3
        cases hl5
        refine ⟨r4, _, st3, yd, st4, he3.ext e4, s4, hy, fun yv r5 H5 e5 s5 ry => ?_⟩
        have e25 : Ext r2 H2 r5 H5 := (e3.trans e4).trans e5
        obtain ⟨m5, k5⟩ := mk.step e25 s5
        obtain ⟨m6, g1⟩ := m5.put q1 hD (.lst (us ++ [yv]))
        refine ⟨us, k5.trans hus, ?_, hlt, r5, st4, acc ++ [yd], us ++ [yv], ys', m6, ((wp3.ext e4).ext e5).exx g1, upd_same, ((racc.ext e25).ex g1).append (.cons (ry.ex g1) .nil), hl4, by rw [← hcat, List.append_assoc]; rfl⟩
        rw [racc.len]
        have : (acc ++ yd :: ys').length ≤ sizeLine := by rw [hcat]; exact hz
        rw [List.length_append, List.length_cons] at this
        omega
/-- [elt for x in xs if ..] -/
theorem de_lc {RR : RD} {elt : Expr} {ifs : List Expr} {scope : Scope} {own : List (Str × Nat)} {pos : Pos} {fi : FI} {bd : FB} {g : TG} {t : FT} {f : F} (hc : X.calm = true) (hN : X.N.Nodup) (hi : DIR X RR tg iter fi) (ok : BlkOk X.N X.env.scope scope own)
    (tk : TgOkR X.K RR g (own.map (·.2)) bd)
    (hg : ∀ (s : Shared) (H : Hp) (C : Addr) (cl : List (Str × Addr)) (fp : List Addr), PG (X.blk s H scope (compEnvC scope cl C X.env) fp) tg g) (ht : ∀ (s : Shared) (H : Hp) (C : Addr) (cl : List (Str × Addr)) (fp : List Addr), DTs (X.blk s H scope (compEnvC scope cl C X.env) fp) ifs t)
    (he : ∀ (s : Shared) (H : Hp) (C : Addr) (cl : List (Str × Addr)) (fp : List Addr), DE (X.blk s H scope (compEnvC scope cl C X.env) fp) elt f) (hs : ∀ x, foldedSetIterable iter X.env x = pure x := by intro _; rfl) :
    DE X (.ListComp elt [⟨tg, iter, ifs, 0⟩] scope pos) (fComp fi (own.map (·.2)) bd t f) := weakE (pe_lc hc hN hi ok hg ht he hs) fun σ H Q hh => compReads tk σ H Q hh
/-- y = [elt for x in xs if ..] on one line -/
theorem ds_setLc {RR : RD} {i : Nat} {y : Str} {py : Pos} {elt : Expr} {ifs : List Expr} {scope : Scope} {own : List (Str × Nat)} {pos spos : Pos} {fi : FI} {bd : FB} {g : TG} {t : FT} {f : F} (hc : X.calm = true) (hN : X.N.Nodup) (hy : X.N[i]? = some y) (hyl : X.env.scope.names.lookup y = some .local)
    (hsw : swapsWith (.ListComp elt [⟨tg, iter, ifs, 0⟩] scope pos) (some (.Name y py)) spos.line X.env = pure true) (hi : DIR X RR tg iter fi) (ok : BlkOk X.N X.env.scope scope own)
    (tk : TgOkR X.K RR g (own.map (·.2)) bd)
    (hg : ∀ (s : Shared) (H : Hp) (C : Addr) (cl : List (Str × Addr)) (fp : List Addr), PG (X.blk s H scope (compEnvC scope cl C X.env) fp) tg g) (ht : ∀ (s : Shared) (H : Hp) (C : Addr) (cl : List (Str × Addr)) (fp : List Addr), DTs (X.blk s H scope (compEnvC scope cl C X.env) fp) ifs t)
    (he : ∀ (s : Shared) (H : Hp) (C : Addr) (cl : List (Str × Addr)) (fp : List Addr), DE (X.blk s H scope (compEnvC scope cl C X.env) fp) elt f) (hs : ∀ x, foldedSetIterable iter X.env x = pure x := by intro _; rfl) :
    DS X W (.Assign [.Name y py] (.ListComp elt [⟨tg, iter, ifs, 0⟩] scope pos) spos) (sAsg (fComp fi (own.map (·.2)) bd t f) (gN i)) := weakS (ps_setLc hc hN hy hyl hsw hi ok hg ht he hs) fun D' σ H hh => by
  obtain ⟨r, env, st, o, env', st', he, hs, hf, q⟩ := hh
  obtain ⟨⟨d, s1⟩, h1, h2⟩ := Option.bind_eq_some_iff.mp hf
  obtain ⟨e1, h3, h4⟩ := Option.map_eq_some_iff.mp h2
  cases h4
  cases h3
  exact compReads tk σ H _ ⟨r, env, st, d, _, he, hs, h1, fun v r1 H1 x1 q1 p1 => q _ r1 H1 x1 ((he.ext x1).set p1 i) q1⟩
end
end DL
namespace DL
open PySem PySem.Spec PyProof.Rows L2
open Builtin.Int (intBits)
variable {K : PySem.W.Frag}
/-- a rule by kinds: one of several -/
def R2Ok (K : PySem.W.Frag) (r : R2) (g : D → D → Option D) : Prop :=
  ∀ (rho : Rf) (H : Hp) (x y : V) (a b d : D) (st : Store) (Q : VK), Sim K rho H st → Rep K rho H x a → Rep K rho H y b → g a b = some d → (∀ v H', Same H H' → Rep K rho H' v d → Q v H') → r x y H Q
section
variable {X : Cx} {W : WXd}
/-- the first of two functions that answers -/
def orD (g g' : D → D → Option D) : D → D → Option D := fun a b => (g a b).or (g' a b)
theorem OpOk.or {f : Value → Value → Sem Value} {g g' : D → D → Option D} (h : OpOk X f g) (h' : OpOk X f g') : OpOk X f (orD g g') := by
  obtain ⟨r, hr, k⟩ := h
  obtain ⟨r', hr', k'⟩ := h'
  refine ⟨_, hr.or hr', fun rho H x y a b d st Q si ra rb e q => ?_⟩
  unfold orD at e
  cases z : g a b with
  | some c =>
    rw [z] at e
    cases e
    exact .inl (k rho H x y a b _ st Q si ra rb z q)
  | none =>
    rw [z] at e
    exact .inr (k' rho H x y a b d st Q si ra rb e q)
/-- two ints, under a condition -/
def onI (c : Int → Int → Prop) [∀ i j, Decidable (c i j)] (g : Int → Int → D) : D → D → Option D := fun a b => match a, b with
  | .int i, .int j => if c i j then some (g i j) else none
  | _, _ => none
theorem onI_some {c : Int → Int → Prop} [∀ i j, Decidable (c i j)] {g : Int → Int → D} {a b d : D} (h : onI c g a b = some d) : ∃ i j, a = .int i ∧ b = .int j ∧ c i j ∧ d = g i j := by
  cases a <;> cases b <;> first
    | cases h; done
    | skip
  rename_i i j
  have h' : (if c i j then some (g i j) else none) = some d := h
  by_cases z : c i j
  · rw [if_pos z] at h'
    cases h'
    exact ⟨i, j, rfl, rfl, z, rfl⟩
  · rw [if_neg z] at h'
    cases h'
theorem ok_int {f : Value → Value → Sem Value} {c C : Int → Int → Prop} [∀ i j, Decidable (c i j)] {g : Int → Int → Int} (h : OpR X f (rI C fun i j => .int (g i j))) (hc : ∀ i j, c i j → C i j) : OpOk X f (onI c fun i j => .int (g i j)) :=
  ⟨_, h, fun rho H x y a b d st Q si ra rb e q => by
    obtain ⟨i, j, rfl, rfl, z, rfl⟩ := onI_some e
    cases ra
    cases rb
    exact ⟨i, j, rfl, rfl, hc i j z, q _ H (fun _ _ h => h) (.int _)⟩⟩
theorem ok_int0 {f : Value → Value → Sem Value} {g : Int → Int → Int} (h : OpR X f (rI0 fun i j => .int (g i j))) : OpOk X f (onI (fun _ _ => True) fun i j => .int (g i j)) :=
  ⟨_, h, fun rho H x y a b d st Q si ra rb e q => by
    obtain ⟨i, j, rfl, rfl, z, rfl⟩ := onI_some e
    cases ra
    cases rb
    exact ⟨i, j, rfl, rfl, q _ H (fun _ _ h => h) (.int _)⟩⟩
theorem ok_intB {f : Value → Value → Sem Value} {g : Int → Int → Bool} (h : OpR X f (rI0 fun i j => .bl (g i j))) : OpOk X f (onI (fun _ _ => True) fun i j => .bl (g i j)) :=
  ⟨_, h, fun rho H x y a b d st Q si ra rb e q => by
    obtain ⟨i, j, rfl, rfl, z, rfl⟩ := onI_some e
    cases ra
    cases rb
    exact ⟨i, j, rfl, rfl, q _ H (fun _ _ h => h) (.bl _)⟩⟩
/-- two texts -/
def onS (c : Str → Str → Prop) [∀ i j, Decidable (c i j)] (g : Str → Str → D) : D → D → Option D := fun a b => match a, b with
  | .str i, .str j => if c i j then some (g i j) else none
  | _, _ => none
theorem onS_some {c : Str → Str → Prop} [∀ i j, Decidable (c i j)] {g : Str → Str → D} {a b d : D} (h : onS c g a b = some d) : ∃ i j, a = .str i ∧ b = .str j ∧ c i j ∧ d = g i j := by
  cases a <;> cases b <;> first
    | cases h; done
    | skip
  rename_i i j
  have h' : (if c i j then some (g i j) else none) = some d := h
  by_cases z : c i j
  · rw [if_pos z] at h'
    cases h'
    exact ⟨i, j, rfl, rfl, z, rfl⟩
  · rw [if_neg z] at h'
    cases h'

/-! ### + - * // % ** -/
def addI : D → D → Option D := onI (fun _ _ => True) fun i j => .int (i + j)
theorem ok_addI : OpOk X (binaryOp .Add) addI := ok_int0 op_add
def subI : D → D → Option D := onI (fun _ _ => True) fun i j => .int (i - j)
theorem ok_subI : OpOk X (binaryOp .Sub) subI := ok_int0 op_sub
def mulI : D → D → Option D := onI (fun i j => intBits i + intBits j ≤ 134217728) fun i j => .int (i * j)
theorem op_mulL : OpR X (binaryOp .Mult) (rI IntMulOk fun i j => .int (i * j)) := opI fun _ _ _ _ _ _ _ hc q => mul_int q hc
theorem ok_mulI : OpOk X (binaryOp .Mult) mulI := ok_int op_mulL fun i j h => IntMulOk.of_le (Nat.le_refl _) (Nat.le_refl _) h
def fdivI : D → D → Option D := onI (fun _ j => 0 < j ∧ j < 1073741824) fun i j => .int (i / j)
theorem ok_fdivI : OpOk X (binaryOp .FloorDiv) fdivI := ok_int op_fdiv fun i j h => h
def modI : D → D → Option D := onI (fun _ j => 0 < j) fun i j => .int (i % j)
theorem ok_modI : OpOk X (binaryOp .Mod) modI := ok_int op_mod fun i j h => h
def powI : D → D → Option D := onI (fun i j => 0 ≤ j ∧ (intBits i : Int) * j ≤ 2 ^ 27) fun i j => .int (i ^ j.toNat)
theorem op_powL : OpR X (binaryOp .Pow) (rI (fun i j => 0 ≤ j ∧ (intBits i : Int) * j ≤ 2 ^ 27) fun i j => .int (i ^ j.toNat)) := opI fun _ _ _ _ _ _ _ hc q => pow_int hc.1 hc.2 q
theorem ok_powI : OpOk X (binaryOp .Pow) powI := ok_int op_powL fun i j h => h
def addS : D → D → Option D := onS (fun i j => i.length + j.length ≤ sizeLine) fun i j => .str (i ++ j)
theorem ok_addS : OpOk X (binaryOp .Add) addS := ⟨_, op_add_str, fun rho H x y a b d st Q si ra rb e q => by
  obtain ⟨i, j, rfl, rfl, z, rfl⟩ := onS_some e
  cases ra
  cases rb
  exact ⟨i, j, rfl, rfl, z, q _ H (fun _ _ h => h) (.str _)⟩⟩
def addL : D → D → Option D := fun a b => match a, b with
  | .lst xs, .lst ys => if xs.length + ys.length ≤ sizeLine then some (.lst (xs ++ ys)) else none
  | _, _ => none
theorem ok_addL : OpOk X (binaryOp .Add) addL := ⟨_, op_cat, fun rho H x y a b d st Q si ra rb e q => by
  cases a <;> cases b <;> first
    | cases e; done
    | skip
  rename_i xs ys
  have e' : (if xs.length + ys.length ≤ sizeLine then some (D.lst (xs ++ ys)) else none) = some d := e
  by_cases z : xs.length + ys.length ≤ sizeLine
  · rw [if_pos z] at e'
    cases e'
    cases ra with
    | lst a1 a2 a3 =>
      cases rb with
      | lst b1 b2 b3 =>
        refine ⟨_, _, _, _, rfl, rfl, a1, b1, by rw [a3.len, b3.len]; exact z, fun p hp => ?_⟩
        exact q _ _ (same_alloc hp) (.lst upd_same (si.free hp) ((a3.append b3).ex (Ex.same rho (same_alloc hp))))
  · rw [if_neg z] at e'
    cases e'⟩
/-- t + u -/
def addT : D → D → Option D := fun a b => match a, b with
  | .tup xs, .tup ys => if xs.length + ys.length ≤ sizeLine then some (.tup (xs ++ ys)) else none
  | _, _ => none
theorem ok_addT : OpOk X (binaryOp .Add) addT := ⟨_, op_catF, fun rho H x y a b d st Q si ra rb e q => by
  cases a <;> cases b <;> first
    | cases e; done
    | skip
  rename_i xs ys
  have e' : (if xs.length + ys.length ≤ sizeLine then some (D.tup (xs ++ ys)) else none) = some d := e
  by_cases z : xs.length + ys.length ≤ sizeLine
  · rw [if_pos z] at e'
    cases e'
    obtain ⟨pa, us, rfl, sa, la⟩ := ra.sqT
    obtain ⟨pb, vs, rfl, sb, lb⟩ := rb.sqT
    refine ⟨pa, pb, us, vs, rfl, rfl, sa, sb, by rw [la.len, lb.len]; exact z, fun h => ?_, fun _ h2 => ?_, fun p o hp hz => ?_⟩
    · subst h
      cases la
      exact q _ H (fun _ _ h => h) rb
    · subst h2
      cases lb
      rw [List.append_nil] at q
      exact q _ H (fun _ _ h => h) ra
    · exact q _ _ (same_alloc hp) (.tup upd_same hz (si.free hp) ((la.append lb).ex (Ex.same rho (same_alloc hp))))
  · rw [if_neg z] at e'
    cases e'⟩
/-- x * n of a text -/
def mulS : D → D → Option D := fun a b => match a, b with
  | .str x, .int n => if 0 ≤ n ∧ n ≤ 1000 ∧ x.length ≤ 1000 then some (.str (Txt.mul x n)) else none
  | _, _ => none
theorem mulOk_small {x : Str} {n : Int} (h0 : 0 ≤ n) (h1 : n ≤ 1000) (h2 : x.length ≤ 1000) : MulOk x n := by
  refine ⟨?_, fun h _ => ?_, fun _ _ => ?_⟩
  · have a : ¬ n < -(2 ^ 63 : Int) := by omega
    have b : ¬ n ≥ 2 ^ 63 := by omega
    rw [decide_eq_false a, decide_eq_false b]; rfl
  · have hn : 0 < n := by omega
    intro z
    have : (2 ^ 63 - 1 : Int) / 1000 ≤ (2 ^ 63 - 1) / n := by
      refine Int.le_ediv_of_mul_le hn ?_
      omega
    omega
  · unfold Builtin.Str.tooLong
    have : x.length * n.toNat ≤ 1000 * 1000 := Nat.mul_le_mul h2 (by omega)
    have hs := sizeLine_eq
    rw [hs]
    exact decide_eq_false (by omega)
theorem op_mulS : OpR X (binaryOp .Mult) (fun x y H Q => ∃ i n, x = .str i ∧ y = .int n ∧ MulOk i n ∧ Q (.str (Txt.mul i n)) H) := by
  intro pins s σ H x y v u Q I rx ry h
  obtain ⟨i, n, rfl, rfl, hz, q⟩ := h
  obtain ⟨t, rfl⟩ := rx
  obtain ⟨t', rfl⟩ := ry
  exact SB.mul hz fun t' k => ⟨.str _, H, I.tok _, ⟨_, rfl⟩, q⟩
theorem ok_mulS : OpOk X (binaryOp .Mult) mulS := ⟨_, op_mulS, fun rho H x y a b d st Q si ra rb e q => by
  cases a <;> cases b <;> first
    | cases e; done
    | skip
  rename_i xs n
  have e' : (if 0 ≤ n ∧ n ≤ 1000 ∧ xs.length ≤ 1000 then some (D.str (Txt.mul xs n)) else none) = some d := e
  by_cases z : 0 ≤ n ∧ n ≤ 1000 ∧ xs.length ≤ 1000
  · rw [if_pos z] at e'
    cases e'
    cases ra
    cases rb
    exact ⟨xs, n, rfl, rfl, mulOk_small z.1 z.2.1 z.2.2, q _ H (fun _ _ h => h) (.str _)⟩
  · rw [if_neg z] at e'
    cases e'⟩
def opAdd : D → D → Option D := orD addI (orD addS (orD addL addT))
theorem ok_add : OpOk X (binaryOp .Add) opAdd := ok_addI.or (ok_addS.or (ok_addL.or ok_addT))
def opMul : D → D → Option D := orD mulI mulS
theorem ok_mul : OpOk X (binaryOp .Mult) opMul := ok_mulI.or ok_mulS

/-! ### comparisons -/
mutual
def toPy : D → Option PyData
  | .non => some .none
  | .bl b => some (.bool b)
  | .int i => some (.int i)
  | .str x => some (.str x)
  | .tup ds => (toPyL ds).map .tuple
  | .lst ds => (toPyL ds).map .list
  | .dct _ => none
  | .scr _ => none
  | .ref _ => none
def toPyL : List D → Option (List PyData)
  | [] => some []
  | d :: ds => (toPy d).bind fun p => (toPyL ds).map fun q => p :: q
end
mutual
theorem Rep.dp {r : Rf} {H : Hp} : ∀ {d : D} {v : V} {p : PyData}, Rep K r H v d → toPy d = some p → Dp K H v p
  | .non, _, _, .non, h => by cases h; exact .non
  | .bl _, _, _, .bl _, h => by cases h; exact .bl _
  | .int _, _, _, .int _, h => by cases h; exact .int _
  | .str _, _, _, .str _, h => by cases h; exact .str _
  | .tup ds, _, p, h, e => by
    obtain ⟨q, h1, h2⟩ := Option.map_eq_some_iff.mp (show (toPyL ds).map PyData.tuple = some p from e)
    subst h2
    obtain ⟨a, xs, rfl, s, l⟩ := h.sqT
    exact .tup s (RepL.dp l h1)
  | .lst ds, _, p, .lst a b c, e => by
    obtain ⟨q, h1, h2⟩ := Option.map_eq_some_iff.mp (show (toPyL ds).map PyData.list = some p from e)
    subst h2
    exact .lst (.of a) (RepL.dp c h1)
  | .dct _, _, _, _, e => by cases e
  | .scr _, _, _, _, e => by cases e
  | .ref _, _, _, _, e => by cases e
theorem RepL.dp {r : Rf} {H : Hp} : ∀ {ds : List D} {vs : List V} {ps : List PyData}, RepL K r H vs ds → toPyL ds = some ps → DpAll K H vs ps
  | [], _, _, .nil, h => by cases h; exact .nil
  | d :: ds, _, ps, .cons a b, h => by
    obtain ⟨p, h1, h2⟩ := Option.bind_eq_some_iff.mp (show ((toPy d).bind fun p => (toPyL ds).map fun q => p :: q) = some ps from h)
    obtain ⟨q, h3, h4⟩ := Option.map_eq_some_iff.mp h2
    subst h4
    exact .cons (Rep.dp a h1) (RepL.dp b h3)
end
def opEq : D → D → Option D := fun a b => (toPy a).bind fun p => (toPy b).bind fun q => if SeqAt.shaped p = true ∧ SeqAt.shaped q = true then some (.bl (PyData.eqv p q)) else none
def opNe : D → D → Option D := fun a b => (toPy a).bind fun p => (toPy b).bind fun q => if SeqAt.shaped p = true ∧ SeqAt.shaped q = true then some (.bl (!PyData.eqv p q)) else none
theorem ok_eq {k : Nat} (g : GX X k) : OpOk X (compareOp .Eq) opEq := ⟨_, op_eqD g.room.units, fun rho H x y a b d st Q si ra rb e q => by
  obtain ⟨p, h1, h2⟩ := Option.bind_eq_some_iff.mp e
  obtain ⟨p2, h3, h4⟩ := Option.bind_eq_some_iff.mp h2
  by_cases z : SeqAt.shaped p = true ∧ SeqAt.shaped p2 = true
  · rw [if_pos z] at h4
    cases h4
    exact ⟨p, p2, ra.dp h1, rb.dp h3, z.1, z.2, q _ H (fun _ _ h => h) (.bl _)⟩
  · rw [if_neg z] at h4
    cases h4⟩
theorem ok_ne {k : Nat} (g : GX X k) : OpOk X (compareOp .NotEq) opNe := ⟨_, op_neD g.room.units, fun rho H x y a b d st Q si ra rb e q => by
  obtain ⟨p, h1, h2⟩ := Option.bind_eq_some_iff.mp e
  obtain ⟨p2, h3, h4⟩ := Option.bind_eq_some_iff.mp h2
  by_cases z : SeqAt.shaped p = true ∧ SeqAt.shaped p2 = true
  · rw [if_pos z] at h4
    cases h4
    exact ⟨p, p2, ra.dp h1, rb.dp h3, z.1, z.2, q _ H (fun _ _ h => h) (.bl _)⟩
  · rw [if_neg z] at h4
    cases h4⟩
def ltI : D → D → Option D := onI (fun _ _ => True) fun i j => .bl (decide (i < j))
def leI : D → D → Option D := onI (fun _ _ => True) fun i j => .bl (decide (i ≤ j))
def gtI : D → D → Option D := onI (fun _ _ => True) fun i j => .bl (decide (j < i))
def geI : D → D → Option D := onI (fun _ _ => True) fun i j => .bl (decide (j ≤ i))
theorem op_gt_str : OpR X (compareOp .Gt) (fun x y H Q => ∃ i j, x = .str i ∧ y = .str j ∧ Q (.bl (decide (j.cps.toList < i.cps.toList))) H) := by
  intro pins s σ H x y v u Q I rx ry h
  obtain ⟨i, j, rfl, rfl, q⟩ := h
  obtain ⟨t, rfl⟩ := rx
  obtain ⟨t', rfl⟩ := ry
  exact PySem.P.gt_str (fin_bl I q rfl)
theorem op_ge_str : OpR X (compareOp .GtE) (fun x y H Q => ∃ i j, x = .str i ∧ y = .str j ∧ Q (.bl (!decide (i.cps.toList < j.cps.toList))) H) := by
  intro pins s σ H x y v u Q I rx ry h
  obtain ⟨i, j, rfl, rfl, q⟩ := h
  obtain ⟨t, rfl⟩ := rx
  obtain ⟨t', rfl⟩ := ry
  exact PySem.P.ge_str (fin_bl I q rfl)
def ltS : D → D → Option D := onS (fun _ _ => True) fun i j => .bl (decide (i.cps.toList < j.cps.toList))
def leS : D → D → Option D := onS (fun _ _ => True) fun i j => .bl (!decide (j.cps.toList < i.cps.toList))
def gtS : D → D → Option D := onS (fun _ _ => True) fun i j => .bl (decide (j.cps.toList < i.cps.toList))
def geS : D → D → Option D := onS (fun _ _ => True) fun i j => .bl (!decide (i.cps.toList < j.cps.toList))
theorem ok_strB {f : Value → Value → Sem Value} {g : Str → Str → Bool} (h : OpR X f (fun x y H Q => ∃ i j, x = .str i ∧ y = .str j ∧ Q (.bl (g i j)) H)) : OpOk X f (onS (fun _ _ => True) fun i j => .bl (g i j)) :=
  ⟨_, h, fun rho H x y a b d st Q si ra rb e q => by
    obtain ⟨i, j, rfl, rfl, z, rfl⟩ := onS_some e
    cases ra
    cases rb
    exact ⟨i, j, rfl, rfl, q _ H (fun _ _ h => h) (.bl _)⟩⟩
def opLt : D → D → Option D := orD ltI ltS
def opLe : D → D → Option D := orD leI leS
def opGt : D → D → Option D := orD gtI gtS
def opGe : D → D → Option D := orD geI geS
theorem ok_lt : OpOk X (compareOp .Lt) opLt := (ok_intB op_lt).or (ok_strB op_lt_str)
theorem ok_le : OpOk X (compareOp .LtE) opLe := (ok_intB op_le).or (ok_strB op_le_str)
theorem ok_gt : OpOk X (compareOp .Gt) opGt := (ok_intB op_gt).or (ok_strB op_gt_str)
theorem ok_ge : OpOk X (compareOp .GtE) opGe := (ok_intB op_ge).or (ok_strB op_ge_str)
/-- is None -/
def isNon : D → Bool | .non => true | _ => false
def isN : D → D → Option D := fun a b => match b with | .non => some (.bl (isNon a)) | _ => none
def isntN : D → D → Option D := fun a b => match b with | .non => some (.bl (!isNon a)) | _ => none
theorem rep_non {r : Rf} {H : Hp} {v : V} {a : D} (h : Rep K r H v a) : decide (v = .non) = isNon a := by cases h <;> rfl
theorem ok_isN : OpOk X (compareOp .Is) isN := ⟨_, op_isN, fun rho H x y a b d st Q si ra rb e q => by
  cases b with
  | non =>
    cases e
    cases rb
    exact ⟨rfl, by rw [rep_non ra]; exact q _ H (fun _ _ h => h) (.bl _)⟩
  | _ => cases e⟩
theorem ok_isntN : OpOk X (compareOp .IsNot) isntN := ⟨_, op_notN, fun rho H x y a b d st Q si ra rb e q => by
  cases b with
  | non =>
    cases e
    cases rb
    exact ⟨rfl, by rw [rep_non ra]; exact q _ H (fun _ _ h => h) (.bl _)⟩
  | _ => cases e⟩
def isB : D → D → Option D := fun a b => match a, b with | .bl x, .bl y => some (.bl (decide (x = y))) | _, _ => none
def isntB : D → D → Option D := fun a b => match a, b with | .bl x, .bl y => some (.bl (!decide (x = y))) | _, _ => none
theorem ok_isB : OpOk X (compareOp .Is) isB := ⟨_, op_isBl, fun rho H x y a b d st Q si ra rb e q => by
  cases a <;> cases b <;> first
    | cases e; done
    | skip
  cases ra
  cases rb
  cases e
  exact ⟨_, _, rfl, rfl, q _ H (fun _ _ h => h) (.bl _)⟩⟩
theorem ok_isntB : OpOk X (compareOp .IsNot) isntB := ⟨_, op_notBl, fun rho H x y a b d st Q si ra rb e q => by
  cases a <;> cases b <;> first
    | cases e; done
    | skip
  cases ra
  cases rb
  cases e
  exact ⟨_, _, rfl, rfl, q _ H (fun _ _ h => h) (.bl _)⟩⟩
def opIs : D → D → Option D := orD isN isB
def opIsnt : D → D → Option D := orD isntN isntB
theorem ok_is : OpOk X (compareOp .Is) opIs := ok_isN.or ok_isB
theorem ok_isnt : OpOk X (compareOp .IsNot) opIsnt := ok_isntN.or ok_isntB
end
end DL
namespace DL
open PySem PySem.Spec PyProof.Rows L2
variable {K : PySem.W.Frag}
theorem orE {X : Cx} {e : Expr} {t t' : TE} (h : PE X e t) (h' : PE X e t') : PE X e (fun σ H Q => t σ H Q ∨ t' σ H Q) := ⟨fun pins s σ H Q I q => q.elim (h.run pins s σ H Q I) (h'.run pins s σ H Q I)⟩

/-! ### a[b] -/
def asKey : D → Option Key | .int i => some (.inl i) | .str x => some (.inr x) | _ => none
def valD (kvs : List (Key × D)) (k : Key) : Option D := (kvs.find? fun kv => decide (kv.1 = k)).map (·.2)
def ixD : D → D → Store → Option D := fun a b st => match a, b with
  | .lst ds, .int i => atI ds i
  | .tup ds, .int i => atI ds i
  | .str x, .int i => if x.length ≤ sizeLine then (atI x.cps.toList i).map fun c => .str ⟨#[c]⟩ else none
  | .scr ns, .int i => (atI ns i).map .int
  | .dct kvs, k => (asKey k).bind fun k => valD kvs k
  | .ref n, k => match st[n]? with
    | some (.lst ds) => (match k with | .int i => atI ds i | _ => none)
    | some (.dct kvs) => (asKey k).bind fun k => valD kvs k
    | some (.ldc kvs) => (asKey k).bind fun k => valD kvs k
    | _ => none
  | _, _ => none
def fSub (fa fb : F) : F := fun env st => (fa env st).bind fun p => (fb env p.2).bind fun q => (ixD p.1 q.1 q.2).map fun d => (d, q.2)
theorem RepL.atI {r : Rf} {H : Hp} {vs : List V} {ds : List D} (l : RepL K r H vs ds) {i : Int} {d : D} (h : L2.atI ds i = some d) : ∃ v, L2.atI vs i = some v ∧ Rep K r H v d := by
  unfold L2.atI at h ⊢
  obtain ⟨j, h1, h2⟩ := Option.bind_eq_some_iff.mp h
  obtain ⟨v, h3, h4⟩ := l.get h2
  exact ⟨v, by rw [l.len, h1]; exact h3, h4⟩
theorem atI_map {α β : Type} (f : α → β) (xs : List α) (i : Int) : L2.atI (xs.map f) i = (L2.atI xs i).map f := by
  unfold L2.atI
  rw [List.length_map]
  cases ixN xs.length i with
  | none => rfl
  | some j => simp
theorem RepK.val {r : Rf} {H : Hp} {k : Key} : ∀ {vs : List (Key × V)} {ds : List (Key × D)}, RepK K r H vs ds → ∀ {d : D}, valD ds k = some d → ∃ v, valV vs k = some v ∧ Rep K r H v d
  | _, _, .nil, d, h => by cases h
  | _, _, .cons (k := k0) (vs := vs) (ds := ds) a b, d, h => by
    unfold valD at h
    unfold valV
    rw [List.find?_cons] at h ⊢
    by_cases z : k0 = k
    · simp only [z, decide_true] at h ⊢
      cases h
      exact ⟨_, rfl, a⟩
    · simp only [z, decide_false] at h ⊢
      exact RepK.val b h
theorem asKey_rep {r : Rf} {H : Hp} {v : V} {d : D} {k : Key} (h : Rep K r H v d) (e : asKey d = some k) : v = kV k := by
  cases d <;> first
    | cases e; done
    | skip
  · cases h; cases e; rfl
  · cases h; cases e; rfl
theorem Rep.scrL {r : Rf} {H : Hp} {v : V} {ns : List Int} (h : Rep K r H v (.scr ns)) : ∃ a, v = .ref a ∧ SqL K H a (ns.map V.int) := by
  cases h with
  | scr a b => exact ⟨_, rfl, .inl (.inr ⟨_, a⟩)⟩
  | scrK a b c d e f => exact ⟨_, rfl, .inr ⟨_, _, _, a, b, c, d, e, f⟩⟩
theorem Rep.refI {r : Rf} {H : Hp} {v : V} {n : Nat} (h : Rep K r H v (.ref n)) : ∃ a, v = .ref a ∧ r.adr[n]? = some a := by
  cases h with
  | ref h => exact ⟨_, rfl, h⟩
section
variable {X : Cx} {W : WXd}
def isD : D → Store → Bool := fun a st => match a with
  | .dct _ => true
  | .ref n => (match st[n]? with | some (.dct _) => true | some (.ldc _) => true | _ => false)
  | _ => false
theorem ixReadsS {rho : Rf} {H : Hp} {x y : V} {a b d : D} {st : Store} (si : Sim K rho H st) (ra : Rep K rho H x a) (rb : Rep K rho H y b) (e : ixD a b st = some d) (nd : isD a st = false) :
    ∃ v, Rep K rho H v d ∧ ∀ Q : VK, Q v H → rIx K x y H Q := by
  unfold ixD at e
  split at e
  · rename_i ds i
    cases rb
    cases ra with
    | lst h1 h2 h3 =>
      obtain ⟨v, hv, rv⟩ := h3.atI e
      exact ⟨v, rv, fun Q q => .inl ⟨_, _, i, v, rfl, rfl, .of h1, hv, q⟩⟩
  · rename_i ds i
    cases rb
    obtain ⟨p, us, rfl, s, l⟩ := ra.sqT
    obtain ⟨v, hv, rv⟩ := l.atI e
    exact ⟨v, rv, fun Q q => .inr (.inl ⟨_, _, i, v, rfl, rfl, s, hv, q⟩)⟩
  · rename_i z i
    cases rb
    cases ra
    split at e
    · rename_i hz
      obtain ⟨c, hc, e2⟩ := Option.map_eq_some_iff.mp e
      subst e2
      exact ⟨_, .str _, fun Q q => .inr (.inr ⟨z, i, c, rfl, rfl, hz, hc, q⟩)⟩
    · cases e
  · rename_i ns i
    cases rb
    obtain ⟨p, rfl, s⟩ := ra.scrL
    obtain ⟨c, hc, e2⟩ := Option.map_eq_some_iff.mp e
    subst e2
    refine ⟨_, .int c, fun Q q => .inl ⟨_, _, i, .int c, rfl, rfl, s, ?_, q⟩⟩
    rw [atI_map, hc]; rfl
  · cases nd
  · rename_i n
    obtain ⟨p, rfl, hp⟩ := ra.refI
    split at e
    · rename_i ds hst
      split at e
      · rename_i i
        cases rb
        obtain ⟨av, xs, hx, l⟩ := si.ob n p _ hp hst
        obtain ⟨v, hv, rv⟩ := l.atI e
        exact ⟨v, rv, fun Q q => .inl ⟨_, _, i, v, rfl, rfl, .of hx, hv, q⟩⟩
      · cases e
    · rename_i kvs hst
      unfold isD at nd
      simp only [hst] at nd
      cases nd
    · rename_i kvs hst
      unfold isD at nd
      simp only [hst] at nd
      cases nd
    · cases e
  · cases e
theorem dget_rd {H : Hp} {a : Addr} {kvs : List (Key × V)} {k : Key} (e : Rd H a (.dK kvs)) : DGet H a (kV k) (valV kvs k) := .inl ⟨kvs, k, e, rfl, rfl⟩
theorem ixReadsD {rho : Rf} {H : Hp} {x y : V} {a b d : D} {st : Store} (si : Sim K rho H st) (ra : Rep K rho H x a) (rb : Rep K rho H y b) (e : ixD a b st = some d) (nd : isD a st = true) :
    ∃ p v, x = .ref p ∧ DGet H p y (some v) ∧ Rep K rho H v d := by
  cases a with
  | dct kvs =>
    obtain ⟨k, hk, h2⟩ := Option.bind_eq_some_iff.mp (show ((asKey b).bind fun k => valD kvs k) = some d from e)
    have ey := asKey_rep rb hk
    subst ey
    cases ra with
    | dct h1 n1 l1 =>
      obtain ⟨v, hv, rv⟩ := l1.val h2
      exact ⟨_, v, rfl, by rw [← hv]; exact dget_rd (.inr ⟨_, h1⟩), rv⟩
  | ref n =>
    have nd' : (match st[n]? with | some (.dct _) => true | some (.ldc _) => true | _ => false) = true := nd
    · split at nd'
      · rename_i kvs hst
        have e' : ((asKey b).bind fun k => valD kvs k) = some d := by
          unfold ixD at e
          simp only [hst] at e
          exact e
        obtain ⟨k, hk, h2⟩ := Option.bind_eq_some_iff.mp e'
        have ey := asKey_rep rb hk
        subst ey
        obtain ⟨p, rfl, hp⟩ := ra.refI
        obtain ⟨av, xs, hx, l⟩ := si.ob _ p _ hp hst
        obtain ⟨v, hv, rv⟩ := l.val h2
        exact ⟨_, v, rfl, by rw [← hv]; exact .k hx, rv⟩
      · rename_i kvs hst
        have e' : ((asKey b).bind fun k => valD kvs k) = some d := by
          unfold ixD at e
          simp only [hst] at e
          exact e
        obtain ⟨k, hk, h2⟩ := Option.bind_eq_some_iff.mp e'
        have ey := asKey_rep rb hk
        subst ey
        obtain ⟨p, rfl, hp⟩ := ra.refI
        obtain ⟨av, lk, o, xs, hx, l⟩ := si.ob _ p _ hp hst
        obtain ⟨v, hv, rv⟩ := l.val h2
        exact ⟨_, v, rfl, by rw [← hv]; exact dget_rd (.inr ⟨_, hx⟩), rv⟩
      · cases nd'
  | _ => cases nd
theorem de_sub {a b : Expr} {fa fb : F} {pos : Pos} {k : Nat} (g : GX X k) (ha : DE X a fa) (hb : DE X b fb) (hs : PlainIx b := by intro _ _; rfl) : DE X (.Subscript a b pos) (fSub fa fb) :=
  weakE (orE (pe_ix ix_seq ha hb hs) (pe_dget (hu_of g.room) ha hb hs)) fun σ H Q hh => by
  obtain ⟨r, env, st, d, st', he, hs, hf, q⟩ := hh
  obtain ⟨⟨x, s1⟩, h1, hf1⟩ := Option.bind_eq_some_iff.mp hf
  obtain ⟨⟨y, s2⟩, h2, hf2⟩ := Option.bind_eq_some_iff.mp hf1
  obtain ⟨d', h3, hf3⟩ := Option.map_eq_some_iff.mp hf2
  cases hf3
  cases z : isD x s2 with
  | true =>
    refine .inr (two he hs h1 h2 fun u v r' H' e1 q1 pu pv => ?_)
    obtain ⟨p, w, ep, dg, rw'⟩ := ixReadsD q1 pu pv h3 z
    exact ⟨p, w, ep, dg, q w r' H' e1 q1 rw'⟩
  | false =>
    refine .inl (two he hs h1 h2 fun u v r' H' e1 q1 pu pv => ?_)
    obtain ⟨w, rw', k'⟩ := ixReadsS q1 pu pv h3 z
    exact k' Q (q w r' H' e1 q1 rw')

/-! ### a[lo:hi] -/
abbrev FO := Lo → Store → Option (Option Int × Store)
def oNone : FO := fun _ st => some (none, st)
def oSome (f : F) : FO := fun env st => (f env st).bind fun p => match p.1 with | .int i => some (some i, p.2) | _ => none
def tO (K : PySem.W.Frag) (f : FO) : TO := fun σ H Q => ∃ r env st o st', EnvR K r H env σ ∧ Sim K r H st ∧ f env st = some (o, st') ∧ ∀ r' H', Ext r H r' H' → Sim K r' H' st' → Q o H'
abbrev DO' (X : Cx) (e : Option Expr) (f : FO) : Prop := PO X e (tO X.K f)
theorem weakO {e : Option Expr} {t t' : TO} (h : PO X e t) (i : ∀ σ H Q, t' σ H Q → t σ H Q) : PO X e t' := ⟨fun pins s σ H Q I q => h.run pins s σ H Q I (i σ H Q q)⟩
theorem do_none : DO' X none oNone := weakO po_none fun σ H Q hh => by
  obtain ⟨r, env, st, o, st', he, hs, hf, q⟩ := hh
  cases hf
  exact q r H (.refl r H) hs
theorem do_some {e : Expr} {f : F} (h : DE X e f) : DO' X (some e) (oSome f) := weakO (po_some h) fun σ H Q hh => by
  obtain ⟨r, env, st, o, st', he, hs, hf, q⟩ := hh
  obtain ⟨⟨x, s1⟩, h1, hf1⟩ := Option.bind_eq_some_iff.mp hf
  cases x with
  | int i =>
    cases hf1
    exact ⟨r, env, st, _, _, he, hs, h1, fun v r1 H1 e1 q1 p1 => by
      cases p1
      exact ⟨i, rfl, q r1 H1 e1 q1⟩⟩
  | _ => cases hf1
def cutD {α : Type} (xs : List α) (lo hi : Option Int) : List α := (xs.drop (HT.sIx xs.length 0 lo)).take (HT.sIx xs.length xs.length hi - HT.sIx xs.length 0 lo)
def slD : D → Option Int → Option Int → Option D := fun a lo hi => match a with
  | .lst ds => some (.lst (cutD ds lo hi))
  | .tup ds => some (.tup (cutD ds lo hi))
  | _ => none
theorem RepL.cut {r : Rf} {H : Hp} {vs : List V} {ds : List D} (l : RepL K r H vs ds) (lo hi : Option Int) : RepL K r H (cutV vs lo hi) (cutD ds lo hi) := by
  unfold cutV cutD
  rw [l.len]
  exact (l.drop _).take _
def fSlice (fa : F) (lo hi : FO) : F := fun env st => (fa env st).bind fun p => (lo env p.2).bind fun q => (hi env q.2).bind fun w => (slD p.1 q.1 w.1).map fun d => (d, w.2)
theorem cut_all {α : Type} {xs : List α} {lo hi : Option Int} (h : HT.sIx xs.length 0 lo = 0 ∧ HT.sIx xs.length xs.length hi = xs.length) : cutD xs lo hi = xs := by
  unfold cutD
  rw [h.1, h.2]
  simp
theorem de_slice {a : Expr} {lo hi : Option Expr} {fa : F} {fl fh : FO} {p2 pos : Pos} (ha : DE X a fa) (hl : DO' X lo fl) (hh : DO' X hi fh) : DE X (.Subscript a (.Slice lo hi none p2) pos) (fSlice fa fl fh) :=
  weakE (pe_slice (sl_list.or sl_tupF) ha hl hh) fun σ H Q hh => by
  obtain ⟨r, env, st, d, st', he, hs, hf, q⟩ := hh
  obtain ⟨⟨x, s1⟩, h1, hf1⟩ := Option.bind_eq_some_iff.mp hf
  obtain ⟨⟨i, s2⟩, h2, hf2⟩ := Option.bind_eq_some_iff.mp hf1
  obtain ⟨⟨j, s3⟩, h3, hf3⟩ := Option.bind_eq_some_iff.mp hf2
  obtain ⟨d', h4, hf4⟩ := Option.map_eq_some_iff.mp hf3
  cases hf4
  refine ⟨r, env, st, x, s1, he, hs, h1, fun u r1 H1 e1 q1 p1 => ⟨r1, env, s1, i, s2, he.ext e1, q1, h2, fun r2 H2 e2 q2 => ⟨r2, env, s2, j, _, (he.ext e1).ext e2, q2, h3, fun r3 H3 e3 q3 => ?_⟩⟩⟩
  have p3 := (p1.ext e2).ext e3
  have e13 := (e1.trans e2).trans e3
  cases x with
  | lst ds =>
    cases h4
    cases p3 with
    | lst g1 g2 g3 => exact .inl ⟨_, _, rfl, .of g1, fun p hp => q _ _ _ (e13.trans (q3.ext (same_alloc hp))) (q3.same (same_alloc hp)) (.lst upd_same (q3.free hp) ((g3.cut i j).ex (Ex.same r3 (same_alloc hp))))⟩
  | tup ds =>
    cases h4
    obtain ⟨p, us, rfl, s, l⟩ := p3.sqT
    refine .inr ⟨p, us, rfl, s, fun w => ?_, fun p' o hp hz => ?_⟩
    · rw [l.len] at w
      rw [cut_all w] at q
      exact q _ r3 H3 e13 q3 p3
    · exact q _ _ _ (e13.trans (q3.ext (same_alloc hp))) (q3.same (same_alloc hp)) (.tup upd_same hz (q3.free hp) ((l.cut i j).ex (Ex.same r3 (same_alloc hp))))
  | _ => cases h4

/-! ### what is written: an object of the store -/
theorem Sim.set {r : Rf} {H : Hp} {st : Store} (s : Sim K r H st) {n : Nat} {a : Addr} {o : HO} {ob : Ob} (ha : r.adr[n]? = some a) (hav : r.av a) (hob : ObR K r (upd H a o) a ob) (nl : ∀ o u, H a ≠ some (.frz o u)) : Ext r H r (upd H a o) ∧ Sim K r (upd H a o) (st.set n ob) := by
  have hm : a ∈ r.adr := List.mem_of_getElem? ha
  have nlk : ∀ q, r.lk q → q ≠ a := fun q z y => by
    obtain ⟨o, u, h⟩ := s.lkd q z
    exact nl o u (by rw [← y]; exact h)
  have ex : Ext r H r (upd H a o) := ⟨⟨⟨[], by simp⟩, fun q x z m => by rw [upd_ne (fun y => m (by rw [y]; exact hav))]; exact z, fun q z m => absurd z m⟩,
    fun q v m => ⟨by rw [upd_ne (fun y => m (by rw [y]; exact hm))], v, m⟩, fun _ => Iff.rfl, fun q v => by rw [upd_ne (nlk q v)]⟩
  refine ⟨ex, by rw [List.length_set]; exact s.len, s.nd, fun m b x h1 h2 => ?_, fun q v => ?_, fun q v => ?_, fun q v => by rw [upd_ne (nlk q v)]; exact s.lkd q v⟩
  · by_cases z : n = m
    · subst z
      rw [ha] at h1
      cases h1
      by_cases hl : n < st.length
      · rw [List.getElem?_set_self hl] at h2
        cases h2
        exact hob
      · rw [List.getElem?_eq_none (by rw [List.length_set]; omega)] at h2
        cases h2
    · rw [List.getElem?_set_ne z] at h2
      have nb : b ≠ a := fun y => z (by
        subst y
        obtain ⟨l1, e1⟩ := List.getElem?_eq_some_iff.mp ha
        obtain ⟨l2, e2⟩ := List.getElem?_eq_some_iff.mp h1
        exact (List.getElem_inj s.nd).mp (e1.trans e2.symm))
      exact (s.ob m b x h1 h2).ex ex.toEx fun v => ⟨by rw [upd_ne nb], v⟩
  · by_cases z : q = a
    · exact ⟨_, by rw [z]; exact upd_same⟩
    · rw [upd_ne z]; exact s.there q v
  · by_cases z : q = a
    · exact ⟨_, by rw [z]; exact upd_same⟩
    · rw [upd_ne z]; exact s.old q v
def putD (kvs : List (Key × D)) (k : Key) (v : D) : List (Key × D) := if kvs.any (fun kv => decide (kv.1 = k)) then kvs.map fun kv => if kv.1 = k then (kv.1, v) else kv else kvs ++ [(k, v)]
theorem RepK.len {r : Rf} {H : Hp} : ∀ {vs : List (Key × V)} {ds : List (Key × D)}, RepK K r H vs ds → vs.length = ds.length
  | _, _, .nil => rfl
  | _, _, .cons _ b => by rw [List.length_cons, List.length_cons, RepK.len b]
theorem RepK.any {r : Rf} {H : Hp} {k : Key} : ∀ {vs : List (Key × V)} {ds : List (Key × D)}, RepK K r H vs ds → (vs.any fun kv => decide (kv.1 = k)) = ds.any fun kv => decide (kv.1 = k)
  | _, _, .nil => rfl
  | _, _, .cons _ b => by rw [List.any_cons, List.any_cons, RepK.any b]
theorem RepK.repl {r : Rf} {H : Hp} {k : Key} {v : V} {d : D} (q : Rep K r H v d) : ∀ {vs : List (Key × V)} {ds : List (Key × D)}, RepK K r H vs ds → RepK K r H (vs.map fun kv => if kv.1 = k then (kv.1, v) else kv) (ds.map fun kv => if kv.1 = k then (kv.1, d) else kv)
  | _, _, .nil => .nil
  | _, _, .cons (k := k0) a b => by
    rw [List.map_cons, List.map_cons]
    by_cases z : k0 = k
    · rw [if_pos z, if_pos z]
      exact .cons q (RepK.repl q b)
    · rw [if_neg z, if_neg z]
      exact .cons a (RepK.repl q b)
theorem RepK.snoc {r : Rf} {H : Hp} {k : Key} {v : V} {d : D} (q : Rep K r H v d) : ∀ {vs : List (Key × V)} {ds : List (Key × D)}, RepK K r H vs ds → RepK K r H (vs ++ [(k, v)]) (ds ++ [(k, d)])
  | _, _, .nil => .cons q .nil
  | _, _, .cons a b => .cons a (RepK.snoc q b)
theorem RepK.put {r : Rf} {H : Hp} {k : Key} {v : V} {d : D} (q : Rep K r H v d) {vs : List (Key × V)} {ds : List (Key × D)} (l : RepK K r H vs ds) : RepK K r H (putK vs k v) (putD ds k d) := by
  unfold putK putD
  rw [l.any]
  split
  · exact l.repl q
  · exact l.snoc q
/-- o[k] = v, o a dict of the store -/
def sPut (fo fk fv : F) : FS := fun env st => (fv env st).bind fun p => (fo env p.2).bind fun q => (fk env q.2).bind fun w => match q.1 with
  | .ref n => (match w.2[n]? with
    | some (.dct kvs) => (asKey w.1).bind fun k => if kvs.length < sizeLine then some (.nx, env, w.2.set n (.dct (putD kvs k p.1))) else none
    | _ => none)
  | _ => none
theorem ds_put {o i value : Expr} {fo fk fv : F} {pos pos' : Pos} {k : Nat} (g : GX X k) (ho : DE X o fo) (hi : DE X i fk) (hv : DE X value fv) (hs : swapsWith value (some (.Subscript o i pos')) pos.line X.env = pure false := by rfl) :
    DS X W (.Assign [.Subscript o i pos'] value pos) (sPut fo fk fv) := weakS (ps_dput (hu_of g.room) ho hi hv hs) fun D' σ H hh => by
  obtain ⟨r, env, st, out, env', st', he, hs, hf, q⟩ := hh
  obtain ⟨⟨x, s1⟩, h1, hf1⟩ := Option.bind_eq_some_iff.mp hf
  obtain ⟨⟨y, s2⟩, h2, hf2⟩ := Option.bind_eq_some_iff.mp hf1
  obtain ⟨⟨z, s3⟩, h3, hf3⟩ := Option.bind_eq_some_iff.mp hf2
  cases y with
  | ref n =>
    simp only at hf3
    split at hf3
    · rename_i kvs hst
      obtain ⟨kk, hk, hf4⟩ := Option.bind_eq_some_iff.mp hf3
      split at hf4
      · rename_i hl
        cases hf4
        refine ⟨r, env, st, x, s1, he, hs, h1, fun xv r1 H1 e1 q1 p1 => ⟨r1, env, s1, _, s2, he.ext e1, q1, h2, fun yv r2 H2 e2 q2 p2 => ⟨r2, env, s2, z, s3, (he.ext e1).ext e2, q2, h3, fun zv r3 H3 e3 q3 p3 => ?_⟩⟩⟩
        have ez := asKey_rep p3 hk
        subst ez
        obtain ⟨p, rfl, hp⟩ := (p2.ext e3).refI
        obtain ⟨av, xs, hx, l⟩ := q3.ob _ p _ hp hst
        have px : Rep X.K r3 H3 xv x := (p1.ext e2).ext e3
        refine ⟨p, _, rfl, .k hx (by rw [l.len]; exact hl), ?_⟩
        have ee : Ex r3 H3 r3 (upd H3 p (.dK (putK xs kk xv))) := ⟨⟨[], by simp⟩, fun a o w m => by rw [upd_ne (fun y => m (by rw [y]; exact av))]; exact w, fun a w m => absurd w m⟩
        obtain ⟨w1, w2⟩ := q3.set (o := .dK (putK xs kk xv)) (ob := .dct (putD kvs kk x)) hp av ⟨av, _, upd_same, (l.put px).ex ee⟩ (fun _ _ z => by rw [hx] at z; cases z)
        exact q σ r3 _ (((e1.trans e2).trans e3).trans w1) ((((he.ext e1).ext e2).ext e3).ext w1) w2
      · cases hf4
    · cases hf3
  | _ => cases hf3
/-- {k: v, ..}, into the store -/
def evP : List (F × F) → Lo → Store → Option (List (Key × D) × Store)
  | [], _, st => some ([], st)
  | (fk, fv) :: r, env, st => (fk env st).bind fun p => (asKey p.1).bind fun k => (fv env p.2).bind fun q => (evP r env q.2).map fun z => ((k, q.1) :: z.1, z.2)
def mergeD (kvs more : List (Key × D)) : List (Key × D) := more.foldl (fun acc kv => putD acc kv.1 kv.2) kvs
def fDict (ps : List (F × F)) : F := fun env st => (evP ps env st).bind fun q => if q.1.length ≤ 15 then some (.ref q.2.length, q.2 ++ [.dct (mergeD [] q.1)]) else none
inductive DPs (X : Cx) (pos : Pos) : List (Option Expr) → List Expr → List (F × F) → Prop
  | nil : DPs X pos [] [] []
  | cons {k v : Expr} {ks : List (Option Expr)} {vs : List Expr} {fk fv : F} {ps : List (F × F)} : DE X k fk → DE X v fv → DPs X pos ks vs ps → DPs X pos (some k :: ks) (v :: vs) ((fk, fv) :: ps)
theorem DPs.pps {pos : Pos} : ∀ {ks : List (Option Expr)} {vs : List Expr} {ps : List (F × F)}, DPs X pos ks vs ps → PPs X pos ks vs (ps.map fun p => (tD X.K p.1, tD X.K p.2))
  | _, _, _, .nil => pps_nil
  | _, _, _, .cons a b c => pps_cons a b (DPs.pps c)
theorem RepK.merge {r : Rf} {H : Hp} : ∀ {more : List (Key × V)} {md : List (Key × D)} {kvs : List (Key × V)} {ds : List (Key × D)}, RepK K r H more md → RepK K r H kvs ds → RepK K r H (mergeK kvs more) (mergeD ds md)
  | _, _, _, _, .nil, q => q
  | _, _, kvs, ds, .cons (k := k) (v := v) (vs := more) (d := d) (ds := md) a b, q => by
    have := RepK.merge b (q.put (k := k) a)
    exact this
theorem pairsRead : ∀ {ps : List (F × F)} {r : Rf} {env : Lo} {st st' : Store} {σ : L2.St} {H : Hp} {kds : List (Key × D)} {Q : List (V × V) → Hp → Prop}, EnvR K r H env σ → Sim K r H st → evP ps env st = some (kds, st') →
    (∀ r' H' (kvs : List (Key × V)), Ext r H r' H' → Sim K r' H' st' → RepK K r' H' kvs kds → Q (kvs.map fun kv => (kV kv.1, kv.2)) H') → tPairs (ps.map fun p => (tD K p.1, tD K p.2)) σ H Q
  | [], r, env, st, st', σ, H, kds, Q, he, hs, hf, q => by
    cases hf
    exact q r H [] (.refl r H) hs .nil
  | (fk, fv) :: ps, r, env, st, st', σ, H, kds, Q, he, hs, hf, q => by
    obtain ⟨⟨x, s1⟩, h1, hf1⟩ := Option.bind_eq_some_iff.mp hf
    obtain ⟨k, hk, hf2⟩ := Option.bind_eq_some_iff.mp hf1
    obtain ⟨⟨y, s2⟩, h2, hf3⟩ := Option.bind_eq_some_iff.mp hf2
    obtain ⟨⟨zs, s3⟩, h3, hf4⟩ := Option.map_eq_some_iff.mp hf3
    cases hf4
    refine ⟨r, env, st, x, s1, he, hs, h1, fun xv r1 H1 e1 q1 p1 => ⟨r1, env, s1, y, s2, he.ext e1, q1, h2, fun yv r2 H2 e2 q2 p2 => ?_⟩⟩
    have ex := asKey_rep p1 hk
    subst ex
    refine pairsRead (ps := ps) ((he.ext e1).ext e2) q2 h3 fun r3 H3 kvs e3 q3 l3 => ?_
    exact q r3 H3 ((k, yv) :: kvs) ((e1.trans e2).trans e3) q3 (.cons (p2.ext e3) l3)
theorem de_dict {pos : Pos} {keys : List (Option Expr)} {values : List Expr} {ps : List (F × F)} (h : DPs X pos keys values ps) (hall : keys.all (·.isSome) = true := by rfl) (hl : keys.length = values.length := by rfl) (h0 : keys ≠ [] := by (intro z; cases z)) (h15 : keys.length ≤ 15 := by decide) :
    DE X (.Dict keys values pos) (fDict ps) := weakE (pe_disp h.pps hall hl h0 h15) fun σ H Q hh => by
  obtain ⟨r, env, st, d, st', he, hs, hf, q⟩ := hh
  obtain ⟨⟨kds, s1⟩, h1, hf1⟩ := Option.bind_eq_some_iff.mp hf
  by_cases hz : kds.length ≤ 15
  case neg => rw [if_neg hz] at hf1; cases hf1
  rw [if_pos hz] at hf1
  cases hf1
  intro p hp
  obtain ⟨e0, hd0⟩ := hideNew (o := .dK []) hs hp
  refine pairsRead (he.ext e0) hd0.sim h1 fun r' H' kvs e1 q1 l1 => ?_
  obtain ⟨hd1, hk⟩ := hd0.ext e1 q1
  refine ⟨hk.trans upd_same, kvs, rfl, by rw [l1.len]; exact hz, ?_⟩
  have ee : Ex r' H' (r'.add p) (upd H' p (.dK (mergeK [] kvs))) := ⟨⟨[p], rfl⟩, fun a o w m => by rw [upd_ne (fun y => m (by rw [y]; exact hd1.av))]; exact w, fun a w m => absurd w m⟩
  obtain ⟨w1, w2, w3⟩ := hd1.add (o := .dK (mergeK [] kvs)) (ob := .dct (mergeD [] kds)) (e0.trans e1) hs hp ⟨hd1.av, _, upd_same, (RepK.merge l1 .nil).ex ee⟩
  exact q _ _ _ w1 w2 (w3 _ rfl)
/-- {} as a value -/
theorem de_dict0 {pos : Pos} : DE X (.Dict [] [] pos) (fC (.dct [])) := weakE (pe_frz pe_dnewK) fun σ H Q hh => by
  obtain ⟨r, env, st, d, st', he, hs, hf, q⟩ := hh
  cases hf
  refine fun p hp => ⟨p, _, rfl, upd_same, trivial, fun o => ?_⟩
  rw [upd_upd]
  exact q _ r _ (hs.ext (same_alloc hp)) (hs.same (same_alloc hp)) (.dct upd_same (hs.free hp) .nil)
/-- a list display, into the store -/
def fNewL (fa : FA) : F := fun env st => (fa env st).bind fun p => if p.1.length ≤ sizeLine then some (.ref p.2.length, p.2 ++ [.lst p.1]) else none
theorem de_newL {es : List Expr} {fa : FA} {pos : Pos} (h : DA X es fa) : DE X (.List es pos) (fNewL fa) := weakE (pe_lst h) fun σ H Q hh => by
  obtain ⟨r, env, st, d, st', he, hs, hf, q⟩ := hh
  obtain ⟨⟨ds, s1⟩, h1, hf1⟩ := Option.bind_eq_some_iff.mp hf
  by_cases hz : ds.length ≤ sizeLine
  case neg => rw [if_neg hz] at hf1; cases hf1
  rw [if_pos hz] at hf1
  cases hf1
  refine ⟨r, env, st, ds, s1, he, hs, h1, fun vs r1 H1 e1 q1 l1 => ⟨by rw [l1.len]; exact hz, fun p hp => ?_⟩⟩
  obtain ⟨e0, hd0⟩ := hideNew (o := .lst vs) q1 hp
  have ee : Ex r1 H1 ((r1.hide p).add p) (upd (upd H1 p (.lst vs)) p (.lst vs)) := by
    rw [upd_upd]
    refine ⟨⟨[p], rfl⟩, fun a o w m => same_alloc hp a o w, fun a w m => ?_⟩
    rcases w with w | w
    · exact absurd w m
    · rw [w]; exact hp
  obtain ⟨w1, w2, w3⟩ := hd0.add (o := .lst vs) (ob := .lst ds) e0 q1 hp ⟨hd0.av, _, upd_same, l1.ex ee⟩
  have key := q (.ref p) _ _ (e1.trans w1) w2 (w3 _ rfl)
  rw [upd_upd] at key
  exact key
/-- xs.append(e), xs of the store -/
def isLs : Option Ob → Bool | some (.lst _) => true | _ => false
def appAt (n : Nat) (d : D) (st : Store) : Option (D × Store) := match st[n]? with
  | some (.lst ds) => if ds.length < sizeLine then some (.non, st.set n (.lst (ds ++ [d]))) else none
  | _ => none
def fApp (fo fe : F) : F := fun env st => (fo env st).bind fun p => match p.1 with
  | .ref n => if isLs p.2[n]? = true then (fe env p.2).bind fun q => appAt n q.1 q.2 else none
  | _ => none
theorem de_append {o e : Expr} {fo fe : F} {apos cpos : Pos} (ho : DE X o fo) (hv : DE X e fe) (hbase : attributeBase o "append" X.env (eval o X.env) = eval o X.env := by rfl)
    (hfew : ((backTo cpos (starEach [e] X.env)).all (fun x => !x.1) && (backToKw cpos (keywordEach [] X.env)).all (fun x => x.1.isSome)
      && decide (([e] : List Expr).length + ([] : List Keyword).length + (if ([] : List Keyword).isEmpty then 0 else 1) < 30)) = true := by rfl)
    (hline : (apos.endLine == cpos.line) = true := by rfl) (hs : starEach [e] X.env = [(false, eval e X.env)] := by rfl) :
    DE X (.Call (.Attribute o "append" apos) [e] [] cpos) (fApp fo fe) :=
  weakE (pe_bm PySem.F.plainAttrs_list PySem.F.slot_list_append PySem.F.type_list_append mt_append ho (pa_cons hv pa_nil hs) hbase hfew hline hs rfl) fun σ H Q hh => by
  obtain ⟨r, env, st, d, st', he, hs, hf, q⟩ := hh
  obtain ⟨⟨x, s1⟩, h1, hf1⟩ := Option.bind_eq_some_iff.mp hf
  cases x with
  | ref n =>
    have hf1' : (if isLs s1[n]? = true then (fe env s1).bind fun q => appAt n q.1 q.2 else none) = some (d, st') := hf1
    by_cases hl1 : isLs s1[n]? = true
    case neg => rw [if_neg hl1] at hf1'; cases hf1'
    rw [if_pos hl1] at hf1'
    obtain ⟨⟨y, s2⟩, h2, hf2⟩ := Option.bind_eq_some_iff.mp hf1'
    have hf3 : appAt n y s2 = some (d, st') := hf2
    unfold appAt at hf3
    split at hf3
    · rename_i ds hst
      split at hf3
      · rename_i hl
        cases hf3
        refine ⟨r, env, st, _, s1, he, hs, h1, fun xv r1 H1 e1 q1 p1 => ?_⟩
        obtain ⟨p, rfl, hp⟩ := p1.refI
        refine ⟨.inl ⟨rfl, ?_⟩, r1, env, s1, y, s2, he.ext e1, q1, h2, fun yv r2 H2 e2 q2 p2 => ?_⟩
        · unfold isLs at hl1
          split at hl1
          · rename_i es hes
            obtain ⟨av, xs, hx, l⟩ := q1.ob n p _ hp hes
            exact ⟨xs, .of hx⟩
          · cases hl1
        · have hp2 := e2.get hp
          obtain ⟨av, xs, hx, l⟩ := q2.ob n p _ hp2 hst
          refine ⟨p, xs, yv, rfl, rfl, hx, by rw [l.len]; exact hl, ?_⟩
          have ee : Ex r2 H2 r2 (upd H2 p (.lst (xs ++ [yv]))) := ⟨⟨[], by simp⟩, fun a o w m => by rw [upd_ne (fun y => m (by rw [y]; exact av))]; exact w, fun a w m => absurd w m⟩
          obtain ⟨w1, w2⟩ := q2.set (o := .lst (xs ++ [yv])) (ob := .lst (ds ++ [y])) hp2 av ⟨av, _, upd_same, (l.append (.cons p2 .nil)).ex ee⟩ (fun _ _ z => by rw [hx] at z; cases z)
          exact q _ _ _ ((e1.trans e2).trans w1) w2 .non
      · cases hf3
    · cases hf3
  | _ => cases hf1
end
end DL
namespace DL
open PySem PySem.Spec PyProof.Rows L2
variable {K : PySem.W.Frag}

/-! ### a def -/
abbrev FM := List D → Store → Option (D × Store)
/-- a def computes m (nothing is raised) -/
structure FnD (P : Program) (w : World) (K : PySem.W.Frag) (mg : Str → Option Value) (base : Heap) (k : Nat) (f : Addr) (fd : FuncData) (ps : List Str) (m : FM) : Prop where
  run : ∀ (A : Around) (outer : List Env) (s : Shared) (H : Hp) (args : Args) (us : List Value) (vs : List V) (Q : VK) (rho : Rf) (ds : List D) (st st' : Store) (d : D),
    A.guards = some [] → Room k A → Env0 P w K mg base A outer s H → BindsTo s fd args (ps.zip us) → Vals vs us → vs.length = ps.length → RepL K rho H vs ds → Sim K rho H st → m ds st = some (d, st') →
    (∀ v rho' H', Ext rho H rho' H' → Sim K rho' H' st' → Rep K rho' H' v d → Q v H') → codeAny (model P w) A (.call (.ref f) args) (CR CX0 outer P w H s Q E0) s
theorem FnD.up {P : Program} {w : World} {mg : Str → Option Value} {base : Heap} {j k : Nat} {f : Addr} {fd : FuncData} {ps : List Str} {m : FM} (h : FnD P w K mg base j f fd ps m) (l : j ≤ k) : FnD P w K mg base k f fd ps m :=
  ⟨fun A outer s H args us vs Q rho ds st st' d hg hr => h.run A outer s H args us vs Q rho ds st st' d hg (hr.mono l)⟩
/-- a body's context -/
abbrev cxD (P : Program) (w : World) (K : PySem.W.Frag) (mg : Str → Option Value) (base : Heap) (N : List Str) (qual : Str) (sc : Scope) (f : Addr) (cd : Value) (A : Around) (outer : List Env) (s : Shared) (H : Hp) : Cx :=
  (cxOf CX0 P w K mg base N qual sc f cd A outer s H E0).nox
def startD (n : Nat) (ds : List D) : Lo := ds.map some ++ List.replicate (n - ds.length) none
def outM : Option (Out × Lo × Store) → Option (D × Store)
  | some (.rt d, _, s) => some (d, s)
  | some (.nx, _, s) => some (.non, s)
  | _ => none
def mOf (n : Nat) (g : FS) : FM := fun ds st => outM (g (startD n ds) st)
theorem start_env {r : Rf} {H : Hp} {vs : List V} {ds : List D} {N : List Str} (l : RepL K r H vs ds) (hn : vs.length ≤ N.length) : EnvR K r H (startD N.length ds) (L2.start N vs) := by
  refine ⟨?_, fun i d h => ?_⟩
  · unfold startD L2.start
    rw [List.length_append, List.length_append, List.length_map, List.length_map, List.length_replicate, List.length_replicate, l.len]
  · unfold startD at h
    unfold L2.start
    by_cases hi : i < ds.length
    · rw [List.getElem?_append_left (by rw [List.length_map]; exact hi), List.getElem?_map] at h
      obtain ⟨d', h1, h2⟩ := Option.map_eq_some_iff.mp h
      cases h2
      obtain ⟨v, h3, h4⟩ := l.get h1
      refine ⟨v, ?_, h4⟩
      rw [List.getElem?_append_left (by rw [List.length_map, l.len]; exact hi), List.getElem?_map, h3]; rfl
    · rw [List.getElem?_append_right (by rw [List.length_map]; omega), List.getElem?_replicate] at h
      split at h <;> cases h
theorem FnD.of {P : Program} {w : World} {mg : Str → Option Value} {base : Heap} {x qual : Str} {sd : Stmt} {f : Addr} {fd : FuncData} {N ps : List Str} {k : Nat} {g : FS} (F : Fun K x qual sd f fd) (S : FnScope N ps (defScope sd))
    (hb : ∀ (cd : Value) (A : Around) (outer : List Env) (s : Shared) (H : Hp), GX (cxD P w K mg base N qual (defScope sd) f cd A outer s H) k → DSs (cxD P w K mg base N qual (defScope sd) f cd A outer s H) (fun _ _ _ _ => False) (defBody sd) g) :
    FnD P w K mg base (k + 1) f fd ps (mOf N.length g) := by
  obtain ⟨oc, od, kV, doc, pm, an, cd, ct, osl, rfl, lk, hcd⟩ := F.ex
  refine ⟨fun A outer s H args us vs Q rho ds st st' d hgd hr e0 hbind rv hlen rds hs hm hq => ?_⟩
  have hps : ps.length ≤ N.length := by
    have := congrArg List.length S.pre
    rw [List.length_take] at this
    omega
  have KX : K.In s.heap := e0.mod.kin.keeps fun b o e => (e0.bs b o e).1
  have lim : s.heap.NoLimit := e0.mod.nolimit.keeps fun b o e => (e0.bs b o e).1
  have kinds : ∀ y ∈ ps.zip us, (defScope sd).names.lookup y.1 = some .local ∨ ((defScope sd).names.lookup y.1 = some .cell ∧ ((cellsFrom (s.heap.objs.size + 1) (defScope sd).names []).lookup y.1).isSome = true) := fun ⟨n, v⟩ hy =>
    (S.par n (List.of_mem_zip hy).1).elim .inl fun q => .inr ⟨q, PySem.W.cellsFrom_some _ _ _ (.inl q)⟩
  refine codeAny_call_function hr.depth (KX _ _ lk) rfl S.co S.gen rfl (PySem.W.codeRec_of KX hcd) (hbind _ _ _ _ (wpAny_newFunctionEnv_cells S.kind kinds fun env he s1 x => ?_))
  subst he
  refine ⟨lim.keeps x.toInCall.keep, codeAny_func ?_⟩
  have gx : GX (cxD P w K mg base N qual (defScope sd) f cd A outer s H) k := ⟨rfl, S.nd, hr.deeper _, hgd⟩
  have I0 : Inv (cxOf CX0 P w K mg base N qual (defScope sd) f cd A outer s H E0) [] (L2.start N vs) H s1 := inv_start S hr.hd e0 hlen rv x
  -- what the body does
  obtain ⟨o, env', h1, h2⟩ : ∃ o env', g (startD N.length ds) st = some (o, env', st') ∧ (o = .rt d ∨ (o = .nx ∧ d = .non)) := by
    unfold mOf at hm
    cases z : g (startD N.length ds) st with
    | none => rw [z] at hm; cases hm
    | some q =>
      obtain ⟨o, e, s2⟩ := q
      rw [z] at hm
      cases o with
      | rt d' => cases hm; exact ⟨_, _, rfl, .inl rfl⟩
      | nx => cases hm; exact ⟨_, _, rfl, .inr ⟨rfl, rfl⟩⟩
      | bk => cases hm
      | ct => cases hm
      | er _ _ _ => cases hm
  have run := (hb cd A outer s H gx).run [] s1 (L2.start N vs) H { nx := fun _ H' => Q .non H', rt := Q } (I0.wish _) ⟨rho, _, st, o, env', st', start_env rds (by omega), hs, h1, by
    rcases h2 with e | ⟨e, e2⟩
    · subst e
      exact hq
    · subst e e2
      exact fun σ' r' H' ex _ hs' => hq .non r' H' ex hs' .non⟩
  refine wpAny_mono run (fun fl s' q => ?_) fun _ _ z => False.elim z
  have back : ∀ {σ' : L2.St} {H' : Hp} {v : V} {u : Value}, Inv (cxD P w K mg base N qual (defScope sd) f cd A outer s H) [] σ' H' s' → RelV v u → Q v H' → CE outer P w H s Q u s' := fun {σ' H' v u} J r z => ⟨v, H', J.os, J.bare, J.base, J.hok, r, z⟩
  cases fl with
  | ret u =>
    obtain ⟨v, σ', H', J, r, z⟩ := q
    exact back J r z
  | next =>
    obtain ⟨σ', H', J, z⟩ := q
    exact back (v := V.non) (u := Value.none) J rfl z
  | brk => obtain ⟨_, _, _, z⟩ := q; exact z.elim
  | cont => obtain ⟨_, _, _, z⟩ := q; exact z.elim

/-! ### a call -/
def fCall (m : FM) (fa : FA) : F := fun env st => (fa env st).bind fun p => m p.1 p.2
section
variable {X : Cx} {W : WXd} {k : Nat} {f : Addr} {fd : FuncData} {ps : List Str} {m : FM} {x : Str} {p pos : Pos} {e : Expr} {es : List Expr}
theorem runD {pins : List (Addr × Obj)} {σ : L2.St} {H : Hp} {s : Shared} {Q : VK} {us : List Value} {vs : List V} {rho : Rf} {ds : List D} {st st' : Store} {d : D} (Fd : FnD X.prog X.w X.K X.mg X.base k f fd ps m) (gx : GX X k) (hb : Binds X.K fd ps [])
    (I : Inv X pins σ H s) (r : Vals vs us) (hl : vs.length = ps.length) (rd : RepL X.K rho H vs ds) (hs : Sim X.K rho H st) (hm : m ds st = some (d, st')) (hq : ∀ v rho' H', Ext rho H rho' H' → Sim X.K rho' H' st' → Rep X.K rho' H' v d → Q v H') :
    wpAny (model X.prog X.w) X.A (call (.ref f) us) (EP X pins σ Q) X.xe s := by
  have hu : us.length = ps.length := by rw [← r.length]; exact hl
  have hbt : BindsTo s fd ⟨us, []⟩ (ps.zip us) := by
    have := hb s us I.kIn (by rw [List.append_nil]; exact hu)
    rwa [List.append_nil] at this
  refine wpAny_call (codeAny_mono (Fd.run X.A X.stack s H ⟨us, []⟩ us vs Q rho ds st st' d gx.gd gx.room I.env0 hbt r hl rd hs hm hq) fun z s' hz => ?_)
  cases z with
  | error e => exact False.elim hz
  | ok fl =>
    cases fl with
    | ret u => exact I.after hz
    | next => exact False.elim hz
    | brk => exact False.elim hz
    | cont => exact False.elim hz
/-- f(e, ..), every parameter given by place -/
theorem de_call (Fd : FnD X.prog X.w X.K X.mg X.base k f fd ps m) (gx : GX X k) (hg : Gl X x) (hm : X.mg x = some (.ref f)) (hk : PySem.W.keepIn X.K (.ref f) = true) (hb : Binds X.K fd ps []) {fa : FA}
    (ha : DA X (e :: es) fa) (hl : (e :: es).length = ps.length := by rfl) (hdb : (x == ("__debug__" : Str)) = false := by decide) (he : starEach (e :: es) X.env = (false, eval e X.env) :: starEach es X.env := by rfl) (hpl : (backTo pos (starEach es X.env)).any (·.1) = false := by rfl)
    (hn : ∀ env st ds st', fa env st = some (ds, st') → ds.length = (e :: es).length) :
    DE X (.Call (.Name x p) (e :: es) [] pos) (fCall m fa) := by
  refine ⟨fun pins s σ H Q I h => wpAny_Call_Name_kw (ld_glob I hg hm ?_ hdb)⟩
  obtain ⟨r, env, st, d, st', he', hs, hf, q⟩ := h
  obtain ⟨⟨ds, s1⟩, h1, h2⟩ := Option.bind_eq_some_iff.mp hf
  refine PySem.W.callWith_K (h₀ := X.base) I.ok.mod.kin hk (thn (ha.run pos pins s σ H (fun vs H1 => ∃ r1, Ext r H r1 H1 ∧ Sim X.K r1 H1 s1 ∧ RepL X.K r1 H1 vs ds) I ⟨r, env, st, ds, s1, he', hs, h1, fun vs r1 H1 e1 q1 l1 => ⟨r1, e1, q1, l1⟩⟩) fun us sa hz => ?_) he hpl
  obtain ⟨vs, H1, I1, rv, r1, e1, q1, l1⟩ := hz
  exact ⟨I1.kIn, runD Fd gx hb I1 rv (by rw [l1.len, hn _ _ _ _ h1]; exact hl) l1 q1 h2 fun v r2 H2 e2 q2 p2 => q v r2 H2 (e1.trans e2) q2 p2⟩
end
theorem aNil_n : ∀ (env : Lo) (st : Store) (ds : List D) (st' : Store), aNil env st = some (ds, st') → ds.length = 0 := fun _ _ _ _ h => by cases h; rfl
theorem aCons_n {f : F} {g : FA} {n : Nat} (h : ∀ (env : Lo) (st : Store) (ds : List D) (st' : Store), g env st = some (ds, st') → ds.length = n) :
    ∀ (env : Lo) (st : Store) (ds : List D) (st' : Store), aCons f g env st = some (ds, st') → ds.length = n + 1 := fun env st ds st' hh => by
  obtain ⟨x, s1, ys, s2, h1, h2, e⟩ := aCons_some hh
  cases e
  rw [List.length_cons, h _ _ _ _ h2]

/-! ### the law's end -/
theorem law_end {P : Program} {w : World} {mg mb : Str → Option Value} {k : Nat} {fa a : Addr} {fd : FuncData} {x : Str} {m : FM} {s1 : Shared} {vs : List Value} {ns : List Int}
    (KX : K.In s1.heap) (hns : s1.heap.Ns mainGlobals mg) (hb : s1.heap.Ns builtinsNs mb) (hbb : ∀ x : Str, x ≠ "__name__" → mb x = bootBuiltins x) (hlim : s1.heap.NoLimit) (hg : s1.gens = #[])
    (ha : s1.heap.get? a = some { cls := .type "list", data := .seq vs.toArray }) (hi : IntsAre vs ns) (hl : ns.length ≤ sizeLine) (hr : Room k callerA)
    (Fd : ∀ base : Heap, K.In base → base.Ns mainGlobals mg → FnD P w K mg base k fa fd [x] m) (hbind : ∀ (s : Shared) (u : Value), BindsTo s fd ⟨[u], []⟩ [(x, u)])
    (hm : ∃ st', m [.scr ns] [] = some (.bl true, st')) :
    codeAny (model P w) callerA (.call (.ref fa) ⟨[.ref a], []⟩) (fun r s' => r = .ok (.ret (.bool true)) ∧ OldK s1.heap s'.heap ∧ s'.os = s1.os ∧ AllBare s'.gens) s1 := by
  obtain ⟨st', hm⟩ := hm
  have rv := vals_ints hi
  have lenV := hi.length
  let ob : Obj := { cls := .type "list", data := .seq vs.toArray }
  let emp : Rf := ⟨[], fun _ => False, fun _ => False⟩
  -- what is tracked: nothing, or the script alone
  have go : ∀ H : Hp, (∀ b u, H b = some u → b = a ∧ u = .frz ob (.lst (ns.map V.int))) → (H a ≠ none → K.lookup a = none) → Rep K emp H (.ref a) (.scr ns) →
      codeAny (model P w) callerA (.call (.ref fa) ⟨[.ref a], []⟩) (fun r s' => r = .ok (.ret (.bool true)) ∧ OldK s1.heap s'.heap ∧ s'.os = s1.os ∧ AllBare s'.gens) s1 := by
    intro H hH hK hrep
    have hok : HOk P w H s1.heap := fun b u e => by
      obtain ⟨rfl, rfl⟩ := hH b u e
      exact ⟨ha, by rw [List.length_map]; exact hl, vs, _, rv, ha⟩
    have keepNs : ∀ {b : Addr} {m : Str → Option Value}, s1.heap.Ns b m → (hidT s1.heap H).Ns b m := fun {b m} ⟨o, es, ep, e, d, r⟩ => by
      refine ⟨o, es, ep, hidT_get e ?_, d, r⟩
      cases q : H b with
      | none => rfl
      | some u =>
        obtain ⟨rfl, _⟩ := hH b u q
        rw [ha] at e
        cases e
        cases (show Data.seq vs.toArray _ = Data.dict es ep from d)
    have KB : K.In (hidT s1.heap H) := fun b o e => hidT_get (KX b o e) (by
      cases q : H b with
      | none => rfl
      | some u =>
        obtain ⟨rfl, _⟩ := hH b u q
        rw [hK (by rw [q]; simp)] at e
        cases e)
    have e0 : Env0 P w K mg (hidT s1.heap H) callerA [] s1 H :=
      ⟨rfl, ⟨KB, keepNs hns, ⟨mb, keepNs hb, hbb⟩, let ⟨mc, h1, h2⟩ := hlim; ⟨mc, keepNs h1, h2⟩⟩, fun b o e => of_hidT e, Nat.le_of_eq (hidT_size _ _), trivial, fun b hb => absurd (show b ∈ ([] : List Addr) from hb) (by simp), hok, .of_eq hg⟩
    have sim : Sim K emp H [] := ⟨rfl, List.nodup_nil, fun n a o h => by simp [emp] at h, fun p h => h.elim, fun p h => (by cases h), fun p h => h.elim⟩
    refine codeAny_mono ((Fd _ KB (keepNs hns)).run callerA [] s1 H ⟨[.ref a], []⟩ [.ref a] [.ref a] (fun v _ => v = .bl true) emp [.scr ns] [] st' (.bl true) rfl hr e0 (hbind s1 (.ref a)) (.cons rfl .nil) rfl (.cons hrep .nil) sim hm (fun v _ _ _ _ h => by cases h; rfl)) fun r s' h => ?_
    cases r with
    | error e => exact False.elim h
    | ok fl =>
      cases fl with
      | next => exact False.elim h
      | brk => exact False.elim h
      | cont => exact False.elim h
      | ret u =>
        obtain ⟨v, H', os, bare, un, hok', r', q⟩ := h
        subst q
        obtain rfl : u = Value.bool true := r'
        refine ⟨rfl, OldK.of_keep fun b o e => ?_, os, bare⟩
        cases q : H b with
        | none => exact un.keep b o e q (fun z => absurd (show b ∈ ([] : List Addr) from z) (by simp)) (by simp)
        | some u =>
          obtain ⟨rfl, rfl⟩ := hH b u q
          obtain ⟨e2, _⟩ := hok' b _ (un.frzs b _ _ q)
          rw [ha] at e
          cases e
          exact e2
  cases hk : K.lookup a with
  | some o =>
    have e := KX a o hk
    rw [ha] at e
    cases e
    exact go (fun _ => none) (fun _ _ h => by cases h) (fun h => absurd rfl h) (.scrK hk rfl rfl rfl (by rw [List.size_toArray, lenV]; exact hl) (by simpa using rv))
  | none =>
    refine go (fun b => if b = a then some (.frz ob (.lst (ns.map V.int))) else none) (fun b u h => ?_) (fun _ => hk) (.scr (if_pos rfl) fun h => h)
    by_cases z : b = a
    · have := (if_pos z).symm.trans h
      cases this
      exact ⟨z, rfl⟩
    · have := (if_neg z).symm.trans h
      cases this
/-- the goal that k_head leaves -/
theorem walkD {l : PySem.W.OpenLaw} {n k : Nat} {q : Program} {loose : List Str} {XP : (Str → Option Value) → Heap → Prop} {YP : World → Heap → Prop} {d : DefRec} {KK : Params → PySem.W.Frag} {x : Str} {m : FM}
    (hn : l.most = some n) (hn2 : n ≤ sizeLine) (hdf : d.params.defaults = []) (hr : Room k callerA) (hY : ∀ (w : World) (h : Heap), YP w h → (KK w.params).In h)
    (Fd : ∀ (w : World) (mg : Str → Option Value) (fa : Addr) (h : Heap), (KK w.params).In h → h.Ns mainGlobals mg → mg d.name = some (.ref fa) →
      ∃ fd : FuncData, (∀ (s : Shared) (u : Value), BindsTo s fd ⟨[u], []⟩ [(x, u)]) ∧ ∀ base : Heap, (KK w.params).In base → base.Ns mainGlobals mg → FnD l.prog w (KK w.params) mg base k fa fd [x] m)
    (hm : ∀ ns : List Int, ns.length ≤ n → (∀ z ∈ ns, Builtin.Int.intBits z ≤ 1048576) → ∃ st', m [.scr ns] [] = some (.bl true, st')) :
    PySem.W.WalkO q loose XP YP l.row.toRowW d [] (fun f vs => PySem.call f vs) := by
  refine Att.attach_callB hn hdf fun w s0 s1 mg mb fa o pm cd doc a vs ns G Y ho hd hcd hmg hobj hints hlen hbits hg => ?_
  obtain ⟨fd, hb, hF⟩ := Fd w mg fa _ (hY w _ Y) G.T.g hmg
  exact law_end (hY w _ Y) G.T.g G.T.b G.T.builtins G.T.nolimit hg hobj hints (Nat.le_trans hlen hn2) hr hF hb (hm ns hlen hbits)
end DL
namespace DL
open PySem PySem.Spec PyProof.Rows L2
variable {K : PySem.W.Frag}
/-! ### built-ins -/
section
variable {X : Cx} {W : WXd}
theorem CallOk.or {f : Value} {g g' : List D → Store → Option D} (h : CallOk X f g) (h' : CallOk X f g') : CallOk X f (fun ds st => (g ds st).or (g' ds st)) := by
  obtain ⟨r, hr, k⟩ := h
  obtain ⟨r', hr', k'⟩ := h'
  refine ⟨_, hr.or hr', fun rho H xs ds d st Q rl si e q => ?_⟩
  cases z : g ds st with
  | some c =>
    simp only [z, Option.some_or] at e
    cases e
    exact .inl (k rho H xs ds _ st Q rl si z q)
  | none =>
    simp only [z, Option.none_or] at e
    exact .inr (k' rho H xs ds d st Q rl si e q)
/-- len -/
def lenL : List D → Store → Option D := fun ds st => match ds with
  | [.str x] => if x.length ≤ sizeLine then some (.int x.length) else none
  | [.lst xs] => some (.int xs.length)
  | [.tup xs] => some (.int xs.length)
  | [.scr ns] => some (.int ns.length)
  | [.ref n] => (match st[n]? with | some (.lst xs) => some (.int xs.length) | _ => none)
  | _ => none
theorem lst1 {r : Rf} {H : Hp} {vs : List V} {d : D} (l : RepL K r H vs [d]) : ∃ v, vs = [v] ∧ Rep K r H v d := by
  cases l with
  | cons a b => cases b; exact ⟨_, rfl, a⟩
theorem lst2 {r : Rf} {H : Hp} {vs : List V} {d e : D} (l : RepL K r H vs [d, e]) : ∃ v u, vs = [v, u] ∧ Rep K r H v d ∧ Rep K r H u e := by
  cases l with
  | cons a b =>
    obtain ⟨u, rfl, c⟩ := lst1 b
    exact ⟨_, u, rfl, a, c⟩
theorem ok_lenL : CallOk X (.builtin "len") lenL := ⟨_, call_len, fun rho H xs ds d st Q rl si e q => by
  unfold lenL at e
  split at e
  · obtain ⟨v, rfl, p⟩ := lst1 rl
    cases p
    split at e
    · rename_i hl
      cases e
      exact ⟨_, _, rfl, ⟨hl, rfl⟩, q _ H (fun _ _ h => h) (.int _)⟩
    · cases e
  · obtain ⟨v, rfl, p⟩ := lst1 rl
    cases e
    cases p with
    | lst a b c => exact ⟨_, _, rfl, .inl ⟨_, .of a, rfl⟩, by rw [c.len]; exact q _ H (fun _ _ h => h) (.int _)⟩
  · obtain ⟨v, rfl, p⟩ := lst1 rl
    cases e
    obtain ⟨a, us, rfl, s, l⟩ := p.sqT
    exact ⟨_, _, rfl, .inr ⟨_, s, rfl⟩, by rw [l.len]; exact q _ H (fun _ _ h => h) (.int _)⟩
  · rename_i ns
    obtain ⟨v, rfl, p⟩ := lst1 rl
    cases e
    obtain ⟨a, rfl, s⟩ := p.scrL
    exact ⟨_, _, rfl, .inl ⟨_, s, rfl⟩, by rw [List.length_map]; exact q _ H (fun _ _ h => h) (.int _)⟩
  · obtain ⟨v, rfl, p⟩ := lst1 rl
    obtain ⟨a, rfl, hp⟩ := p.refI
    split at e
    · rename_i xs hst
      cases e
      obtain ⟨av, us, hx, l⟩ := si.ob _ a _ hp hst
      exact ⟨_, _, rfl, .inl ⟨_, .of hx, rfl⟩, by rw [l.len]; exact q _ H (fun _ _ h => h) (.int _)⟩
    · cases e
  · cases e⟩
theorem call_lenK : CallR X (.builtin "len") (fun xs H Q => ∃ p kvs, xs = [.ref p] ∧ Rd H p (.dK kvs) ∧ Q (.int kvs.length) H) := by
  intro pins s σ H xs us Q I r h
  obtain ⟨p, kvs, rfl, hp, q⟩ := h
  obtain ⟨u, rfl, rx⟩ := vals1 r
  cases rx
  exact d_len I hp fun t s' I' => ⟨.int kvs.length, H, I', ⟨t, rfl⟩, q⟩
def lenK : List D → Store → Option D := fun ds st => match ds with
  | [.dct kvs] => some (.int kvs.length)
  | [.ref n] => (match st[n]? with | some (.dct kvs) => some (.int kvs.length) | some (.ldc kvs) => some (.int kvs.length) | _ => none)
  | _ => none
theorem ok_lenK : CallOk X (.builtin "len") lenK := ⟨_, call_lenK, fun rho H xs ds d st Q rl si e q => by
  unfold lenK at e
  split at e
  · obtain ⟨v, rfl, p⟩ := lst1 rl
    cases e
    cases p with
    | dct a b c => exact ⟨_, _, rfl, .inr ⟨_, a⟩, by rw [c.len]; exact q _ H (fun _ _ h => h) (.int _)⟩
  · obtain ⟨v, rfl, p⟩ := lst1 rl
    obtain ⟨a, rfl, hp⟩ := p.refI
    split at e
    · rename_i xs hst
      cases e
      obtain ⟨av, us, hx, l⟩ := si.ob _ a _ hp hst
      exact ⟨_, _, rfl, .inl hx, by rw [l.len]; exact q _ H (fun _ _ h => h) (.int _)⟩
    · rename_i xs hst
      cases e
      obtain ⟨av, lk, o, us, hx, l⟩ := si.ob _ a _ hp hst
      exact ⟨_, _, rfl, .inr ⟨_, hx⟩, by rw [l.len]; exact q _ H (fun _ _ h => h) (.int _)⟩
    · cases e
  · cases e⟩
def bLen : List D → Store → Option D := fun ds st => (lenL ds st).or (lenK ds st)
theorem ok_len : CallOk X (.builtin "len") bLen := ok_lenL.or ok_lenK
/-- list(x) -/
def listSeq : List D → Store → Option D := fun ds st => match ds with
  | [.lst xs] => some (.lst xs)
  | [.tup xs] => some (.lst xs)
  | [.scr ns] => some (.lst (ns.map .int))
  | [.ref n] => (match st[n]? with | some (.lst xs) => some (.lst xs) | _ => none)
  | _ => none
theorem fresh_lst {r : Rf} {H : Hp} {st : Store} {p : Addr} {vs : List V} {ds : List D} (si : Sim K r H st) (hp : H p = none) (l : RepL K r H vs ds) : Rep K r (upd H p (.lst vs)) (.ref p) (.lst ds) := .lst upd_same (si.free hp) (l.ex (Ex.same r (same_alloc hp)))
theorem fresh_tup {r : Rf} {H : Hp} {st : Store} {p : Addr} {o : Obj} {vs : List V} {ds : List D} (si : Sim K r H st) (hp : H p = none) (hz : o.dict = none) (l : RepL K r H vs ds) : Rep K r (upd H p (.frz o (.tup vs))) (.ref p) (.tup ds) := .tup upd_same hz (si.free hp) (l.ex (Ex.same r (same_alloc hp)))
theorem ok_listSeq : CallOk X (.type "list") listSeq := ⟨_, call_list_of, fun rho H xs ds d st Q rl si e q => by
  unfold listSeq at e
  split at e
  · obtain ⟨v, rfl, p⟩ := lst1 rl
    cases e
    cases p with
    | lst a b c => exact ⟨_, _, rfl, .inl (.of a), fun l hl => q _ _ (same_alloc hl) (fresh_lst si hl c)⟩
  · obtain ⟨v, rfl, p⟩ := lst1 rl
    cases e
    obtain ⟨a, us, rfl, s, l⟩ := p.sqT
    exact ⟨_, _, rfl, .inr s, fun p hl => q _ _ (same_alloc hl) (fresh_lst si hl l)⟩
  · obtain ⟨v, rfl, p⟩ := lst1 rl
    cases e
    obtain ⟨a, rfl, s⟩ := p.scrL
    exact ⟨_, _, rfl, .inl s, fun p hl => q _ _ (same_alloc hl) (fresh_lst si hl (RepL.ofInts _))⟩
  · obtain ⟨v, rfl, p⟩ := lst1 rl
    obtain ⟨a, rfl, hp⟩ := p.refI
    split at e
    · rename_i xs hst
      cases e
      obtain ⟨av, us, hx, l⟩ := si.ob _ a _ hp hst
      exact ⟨_, _, rfl, .inl (.of hx), fun p hl => q _ _ (same_alloc hl) (fresh_lst si hl l)⟩
    · cases e
  · cases e⟩
theorem call_list_txt (hc : X.calm = true) : CallR X (.type "list") (fun xs H Q => ∃ x, xs = [.str x] ∧ x.length ≤ sizeLine ∧ ∀ p, H p = none → Q (.ref p) (upd H p (.lst (x.cps.toList.map fun c => V.str ⟨#[c]⟩)))) := by
  intro pins s σ H xs us Q I r h
  obtain ⟨x, rfl, hz, q⟩ := h
  obtain ⟨u, rfl, t, rfl⟩ := vals1 r
  refine call_list_str (I.ok.hd hc) x t (fun h' tk acc c' hk hS hacc => ?_) hz
  refine ⟨.ref s.heap.objs.size, _, I.laid (t' := tk) hk (Nat.le_refl _) ?_, rfl, q _ (I.hok.fresh (Nat.le_refl _))⟩
  refine ⟨by rw [List.length_map, Array.length_toList]; exact hz, acc.toList, c', ?_, by simpa using hS⟩
  refine vals_of_at ?_ fun j v w hv hw => ?_
  · rw [List.length_map, Array.length_toList, Array.length_toList, hacc.1]
  · obtain ⟨c, t2, h1, h2⟩ := hacc.2 j w (by simpa using hw)
    rw [List.getElem?_map] at hv
    have : x.cps.toList[j]? = some c := by simpa using h1
    rw [this] at hv
    cases hv
    exact ⟨t2, h2⟩
def listTxt : List D → Store → Option D := fun ds _ => match ds with
  | [.str x] => if x.length ≤ sizeLine then some (.lst (x.cps.toList.map fun c => .str ⟨#[c]⟩)) else none
  | _ => none
theorem RepL.signs {r : Rf} {H : Hp} : ∀ l : List Nat, RepL K r H (l.map fun c => V.str ⟨#[c]⟩) (l.map fun c => D.str ⟨#[c]⟩)
  | [] => .nil
  | c :: l => .cons (.str _) (RepL.signs l)
theorem ok_listTxt {k : Nat} (g : GX X k) : CallOk X (.type "list") listTxt := ⟨_, call_list_txt g.calm, fun rho H xs ds d st Q rl si e q => by
  unfold listTxt at e
  split at e
  · obtain ⟨v, rfl, p⟩ := lst1 rl
    cases p
    split at e
    · rename_i hl
      cases e
      exact ⟨_, rfl, hl, fun p hp => q _ _ (same_alloc hp) (fresh_lst si hp (RepL.signs _))⟩
    · cases e
  · cases e⟩
def bList : List D → Store → Option D := fun ds st => (listSeq ds st).or (listTxt ds st)
theorem ok_list {k : Nat} (g : GX X k) : CallOk X (.type "list") bList := ok_listSeq.or (ok_listTxt g)
/-- tuple(x) -/
def bTuple : List D → Store → Option D := fun ds st => match ds with
  | [.lst xs] => some (.tup xs)
  | [.tup xs] => some (.tup xs)
  | [.ref n] => (match st[n]? with | some (.lst xs) => some (.tup xs) | _ => none)
  | _ => none
theorem ok_tuple : CallOk X (.type "tuple") bTuple := ⟨_, call_tupF, fun rho H xs ds d st Q rl si e q => by
  unfold bTuple at e
  split at e
  · obtain ⟨v, rfl, p⟩ := lst1 rl
    cases e
    cases p with
    | lst a b c => exact ⟨_, _, rfl, .inl ⟨.of a, fun l o hl hz => q _ _ (same_alloc hl) (fresh_tup si hl hz c)⟩⟩
  · obtain ⟨v, rfl, p⟩ := lst1 rl
    cases e
    obtain ⟨a, us, rfl, s, l⟩ := p.sqT
    exact ⟨_, _, rfl, .inr ⟨s, q _ H (fun _ _ h => h) p⟩⟩
  · obtain ⟨v, rfl, p⟩ := lst1 rl
    obtain ⟨a, rfl, hp⟩ := p.refI
    split at e
    · rename_i xs hst
      cases e
      obtain ⟨av, us, hx, l⟩ := si.ob _ a _ hp hst
      exact ⟨_, _, rfl, .inl ⟨.of hx, fun p o hl hz => q _ _ (same_alloc hl) (fresh_tup si hl hz l)⟩⟩
    · cases e
  · cases e⟩
/-- int(x) of an int, a bool -/
def bInt : List D → Store → Option D := fun ds _ => match ds with
  | [.int i] => some (.int i)
  | [.bl b] => some (.int (if b then 1 else 0))
  | _ => none
theorem ok_intT : CallOk X (.type "int") bInt := ⟨_, call_int1, fun rho H xs ds d st Q rl si e q => by
  unfold bInt at e
  split at e
  · obtain ⟨v, rfl, p⟩ := lst1 rl
    cases p
    cases e
    exact .inl ⟨_, rfl, q _ H (fun _ _ h => h) (.int _)⟩
  · obtain ⟨v, rfl, p⟩ := lst1 rl
    cases p
    cases e
    exact .inr ⟨_, rfl, q _ H (fun _ _ h => h) (.int _)⟩
  · cases e⟩
def bMax : List D → Store → Option D := fun ds _ => match ds with | [.int i, .int j] => some (.int (if j > i then j else i)) | _ => none
def bMin : List D → Store → Option D := fun ds _ => match ds with | [.int i, .int j] => some (.int (if j < i then j else i)) | _ => none
theorem ok_max {k : Nat} (g : GX X k) : CallOk X (.builtin "max") bMax := ⟨_, call_max2 g.calm, fun rho H xs ds d st Q rl si e q => by
  unfold bMax at e
  split at e
  · obtain ⟨v, u, rfl, p1, p2⟩ := lst2 rl
    cases p1
    cases p2
    cases e
    exact ⟨_, _, rfl, q _ H (fun _ _ h => h) (.int _)⟩
  · cases e⟩
theorem ok_min {k : Nat} (g : GX X k) : CallOk X (.builtin "min") bMin := ⟨_, call_min2 g.calm, fun rho H xs ds d st Q rl si e q => by
  unfold bMin at e
  split at e
  · obtain ⟨v, u, rfl, p1, p2⟩ := lst2 rl
    cases p1
    cases p2
    cases e
    exact ⟨_, _, rfl, q _ H (fun _ _ h => h) (.int _)⟩
  · cases e⟩
/-- all, any of bools -/
def bools : List D → Option (List Bool)
  | [] => some []
  | .bl b :: ds => (bools ds).map (b :: ·)
  | _ :: _ => none
theorem RepL.bools {r : Rf} {H : Hp} : ∀ {ds : List D} {vs : List V} {bs : List Bool}, RepL K r H vs ds → DL.bools ds = some bs → vs = bs.map V.bl
  | [], _, _, .nil, h => by cases h; rfl
  | .bl b :: ds, _, _, .cons (.bl _) l, h => by
    obtain ⟨c, h1, h2⟩ := Option.map_eq_some_iff.mp (show (DL.bools ds).map (b :: ·) = _ from h)
    subst h2
    rw [List.map_cons, RepL.bools l h1]
  | .non :: _, _, _, _, h => by cases h
  | .int _ :: _, _, _, _, h => by cases h
  | .str _ :: _, _, _, _, h => by cases h
  | .tup _ :: _, _, _, _, h => by cases h
  | .lst _ :: _, _, _, _, h => by cases h
  | .dct _ :: _, _, _, _, h => by cases h
  | .scr _ :: _, _, _, _, h => by cases h
  | .ref _ :: _, _, _, _, h => by cases h
def bAll : List D → Store → Option D := fun ds _ => match ds with | [.lst xs] => (bools xs).map fun bs => .bl (bs.all id) | _ => none
def bAny : List D → Store → Option D := fun ds _ => match ds with | [.lst xs] => (bools xs).map fun bs => .bl (bs.any id) | _ => none
theorem ok_all {k : Nat} (g : GX X k) : CallOk X (.builtin "all") bAll := ⟨_, cr_all g.calm, fun rho H xs ds d st Q rl si e q => by
  unfold bAll at e
  split at e
  · obtain ⟨v, rfl, p⟩ := lst1 rl
    obtain ⟨bs, h1, h2⟩ := Option.map_eq_some_iff.mp e
    subst h2
    cases p with
    | lst a b c =>
      have := c.bools h1
      subst this
      exact ⟨_, bs, rfl, .of a, q _ H (fun _ _ h => h) (.bl _)⟩
  · cases e⟩
theorem ok_any {k : Nat} (g : GX X k) : CallOk X (.builtin "any") bAny := ⟨_, cr_any g.calm, fun rho H xs ds d st Q rl si e q => by
  unfold bAny at e
  split at e
  · obtain ⟨v, rfl, p⟩ := lst1 rl
    obtain ⟨bs, h1, h2⟩ := Option.map_eq_some_iff.mp e
    subst h2
    cases p with
    | lst a b c =>
      have := c.bools h1
      subst this
      exact ⟨_, bs, rfl, .of a, q _ H (fun _ _ h => h) (.bl _)⟩
  · cases e⟩
/-- sep.join(texts) -/
def strsD : List D → Option (List Str)
  | [] => some []
  | .str x :: ds => (strsD ds).map (x :: ·)
  | _ :: _ => none
theorem RepL.strs' {r : Rf} {H : Hp} : ∀ {ds : List D} {vs : List V} {ys : List Str}, RepL K r H vs ds → strsD ds = some ys → vs = ys.map V.str
  | [], _, _, .nil, h => by cases h; rfl
  | .str b :: ds, _, _, .cons (.str _) l, h => by
    obtain ⟨c, h1, h2⟩ := Option.map_eq_some_iff.mp (show (strsD ds).map (b :: ·) = _ from h)
    subst h2
    rw [List.map_cons, RepL.strs' l h1]
  | .non :: _, _, _, _, h => by cases h
  | .int _ :: _, _, _, _, h => by cases h
  | .bl _ :: _, _, _, _, h => by cases h
  | .tup _ :: _, _, _, _, h => by cases h
  | .lst _ :: _, _, _, _, h => by cases h
  | .dct _ :: _, _, _, _, h => by cases h
  | .scr _ :: _, _, _, _, h => by cases h
  | .ref _ :: _, _, _, _, h => by cases h
/-- a method of a built-in type: the receiver, the arguments -/
def MtOk (X : Cx) (T id : String) (g : D → List D → Option D) : Prop :=
  ∃ r, MtR X id r ∧ ∀ (rho : Rf) (H : Hp) (x : V) (a : D) (Q : VK) , Rep X.K rho H x a → (∃ ds d, g a ds = some d) → tyV X.K T x H
def fMt (g : D → List D → Option D) (fo : F) (fa : FA) : F := fun env st => (fo env st).bind fun p => (fa env p.2).bind fun q => (g p.1 q.1).map fun d => (d, q.2)
/-- one argument; the receiver keeps its type -/
theorem de_mt {T id : String} {name : Str} {g : D → List D → Option D} {r : V → List V → Hp → VK → Prop} {o e : Expr} {es : List Expr} {fo : F} {fa : FA} {apos cpos : Pos}
    (hm : MtR X id r) (ty : ∀ (rho : Rf) (H : Hp) (x : V) (a : D) ds d, Rep X.K rho H x a → g a ds = some d → tyV X.K T x H)
    (ok : ∀ (rho : Rf) (H : Hp) (x : V) (xs : List V) (a : D) (ds : List D) (d : D) (st : Store) (Q : VK), Rep X.K rho H x a → RepL X.K rho H xs ds → Sim X.K rho H st → g a ds = some d → (∀ v H', Same H H' → Rep X.K rho H' v d → Q v H') → r x xs H Q)
    (pa : PlainAttrs T) (slot : Slot T name id) (hty : typeOf (.builtin id) = pure (.type "method_descriptor")) (ho : DE X o fo) (ha : DA X (e :: es) fa)
    (hbase : attributeBase o name X.env (eval o X.env) = eval o X.env := by rfl)
    (hfew : ((backTo cpos (starEach (e :: es) X.env)).all (fun x => !x.1) && (backToKw cpos (keywordEach [] X.env)).all (fun x => x.1.isSome)
      && decide ((e :: es).length + ([] : List Keyword).length + (if ([] : List Keyword).isEmpty then 0 else 1) < 30)) = true := by rfl)
    (hline : (apos.endLine == cpos.line) = true := by rfl) (hs : starEach (e :: es) X.env = (false, eval e X.env) :: starEach es X.env := by rfl) (hplain : (backTo cpos (starEach es X.env)).any (·.1) = false := by rfl) :
    DE X (.Call (.Attribute o name apos) (e :: es) [] cpos) (fMt g fo fa) :=
  weakE (pe_bm pa slot hty hm ho ha hbase hfew hline hs hplain) fun σ H Q hh => by
  obtain ⟨r', env, st, d, st', he, hs, hf, q⟩ := hh
  obtain ⟨⟨x, s1⟩, h1, hf1⟩ := Option.bind_eq_some_iff.mp hf
  obtain ⟨⟨ys, s2⟩, h2, hf2⟩ := Option.bind_eq_some_iff.mp hf1
  obtain ⟨d', h3, hf3⟩ := Option.map_eq_some_iff.mp hf2
  cases hf3
  exact ⟨r', env, st, x, s1, he, hs, h1, fun u r1 H1 e1 q1 p1 => ⟨ty r1 H1 u x ys d p1 h3, r1, env, s1, ys, _, he.ext e1, q1, h2, fun us r2 H2 e2 q2 l2 =>
    ok r2 H2 u us x ys d _ Q (p1.ext e2) l2 q2 h3 fun w H3 sm pw => q w r2 H3 ((e1.trans e2).trans (q2.ext sm)) (q2.same sm) pw⟩⟩
def joinD : D → List D → Option D := fun a ds => match a, ds with
  | .str x, [.lst xs] => (strsD xs).bind fun ys => if (ys.map (·.length)).sum + ys.length * x.length ≤ 16777216 then some (.str (Txt.join x ys)) else none
  | _, _ => none
theorem strTy {g : D → List D → Option D} (h : ∀ a ds d, g a ds = some d → ∃ x, a = .str x) : ∀ (rho : Rf) (H : Hp) (x : V) (a : D) ds d, Rep X.K rho H x a → g a ds = some d → tyV X.K "str" x H := fun rho H x a ds d ra e => by
  obtain ⟨z, rfl⟩ := h a ds d e
  cases ra
  exact rfl
theorem joinOk : ∀ (rho : Rf) (H : Hp) (x : V) (xs : List V) (a : D) (ds : List D) (d : D) (st : Store) (Q : VK), Rep X.K rho H x a → RepL X.K rho H xs ds → Sim X.K rho H st → joinD a ds = some d → (∀ v H', Same H H' → Rep X.K rho H' v d → Q v H') →
    ∃ a p, ∃ ys : List Str, x = .str a ∧ xs = [.ref p] ∧ (SqL X.K H p (ys.map V.str) ∨ SqT X.K H p (ys.map V.str)) ∧ (ys.map (·.length)).sum + ys.length * a.length ≤ 16777216 ∧ Q (.str (Txt.join a ys)) H := by
  intro rho H x xs a ds d st Q ra rl si e q
  unfold joinD at e
  split at e
  · rename_i z zs
    obtain ⟨ys, h1, h2⟩ := Option.bind_eq_some_iff.mp e
    split at h2
    · rename_i hl
      cases h2
      cases ra
      obtain ⟨v, rfl, p⟩ := lst1 rl
      cases p with
      | lst g1 g2 g3 =>
        have := g3.strs' h1
        subst this
        exact ⟨z, _, ys, rfl, rfl, .inl (.of g1), hl, q _ H (fun _ _ h => h) (.str _)⟩
    · cases h2
  · cases e
theorem joinTy : ∀ (rho : Rf) (H : Hp) (x : V) (a : D) ds d, Rep X.K rho H x a → joinD a ds = some d → tyV X.K "str" x H := strTy fun a ds d e => by
  unfold joinD at e
  split at e
  · exact ⟨_, rfl⟩
  · cases e
def startsD : D → List D → Option D := fun a ds => match a, ds with
  | .str x, [.str y] => some (.bl (Txt.startswith x y))
  | _, _ => none
theorem startsOk : ∀ (rho : Rf) (H : Hp) (x : V) (xs : List V) (a : D) (ds : List D) (d : D) (st : Store) (Q : VK), Rep X.K rho H x a → RepL X.K rho H xs ds → Sim X.K rho H st → startsD a ds = some d → (∀ v H', Same H H' → Rep X.K rho H' v d → Q v H') →
    ∃ a b, x = .str a ∧ xs = [.str b] ∧ Q (.bl (Txt.startswith a b)) H := by
  intro rho H x xs a ds d st Q ra rl si e q
  unfold startsD at e
  split at e
  · cases ra
    obtain ⟨v, rfl, p⟩ := lst1 rl
    cases p
    cases e
    exact ⟨_, _, rfl, rfl, q _ H (fun _ _ h => h) (.bl _)⟩
  · cases e
theorem startsTy : ∀ (rho : Rf) (H : Hp) (x : V) (a : D) ds d, Rep X.K rho H x a → startsD a ds = some d → tyV X.K "str" x H := strTy fun a ds d e => by
  unfold startsD at e
  split at e
  · exact ⟨_, rfl⟩
  · cases e

/-! ### one value -/
def fUn (g : D → Option D) (fa : F) : F := fun env st => (fa env st).bind fun p => (g p.1).map fun d => (d, p.2)
def negI : D → Option D | .int i => some (.int (-i)) | _ => none
theorem de_neg {a : Expr} {fa : F} {pos : Pos} (ha : DE X a fa) : DE X (.UnaryOp .USub a pos) (fUn negI fa) := weakE (pe_un un_neg ha) fun σ H Q hh => by
  obtain ⟨r', env, st, d, st', he, hs, hf, q⟩ := hh
  obtain ⟨⟨x, s1⟩, h1, hf1⟩ := Option.bind_eq_some_iff.mp hf
  obtain ⟨d', h2, hf2⟩ := Option.map_eq_some_iff.mp hf1
  cases hf2
  refine ⟨r', env, st, x, _, he, hs, h1, fun u r1 H1 e1 q1 p1 => ?_⟩
  cases x with
  | int i =>
    cases h2
    cases p1
    exact ⟨i, rfl, q _ r1 H1 e1 q1 (.int _)⟩
  | _ => cases h2
/-- isinstance(x, T), T a built-in type -/
def tyOb : Option Ob → Option String | some (.lst _) => some "list" | some (.dct _) => some "dict" | some (.ldc _) => some "dict" | _ => none
def tyD : D → Store → Option String := fun d st => match d with
  | .non => some "NoneType" | .bl _ => some "bool" | .int _ => some "int" | .str _ => some "str" | .tup _ => some "tuple" | .lst _ => some "list" | .dct _ => some "dict" | .scr _ => some "list"
  | .ref n => tyOb st[n]?
def isiB (a T : String) : Bool := a == T || (a == "bool" && T == "int")
def fIsi (T : String) (f : F) : F := fun env st => (f env st).bind fun p => (tyD p.1 p.2).map fun a => (.bl (isiB a T), p.2)
theorem tyX_of {r : Rf} {H : Hp} {v : V} {d : D} {st : Store} {t : String} (h : Rep K r H v d) (si : Sim K r H st) (e : tyD d st = some t) : TyX K H v (.type t) := by
  cases d with
  | non => cases h; cases e; exact .base .non
  | bl b => cases h; cases e; exact .base (.bl b)
  | int b => cases h; cases e; exact .base (.int b)
  | str b => cases h; cases e; exact .base (.str b)
  | tup ds =>
    cases e
    cases h with
    | tup a z b c => exact .fTuple a
    | tupP a b c => exact .base (.tup a)
    | tupK a b z c d f l => exact .kTuple a b
  | lst ds =>
    cases e
    cases h with
    | lst a b c => exact .base (.lst a)
  | dct ds =>
    cases e
    cases h with
    | dct a b c => exact .fDict a
  | scr ns =>
    cases e
    cases h with
    | scr a b => exact .base (.frz a)
    | scrK a b c d e f => exact .kList a b
  | ref n =>
    obtain ⟨a, rfl, hp⟩ := h.refI
    have e' : tyOb st[n]? = some t := e
    unfold tyOb at e'
    split at e'
    · rename_i xs hst
      cases e'
      obtain ⟨av, us, hx, l⟩ := si.ob n a _ hp hst
      exact .base (.lst hx)
    · rename_i xs hst
      cases e'
      obtain ⟨av, us, hx, l⟩ := si.ob n a _ hp hst
      exact .base (.dK hx)
    · rename_i xs hst
      cases e'
      obtain ⟨av, lk, o, us, hx, l⟩ := si.ob n a _ hp hst
      exact .fDict hx
    · cases e'
def tyNames : List String := ["NoneType", "bool", "int", "str", "tuple", "list", "dict"]
theorem kit_all : ∀ a ∈ tyNames, ∀ T ∈ tyNames, kitB a T = some (isiB a T) := by decide +kernel
theorem tyD_mem {d : D} {st : Store} {t : String} (e : tyD d st = some t) : t ∈ tyNames := by
  cases d with
  | ref n =>
    have e' : tyOb st[n]? = some t := e
    unfold tyOb at e'
    split at e' <;> cases e' <;> decide
  | _ => cases e; decide
theorem de_isi {a : Expr} {fa : F} {T : String} {x : Str} {p p2 pos : Pos} (ha : DE X a fa) (hT : T ∈ tyNames) (hg : Gl X "isinstance") (hm : X.mg "isinstance" = none) (hg2 : Gl X x) (hm2 : X.mg x = none) (hv : bootBuiltins x = some (.type T)) (hn : x ≠ "__name__" := by decide) (hdb : (x == ("__debug__" : Str)) = false := by decide)
    (hs : starEach [a, .Name x p2] X.env = (false, eval a X.env) :: starEach [.Name x p2] X.env := by rfl) (hs2 : starEach [.Name x p2] X.env = [(false, eval (.Name x p2) X.env)] := by rfl) (hpl : (backTo pos (starEach [.Name x p2] X.env)).any (·.1) = false := by rfl) :
    DE X (.Call (.Name "isinstance" p) [a, .Name x p2] [] pos) (fIsi T fa) :=
  weakE (pe_callB call_isi hg hm PyProof.Rows.boot_isinstance (pa_cons ha (pa_cons (pe_bltn (v := .ty T) hg2 hm2 hv rfl hn hdb) pa_nil hs2) hs) (by decide) (by decide) hs hpl) fun σ H Q hh => by
  obtain ⟨r', env, st, d, st', he, hs, hf, q⟩ := hh
  obtain ⟨⟨y, s1⟩, h1, hf1⟩ := Option.bind_eq_some_iff.mp hf
  obtain ⟨t, h2, hf2⟩ := Option.map_eq_some_iff.mp hf1
  cases hf2
  refine ⟨r', env, st, y, _, he, hs, h1, fun u r1 H1 e1 q1 p1 => ?_⟩
  exact ⟨u, .ty T, .type t, .type T, isiB t T, rfl, .ty T, tyX_of p1 q1 h2, kit_ty (kit_all t (tyD_mem h2) T hT), q _ r1 H1 e1 q1 (.bl _)⟩

/-! ### in, not in: flat items -/
def eqF : D → D → Option Bool
  | .non, .non => some true | .non, .bl _ => some false | .non, .int _ => some false | .non, .str _ => some false
  | .bl _, .non => some false | .bl a, .bl b => some (a == b) | .bl a, .int b => some ((if a then 1 else 0) == b) | .bl _, .str _ => some false
  | .int _, .non => some false | .int a, .bl b => some (a == (if b then 1 else 0)) | .int a, .int b => some (a == b) | .int _, .str _ => some false
  | .str _, .non => some false | .str _, .bl _ => some false | .str _, .int _ => some false | .str a, .str b => some (a == b)
  | _, _ => none
/-- is x among the items -/
def anyF (x : D) : List D → Option Bool
  | [] => some false
  | y :: ys => (eqF y x).bind fun b => (anyF x ys).map fun c => b || c
def flatD : D → Bool | .non => true | .bl _ => true | .int _ => true | .str _ => true | _ => false
def inSeq (neg : Bool) : D → D → Option D := fun x y => match y with
  | .lst ds => if flatD x then (anyF x ds).map fun b => .bl (if neg then !b else b) else none
  | .tup ds => if flatD x then (anyF x ds).map fun b => .bl (if neg then !b else b) else none
  | _ => none
theorem eqF_rep {r : Rf} {H : Hp} {v u : V} {a b : D} {k : Bool} (ra : Rep K r H v a) (rb : Rep K r H u b) (e : eqF a b = some k) : eqV v u = k ∧ flatV v = true ∧ flatV u = true := by
  cases a <;> cases b <;> first
    | cases e; done
    | (cases ra; cases rb; cases e; exact ⟨rfl, rfl, rfl⟩)
theorem anyF_rep {r : Rf} {H : Hp} {x : V} {a : D} (ra : Rep K r H x a) : ∀ {ds : List D} {vs : List V} {k : Bool}, RepL K r H vs ds → anyF a ds = some k → inV x vs = k ∧ vs.all flatV = true
  | [], _, _, .nil, e => by cases e; exact ⟨rfl, rfl⟩
  | d :: ds, _, k, .cons p l, e => by
    obtain ⟨b, h1, h2⟩ := Option.bind_eq_some_iff.mp (show ((eqF d a).bind fun b => (anyF a ds).map fun c => b || c) = some k from e)
    obtain ⟨c, h3, h4⟩ := Option.map_eq_some_iff.mp h2
    obtain ⟨g1, g2⟩ := anyF_rep ra l h3
    obtain ⟨g3, g4, _⟩ := eqF_rep p ra h1
    refine ⟨?_, by rw [List.all_cons, g4, g2]; rfl⟩
    unfold inV at g1 ⊢
    rw [List.any_cons, g3, g1]; exact h4
theorem flat_rep {r : Rf} {H : Hp} {x : V} {a : D} (ra : Rep K r H x a) (h : flatD a = true) : flatV x = true := by
  cases a <;> first
    | cases h; done
    | (cases ra; rfl)
theorem inSeq_ok (neg : Bool) {rho : Rf} {H : Hp} {x y : V} {a b d : D} {Q : VK} (ra : Rep K rho H x a) (rb : Rep K rho H y b) (e : inSeq neg a b = some d) (q : ∀ v H', Same H H' → Rep K rho H' v d → Q v H') : rIn K neg x y H Q := by
  cases b with
  | lst ds =>
    have e' : (if flatD a then (anyF a ds).map fun b => D.bl (if neg then !b else b) else none) = some d := e
    by_cases fl : flatD a = true
    case neg => rw [if_neg fl] at e'; cases e'
    rw [if_pos fl] at e'
    obtain ⟨k, h1, h2⟩ := Option.map_eq_some_iff.mp e'
    subst h2
    cases rb with
    | lst g1 g2 g3 =>
      obtain ⟨z1, z2⟩ := anyF_rep ra g3 h1
      refine ⟨_, _, rfl, .inl (.of g1), flat_rep ra fl, z2, ?_⟩
      rw [z1]; exact q _ H (fun _ _ h => h) (.bl _)
  | tup ds =>
    have e' : (if flatD a then (anyF a ds).map fun b => D.bl (if neg then !b else b) else none) = some d := e
    by_cases fl : flatD a = true
    case neg => rw [if_neg fl] at e'; cases e'
    rw [if_pos fl] at e'
    obtain ⟨k, h1, h2⟩ := Option.map_eq_some_iff.mp e'
    subst h2
    obtain ⟨p, us, rfl, s, l⟩ := rb.sqT
    obtain ⟨z1, z2⟩ := anyF_rep ra l h1
    refine ⟨_, _, rfl, .inr s, flat_rep ra fl, z2, ?_⟩
    rw [z1]; exact q _ H (fun _ _ h => h) (.bl _)
  | _ => cases e
theorem ok_in : OpOk X (compareOp .In) (inSeq false) := ⟨_, op_in_seq, fun rho H x y a b d st Q si ra rb e q => inSeq_ok false ra rb e q⟩
theorem ok_notin : OpOk X (compareOp .NotIn) (inSeq true) := ⟨_, op_notIn_seq, fun rho H x y a b d st Q si ra rb e q => inSeq_ok true ra rb e q⟩
end
end DL
namespace DL
open PySem PySem.Spec PyProof.Rows L2
variable {K : PySem.W.Frag}
section
variable {X : Cx} {W : WXd}
theorem GX.blk {k : Nat} (g : GX X k) {s : Shared} {H : Hp} {sc : Scope} {ce : Env} {fp : List Addr} : GX (X.blk s H sc ce fp) k := ⟨g.calm, g.nd, g.room, g.gd⟩
/-- a, b = x, y -/
def par2 (i j : Nat) (ds : List D) (env : Lo) : Option Lo := match ds with | [x, y] => some ((env.set i (some x)).set j (some y)) | _ => none
def par3 (i j l : Nat) (ds : List D) (env : Lo) : Option Lo := match ds with | [x, y, z] => some (((env.set i (some x)).set j (some y)).set l (some z)) | _ => none
theorem par2_some {i j : Nat} {ds : List D} {env e : Lo} (h : par2 i j ds env = some e) : ∃ x y, ds = [x, y] ∧ e = (env.set i (some x)).set j (some y) := by
  unfold par2 at h
  split at h
  · cases h; exact ⟨_, _, rfl, rfl⟩
  · cases h
theorem par3_some {i j l : Nat} {ds : List D} {env e : Lo} (h : par3 i j l ds env = some e) : ∃ x y z, ds = [x, y, z] ∧ e = ((env.set i (some x)).set j (some y)).set l (some z) := by
  unfold par3 at h
  split at h
  · cases h; exact ⟨_, _, _, rfl, rfl⟩
  · cases h
def sPar (f : List D → Lo → Option Lo) (fa : FA) : FS := fun env st => (fa env st).bind fun p => (f p.1 env).map fun e => (.nx, e, p.2)
theorem ds_par2 (i j : Nat) {x y : Str} {a b : Expr} {fa : FA} {px py pt pos : Pos} {kt k2 : Nat} {pt2 : Pos} {k : Nat} (g : GX X k) (hi : X.N[i]? = some x) (hj : X.N[j]? = some y) (hij : i ≠ j)
    (hx : X.env.scope.names.lookup x = some .local) (hy : X.env.scope.names.lookup y = some .local) (ha : DA X [a, b] fa)
    (hw : swappedStores [.Tuple [.Name x px, .Name y py] kt pt] (.Tuple [a, b] k2 pt2) X.env = pure (some [x, y]) := by rfl)
    (hs : swapsWithSole [.Tuple [.Name x px, .Name y py] kt pt] (.Tuple [a, b] k2 pt2) pos.line X.env = pure false := by rfl) :
    DS X W (.Assign [.Tuple [.Name x px, .Name y py] kt pt] (.Tuple [a, b] k2 pt2) pos) (sPar (par2 i j) fa) := weakS (ps_par g.calm g.nd hi hj hij hx hy ha hw hs) fun D' σ H hh => by
  obtain ⟨r, env, st, o, env', st', he, hs, hf, q⟩ := hh
  obtain ⟨⟨ds, s1⟩, h1, h2⟩ := Option.bind_eq_some_iff.mp hf
  obtain ⟨e1, h3, h4⟩ := Option.map_eq_some_iff.mp h2
  cases h4
  obtain ⟨a, b, rfl, rfl⟩ := par2_some h3
  refine ⟨r, env, st, _, _, he, hs, h1, fun vs r1 H1 x1 q1 l1 => ?_⟩
  obtain ⟨v, u, rfl, p1, p2⟩ := lst2 l1
  exact ⟨v, u, rfl, q _ r1 H1 x1 (((he.ext x1).set p1 i).set p2 j) q1⟩
theorem lst3 {r : Rf} {H : Hp} {vs : List V} {d e f : D} (l : RepL K r H vs [d, e, f]) : ∃ v u w, vs = [v, u, w] ∧ Rep K r H v d ∧ Rep K r H u e ∧ Rep K r H w f := by
  cases l with
  | cons a b =>
    obtain ⟨u, w, rfl, c, d⟩ := lst2 b
    exact ⟨_, u, w, rfl, a, c, d⟩
theorem ds_par3 (i j l : Nat) {x y z : Str} {a b c : Expr} {fa : FA} {px py pz pt pos : Pos} {kt k2 : Nat} {pt2 : Pos} {k : Nat} (g : GX X k) (hi : X.N[i]? = some x) (hj : X.N[j]? = some y) (hl : X.N[l]? = some z) (hij : i ≠ j) (hil : i ≠ l) (hjl : j ≠ l)
    (hx : X.env.scope.names.lookup x = some .local) (hy : X.env.scope.names.lookup y = some .local) (hz : X.env.scope.names.lookup z = some .local) (ha : DA X [a, b, c] fa)
    (hw : swappedStores [.Tuple [.Name x px, .Name y py, .Name z pz] kt pt] (.Tuple [a, b, c] k2 pt2) X.env = pure (some [x, y, z]) := by rfl)
    (hs : swapsWithSole [.Tuple [.Name x px, .Name y py, .Name z pz] kt pt] (.Tuple [a, b, c] k2 pt2) pos.line X.env = pure false := by rfl) :
    DS X W (.Assign [.Tuple [.Name x px, .Name y py, .Name z pz] kt pt] (.Tuple [a, b, c] k2 pt2) pos) (sPar (par3 i j l) fa) := weakS (ps_par3 g.calm g.nd hi hj hl hij hil hjl hx hy hz ha hw hs) fun D' σ H hh => by
  obtain ⟨r, env, st, o, env', st', he, hs, hf, q⟩ := hh
  obtain ⟨⟨ds, s1⟩, h1, h2⟩ := Option.bind_eq_some_iff.mp hf
  obtain ⟨e1, h3, h4⟩ := Option.map_eq_some_iff.mp h2
  cases h4
  obtain ⟨a, b, c, rfl, rfl⟩ := par3_some h3
  refine ⟨r, env, st, _, _, he, hs, h1, fun vs r1 H1 x1 q1 l1 => ?_⟩
  obtain ⟨v, u, w, rfl, p1, p2, p3⟩ := lst3 l1
  exact ⟨v, u, w, rfl, q _ r1 H1 x1 ((((he.ext x1).set p1 i).set p2 j).set p3 l) q1⟩
theorem RepL.ofStrs {r : Rf} {H : Hp} : ∀ ys : List Str, RepL K r H (ys.map V.str) (ys.map D.str)
  | [] => .nil
  | y :: ys => .cons (.str y) (RepL.ofStrs ys)
/-- a constant of the module: a tuple of texts -/
theorem de_gtupS {x : Str} {a : Addr} {o : Obj} {its : Array Value} {n : Nat} {ys : List Str} {pos : Pos} (hg : Gl X x) (hm : X.mg x = some (.ref a)) (hl : X.K.lookup a = some o) (hc : o.cls = .type "tuple") (hx : o.dict = none) (hd : o.data = .seq its n) (hz : its.size ≤ sizeLine) (hv : Vals (ys.map V.str) its.toList)
    (hdb : (x == ("__debug__" : Str)) = false := by decide) : DE X (.Name x pos) (fC (.tup (ys.map .str))) :=
  de_c (pe_glob (v := .ref a) hg hm rfl hdb) fun r H => .tupK hl hc hx hd hz hv (RepL.ofStrs ys)
end
end DL
/-! The laws' tape of draws, once for all laws. -/
namespace DL
open PySem PySem.Spec PyProof.Rows L2
open Builtin.Int (intBits)
def gTape : FS := (sSeq (sAsg (fOp opAdd (fC (.int 97)) (fOp opMul (fVar 1) (fC (.int 31)))) (gN 2)) (sSeq (sFor (iOf asScr (fVar 0)) (gN 3) (sAsg (fOp opAdd (fOp modI (fOp powI (fOp opAdd (fOp opAdd (fOp opMul (fVar 2) (fC (.int 30011))) (fOp opMul (fVar 3) (fVar 3))) (fC (.int 7))) (fC (.int 2))) (fC (.int 2147483563))) (fC (.int 2))) (gN 2))) (sSeq (sAsg (fIfE (fAndT (fTest (fOp opLt (fVar 1) (fMk bLen (aCons (fVar 0) aNil)))) (fTest (fOp opGe (fSub (fVar 0) (fVar 1)) (fOp powI (fC (.int 10)) (fC (.int 18)))))) (fOp subI (fSub (fVar 0) (fVar 1)) (fOp powI (fC (.int 10)) (fC (.int 18)))) (fC (.int 0))) (gN 4)) (sRet (fDict (((fC (.str (Str.ofString "digits"))), (fVar 4)) :: (((fC (.str (Str.ofString "mixed"))), (fVar 2)) :: [])))))))
def gPick : FS := (sSeq (sIf (fTest (fOp opGe (fSub (fVar 0) (fC (.str (Str.ofString "digits")))) (fVar 1))) (sSeq (sAsg (fOp modI (fSub (fVar 0) (fC (.str (Str.ofString "digits")))) (fVar 1)) (gN 2)) (sSeq (sPut (fVar 0) (fC (.str (Str.ofString "digits"))) (fOp fdivI (fSub (fVar 0) (fC (.str (Str.ofString "digits")))) (fVar 1))) (sRet (fVar 2)))) sNil) (sSeq (sPut (fVar 0) (fC (.str (Str.ofString "mixed"))) (fOp modI (fOp opAdd (fOp opMul (fSub (fVar 0) (fC (.str (Str.ofString "mixed")))) (fC (.int 40014))) (fC (.int 1013))) (fC (.int 2147483563)))) (sRet (fOp modI (fOp fdivI (fOp modI (fOp powI (fOp modI (fOp powI (fSub (fVar 0) (fC (.str (Str.ofString "mixed")))) (fC (.int 2))) (fC (.int 2147483399))) (fC (.int 3))) (fC (.int 998244353))) (fC (.int 5))) (fVar 1)))))
def mTape : FM := mOf 5 gTape
def mPick : FM := mOf 3 gPick
def gOne : FS := (sRet (fSub (fVar 1) (fCall mPick (aCons (fVar 0) (aCons (fMk bLen (aCons (fVar 1) aNil)) aNil)))))
def mOne : FM := mOf 2 gOne
abbrev kD : Key := .inr (Str.ofString "digits")
abbrev kM : Key := .inr (Str.ofString "mixed")
theorem kDM : ¬ Str.ofString "digits" = Str.ofString "mixed" := by decide
theorem kMD : ¬ Str.ofString "mixed" = Str.ofString "digits" := by decide
/-- the tape's pairs -/
def tapeKV (a b : Int) : List (Key × D) := [(kD, .int a), (kM, .int b)]
theorem tape_valD (a b : Int) : valD (tapeKV a b) kD = some (.int a) := by simp [valD, tapeKV]
theorem tape_valM (a b : Int) : valD (tapeKV a b) kM = some (.int b) := by simp [valD, tapeKV, kDM]
theorem tape_putD (a b c : Int) : putD (tapeKV a b) kD (.int c) = tapeKV c b := by simp [putD, tapeKV, kDM, kMD]
theorem tape_putM (a b c : Int) : putD (tapeKV a b) kM (.int c) = tapeKV a c := by simp [putD, tapeKV, kDM, kMD]
/-- the tape at n -/
structure Tp (st : Store) (n : Nat) : Prop where
  at_ : ∃ a b : Int, st[n]? = some (.dct (tapeKV a b)) ∧ 0 ≤ a ∧ 0 ≤ b ∧ b < 4294967296
/-- nothing else has changed -/
structure Fr (n : Nat) (st st' : Store) : Prop where
  len : st.length ≤ st'.length
  at_ : ∀ m, m ≠ n → m < st.length → st'[m]? = st[m]?
theorem Fr.refl (n : Nat) (st : Store) : Fr n st st := ⟨Nat.le_refl _, fun _ _ _ => rfl⟩
theorem Fr.trans {n : Nat} {a b c : Store} (x : Fr n a b) (y : Fr n b c) : Fr n a c := ⟨Nat.le_trans x.len y.len, fun m h1 h2 => (y.at_ m h1 (Nat.lt_of_lt_of_le h2 x.len)).trans (x.at_ m h1 h2)⟩
theorem Fr.set {n : Nat} {st : Store} (o : Ob) : Fr n st (st.set n o) := ⟨by rw [List.length_set]; exact Nat.le_refl _, fun m h _ => by rw [List.getElem?_set_ne (Ne.symm h)]⟩
theorem Tp.lt {st : Store} {n : Nat} (h : Tp st n) : n < st.length := let ⟨_, _, e, _⟩ := h.at_; (List.getElem?_eq_some_iff.mp e).1
theorem bits32 {x : Int} (h0 : 0 ≤ x) (h1 : x < 4294967296) : intBits x ≤ 32 := intBits_le_iff.mpr (by omega)
theorem opAdd_int (a b : Int) : opAdd (.int a) (.int b) = some (.int (a + b)) := by simp [opAdd, orD, addI, onI]
theorem opMul_int {a b : Int} {m n : Nat} (ha : intBits a ≤ m) (hb : intBits b ≤ n) (h : m + n ≤ 134217728) : opMul (.int a) (.int b) = some (.int (a * b)) := by
  have : intBits a + intBits b ≤ 134217728 := by omega
  simp [opMul, orD, mulI, onI, this]
theorem modI_int {a b : Int} (h : 0 < b) : modI (.int a) (.int b) = some (.int (a % b)) := by simp [modI, onI, h]
theorem fdivI_int {a b : Int} (h : 0 < b) (h2 : b < 1073741824) : fdivI (.int a) (.int b) = some (.int (a / b)) := by simp [fdivI, onI, h, h2]
theorem powI_int {a b : Int} {m : Nat} (h0 : 0 ≤ b) (ha : intBits a ≤ m) (h : (m : Int) * b ≤ 134217728) : powI (.int a) (.int b) = some (.int (a ^ b.toNat)) := by
  have : (intBits a : Int) * b ≤ 134217728 := Int.le_trans (Int.mul_le_mul_of_nonneg_right (Int.ofNat_le.mpr ha) h0) h
  simp [powI, onI, h0, this]
theorem opGe_int (a b : Int) : opGe (.int a) (.int b) = some (.bl (decide (b ≤ a))) := by simp [opGe, orD, geI, onI]
theorem opLt_int (a b : Int) : opLt (.int a) (.int b) = some (.bl (decide (a < b))) := by simp [opLt, orD, ltI, onI]
theorem opLe_int (a b : Int) : opLe (.int a) (.int b) = some (.bl (decide (a ≤ b))) := by simp [opLe, orD, leI, onI]
theorem opGt_int (a b : Int) : opGt (.int a) (.int b) = some (.bl (decide (b < a))) := by simp [opGt, orD, gtI, onI]
theorem subI_int (a b : Int) : subI (.int a) (.int b) = some (.int (a - b)) := by simp [subI, onI]
theorem subTape {st : Store} {n : Nat} {a b : Int} (h : st[n]? = some (.dct (tapeKV a b))) : ixD (.ref n) (.str (Str.ofString "digits")) st = some (.int a) ∧ ixD (.ref n) (.str (Str.ofString "mixed")) st = some (.int b) := by
  constructor
  · unfold ixD
    simp only [h, asKey, Option.bind_some]
    exact tape_valD a b
  · unfold ixD
    simp only [h, asKey, Option.bind_some]
    exact tape_valM a b
theorem put_ref {env : Lo} {st s1 s2 s3 : Store} {fo fk fv : F} {d : D} {n : Nat} {kd : D} {k : Key} {kvs : List (Key × D)} (h1 : fv env st = some (d, s1)) (h2 : fo env s1 = some (.ref n, s2)) (h3 : fk env s2 = some (kd, s3)) (hk : asKey kd = some k)
    (hs : s3[n]? = some (.dct kvs)) (hl : kvs.length < 1000) : sPut fo fk fv env st = some (.nx, env, s3.set n (.dct (putD kvs k d))) := by
  have : kvs.length < sizeLine := Nat.lt_of_lt_of_le hl (by decide)
  simp [sPut, h1, h2, h3, hs, hk, this]
theorem pick_ok {st : Store} {n : Nat} {s : Int} (t : Tp st n) (h0 : 0 < s) (h1 : s < 1073741824) : ∃ r st', mPick [.ref n, .int s] st = some (.int r, st') ∧ 0 ≤ r ∧ r < s ∧ Tp st' n ∧ Fr n st st' ∧ st'.length = st.length := by
  obtain ⟨a, b, e, ha, hb, hb2⟩ := t.at_
  have hn := t.lt
  obtain ⟨g1, g2⟩ := subTape e
  by_cases c : s ≤ a
  · refine ⟨a % s, st.set n (.dct (tapeKV (a / s) b)), ?_, Int.emod_nonneg _ (by omega), Int.emod_lt_of_pos _ h0, ⟨a / s, b, by rw [List.getElem?_set_self hn], Int.ediv_nonneg ha (by omega), hb, hb2⟩, .set _, by rw [List.length_set]⟩
    have p : ∀ env : Lo, env[0]? = some (some (.ref n)) → env[1]? = some (some (.int s)) → sPut (fVar 0) (fC (.str (Str.ofString "digits"))) (fOp fdivI (fSub (fVar 0) (fC (.str (Str.ofString "digits")))) (fVar 1)) env st = some (.nx, env, st.set n (.dct (tapeKV (a / s) b))) := fun env x y => by
      rw [← tape_putD a b]
      refine put_ref (s1 := st) (s2 := st) (s3 := st) (kd := .str (Str.ofString "digits")) ?_ ?_ rfl rfl e (by simp [tapeKV])
      · simp [fOp, fSub, fVar, fC, x, y, g1, fdivI_int h0 h1]
      · simp [fVar, x]
    simp [mPick, mOf, gPick, outM, startD, sSeq, sIf, fTest, asB, fOp, fSub, fVar, fC, g1, opGe_int, c, sAsg, modI_int h0, gN]
    rw [p _ rfl rfl]
    simp [sRet, fVar]
  · have hm : 0 ≤ (b * 40014 + 1013) % 2147483563 := Int.emod_nonneg _ (by decide)
    have hm2 : (b * 40014 + 1013) % 2147483563 < 2147483563 := Int.emod_lt_of_pos _ (by decide)
    have gset : (st.set n (.dct (tapeKV a ((b * 40014 + 1013) % 2147483563))))[n]? = some (.dct (tapeKV a ((b * 40014 + 1013) % 2147483563))) := by rw [List.getElem?_set_self hn]
    obtain ⟨_, g3⟩ := subTape gset
    have p : ∀ env : Lo, env[0]? = some (some (.ref n)) → sPut (fVar 0) (fC (.str (Str.ofString "mixed"))) (fOp modI (fOp opAdd (fOp opMul (fSub (fVar 0) (fC (.str (Str.ofString "mixed")))) (fC (.int 40014))) (fC (.int 1013))) (fC (.int 2147483563))) env st = some (.nx, env, st.set n (.dct (tapeKV a ((b * 40014 + 1013) % 2147483563)))) := fun env x => by
      rw [← tape_putM a b]
      refine put_ref (s1 := st) (s2 := st) (s3 := st) (kd := .str (Str.ofString "mixed")) ?_ ?_ rfl rfl e (by simp [tapeKV])
      · simp [fOp, fSub, fVar, fC, x, g2, opMul_int (bits32 hb hb2) (bits32 (x := 40014) (by decide) (by decide)) (by decide), opAdd_int, modI_int (b := 2147483563) (by decide)]
      · simp [fVar, x]
    generalize hw : (b * 40014 + 1013) % 2147483563 = w at *
    have b1 : intBits w ≤ 32 := bits32 hm (by omega)
    have h5 : 0 ≤ w ^ 2 % 2147483399 := Int.emod_nonneg _ (by decide)
    have h6 : w ^ 2 % 2147483399 < 2147483399 := Int.emod_lt_of_pos _ (by decide)
    have b2 : intBits (w ^ 2 % 2147483399) ≤ 32 := bits32 h5 (by omega)
    refine ⟨(w ^ 2 % 2147483399) ^ 3 % 998244353 / 5 % s, st.set n (.dct (tapeKV a w)), ?_, Int.emod_nonneg _ (by omega), Int.emod_lt_of_pos _ h0, ⟨a, w, gset, ha, hm, by omega⟩, .set _, by rw [List.length_set]⟩
    simp [mPick, mOf, gPick, outM, startD, sSeq, sIf, fTest, asB, fOp, fSub, fVar, fC, g1, opGe_int, c, sNil]
    rw [p _ rfl]
    have q1 := powI_int (a := w) (b := 2) (by decide) b1 (by decide)
    have q2 := powI_int (a := w ^ 2 % 2147483399) (b := 3) (by decide) b2 (by decide)
    simp only [show (2 : Int).toNat = 2 from rfl, show (3 : Int).toNat = 3 from rfl] at q1 q2
    simp [sRet, fOp, fSub, fVar, fC, g3, q1, modI_int (b := 2147483399) (by decide), q2, modI_int (b := 998244353) (by decide), fdivI_int (b := 5) (by decide) (by decide), modI_int h0]
theorem atI_lt {α : Type} {xs : List α} {i : Int} (h0 : 0 ≤ i) (h1 : i < xs.length) : ∃ d, L2.atI xs i = some d ∧ d ∈ xs := by
  have hi : i.toNat < xs.length := by omega
  refine ⟨xs[i.toNat], ?_, List.getElem_mem hi⟩
  have := atI_nat (xs := xs) (j := i.toNat) (List.getElem?_eq_getElem hi)
  rwa [Int.toNat_of_nonneg h0] at this
theorem one_ok {st : Store} {n : Nat} {xs : List D} (t : Tp st n) (h0 : 0 < xs.length) (h1 : xs.length < 1073741824) : ∃ d st', mOne [.ref n, .lst xs] st = some (d, st') ∧ d ∈ xs ∧ Tp st' n ∧ Fr n st st' ∧ st'.length = st.length := by
  obtain ⟨r, st', h, hr0, hr1, t', f, l⟩ := pick_ok t (s := (xs.length : Int)) (by omega) (by omega)
  obtain ⟨d, hd, hm⟩ := atI_lt hr0 hr1
  refine ⟨d, st', ?_, hm, t', f, l⟩
  simp [mOne, mOf, gOne, outM, startD, sRet, fSub, fVar, fCall, aCons, aNil, fMk, bLen, lenL, h, ixD, hd]
theorem one_okT {st : Store} {n : Nat} {xs : List D} (t : Tp st n) (h0 : 0 < xs.length) (h1 : xs.length < 1073741824) : ∃ d st', mOne [.ref n, .tup xs] st = some (d, st') ∧ d ∈ xs ∧ Tp st' n ∧ Fr n st st' ∧ st'.length = st.length := by
  obtain ⟨r, st', h, hr0, hr1, t', f, l⟩ := pick_ok t (s := (xs.length : Int)) (by omega) (by omega)
  obtain ⟨d, hd, hm⟩ := atI_lt hr0 hr1
  refine ⟨d, st', ?_, hm, t', f, l⟩
  simp [mOne, mOf, gOne, outM, startD, sRet, fSub, fVar, fCall, aCons, aNil, fMk, bLen, lenL, h, ixD, hd]
abbrev bTape : FS := (sAsg (fOp opAdd (fOp modI (fOp powI (fOp opAdd (fOp opAdd (fOp opMul (fVar 2) (fC (.int 30011))) (fOp opMul (fVar 3) (fVar 3))) (fC (.int 7))) (fC (.int 2))) (fC (.int 2147483563))) (fC (.int 2))) (gN 2))
theorem tape_loop {s t y : Option D} {st : Store} : ∀ (ns : List Int), (∀ z ∈ ns, intBits z ≤ 1048576) → ∀ (m : Int) (x : Option D), 0 ≤ m → m < 4294967296 →
    ∃ m' x', loopS (gN 3) bTape (ns.map .int) [s, t, some (.int m), x, y] st = some (.nx, [s, t, some (.int m'), x', y], st) ∧ 0 ≤ m' ∧ m' < 4294967296
  | [], _, m, x, h0, h1 => ⟨m, x, rfl, h0, h1⟩
  | z :: ns, hb, m, x, h0, h1 => by
    have hz := hb z List.mem_cons_self
    have b1 : intBits (m * 30011) ≤ 32 + 32 := intBits_mul_le (bits32 h0 h1) (bits32 (x := 30011) (by decide) (by decide))
    have b2 : intBits (z * z) ≤ 1048576 + 1048576 := intBits_mul_le hz hz
    have b3 : intBits (m * 30011 + z * z) ≤ 2097152 + 1 := Nat.le_trans (intBits_add_le b1 b2) (by decide)
    have b4 : intBits (m * 30011 + z * z + 7) ≤ 2097153 + 1 := Nat.le_trans (intBits_add_le b3 (bits32 (x := 7) (by decide) (by decide))) (by decide)
    have q := powI_int (a := m * 30011 + z * z + 7) (b := 2) (by decide) b4 (by decide)
    have h2 : 0 ≤ (m * 30011 + z * z + 7) ^ (2 : Int).toNat % 2147483563 := Int.emod_nonneg _ (by decide)
    have h3 : (m * 30011 + z * z + 7) ^ (2 : Int).toNat % 2147483563 < 2147483563 := Int.emod_lt_of_pos _ (by decide)
    obtain ⟨m', x', e, g0, g1⟩ := tape_loop (s := s) (t := t) (y := y) (st := st) ns (fun w hw => hb w (List.mem_cons_of_mem _ hw)) ((m * 30011 + z * z + 7) ^ (2 : Int).toNat % 2147483563 + 2) (some (.int z)) (by omega) (by omega)
    refine ⟨m', x', ?_, g0, g1⟩
    rw [← e, List.map_cons]
    generalize (m * 30011 + z * z + 7) ^ (2 : Int).toNat = w at *
    simp [loopS, gN, bTape, sAsg, fOp, fVar, fC, opMul_int (bits32 h0 h1) (bits32 (x := 30011) (by decide) (by decide)) (by decide), opMul_int hz hz (by decide), opAdd_int, q, modI_int (b := 2147483563) (by decide)]
theorem tape_ok {st : Store} {ns : List Int} {s : Int} (hb : ∀ z ∈ ns, intBits z ≤ 1048576) (h0 : 0 ≤ s) (h1 : s < 1000) : ∃ st', mTape [.scr ns, .int s] st = some (.ref st.length, st') ∧ st'.length = st.length + 1 ∧ Tp st' st.length ∧ ∀ m, m < st.length → st'[m]? = st[m]? := by
  obtain ⟨m', x', e, g0, g1⟩ := tape_loop (s := some (.scr ns)) (t := some (.int s)) (y := none) (st := st) ns hb (97 + s * 31) none (by omega) (by omega)
  have q := powI_int (a := 10) (b := 18) (by decide) (bits32 (by decide) (by decide)) (by decide)
  have b1 : intBits s ≤ 32 := bits32 h0 (by omega)
  -- the digits
  obtain ⟨d, hd, hd0⟩ : ∃ d : Int, (fIfE (fAndT (fTest (fOp opLt (fVar 1) (fMk bLen (aCons (fVar 0) aNil)))) (fTest (fOp opGe (fSub (fVar 0) (fVar 1)) (fOp powI (fC (.int 10)) (fC (.int 18)))))) (fOp subI (fSub (fVar 0) (fVar 1)) (fOp powI (fC (.int 10)) (fC (.int 18)))) (fC (.int 0)))
      [some (.scr ns), some (.int s), some (.int m'), x', none] st = some (.int d, st) ∧ 0 ≤ d := by
    by_cases c : s < ns.length
    · obtain ⟨z, hz, _⟩ := atI_lt h0 c
      by_cases c2 : (1000000000000000000 : Int) ≤ z
      · exact ⟨z - 1000000000000000000, by simp [fIfE, fAndT, fTest, fOp, fVar, fMk, aCons, aNil, bLen, lenL, opLt_int, asB, c, fSub, ixD, hz, fC, q, opGe_int, c2, subI_int], by omega⟩
      · exact ⟨0, by simp [fIfE, fAndT, fTest, fOp, fVar, fMk, aCons, aNil, bLen, lenL, opLt_int, asB, c, fSub, ixD, hz, fC, q, opGe_int, c2], by omega⟩
    · exact ⟨0, by simp [fIfE, fAndT, fTest, fOp, fVar, fMk, aCons, aNil, bLen, lenL, opLt_int, asB, c, fC], by omega⟩
  refine ⟨st ++ [.dct (tapeKV d m')], ?_, by simp, ⟨d, m', by simp, hd0, g0, g1⟩, fun m hm => by rw [List.getElem?_append_left hm]⟩
  have e' : loopS (gN 3) bTape (ns.map D.int) [some (.scr ns), some (.int s), some (.int (97 + s * 31)), none, none] st = some (.nx, [some (.scr ns), some (.int s), some (.int m'), x', none], st) := e
  simp only [bTape] at e'
  simp [mTape, mOf, gTape, outM, startD, sSeq, sAsg, fOp, fVar, fC, opMul_int b1 (bits32 (x := 31) (by decide) (by decide)) (by decide), opAdd_int, gN, sFor, iOf, asScr, e', hd]
  simp [sRet, fDict, evP, fC, fVar, asKey, mergeD, putD, kDM, tapeKV]
end DL
/-! Plain texts, flat values, loops with an invariant. -/
namespace DL
open PySem PySem.Spec PyProof.Rows L2 TL
open Builtin.Int (intBits)
/-- at most n signs, all of ASCII -/
def GS (n : Nat) (x : Str) : Prop := x.length ≤ n ∧ ∀ c ∈ tl x, c < 128
theorem GS.mono {m n : Nat} {x : Str} (h : GS m x) (l : m ≤ n) : GS n x := ⟨Nat.le_trans h.1 l, h.2⟩
theorem GS.append {m n : Nat} {x y : Str} (a : GS m x) (b : GS n y) : GS (m + n) (x ++ y) := by
  refine ⟨?_, fun c hc => ?_⟩
  · rw [len_tl, tl_append, List.length_append, ← len_tl, ← len_tl]
    have := a.1
    have := b.1
    omega
  · rw [tl_append] at hc
    rcases List.mem_append.mp hc with h | h
    · exact a.2 c h
    · exact b.2 c h
theorem joinL_nil : ∀ ps : List (List Nat), joinL [] ps = ps.flatten
  | [] => rfl
  | [p] => by simp [joinL]
  | p :: q :: r => by
    have := joinL_nil (q :: r)
    simp only [joinL] at this ⊢
    rw [this]
    simp
theorem tl_join0 (ps : List Str) : tl (Txt.join (Str.ofString "") ps) = (ps.map tl).flatten := by
  rw [join_eq, tl_join, show tl (Str.ofString "") = [] from rfl, joinL_nil]
theorem GS.join {m : Nat} : ∀ {ps : List Str}, (∀ p ∈ ps, GS m p) → GS (ps.length * m) (Txt.join (Str.ofString "") ps) := fun {ps} h => by
  unfold GS
  rw [len_tl, tl_join0]
  induction ps with
  | nil => exact ⟨Nat.zero_le _, fun c hc => by cases hc⟩
  | cons p ps ih =>
    obtain ⟨i1, i2⟩ := ih fun q hq => h q (List.mem_cons_of_mem _ hq)
    obtain ⟨j1, j2⟩ := h p List.mem_cons_self
    rw [len_tl] at j1
    refine ⟨?_, fun c hc => ?_⟩
    · rw [List.map_cons, List.flatten_cons, List.length_append, List.length_cons, Nat.succ_mul]
      omega
    · rw [List.map_cons, List.flatten_cons] at hc
      rcases List.mem_append.mp hc with z | z
      · exact j2 c z
      · exact i2 c z
theorem GS.ok {n : Nat} {x : Str} (h : GS n x) : SeqAt.shaped (.str x) = true := by
  have : PyData.canLay0 (.str x) = true := by
    unfold PyData.canLay0
    unfold PyData.strOk
    rw [Array.all_eq_true]
    intro i hi
    have := h.2 x.cps[i] (by unfold tl; simp)
    exact decide_eq_true (by omega)
  unfold SeqAt.shaped
  rw [this]
  simp [PyData.depth]
/-- a flat value: None, an int, a text of at most n signs -/
def FV (n : Nat) : D → Prop | .non => True | .int _ => True | .str x => GS n x | _ => False
theorem FV.mono {m n : Nat} (l : m ≤ n) : ∀ {d : D}, FV m d → FV n d
  | .non, _ => trivial
  | .int _, _ => trivial
  | .str _, h => GS.mono h l
  | .bl _, h => h.elim
  | .tup _, h => h.elim
  | .lst _, h => h.elim
  | .dct _, h => h.elim
  | .scr _, h => h.elim
  | .ref _, h => h.elim
def vEq : D → D → Bool | .non, .non => true | .int a, .int b => a == b | .str a, .str b => a == b | _, _ => false
theorem opEq_fv {m n : Nat} {a b : D} (ha : FV m a) (hb : FV n b) : opEq a b = some (.bl (vEq a b)) := by
  cases a <;> cases b <;> first
    | exact ha.elim
    | exact hb.elim
    | skip
  all_goals simp only [opEq, toPy, Option.bind_some]
  all_goals first
    | rfl
    | (rw [if_pos ⟨rfl, GS.ok hb⟩]; rfl)
    | (rw [if_pos ⟨GS.ok ha, rfl⟩]; rfl)
    | (rw [if_pos ⟨GS.ok ha, GS.ok hb⟩]; rfl)
theorem opNe_fv {m n : Nat} {a b : D} (ha : FV m a) (hb : FV n b) : opNe a b = some (.bl (!vEq a b)) := by
  cases a <;> cases b <;> first
    | exact ha.elim
    | exact hb.elim
    | skip
  all_goals simp only [opNe, toPy, Option.bind_some]
  all_goals first
    | rfl
    | (rw [if_pos ⟨rfl, GS.ok hb⟩]; rfl)
    | (rw [if_pos ⟨GS.ok ha, rfl⟩]; rfl)
    | (rw [if_pos ⟨GS.ok ha, GS.ok hb⟩]; rfl)
theorem opEq_int (a b : Int) : opEq (.int a) (.int b) = some (.bl (a == b)) := opEq_fv (m := 0) (n := 0) (a := .int a) (b := .int b) trivial trivial
theorem opNe_int (a b : Int) : opNe (.int a) (.int b) = some (.bl (!(a == b))) := opNe_fv (m := 0) (n := 0) (a := .int a) (b := .int b) trivial trivial
theorem opLt_str (a b : Str) : opLt (.str a) (.str b) = some (.bl (decide (tl a < tl b))) := by simp [opLt, orD, ltI, ltS, onI, onS]
theorem opGt_str (a b : Str) : opGt (.str a) (.str b) = some (.bl (decide (tl b < tl a))) := by simp [opGt, orD, gtI, gtS, onI, onS]
theorem opAdd_str {a b : Str} (h : a.length + b.length ≤ 16777216) : opAdd (.str a) (.str b) = some (.str (a ++ b)) := by
  have : a.length + b.length ≤ sizeLine := by rw [sizeLine_eq]; exact h
  simp [opAdd, orD, addI, addS, onI, onS, this]

/-! ### loops -/
/-- a for that runs through, by what holds between the turns -/
theorem loopS_inv {tg : FG} {body : FS} (I : Lo → Store → Prop) : ∀ {ds : List D}, (∀ d ∈ ds, ∀ env st, I env st → ∃ e1, tg d env = some e1 ∧ ∃ o e2 s2, body e1 st = some (o, e2, s2) ∧ (o = .nx ∨ o = .ct) ∧ I e2 s2) →
    ∀ {env : Lo} {st : Store}, I env st → ∃ e2 s2, loopS tg body ds env st = some (.nx, e2, s2) ∧ I e2 s2
  | [], _, env, st, i => ⟨env, st, rfl, i⟩
  | d :: ds, h, env, st, i => by
    obtain ⟨e1, h1, o, e2, s2, h2, ho, i2⟩ := h d List.mem_cons_self env st i
    obtain ⟨e3, s3, h3, i3⟩ := loopS_inv I (fun d hd => h d (List.mem_cons_of_mem _ hd)) i2
    refine ⟨e3, s3, ?_, i3⟩
    rcases ho with rfl | rfl
    · simp [loopS, h1, h2, h3]
    · simp [loopS, h1, h2, h3]
/-- a comprehension of draws -/
theorem loopC_draw {is : List Nat} {bd : FB} {f : F} {n : Nat} {P : D → Prop} {env : Lo} : ∀ {ds : List D}, (∀ d ∈ ds, ∃ vs, bd d = some vs ∧ ∀ st, Tp st n → ∃ v st', f (setL is vs env) st = some (v, st') ∧ P v ∧ Tp st' n ∧ Fr n st st') →
    ∀ {st : Store}, Tp st n → ∃ vs st', loopC is bd tTrue f ds env st = some (vs, st') ∧ vs.length = ds.length ∧ (∀ v ∈ vs, P v) ∧ Tp st' n ∧ Fr n st st'
  | [], _, st, t => ⟨[], st, rfl, rfl, fun _ h => (by cases h), t, .refl _ _⟩
  | d :: ds, h, st, t => by
    obtain ⟨ws, hb, hf⟩ := h d List.mem_cons_self
    obtain ⟨v, s1, h1, pv, t1, f1⟩ := hf st t
    obtain ⟨vs, s2, h2, l2, p2, t2, f2⟩ := loopC_draw (fun d hd => h d (List.mem_cons_of_mem _ hd)) t1
    refine ⟨v :: vs, s2, by simp [loopC, hb, tTrue, h1, h2], by simp [l2], fun w hw => ?_, t2, f1.trans f2⟩
    rcases List.mem_cons.mp hw with rfl | hw
    · exact pv
    · exact p2 w hw
theorem rg_len (lo hi : Int) : (rg lo hi).length = (hi - lo).toNat := by simp [rg]
theorem rg_mem {lo hi : Int} {d : D} (h : d ∈ rg lo hi) : ∃ i : Int, d = .int i ∧ lo ≤ i ∧ i < hi := by
  unfold rg at h
  obtain ⟨k, hk, e⟩ := List.mem_map.mp h
  subst e
  have := List.mem_range.mp hk
  exact ⟨_, rfl, by omega, by omega⟩
theorem asR1_ok {n : Int} (h0 : 0 ≤ n) (h1 : n < 1000000) : asR1 [.int n] = some (rg 0 n) := by
  have : -(2 ^ 62) ≤ n ∧ n < 2 ^ 62 := by omega
  simp only [asR1, if_pos this]
end DL
namespace DL
open PySem PySem.Spec PyProof.Rows L2 TL
/-- .. that lay nothing -/
theorem loopC_draw2 {is : List Nat} {bd : FB} {f : F} {n : Nat} {P : D → Prop} {env : Lo} : ∀ {ds : List D}, (∀ d ∈ ds, ∃ vs, bd d = some vs ∧ ∀ st, Tp st n → ∃ v st', f (setL is vs env) st = some (v, st') ∧ P v ∧ Tp st' n ∧ Fr n st st' ∧ st'.length = st.length) →
    ∀ {st : Store}, Tp st n → ∃ vs st', loopC is bd tTrue f ds env st = some (vs, st') ∧ vs.length = ds.length ∧ (∀ v ∈ vs, P v) ∧ Tp st' n ∧ Fr n st st' ∧ st'.length = st.length
  | [], _, st, t => ⟨[], st, rfl, rfl, fun _ h => (by cases h), t, .refl _ _, rfl⟩
  | d :: ds, h, st, t => by
    obtain ⟨ws, hb, hf⟩ := h d List.mem_cons_self
    obtain ⟨v, s1, h1, pv, t1, f1, l1⟩ := hf st t
    obtain ⟨vs, s2, h2, l2, p2, t2, f2, g2⟩ := loopC_draw2 (fun d hd => h d (List.mem_cons_of_mem _ hd)) t1
    refine ⟨v :: vs, s2, by simp [loopC, hb, tTrue, h1, h2], by simp [l2], fun w hw => ?_, t2, f1.trans f2, by rw [g2, l1]⟩
    rcases List.mem_cons.mp hw with rfl | hw
    · exact pv
    · exact p2 w hw
/-- a comprehension that changes nothing -/
theorem loopC_map {is : List Nat} {bd : FB} {f : F} {g : D → D} {env : Lo} {st : Store} : ∀ {ds : List D}, (∀ d ∈ ds, ∃ vs, bd d = some vs ∧ f (setL is vs env) st = some (g d, st)) → loopC is bd tTrue f ds env st = some (ds.map g, st)
  | [], _ => rfl
  | d :: ds, h => by
    obtain ⟨ws, hb, hf⟩ := h d List.mem_cons_self
    have := loopC_map (ds := ds) fun d hd => h d (List.mem_cons_of_mem _ hd)
    simp [loopC, hb, tTrue, hf, this]
end DL
/-! More operations: nested data in a list or tuple, pairs in order, slices of texts, repr, a def that answers nothing. -/
namespace DL
open PySem PySem.Spec PyProof.Rows L2 TL
variable {K : PySem.W.Frag}
/-- at fuel 0 -/
theorem FnD.nil {P : Program} {w : World} {mg : Str → Option Value} {base : Heap} {k : Nat} {f : Addr} {fd : FuncData} {ps : List Str} : FnD P w K mg base k f fd ps (fun _ _ => none) :=
  ⟨fun _ _ _ _ _ _ _ _ _ _ _ _ _ _ _ _ _ _ _ _ _ h => by cases h⟩
section
variable {X : Cx} {W : WXd}
/-! ### in, nested data -/
def inPy (neg : Bool) : D → D → Option D := fun x y => (toPy x).bind fun p => match y with
  | .lst ds => (toPyL ds).bind fun qs => if SeqAt.shaped p = true ∧ SeqAt.shaped (.list qs) = true then some (.bl (if neg then !(qs.any fun z => PyData.eqv z p) else qs.any fun z => PyData.eqv z p)) else none
  | .tup ds => (toPyL ds).bind fun qs => if SeqAt.shaped p = true ∧ SeqAt.shaped (.tuple qs) = true then some (.bl (if neg then !(qs.any fun z => PyData.eqv z p) else qs.any fun z => PyData.eqv z p)) else none
  | _ => none
def rInPy (K : PySem.W.Frag) (neg : Bool) : R2 := fun x y H Q => ∃ d ds, Dp K H x d ∧ ((Dp K H y (.list ds) ∧ SeqAt.shaped (.list ds) = true) ∨ (Dp K H y (.tuple ds) ∧ SeqAt.shaped (.tuple ds) = true)) ∧ SeqAt.shaped d = true ∧
  Q (.bl (if neg then !(ds.any fun z => PyData.eqv z d) else ds.any fun z => PyData.eqv z d)) H
theorem op_inPy (hu : X.A.units + 65 < cLine) : OpR X (compareOp .In) (rInPy X.K false) := by
  intro pins s σ H x y v u Q I rx ry h
  obtain ⟨d, ds, hd, he, sd, q⟩ := h
  obtain ⟨as, r1⟩ := Dp.reads I d x v hd rx
  rcases he with ⟨he, se⟩ | ⟨he, se⟩
  · obtain ⟨bs, r2⟩ := Dp.reads I (.list ds) y u he ry
    exact SeqAt.in_list_reads r2 r1 (SeqAt.canLay_of_shaped se) (SeqAt.canLay_of_shaped sd) (room_in_shaped sd hu) ⟨.bl _, H, I, rfl, q⟩
  · obtain ⟨bs, r2⟩ := Dp.reads I (.tuple ds) y u he ry
    exact SeqAt.in_tuple_reads r2 r1 (SeqAt.canLay_of_shaped se) (SeqAt.canLay_of_shaped sd) (room_in_shaped sd hu) ⟨.bl _, H, I, rfl, q⟩
theorem op_notInPy (hu : X.A.units + 65 < cLine) : OpR X (compareOp .NotIn) (rInPy X.K true) := by
  intro pins s σ H x y v u Q I rx ry h
  obtain ⟨d, ds, hd, he, sd, q⟩ := h
  obtain ⟨as, r1⟩ := Dp.reads I d x v hd rx
  rcases he with ⟨he, se⟩ | ⟨he, se⟩
  · obtain ⟨bs, r2⟩ := Dp.reads I (.list ds) y u he ry
    exact SeqAt.notIn_list_reads r2 r1 (SeqAt.canLay_of_shaped se) (SeqAt.canLay_of_shaped sd) (room_in_shaped sd hu) ⟨.bl _, H, I, rfl, q⟩
  · obtain ⟨bs, r2⟩ := Dp.reads I (.tuple ds) y u he ry
    exact SeqAt.notIn_tuple_reads r2 r1 (SeqAt.canLay_of_shaped se) (SeqAt.canLay_of_shaped sd) (room_in_shaped sd hu) ⟨.bl _, H, I, rfl, q⟩
theorem inPy_ok (neg : Bool) {rho : Rf} {H : Hp} {x y : V} {a b d : D} {Q : VK} (ra : Rep K rho H x a) (rb : Rep K rho H y b) (e : inPy neg a b = some d) (q : ∀ v H', Same H H' → Rep K rho H' v d → Q v H') : rInPy K neg x y H Q := by
  obtain ⟨p, h1, h2⟩ := Option.bind_eq_some_iff.mp e
  split at h2
  · rename_i ds
    obtain ⟨qs, h3, h4⟩ := Option.bind_eq_some_iff.mp h2
    split at h4
    · rename_i sh
      cases h4
      exact ⟨p, qs, ra.dp h1, .inl ⟨rb.dp (show (toPyL ds).map PyData.list = some (.list qs) by rw [h3]; rfl), sh.2⟩, sh.1, q _ H (fun _ _ h => h) (.bl _)⟩
    · cases h4
  · rename_i ds
    obtain ⟨qs, h3, h4⟩ := Option.bind_eq_some_iff.mp h2
    split at h4
    · rename_i sh
      cases h4
      exact ⟨p, qs, ra.dp h1, .inr ⟨rb.dp (show (toPyL ds).map PyData.tuple = some (.tuple qs) by rw [h3]; rfl), sh.2⟩, sh.1, q _ H (fun _ _ h => h) (.bl _)⟩
    · cases h4
  · cases h2
def opIn : D → D → Option D := orD (inSeq false) (inPy false)
def opNotIn : D → D → Option D := orD (inSeq true) (inPy true)
theorem ok_inD {k : Nat} (g : GX X k) : OpOk X (compareOp .In) opIn := ok_in.or ⟨_, op_inPy (by have := g.room.un; omega), fun rho H x y a b d st Q si ra rb e q => inPy_ok false ra rb e q⟩
theorem ok_notinD {k : Nat} (g : GX X k) : OpOk X (compareOp .NotIn) opNotIn := ok_notin.or ⟨_, op_notInPy (by have := g.room.un; omega), fun rho H x y a b d st Q si ra rb e q => inPy_ok true ra rb e q⟩

/-! ### (a, b) < (c, d), flat -/
section
open PySem.AutoSeq1 (wpAny_loadPart')
open PySem.MeetsSeq PySem.MeetsSeq2 PySem.MeetsSeq3 PySem.SeqAt
/-- two pairs whose first items differ: these alone are asked -/
theorem pair_first {p q : Addr} {x0 x1 y0 y1 : Value} {i1 i2 : Nat} {d1 d2 : Option Addr} {t1 t2 : Array (Option Value)} {k : Bool} : Meets (Builtin.«tuple.__lt__» ⟨[.ref p, .ref q], []⟩) (fun A R s =>
    s.heap.get? p = some ⟨.type "tuple", d1, .seq #[x0, x1] i1, t1⟩ ∧ s.heap.get? q = some ⟨.type "tuple", d2, .seq #[y0, y1] i2, t2⟩ ∧ EqAt A.in1 s x0 y0 false ∧ RcLt A.in1 s x0 y0 k ∧ R (.ok (.ret (.bool k))) s) := .of_wp fun P w A R s hh => by
  obtain ⟨hp, g, d, tk, os⟩ := s
  obtain ⟨g1, g2, differ, less, done⟩ := hh
  have sub := AutoSeq1.sub_tuple_tuple
  wp_walk using wpAny_loadPart' g1, wpAny_loadPart' g2, wpAny_forIn_list _ (fun todo acc now => acc.1 = none ∧ now = ⟨hp, g, d, tk, os⟩ ∧ todo = [(x0, y0), (x1, y1)]) _
  case turn =>
    rintro ⟨u, v⟩ todo acc now ⟨e1, rfl, e2⟩
    injection e2 with e3 _
    injection e3 with eu ev
    subst eu ev
    refine wpAny_bind (differ P w _ _ ?_)
    have ask := less P w
    wp_walk using ask
    exact ⟨_, rfl, done⟩
  case fin =>
    rintro ⟨_, _⟩ now ⟨_, _, e2⟩
    cases e2
  case h =>
    exact ⟨rfl, rfl, rfl⟩
end
/-- a < b of two of one kind -/
def ltF : V → V → Option Bool
  | .int a, .int b => some (decide (a < b))
  | .str a, .str b => some (decide (a.cps.toList < b.cps.toList))
  | _, _ => none
theorem rcLt_V {A : Around} {s : Shared} {x y : V} {v u : Value} {k : Bool} (rx : RelV x v) (ry : RelV y u) (e : ltF x y = some k) : SeqAt.RcLt A s v u k := by
  unfold ltF at e
  split at e
  · cases e
    obtain ⟨t, rfl⟩ := rx
    obtain ⟨t', rfl⟩ := ry
    exact fun _ _ _ _ h => PyProof.Rows.lt_int h
  · cases e
    obtain ⟨t, rfl⟩ := rx
    obtain ⟨t', rfl⟩ := ry
    exact fun _ _ _ _ h => PySem.P.lt_str h
  · cases e
/-- the order of two pairs -/
def lt2V (a b c d : V) : Option Bool := if eqV a c = true then (if eqV b d = true then some false else ltF b d) else ltF a c
def rLt2 (K : PySem.W.Frag) : R2 := fun x y H Q => ∃ p q a b c d k, x = .ref p ∧ y = .ref q ∧ SqT K H p [a, b] ∧ SqT K H q [c, d] ∧ flatV a = true ∧ flatV b = true ∧ flatV c = true ∧ flatV d = true ∧ lt2V a b c d = some k ∧ Q (.bl k) H
theorem op_lt2 (hu : X.A.units < cLine) : OpR X (compareOp .Lt) (rLt2 X.K) := by
  intro pins s σ H x y v u Q I rx ry h
  obtain ⟨p, q, a, b, c, d, k, rfl, rfl, hp, hq, fa, fb, fc, fd, hk, hQ⟩ := h
  cases rx
  cases ry
  obtain ⟨its, r1, p1, _⟩ := I.tuple hp
  obtain ⟨its2, r2, p2, _⟩ := I.tuple hq
  cases r1 with
  | @cons _ ua _ us1 ra t1 =>
  cases t1 with
  | @cons _ ub _ us2 rb t2 =>
  cases t2
  cases r2 with
  | @cons _ uc _ us3 rc t3 =>
  cases t3 with
  | @cons _ ud _ us4 rd t4 =>
  cases t4
  obtain ⟨⟨cls, dd, data, sl⟩, ho, hc, n, hd⟩ := id p1
  obtain ⟨⟨cls2, dd2, data2, sl2⟩, ho2, hc2, n2, hd2⟩ := id p2
  simp only at hc hd hc2 hd2
  subst hc hd hc2 hd2
  let e : Nat → Bool := fun j => match j with | 0 => eqV a c | _ => eqV b d
  let r : Nat → Bool := fun j => match j with | 0 => (ltF a c).getD false | _ => (ltF b d).getD false
  by_cases ac : eqV a c = true
  · by_cases bd : eqV b d = true
    · have hk' : k = false := by unfold lt2V at hk; rw [if_pos ac, if_pos bd] at hk; cases hk; rfl
      subst hk'
      refine richCompare_meets_room (op := .Lt) ⟨_, ho, rfl⟩ ⟨_, ho2, rfl⟩ PySem.F.slot_tuple_lt PySem.F.entry_tuple_lt (PySem.F.args_tuple_lt_2 _ _) (SeqAt.tuple_ltAt p q #[ua, ub] #[uc, ud] n n2 dd dd2 sl sl2 (fun _ => true) (fun _ => false))
        ⟨ho, ho2, fun j h1 h2 => ?_, fun j h1 h2 z => (by cases z), ⟨(fun x => nomatch x), ⟨.bl false, H, I, rfl, hQ⟩⟩⟩ hu
      match j, h1, h2 with
      | 0, _, _ =>
        rw [← ac]
        exact eqAt_V ra rc fa fc
      | 1, _, _ =>
        rw [← bd]
        exact eqAt_V rb rd fb fd
    · have bd' : eqV b d = false := by simpa using bd
      have hk' : ltF b d = some k := by unfold lt2V at hk; rw [if_pos ac, if_neg bd] at hk; exact hk
      refine richCompare_meets_room (op := .Lt) ⟨_, ho, rfl⟩ ⟨_, ho2, rfl⟩ PySem.F.slot_tuple_lt PySem.F.entry_tuple_lt (PySem.F.args_tuple_lt_2 _ _) (SeqAt.tuple_ltAt p q #[ua, ub] #[uc, ud] n n2 dd dd2 sl sl2 (fun j => j == 0) (fun _ => k))
        ⟨ho, ho2, fun j h1 h2 => ?_, fun j h1 h2 z => ?_, ⟨(fun x => nomatch x), ⟨.bl k, H, I, rfl, hQ⟩⟩⟩ hu
      · match j, h1, h2 with
        | 0, _, _ =>
          show SeqAt.EqAt X.A.in1 s ua uc true
          rw [← ac]
          exact eqAt_V ra rc fa fc
        | 1, _, _ =>
          show SeqAt.EqAt X.A.in1 s ub ud false
          rw [← bd']
          exact eqAt_V rb rd fb fd
      · match j, h1, h2, z with
        | 1, _, _, _ => exact rcLt_V rb rd hk'
  · have ac' : eqV a c = false := by simpa using ac
    have hk' : ltF a c = some k := by unfold lt2V at hk; rw [if_neg ac] at hk; exact hk
    exact richCompare_meets_room (op := .Lt) ⟨_, ho, rfl⟩ ⟨_, ho2, rfl⟩ PySem.F.slot_tuple_lt PySem.F.entry_tuple_lt (PySem.F.args_tuple_lt_2 _ _) pair_first
      ⟨ho, ho2, by rw [← ac']; exact eqAt_V ra rc fa fc, rcLt_V ra rc hk', ⟨(fun x => nomatch x), ⟨.bl k, H, I, rfl, hQ⟩⟩⟩ hu
def lt2 : D → D → Option D := fun x y => match x, y with
  | .tup [a, b], .tup [c, d] => (eqF a c).bind fun e => (eqF b d).bind fun e2 => if e = true then (if e2 = true then some (.bl false) else (orD ltI ltS) b d) else (orD ltI ltS) a c
  | _, _ => none
theorem ltF_of {r : Rf} {H : Hp} {x y : V} {a b d : D} (ra : Rep K r H x a) (rb : Rep K r H y b) (e : (orD ltI ltS) a b = some d) : ∃ k, d = .bl k ∧ ltF x y = some k ∧ flatV x = true ∧ flatV y = true := by
  cases a <;> cases b <;> first
    | cases e; done
    | (cases ra; cases rb; cases e; exact ⟨_, rfl, rfl, rfl, rfl⟩)
theorem ok_lt2 {k : Nat} (g : GX X k) : OpOk X (compareOp .Lt) lt2 := ⟨_, op_lt2 g.room.units0, fun rho H x y m n d st Q si rm rn e q => by
  unfold lt2 at e
  split at e
  · rename_i a b c d'
    obtain ⟨p, us, rfl, s1, l1⟩ := rm.sqT
    obtain ⟨p', us', rfl, s2, l2⟩ := rn.sqT
    obtain ⟨va, vb, rfl, ra, rb⟩ := lst2 l1
    obtain ⟨vc, vd, rfl, rc, rd⟩ := lst2 l2
    obtain ⟨e1, h1, h2⟩ := Option.bind_eq_some_iff.mp e
    obtain ⟨e2, h3, h4⟩ := Option.bind_eq_some_iff.mp h2
    obtain ⟨g1, f1, f2⟩ := eqF_rep ra rc h1
    obtain ⟨g2, f3, f4⟩ := eqF_rep rb rd h3
    have mk : ∀ j, lt2V va vb vc vd = some j → Q (.bl j) H → rLt2 X.K (.ref p) (.ref p') H Q := fun j hj hq => ⟨p, p', va, vb, vc, vd, j, rfl, rfl, s1, s2, f1, f3, f2, f4, hj, hq⟩
    cases e1 with
    | false =>
      rw [if_neg Bool.false_ne_true] at h4
      obtain ⟨j, rfl, lj, _, _⟩ := ltF_of ra rc h4
      exact mk j (by unfold lt2V; rw [if_neg (by rw [g1]; exact Bool.false_ne_true)]; exact lj) (q _ H (fun _ _ h => h) (.bl _))
    | true =>
      rw [if_pos rfl] at h4
      cases e2 with
      | true =>
        rw [if_pos rfl] at h4
        cases h4
        exact mk false (by unfold lt2V; rw [if_pos g1, if_pos g2]) (q _ H (fun _ _ h => h) (.bl _))
      | false =>
        rw [if_neg Bool.false_ne_true] at h4
        obtain ⟨j, rfl, lj, _, _⟩ := ltF_of rb rd h4
        exact mk j (by unfold lt2V; rw [if_pos g1, if_neg (by rw [g2]; exact Bool.false_ne_true)]; exact lj) (q _ H (fun _ _ h => h) (.bl _))
  · cases e⟩
def opLtD : D → D → Option D := orD opLt lt2
theorem ok_ltD {k : Nat} (g : GX X k) : OpOk X (compareOp .Lt) opLtD := ok_lt.or (ok_lt2 g)

/-! ### z[lo:hi] of a text -/
def slS : D → Option Int → Option Int → Option D := fun a lo hi => match a with
  | .str z => if z.length ≤ sizeLine then some (.str (cutS z lo hi)) else none
  | _ => none
def fSliceS (fa : F) (lo hi : FO) : F := fun env st => (fa env st).bind fun p => (lo env p.2).bind fun q => (hi env q.2).bind fun w => (slS p.1 q.1 w.1).map fun d => (d, w.2)
theorem de_sliceS {a : Expr} {lo hi : Option Expr} {fa : F} {fl fh : FO} {p2 pos : Pos} (ha : DE X a fa) (hl : DO' X lo fl) (hh : DO' X hi fh) : DE X (.Subscript a (.Slice lo hi none p2) pos) (fSliceS fa fl fh) :=
  weakE (pe_slice sl_str ha hl hh) fun σ H Q hh => by
  obtain ⟨r, env, st, d, st', he, hs, hf, q⟩ := hh
  obtain ⟨⟨x, s1⟩, h1, hf1⟩ := Option.bind_eq_some_iff.mp hf
  obtain ⟨⟨i, s2⟩, h2, hf2⟩ := Option.bind_eq_some_iff.mp hf1
  obtain ⟨⟨j, s3⟩, h3, hf3⟩ := Option.bind_eq_some_iff.mp hf2
  obtain ⟨d', h4, hf4⟩ := Option.map_eq_some_iff.mp hf3
  cases hf4
  refine ⟨r, env, st, x, s1, he, hs, h1, fun u r1 H1 e1 q1 p1 => ⟨r1, env, s1, i, s2, he.ext e1, q1, h2, fun r2 H2 e2 q2 => ⟨r2, env, s2, j, _, (he.ext e1).ext e2, q2, h3, fun r3 H3 e3 q3 => ?_⟩⟩⟩
  have p3 := (p1.ext e2).ext e3
  cases x with
  | str z =>
    have h4' : (if z.length ≤ sizeLine then some (D.str (cutS z i j)) else none) = some _ := h4
    by_cases hz : z.length ≤ sizeLine
    · rw [if_pos hz] at h4'
      cases h4'
      cases p3
      exact ⟨z, rfl, hz, q _ r3 H3 ((e1.trans e2).trans e3) q3 (.str _)⟩
    · rw [if_neg hz] at h4'
      cases h4'
  | _ => cases h4

/-! ### repr -/
/-- what repr shows of x, if it is no more than may be shown -/
def shownD (d : PyData) : Option D := if d.hasDict = false ∧ d.showable = true ∧ d.depth ≤ 64 ∧ d.shown.length ≤ sizeLine then some (.str d.shown) else none
def bRepr : List D → Store → Option D := fun ds _ => match ds with
  | [.tup xs] => (toPy (.tup xs)).bind shownD
  | [.lst xs] => (toPy (.lst xs)).bind shownD
  | _ => none
theorem call_reprD {k : Nat} (g : GX X k) : CallR X (.builtin "repr") (fun xs H Q => ∃ a d, xs = [.ref a] ∧ Dp X.K H (.ref a) d ∧ d.hasDict = false ∧ d.showable = true ∧ d.depth ≤ 64 ∧ d.shown.length ≤ sizeLine ∧ Q (.str d.shown) H) := by
  intro pins s σ H xs us Q I r h
  obtain ⟨a, d, rfl, hd, h1, h2, h3, h4, q⟩ := h
  obtain ⟨u, rfl, ru⟩ := vals1 r
  cases ru
  obtain ⟨as, rd⟩ := Dp.reads I d (.ref a) (.ref a) hd rfl
  exact repr_of_reads' rd h2 (PyData.noDict_hsm h1) g.gd (by have := g.room.un; omega) (fun _ _ e => e) (fun h' u tk hk => ⟨.str d.shown, H, I.kept hk, ⟨_, rfl⟩, q⟩) h4
theorem shownD_some {d : PyData} {z : D} (h : shownD d = some z) : d.hasDict = false ∧ d.showable = true ∧ d.depth ≤ 64 ∧ d.shown.length ≤ sizeLine ∧ z = .str d.shown := by
  unfold shownD at h
  split at h
  · rename_i c
    cases h
    exact ⟨c.1, c.2.1, c.2.2.1, c.2.2.2, rfl⟩
  · cases h
theorem ok_repr {k : Nat} (g : GX X k) : CallOk X (.builtin "repr") bRepr := ⟨_, call_reprD g, fun rho H xs ds d st Q rl si e q => by
  unfold bRepr at e
  split at e
  · obtain ⟨v, rfl, p⟩ := lst1 rl
    obtain ⟨y, h1, h2⟩ := Option.bind_eq_some_iff.mp e
    obtain ⟨c1, c2, c3, c4, rfl⟩ := shownD_some h2
    have pd := p.dp h1
    obtain ⟨a, us, rfl, s, l⟩ := p.sqT
    exact ⟨a, y, rfl, pd, c1, c2, c3, c4, q _ H (fun _ _ h => h) (.str _)⟩
  · obtain ⟨v, rfl, p⟩ := lst1 rl
    obtain ⟨y, h1, h2⟩ := Option.bind_eq_some_iff.mp e
    obtain ⟨c1, c2, c3, c4, rfl⟩ := shownD_some h2
    have pd := p.dp h1
    cases p with
    | lst a b c => exact ⟨_, y, rfl, pd, c1, c2, c3, c4, q _ H (fun _ _ h => h) (.str _)⟩
  · cases e⟩
end
end DL
/-! Small data: what may be compared and shown. -/
namespace DL
open PySem PySem.Spec PyProof.Rows L2 TL
variable {K : PySem.W.Frag}
section
variable {X : Cx} {W : WXd}
/-- two texts, equal or not -/
def opEqS : D → D → Option D := onS (fun _ _ => True) fun i j => .bl (decide (i = j))
def opNeS : D → D → Option D := onS (fun _ _ => True) fun i j => .bl (!decide (i = j))
theorem ok_eqS : OpOk X (compareOp .Eq) opEqS := ⟨_, op_eq, fun rho H x y a b d st Q si ra rb e q => by
  obtain ⟨i, j, rfl, rfl, z, rfl⟩ := onS_some e
  cases ra
  cases rb
  refine ⟨rfl, ?_⟩
  have : decide (V.str i = V.str j) = decide (i = j) := by by_cases h : i = j <;> simp [h]
  rw [this]
  exact q _ H (fun _ _ h => h) (.bl _)⟩
theorem ok_neS : OpOk X (compareOp .NotEq) opNeS := ⟨_, op_ne, fun rho H x y a b d st Q si ra rb e q => by
  obtain ⟨i, j, rfl, rfl, z, rfl⟩ := onS_some e
  cases ra
  cases rb
  refine ⟨rfl, ?_⟩
  have : decide (V.str i = V.str j) = decide (i = j) := by by_cases h : i = j <;> simp [h]
  rw [this]
  exact q _ H (fun _ _ h => h) (.bl _)⟩
theorem opNeS_same (x : Str) : opNeS (.str x) (.str x) = some (.bl false) := by simp [opNeS, onS]
end
/-- small data: of depth dp at most, of weight wt at most -/
def Sm (dp wt : Nat) (d : D) : Prop := ∃ p, toPy d = some p ∧ p.canLay0 = true ∧ p.depth ≤ dp ∧ p.weight ≤ wt ∧ p.intsShort 13 = true ∧ p.showable = true
def SmL (dp wt : Nat) (ds : List D) : Prop := ∃ ps, toPyL ds = some ps ∧ PyData.canLayAll0 ps = true ∧ PyData.depthAll ps ≤ dp ∧ PyData.weightAll ps ≤ wt ∧ PyData.intsShortAll 13 ps = true ∧ PyData.showableAll ps = true
theorem Sm.mono {dp wt dp' wt' : Nat} {d : D} (h : Sm dp wt d) (a : dp ≤ dp') (b : wt ≤ wt') : Sm dp' wt' d := let ⟨p, h1, h2, h3, h4, h5⟩ := h; ⟨p, h1, h2, Nat.le_trans h3 a, Nat.le_trans h4 b, h5⟩
theorem SmL.mono {dp wt dp' wt' : Nat} {d : List D} (h : SmL dp wt d) (a : dp ≤ dp') (b : wt ≤ wt') : SmL dp' wt' d := let ⟨p, h1, h2, h3, h4, h5⟩ := h; ⟨p, h1, h2, Nat.le_trans h3 a, Nat.le_trans h4 b, h5⟩
theorem SmL.nil : SmL 0 0 [] := ⟨[], rfl, rfl, Nat.le_refl _, Nat.le_refl _, rfl, rfl⟩
theorem SmL.cons {dp wt wt' : Nat} {d : D} {ds : List D} (h : Sm dp wt d) (t : SmL dp wt' ds) : SmL dp (wt + 1 + wt') (d :: ds) := by
  obtain ⟨p, h1, h2, h3, h4, h5, h6⟩ := h
  obtain ⟨ps, t1, t2, t3, t4, t5, t6⟩ := t
  refine ⟨p :: ps, by simp [toPyL, h1, t1], by simp [PyData.canLayAll0, h2, t2], ?_, ?_, by simp [PyData.intsShortAll, h5, t5], by simp [PyData.showableAll, h6, t6]⟩
  · rw [PyData.depthAll]
    exact Nat.max_le.mpr ⟨h3, t3⟩
  · rw [PyData.weightAll]
    omega
theorem SmL.all {dp wt : Nat} : ∀ {ds : List D}, (∀ d ∈ ds, Sm dp wt d) → SmL dp (ds.length * (wt + 1)) ds
  | [], _ => SmL.nil.mono (Nat.zero_le _) (Nat.zero_le _)
  | d :: ds, h => (SmL.cons (h d List.mem_cons_self) (SmL.all fun x hx => h x (List.mem_cons_of_mem _ hx))).mono (Nat.le_refl _) (by rw [List.length_cons, Nat.succ_mul]; omega)
theorem Sm.tup {dp wt : Nat} {ds : List D} (h : SmL dp wt ds) : Sm (dp + 1) wt (.tup ds) := by
  obtain ⟨ps, t1, t2, t3, t4, t5, t6⟩ := h
  exact ⟨.tuple ps, by simp [toPy, t1], by simpa [PyData.canLay0] using t2, by simpa [PyData.depth] using t3, by simpa [PyData.weight] using t4, by simpa [PyData.intsShort] using t5, by simpa [PyData.showable] using t6⟩
theorem Sm.lst {dp wt : Nat} {ds : List D} (h : SmL dp wt ds) : Sm (dp + 1) wt (.lst ds) := by
  obtain ⟨ps, t1, t2, t3, t4, t5, t6⟩ := h
  exact ⟨.list ps, by simp [toPy, t1], by simpa [PyData.canLay0] using t2, by simpa [PyData.depth] using t3, by simpa [PyData.weight] using t4, by simpa [PyData.intsShort] using t5, by simpa [PyData.showable] using t6⟩
theorem Sm.non : Sm 0 0 .non := ⟨.none, rfl, rfl, Nat.le_refl _, Nat.le_refl _, rfl, rfl⟩
theorem Sm.bl (b : Bool) : Sm 0 0 (.bl b) := ⟨.bool b, rfl, rfl, Nat.le_refl _, Nat.le_refl _, rfl, rfl⟩
theorem Sm.int {i : Int} (h : -1000000000000 < i ∧ i < 1000000000000) : Sm 0 40 (.int i) := by
  have hn : i.natAbs < 10 ^ 12 := by omega
  have hl : i.natAbs.log2 < 40 := by
    by_cases z : i.natAbs = 0
    · rw [z]; decide
    · exact (Nat.log2_lt z).mpr (by omega)
  refine ⟨.int i, rfl, rfl, Nat.le_refl _, ?_, ?_, ?_⟩
  · rw [PyData.weight]
    split
    · exact Nat.zero_le _
    · omega
  · rw [PyData.intsShort, PyData.shown]
    have h0 := int_text_length_le10 (a := i) (k := 12) (by decide) hn
    refine decide_eq_true ?_
    rw [PySem.ofString_length]
    exact h0
  · rw [PyData.showable]
    exact decide_eq_true (by omega)
theorem Sm.str {n : Nat} {x : Str} (h : GS n x) : Sm 0 n (.str x) := by
  refine ⟨.str x, rfl, ?_, Nat.le_refl _, ?_, rfl, rfl⟩
  · have := h.ok
    unfold SeqAt.shaped at this
    exact (Bool.and_eq_true_iff.mp this).1
  · rw [PyData.weight]
    exact h.1
theorem Sm.shaped {dp wt : Nat} {d : D} (h : Sm dp wt d) (l : dp ≤ 64) : ∃ p, toPy d = some p ∧ SeqAt.shaped p = true := by
  obtain ⟨p, h1, h2, h3, h4, h5, h6⟩ := h
  refine ⟨p, h1, ?_⟩
  unfold SeqAt.shaped
  rw [h2, decide_eq_true (Nat.le_trans h3 l)]
  rfl
theorem Sm.shown {dp wt : Nat} {d : D} (h : Sm dp wt d) (l : dp ≤ 64) (m : wt ≤ 1048576) : ∃ x, (toPy d).bind shownD = some (.str x) := by
  obtain ⟨p, h1, h2, h3, h4, h5, h6⟩ := h
  have hl : PyData.layable0 p = true := by
    unfold PyData.layable0
    rw [h2, decide_eq_true (Nat.le_trans h3 l), decide_eq_true (show p.weight ≤ 2 ^ 20 from Nat.le_trans h4 m)]
    rfl
  have hs : p.shown.length ≤ sizeLine := Nat.le_trans (shown_le13 hl h5) (by rw [sizeLine_eq]; decide)
  have hd := PyData.hasDict_of_layable hl
  exact ⟨p.shown, by rw [h1, Option.bind_some]; unfold shownD; rw [if_pos ⟨hd, h6, Nat.le_trans h3 l, hs⟩]⟩
theorem repr_tup {dp wt : Nat} {ds : List D} (h : Sm dp wt (.tup ds)) (l : dp ≤ 64) (m : wt ≤ 1048576) : ∃ x, ∀ st, bRepr [.tup ds] st = some (.str x) := let ⟨x, e⟩ := h.shown l m; ⟨x, fun st => e⟩
theorem repr_lst {dp wt : Nat} {ds : List D} (h : Sm dp wt (.lst ds)) (l : dp ≤ 64) (m : wt ≤ 1048576) : ∃ x, ∀ st, bRepr [.lst ds] st = some (.str x) := let ⟨x, e⟩ := h.shown l m; ⟨x, fun st => e⟩
end DL
/-! == of anything and a text; a tuple and (). -/
namespace DL
open PySem PySem.Spec PyProof.Rows L2 TL
variable {K : PySem.W.Frag}
section
open PySem.MeetsSeq PySem.MeetsSeq2 PySem.MeetsSeq3 PySem.SeqAt
variable {A : Around} {s : Shared}
theorem str_not_dict (x : Str) (t : Tok) (a : Addr) (es : Array DictEntry) (n : Nat) (dd : Option Addr) (sl : Array (Option Value)) :
    Meets (Builtin.«str.__eq__» ⟨[.str x t, .ref a], []⟩) (fun _ R s => s.heap.get? a = some ⟨.type "dict", dd, .dict es n, sl⟩ ∧ R (.ok (.ret .notImplemented)) s) := .of_wp fun P w A R s hh => by
  obtain ⟨hp, g, d, tk, os⟩ := s
  obtain ⟨got, done⟩ := hh
  wp_walk using wpAny_load got
  exact ⟨_, rfl, done⟩
/-- dict's own answer to a text -/
theorem call_dict_str {P : Program} {w : World} {E Q' : Value → Shared → Prop} {a : Addr} (x : Str) (t : Tok) {id : Str} (slot : Slot "dict" id "dict.__eq__") (hT : s.TypeIs (.ref a) "dict") (hq : Q' .notImplemented s) : wpAny (model P w) A (call (.builtin "dict.__eq__") [.ref a, .str x t]) Q' E s := by
  refine wpAny_call_entry slot hT PySem.F.entry_dict_eq ?_ (PySem.F.args_dict_eq_2 _ _)
  show wpAny _ _ (Builtin.Dict.dictSlotArgs "__eq__" ⟨[.ref a, .str x t], []⟩ >>= _) _ _ s
  refine wpAny_bind ?_
  unfold Builtin.Dict.dictSlotArgs
  refine wpAny_bind (wpAny_notOrdered_dict hT ?_)
  show wpAny _ _ (pure (Value.ref a, Value.str x t)) _ _ s
  refine wpAny_pure ?_
  refine wpAny_bind (wpAny_isInstance (T := "str") (typeIs_str _ _ _) PySem.F.sub_str_dict ?_)
  simp only [Bool.not_false, if_true]
  wp_walk
  exact ⟨_, rfl, hq⟩
/-- a dict == a text -/
theorem rc_dict_str {a : Addr} {es : Array DictEntry} {n : Nat} {dd : Option Addr} {sl : Array (Option Value)} (x : Str) (t : Tok) (got : s.heap.get? a = some ⟨.type "dict", dd, .dict es n, sl⟩) (hu : A.units < cLine) : RcAt A s (.ref a) (.str x t) false := fun P w E Q h =>
  have hT : s.TypeIs (.ref a) "dict" := ⟨_, got, rfl⟩
  rc_eq_decline_or (k := false) hT (typeIs_str s x t) (by decide) PySem.F.sub_str_dict PySem.F.slot_dict_eq PySem.F.slot_str_eq_refl (fun Q' hq => call_dict_str x t PySem.F.slot_dict_eq hT hq)
    (fun Q' hq => call_meets PySem.F.slot_str_eq_refl (typeIs_str s x t) PySem.F.entry_str_eq (PySem.F.args_str_eq_2 _ _) (str_not_dict x t a es n dd sl) ⟨got, hq⟩)
    (fun Q' hq => wpAny_of_eq (rfl : isSame (.ref a) (.str x t) = pure false) hq) (.inr hu) h
theorem rc_str_dict {a : Addr} {es : Array DictEntry} {n : Nat} {dd : Option Addr} {sl : Array (Option Value)} (x : Str) (t : Tok) (got : s.heap.get? a = some ⟨.type "dict", dd, .dict es n, sl⟩) (hu : A.units < cLine) : RcAt A s (.str x t) (.ref a) false := fun P w E Q h =>
  have hT : s.TypeIs (.ref a) "dict" := ⟨_, got, rfl⟩
  rc_eq_decline_or (k := false) (typeIs_str s x t) hT (by decide) PySem.F.sub_dict_str PySem.F.slot_str_eq PySem.F.slot_dict_eq_refl
    (fun Q' hq => call_meets PySem.F.slot_str_eq (typeIs_str s x t) PySem.F.entry_str_eq (PySem.F.args_str_eq_2 _ _) (str_not_dict x t a es n dd sl) ⟨got, hq⟩) (fun Q' hq => call_dict_str x t PySem.F.slot_dict_eq_refl hT hq)
    (fun Q' hq => wpAny_of_eq (rfl : isSame (.str x t) (.ref a) = pure false) hq) (.inr hu) h
/-- as an item is compared -/
theorem eq_str_dict {a : Addr} {es : Array DictEntry} {n : Nat} {dd : Option Addr} {sl : Array (Option Value)} (x : Str) (t : Tok) (got : s.heap.get? a = some ⟨.type "dict", dd, .dict es n, sl⟩) (hu : A.units < cLine) : EqAt A s (.str x t) (.ref a) false := fun P w E Q q => by
  unfold eqBool
  refine wpAny_holding (wpAny_ite_split (fun z => absurd (eq_of_beq z) nofun) fun _ => ?_)
  exact wpAny_bind (rc_str_dict x t got hu P w E _ (wpAny_truthy_bool q))
end
section
variable {X : Cx} {W : WXd}
/-- is it this text -/
def eqS (x : Str) : D → Option Bool
  | .non => some false | .bl _ => some false | .int _ => some false | .str y => some (y == x) | .tup _ => some false | .lst _ => some false | .dct _ => some false | .scr _ => none | .ref _ => none
/-- both ways, behind whatever is read -/
theorem any_str {rho : Rf} {pins : List (Addr × Obj)} {σ : L2.St} {H : Hp} {s : Shared} {v : V} {u : Value} {d : D} {x : Str} {t : Tok} {k : Bool} {A : Around} (I : Inv X pins σ H s) (r : Rep X.K rho H v d) (rv : RelV v u) (e : eqS x d = some k) (hu : A.units < cLine) :
    SeqAt.RcAt A s u (.str x t) k ∧ SeqAt.EqAt A s (.str x t) u k := by
  cases d with
  | non => cases r; cases e; cases rv; exact ⟨.none_str _ _, .str_none _ _⟩
  | bl b => cases r; cases e; cases rv; exact ⟨.bool_str _ _ _, .str_bool _ _ _⟩
  | int i =>
    cases r
    cases e
    obtain ⟨t', rfl⟩ := rv
    exact ⟨.int_str _ _ _ _, .str_int _ _ _ _⟩
  | str y =>
    cases r
    cases e
    obtain ⟨t', rfl⟩ := rv
    refine ⟨.str_str _ _ _ _, ?_⟩
    have := SeqAt.EqAt.str_str (A := A) (s := s) x t y t'
    rwa [show (x == y) = (y == x) from Bool.beq_comm] at this
  | tup ds =>
    cases e
    obtain ⟨a, us, rfl, sq, l⟩ := r.sqT
    cases rv
    obtain ⟨its, r1, p1, _⟩ := I.tuple sq
    exact ⟨.tuple_str _ _ p1 hu, .str_tuple _ _ p1 hu⟩
  | lst ds =>
    cases e
    cases r with
    | lst g1 g2 g3 =>
      cases rv
      obtain ⟨its, r1, p1, _⟩ := I.list (.of g1)
      exact ⟨.list_str _ _ p1.isList hu, .str_list _ _ p1.isList hu⟩
  | dct kvs =>
    cases e
    cases r with
    | dct g1 g2 g3 =>
      cases rv
      obtain ⟨_, ns, vs, _, ⟨⟨cls, dd, data, sl⟩, es, ep, ho, ⟨hc, _, _⟩, hd, _⟩⟩ := (show ObjOk X.prog X.w H s.heap _ (.dK _) from (I.hok _ _ g1).2)
      simp only at hc hd
      subst hc hd
      exact ⟨rc_dict_str x t ho hu, eq_str_dict x t ho hu⟩
  | scr ns => cases e
  | ref n => cases e
/-- d == "text" -/
def eqT : D → D → Option D := fun a b => match b with | .str x => (eqS x a).map .bl | _ => none
def rEqT (K : PySem.W.Frag) : R2 := fun x y H Q => ∃ (rho : Rf) (d : D) (z : Str) (k : Bool), Rep K rho H x d ∧ y = .str z ∧ eqS z d = some k ∧ Q (.bl k) H
theorem op_eqT (hu : X.A.units < cLine) : OpR X (compareOp .Eq) (rEqT X.K) := by
  intro pins s σ H x y v u Q I rx ry h
  obtain ⟨rho, d, z, k, r, rfl, e, q⟩ := h
  obtain ⟨t, rfl⟩ := ry
  exact (any_str (A := X.A) I r rx e hu).1 X.prog X.w _ _ ⟨.bl k, H, I, rfl, q⟩
theorem ok_eqT {k : Nat} (g : GX X k) : OpOk X (compareOp .Eq) eqT := ⟨_, op_eqT g.room.units0, fun rho H x y a b d st Q si ra rb e q => by
  unfold eqT at e
  split at e
  · obtain ⟨c, h1, h2⟩ := Option.map_eq_some_iff.mp e
    subst h2
    cases rb
    exact ⟨rho, a, _, c, ra, rfl, h1, q _ H (fun _ _ h => h) (.bl _)⟩
  · cases e⟩
/-- t == () -/
def eqNil : D → D → Option D := fun a b => match a, b with | .tup xs, .tup [] => some (.bl (xs.length == 0)) | _, _ => none
def rEqNil (K : PySem.W.Frag) : R2 := fun x y H Q => ∃ a b xs, x = .ref a ∧ y = .ref b ∧ SqT K H a xs ∧ SqT K H b [] ∧ Q (.bl (xs.length == 0)) H
theorem op_eqNil (hu : X.A.units < cLine) : OpR X (compareOp .Eq) (rEqNil X.K) := by
  intro pins s σ H x y v u Q I rx ry h
  obtain ⟨a, b, xs, rfl, rfl, h1, h2, q⟩ := h
  cases rx
  cases ry
  obtain ⟨its, r1, p1, _⟩ := I.tuple h1
  obtain ⟨its2, r2, p2, _⟩ := I.tuple h2
  cases r2
  refine SeqAt.eq_tupleAt (e := fun _ => true) p1 p2 hu (fun j h1 h2 => absurd h2 (Nat.not_lt_zero j)) ?_
  have : (((List.range (min its.toArray.size (#[] : Array Value).size)).all fun _ => true) && its.toArray.size == (#[] : Array Value).size) = (xs.length == 0) := by
    rw [r1.length]
    simp
  rw [this]
  exact ⟨.bl _, H, I, rfl, q⟩
theorem ok_eqNil {k : Nat} (g : GX X k) : OpOk X (compareOp .Eq) eqNil := ⟨_, op_eqNil g.room.units0, fun rho H x y a b d st Q si ra rb e q => by
  unfold eqNil at e
  split at e
  · cases e
    obtain ⟨p, us, rfl, s1, l1⟩ := ra.sqT
    obtain ⟨p2, us2, rfl, s2, l2⟩ := rb.sqT
    cases l2
    exact ⟨p, p2, us, rfl, rfl, s1, s2, by rw [l1.len]; exact q _ H (fun _ _ h => h) (.bl _)⟩
  · cases e⟩
/-- == where one side may be anything -/
def opEqA : D → D → Option D := orD eqT (orD eqNil opEq)
theorem ok_eqA {k : Nat} (g : GX X k) : OpOk X (compareOp .Eq) opEqA := (ok_eqT g).or ((ok_eqNil g).or (ok_eq g))
/-- d in ("text", ..) -/
def anyS (a : D) : List Str → Option Bool
  | [] => some false
  | z :: zs => (eqS z a).bind fun b => (anyS a zs).map fun c => b || c
def inStr (neg : Bool) : D → D → Option D := fun a b => match b with | .tup ds => (strsD ds).bind fun zs => (anyS a zs).map fun b => .bl (if neg then !b else b) | _ => none
def rInStr (K : PySem.W.Frag) (neg : Bool) : R2 := fun x y H Q => ∃ (rho : Rf) (d : D) (p : Addr) (zs : List Str) (k : Bool), Rep K rho H x d ∧ y = .ref p ∧ SqT K H p (zs.map V.str) ∧ anyS d zs = some k ∧ Q (.bl (if neg then !k else k)) H
/-- an item's answer -/
def itemS (d : D) : Value → Bool | .str z _ => (eqS z d).getD false | _ => false
theorem any_items {rho : Rf} {pins : List (Addr × Obj)} {σ : L2.St} {H : Hp} {s : Shared} {v : V} {u : Value} {d : D} {A : Around} (I : Inv X pins σ H s) (r : Rep X.K rho H v d) (rv : RelV v u) (hu : A.units < cLine) :
    ∀ {zs : List Str} {its : List Value} {k : Bool}, Vals (zs.map V.str) its → anyS d zs = some k → its.any (itemS d) = k ∧ ∀ y ∈ its, SeqAt.EqAt A s y u (itemS d y)
  | [], _, k, .nil, e => by
    cases e
    exact ⟨rfl, fun y hy => by cases hy⟩
  | z :: zs, _, k, .cons (b := w) (l₂ := ws) hw t, e => by
    obtain ⟨b, h1, h2⟩ := Option.bind_eq_some_iff.mp (show ((eqS z d).bind fun b => (anyS d zs).map fun c => b || c) = some k from e)
    obtain ⟨c, h3, h4⟩ := Option.map_eq_some_iff.mp h2
    obtain ⟨g1, g2⟩ := any_items I r rv hu t h3
    obtain ⟨tk, rfl⟩ := hw
    have e1 : itemS d (.str z tk) = b := by
      show (eqS z d).getD false = b
      rw [h1]; rfl
    refine ⟨by rw [List.any_cons, g1, e1]; exact h4, fun y hy => ?_⟩
    rcases List.mem_cons.mp hy with rfl | hy
    · rw [e1]
      exact (any_str (A := A) I r rv h1 hu).2
    · exact g2 y hy
theorem op_inStr (hu : X.A.units + 1 < cLine) : OpR X (compareOp .In) (rInStr X.K false) := by
  intro pins s σ H x y v u Q I rx ry h
  obtain ⟨rho, d, p, zs, k, r, rfl, sq, e, q⟩ := h
  cases ry
  obtain ⟨its, r1, p1, _⟩ := I.tuple sq
  obtain ⟨g1, g2⟩ := any_items (A := X.A.in1) I r rx hu r1 e
  refine SeqAt.in_tupleAt (itemS d) p1 (fun y hy => g2 y (by simpa using hy)) ?_
  rw [show its.toArray.any (itemS d) = its.any (itemS d) by simp, g1]
  exact ⟨.bl k, H, I, rfl, q⟩
theorem op_notInStr (hu : X.A.units + 1 < cLine) : OpR X (compareOp .NotIn) (rInStr X.K true) := by
  intro pins s σ H x y v u Q I rx ry h
  obtain ⟨rho, d, p, zs, k, r, rfl, sq, e, q⟩ := h
  cases ry
  obtain ⟨its, r1, p1, _⟩ := I.tuple sq
  obtain ⟨g1, g2⟩ := any_items (A := X.A.in1) I r rx hu r1 e
  refine SeqAt.notIn_tupleAt (itemS d) p1 (fun y hy => g2 y (by simpa using hy)) ?_
  rw [show its.toArray.any (itemS d) = its.any (itemS d) by simp, g1]
  exact ⟨.bl (!k), H, I, rfl, q⟩
theorem inStr_ok (neg : Bool) {rho : Rf} {H : Hp} {x y : V} {a b d : D} {Q : VK} (ra : Rep K rho H x a) (rb : Rep K rho H y b) (e : inStr neg a b = some d) (q : ∀ v H', Same H H' → Rep K rho H' v d → Q v H') : rInStr K neg x y H Q := by
  unfold inStr at e
  split at e
  · obtain ⟨zs, h1, h2⟩ := Option.bind_eq_some_iff.mp e
    obtain ⟨c, h3, h4⟩ := Option.map_eq_some_iff.mp h2
    subst h4
    obtain ⟨p, us, rfl, s1, l1⟩ := rb.sqT
    have := l1.strs' h1
    subst this
    exact ⟨rho, a, p, zs, c, ra, rfl, s1, h3, q _ H (fun _ _ h => h) (.bl _)⟩
  · cases e
def opInA : D → D → Option D := orD (inStr false) (inSeq false)
def opNotInA : D → D → Option D := orD (inStr true) (inSeq true)
theorem ok_inA {k : Nat} (g : GX X k) : OpOk X (compareOp .In) opInA := OpOk.or ⟨_, op_inStr (by have := g.room.un; omega), fun rho H x y a b d st Q si ra rb e q => inStr_ok false ra rb e q⟩ ok_in
theorem ok_notinA {k : Nat} (g : GX X k) : OpOk X (compareOp .NotIn) opNotInA := OpOk.or ⟨_, op_notInStr (by have := g.room.un; omega), fun rho H x y a b d st Q si ra rb e q => inStr_ok true ra rb e q⟩ ok_notin
end
end DL
/-! repr of anything. -/
namespace DL
open PySem PySem.Spec PyProof.Rows L2 TL
variable {K : PySem.W.Frag}
mutual
def toPyR : D → Option PyData
  | .non => some .none
  | .bl b => some (.bool b)
  | .int i => some (.int i)
  | .str x => some (.str x)
  | .tup ds => (toPyRL ds).map .tuple
  | .lst ds => (toPyRL ds).map .list
  | .dct [] => some (.dict [])
  | .dct (_ :: _) => none
  | .scr _ => none
  | .ref _ => none
def toPyRL : List D → Option (List PyData)
  | [] => some []
  | d :: ds => (toPyR d).bind fun p => (toPyRL ds).map fun q => p :: q
end
section
variable {X : Cx} {W : WXd} {pins : List (Addr × Obj)} {σ : L2.St} {H : Hp} {s : Shared} {rho : Rf}
theorem dict_nil (I : Inv X pins σ H s) {a : Addr} {xs : List (Key × V)} (h : Rd H a (.dK xs)) (e : xs = []) : ∃ o es ep, s.heap.get? a = some o ∧ o.cls = .type "dict" ∧ o.data = .dict es ep ∧ es.toList = [] ∧ (a == sysModules) = false := by
  subst e
  obtain ⟨_, ns, vs, kv, ⟨o, es, ep, ho, ⟨hc, _, _⟩, hd, _, hp, _⟩⟩ := (show ObjOk X.prog X.w H s.heap a (.dK []) from h.ok I.hok)
  unfold KV at kv
  cases kv
  refine ⟨o, es, ep, ho, hc, hd, ?_, ns⟩
  generalize es.toList = l at *
  cases hp
  rfl
/-- what can be read back, with what shows it -/
def Shows (X : Cx) (s : Shared) (u : Value) (p : PyData) : Prop := (∃ as, Reads s.heap u p as) ∧ ∃ bs, ReadAtMost s.heap p.depth bs ∧ ReprK X.prog X.w bs s.heap p.depth u p.shown
def ShowsL (X : Cx) (s : Shared) (us : List Value) (ps : List PyData) : Prop := (∃ as, ReadsAll s.heap us ps as) ∧ ∃ bs, ReadAtMost s.heap (PyData.depthAll ps) bs ∧ ReprAllK X.prog X.w bs s.heap (PyData.depthAll ps) us (PyData.shownAll ps)
theorem shows_flat {u : Value} {p : PyData} (r : Reads s.heap u p []) (h : ReprIs X.prog X.w u p.shown) : Shows X s u p := ⟨⟨[], r⟩, [], (fun _ z => nomatch z), .of_is h _ _ _⟩
mutual
theorem shows_of (I : Inv X pins σ H s) : ∀ (d : D) {v : V} {u : Value} {p : PyData}, Rep X.K rho H v d → RelV v u → toPyR d = some p → p.showable = true → p.shown.length ≤ sizeLine → Shows X s u p
  | .non, _, _, _, r, rv, e, _, _ => by
    cases r
    cases rv
    cases e
    exact shows_flat .none .none
  | .bl b, _, _, _, r, rv, e, _, _ => by
    cases r
    cases rv
    cases e
    exact shows_flat (.bool b) (.bool b)
  | .int i, _, _, _, r, rv, e, sh, _ => by
    cases r
    obtain ⟨t, rfl⟩ := rv
    cases e
    exact shows_flat (.int i t) (.int t (of_decide_eq_true (show decide (i.natAbs.log2 < 1920) = true from sh)))
  | .str x, _, _, _, r, rv, e, _, z => by
    cases r
    obtain ⟨t, rfl⟩ := rv
    cases e
    exact shows_flat (.str x t) (.str x t z)
  | .scr _, _, _, _, _, _, e, _, _ => by cases e
  | .ref _, _, _, _, _, _, e, _, _ => by cases e
  | .dct (_ :: _), _, _, _, _, _, e, _, _ => by cases e
  | .dct [], _, _, _, r, rv, e, _, _ => by
    cases e
    cases r with
    | dct g1 g2 g3 =>
      cases g3
      cases rv
      obtain ⟨o, es, ep, ho, hc, hd, hn, hs⟩ := dict_nil I (.inr ⟨_, g1⟩) rfl
      have rd : Reads s.heap (.ref _) (.dict []) _ := .dict (as := []) (bs := []) ho hc hd (by rw [hn]; exact .nil) (by rw [hn]; exact .nil)
      exact ⟨⟨_, rd⟩, [_], fun b hb => by
        rw [List.mem_singleton.mp hb]
        exact ⟨_, _, rd, Nat.le_refl _⟩, ReprK.dict (d := 0) ho hc hd hs (by simp) (by rw [hn]; exact .nil)⟩
  | .tup ds, _, _, _, r, rv, e, sh, z => by
    obtain ⟨ps, e1, e2⟩ := Option.map_eq_some_iff.mp (show (toPyRL ds).map PyData.tuple = some _ from e)
    subst e2
    obtain ⟨a, us, rfl, sq, l⟩ := r.sqT
    cases rv
    obtain ⟨its, r1, ⟨o, ho, hc, n, hd⟩, _⟩ := I.tuple sq
    obtain ⟨⟨as, ra⟩, bs, hb, hk⟩ := showsL_of I ds l r1 e1 sh fun t ht => Nat.le_trans (tupleText_mem_le ht) z
    have rd : Reads s.heap (.ref a) (.tuple ps) as := .tuple ho hc hd ra
    have na : a ∉ bs := not_mem_of_deeper rd (Nat.lt_succ_self _) hb
    exact ⟨⟨as, rd⟩, a :: bs, ReadAtMost.cons rd (Nat.le_succ _) hb, ReprK.tuple ho hc hd na hk⟩
  | .lst ds, _, _, _, r, rv, e, sh, z => by
    obtain ⟨ps, e1, e2⟩ := Option.map_eq_some_iff.mp (show (toPyRL ds).map PyData.list = some _ from e)
    subst e2
    cases r with
    | lst g1 g2 g3 =>
      rename_i a us
      cases rv
      obtain ⟨its, r1, ⟨⟨o, n, ho, hc, hx, hd⟩, hz⟩⟩ := I.list (.of g1)
      obtain ⟨⟨as, ra⟩, bs, hb, hk⟩ := showsL_of I ds g3 r1 e1 sh fun t ht => Nat.le_trans (listText_mem_le ht) z
      have rd : Reads s.heap (.ref a) (.list ps) (a :: as) := .list ho hc hd ra
      have na : a ∉ bs := not_mem_of_deeper rd (Nat.lt_succ_self _) hb
      refine ⟨⟨_, rd⟩, a :: bs, ReadAtMost.cons rd (Nat.le_succ _) hb, ?_⟩
      cases its with
      | nil =>
        cases ra
        exact ReprK.listEmpty ho hc hd
      | cons w ws => exact ReprK.list ho hc hd na (by simpa using hk.length_eq) fun i y q => hk.item i y (by simpa using q)
theorem showsL_of (I : Inv X pins σ H s) : ∀ (ds : List D) {vs : List V} {us : List Value} {ps : List PyData}, RepL X.K rho H vs ds → Vals vs us → toPyRL ds = some ps → PyData.showableAll ps = true → (∀ t ∈ PyData.shownAll ps, t.length ≤ sizeLine) → ShowsL X s us ps
  | [], _, _, _, .nil, .nil, e, _, _ => by
    cases e
    exact ⟨⟨[], .nil⟩, [], (fun _ z => nomatch z), .nil⟩
  | d :: ds, _, _, ps, .cons r l, .cons rv rt, e, sh, z => by
    obtain ⟨p, e1, e2⟩ := Option.bind_eq_some_iff.mp (show ((toPyR d).bind fun p => (toPyRL ds).map fun q => p :: q) = some ps from e)
    obtain ⟨qs, e3, e4⟩ := Option.map_eq_some_iff.mp e2
    subst e4
    have sh2 : p.showable = true ∧ PyData.showableAll qs = true := Bool.and_eq_true_iff.mp (show (p.showable && PyData.showableAll qs) = true from sh)
    obtain ⟨⟨as, ra⟩, b1, hb1, k1⟩ := shows_of I d r rv e1 sh2.1 (z _ (List.mem_cons_self (a := p.shown) (l := PyData.shownAll qs)))
    obtain ⟨⟨as2, ra2⟩, b2, hb2, k2⟩ := showsL_of I ds l rt e3 sh2.2 fun t ht => z t (List.mem_cons_of_mem _ ht)
    refine ⟨⟨as ++ as2, .cons ra ra2⟩, b1 ++ b2, ReadAtMost.append (hb1.mono (Nat.le_max_left _ _)) (hb2.mono (Nat.le_max_right _ _)), ?_⟩
    exact .cons ((k1.more fun b h => List.mem_append_left _ h).level_le (Nat.le_max_left _ _)) (k2.more_le (fun b h => List.mem_append_right _ h) (Nat.le_max_right _ _))
end
end
section
variable {X : Cx} {W : WXd}
def rRepr (K : PySem.W.Frag) : List V → Hp → VK → Prop := fun xs H Q => ∃ rho v d p, xs = [v] ∧ Rep K rho H v d ∧ toPyR d = some p ∧ p.showable = true ∧ p.depth ≤ 64 ∧ p.shown.length ≤ sizeLine ∧ Q (.str p.shown) H
theorem call_reprA {k : Nat} (g : GX X k) : CallR X (.builtin "repr") (rRepr X.K) := by
  intro pins s σ H xs us Q I r h
  obtain ⟨rho, v, d, p, rfl, rp, e, sh, dp, z, q⟩ := h
  obtain ⟨u, rfl, rv⟩ := vals1 r
  have hu := g.room.un
  have fin : ∀ h' (w : Tok) (tk : Nat), (∀ b o, s.heap.get? b = some o → h'.get? b = some o) → EP X pins σ Q (.str p.shown w) { s with heap := h', toks := tk } := fun h' w tk hk => ⟨.str p.shown, H, I.kept hk, ⟨_, rfl⟩, q⟩
  cases d with
  | non =>
    cases rp
    cases rv
    cases e
    exact PySem.P.repr_of_none ⟨.str _, H, I.tok _, ⟨_, rfl⟩, q⟩
  | bl b =>
    cases rp
    cases rv
    cases e
    exact PySem.P.repr_of_bool ⟨.str _, H, I.tok _, ⟨_, rfl⟩, q⟩
  | int i =>
    cases rp
    obtain ⟨t, rfl⟩ := rv
    cases e
    exact PySem.P.repr_of_int (of_decide_eq_true (show decide (i.natAbs.log2 < 1920) = true from sh)) ⟨.str _, H, I.tok _, ⟨_, rfl⟩, q⟩
  | str x =>
    cases rp
    obtain ⟨t, rfl⟩ := rv
    cases e
    exact PySem.P.repr_of_str ⟨.str _, H, I.tok _, ⟨_, rfl⟩, q⟩ z
  | scr ns => cases e
  | ref n => cases e
  | dct kvs =>
    cases kvs with
    | cons _ _ => cases e
    | nil =>
      cases e
      cases rp with
      | dct g1 g2 g3 =>
        cases g3
        cases rv
        obtain ⟨o, es, ep, ho, hc, hd, hn, hs⟩ := dict_nil I (.inr ⟨_, g1⟩) rfl
        exact call_repr_slot (by omega) ⟨o, ho, hc⟩ PySem.F.slot_dict_repr (call_dict_reprK (as := []) (d := 0) (ps := []) ho hc hd hs (by simp) (by rw [hn]; exact .nil) g.gd (fun b _ => Clear.nil b) (by show X.A.units + 1 + 1 < cLine; omega) (fun _ _ e => e) (fun h' u tk hk => ⟨_, _, rfl, fin h' u tk hk⟩) z)
  | tup ds =>
    obtain ⟨ps, e1, e2⟩ := Option.map_eq_some_iff.mp (show (toPyRL ds).map PyData.tuple = some _ from e)
    subst e2
    obtain ⟨a, us, rfl, sq, l⟩ := rp.sqT
    cases rv
    obtain ⟨its, r1, ⟨o, ho, hc, n, hd⟩, _⟩ := I.tuple sq
    obtain ⟨⟨as, ra⟩, bs, hb, hk⟩ := showsL_of I ds l r1 e1 sh fun t ht => Nat.le_trans (tupleText_mem_le ht) z
    have rd : Reads s.heap (.ref a) (.tuple ps) as := .tuple ho hc hd ra
    have na : a ∉ bs := not_mem_of_deeper rd (Nat.lt_succ_self _) hb
    have dd : PyData.depthAll ps + 1 ≤ 64 := dp
    exact call_repr_slot (by omega) ⟨o, ho, hc⟩ PySem.F.slot_tuple_repr (call_tuple_reprK ho hc hd na hk g.gd (fun b _ => Clear.nil b) (by show X.A.units + 1 + (PyData.depthAll ps + 1) < cLine; omega) (fun _ _ e => e) (fun h' u tk hk => ⟨_, _, rfl, fin h' u tk hk⟩) z)
  | lst ds =>
    obtain ⟨ps, e1, e2⟩ := Option.map_eq_some_iff.mp (show (toPyRL ds).map PyData.list = some _ from e)
    subst e2
    cases rp with
    | lst g1 g2 g3 =>
      rename_i a us
      cases rv
      obtain ⟨its, r1, ⟨⟨o, n, ho, hc, hx, hd⟩, hz⟩⟩ := I.list (.of g1)
      obtain ⟨⟨as, ra⟩, bs, hb, hk⟩ := showsL_of I ds g3 r1 e1 sh fun t ht => Nat.le_trans (listText_mem_le ht) z
      have rd : Reads s.heap (.ref a) (.list ps) (a :: as) := .list ho hc hd ra
      have na : a ∉ bs := not_mem_of_deeper rd (Nat.lt_succ_self _) hb
      have dd : PyData.depthAll ps + 1 ≤ 64 := dp
      refine call_repr_slot (by omega) ⟨o, ho, hc⟩ PySem.F.slot_list_repr.toG ?_
      cases its with
      | nil =>
        cases ra
        exact call_list_repr_empty ⟨o, ho, hc⟩ ho hd ⟨_, _, rfl, fin s.heap _ _ fun _ _ e => e⟩
      | cons w ws => exact call_list_reprK ho hc hd na (by simpa using hk.length_eq) (fun i y q => hk.item i y (by simpa using q)) g.gd (fun b _ => Clear.nil b) (by show X.A.units + 1 + (PyData.depthAll ps + 1) < cLine; omega) (fun _ _ e => e) (fun h' u tk hk => ⟨_, _, rfl, fin h' u tk hk⟩) z
/-- repr(d), of anything -/
def bReprA : List D → Store → Option D := fun ds _ => match ds with
  | [d] => (toPyR d).bind fun p => if p.showable = true ∧ p.depth ≤ 64 ∧ p.shown.length ≤ sizeLine then some (.str p.shown) else none
  | _ => none
theorem ok_reprA {k : Nat} (g : GX X k) : CallOk X (.builtin "repr") bReprA := ⟨_, call_reprA g, fun rho H xs ds d st Q rl si e q => by
  unfold bReprA at e
  split at e
  · rename_i y
    obtain ⟨v, rfl, p⟩ := lst1 rl
    obtain ⟨z, h1, h2⟩ := Option.bind_eq_some_iff.mp e
    by_cases c : z.showable = true ∧ z.depth ≤ 64 ∧ z.shown.length ≤ sizeLine
    · rw [if_pos c] at h2
      cases h2
      exact ⟨rho, v, y, z, rfl, p, h1, c.1, c.2.1, c.2.2, q _ H (fun _ _ h => h) (.str _)⟩
    · rw [if_neg c] at h2
      cases h2
  · cases e⟩
end
/-! ### measures -/
mutual
/-- what may be shown: no great ints, texts of ASCII -/
def okD : D → Bool
  | .non => true
  | .bl _ => true
  | .int i => decide (i.natAbs < 10 ^ 62)
  | .str x => (tl x).all fun c => decide (c < 128)
  | .tup ds => okL ds
  | .lst ds => okL ds
  | .dct [] => true
  | .dct (_ :: _) => false
  | .scr _ => false
  | .ref _ => false
def okL : List D → Bool
  | [] => true
  | d :: ds => okD d && okL ds
end
mutual
def wD : D → Nat
  | .int _ => 210
  | .str x => x.length
  | .tup ds => wL ds
  | .lst ds => wL ds
  | _ => 0
def wL : List D → Nat
  | [] => 0
  | d :: ds => wD d + 1 + wL ds
end
mutual
def hD : D → Nat
  | .tup ds => hL ds + 1
  | .lst ds => hL ds + 1
  | .dct _ => 1
  | _ => 0
def hL : List D → Nat
  | [] => 0
  | d :: ds => max (hD d) (hL ds)
end
mutual
theorem ok_pyR : ∀ (d : D), okD d = true → ∃ p, toPyR d = some p ∧ p.showable = true ∧ p.leavesShort 70 = true ∧ p.depth ≤ hD d ∧ p.weight ≤ wD d
  | .non, _ => ⟨_, rfl, rfl, rfl, Nat.le_refl _, Nat.le_refl _⟩
  | .bl b, _ => ⟨_, rfl, rfl, rfl, Nat.le_refl _, Nat.le_refl _⟩
  | .int i, h => by
    have hn : i.natAbs < 10 ^ 62 := of_decide_eq_true h
    have hl : i.natAbs.log2 < 207 := by
      by_cases z : i.natAbs = 0
      · rw [z]; decide
      · exact (Nat.log2_lt z).mpr (Nat.lt_trans hn (by decide))
    refine ⟨.int i, rfl, ?_, ?_, Nat.le_refl _, ?_⟩
    · rw [PyData.showable]
      exact decide_eq_true (by omega)
    · rw [PyData.leavesShort, PyData.shown]
      have h0 := int_text_length_le10 (a := i) (k := 62) (by decide) hn
      refine decide_eq_true ?_
      rw [PySem.ofString_length]
      omega
    · rw [PyData.weight, wD]
      split
      · exact Nat.zero_le _
      · omega
  | .str x, h => by
    refine ⟨.str x, rfl, rfl, ?_, Nat.le_refl _, ?_⟩
    · rw [PyData.leavesShort]
      exact List.all_eq_true.mpr fun c hc => decide_eq_true (Nat.lt_trans (of_decide_eq_true (List.all_eq_true.mp h c hc)) (by decide))
    · rw [PyData.weight, wD]
      exact Nat.le_refl _
  | .dct [], _ => ⟨.dict [], rfl, rfl, rfl, Nat.le_refl _, Nat.le_refl _⟩
  | .dct (_ :: _), h => by cases h
  | .scr _, h => by cases h
  | .ref _, h => by cases h
  | .tup ds, h => by
    obtain ⟨ps, h1, h2, h3, h4, h5⟩ := ok_pyRL ds h
    exact ⟨.tuple ps, by show (toPyRL ds).map _ = _; rw [h1]; rfl, h2, h3, Nat.succ_le_succ h4, h5⟩
  | .lst ds, h => by
    obtain ⟨ps, h1, h2, h3, h4, h5⟩ := ok_pyRL ds h
    exact ⟨.list ps, by show (toPyRL ds).map _ = _; rw [h1]; rfl, h2, h3, Nat.succ_le_succ h4, h5⟩
theorem ok_pyRL : ∀ (ds : List D), okL ds = true → ∃ ps, toPyRL ds = some ps ∧ PyData.showableAll ps = true ∧ PyData.leavesShortAll 70 ps = true ∧ PyData.depthAll ps ≤ hL ds ∧ PyData.weightAll ps ≤ wL ds
  | [], _ => ⟨[], rfl, rfl, rfl, Nat.le_refl _, Nat.le_refl _⟩
  | d :: ds, h => by
    obtain ⟨a, b⟩ := Bool.and_eq_true_iff.mp (show (okD d && okL ds) = true from h)
    obtain ⟨p, h1, h2, h3, h4, h5⟩ := ok_pyR d a
    obtain ⟨ps, g1, g2, g3, g4, g5⟩ := ok_pyRL ds b
    refine ⟨p :: ps, by show (toPyR d).bind _ = _; rw [h1, g1]; rfl, by rw [PyData.showableAll, h2, g2]; rfl, by rw [PyData.leavesShortAll, h3, g3]; rfl, ?_, ?_⟩
    · rw [PyData.depthAll, hL]
      exact Nat.max_le.mpr ⟨Nat.le_trans h4 (Nat.le_max_left _ _), Nat.le_trans g4 (Nat.le_max_right _ _)⟩
    · rw [PyData.weightAll, wL]
      omega
end
theorem repr_any {d : D} (h : okD d = true) (l : hD d ≤ 64) (m : wD d ≤ 200000) : ∃ x, ∀ st, bReprA [d] st = some (.str x) := by
  obtain ⟨p, h1, h2, h3, h4, h5⟩ := ok_pyR d h
  have hs : p.shown.length ≤ sizeLine := by
    have := PyData.shown_le 70 (by decide) p h3
    have h6 : (70 + 2) * p.weight ≤ 72 * 200000 := Nat.mul_le_mul_left 72 (Nat.le_trans h5 m)
    rw [sizeLine_eq]
    omega
  exact ⟨p.shown, fun st => by show (toPyR d).bind _ = _; rw [h1, Option.bind_some, if_pos ⟨h2, Nat.le_trans h4 l, hs⟩]⟩
theorem okL_mem {ds : List D} : okL ds = true ↔ ∀ d ∈ ds, okD d = true := by
  induction ds with
  | nil => exact ⟨fun _ _ h => (by cases h), fun _ => rfl⟩
  | cons d ds ih =>
    show (okD d && okL ds) = true ↔ _
    rw [Bool.and_eq_true, ih]
    simp
theorem wL_append : ∀ (xs ys : List D), wL (xs ++ ys) = wL xs + wL ys
  | [], ys => by rw [List.nil_append, wL, Nat.zero_add]
  | x :: xs, ys => by rw [List.cons_append, wL, wL, wL_append xs ys]; omega
theorem wL_mem {ds : List D} {d : D} (h : d ∈ ds) : wD d + 1 ≤ wL ds := by
  induction ds with
  | nil => cases h
  | cons e es ih =>
    rw [wL]
    rcases List.mem_cons.mp h with rfl | h
    · omega
    · have := ih h
      omega
theorem hL_le {n : Nat} {ds : List D} : hL ds ≤ n ↔ ∀ d ∈ ds, hD d ≤ n := by
  induction ds with
  | nil => exact ⟨fun _ _ h => (by cases h), fun _ => Nat.zero_le _⟩
  | cons d ds ih =>
    rw [hL, Nat.max_le, ih]
    simp
end DL
/-! A list of the store: an item replaced; walked for good; tuples times an int. -/
namespace DL
open PySem PySem.Spec PyProof.Rows L2 TL
variable {K : PySem.W.Frag}
section
variable {X : Cx} {W : WXd} {tg iter : Expr}
/-- a list of the store is walked, and written no more -/
def iOfZ (f : F) : FI := fun env st => (f env st).bind fun p => match p.1 with
  | .ref n => (match p.2[n]? with | some (.lst ds) => some (ds, p.2.set n .dead) | _ => none)
  | _ => none
def Rf.drop (r : Rf) (a : Addr) : Rf := ⟨r.adr, fun p => r.av p ∧ p ≠ a, r.lk⟩
theorem drop_ext {r : Rf} {H : Hp} {a : Addr} (h : a ∈ r.adr) : Ext r H (r.drop a) H :=
  ⟨⟨⟨[], by simp [Rf.drop]⟩, fun _ _ z _ => z, fun _ z n => absurd z.1 n⟩, fun p v n => ⟨rfl, ⟨v, fun e => n (e ▸ h)⟩, n⟩, fun _ => Iff.rfl, fun _ _ => rfl⟩
theorem drop_sim {r : Rf} {H : Hp} {st : Store} (s : Sim K r H st) {n : Nat} {a : Addr} (h : r.adr[n]? = some a) : Sim K (r.drop a) H (st.set n .dead) := by
  refine ⟨by rw [List.length_set]; exact s.len, s.nd, fun m b o h1 h2 => ?_, fun p v => s.there p v.1, s.old, s.lkd⟩
  by_cases z : n = m
  · subst z
    by_cases hl : n < st.length
    · rw [List.getElem?_set_self hl] at h2
      cases h2
      trivial
    · rw [List.getElem?_eq_none (by rw [List.length_set]; omega)] at h2
      cases h2
  · rw [List.getElem?_set_ne z] at h2
    have nb : b ≠ a := fun y => z (by
      subst y
      obtain ⟨l1, e1⟩ := List.getElem?_eq_some_iff.mp h
      obtain ⟨l2, e2⟩ := List.getElem?_eq_some_iff.mp h1
      exact (List.getElem_inj s.nd).mp (e1.trans e2.symm))
    exact (s.ob m b o h1 h2).ex (drop_ext (List.mem_of_getElem? h)).toEx fun v => ⟨rfl, v, nb⟩
theorem di_frz {f : F} (h : DE X iter f) : DI X tg iter (iOfZ f) := weakI (pi_list h) fun σ H R hh => by
  obtain ⟨r, env, st, ds, st', he, hs, hf, q⟩ := hh
  obtain ⟨⟨d, s1⟩, h1, h2⟩ := Option.bind_eq_some_iff.mp hf
  cases d with
  | ref n =>
    have h2' : (match s1[n]? with | some (.lst ds) => some (ds, s1.set n .dead) | _ => none) = some (ds, st') := h2
    split at h2'
    · rename_i es hst
      cases h2'
      refine ⟨r, env, st, _, s1, he, hs, h1, fun v r1 H1 e1 q1 p1 => ?_⟩
      obtain ⟨a, rfl, ha⟩ := p1.refI
      obtain ⟨av, xs, hx, l⟩ := q1.ob _ a _ ha hst
      have ex := drop_ext (H := H1) (List.mem_of_getElem? ha)
      have na : ¬ (r1.drop a).av a := fun z => z.2 rfl
      exact ⟨a, rfl, ⟨xs, .of hx⟩, q _ _ H1 (e1.trans ex) (drop_sim q1 ha) (sql_ok rfl (fun r2 H2 e2 => .of (e2.keep _ _ hx na)) (l.ext ex))⟩
    · cases h2'
  | _ => cases h2
theorem RepL.set {r : Rf} {H : Hp} {v : V} {d : D} (q : Rep K r H v d) : ∀ {vs : List V} {ds : List D} (j : Nat), RepL K r H vs ds → RepL K r H (vs.set j v) (ds.set j d)
  | _, _, _, .nil => .nil
  | _, _, 0, .cons a b => .cons q b
  | _, _, j + 1, .cons a b => .cons a (RepL.set q j b)
/-- o[i] = v, o a list of the store -/
def sPutL (fo fk fv : F) : FS := fun env st => (fv env st).bind fun p => (fo env p.2).bind fun q => (fk env q.2).bind fun w => match q.1, w.1 with
  | .ref n, .int i => (match w.2[n]? with
    | some (.lst ds) => (ixN ds.length i).bind fun j => some (.nx, env, w.2.set n (.lst (ds.set j p.1)))
    | _ => none)
  | _, _ => none
theorem ds_putL {o i value : Expr} {fo fk fv : F} {pos pos' : Pos} (ho : DE X o fo) (hi : DE X i fk) (hv : DE X value fv) (hs : swapsWithSole [.Subscript o i pos'] value pos.line X.env = pure false := by rfl) (hw : swappedStores [.Subscript o i pos'] value X.env = pure none := by rfl)
    (h1 : (assignEach [.Subscript o i pos'] X.env).map (·.2) = [assign (.Subscript o i pos') X.env] := by rfl)
    (ha : ∀ v, assign (.Subscript o i pos') X.env v = (do let ov ← holding [v] (eval o X.env); let iv ← holding [v, ov] (eval i X.env); standAt pos'; holding [v, ov, iv] (setItem ov iv v); release [v, ov, iv] []) := by intro _; rfl) :
    DS X W (.Assign [.Subscript o i pos'] value pos) (sPutL fo fk fv) := weakS (ps_asg hv (pg_sub ho hi set_list ha) hs hw h1) fun D' σ H hh => by
  obtain ⟨r, env, st, out, env', st', he, hs, hf, q⟩ := hh
  obtain ⟨⟨x, s1⟩, h1, hf1⟩ := Option.bind_eq_some_iff.mp hf
  obtain ⟨⟨y, s2⟩, h2, hf2⟩ := Option.bind_eq_some_iff.mp hf1
  obtain ⟨⟨z, s3⟩, h3, hf3⟩ := Option.bind_eq_some_iff.mp hf2
  cases y with
  | ref n =>
    cases z with
    | int k =>
      simp only at hf3
      split at hf3
      · rename_i ds hst
        obtain ⟨j, hj, hf4⟩ := Option.bind_eq_some_iff.mp hf3
        cases hf4
        refine ⟨r, env, st, x, s1, he, hs, h1, fun xv r1 H1 e1 q1 p1 => ⟨r1, env, s1, _, s2, he.ext e1, q1, h2, fun yv r2 H2 e2 q2 p2 => ⟨r2, env, s2, _, s3, (he.ext e1).ext e2, q2, h3, fun zv r3 H3 e3 q3 p3 => ?_⟩⟩⟩
        cases p3
        obtain ⟨p, rfl, hp⟩ := (p2.ext e3).refI
        obtain ⟨av, xs, hx, l⟩ := q3.ob _ p _ hp hst
        have px : Rep X.K r3 H3 xv x := (p1.ext e2).ext e3
        refine ⟨p, xs, k, j, rfl, rfl, hx, by rw [l.len]; exact hj, ?_⟩
        have ee : Ex r3 H3 r3 (upd H3 p (.lst (xs.set j xv))) := ⟨⟨[], by simp⟩, fun a o w m => by rw [upd_ne (fun y => m (by rw [y]; exact av))]; exact w, fun a w m => absurd w m⟩
        obtain ⟨w1, w2⟩ := q3.set (o := .lst (xs.set j xv)) (ob := .lst (ds.set j x)) hp av ⟨av, _, upd_same, (RepL.set px j l).ex ee⟩ (fun _ _ z => by rw [hx] at z; cases z)
        exact q σ r3 _ (((e1.trans e2).trans e3).trans w1) ((((he.ext e1).ext e2).ext e3).ext w1) w2
      · cases hf3
    | _ => cases hf3
  | _ => cases hf3
/-- (x, ..) * n -/
def mulT : D → D → Option D := fun a b => match a, b with
  | .tup xs, .int n => if xs ≠ [] ∧ 2 ≤ n ∧ n ≤ 1000 ∧ xs.length ≤ 1000 then some (.tup (List.replicate n.toNat xs).flatten) else none
  | _, _ => none
theorem RepL.rep {r : Rf} {H : Hp} {vs : List V} {ds : List D} (l : RepL K r H vs ds) : ∀ n : Nat, RepL K r H (List.replicate n vs).flatten (List.replicate n ds).flatten
  | 0 => .nil
  | n + 1 => by
    rw [List.replicate_succ, List.replicate_succ, List.flatten_cons, List.flatten_cons]
    exact l.append (RepL.rep l n)
theorem ok_mulT : OpOk X (binaryOp .Mult) mulT := ⟨_, op_repF, fun rho H x y a b d st Q si ra rb e q => by
  unfold mulT at e
  split at e
  · rename_i xs n
    by_cases c : xs ≠ [] ∧ 2 ≤ n ∧ n ≤ 1000 ∧ xs.length ≤ 1000
    · rw [if_pos c] at e
      cases e
      cases rb
      obtain ⟨p, us, rfl, s1, l1⟩ := ra.sqT
      refine ⟨p, n, us, rfl, rfl, s1, fun z => c.1 ?_, c.2.1, c.2.2.1, by rw [l1.len]; exact c.2.2.2, fun p' o hp hz => q _ _ (same_alloc hp) (fresh_tup si hp hz (l1.rep n.toNat))⟩
      subst z
      cases l1
      rfl
    · rw [if_neg c] at e
      cases e
  · cases e⟩
def opMulA : D → D → Option D := orD opMul mulT
theorem ok_mulA : OpOk X (binaryOp .Mult) opMulA := ok_mul.or ok_mulT
end
end DL
/-! Instances of own classes: objects of the store. -/
namespace DL
open PySem PySem.Spec PyProof.Rows L2 TL
variable {K : PySem.W.Frag}
/-- the class c, at C -/
structure ClsAt (K : PySem.W.Frag) (c : Str) (C : Addr) : Prop where
  at_ : PySem.W.nsIn K mainGlobals c = some (some (.ref C))
  cls : Cls K C
/-- the instance at n, of class c -/
def insAt (c : Str) (n : Nat) (st : Store) : Option (List (Str × D)) := match st[n]? with
  | some (.ins c' fs) => if c' = c then some fs else none
  | _ => none
theorem insAt_some {c : Str} {n : Nat} {st : Store} {fs : List (Str × D)} (h : insAt c n st = some fs) : st[n]? = some (.ins c fs) := by
  unfold insAt at h
  split at h
  · rename_i c' gs e
    by_cases z : c' = c
    · rw [if_pos z] at h
      cases h
      rw [← z]
      exact e
    · rw [if_neg z] at h
      cases h
  · cases h
theorem fields_get {r : Rf} {H : Hp} {f : Str} : ∀ {vs : List (Str × V)} {fs : List (Str × D)} {d : D}, vs.map (·.1) = fs.map (·.1) → RepL K r H (vs.map (·.2)) (fs.map (·.2)) → fs.lookup f = some d → ∃ v, vs.lookup f = some v ∧ Rep K r H v d
  | [], [], d, _, _, h => by cases h
  | (g, v) :: vs, (g', e) :: fs, d, n, l, h => by
    injection n with n1 n2
    have n1' : g = g' := n1
    subst n1'
    cases l with
    | cons a b =>
      rw [List.lookup_cons] at h ⊢
      cases z : f == g with
      | true =>
        rw [z] at h
        cases h
        exact ⟨v, rfl, a⟩
      | false =>
        rw [z] at h
        exact fields_get n2 b h
theorem fields_none {f : Str} : ∀ {vs : List (Str × V)} {fs : List (Str × D)}, vs.map (·.1) = fs.map (·.1) → fs.lookup f = none → vs.lookup f = none
  | [], [], _, _ => rfl
  | (g, v) :: vs, (g', e) :: fs, n, h => by
    injection n with n1 n2
    have n1' : g = g' := n1
    subst n1'
    rw [List.lookup_cons] at h ⊢
    cases z : f == g with
    | true =>
      rw [z] at h
      cases h
    | false =>
      rw [z] at h
      exact fields_none n2 h
/-- a field set -/
def putFD (f : Str) (d : D) : List (Str × D) → List (Str × D)
  | [] => [(f, d)]
  | (g, x) :: r => if g = f then (g, d) :: r else (g, x) :: putFD f d r
theorem fields_put {r : Rf} {H : Hp} {f : Str} {v : V} {d : D} (q : Rep K r H v d) : ∀ {vs : List (Str × V)} {fs : List (Str × D)}, vs.map (·.1) = fs.map (·.1) → RepL K r H (vs.map (·.2)) (fs.map (·.2)) →
    (putF f v vs).map (·.1) = (putFD f d fs).map (·.1) ∧ RepL K r H ((putF f v vs).map (·.2)) ((putFD f d fs).map (·.2))
  | [], [], _, _ => ⟨rfl, .cons q .nil⟩
  | (g, x) :: vs, (g', e) :: fs, n, l => by
    injection n with n1 n2
    have n1' : g = g' := n1
    subst n1'
    cases l with
    | cons a b =>
      unfold putF putFD
      by_cases z : g = f
      · rw [if_pos z, if_pos z]
        exact ⟨by rw [List.map_cons, List.map_cons, n2], .cons q b⟩
      · rw [if_neg z, if_neg z]
        obtain ⟨h1, h2⟩ := fields_put q n2 b
        exact ⟨by rw [List.map_cons, List.map_cons, h1], .cons a h2⟩
section
variable {X : Cx} {W : WXd}
/-- o.f -/
def fFld (c f : Str) (fo : F) : F := fun env st => (fo env st).bind fun p => match p.1 with
  | .ref n => (insAt c n p.2).bind fun fs => (fs.lookup f).map fun d => (d, p.2)
  | _ => none
theorem de_fld {c f : Str} {C : Addr} {e : Expr} {fo : F} {pos : Pos} (hc : ClsAt X.K c C) (na : NoAttr X.K C f) (he : DE X e fo) (hb : attributeBase e f X.env (eval e X.env) = eval e X.env := by rfl) : DE X (.Attribute e f pos) (fFld c f fo) :=
  weakE (pe_fld he hb) fun σ H Q hh => by
  obtain ⟨r, env, st, d, st', he, hs, hf, q⟩ := hh
  obtain ⟨⟨x, s1⟩, h1, h2⟩ := Option.bind_eq_some_iff.mp hf
  cases x with
  | ref n =>
    obtain ⟨fs, h3, h4⟩ := Option.bind_eq_some_iff.mp (show ((insAt c n s1).bind fun fs => (fs.lookup f).map fun d => (d, s1)) = some (d, st') from h2)
    obtain ⟨d', h5, h6⟩ := Option.map_eq_some_iff.mp h4
    cases h6
    refine ⟨r, env, st, _, _, he, hs, h1, fun v r1 H1 e1 q1 p1 => ?_⟩
    obtain ⟨a, rfl, ha⟩ := p1.refI
    obtain ⟨av, C', dx, vs, hn, hx, nm, l⟩ := q1.ob _ a _ ha (insAt_some h3)
    rw [hc.at_] at hn
    cases hn
    obtain ⟨w, hw, rw'⟩ := fields_get nm l h5
    exact ⟨a, C, dx, vs, w, rfl, hx, hc.cls, na, hw, q w r1 H1 e1 q1 rw'⟩
  | _ => cases h2
/-- o.f = e -/
def sFldD (c f : Str) (fo fv : F) : FS := fun env st => (fv env st).bind fun p => (fo env p.2).bind fun q => match q.1 with
  | .ref n => (insAt c n q.2).bind fun fs => if fs.length < 1000 then some (.nx, env, q.2.set n (.ins c (putFD f p.1 fs))) else none
  | _ => none
theorem ds_fld {c f : Str} {C : Addr} {o value : Expr} {fo fv : F} {pos pos' : Pos} (hc : ClsAt X.K c C) (na : NoAttr X.K C f) (ho : DE X o fo) (hv : DE X value fv) (hs : swapsWith value (some (.Attribute o f pos')) pos.line X.env = pure false := by rfl) :
    DS X W (.Assign [.Attribute o f pos'] value pos) (sFldD c f fo fv) := weakS (ps_fld ho hv hs) fun D' σ H hh => by
  obtain ⟨r, env, st, out, env', st', he, hs, hf, q⟩ := hh
  obtain ⟨⟨x, s1⟩, h1, hf1⟩ := Option.bind_eq_some_iff.mp hf
  obtain ⟨⟨y, s2⟩, h2, hf2⟩ := Option.bind_eq_some_iff.mp hf1
  cases y with
  | ref n =>
    obtain ⟨fs, h3, h4⟩ := Option.bind_eq_some_iff.mp (show ((insAt c n s2).bind fun fs => if fs.length < 1000 then some (Out.nx, env, s2.set n (.ins c (putFD f x fs))) else none) = some (out, env', st') from hf2)
    by_cases hl : fs.length < 1000
    case neg => rw [if_neg hl] at h4; cases h4
    rw [if_pos hl] at h4
    cases h4
    refine ⟨r, env, st, x, s1, he, hs, h1, fun xv r1 H1 e1 q1 p1 => ⟨r1, env, s1, _, s2, he.ext e1, q1, h2, fun yv r2 H2 e2 q2 p2 => ?_⟩⟩
    obtain ⟨a, rfl, ha⟩ := p2.refI
    obtain ⟨av, C', dx, vs, hn, hx, nm, l⟩ := q2.ob _ a _ ha (insAt_some h3)
    have hn0 := hn
    rw [hc.at_] at hn
    cases hn
    have px : Rep X.K r2 H2 xv x := p1.ext e2
    have lv : vs.length = fs.length := by
      have := congrArg List.length nm
      rwa [List.length_map, List.length_map] at this
    obtain ⟨g1, g2⟩ := fields_put (f := f) px nm l
    refine ⟨a, C, dx, vs, rfl, hx, hc.cls, na, by rw [lv]; exact hl, ?_⟩
    have ee : Ex r2 H2 r2 (upd H2 a (.ins C dx (putF f xv vs))) := ⟨⟨[], by simp⟩, fun b o w m => by rw [upd_ne (fun y => m (by rw [y]; exact av))]; exact w, fun b w m => absurd w m⟩
    obtain ⟨w1, w2⟩ := q2.set (o := .ins C dx (putF f xv vs)) (ob := .ins c (putFD f x fs)) ha av ⟨av, C, dx, _, hn0, upd_same, g1, g2.ex ee⟩ (fun _ _ z => by rw [hx] at z; cases z)
    exact q σ r2 _ ((e1.trans e2).trans w1) (((he.ext e1).ext e2).ext w1) w2
  | _ => cases hf2
/-- o.m(e, ..) -/
def noF (m : Str) (o : Option (List (Str × D))) : Bool := match o with | some fs => (fs.lookup m).isNone | none => false
def fMeth (c m : Str) (mm : FM) (fo : F) (fa : FA) : F := fun env st => (fo env st).bind fun p => match p.1 with
  | .ref n => if noF m (insAt c n p.2) = true then (fa env p.2).bind fun q => mm (.ref n :: q.1) q.2 else none
  | _ => none
variable {k : Nat} {f C : Addr} {fd : FuncData} {ps : List Str} {mm : FM} {c m : Str} {apos pos : Pos} {o e : Expr} {es : List Expr}
theorem de_meth {pl : Sem Bool} (hc : ClsAt X.K c C) (hm : Meth X.K C m f) (Fd : FnD X.prog X.w X.K X.mg X.base k f fd ps mm) (gx : GX X k) (hb : Binds X.K fd ps []) {fo : F} {fa : FA} (ho : DE X o fo) (ha : DA X (e :: es) fa) (hl : (e :: es).length + 1 = ps.length := by rfl)
    (hst : starEach (e :: es) X.env = (false, eval e X.env) :: starEach es X.env := by rfl) (hpl : (backTo pos (starEach es X.env)).any (·.1) = false := by rfl)
    (ht : eval (.Call (.Attribute o m apos) (e :: es) [] pos) X.env = (do let ov ← eval o X.env; standAt apos.atName; let (f, first) ← holding [ov] (getMethod ov m pl); callWith pos f first (backTo pos (starEach (e :: es) X.env)) (backToKw pos (keywordEach [] X.env))) := by rfl)
    (hn : ∀ env st ds st', fa env st = some (ds, st') → ds.length = (e :: es).length) :
    DE X (.Call (.Attribute o m apos) (e :: es) [] pos) (fMeth c m mm fo fa) := by
  refine ⟨fun pins s σ H Q I h => ?_⟩
  obtain ⟨r, env, st, d, st', he', hs, hf, q⟩ := h
  obtain ⟨⟨x, s1⟩, h1, h2⟩ := Option.bind_eq_some_iff.mp hf
  cases x with
  | ref n =>
    have h2' : (if noF m (insAt c n s1) = true then (fa env s1).bind fun q => mm (.ref n :: q.1) q.2 else none) = some (d, st') := h2
    by_cases hz : noF m (insAt c n s1) = true
    case neg => rw [if_neg hz] at h2'; cases h2'
    rw [if_pos hz] at h2'
    obtain ⟨⟨ds, s2⟩, h3, h4⟩ := Option.bind_eq_some_iff.mp h2'
    refine PySem.W.methodCall_KW (pl := pl) (thn (ho.run pins s σ H (fun v H1 => ∃ a r1 C' dx vs, v = .ref a ∧ r1.adr[n]? = some a ∧ H1 a = some (.ins C' dx vs) ∧ C' = C ∧ vs.lookup m = none ∧ Ext r H r1 H1 ∧ Sim X.K r1 H1 s1) I ⟨r, env, st, _, s1, he', hs, h1, fun v r1 H1 e1 q1 p1 => ?_⟩) fun u sa hq => ?_) ht
    · obtain ⟨a, rfl, hadr⟩ := p1.refI
      cases hi : insAt c n s1 with
      | none => rw [hi] at hz; cases hz
      | some fs =>
        rw [hi] at hz
        obtain ⟨av, C', dx, vs, hn', hx, nm, l⟩ := q1.ob _ a _ hadr (insAt_some hi)
        rw [hc.at_] at hn'
        cases hn'
        exact ⟨a, r1, C, dx, vs, rfl, hadr, hx, rfl, fields_none nm (Option.isNone_iff_eq_none.mp hz), e1, q1⟩
    · obtain ⟨x, H1, I1, rx, a, r1, C', dx, vs, rfl, hadr, hx, rfl, hno, e1, q1⟩ := hq
      cases rx
      refine getmeth_ok I1 hx hc.cls hm hno ?_
      refine PySem.W.callWith_K (first := [.ref a]) (h₀ := X.base) I.ok.mod.kin hm.kp (thn (ha.run pos pins sa σ H1 (fun vs H2 => ∃ r2, Ext r1 H1 r2 H2 ∧ Sim X.K r2 H2 s2 ∧ RepL X.K r2 H2 vs ds) I1 ⟨r1, env, s1, ds, s2, he'.ext e1, q1, h3, fun vs r2 H2 e2 q2 l2 => ⟨r2, e2, q2, l2⟩⟩) fun us sb hz => ?_) hst hpl
      obtain ⟨vs2, H2, I2, rv, r2, e2, q2, l2⟩ := hz
      exact ⟨I2.kIn, runD (us := .ref a :: us) (vs := .ref a :: vs2) Fd gx hb I2 (.cons rfl rv) (by rw [List.length_cons, l2.len, hn _ _ _ _ h3]; exact hl) (.cons (.ref (e2.get hadr)) l2) q2 h4 fun v r3 H3 e3 q3 p3 => q v r3 H3 ((e1.trans e2).trans e3) q3 p3⟩
  | _ => cases h2
/-- C(e, ..) -/
theorem make_guards {A : Around} {C : Addr} {us : List Value} {kw : List (Str × Value)} : (A.under (.builtin "type.__call__" ⟨.ref C :: us, kw⟩)).guards = A.guards := by
  first
    | rfl
    | simp [Around.under, Code.weight, Code.isCreation, Code.isGuard, Code.isCaller, Code.frames, Code.isFrame, guardIds]
/-- the new instance, on both levels -/
theorem made_sim {r : Rf} {H : Hp} {st : Store} {x dx : Addr} (hs : Sim X.K r H st) (hc : PySem.W.nsIn X.K mainGlobals c = some (some (.ref C))) (nx : H x = none) (nd : H dx = none) (ne : dx ≠ x) :
    ∃ r1, Ext r H r1 (upd (upd H dx (.own x)) x (.ins C dx [])) ∧ Sim X.K r1 (upd (upd H dx (.own x)) x (.ins C dx [])) (st ++ [.ins c []]) ∧ Rep X.K r1 (upd (upd H dx (.own x)) x (.ins C dx [])) (.ref x) (.ref st.length) := by
  have a1 : Same H (upd H dx (.own x)) := same_alloc nd
  have nx1 : upd H dx (.own x) x = none := by rw [upd_ne (Ne.symm ne)]; exact nx
  have q1 := hs.same a1
  obtain ⟨e0, hd0⟩ := hideNew (o := .ins C dx []) q1 nx1
  obtain ⟨w1, w2, w3⟩ := hd0.add (o := .ins C dx []) (ob := .ins c []) e0 q1 nx1 ⟨hd0.av, C, dx, [], hc, upd_same, rfl, .nil⟩
  rw [upd_upd] at w1 w2 w3
  exact ⟨_, (hs.ext a1).trans w1, w2, w3 _ rfl⟩
theorem runMake {pins : List (Addr × Obj)} {σ : L2.St} {H : Hp} {s : Shared} {Q : VK} {us : List Value} {vs : List V} {rho : Rf} {ds : List D} {st st' : Store} (M : Mk X.K C f) (hc : PySem.W.nsIn X.K mainGlobals c = some (some (.ref C)))
    (Fd : FnD X.prog X.w X.K X.mg X.base k f fd ps mm) (gx : GX X (k + 1)) (hb : Binds X.K fd ps []) (I : Inv X pins σ H s) (r : Vals vs us) (hl : vs.length + 1 = ps.length) (rd : RepL X.K rho H vs ds) (hs : Sim X.K rho H st)
    (hm : mm (.ref st.length :: ds) (st ++ [.ins c []]) = some (.non, st')) (hq : ∀ v rho' H', Ext rho H rho' H' → Sim X.K rho' H' st' → Rep X.K rho' H' v (.ref st.length) → Q v H') :
    wpAny (model X.prog X.w) X.A (call (.ref C) us) (EP X pins σ Q) X.xe s := by
  obtain ⟨r1, e1, s1, p1⟩ := made_sim (c := c) (C := C) hs hc (I.hok.fresh (Nat.le_succ s.heap.objs.size)) (I.hok.fresh (Nat.le_refl s.heap.objs.size)) (Nat.ne_of_lt (Nat.lt_succ_self s.heap.objs.size))
  have I2 := Inv.made (C := C) I
  have r2 : Vals (V.ref (s.heap.objs.size + 1) :: vs) (Value.ref (s.heap.objs.size + 1) :: us) := .cons rfl r
  have hu : (Value.ref (s.heap.objs.size + 1) :: us).length = ps.length := by rw [List.length_cons, ← r.length]; exact hl
  have hbt := hb { s with heap := (s.heap.push PySem.W.emptyDict).push (PySem.W.instObj C s.heap.objs.size) } (Value.ref (s.heap.objs.size + 1) :: us) I2.kIn (by rw [List.append_nil]; exact hu)
  rw [List.append_nil] at hbt
  refine wpAny_call (make_map (f := f) I.kIn M.makes M.init (beq_iff_eq.mp M.fn) (codeAny_mono (Fd.run _ X.stack _ _ ⟨Value.ref (s.heap.objs.size + 1) :: us, []⟩ (Value.ref (s.heap.objs.size + 1) :: us) _ (fun v H2 => v = .non ∧ Q (.ref (s.heap.objs.size + 1)) H2) r1 (.ref st.length :: ds) _ st' .non (make_guards.trans gx.gd) (gx.room.make C us [])
    (I2.env0.make C us []) hbt r2 (by rw [List.length_cons]; exact hl) (.cons p1 (rd.ext e1)) s1 hm fun v r3 H3 e3 q3 p3 => ?_) fun z s' hz => ?_))
  · cases p3
    exact ⟨rfl, hq _ r3 H3 (e1.trans e3) q3 (p1.ext e3)⟩
  · cases z with
    | error e => exact False.elim hz
    | ok fl =>
      cases fl with
      | ret u =>
        obtain ⟨v, H', I3, rv, ev, q3⟩ := I2.after hz
        subst ev
        exact ⟨rv, ⟨V.ref (s.heap.objs.size + 1), H', I3, rfl, q3⟩⟩
      | next => exact False.elim hz
      | brk => exact False.elim hz
      | cont => exact False.elim hz
def fMake (c : Str) (mi : FM) (fa : FA) : F := fun env st => (fa env st).bind fun q => (mi (.ref q.2.length :: q.1) (q.2 ++ [.ins c []])).bind fun z => match z.1 with | .non => some (.ref q.2.length, z.2) | _ => none
theorem de_make {x : Str} {p : Pos} (M : Mk X.K C f) (hc : PySem.W.nsIn X.K mainGlobals c = some (some (.ref C))) (Fd : FnD X.prog X.w X.K X.mg X.base k f fd ps mm) (gx : GX X (k + 1)) (hg : Gl X x) (hm : X.mg x = some (.ref C)) (hb : Binds X.K fd ps []) {fa : FA} (ha : DA X (e :: es) fa) (hl : (e :: es).length + 1 = ps.length := by rfl)
    (hdb : (x == ("__debug__" : Str)) = false := by decide) (he : starEach (e :: es) X.env = (false, eval e X.env) :: starEach es X.env := by rfl) (hpl : (backTo pos (starEach es X.env)).any (·.1) = false := by rfl)
    (hn : ∀ env st ds st', fa env st = some (ds, st') → ds.length = (e :: es).length) :
    DE X (.Call (.Name x p) (e :: es) [] pos) (fMake c mm fa) := by
  refine ⟨fun pins s σ H Q I h => wpAny_Call_Name_kw (ld_glob I hg hm ?_ hdb)⟩
  obtain ⟨r, env, st, d, st', he', hs, hf, q⟩ := h
  obtain ⟨⟨ds, s1⟩, h1, h2⟩ := Option.bind_eq_some_iff.mp hf
  obtain ⟨⟨z, s2⟩, h3, h4⟩ := Option.bind_eq_some_iff.mp h2
  have ez : z = .non ∧ d = .ref s1.length ∧ st' = s2 := by
    cases z with
    | non => cases h4; exact ⟨rfl, rfl, rfl⟩
    | _ => cases h4
  obtain ⟨rfl, rfl, rfl⟩ := ez
  refine PySem.W.callWith_K (h₀ := X.base) I.ok.mod.kin M.kp (thn (ha.run pos pins s σ H (fun vs H1 => ∃ r1, Ext r H r1 H1 ∧ Sim X.K r1 H1 s1 ∧ RepL X.K r1 H1 vs ds) I ⟨r, env, st, ds, s1, he', hs, h1, fun vs r1 H1 e1 q1 l1 => ⟨r1, e1, q1, l1⟩⟩) fun us sa hz => ?_) he hpl
  obtain ⟨vs, H1, I1, rv, r1, e1, q1, l1⟩ := hz
  exact ⟨I1.kIn, runMake M hc Fd gx hb I1 rv (by rw [l1.len, hn _ _ _ _ h1]; exact hl) l1 q1 h3 fun v r2 H2 e2 q2 p2 => q v r2 H2 (e1.trans e2) q2 p2⟩
end
end DL
/-! Defs that may raise an own error with one field. -/
namespace DL
open PySem PySem.Spec PyProof.Rows L2 TL
variable {K : PySem.W.Frag}
inductive Rs | val (d : D) | er (c f : Str) (d : D)
abbrev FMX := List D → Store → Option (Rs × Store)
def outX : Option (Out × Lo × Store) → Option (Rs × Store)
  | some (.rt d, _, s) => some (.val d, s)
  | some (.nx, _, s) => some (.val .non, s)
  | some (.er c f d, _, s) => some (.er c f d, s)
  | _ => none
def mOfX (n : Nat) (g : FS) : FMX := fun ds st => outX (g (startD n ds) st)
/-- both ways out -/
def RsOk (K : PySem.W.Frag) (rho : Rf) (H : Hp) (st' : Store) (Q : VK) (E : XK) : Rs → Prop
  | .val d => ∀ v rho' H', Ext rho H rho' H' → Sim K rho' H' st' → Rep K rho' H' v d → Q v H'
  | .er c f d => ∀ rho' H' C dd, Ext rho H rho' H' → Sim K rho' H' st' → ErrAt K rho' H' c f d C dd → E (.ref C) (some dd) H'
structure FnX (P : Program) (w : World) (K : PySem.W.Frag) (mg : Str → Option Value) (base : Heap) (k : Nat) (f : Addr) (fd : FuncData) (ps : List Str) (m : FMX) : Prop where
  run : ∀ (A : Around) (outer : List Env) (s : Shared) (H : Hp) (args : Args) (us : List Value) (vs : List V) (Q : VK) (E : XK) (rho : Rf) (ds : List D) (st st' : Store) (z : Rs),
    A.guards = some [] → Room k A → Env0 P w K mg base A outer s H → BindsTo s fd args (ps.zip us) → Vals vs us → vs.length = ps.length → RepL K rho H vs ds → Sim K rho H st → m ds st = some (z, st') →
    RsOk K rho H st' Q E z → codeAny (model P w) A (.call (.ref f) args) (CR (L2.CX P w) outer P w H s Q E) s
theorem FnX.up {P : Program} {w : World} {mg : Str → Option Value} {base : Heap} {j k : Nat} {f : Addr} {fd : FuncData} {ps : List Str} {m : FMX} (h : FnX P w K mg base j f fd ps m) (l : j ≤ k) : FnX P w K mg base k f fd ps m :=
  ⟨fun A outer s H args us vs Q E rho ds st st' z hg hr => h.run A outer s H args us vs Q E rho ds st st' z hg (hr.mono l)⟩
abbrev cxX (P : Program) (w : World) (K : PySem.W.Frag) (mg : Str → Option Value) (base : Heap) (N : List Str) (qual : Str) (sc : Scope) (f : Addr) (cd : Value) (A : Around) (outer : List Env) (s : Shared) (H : Hp) (E : XK) : Cx :=
  cxOf (L2.CX P w) P w K mg base N qual sc f cd A outer s H E
/-- where the errors of a body go -/
abbrev wE (E : XK) : WXd := fun cls d _ H => E cls d H
theorem FnX.of {P : Program} {w : World} {mg : Str → Option Value} {base : Heap} {x qual : Str} {sd : Stmt} {f : Addr} {fd : FuncData} {N ps : List Str} {k : Nat} {g : FS} (F : Fun K x qual sd f fd) (S : FnScope N ps (defScope sd))
    (hb : ∀ (cd : Value) (A : Around) (outer : List Env) (s : Shared) (H : Hp) (E : XK), GX (cxX P w K mg base N qual (defScope sd) f cd A outer s H E) k → DSs (cxX P w K mg base N qual (defScope sd) f cd A outer s H E) (wE E) (defBody sd) g) :
    FnX P w K mg base (k + 1) f fd ps (mOfX N.length g) := by
  obtain ⟨oc, od, kV, doc, pm, an, cd, ct, osl, rfl, lk, hcd⟩ := F.ex
  refine ⟨fun A outer s H args us vs Q E rho ds st st' z hgd hr e0 hbind rv hlen rds hs hm hq => ?_⟩
  have hps : ps.length ≤ N.length := by
    have := congrArg List.length S.pre
    rw [List.length_take] at this
    omega
  have KX : K.In s.heap := e0.mod.kin.keeps fun b o e => (e0.bs b o e).1
  have lim : s.heap.NoLimit := e0.mod.nolimit.keeps fun b o e => (e0.bs b o e).1
  have kinds : ∀ y ∈ ps.zip us, (defScope sd).names.lookup y.1 = some .local ∨ ((defScope sd).names.lookup y.1 = some .cell ∧ ((cellsFrom (s.heap.objs.size + 1) (defScope sd).names []).lookup y.1).isSome = true) := fun ⟨n, v⟩ hy =>
    (S.par n (List.of_mem_zip hy).1).elim .inl fun q => .inr ⟨q, PySem.W.cellsFrom_some _ _ _ (.inl q)⟩
  refine codeAny_call_function hr.depth (KX _ _ lk) rfl S.co S.gen rfl (PySem.W.codeRec_of KX hcd) (hbind _ _ _ _ (wpAny_newFunctionEnv_cells S.kind kinds fun env he s1 x => ?_))
  subst he
  refine ⟨lim.keeps x.toInCall.keep, codeAny_func ?_⟩
  have gx : GX (cxX P w K mg base N qual (defScope sd) f cd A outer s H E) k := ⟨rfl, S.nd, hr.deeper _, hgd⟩
  have I0 : Inv (cxX P w K mg base N qual (defScope sd) f cd A outer s H E) [] (L2.start N vs) H s1 := inv_start S hr.hd e0 hlen rv x
  obtain ⟨o, env', h1, h2⟩ : ∃ o env', g (startD N.length ds) st = some (o, env', st') ∧ OutOk K (wE E) rho H { nx := fun _ H' => Q .non H', rt := Q } env' st' o := by
    unfold mOfX at hm
    cases q0 : g (startD N.length ds) st with
    | none => rw [q0] at hm; cases hm
    | some q =>
      obtain ⟨o, e, s2⟩ := q
      rw [q0] at hm
      cases o with
      | rt d' => cases hm; exact ⟨_, _, rfl, hq⟩
      | nx => cases hm; exact ⟨_, _, rfl, fun σ' r' H' ex _ hs' => hq .non r' H' ex hs' .non⟩
      | er c f d => cases hm; exact ⟨_, _, rfl, fun σ' r' H' C dd ex _ hs' er => hq r' H' C dd ex hs' er⟩
      | bk => cases hm
      | ct => cases hm
  have run := (hb cd A outer s H E gx).run [] s1 (L2.start N vs) H { nx := fun _ H' => Q .non H', rt := Q } I0 ⟨rho, _, st, o, env', st', start_env rds (by omega), hs, h1, h2⟩
  have back : ∀ {σ' : L2.St} {H' : Hp} {v : V} {u : Value} {s' : Shared}, Inv (cxX P w K mg base N qual (defScope sd) f cd A outer s H E) [] σ' H' s' → RelV v u → Q v H' → CE outer P w H s Q u s' := fun {σ' H' v u s'} J r z => ⟨v, H', J.os, J.bare, J.base, J.hok, r, z⟩
  refine wpAny_mono run (fun fl s' q => ?_) fun _ _ z => z
  cases fl with
  | ret u =>
    obtain ⟨v, σ', H', J, r, z⟩ := q
    exact back J r z
  | next =>
    obtain ⟨σ', H', J, z⟩ := q
    exact back (v := V.non) (u := Value.none) J rfl z
  | brk => obtain ⟨_, _, _, z⟩ := q; exact z.elim
  | cont => obtain ⟨_, _, _, z⟩ := q; exact z.elim
/-! ### what is called may raise -/
def fCallX (m : FMX) (fa : FA) : Lo → Store → Option (Rs × Store) := fun env st => (fa env st).bind fun p => m p.1 p.2
/-- an expression that may raise -/
abbrev FX := Lo → Store → Option (Rs × Store)
def tX (K : PySem.W.Frag) (W : WXd) (f : FX) : TE := fun σ H Q => ∃ r env st z st', EnvR K r H env σ ∧ Sim K r H st ∧ f env st = some (z, st') ∧ RsOk K r H st' Q (fun cls d H' => W cls d σ H') z
abbrev DX (X : Cx) (W : WXd) (e : Expr) (f : FX) : Prop := PE X e (tX X.K W f)
section
variable {X : Cx} {W : WXd} {k : Nat} {f : Addr} {fd : FuncData} {ps : List Str} {m : FMX} {x : Str} {p pos : Pos} {e : Expr} {es : List Expr}
theorem runX {pins : List (Addr × Obj)} {σ : L2.St} {H : Hp} {s : Shared} {Q : VK} {us : List Value} {vs : List V} {rho : Rf} {ds : List D} {st st' : Store} {z : Rs} (Fd : FnX X.prog X.w X.K X.mg X.base k f fd ps m) (gx : GX X k) (hb : Binds X.K fd ps []) (tk : L2.Takes X W)
    (I : Inv X pins σ H s) (r : Vals vs us) (hl : vs.length = ps.length) (rd : RepL X.K rho H vs ds) (hs : Sim X.K rho H st) (hm : m ds st = some (z, st')) (hq : RsOk X.K rho H st' Q (fun cls d H' => W cls d σ H') z) :
    wpAny (model X.prog X.w) X.A (call (.ref f) us) (EP X pins σ Q) X.xe s := by
  have hu : us.length = ps.length := by rw [← r.length]; exact hl
  have hbt : BindsTo s fd ⟨us, []⟩ (ps.zip us) := by
    have := hb s us I.kIn (by rw [List.append_nil]; exact hu)
    rwa [List.append_nil] at this
  refine wpAny_call (codeAny_mono (Fd.run X.A X.stack s H ⟨us, []⟩ us vs Q (fun cls d H' => W cls d σ H') rho ds st st' z gx.gd gx.room I.env0 hbt r hl rd hs hm hq) fun y s' hz => ?_)
  cases y with
  | error e => exact L2.passAt tk σ pins H s e s' I hz
  | ok fl =>
    cases fl with
    | ret u => exact I.after hz
    | next => exact False.elim hz
    | brk => exact False.elim hz
    | cont => exact False.elim hz
theorem RsOk.ext {rho rho1 : Rf} {H H1 : Hp} {st' : Store} {Q : VK} {E : XK} (e : Ext rho H rho1 H1) : ∀ {z : Rs}, RsOk K rho H st' Q E z → RsOk K rho1 H1 st' Q E z
  | .val _, h => fun v r' H' e' a b => h v r' H' (e.trans e') a b
  | .er _ _ _, h => fun r' H' C dd e' a b => h r' H' C dd (e.trans e') a b
/-- f(e, ..) -/
theorem dx_call (Fd : FnX X.prog X.w X.K X.mg X.base k f fd ps m) (gx : GX X k) (tk : L2.Takes X W) (hg : Gl X x) (hm : X.mg x = some (.ref f)) (hk : PySem.W.keepIn X.K (.ref f) = true) (hb : Binds X.K fd ps []) {fa : FA}
    (ha : DA X (e :: es) fa) (hl : (e :: es).length = ps.length := by rfl) (hdb : (x == ("__debug__" : Str)) = false := by decide) (he : starEach (e :: es) X.env = (false, eval e X.env) :: starEach es X.env := by rfl) (hpl : (backTo pos (starEach es X.env)).any (·.1) = false := by rfl)
    (hn : ∀ env st ds st', fa env st = some (ds, st') → ds.length = (e :: es).length) :
    DX X W (.Call (.Name x p) (e :: es) [] pos) (fCallX m fa) := by
  refine ⟨fun pins s σ H Q I h => wpAny_Call_Name_kw (ld_glob I hg hm ?_ hdb)⟩
  obtain ⟨r, env, st, z, st', he', hs, hf, q⟩ := h
  obtain ⟨⟨ds, s1⟩, h1, h2⟩ := Option.bind_eq_some_iff.mp hf
  refine PySem.W.callWith_K (h₀ := X.base) I.ok.mod.kin hk (thn (ha.run pos pins s σ H (fun vs H1 => ∃ r1, Ext r H r1 H1 ∧ Sim X.K r1 H1 s1 ∧ RepL X.K r1 H1 vs ds) I ⟨r, env, st, ds, s1, he', hs, h1, fun vs r1 H1 e1 q1 l1 => ⟨r1, e1, q1, l1⟩⟩) fun us sa hz => ?_) he hpl
  obtain ⟨vs, H1, I1, rv, r1, e1, q1, l1⟩ := hz
  exact ⟨I1.kIn, runX Fd gx hb tk I1 rv (by rw [l1.len, hn _ _ _ _ h1]; exact hl) l1 q1 h2 (q.ext e1)⟩
/-- return f(e, ..); f(e, ..); x = f(e, ..) -/
def sRetX (f : FX) : FS := fun env st => (f env st).map fun p => match p.1 with | .val d => (.rt d, env, p.2) | .er c fl d => (.er c fl d, env, p.2)
theorem ds_retX {e : Expr} {f : FX} {pos : Pos} (h : DX X W e f) : DS X W (.Return (some e) pos) (sRetX f) := weakS (ps_ret h) fun D' σ H hh => by
  obtain ⟨r, env, st, o, env', st', he, hs, hf, q⟩ := hh
  obtain ⟨⟨z, s1⟩, h1, h2⟩ := Option.map_eq_some_iff.mp hf
  cases z with
  | val d =>
    cases h2
    exact ⟨r, env, st, _, _, he, hs, h1, q⟩
  | er c fl d =>
    cases h2
    exact ⟨r, env, st, _, _, he, hs, h1, fun r' H' C dd ex hs' er => q σ r' H' C dd ex (he.ext ex) hs' er⟩
def sDropX (f : FX) : FS := fun env st => (f env st).map fun p => match p.1 with | .val _ => (.nx, env, p.2) | .er c fl d => (.er c fl d, env, p.2)
theorem ds_exprX {e : Expr} {f : FX} {pos : Pos} (h : DX X W e f) (hs : swapsWith e none pos.line X.env = pure false := by rfl) : DS X W (.Expr e pos) (sDropX f) := weakS (ps_expr h hs) fun D' σ H hh => by
  obtain ⟨r, env, st, o, env', st', he, hs, hf, q⟩ := hh
  obtain ⟨⟨z, s1⟩, h1, h2⟩ := Option.map_eq_some_iff.mp hf
  cases z with
  | val d =>
    cases h2
    exact ⟨r, env, st, _, _, he, hs, h1, fun v r1 H1 e1 q1 _ => q σ r1 H1 e1 (he.ext e1) q1⟩
  | er c fl d =>
    cases h2
    exact ⟨r, env, st, _, _, he, hs, h1, fun r' H' C dd ex hs' er => q σ r' H' C dd ex (he.ext ex) hs' er⟩
def sAsgX (f : FX) (g : FG) : FS := fun env st => (f env st).bind fun p => match p.1 with | .val d => (g d env).map fun e1 => (.nx, e1, p.2) | .er c fl d => some (.er c fl d, env, p.2)
theorem ds_asgX {tg e : Expr} {f : FX} {g : FG} {pos : Pos} (he : DX X W e f) (hg : DG X tg g) (hs : swapsWithSole [tg] e pos.line X.env = pure false := by rfl) (hw : swappedStores [tg] e X.env = pure none := by rfl)
    (h1 : (assignEach [tg] X.env).map (·.2) = [assign tg X.env] := by rfl) : DS X W (.Assign [tg] e pos) (sAsgX f g) := weakS (ps_asg he hg hs hw h1) fun D' σ H hh => by
  obtain ⟨r, env, st, o, env', st', he, hs, hf, q⟩ := hh
  obtain ⟨⟨z, s1⟩, h1, h2⟩ := Option.bind_eq_some_iff.mp hf
  cases z with
  | val d =>
    obtain ⟨e1, h3, h4⟩ := Option.map_eq_some_iff.mp (show ((g d env).map fun e1 => (Out.nx, e1, s1)) = some (o, env', st') from h2)
    cases h4
    exact ⟨r, env, st, _, _, he, hs, h1, fun v r1 H1 x1 q1 p1 => ⟨r1, env, d, _, he.ext x1, p1, h3, fun σ' he' => q σ' r1 H1 x1 he' q1⟩⟩
  | er c fl d =>
    cases h2
    exact ⟨r, env, st, _, _, he, hs, h1, fun r' H' C dd ex hs' er => q σ r' H' C dd ex (he.ext ex) hs' er⟩
end
end DL
/-! Targets that are tuples, zip, starred displays, ord, what is never run. -/
namespace DL
open PySem PySem.Spec PyProof.Rows L2 TL
variable {K : PySem.W.Frag}
/-! ### targets -/
def TgsOk (K : PySem.W.Frag) (g : TGs) (is : List Nat) (bd : List D → Option (List D)) : Prop := ∀ r H xs ds σ (Q : L2.St → Hp → Prop) vals, RepL K r H xs ds → bd ds = some vals → (∀ vs, RepL K r H vs vals → Q (setL is vs σ) H) → g xs σ H Q
def bNil : List D → Option (List D) := fun ds => match ds with | [] => some [] | _ => none
def bCons (b : FB) (c : List D → Option (List D)) : List D → Option (List D) := fun ds => match ds with | d :: r => (b d).bind fun x => (c r).map fun y => x ++ y | [] => none
def bTup (n : Nat) (c : List D → Option (List D)) : FB := fun d => match d with | .tup ds => if ds.length = n then c ds else none | _ => none
theorem tgs_nil : TgsOk K gNil [] bNil := fun r H xs ds σ Q vals hr hb q => by
  cases ds with
  | nil =>
    cases hr
    cases hb
    exact ⟨rfl, q [] .nil⟩
  | cons _ _ => cases hb
/-- as many slots as values -/
def BdN (n : Nat) (b : FB) : Prop := ∀ d v, b d = some v → v.length = n
theorem b1_n : BdN 1 b1 := fun d v h => by cases h; rfl
theorem setL_app {α : Type} : ∀ (is js : List Nat) (vs us : List α) (σ : List (Option α)), is.length = vs.length → setL (is ++ js) (vs ++ us) σ = setL js us (setL is vs σ)
  | [], js, [], us, σ, _ => rfl
  | i :: is, js, v :: vs, us, σ, h => by
    show setL (is ++ js) (vs ++ us) (σ.set i (some v)) = setL js us (setL is vs (σ.set i (some v)))
    exact setL_app is js vs us _ (Nat.succ.inj h)
  | [], js, v :: vs, us, σ, h => by cases h
  | i :: is, js, [], us, σ, h => by cases h
theorem repL_split {r : Rf} {H : Hp} : ∀ {vs : List V} {as bs : List D}, RepL K r H vs (as ++ bs) → ∃ us ws, vs = us ++ ws ∧ RepL K r H us as ∧ RepL K r H ws bs
  | vs, [], bs, h => ⟨[], vs, rfl, .nil, h⟩
  | _, a :: as, bs, .cons x y => by
    obtain ⟨us, ws, e, h1, h2⟩ := repL_split y
    exact ⟨_ :: us, ws, by rw [e]; rfl, .cons x h1, h2⟩
theorem tgs_cons {g : TG} {gs : TGs} {is js : List Nat} {b : FB} {c : List D → Option (List D)} (h1 : TgOk K g is b) (hn : BdN is.length b) (h2 : TgsOk K gs js c) : TgsOk K (gCons g gs) (is ++ js) (bCons b c) := fun r H xs ds σ Q vals hr hb q => by
  cases ds with
  | nil => cases hb
  | cons d ds =>
    cases hr with
    | cons ra rb =>
      obtain ⟨x, hx, hb2⟩ := Option.bind_eq_some_iff.mp (show ((b d).bind fun x => (c ds).map fun y => x ++ y) = some vals from hb)
      obtain ⟨y, hy, e⟩ := Option.map_eq_some_iff.mp hb2
      subst e
      refine ⟨_, _, rfl, h1 r H _ d σ _ x ra hx fun vs rv => h2 r H _ ds _ Q y rb hy fun us ru => ?_⟩
      have hl : is.length = vs.length := by rw [rv.len, hn d x hx]
      rw [← setL_app is js vs us σ hl]
      exact q _ (rv.append ru)
theorem tg_tup {gs : TGs} {is : List Nat} {n : Nat} {c : List D → Option (List D)} (h : TgsOk K gs is c) : TgOkR K (RepI K) (gTup K n gs) is (bTup n c) := fun r H x d σ Q vals hr hb q => by
  obtain ⟨a, xs, ds, e, ed, s, l⟩ := hr
  subst ed
  have hb' : (if ds.length = n then c ds else none) = some vals := hb
  by_cases hl : ds.length = n
  · rw [if_pos hl] at hb'
    exact ⟨a, xs, e, s, by rw [l.len]; exact hl, h r H xs ds σ Q vals l hb' q⟩
  · rw [if_neg hl] at hb'
    cases hb'
theorem Rep.repI {r : Rf} {H : Hp} {v : V} {ds : List D} (h : Rep K r H v (.tup ds)) : RepI K r H v (.tup ds) := by
  obtain ⟨a, xs, e, s, l⟩ := h.sqT
  exact ⟨a, xs, ds, e, rfl, s, l⟩
theorem tg_tupR {gs : TGs} {is : List Nat} {n : Nat} {c : List D → Option (List D)} (h : TgsOk K gs is c) : TgOk K (gTup K n gs) is (bTup n c) := fun r H x d σ Q vals hr hb q => by
  cases d with
  | tup ds => exact tg_tup h r H x _ σ Q vals hr.repI hb q
  | _ => cases hb
theorem bTup_n {n m : Nat} {c : List D → Option (List D)} (h : ∀ ds v, c ds = some v → v.length = m) : BdN m (bTup n c) := fun d v e => by
  cases d with
  | tup ds =>
    have e' : (if ds.length = n then c ds else none) = some v := e
    by_cases hl : ds.length = n
    · rw [if_pos hl] at e'
      exact h ds v e'
    · rw [if_neg hl] at e'
      cases e'
  | _ => cases e
theorem bNil_n : ∀ ds v, bNil ds = some v → v.length = 0 := fun ds v e => by
  cases ds with
  | nil => cases e; rfl
  | cons _ _ => cases e
theorem bCons_n {k m : Nat} {b : FB} {c : List D → Option (List D)} (h1 : BdN k b) (h : ∀ ds v, c ds = some v → v.length = m) : ∀ ds v, bCons b c ds = some v → v.length = k + m := fun ds v e => by
  cases ds with
  | nil => cases e
  | cons d ds =>
    obtain ⟨x, hx, hb2⟩ := Option.bind_eq_some_iff.mp (show ((b d).bind fun x => (c ds).map fun y => x ++ y) = some v from e)
    obtain ⟨y, hy, e⟩ := Option.map_eq_some_iff.mp hb2
    subst e
    rw [List.length_append, h1 d x hx, h ds y hy]
section
variable {X : Cx} {W : WXd} {tg iter : Expr}
/-- a tuple's target takes tuples -/
theorem DIR.weak {R R' : RD} {f : FI} (h : DIR X R tg iter f) (i : ∀ r H v d, R r H v d → R' r H v d) : DIR X R' tg iter f := weakI h fun σ H Q hh => by
  obtain ⟨r, env, st, ds, st', he, hs, hf, q⟩ := hh
  exact ⟨r, env, st, ds, st', he, hs, hf, fun J r' H' e' s' j => q J r' H' e' s' fun r1 H1 st1 e1 s1 => ⟨(j r1 H1 st1 e1 s1).1, fun k d hd => ⟨((j r1 H1 st1 e1 s1).2 k d hd).1, fun x H2 y => let ⟨r2, a, b, c⟩ := ((j r1 H1 st1 e1 s1).2 k d hd).2 x H2 y; ⟨r2, a, b, i _ _ _ _ c⟩⟩⟩⟩
/-! ### zip -/
def pairs2 : List D → List D → List D
  | a :: as, b :: bs => .tup [a, b] :: pairs2 as bs
  | _, _ => []
theorem pairs2_len : ∀ as bs : List D, (pairs2 as bs).length = min as.length bs.length
  | [], _ => by simp [pairs2]
  | _ :: _, [] => by simp [pairs2]
  | a :: as, b :: bs => by
    show (pairs2 as bs).length + 1 = _
    rw [pairs2_len as bs, List.length_cons, List.length_cons]
    omega
theorem pairs2_get : ∀ {as bs : List D} {i : Nat} {d : D}, (pairs2 as bs)[i]? = some d → ∃ a b, as[i]? = some a ∧ bs[i]? = some b ∧ d = .tup [a, b]
  | [], _, i, d, h => by simp [pairs2] at h
  | _ :: _, [], i, d, h => by simp [pairs2] at h
  | a :: as, b :: bs, 0, d, h => by
    have e := Option.some.inj (show some (D.tup [a, b]) = some d from h)
    exact ⟨a, b, rfl, rfl, e.symm⟩
  | a :: as, b :: bs, i + 1, d, h => pairs2_get (as := as) (bs := bs) (i := i) (show (pairs2 as bs)[i]? = some d from h)
def asZip : List D → Option (List D) | [.tup as, .tup bs] => some (pairs2 as bs) | _ => none
theorem di_zip {a b : Expr} {fa : FA} {elts : List Expr} {kk : Nat} {tpos p pos : Pos} (hg : Gl X "zip") (hm : X.mg "zip" = none) (ha : DA X [a, b] fa)
    (hs : starEach [a, b] X.env = (false, eval a X.env) :: starEach [b] X.env := by rfl) (hpl : (backTo pos (starEach [b] X.env)).any (·.1) = false := by rfl) :
    DIR X (RepI X.K) (.Tuple elts kk tpos) (.Call (.Name "zip" p) [a, b] [] pos) (iOfA asZip fa) := weakI (RZ.pi_zipA hg hm ha hs hpl) fun σ H R hh => by
  obtain ⟨r, env, st, ds, st', he, hs, hf, q⟩ := hh
  obtain ⟨xs, h1, h2⟩ := iOfA_some hf
  refine ⟨r, env, st, xs, st', he, hs, h1, fun v r1 H1 e1 q1 p1 => ?_⟩
  unfold asZip at h2
  split at h2
  · rename_i as bs
    cases h2
    obtain ⟨u, w, rfl, pa, pb⟩ := lst2 p1
    obtain ⟨a', us, rfl, sa, la⟩ := pa.sqT
    obtain ⟨b', ws, rfl, sb, lb⟩ := pb.sqT
    have pa1 := pa
    have pb1 := pb
    refine ⟨a', b', us, ws, rfl, .inr ⟨sa, sb, q _ r1 H1 e1 q1 fun r2 H2 st2 e2 s2 => ?_⟩⟩
    -- the tuples stand as they stood
    have hk : ∀ {c : Addr} {ys : List V} {es : List D}, SqT X.K H1 c ys → RepL X.K r1 H1 ys es → Rep X.K r1 H1 (.ref c) (.tup es) → ∃ zs, SqT X.K H2 c zs ∧ RepL X.K r2 H2 zs es := fun {c ys es} _ _ p => by
      obtain ⟨c', zs, e', s', l'⟩ := (p.ext e2).sqT
      cases e'
      exact ⟨zs, s', l'⟩
    obtain ⟨us2, sa2, la2⟩ := hk sa la pa1
    obtain ⟨ws2, sb2, lb2⟩ := hk sb lb pb1
    refine ⟨fun i hi => ⟨us2, ws2, sa2, sb2, ?_⟩, fun i d hd => ?_⟩
    · rw [pairs2_len] at hi
      rw [la2.len, lb2.len]
      omega
    · obtain ⟨x, y, hx, hy, ed⟩ := pairs2_get hd
      obtain ⟨vx, hvx, rx⟩ := la2.get hx
      obtain ⟨vy, hvy, ry⟩ := lb2.get hy
      refine ⟨⟨us2, ws2, vx, vy, sa2, sb2, hvx, hvy⟩, fun v H3 ⟨T, x', y', ev, hT, eH, w1, w2⟩ => ?_⟩
      subst ev
      subst eH
      have ex : x' = vx := by
        have := w1 us2 sa2
        rw [hvx] at this
        exact (Option.some.inj this).symm
      have ey : y' = vy := by
        have := w2 ws2 sb2
        rw [hvy] at this
        exact (Option.some.inj this).symm
      subst ex ey
      have sm : Same H2 (upd H2 T (.tup [x', y'])) := same_alloc hT
      exact ⟨r2, s2.ext sm, s2.same sm, T, [x', y'], [x, y], rfl, ed, .inl (.inl upd_same), .cons (rx.ext (s2.ext sm)) (.cons (ry.ext (s2.ext sm)) .nil)⟩
  · cases h2
/-! ### (*xs, a) -/
def asSeq : D → Store → Option (List D) := fun d st => match d with
  | .lst ds => some ds
  | .tup ds => some ds
  | .ref n => (match st[n]? with | some (.lst ds) => some ds | _ => none)
  | _ => none
def aStar (f : F) (g : FA) : FA := fun env st => (f env st).bind fun p => (asSeq p.1 p.2).bind fun ds => (g env p.2).map fun q => (ds ++ q.1, q.2)
theorem asSeq_rep {r : Rf} {H : Hp} {v : V} {d : D} {st : Store} {ds : List D} (h : Rep K r H v d) (si : Sim K r H st) (e : asSeq d st = some ds) : ∃ p xs, v = .ref p ∧ (SqT K H p xs ∨ SqL K H p xs) ∧ RepL K r H xs ds := by
  unfold asSeq at e
  split at e
  · cases e
    cases h with
    | lst a b c => exact ⟨_, _, rfl, .inr (.of a), c⟩
  · cases e
    obtain ⟨a, xs, e, s, l⟩ := h.sqT
    exact ⟨a, xs, e, .inl s, l⟩
  · rename_i n
    obtain ⟨a, rfl, ha⟩ := h.refI
    split at e
    · rename_i es hst
      cases e
      obtain ⟨av, xs, hx, l⟩ := si.ob _ a _ ha hst
      exact ⟨a, xs, rfl, .inr (.of hx), l⟩
    · cases e
  · cases e
theorem da_star {e : Expr} {p : Pos} {es : List Expr} {f : F} {g : FA} (h : DE X e f) (t : DA X es g) (hs : starEach (.Starred e p :: es) X.env = (true, eval e X.env) :: starEach es X.env := by rfl) : DA X (.Starred e p :: es) (aStar f g) :=
  weakA (StX.pa_star h t hs) fun σ H Q hh => by
  obtain ⟨r, env, st, ds, st', he, hs, hf, q⟩ := hh
  obtain ⟨⟨x, s1⟩, h1, hf1⟩ := Option.bind_eq_some_iff.mp hf
  obtain ⟨xs, h2, hf2⟩ := Option.bind_eq_some_iff.mp hf1
  obtain ⟨⟨ys, s2⟩, h3, hf3⟩ := Option.map_eq_some_iff.mp hf2
  cases hf3
  refine ⟨r, env, st, x, s1, he, hs, h1, fun u r1 H1 e1 q1 p1 => ?_⟩
  obtain ⟨p, us, eu, sq, l⟩ := asSeq_rep p1 q1 h2
  exact ⟨p, us, eu, sq, r1, env, s1, ys, _, he.ext e1, q1, h3, fun ws r2 H2 e2 q2 l2 => q (us ++ ws) r2 H2 (e1.trans e2) q2 ((l.ext e2).append l2)⟩
/-! ### ord -/
def bOrd : List D → Store → Option D := fun ds _ => match ds with | [.str x] => if x.length = 1 then some (.int (x.cps.getD 0 0 : Nat)) else none | _ => none
theorem ok_ord : CallOk X (.builtin "ord") bOrd := ⟨_, call_ord, fun rho H xs ds d st Q rl si e q => by
  unfold bOrd at e
  split at e
  · split at e
    · rename_i z hz
      cases e
      obtain ⟨v, rfl, p⟩ := lst1 rl
      cases p
      exact ⟨_, rfl, hz, q _ H (fun _ _ h => h) (.int _)⟩
    · cases e
  · cases e⟩
/-! ### what is never run -/
def sNever : FS := fun _ _ => none
theorem ds_never {s : Stmt} : DS X W s sNever := ⟨fun pins s σ H D I h => by
  obtain ⟨r, env, st, o, env', st', _, _, hf, _⟩ := h
  cases hf⟩
end
end DL
/-! A list of the store is walked (as long as it stands as it stood); a dict is locked and walked. -/
namespace DL
open PySem PySem.Spec PyProof.Rows L2 TL
/-- the walk goes on while the store is as P says -/
noncomputable def okP (P : Store → Prop) (st : Store) : Bool := @decide (P st) (Classical.propDecidable _)
theorem okP_t {P : Store → Prop} {st : Store} (h : P st) : okP P st = true := @decide_eq_true _ (Classical.propDecidable _) h
theorem okP_p {P : Store → Prop} {st : Store} (h : okP P st = true) : P st := @of_decide_eq_true _ (Classical.propDecidable _) h
variable {K : PySem.W.Frag}
abbrev FIg := Lo → Store → Option (List D × (Store → Prop) × Store)
def ItOkG (K : PySem.W.Frag) (R : RD) (P : Store → Prop) (J : It) (r : Rf) (H : Hp) (ds : List D) : Prop :=
  ∀ r1 H1 st1, Ext r H r1 H1 → Sim K r1 H1 st1 → P st1 → (∀ i, ds.length ≤ i → J.stop i H1) ∧
    ∀ (i : Nat) d, ds[i]? = some d → J.go i H1 ∧ ∀ x H2, J.yld i H1 x H2 → ∃ r2, Ext r1 H1 r2 H2 ∧ Sim K r2 H2 st1 ∧ R r2 H2 x d
def tIG (K : PySem.W.Frag) (RR : RD) (f : FIg) : TI := fun σ H R => ∃ r env st ds P st', EnvR K r H env σ ∧ Sim K r H st ∧ f env st = some (ds, P, st') ∧ ∀ J r' H', Ext r H r' H' → Sim K r' H' st' → ItOkG K RR P J r' H' ds → R J H'
abbrev DIG (X : Cx) (RR : RD) (tg iter : Expr) (f : FIg) : Prop := PI X tg iter (tIG X.K RR f)
noncomputable def loopSG (P : Store → Prop) (tg : FG) (body : FS) : List D → Lo → Store → Option (Out × Lo × Store)
  | [], env, st => if okP P st = true then some (.nx, env, st) else none
  | d :: ds, env, st => if okP P st = true then (tg d env).bind fun e1 => (body e1 st).bind fun p => match p with
    | (.nx, e2, s2) => loopSG P tg body ds e2 s2
    | (.ct, e2, s2) => loopSG P tg body ds e2 s2
    | (.bk, e2, s2) => some (.nx, e2, s2)
    | (.rt v, e2, s2) => some (.rt v, e2, s2)
    | (.er c f v, e2, s2) => some (.er c f v, e2, s2) else none
noncomputable def sForG (fi : FIg) (tg : FG) (body : FS) : FS := fun env st => (fi env st).bind fun p => loopSG p.2.1 tg body p.1 env p.2.2
section
variable {X : Cx} {W : WXd} {tg iter : Expr}
theorem ds_forG {RR : RD} {body : List Stmt} {fi : FIg} {g : FG} {b : FS} {pos : Pos} (hp : PassesOwn (model X.prog X.w) X.A X.env X.xe) (hc : X.calm = true) (hi : DIG X RR tg iter fi) (hg : DGR X RR tg g) (hb : DSs X W body b)
    (hs : ∀ x, foldedSetIterable iter X.env x = pure x := by intro _; rfl) : DS X W (.For tg iter body [] pos) (sForG fi g b) := weakS (ps_for hp hc hi hg hb hs) fun D' σ H hh => by
  obtain ⟨r, env, st, o, env', st', he, hs, hf, q⟩ := hh
  obtain ⟨⟨ds, P, s1⟩, h1, h2⟩ := Option.bind_eq_some_iff.mp hf
  refine ⟨r, env, st, ds, P, s1, he, hs, h1, fun J r1 H1 e1 q1 j1 => ?_⟩
  refine ⟨fun i m σ2 H2 => m = ds.length - i ∧ i ≤ ds.length ∧ ∃ r2 env2 st2, Ext r1 H1 r2 H2 ∧ EnvR X.K r2 H2 env2 σ2 ∧ Sim X.K r2 H2 st2 ∧ loopSG P g b (ds.drop i) env2 st2 = some (o, env', st'),
    ⟨_, rfl, Nat.zero_le _, r1, env, s1, .refl _ _, he.ext e1, q1, h2⟩, ?_⟩
  rintro i m σ2 H2 ⟨rfl, hi, r2, env2, st2, e2, he2, hs2, h3⟩
  by_cases hlt : i < ds.length
  · have hd : ds[i]? = some ds[i] := List.getElem?_eq_getElem hlt
    rw [List.drop_eq_getElem_cons hlt] at h3
    unfold loopSG at h3
    by_cases hP : okP P st2 = true
    case neg => rw [if_neg hP] at h3; cases h3
    rw [if_pos hP] at h3
    obtain ⟨jst, jgo⟩ := j1 r2 H2 st2 e2 hs2 (okP_p hP)
    obtain ⟨env3, g1, h4⟩ := Option.bind_eq_some_iff.mp h3
    obtain ⟨⟨o4, env4, st4⟩, g2, h5⟩ := Option.bind_eq_some_iff.mp h4
    obtain ⟨j2, j3⟩ := jgo i _ hd
    refine .inr ⟨j2, fun σ' H' => i + 1 ≤ ds.length ∧ ∃ r2 env2 st2, Ext r1 H1 r2 H' ∧ EnvR X.K r2 H' env2 σ' ∧ Sim X.K r2 H' st2 ∧ loopSG P g b (ds.drop (i + 1)) env2 st2 = some (o, env', st'),
      fun σ' H' ⟨hi', w⟩ => ⟨ds.length - (i + 1), by omega, rfl, hi', w⟩, fun x H3 y => ?_⟩
    obtain ⟨r3, e3, hs3, rx⟩ := j3 x H3 y
    refine ⟨r3, env2, ds[i], env3, he2.ext e3, rx, g1, fun σ3 he3 => ⟨r3, env3, st2, o4, env4, st4, he3, hs3, g2, ?_⟩⟩
    cases o4 with
    | nx => exact fun σ' r' H' e' a c => ⟨by omega, r', env4, st4, (e2.trans e3).trans e', a, c, h5⟩
    | ct => exact fun σ' r' H' e' a c => ⟨by omega, r', env4, st4, (e2.trans e3).trans e', a, c, h5⟩
    | bk =>
      cases h5
      exact fun σ' r' H' e' a c => q σ' r' H' (((e1.trans e2).trans e3).trans e') a c
    | rt v =>
      cases h5
      exact fun v r' H' e' a c => q v r' H' (((e1.trans e2).trans e3).trans e') a c
    | er c' f' v =>
      cases h5
      exact fun σ' r' H' C dd e' a c z => q σ' r' H' C dd (((e1.trans e2).trans e3).trans e') a c z
  · have e : i = ds.length := by omega
    subst e
    rw [List.drop_length] at h3
    unfold loopSG at h3
    by_cases hP : okP P st2 = true
    case neg => rw [if_neg hP] at h3; cases h3
    rw [if_pos hP] at h3
    obtain ⟨jst, jgo⟩ := j1 r2 H2 st2 e2 hs2 (okP_p hP)
    cases h3
    exact .inl ⟨jst _ (Nat.le_refl _), q σ2 r2 H2 (e1.trans e2) he2 hs2⟩
end
noncomputable def loopCG (P : Store → Prop) (is : List Nat) (bd : FB) (t : FT) (f : F) : List D → Lo → Store → Option (List D × Store)
  | [], _, st => if okP P st = true then some ([], st) else none
  | d :: ds, env, st => if okP P st = true then (bd d).bind fun vs => (t (setL is vs env) st).bind fun p => if p.1 = true then (f (setL is vs env) p.2).bind fun q => (loopCG P is bd t f ds env q.2).map fun z => (q.1 :: z.1, z.2) else loopCG P is bd t f ds env p.2 else none
noncomputable def fCompG (fi : FIg) (is : List Nat) (bd : FB) (t : FT) (f : F) : F := fun env st => (fi env st).bind fun p => (loopCG p.2.1 is bd t f p.1 (wipeL env is) p.2.2).bind fun q => if q.1.length ≤ sizeLine then some (.lst q.1, q.2) else none
theorem compReadsG {RR : RD} {fi : FIg} {is : List Nat} {bd : FB} {g : TG} {t : FT} {f : F} (hg : TgOkR K RR g is bd) (σ : L2.St) (H : Hp) (Q : VK) (hh : tD K (fCompG fi is bd t f) σ H Q) : tLc (tIG K RR fi) g (tT K t) (tD K f) is σ H Q := by
  obtain ⟨r, env, st, d, st', he, hs, hf, q⟩ := hh
  obtain ⟨⟨ds, P, s1⟩, h1, h2⟩ := Option.bind_eq_some_iff.mp hf
  obtain ⟨⟨zs, s2⟩, h3, h4⟩ := Option.bind_eq_some_iff.mp h2
  by_cases hz : zs.length ≤ sizeLine
  case neg => rw [if_neg hz] at h4; cases h4
  rw [if_pos hz] at h4
  cases h4
  refine ⟨r, env, st, ds, P, s1, he, hs, h1, fun J r1 H1 e1 q1 j1 Dl hD => ?_⟩
  have m0 := Mkg.start (o := .lst []) q1 hD
  refine ⟨fun k m H2 => m = ds.length - k ∧ k ≤ ds.length ∧ ∃ r2 st2 acc us ys, Mkg K r1 H1 Dl r2 H2 st2 ∧ EnvR K r2 H2 (DL.wipeL env is) (wipe σ is) ∧ H2 Dl = some (.lst us) ∧ RepL K r2 H2 us acc ∧
    loopCG P is bd t f (ds.drop k) (DL.wipeL env is) st2 = some (ys, s2) ∧ acc ++ ys = zs, ⟨_, rfl, Nat.zero_le _, r1.hide Dl, s1, [], [], zs, m0, ((he.ext e1).ext m0.ex).wipeL is, upd_same, .nil, h3, rfl⟩, ?_⟩
  rintro k m H2 ⟨rfl, hk, r2, st2, acc, us, ys, mk, wp, hus, racc, hl, hcat⟩
  by_cases hlt : k < ds.length
  case neg =>
    have e : k = ds.length := by omega
    subst e
    rw [List.drop_length] at hl
    unfold loopCG at hl
    by_cases hP : okP P st2 = true
    case neg => rw [if_neg hP] at hl; cases hl
    rw [if_pos hP] at hl
    obtain ⟨jst, jgo⟩ := j1 r2 H2 st2 mk.ex mk.sim (okP_p hP)
    cases hl
    rw [List.append_nil] at hcat
    subst hcat
    obtain ⟨w1, w2, w3⟩ := mk.show q1 hD
    exact .inl ⟨jst _ (Nat.le_refl _), q (.ref Dl) (r2.shown Dl) H2 (e1.trans w1) w2 (.lst hus (fun z => z.2 rfl) (racc.ex w3))⟩
  case pos =>
    have hd : ds[k]? = some ds[k] := List.getElem?_eq_getElem hlt
    rw [List.drop_eq_getElem_cons hlt] at hl
    unfold loopCG at hl
    by_cases hP : okP P st2 = true
    case neg => rw [if_neg hP] at hl; cases hl
    rw [if_pos hP] at hl
    obtain ⟨jst, jgo⟩ := j1 r2 H2 st2 mk.ex mk.sim (okP_p hP)
    obtain ⟨vals, hv, hl1⟩ := Option.bind_eq_some_iff.mp hl
    obtain ⟨⟨b, st3⟩, hb, hl2⟩ := Option.bind_eq_some_iff.mp hl1
    obtain ⟨j2, j3⟩ := jgo k _ hd
    refine .inr ⟨j2, fun H' => k + 1 ≤ ds.length ∧ ∃ r2 st2 acc us ys, Mkg K r1 H1 Dl r2 H' st2 ∧ EnvR K r2 H' (DL.wipeL env is) (wipe σ is) ∧ H' Dl = some (.lst us) ∧ RepL K r2 H' us acc ∧
      loopCG P is bd t f (ds.drop (k + 1)) (DL.wipeL env is) st2 = some (ys, s2) ∧ acc ++ ys = zs, fun H' ⟨hk', w⟩ => ⟨ds.length - (k + 1), by omega, rfl, hk', w⟩, fun x H3 y => ?_⟩
    obtain ⟨r3, e3, s3, rx⟩ := j3 x H3 y
    have wp3 := wp.ext e3
    refine hg r3 H3 x _ _ _ vals rx hv fun vs rvs => ⟨wipe_setL σ is vs, ?_⟩
    · have he3 : EnvR K r3 H3 (DL.setL is vals (DL.wipeL env is)) (DL.setL is vs (wipe σ is)) := wp3.setL rvs
      refine ⟨r3, _, st2, b, st3, he3, s3, hb, fun r4 H4 e4 s4 => ?_⟩
      cases b with
      | false =>
        rw [if_neg Bool.false_ne_true] at hl2 ⊢
        obtain ⟨m4, k4⟩ := mk.step (e3.trans e4) s4
        exact ⟨hlt, r4, st3, acc, us, ys, m4, wp3.ext e4, k4.trans hus, racc.ext (e3.trans e4), hl2, hcat⟩
      | true =>
        rw [if_pos rfl] at hl2 ⊢
        obtain ⟨⟨yd, st4⟩, hy, hl3⟩ := Option.bind_eq_some_iff.mp hl2
        obtain ⟨⟨ys', st5⟩, hl4, hl5⟩ := Option.map_eq_some_iff.mp hl3
        cases hl5
        refine ⟨r4, _, st3, yd, st4, he3.ext e4, s4, hy, fun yv r5 H5 e5 s5 ry => ?_⟩
        have e25 : Ext r2 H2 r5 H5 := (e3.trans e4).trans e5
        obtain ⟨m5, k5⟩ := mk.step e25 s5
        obtain ⟨m6, g1⟩ := m5.put q1 hD (.lst (us ++ [yv]))
        refine ⟨us, k5.trans hus, ?_, hlt, r5, st4, acc ++ [yd], us ++ [yv], ys', m6, ((wp3.ext e4).ext e5).exx g1, upd_same, ((racc.ext e25).ex g1).append (.cons (ry.ex g1) .nil), hl4, by rw [← hcat, List.append_assoc]; rfl⟩
        rw [racc.len]
        have : (acc ++ yd :: ys').length ≤ sizeLine := by rw [hcat]; exact hz
        rw [List.length_append, List.length_cons] at this
        omega
section
variable {X : Cx} {W : WXd} {tg iter : Expr}
theorem de_lcG {RR : RD} {elt : Expr} {ifs : List Expr} {scope : Scope} {own : List (Str × Nat)} {pos : Pos} {fi : FIg} {bd : FB} {g : TG} {t : FT} {f : F} (hc : X.calm = true) (hN : X.N.Nodup) (hi : DIG X RR tg iter fi) (ok : BlkOk X.N X.env.scope scope own)
    (tk : TgOkR X.K RR g (own.map (·.2)) bd)
    (hg : ∀ (s : Shared) (H : Hp) (C : Addr) (cl : List (Str × Addr)) (fp : List Addr), PG (X.blk s H scope (compEnvC scope cl C X.env) fp) tg g) (ht : ∀ (s : Shared) (H : Hp) (C : Addr) (cl : List (Str × Addr)) (fp : List Addr), DTs (X.blk s H scope (compEnvC scope cl C X.env) fp) ifs t)
    (he : ∀ (s : Shared) (H : Hp) (C : Addr) (cl : List (Str × Addr)) (fp : List Addr), DE (X.blk s H scope (compEnvC scope cl C X.env) fp) elt f) (hs : ∀ x, foldedSetIterable iter X.env x = pure x := by intro _; rfl) :
    DE X (.ListComp elt [⟨tg, iter, ifs, 0⟩] scope pos) (fCompG fi (own.map (·.2)) bd t f) := weakE (pe_lc hc hN hi ok hg ht he hs) fun σ H Q hh => compReadsG tk σ H Q hh
theorem ds_setLcG {RR : RD} {i : Nat} {y : Str} {py : Pos} {elt : Expr} {ifs : List Expr} {scope : Scope} {own : List (Str × Nat)} {pos spos : Pos} {fi : FIg} {bd : FB} {g : TG} {t : FT} {f : F} (hc : X.calm = true) (hN : X.N.Nodup) (hy : X.N[i]? = some y) (hyl : X.env.scope.names.lookup y = some .local)
    (hsw : swapsWith (.ListComp elt [⟨tg, iter, ifs, 0⟩] scope pos) (some (.Name y py)) spos.line X.env = pure true) (hi : DIG X RR tg iter fi) (ok : BlkOk X.N X.env.scope scope own)
    (tk : TgOkR X.K RR g (own.map (·.2)) bd)
    (hg : ∀ (s : Shared) (H : Hp) (C : Addr) (cl : List (Str × Addr)) (fp : List Addr), PG (X.blk s H scope (compEnvC scope cl C X.env) fp) tg g) (ht : ∀ (s : Shared) (H : Hp) (C : Addr) (cl : List (Str × Addr)) (fp : List Addr), DTs (X.blk s H scope (compEnvC scope cl C X.env) fp) ifs t)
    (he : ∀ (s : Shared) (H : Hp) (C : Addr) (cl : List (Str × Addr)) (fp : List Addr), DE (X.blk s H scope (compEnvC scope cl C X.env) fp) elt f) (hs : ∀ x, foldedSetIterable iter X.env x = pure x := by intro _; rfl) :
    DS X W (.Assign [.Name y py] (.ListComp elt [⟨tg, iter, ifs, 0⟩] scope pos) spos) (sAsg (fCompG fi (own.map (·.2)) bd t f) (gN i)) := weakS (ps_setLc hc hN hy hyl hsw hi ok hg ht he hs) fun D' σ H hh => by
  obtain ⟨r, env, st, o, env', st', he, hs, hf, q⟩ := hh
  obtain ⟨⟨d, s1⟩, h1, h2⟩ := Option.bind_eq_some_iff.mp hf
  obtain ⟨e1, h3, h4⟩ := Option.map_eq_some_iff.mp h2
  cases h4
  cases h3
  exact compReadsG tk σ H _ ⟨r, env, st, d, _, he, hs, h1, fun v r1 H1 x1 q1 p1 => q _ r1 H1 x1 ((he.ext x1).set p1 i) q1⟩
/-- a list of the store, as long as it stands as it stood -/
def iRefL (f : F) : FIg := fun env st => (f env st).bind fun p => match p.1 with
  | .ref n => (match p.2[n]? with | some (.lst ds) => some (ds, (fun s => s[n]? = some (.lst ds)), p.2) | _ => none)
  | _ => none
theorem di_refL {f : F} (h : DE X iter f) : DIG X (Rep X.K) tg iter (iRefL f) := weakI (pi_list h) fun σ H R hh => by
  obtain ⟨r, env, st, ds, P, st', he, hs, hf, q⟩ := hh
  obtain ⟨⟨d, s1⟩, h1, h2⟩ := Option.bind_eq_some_iff.mp hf
  cases d with
  | ref n =>
    have h2' : (match s1[n]? with | some (.lst ds) => some (ds, (fun s : Store => s[n]? = some (.lst ds)), s1) | _ => none) = some (ds, P, st') := h2
    split at h2'
    · rename_i es hst
      cases h2'
      refine ⟨r, env, st, _, _, he, hs, h1, fun v r1 H1 e1 q1 p1 => ?_⟩
      obtain ⟨a, rfl, ha⟩ := p1.refI
      obtain ⟨av, xs, hx, l⟩ := q1.ob _ a _ ha hst
      refine ⟨a, rfl, ⟨xs, .of hx⟩, q _ r1 H1 e1 q1 fun r2 H2 st2 e2 s2 hP => ?_⟩
      obtain ⟨av2, ys, hy, l2⟩ := s2.ob _ a _ (e2.get ha) hP
      have sq : SqL X.K H2 a ys := .of hy
      refine ⟨fun i hi => ⟨ys, sq, by rw [l2.len]; exact hi⟩, fun i d hd => ?_⟩
      obtain ⟨v, hv, rv⟩ := l2.get hd
      exact ⟨⟨ys, v, sq, hv⟩, fun x H3 ⟨e, y⟩ => by
        subst e
        have := y ys sq
        rw [hv] at this
        cases this
        exact ⟨r2, .refl _ _, s2, rv⟩⟩
    · cases h2'
  | _ => cases h2
end
/-! the walk of a list that stands: as of any other -/
theorem loopCG_map {P : Store → Prop} {is : List Nat} {bd : FB} {f : F} {g : D → D} {env : Lo} {st : Store} (hP : P st) : ∀ {ds : List D}, (∀ d ∈ ds, ∃ vs, bd d = some vs ∧ f (setL is vs env) st = some (g d, st)) → loopCG P is bd tTrue f ds env st = some (ds.map g, st)
  | [], _ => by unfold loopCG; rw [if_pos (okP_t hP)]; rfl
  | d :: ds, h => by
    obtain ⟨ws, hb, hf⟩ := h d List.mem_cons_self
    have := loopCG_map hP (ds := ds) fun d hd => h d (List.mem_cons_of_mem _ hd)
    simp [loopCG, hb, tTrue, hf, this, okP_t hP]
end DL
/-! enumerate over a tuple, over a list. -/
namespace DL
open PySem PySem.Spec PyProof.Rows L2 TL
theorem enum_new1 {v : Value} {o : Obj} {HH : Heap → Prop} (B : Begins v o HH) : Meets (Builtin.«enumerate.__new__» ⟨[.type "enumerate", v], []⟩) (fun _ R s => HH s.heap ∧ R (.ok (.ret (.ref (s.heap.push o).objs.size))) { s with heap := (s.heap.push o).push { cls := .type "enumerate", data := .fields #[.none, .bool false, .ref s.heap.objs.size, rawInt 0, .none, .none] } }) :=
  .of_wp fun prog w A R s h => by
  obtain ⟨hp, g, d, tk, os⟩ := s
  obtain ⟨hH, hR⟩ := h
  have sb := sub_enumerate
  have it1 : ∀ {A' : Around} {E' : Value → Shared → Prop} {Q' : Value → Shared → Prop}, Q' (.ref hp.objs.size) ⟨hp.push o, g, d, tk, os⟩ → wpAny (model prog w) A' (pyIter v) Q' E' ⟨hp, g, d, tk, os⟩ := fun z => B.iter prog w _ _ ⟨hp, g, d, tk, os⟩ _ hH z
  wp_walk using it1
  refine wpAny_stack_any fun stk => wpAny_pure ?_
  split
  · rename_i c _ _ _ _ _
    cases (c == Value.type "enumerate") <;> (wp_walk using it1; exact ⟨_, rfl, hR⟩)
  · wp_walk using it1
    exact ⟨_, rfl, hR⟩
theorem call_enum1 {prog : Program} {w : World} {A : Around} {E : Value → Shared → Prop} {s : Shared} {v : Value} {o : Obj} {HH : Heap → Prop} {Q : Value → Shared → Prop} (B : Begins v o HH) (hH : HH s.heap)
    (hQ : ∀ h', IsEnum h' (s.heap.objs.size + 1) s.heap.objs.size 0 .none → h'.get? s.heap.objs.size = some o → (∀ b ob, s.heap.get? b = some ob → h'.get? b = some ob) → Q (.ref (s.heap.objs.size + 1)) { s with heap := h' }) : wpAny (model prog w) A (call (.type "enumerate") [v]) Q E s := by
  have sz : (s.heap.push o).objs.size = s.heap.objs.size + 1 := Heap.size_push ..
  have en : IsEnum ((s.heap.push o).push { cls := .type "enumerate", data := .fields #[.none, .bool false, .ref s.heap.objs.size, rawInt 0, .none, .none] }) (s.heap.objs.size + 1) s.heap.objs.size 0 .none := by
    have z := Heap.get?_push_size (s.heap.push o) (o := { cls := .type "enumerate", data := .fields #[.none, .bool false, .ref s.heap.objs.size, rawInt 0, .none, .none] }) rfl
    rw [sz] at z
    exact z
  refine callType_new F.called_enumerate (by decide) (F.typeCall_enumerate_1 _) (F.newCall_enumerate_1 _) (fun ob => F.args_object_init_2 ob _) F.entry_enumerate_new (enum_new1 B) ⟨hH, ?_⟩
  show _ ∧ _
  rw [sz]
  exact ⟨⟨_, en, rfl⟩, hQ _ en (Heap.get?_push_of_some _ (Heap.get?_push_size _ B.free)) fun b ob z => Heap.get?_push_of_some _ (Heap.get?_push_of_some _ z)⟩
/-- the tuple at a, its items behind their numbers -/
def IteT (K : PySem.W.Frag) (a : Addr) : It :=
  ⟨fun k H => ∃ (xs : List V) (x : V), SqT K H a xs ∧ xs[k]? = some x, fun k H v H' => ∃ T x, v = .ref T ∧ H T = none ∧ H' = upd H T (.tup [.int (k : Nat), x]) ∧ ∀ xs, SqT K H a xs → xs[k]? = some x, fun k H => ∃ xs : List V, SqT K H a xs ∧ xs.length ≤ k⟩
theorem apart_ti {h : Heap} {a it : Addr} {its : Array Value} {i : Nat} (p : h.IsTuple a its) (q : h.IsTupleIter it a i) : a ≠ it := fun z => by
  obtain ⟨o, e1, c1, n, d1⟩ := p
  obtain ⟨o2, e2, c2, d2⟩ := q
  rw [z, e2] at e1
  cases e1
  rw [d1] at d2
  cases d2
theorem apart_en {h : Heap} {a e it : Addr} {its : Array Value} {i : Int} {old : Value} (p : h.IsTuple a its) (q : IsEnum h e it i old) : e ≠ a := fun z => by
  obtain ⟨o, e1, c1, n, d1⟩ := p
  have q' : h.get? e = _ := q
  rw [z, e1] at q'
  cases q'
  cases d1
theorem turn_enumT {P : Program} {w : World} {K : PySem.W.Frag} {elts : List Expr} {kk : Nat} {tpos : Pos} (a e it : Addr) :
    Turn P w K (.Tuple elts kk tpos) (IteT K a) [e, it] e (fun i h => (∃ old, IsEnum h e it ((i : Nat) : Int) old) ∧ h.IsTupleIter it a i ∧ e ≠ it) where
  mem := List.mem_cons_self
  obj := fun i h ⟨⟨old, en⟩, ⟨o, ho, hc, hd⟩, _⟩ b hb => by
    rcases List.mem_cons.mp hb with z | z
    · exact ⟨_, by rw [z]; exact en, fun v q => by cases (show Data.fields _ = Data.cell v from q)⟩
    · exact ⟨o, by rw [List.mem_singleton.mp z]; exact ho, fun v q => by rw [hd] at q; cases q⟩
  keep := fun i h h' ⟨⟨old, en⟩, ti, ne⟩ k => ⟨⟨old, k e List.mem_cons_self _ en⟩, ti.at fun o q => k it (List.mem_cons_of_mem _ List.mem_cons_self) o q, ne⟩
  item := by
    intro X hP hw hK hc i pins s σ H E I hf ⟨⟨old, en⟩, ti, ne⟩ ⟨xs, x, sq, hx⟩
    subst hP hw hK
    obtain ⟨its, rv, p, hz⟩ := I.tuple sq
    have p' : s.heap.IsTuple a its.toArray := p
    obtain ⟨u, hu, ru⟩ := rv.get hx
    have le : e < s.heap.objs.size := Heap.lt_size en
    have li : it < s.heap.objs.size := by
      obtain ⟨_, q, _⟩ := ti
      exact Heap.lt_size q
    have hlt : i < its.toArray.size := by
      have := (List.getElem?_eq_some_iff.mp hu).1
      simpa using this
    refine wpAny_pyNext_enum_itemD (Draws.tuple (A := X.A.in1) (I.ok.hd hc) it a (apart_ti p' ti) its.toArray) en ⟨ti, p'⟩ hlt ne (fun hm => ?_) fun y h' tk hy ho st' hT hsz hk => ?_
    · rcases List.mem_cons.mp hm with z | z
      · exact ne z
      · exact apart_en p' en (List.mem_singleton.mp z)
    · have ey : y = u := by
        have h2 : its[i]? = some y := by simpa using hy
        rw [hu] at h2
        exact (Option.some.inj h2).symm
      subst ey
      refine ⟨_, rfl, wpAny_letOwnedTupleGo_enum (s := { s with heap := h', toks := tk + 1 }) ho fun h'' en' sb => ?_⟩
      have tup : h''.get? s.heap.objs.size = some { cls := .type "tuple", data := .seq #[.int i tk, y] } := (sb.2 _ (Nat.ne_of_gt le)).trans hT
      have ok2 : ObjOk X.prog X.w (upd H s.heap.objs.size (.tup [.int (i : Nat), x])) h'' s.heap.objs.size (.tup [.int (i : Nat), x]) :=
        ⟨by show 2 ≤ sizeLine; decide, [.int i tk, y], .cons ⟨tk, rfl⟩ (.cons ru .nil), ⟨_, tup, rfl, _, rfl⟩⟩
      have I1 : Inv X pins σ (upd H s.heap.objs.size (.tup [.int (i : Nat), x])) { s with heap := h'', toks := tk + 1 } :=
        I.turnedNew (ch := [e, it]) (fun b ob hb q => (sb.2 b (fun z => hb (by rw [z]; exact List.mem_cons_self))).trans (hk b ob (fun z => hb (by rw [z]; exact List.mem_cons_self)) (fun z => hb (by rw [z]; exact List.mem_cons_of_mem _ List.mem_cons_self)) q)) hf (Nat.le_refl _) ok2
      have en2 : IsEnum h'' e it (((i + 1 : Nat) : Int)) y := by
        rw [show ((i + 1 : Nat) : Int) = (i : Int) + 1 by omega]
        exact en'
      refine ⟨.ref s.heap.objs.size, _, I1, rfl, ⟨_, x, rfl, I.hok.fresh (Nat.le_refl _), rfl, fun ys hys => by rw [I.tuple_inj hys sq]; exact hx⟩, ⟨⟨y, en2⟩, st'.1.at fun o q => (sb.2 it (Ne.symm ne)).trans q, ne⟩, fun b hb => ?_⟩
      have lb : b < s.heap.objs.size := by
        rcases List.mem_cons.mp hb with z | z
        · rw [z]; exact le
        · rw [List.mem_singleton.mp z]; exact li
      rw [upd_ne (Nat.ne_of_lt lb)]
      exact (hf b hb).1
  done := by
    intro X hP hw hK hc i pins s σ H E I hf ⟨⟨old, en⟩, ti, ne⟩ ⟨xs, sq, hx⟩
    subst hP hw hK
    obtain ⟨its, rv, p, hz⟩ := I.tuple sq
    have p' : s.heap.IsTuple a its.toArray := p
    obtain ⟨f0, f1, f2, f3, f4, f5⟩ := hf it (List.mem_cons_of_mem _ List.mem_cons_self)
    have hl := rv.length
    unfold pyNext
    refine wpAny_bind (wpAny_attempt (wpAny_callSpecial?_slot (name := Str.ofString "__next__") ⟨_, en, rfl⟩ F.slot_enumerate_next (wpAny_call_entry F.slot_enumerate_next ⟨_, en, rfl⟩ F.entry_enumerate_next ?_ (F.args_enumerate_next_1 _))))
    show wpAny _ _ (field (.ref e) 2 >>= _) _ _ _
    refine wpAny_bind (wpAny_field en rfl (x := .ref it) rfl ?_)
    refine wpAny_bind (wpAny_nextOf_tuple_end (I.ok.hd hc) ti p' (by simp; omega) fun h' x eb ⟨o, ho, hcl⟩ => ?_)
    refine wpAny_bind (wpAny_isInstance (T := "StopIteration") (b := true) ⟨o, ho, hcl⟩ isSubtype_stop ?_)
    exact wpAny_pure ⟨rfl, I.turned (t' := s.toks) (fun b ob hb q => eb b ob hb q) f0 f1 f3 f4 f5⟩
  self := fun A i s Q E ⟨⟨_, en⟩, _⟩ h => wpAny_pyIter_enum en h
section
variable {X : Cx}
theorem pi_enumT {e : Expr} {ta : TA} {p pos tpos : Pos} {elts : List Expr} {kk : Nat} (hg : Gl X "enumerate") (hm : X.mg "enumerate" = none) (ha : PA X [e] ta) (hs : starEach [e] X.env = [(false, eval e X.env)] := by rfl) :
    PI X (.Tuple elts kk tpos) (.Call (.Name "enumerate" p) [e] [] pos) (fun σ H R => ta σ H fun vs H1 => ∃ a xs, vs = [.ref a] ∧ SqT X.K H1 a xs ∧ R (IteT X.K a) H1) := by
  refine ⟨fun pins s σ H R I h => Call_ (ld_blt I hg hm boot_enumerate (PyProof.Rows.callWith_type1 (thn (ha.run pos pins s σ H _ I h) fun us s1 ⟨vs, H1, I1, r1, a, xs, ex, sq, q⟩ => ?_) hs rfl))⟩
  subst ex
  obtain ⟨u, rfl, ru⟩ := vals1 r1
  cases ru
  obtain ⟨its, rv, pt, hz⟩ := I1.tuple sq
  refine call_enum1 (begins_tuple a its.toArray) (show s1.heap.IsTuple a its.toArray from pt) fun h' en hti hk => wpAny_pyIter_enum en ?_
  have I2 : Inv X pins σ H1 { s1 with heap := h' } := I1.kept (t' := s1.toks) hk
  refine ⟨s1.heap.objs.size + 1, [s1.heap.objs.size + 1, s1.heap.objs.size], _, _, H1, rfl, I2, turn_enumT a (s1.heap.objs.size + 1) s1.heap.objs.size, ⟨⟨.none, en⟩, ⟨_, hti, rfl, rfl⟩, Nat.succ_ne_self _⟩, fun b hb => ?_, q⟩
  have lb : s1.heap.objs.size ≤ b := by
    rcases List.mem_cons.mp hb with z | z
    · rw [z]; exact Nat.le_add_right _ _
    · rw [List.mem_singleton.mp z]; exact Nat.le_refl _
  exact I1.fpOk lb (I1.hok.fresh lb)
/-- i, x of enumerate(t) -/
theorem pairUp_get : ∀ {ds : List D} {n i : Nat} {d : D}, (pairUp n ds)[i]? = some d → ∃ x, ds[i]? = some x ∧ d = .tup [.int ((n + i : Nat) : Int), x]
  | [], n, i, d, h => by simp [pairUp] at h
  | a :: as, n, 0, d, h => ⟨a, rfl, (Option.some.inj (show some (D.tup [.int (n : Int), a]) = some d from h)).symm⟩
  | a :: as, n, i + 1, d, h => by
    obtain ⟨x, h1, h2⟩ := pairUp_get (ds := as) (n := n + 1) (i := i) (show (pairUp (n + 1) as)[i]? = some d from h)
    exact ⟨x, h1, by rw [h2]; congr 4; omega⟩
theorem pairUp_len : ∀ (ds : List D) (n : Nat), (pairUp n ds).length = ds.length
  | [], _ => rfl
  | _ :: ds, n => congrArg Nat.succ (pairUp_len ds (n + 1))
def asEnT : List D → Option (List D) | [.tup ds] => some (pairUp 0 ds) | _ => none
theorem di_enumT {e : Expr} {fa : FA} {p pos tpos : Pos} {elts : List Expr} {kk : Nat} (hg : Gl X "enumerate") (hm : X.mg "enumerate" = none) (ha : DA X [e] fa) (hs : starEach [e] X.env = [(false, eval e X.env)] := by rfl) :
    DIR X (RepI X.K) (.Tuple elts kk tpos) (.Call (.Name "enumerate" p) [e] [] pos) (iOfA asEnT fa) := weakI (pi_enumT hg hm ha hs) fun σ H R hh => by
  obtain ⟨r, env, st, ds, st', he, hs, hf, q⟩ := hh
  obtain ⟨xs, h1, h2⟩ := iOfA_some hf
  refine ⟨r, env, st, xs, st', he, hs, h1, fun v r1 H1 e1 q1 p1 => ?_⟩
  unfold asEnT at h2
  split at h2
  · rename_i as
    cases h2
    obtain ⟨u, rfl, pa⟩ := lst1 p1
    obtain ⟨a', us, rfl, sa, la⟩ := pa.sqT
    refine ⟨a', us, rfl, sa, q _ r1 H1 e1 q1 fun r2 H2 st2 e2 s2 => ?_⟩
    obtain ⟨c, us2, ec, sa2, la2⟩ := (pa.ext e2).sqT
    cases ec
    refine ⟨fun i hi => ⟨us2, sa2, by rw [pairUp_len] at hi; rw [la2.len]; exact hi⟩, fun i d hd => ?_⟩
    obtain ⟨x, hx, ed⟩ := pairUp_get hd
    obtain ⟨vx, hvx, rx⟩ := la2.get hx
    refine ⟨⟨us2, vx, sa2, hvx⟩, fun v H3 ⟨T, x', ev, hT, eH, w1⟩ => ?_⟩
    subst ev
    subst eH
    have ex : x' = vx := by
      have := w1 us2 sa2
      rw [hvx] at this
      exact (Option.some.inj this).symm
    subst ex
    have sm : Same H2 (upd H2 T (.tup [.int (i : Nat), x'])) := same_alloc hT
    exact ⟨r2, s2.ext sm, s2.same sm, T, [.int (i : Nat), x'], [.int (i : Nat), x], rfl, by rw [ed, Nat.zero_add], .inl (.inl upd_same), .cons (.int _) (.cons (rx.ext (s2.ext sm)) .nil)⟩
  · cases h2
end
end DL
/-! The order of nested tuples: the first place that differs decides, none behind it is asked. -/
namespace DL
open PySem PySem.Spec PyProof.Rows L2 TL
section
open PySem.AutoSeq1 (wpAny_loadPart')
open PySem.MeetsSeq PySem.MeetsSeq2 PySem.MeetsSeq3 PySem.SeqAt
/-- two rows in order, place by place -/
inductive LexAt (A : Around) (s : Shared) : List Value → List Value → Bool → Prop
  | nil2 : LexAt A s [] [] false
  | nilL {u : Value} {us : List Value} : LexAt A s [] (u :: us) true
  | nilR {v : Value} {vs : List Value} : LexAt A s (v :: vs) [] false
  | diff {v u : Value} {vs us : List Value} {k : Bool} : EqAt A s v u false → RcLt A s v u k → LexAt A s (v :: vs) (u :: us) k
  | same {v u : Value} {vs us : List Value} {k : Bool} : EqAt A s v u true → LexAt A s vs us k → LexAt A s (v :: vs) (u :: us) k
theorem tup_lex {p q : Addr} {xs ys : Array Value} {n1 n2 : Nat} {d1 d2 : Option Addr} {t1 t2 : Array (Option Value)} {k : Bool} : Meets (Builtin.«tuple.__lt__» ⟨[.ref p, .ref q], []⟩) (fun A R s =>
    s.heap.get? p = some ⟨.type "tuple", d1, .seq xs n1, t1⟩ ∧ s.heap.get? q = some ⟨.type "tuple", d2, .seq ys n2, t2⟩ ∧ LexAt A.in1 s xs.toList ys.toList k ∧ R (.ok (.ret (.bool k))) s) := .of_wp fun P w A R s hh => by
  obtain ⟨hp, g, d, tk, os⟩ := s
  obtain ⟨g1, g2, lex, done⟩ := hh
  have sub := AutoSeq1.sub_tuple_tuple
  wp_walk using wpAny_loadPart' g1, wpAny_loadPart' g2, wpAny_forIn_list _ (fun todo acc now => acc.1 = none ∧ now = ⟨hp, g, d, tk, os⟩ ∧ ∃ (i : Nat) (vs us : List Value), todo = vs.zip us ∧ xs.size = i + vs.length ∧ ys.size = i + us.length ∧ LexAt A.in1 ⟨hp, g, d, tk, os⟩ vs us k) _
  case turn =>
    rintro ⟨y, x⟩ todo acc now ⟨e1, rfl, i, vs, us, hz, l1, l2, lx⟩
    cases lx with
    | nil2 => cases hz
    | nilL => cases hz
    | nilR => cases hz
    | diff de dr =>
      injection hz with h1 h2
      injection h1 with h3 h4
      subst h3 h4
      refine wpAny_bind (de P w _ _ ?_)
      have ask := dr P w
      wp_walk using ask
      exact ⟨_, rfl, done⟩
    | same se lr =>
      injection hz with h1 h2
      injection h1 with h3 h4
      subst h3 h4
      refine wpAny_bind (se P w _ _ ?_)
      wp_walk
      exact ⟨rfl, rfl, i + 1, _, _, h2, by rw [l1, List.length_cons]; omega, by rw [l2, List.length_cons]; omega, lr⟩
  case fin =>
    rintro ⟨b1, b2⟩ now ⟨e1, rfl, i, vs, us, hz, l1, l2, lx⟩
    simp only at e1
    subst e1
    have hk : k = decide (xs.size < ys.size) := by
      cases lx with
      | nil2 => simp only [List.length_nil] at l1 l2; rw [l1, l2]; simp
      | nilL => simp only [List.length_nil, List.length_cons] at l1 l2; rw [l1, l2]; simp
      | nilR => simp only [List.length_nil, List.length_cons] at l1 l2; rw [l1, l2]; simp
      | diff de dr => cases hz
      | same se lr => cases hz
    wp_walk
    exact ⟨_, rfl, by simpa [Builtin.Tuple.tupleCompareSizes, ← hk] using done⟩
  case h =>
    exact ⟨rfl, rfl, 0, xs.toList, ys.toList, rfl, by simp, by simp, lex⟩
end
/-! the order of data -/
mutual
def pyLt : PyData → PyData → Option Bool
  | .int a, .int b => some (decide (a < b))
  | .str a, .str b => some (decide (a.cps.toList < b.cps.toList))
  | .tuple xs, .tuple ys => pyLtL xs ys
  | _, _ => none
def pyLtL : List PyData → List PyData → Option Bool
  | [], [] => some false
  | [], _ :: _ => some true
  | _ :: _, [] => some false
  | x :: xs, y :: ys => if PyData.eqv x y = true then pyLtL xs ys else pyLt x y
end
theorem pyLt_tup (xs ys : List PyData) : pyLt (.tuple xs) (.tuple ys) = pyLtL xs ys := by rw [pyLt]
theorem pyLtL_cons (x y : PyData) (xs ys : List PyData) : pyLtL (x :: xs) (y :: ys) = if PyData.eqv x y = true then pyLtL xs ys else pyLt x y := by rw [pyLtL]
/-- what may be compared -/
inductive PyLt : PyData → PyData → Bool → Prop
  | int (a b : Int) : PyLt (.int a) (.int b) (decide (a < b))
  | str (a b : Str) : PyLt (.str a) (.str b) (decide (a.cps.toList < b.cps.toList))
  | tup {xs ys : List PyData} {k : Bool} : pyLtL xs ys = some k → PyLt (.tuple xs) (.tuple ys) k
theorem pyLt_inv {dx dy : PyData} {k : Bool} (e : pyLt dx dy = some k) : PyLt dx dy k := by
  unfold pyLt at e
  split at e
  · cases e; exact .int _ _
  · cases e; exact .str _ _
  · exact .tup e
  · cases e
theorem lex_of (A : Around) (s : Shared) (ok : PyData → PyData → Prop) (hlt : ∀ (x y : PyData) (v u : Value) (as bs : List Addr) (k : Bool), ok x y → Reads s.heap v x as → Reads s.heap u y bs → pyLt x y = some k → SeqAt.RcLt A s v u k)
    (heq : ∀ (x y : PyData) (v u : Value) (as bs : List Addr), ok x y → Reads s.heap v x as → Reads s.heap u y bs → SeqAt.EqAt A s v u (PyData.eqv x y)) :
    ∀ (xs ys : List PyData) (vs us : List Value) (as bs : List Addr) (k : Bool), (∀ x ∈ xs, ∀ y ∈ ys, ok x y) → ReadsAll s.heap vs xs as → ReadsAll s.heap us ys bs → pyLtL xs ys = some k → LexAt A s vs us k := by
  intro xs
  induction xs with
  | nil =>
    intro ys vs us as bs k _ r1 r2 e
    cases r1
    cases ys with
    | nil =>
      cases r2
      rw [pyLtL] at e
      cases e
      exact .nil2
    | cons y ys =>
      cases r2
      rw [pyLtL] at e
      cases e
      exact .nilL
  | cons x xs ih =>
    intro ys vs us as bs k o r1 r2 e
    cases r1 with
    | cons a1 b1 =>
    cases ys with
    | nil =>
      cases r2
      rw [pyLtL] at e
      cases e
      exact .nilR
    | cons y ys =>
      cases r2 with
      | cons a2 b2 =>
      rw [pyLtL_cons] at e
      have oxy := o x List.mem_cons_self y List.mem_cons_self
      have eq := heq x y _ _ _ _ oxy a1 a2
      by_cases z : PyData.eqv x y = true
      · rw [if_pos z] at e
        rw [z] at eq
        exact .same eq (ih ys _ _ _ _ k (fun x hx y hy => o x (List.mem_cons_of_mem _ hx) y (List.mem_cons_of_mem _ hy)) b1 b2 e)
      · rw [if_neg z] at e
        simp only [Bool.not_eq_true] at z
        rw [z] at eq
        exact .diff eq (hlt x y _ _ _ _ k oxy a1 a2 e)
theorem canLay_mem : ∀ {xs : List PyData}, PyData.canLayAll0 xs = true → ∀ x ∈ xs, x.canLay0 = true
  | [], _, x, h => by cases h
  | y :: ys, c, x, h => by
    rw [PyData.canLayAll0] at c
    obtain ⟨c1, c2⟩ := Bool.and_eq_true_iff.mp c
    rcases List.mem_cons.mp h with e | h
    · rw [e]; exact c1
    · exact canLay_mem c2 x h
theorem depth_mem : ∀ {xs : List PyData}, ∀ x ∈ xs, x.depth ≤ PyData.depthAll xs
  | [], x, h => by cases h
  | y :: ys, x, h => by
    rw [PyData.depthAll]
    rcases List.mem_cons.mp h with e | h
    · rw [e]; exact Nat.le_max_left _ _
    · exact Nat.le_trans (depth_mem x h) (Nat.le_max_right _ _)
theorem rcLt_n : ∀ (n : Nat) (dx dy : PyData) (A : Around) (s : Shared) (v u : Value) (as bs : List Addr) (k : Bool), dx.depth ≤ n → Reads s.heap v dx as → Reads s.heap u dy bs → dx.canLay0 = true → dy.canLay0 = true → A.units + n < cLine → pyLt dx dy = some k → SeqAt.RcLt A s v u k := by
  intro n
  induction n with
  | zero =>
    intro dx dy A s v u as bs k hd r1 r2 c1 c2 hu e
    cases pyLt_inv e with
    | int a b =>
      cases r1
      cases r2
      exact fun _ _ _ _ h => PyProof.Rows.lt_int h
    | str a b =>
      cases r1
      cases r2
      exact fun _ _ _ _ h => PySem.P.lt_str h
    | tup e2 =>
      rw [PyData.depth] at hd
      exact absurd hd (by omega)
  | succ n ih =>
    intro dx dy A s v u as bs k hd r1 r2 c1 c2 hu e
    cases pyLt_inv e with
    | int a b =>
      cases r1
      cases r2
      exact fun _ _ _ _ h => PyProof.Rows.lt_int h
    | str a b =>
      cases r1
      cases r2
      exact fun _ _ _ _ h => PySem.P.lt_str h
    | tup e2 =>
      rename_i xs ys
      rw [PyData.depth] at hd
      rw [PyData.canLay0] at c1 c2
      cases r1 with
      | tuple ho hc hdd ra =>
      cases r2 with
      | tuple ho2 hc2 hd2 rb =>
      rename_i p o vv n1 q o2 vv2 n2
      obtain ⟨cls, dd, data, sl⟩ := o
      obtain ⟨cls2, dd2, data2, sl2⟩ := o2
      simp only at hc hdd hc2 hd2
      subst hc hdd hc2 hd2
      have hu' : A.in1.units + n < cLine := by
        show A.units + 1 + n < cLine
        omega
      have lx := lex_of A.in1 s (fun x y => x ∈ xs ∧ y ∈ ys) (fun x y v u as bs k o a1 a2 e => ih x y A.in1 s v u as bs k (Nat.le_trans (depth_mem x o.1) (by omega)) a1 a2 (canLay_mem c1 x o.1) (canLay_mem c2 y o.2) hu' e)
        (fun x y v u as bs o a1 a2 => SeqAt.eqAt_reads x y A.in1 s v u as bs a1 a2 (canLay_mem c1 x o.1) (canLay_mem c2 y o.2) (by
          have h1 := depth_mem x o.1
          have h2 := Nat.min_le_left x.depth y.depth
          omega)) xs ys _ _ _ _ k (fun x hx y hy => ⟨hx, hy⟩) ra rb e2
      exact fun P w E Q h => richCompare_meets_room (op := .Lt) ⟨_, ho, rfl⟩ ⟨_, ho2, rfl⟩ PySem.F.slot_tuple_lt PySem.F.entry_tuple_lt (PySem.F.args_tuple_lt_2 _ _) tup_lex ⟨ho, ho2, lx, ⟨(fun x => nomatch x), h⟩⟩ (by omega)
theorem rcLt_py (dx dy : PyData) (A : Around) (s : Shared) (v u : Value) (as bs : List Addr) (k : Bool) (r1 : Reads s.heap v dx as) (r2 : Reads s.heap u dy bs) (c1 : dx.canLay0 = true) (c2 : dy.canLay0 = true) (hu : A.units + dx.depth < cLine) (e : pyLt dx dy = some k) : SeqAt.RcLt A s v u k :=
  rcLt_n dx.depth dx dy A s v u as bs k (Nat.le_refl _) r1 r2 c1 c2 hu e
section
variable {X : Cx}
/-- a < b of nested data -/
def ltN : D → D → Option D := fun a b => (toPy a).bind fun p => (toPy b).bind fun q => if SeqAt.shaped p = true ∧ SeqAt.shaped q = true then (pyLt p q).map .bl else none
theorem op_ltN (hu : X.A.units + 64 < cLine) : OpR X (compareOp .Lt) (fun x y H Q => ∃ p q k, Dp X.K H x p ∧ Dp X.K H y q ∧ SeqAt.shaped p = true ∧ SeqAt.shaped q = true ∧ pyLt p q = some k ∧ Q (.bl k) H) := by
  intro pins s σ H x y v u Q I rx ry h
  obtain ⟨p, q, k, hp, hq, sp, sq, hk, hQ⟩ := h
  obtain ⟨as, r1⟩ := Dp.reads I p x v hp rx
  obtain ⟨bs, r2⟩ := Dp.reads I q y u hq ry
  have dp := SeqAt.depth_of_shaped sp
  exact rcLt_py p q X.A s v u as bs k r1 r2 (SeqAt.canLay_of_shaped sp) (SeqAt.canLay_of_shaped sq) (by omega) hk X.prog X.w _ _ ⟨.bl k, H, I, rfl, hQ⟩
theorem ok_ltN {k : Nat} (g : GX X k) : OpOk X (compareOp .Lt) ltN := ⟨_, op_ltN (by have := g.room.un; omega), fun rho H x y a b d st Q si ra rb e q => by
  obtain ⟨p, h1, h2⟩ := Option.bind_eq_some_iff.mp e
  obtain ⟨p2, h3, h4⟩ := Option.bind_eq_some_iff.mp h2
  by_cases z : SeqAt.shaped p = true ∧ SeqAt.shaped p2 = true
  · rw [if_pos z] at h4
    obtain ⟨k, h5, h6⟩ := Option.map_eq_some_iff.mp h4
    subst h6
    exact ⟨p, p2, k, ra.dp h1, rb.dp h3, z.1, z.2, h5, q _ H (fun _ _ h => h) (.bl k)⟩
  · rw [if_neg z] at h4
    cases h4⟩
/-! bool - bool -/
theorem sub_bb (a b : Bool) : Gives (Builtin.«int.__sub__» ⟨[.bool a, .bool b], []⟩) (.int ((if a = true then (1 : Int) else 0) - if b = true then (1 : Int) else 0)) :=
  .of_wp fun M A E s Q h => by
  obtain ⟨hp, g, d, tk, os⟩ := s
  wp_walk
  exact ⟨_, rfl, h⟩
def subB : D → D → Option D := fun a b => match a, b with | .bl x, .bl y => some (.int ((if x = true then (1 : Int) else 0) - if y = true then (1 : Int) else 0)) | _, _ => none
theorem op_subB : OpR X (binaryOp .Sub) (fun x y H Q => ∃ a b, x = .bl a ∧ y = .bl b ∧ Q (.int ((if a = true then (1 : Int) else 0) - if b = true then (1 : Int) else 0)) H) := by
  intro pins s σ H x y v u Q I rx ry h
  obtain ⟨a, b, rfl, rfl, q⟩ := h
  cases rx
  cases ry
  exact binaryOp_gives (op := .Sub) (T := "bool") rfl rfl F.fills_bool_sub F.slot_bool_sub F.entry_int_sub (F.args_int_sub_2 _ _) (sub_bb a b) trivial ⟨.int _, H, I.tok _, ⟨_, rfl⟩, q⟩
theorem ok_subB : OpOk X (binaryOp .Sub) subB := ⟨_, op_subB, fun rho H x y a b d st Q si ra rb e q => by
  unfold subB at e
  split at e
  · cases e
    cases ra
    cases rb
    exact ⟨_, _, rfl, rfl, q _ H (fun _ _ h => h) (.int _)⟩
  · cases e⟩
/-! ==, != where a list of the store stands on a side -/
def pyOf (d : D) (st : Store) : Option PyData := match d with
  | .ref n => (match st[n]? with | some (.lst ds) => (toPyL ds).map .list | _ => none)
  | d => toPy d
theorem pyOf_dp {r : Rf} {H : Hp} {v : V} {d : D} {st : Store} {p : PyData} (h : Rep X.K r H v d) (si : Sim X.K r H st) (e : pyOf d st = some p) : Dp X.K H v p := by
  cases d with
  | ref n =>
    have e' : (match st[n]? with | some (.lst ds) => (toPyL ds).map PyData.list | _ => none) = some p := e
    split at e'
    · rename_i ds hst
      obtain ⟨a, rfl, ha⟩ := h.refI
      obtain ⟨ps, h1, h2⟩ := Option.map_eq_some_iff.mp e'
      subst h2
      obtain ⟨av, xs, hx, l⟩ := si.ob _ a _ ha hst
      exact .lst (.of hx) (RepL.dp l h1)
    · cases e'
  | _ => exact h.dp e
def fEqR (neg : Bool) (fa fb : F) : F := fun env st => (fa env st).bind fun p => (fb env p.2).bind fun q => (pyOf p.1 q.2).bind fun x => (pyOf q.1 q.2).bind fun y => if SeqAt.shaped x = true ∧ SeqAt.shaped y = true then some (.bl (if neg = true then !PyData.eqv x y else PyData.eqv x y), q.2) else none
theorem eqR_reads {neg : Bool} {fa fb : F} {R : V → V → Hp → VK → Prop} (hR : ∀ u v H Q p q, Dp X.K H u p → Dp X.K H v q → SeqAt.shaped p = true → SeqAt.shaped q = true → Q (.bl (if neg = true then !PyData.eqv p q else PyData.eqv p q)) H → R u v H Q)
    (σ : L2.St) (H : Hp) (Q : VK) (h : tD X.K (fEqR neg fa fb) σ H Q) : tOp R (tD X.K fa) (tD X.K fb) σ H Q := by
  obtain ⟨r, env, st, d, st', he, hs, hf, q⟩ := h
  obtain ⟨⟨x, s1⟩, h1, hf1⟩ := Option.bind_eq_some_iff.mp hf
  obtain ⟨⟨y, s2⟩, h2, hf2⟩ := Option.bind_eq_some_iff.mp hf1
  obtain ⟨px, h3, hf3⟩ := Option.bind_eq_some_iff.mp hf2
  obtain ⟨py, h4, hf4⟩ := Option.bind_eq_some_iff.mp hf3
  by_cases z : SeqAt.shaped px = true ∧ SeqAt.shaped py = true
  · rw [if_pos z] at hf4
    cases hf4
    exact two he hs h1 h2 fun u v r' H' e1 q1 pu pv => hR u v H' Q px py (pyOf_dp pu q1 h3) (pyOf_dp pv q1 h4) z.1 z.2 (q _ r' H' e1 q1 (.bl _))
  · rw [if_neg z] at hf4
    cases hf4
theorem de_eqR {a b : Expr} {fa fb : F} {pos : Pos} {k : Nat} (g : GX X k) (ha : DE X a fa) (hb : DE X b fb) (hm : behindInMarks .Eq b = false := by with_unfolding_all rfl) : DE X (.Compare a [.Eq] [b] pos) (fEqR false fa fb) :=
  weakE (pe_cmpR (op_eqD g.room.units) ha hb hm) fun σ H Q h => eqR_reads (fun u v H Q p q hp hq sp sq hQ => ⟨p, q, hp, hq, sp, sq, hQ⟩) σ H Q h
theorem de_neR {a b : Expr} {fa fb : F} {pos : Pos} {k : Nat} (g : GX X k) (ha : DE X a fa) (hb : DE X b fb) (hm : behindInMarks .NotEq b = false := by with_unfolding_all rfl) : DE X (.Compare a [.NotEq] [b] pos) (fEqR true fa fb) :=
  weakE (pe_cmpR (op_neD g.room.units) ha hb hm) fun σ H Q h => eqR_reads (fun u v H Q p q hp hq sp sq hQ => ⟨p, q, hp, hq, sp, sq, hQ⟩) σ H Q h
theorem dt_eqR {a b : Expr} {fa fb : F} {pos : Pos} {k : Nat} (g : GX X k) (ha : DE X a fa) (hb : DE X b fb) (hm : behindInMarks .Eq b = false := by with_unfolding_all rfl) : DT X (.Compare a [.Eq] [b] pos) (fTest (fEqR false fa fb)) :=
  weakT (pt_cmpR (op_eqD g.room.units) ha hb hm) fun σ H Q h => eqR_reads (fun u v H Q p q hp hq sp sq hQ => ⟨p, q, hp, hq, sp, sq, hQ⟩) σ H (fun x H1 => ∃ c, x = .bl c ∧ Q c H1) (testReads σ H Q h)
theorem dt_neR {a b : Expr} {fa fb : F} {pos : Pos} {k : Nat} (g : GX X k) (ha : DE X a fa) (hb : DE X b fb) (hm : behindInMarks .NotEq b = false := by with_unfolding_all rfl) : DT X (.Compare a [.NotEq] [b] pos) (fTest (fEqR true fa fb)) :=
  weakT (pt_cmpR (op_neD g.room.units) ha hb hm) fun σ H Q h => eqR_reads (fun u v H Q p q hp hq sp sq hQ => ⟨p, q, hp, hq, sp, sq, hQ⟩) σ H (fun x H1 => ∃ c, x = .bl c ∧ Q c H1) (testReads σ H Q h)
end
end DL
/-! Lists that are written no more become values; zip of such lists. -/
namespace DL
open PySem PySem.Spec PyProof.Rows L2
section
variable {X : Cx} {W : WXd} {tg iter : Expr}
theorem Rep.sqLv {K : PySem.W.Frag} {r : Rf} {H : Hp} {v : V} {ds : List D} (h : Rep K r H v (.lst ds)) : ∃ a xs, v = .ref a ∧ SqL K H a xs ∧ RepL K r H xs ds := by
  cases h with
  | lst a b c => exact ⟨_, _, rfl, .of a, c⟩
def asZipL : List D → Option (List D) | [.lst as, .lst bs] => some (pairs2 as bs) | _ => none
theorem di_zipL {a b : Expr} {fa : FA} {elts : List Expr} {kk : Nat} {tpos p pos : Pos} (hg : Gl X "zip") (hm : X.mg "zip" = none) (ha : DA X [a, b] fa)
    (hs : starEach [a, b] X.env = (false, eval a X.env) :: starEach [b] X.env := by rfl) (hpl : (backTo pos (starEach [b] X.env)).any (·.1) = false := by rfl) :
    DIR X (RepI X.K) (.Tuple elts kk tpos) (.Call (.Name "zip" p) [a, b] [] pos) (iOfA asZipL fa) := weakI (RZ.pi_zipA hg hm ha hs hpl) fun σ H R hh => by
  obtain ⟨r, env, st, xs, st', he, hs, hf, q⟩ := hh
  obtain ⟨xs, h1, h2⟩ := iOfA_some hf
  refine ⟨r, env, st, xs, st', he, hs, h1, fun v r1 H1 e1 q1 p1 => ?_⟩
  unfold asZipL at h2
  split at h2
  · rename_i as bs
    cases h2
    obtain ⟨u, w, rfl, pa, pb⟩ := lst2 p1
    obtain ⟨a', us, rfl, sa, la⟩ := pa.sqLv
    obtain ⟨b', ws, rfl, sb, lb⟩ := pb.sqLv
    have pa1 := pa
    have pb1 := pb
    refine ⟨a', b', us, ws, rfl, .inl ⟨sa, sb, q _ r1 H1 e1 q1 fun r2 H2 st2 e2 s2 => ?_⟩⟩
    have hk : ∀ {c : Addr} {ys : List V} {es : List D}, SqL X.K H1 c ys → RepL X.K r1 H1 ys es → Rep X.K r1 H1 (.ref c) (.lst es) → ∃ zs, SqL X.K H2 c zs ∧ RepL X.K r2 H2 zs es := fun {c ys es} _ _ p => by
      obtain ⟨c', zs, e', s', l'⟩ := (p.ext e2).sqLv
      cases e'
      exact ⟨zs, s', l'⟩
    obtain ⟨us2, sa2, la2⟩ := hk sa la pa1
    obtain ⟨ws2, sb2, lb2⟩ := hk sb lb pb1
    refine ⟨fun i hi => ⟨us2, ws2, sa2, sb2, ?_⟩, fun i d hd => ?_⟩
    · rw [pairs2_len] at hi
      rw [la2.len, lb2.len]
      omega
    · obtain ⟨x, y, hx, hy, ed⟩ := pairs2_get hd
      obtain ⟨vx, hvx, rx⟩ := la2.get hx
      obtain ⟨vy, hvy, ry⟩ := lb2.get hy
      refine ⟨⟨us2, ws2, vx, vy, sa2, sb2, hvx, hvy⟩, fun v H3 ⟨T, x', y', ev, hT, eH, w1, w2⟩ => ?_⟩
      subst ev
      subst eH
      have ex : x' = vx := by
        have := w1 us2 sa2
        rw [hvx] at this
        exact (Option.some.inj this).symm
      have ey : y' = vy := by
        have := w2 ws2 sb2
        rw [hvy] at this
        exact (Option.some.inj this).symm
      subst ex ey
      have sm : Same H2 (upd H2 T (.tup [x', y'])) := same_alloc hT
      exact ⟨r2, s2.ext sm, s2.same sm, T, [x', y'], [x, y], rfl, ed, .inl (.inl upd_same), .cons (rx.ext (s2.ext sm)) (.cons (ry.ext (s2.ext sm)) .nil)⟩
  · cases h2
/-- local i's list is a value from here on -/
def sFrzL (i : Nat) : FS := fun env st => match env[i]? with
  | some (some (.ref n)) => (match st[n]? with | some (.lst ds) => some (.nx, env.set i (some (.lst ds)), st.set n .dead) | _ => none)
  | _ => none
theorem ds_frzL (i : Nat) {s : Stmt} {g : FS} (h : DS X W s g) : DS X W s (sSeq (sFrzL i) g) := weakS h fun D' σ H hh => by
  obtain ⟨r, env, st, o, env', st', he, hs, hf, q⟩ := hh
  obtain ⟨⟨o1, e1, s1⟩, h1, h2⟩ := Option.bind_eq_some_iff.mp hf
  unfold sFrzL at h1
  split at h1
  · rename_i n hn
    split at h1
    · rename_i ds hst
      cases h1
      obtain ⟨v, hv, rv⟩ := he.at_ i _ hn
      obtain ⟨a, rfl, ha⟩ := rv.refI
      obtain ⟨av, xs, hx, l⟩ := hs.ob _ a _ ha hst
      have ex := drop_ext (H := H) (List.mem_of_getElem? ha)
      have na : ¬ (r.drop a).av a := fun z => z.2 rfl
      have he2 := (he.ext ex).set (Rep.lst hx na (l.ext ex)) i
      have es : σ.set i (some (V.ref a)) = σ := by
        refine List.ext_getElem? fun j => ?_
        by_cases z : i = j
        · subst z
          rw [List.getElem?_set_self (List.getElem?_eq_some_iff.mp hv).1, hv]
        · rw [List.getElem?_set_ne z]
      rw [es] at he2
      exact ⟨_, _, _, o, env', st', he2, drop_sim hs ha, h2, q.ext ex⟩
    · cases h1
  · cases h1
end
end DL
/-! Sets of ints that live for one expression: how many they are, in order. -/
namespace DL
open PySem PySem.Spec PyProof.Rows L2
section
variable {X : Cx}
/-- what may stand at D while its items come in, how one more changes it -/
structure SetKd (X : Cx) where
  T : Type
  ob : Addr → T → HO
  z : T
  put : T → V → T
  fits : T → V → Prop
  new : ∀ {H : Hp} {h : Heap}, ObjOk X.prog X.w H (h.push { cls := .type "set", dict := none, data := .set #[] 0 (.fresh 0 0 (!X.w.params.followText "set-order")) }) h.objs.size (ob h.objs.size z)
/-- the items come in -/
def SetAdd (X : Cx) (K : SetKd X) : Prop := ∀ {Y : Cx} {pins : List (Addr × Obj)} {σ : L2.St} {H : Hp} {s : Shared} {E : Value → Shared → Prop} {D : Addr} {t : K.T} {y : V} {v : Value} {Q : Value → Shared → Prop}, Y.prog = X.prog → Y.w = X.w → Inv Y pins σ H s → H D = some (K.ob D t) → K.fits t y → RelV y v →
  (∀ s', Inv Y pins σ (upd H D (K.ob D (K.put t y))) s' → Q .none s') → wpAny (model Y.prog Y.w) Y.A (call (.builtin "set.add") [.ref D, v]) Q E s
def tScK (K : SetKd X) (wi : TI) (g : TG) (tt : TT) (te : TE) (vs : List Nat) : TE := fun σ H Q => wi σ H fun J H1 => ∀ D, H1 D = none → ∃ W : Nat → Nat → Hp → Prop, (∃ m, W 0 m (upd H1 D (K.ob D K.z))) ∧ ∀ i m H, W i m H →
  (J.stop i H ∧ Q (.ref D) H) ∨ (J.go i H ∧ ∃ Nx : Hp → Prop, (∀ H', Nx H' → ∃ m', m' < m ∧ W (i + 1) m' H') ∧ ∀ x H', J.yld i H x H' → g x (wipe σ vs) H' fun σ2 H2 => wipe σ2 vs = wipe σ vs ∧ tt σ2 H2 fun b H3 =>
    if b = true then te σ2 H3 fun y H4 => ∃ t, H4 D = some (K.ob D t) ∧ K.fits t y ∧ Nx (upd H4 D (K.ob D (K.put t y))) else Nx H3)
theorem pe_scK (K : SetKd X) (ka : SetAdd X K) {elt tg iter : Expr} {ifs : List Expr} {scope : Scope} {own : List (PySem.Str × Nat)} {pos : Pos} {wi : TI} {g : TG} {tt : TT} {te : TE} (hc : X.calm = true) (hN : X.N.Nodup) (hi : PI X tg iter wi) (ok : BlkOk X.N X.env.scope scope own)
    (hg : ∀ (s : Shared) (H : Hp) (C : Addr) (cl : List (PySem.Str × Addr)) (fp : List Addr), PG (X.blk s H scope (compEnvC scope cl C X.env) fp) tg g) (ht : ∀ (s : Shared) (H : Hp) (C : Addr) (cl : List (PySem.Str × Addr)) (fp : List Addr), PTs (X.blk s H scope (compEnvC scope cl C X.env) fp) ifs tt)
    (he : ∀ (s : Shared) (H : Hp) (C : Addr) (cl : List (PySem.Str × Addr)) (fp : List Addr), PE (X.blk s H scope (compEnvC scope cl C X.env) fp) elt te) (hs : ∀ x, foldedSetIterable iter X.env x = pure x := by intro _; rfl) :
    PE X (.SetComp elt [⟨tg, iter, ifs, 0⟩] scope pos) (tScK K wi g tt te (own.map (·.2))) := by
  refine ⟨fun pins s σ H Q I h => ?_⟩
  rw [PpSet.eval_SetComp]
  have hfree : ∀ y ∈ scope.names, y.2 = .free → ∃ c, X.env.cells.lookup y.1 = some c := fun y hy e => (ok.free y hy e).elim (fun k => I.ok.has _ (.inl k)) fun k => I.ok.has _ (.inr k)
  refine wpAny_comprehension_free (use := none) rfl hs (closure_ok hfree) ok.kind (fun y hy e => by rw [ok.uniq y hy, e]) (thn (hi.run pins s σ H _ I h) fun xv s1 hx => thn hx fun itv s2 h2 => ?_)
  obtain ⟨it, fp, tn, J, H2, e, I2, T, st2, f2, q⟩ := h2
  subst e
  refine PpSet.newSet_ok (newEnv_comp ?_)
  generalize hD : s2.heap.objs.size = D
  obtain ⟨W, ⟨m0, w0⟩, turn⟩ := q D (I2.hok.fresh (Nat.le_of_eq hD))
  generalize hs3 : ({ s2 with heap := s2.heap.push { cls := .type "set", dict := none, data := .set #[] 0 (.fresh 0 0 (!X.w.params.followText "set-order")) } } : Shared) = s3
  generalize hH3 : upd H2 D (K.ob D K.z) = H3 at w0
  have h3 : s3.heap = s2.heap.push { cls := .type "set", dict := none, data := .set #[] 0 (.fresh 0 0 (!X.w.params.followText "set-order")) } := by rw [← hs3]
  have I3 : Inv X pins σ H3 s3 := by
    rw [← hs3, ← hH3, ← hD]
    exact I2.laid (t' := s2.toks) (fun b o e => Heap.get?_push_of_some _ e) (Nat.le_refl _) K.new
  have f3 : ∀ b ∈ fp, FpOk X pins H3 b ∧ b < s3.heap.objs.size := fun b hb => by
    obtain ⟨o, e, _⟩ := T.obj _ _ st2 b hb
    have hlt := Heap.lt_size e
    refine ⟨⟨?_, (f2 b hb).2⟩, by rw [h3, Heap.size_push]; exact Nat.lt_succ_of_lt hlt⟩
    rw [← hH3, upd_ne (by rw [← hD]; exact Nat.ne_of_lt hlt)]
    exact (f2 b hb).1
  have st3 : tn 0 s3.heap := T.keep _ _ _ st2 fun b _ o e => by rw [h3]; exact Heap.get?_push_of_some _ e
  have I4 := block_start I3 ok hN f3
  have pg := hg s3 H3 s3.heap.objs.size (cellsFrom (s3.heap.objs.size + 1) scope.names (cloFrom X.env.cells scope.names [])) fp
  have pt := ht s3 H3 s3.heap.objs.size (cellsFrom (s3.heap.objs.size + 1) scope.names (cloFrom X.env.cells scope.names [])) fp
  have pe := he s3 H3 s3.heap.objs.size (cellsFrom (s3.heap.objs.size + 1) scope.names (cloFrom X.env.cells scope.names [])) fp
  show codeAny _ _ (.compStart (.SetComp elt [⟨tg, iter, ifs, 0⟩] scope pos) 0 (.ref it) (.ref D) (compEnvC scope (cellsFrom (s3.heap.objs.size + 1) scope.names (cloFrom X.env.cells scope.names [])) s3.heap.objs.size X.env)) (compPost (model X.prog X.w) X.A X.xe none (fun v s' => ∃ x H', Inv X pins σ H' s' ∧ RelV x v ∧ Q x H') (.ref D) s3.heap.objs.size) { s3 with heap := pushCells (s3.heap.push { cls := .type "dict", data := .dict #[] }) scope.names }
  generalize hce : compEnvC scope (cellsFrom (s3.heap.objs.size + 1) scope.names (cloFrom X.env.cells scope.names [])) s3.heap.objs.size X.env = ce at I4 pg pt pe ⊢
  have cL : ce.locals = s3.heap.objs.size := by subst hce; rfl
  generalize hs4 : ({ s3 with heap := pushCells (s3.heap.push { cls := .type "dict", data := .dict #[] }) scope.names } : Shared) = s4 at I4 ⊢
  have st4 : tn 0 s4.heap := T.keep _ _ _ st3 fun b _ o e => by rw [← hs4]; exact pushCells_keeps _ _ _ _ (Heap.get?_push_of_some _ e)
  -- one of the iterator's objects, as the block sees it
  have stat : ∀ {σ' : L2.St} {H' : Hp} {s' : Shared}, Inv (X.blk s3 H3 scope ce fp) [] σ' H' s' → (∀ b ∈ fp, H' b = none) → ∀ b ∈ fp, FpOk (X.blk s3 H3 scope ce fp) [] H' b := fun {σ' H' s'} I' hn b hb =>
    ⟨hn b hb, (I'.ok.exf b hb).1, I'.ok.exfs b hb, .inl hb, fun x c e => (I'.ok.exf b hb).2 x c e, fun p hp => absurd (show p ∈ ([] : List (Addr × Obj)) ++ [] from hp) (by simp)⟩
  have loop : codeAny (model X.prog X.w) X.A (.compLoop (.SetComp elt [⟨tg, iter, ifs, 0⟩] scope pos) 0 (.ref it) (.ref D) ce) (compPost (model X.prog X.w) X.A X.xe none (fun v s' => ∃ x H', Inv X pins σ H' s' ∧ RelV x v ∧ Q x H') (.ref D) s3.heap.objs.size) s4 := by
    refine PpSet.compLoopS_any (fun n s' => ∃ i H', Inv (X.blk s3 H3 scope ce fp) [] (wipe σ (own.map (·.2))) H' s' ∧ tn i s'.heap ∧ (∀ b ∈ fp, H' b = none) ∧ W i n H') ?_ m0 ⟨0, H3, I4, st4, fun b hb => (f3 b hb).1.1, w0⟩
    rintro n s5 ⟨i, H5, I5, st5, n5, w5⟩
    rcases turn i n H5 w5 with ⟨stop, qq⟩ | ⟨go, Nx, hNx, step⟩
    · refine thnF (T.done (X.blk s3 H3 scope ce fp) rfl rfl rfl hc i [] s5 _ H5 (fun _ _ => False) I5 (stat I5 n5) st5 stop) fun r s6 ⟨hr, I6⟩ => ?_
      subst hr
      have I7 : Inv X pins σ H5 s6 := I3.call' (ch := fp) I6.os I6.base I6.hok I6.bare fun b hb => ⟨(f3 b hb).1.2.2.2.1, (f3 b hb).1.2.1, (f3 b hb).1.2.2.2.2.1, (f3 b hb).1.2.2.2.2.2⟩
      have nC : H5 s3.heap.objs.size = none := by
        have z : H5 ce.locals = none := I6.free
        rwa [cL] at z
      obtain ⟨m, hn, _⟩ := I6.loc
      have hn : s6.heap.Ns ce.locals m := hn
      rw [cL] at hn
      obtain ⟨g0, g1, g2, g3, g4, g5⟩ := I3.fpOk (Nat.le_refl _) nC
      exact ⟨m, hn, fun h'' sb => ⟨.ref D, H5, I7.turned (t' := s6.toks) (fun b o hb e => (sb.2 b hb).trans e) g0 g1 g3 g4 g5, rfl, qq⟩⟩
    · refine thnF (T.item (X.blk s3 H3 scope ce fp) rfl rfl rfl hc i [] s5 _ H5 (fun _ _ => False) I5 (stat I5 n5) st5 go) fun r s6 ⟨u, hr, h6⟩ => ?_
      subst hr
      refine thnF h6 fun _ s7 ⟨x, H7, I7, r7, y7, st7, n7⟩ => ?_
      have I7' := I7.pinned (stat I7 n7) (T.obj _ _ st7)
      refine thnF (pg.run _ s7 _ H7 x u _ I7' r7 (step x H7 y7)) fun _ s8 ⟨σ8, H8, I8, hw8, q8⟩ => thnF (pt.run _ s8 σ8 H8 _ I8 q8) fun b s9 ⟨H9, I9, q9⟩ => ?_
      have fin : ∀ {s' : Shared} {H' : Hp}, Inv (X.blk s3 H3 scope ce fp) ([] ++ pinsAt fp s7.heap) σ8 H' s' → Nx H' → ∃ m, m < n ∧ ∃ i H', Inv (X.blk s3 H3 scope ce fp) [] (wipe σ (own.map (·.2))) H' s' ∧ tn i s'.heap ∧ (∀ b ∈ fp, H' b = none) ∧ W i m H' := fun {s' H'} I' nx => by
        obtain ⟨m', hm, w'⟩ := hNx H' nx
        have pin' : ∀ b ∈ fp, ∀ o, s7.heap.get? b = some o → s'.heap.get? b = some o ∧ H' b = none := fun b hb o e =>
          let z := I'.pin (b, o) (List.mem_append_right _ (List.mem_append_right _ (mem_pinsAt hb e)))
          ⟨z.1, z.2.1⟩
        refine ⟨m', hm, i + 1, H', (I'.unpinned (pins := [])).weak (by rw [← hw8, wipe_length]) (fun j v e => ?_), T.keep _ _ _ st7 fun b hb o e => (pin' b hb o e).1, fun b hb => ?_, w'⟩
        · rw [← hw8] at e
          exact (wipe_some e).1
        · obtain ⟨o, e, _⟩ := T.obj _ _ st7 b hb
          exact (pin' b hb o e).2
      cases b with
      | false =>
        simp only [Bool.false_eq_true, if_false] at q9 ⊢
        exact fin I9 q9
      | true =>
        simp only [if_true] at q9 ⊢
        refine thnF (pe.run _ s9 σ8 H9 _ I9 q9) fun z s10 ⟨yv, H10, I10, r10, tt10, hD10, hz10, nx⟩ => ?_
        exact ka (Y := X.blk s3 H3 scope ce fp) rfl rfl I10 hD10 hz10 r10 fun s11 I11 => fin I11 nx
  exact PpSet.codeAny_compStart_set loop (T.self X.A 0 _ _ _ st4 loop)
/-! ### ints -/
def cntI : List Int → Nat | [] => 0 | k :: l => if k ∈ l then cntI l else cntI l + 1
theorem cntI_le : ∀ l : List Int, cntI l ≤ l.length
  | [] => Nat.le_refl _
  | k :: l => by
    have := cntI_le l
    unfold cntI
    split <;> simp <;> omega
def intKd (X : Cx) : SetKd X where
  T := List Int
  ob D l := SetO X.w D (fun j => decide (j ∈ l)) (cntI l)
  z := []
  put l y := match y with | .int k => k :: l | _ => l
  fits l y := (∃ k, y = .int k) ∧ cntI l + 1 < scanBound
  new := setO_new ((setR_fresh X.w).congr fun j => by simp)
theorem setPut {Y : Cx} {pins : List (Addr × Obj)} {σ : L2.St} {H : Hp} {s : Shared} {E : Value → Shared → Prop} {D : Addr} {l : List Int} {k : Int} {tk : Tok} {Q : Value → Shared → Prop} (I : Inv Y pins σ H s) (hD : H D = some (SetO Y.w D (fun j => decide (j ∈ l)) (cntI l))) (room : cntI l + 1 < scanBound)
    (q : ∀ s', Inv Y pins σ (upd H D (SetO Y.w D (fun j => decide (j ∈ k :: l)) (cntI (k :: l)))) s' → Q .none s') : wpAny (model Y.prog Y.w) Y.A (call (.builtin "set.add") [.ref D, .int k tk]) Q E s := by
  have R := setO_get I hD
  refine setR_add R room fun h' sb new => ?_
  have he : ∃ u, h'.get? D = some u := by
    have ⟨o, _, _, _, ho, _⟩ := new
    exact ⟨o, ho⟩
  have n2 := new.congr (S' := fun j => decide (j ∈ k :: l)) fun j => by
    by_cases a : j = k <;> by_cases b : j ∈ l <;> simp [a, b]
  have e : (if decide (k ∈ l) = true then cntI l else cntI l + 1) = cntI (k :: l) := by
    rw [cntI]
    by_cases a : k ∈ l <;> simp [a]
  rw [e] at n2
  exact q _ (I.write (e := D) (t' := s.toks + 1) (by rw [hD]; trivial) (.inl rfl) (fun b u hb hu => (sb.2 b hb).trans hu) he (setO_new n2))
theorem intAdd : SetAdd X (intKd X) := by
  intro Y pins σ H s E D t y v Q hP hw I hD hf r q
  obtain ⟨⟨k, rfl⟩, room⟩ := hf
  obtain ⟨tk, rfl⟩ := r
  refine setPut (l := t) (k := k) I (by rw [hw]; exact hD) room fun s' I' => q s' ?_
  rw [hw] at I'
  exact I'
def rLenSet (w : World) : List V → Hp → VK → Prop := fun xs H Q => ∃ (a : Addr) (S : Int → Bool) (n : Nat), xs = [V.ref a] ∧ H a = some (SetO w a S n) ∧ Q (.int n) H
theorem cr_lenSet : CallR X (.builtin "len") (rLenSet X.w) := by
  intro pins s σ H xs us Q I r h
  obtain ⟨a, S, n, rfl, ha, q⟩ := h
  rw [Vals.ref1 r]
  obtain ⟨o, es, ep, t, ho, hx, hd, g, nd, hm, hb, hf, hn, hr, hl⟩ := setO_get I ha
  have hb' : es.size < 4096 := hb
  refine call_len_set ho hx hd hf (by omega) ⟨.int n, H, I.tok _, ⟨s.toks + 1, ?_⟩, q⟩
  rw [hn]
def intsD : List D → Option (List Int)
  | [] => some []
  | .int k :: ds => (intsD ds).map fun ks => k :: ks
  | _ => none
theorem intsD_eq : ∀ {ds : List D} {ks : List Int}, intsD ds = some ks → ds = ks.map D.int
  | [], _, h => by cases h; rfl
  | .int k :: ds, _, h => by
    obtain ⟨l, h1, h2⟩ := Option.map_eq_some_iff.mp h
    subst h2
    rw [List.map_cons, ← intsD_eq h1]
  | .non :: _, _, h => by cases h
  | .bl _ :: _, _, h => by cases h
  | .str _ :: _, _, h => by cases h
  | .tup _ :: _, _, h => by cases h
  | .lst _ :: _, _, h => by cases h
  | .dct _ :: _, _, h => by cases h
  | .scr _ :: _, _, h => by cases h
  | .ref _ :: _, _, h => by cases h
theorem intsD_map : ∀ ks : List Int, intsD (ks.map D.int) = some ks
  | [] => rfl
  | k :: ks => by
    show (intsD (ks.map D.int)).map _ = _
    rw [intsD_map ks]; rfl
theorem map_int_inj : ∀ {ks ls : List Int}, ks.map D.int = ls.map D.int → ks = ls
  | [], [], _ => rfl
  | k :: ks, l :: ls, h => by
    have h1 : D.int k :: ks.map D.int = D.int l :: ls.map D.int := h
    injection h1 with a b
    injection a with c
    rw [c, map_int_inj b]
  | [], _ :: _, h => by cases h
  | _ :: _, [], h => by cases h
/-- len({f for .. in ..}), f ints -/
def fLenSc (fi : FI) (is : List Nat) (bd : FB) (t : FT) (f : F) : F := fun env st => (fi env st).bind fun p => (loopC is bd t f p.1 (wipeL env is) p.2).bind fun q => (intsD q.1).bind fun ks => if ks.length ≤ 4000 then some (.int (cntI ks.reverse), q.2) else none
theorem lenScReads {RR : RD} {fi : FI} {is : List Nat} {bd : FB} {g : TG} {t : FT} {f : F} (hg : TgOkR X.K RR g is bd) (σ : L2.St) (H : Hp) (Q : VK) (hh : tD X.K (fLenSc fi is bd t f) σ H Q) :
    tCB (rLenSet X.w) (tCons (tScK (intKd X) (tIR X.K RR fi) g (tT X.K t) (tD X.K f) is) tNil) σ H Q := by
  obtain ⟨r, env, st, d, st', he, hs, hf, q⟩ := hh
  obtain ⟨⟨ds, s1⟩, h1, h2⟩ := Option.bind_eq_some_iff.mp hf
  obtain ⟨⟨zs, s2⟩, h3, h4⟩ := Option.bind_eq_some_iff.mp h2
  obtain ⟨all, h5, h6⟩ := Option.bind_eq_some_iff.mp h4
  by_cases hz : all.length ≤ 4000
  case neg => rw [if_neg hz] at h6; cases h6
  rw [if_pos hz] at h6
  cases h6
  have ez : zs = all.map D.int := intsD_eq h5
  refine ⟨r, env, st, ds, s1, he, hs, h1, fun J r1 H1 e1 q1 j1 Dl hD => ?_⟩
  have m0 := Mkg.start (o := (intKd X).ob Dl []) q1 hD
  refine ⟨fun k m H2 => m = ds.length - k ∧ k ≤ ds.length ∧ ∃ (r2 : Rf) (st2 : Store) (ks : List Int) (ys : List D), Mkg X.K r1 H1 Dl r2 H2 st2 ∧ EnvR X.K r2 H2 (DL.wipeL env is) (wipe σ is) ∧ H2 Dl = some ((intKd X).ob Dl ks.reverse) ∧
    loopC is bd t f (ds.drop k) (DL.wipeL env is) st2 = some (ys, s2) ∧ ks.map D.int ++ ys = zs, ⟨_, rfl, Nat.zero_le _, r1.hide Dl, s1, [], zs, m0, ((he.ext e1).ext m0.ex).wipeL is, upd_same, h3, rfl⟩, ?_⟩
  rintro k m H2 ⟨rfl, hk, r2, st2, ks, ys, mk, wp, hus, hl, hcat⟩
  obtain ⟨jst, jgo⟩ := j1 r2 H2 st2 mk.ex mk.sim
  by_cases hlt : k < ds.length
  case neg =>
    have e : k = ds.length := by omega
    subst e
    rw [List.drop_length] at hl
    cases hl
    rw [List.append_nil, ez] at hcat
    have := map_int_inj hcat
    subst this
    obtain ⟨w1, w2, w3⟩ := mk.show q1 hD
    exact .inl ⟨jst _ (Nat.le_refl _), Dl, (fun j => decide (j ∈ ks.reverse)), cntI ks.reverse, rfl, hus, q (.int (cntI ks.reverse)) (r2.shown Dl) H2 (e1.trans w1) w2 (.int _)⟩
  case pos =>
    have hd : ds[k]? = some ds[k] := List.getElem?_eq_getElem hlt
    rw [List.drop_eq_getElem_cons hlt] at hl
    obtain ⟨vals, hv, hl1⟩ := Option.bind_eq_some_iff.mp hl
    obtain ⟨⟨b, st3⟩, hb, hl2⟩ := Option.bind_eq_some_iff.mp hl1
    obtain ⟨j2, j3⟩ := jgo k _ hd
    refine .inr ⟨j2, fun H' => k + 1 ≤ ds.length ∧ ∃ (r2 : Rf) (st2 : Store) (ks : List Int) (ys : List D), Mkg X.K r1 H1 Dl r2 H' st2 ∧ EnvR X.K r2 H' (DL.wipeL env is) (wipe σ is) ∧ H' Dl = some ((intKd X).ob Dl ks.reverse) ∧
      loopC is bd t f (ds.drop (k + 1)) (DL.wipeL env is) st2 = some (ys, s2) ∧ ks.map D.int ++ ys = zs, fun H' ⟨hk', w⟩ => ⟨ds.length - (k + 1), by omega, rfl, hk', w⟩, fun x H3 y => ?_⟩
    obtain ⟨r3, e3, s3, rx⟩ := j3 x H3 y
    have wp3 := wp.ext e3
    refine hg r3 H3 x _ _ _ vals rx hv fun vs rvs => ⟨wipe_setL σ is vs, ?_⟩
    · have he3 : EnvR X.K r3 H3 (DL.setL is vals (DL.wipeL env is)) (DL.setL is vs (wipe σ is)) := wp3.setL rvs
      refine ⟨r3, _, st2, b, st3, he3, s3, hb, fun r4 H4 e4 s4 => ?_⟩
      cases b with
      | false =>
        rw [if_neg Bool.false_ne_true] at hl2 ⊢
        obtain ⟨m4, k4⟩ := mk.step (e3.trans e4) s4
        exact ⟨hlt, r4, st3, ks, ys, m4, wp3.ext e4, k4.trans hus, hl2, hcat⟩
      | true =>
        rw [if_pos rfl] at hl2 ⊢
        obtain ⟨⟨yd, st4⟩, hy, hl3⟩ := Option.bind_eq_some_iff.mp hl2
        obtain ⟨⟨ys', st5⟩, hl4, hl5⟩ := Option.map_eq_some_iff.mp hl3
        cases hl5
        have hin : yd ∈ zs := by rw [← hcat]; exact List.mem_append_right _ List.mem_cons_self
        rw [ez] at hin
        obtain ⟨kk, _, rfl⟩ := List.mem_map.mp hin
        have hlen : ks.length + 1 ≤ all.length := by
          have := congrArg List.length hcat
          rw [ez] at this
          simp at this
          omega
        refine ⟨r4, _, st3, .int kk, st4, he3.ext e4, s4, hy, fun yv r5 H5 e5 s5 ry => ?_⟩
        have e25 : Ext r2 H2 r5 H5 := (e3.trans e4).trans e5
        obtain ⟨m5, k5⟩ := mk.step e25 s5
        cases ry
        obtain ⟨m6, g1⟩ := m5.put q1 hD ((intKd X).ob Dl (kk :: ks.reverse))
        refine ⟨ks.reverse, k5.trans hus, ⟨⟨kk, rfl⟩, ?_⟩, hlt, r5, st4, ks ++ [kk], ys', m6, ((wp3.ext e4).ext e5).exx g1, by rw [List.reverse_append]; exact upd_same, hl4, by rw [List.map_append, List.append_assoc]; exact hcat⟩
        show cntI ks.reverse + 1 < 4096
        have := cntI_le ks.reverse
        rw [List.length_reverse] at this
        omega
theorem de_lenSc {RR : RD} {elt : Expr} {ifs : List Expr} {scope : Scope} {own : List (Str × Nat)} {p pos pos' : Pos} {fi : FI} {bd : FB} {g : TG} {t : FT} {f : F} {tg iter : Expr} (hgl : Gl X "len") (hml : X.mg "len" = none) (hc : X.calm = true) (hN : X.N.Nodup) (hi : DIR X RR tg iter fi) (ok : BlkOk X.N X.env.scope scope own)
    (tk : TgOkR X.K RR g (own.map (·.2)) bd)
    (hg : ∀ (s : Shared) (H : Hp) (C : Addr) (cl : List (Str × Addr)) (fp : List Addr), PG (X.blk s H scope (compEnvC scope cl C X.env) fp) tg g) (ht : ∀ (s : Shared) (H : Hp) (C : Addr) (cl : List (Str × Addr)) (fp : List Addr), DTs (X.blk s H scope (compEnvC scope cl C X.env) fp) ifs t)
    (he : ∀ (s : Shared) (H : Hp) (C : Addr) (cl : List (Str × Addr)) (fp : List Addr), DE (X.blk s H scope (compEnvC scope cl C X.env) fp) elt f) (hs : ∀ x, foldedSetIterable iter X.env x = pure x := by intro _; rfl)
    (hst : starEach [.SetComp elt [⟨tg, iter, ifs, 0⟩] scope pos] X.env = (false, eval (.SetComp elt [⟨tg, iter, ifs, 0⟩] scope pos) X.env) :: starEach [] X.env := by rfl) (hpl : (backTo pos' (starEach [] X.env)).any (·.1) = false := by rfl) :
    DE X (.Call (.Name "len" p) [.SetComp elt [⟨tg, iter, ifs, 0⟩] scope pos] [] pos') (fLenSc fi (own.map (·.2)) bd t f) :=
  weakE (pe_callB cr_lenSet hgl hml (by decide +kernel) (pa_cons (pe_scK (intKd X) intAdd hc hN hi ok hg ht he hs) pa_nil hst) (by decide) (by decide) hst hpl) fun σ H Q hh => lenScReads tk σ H Q hh
/-! ### sorted(set(t)), t a tuple of ints -/
def ins (k : Int) : List Int → List Int
  | [] => [k]
  | a :: l => if k < a then k :: a :: l else if k = a then a :: l else a :: ins k l
def srt (ks : List Int) : List Int := ks.foldr ins []
theorem ins_mem {k j : Int} : ∀ {l : List Int}, j ∈ ins k l ↔ j = k ∨ j ∈ l
  | [] => by simp [ins]
  | a :: l => by
    unfold ins
    split
    · simp
    · split
      · rename_i e
        subst e
        simp
      · rw [List.mem_cons, ins_mem, List.mem_cons]
        exact ⟨fun h => h.elim (fun e => .inr (.inl e)) fun h => h.elim .inl fun h => .inr (.inr h), fun h => h.elim (fun e => .inr (.inl e)) fun h => h.elim .inl fun h => .inr (.inr h)⟩
theorem ins_pw {k : Int} : ∀ {l : List Int}, l.Pairwise (· < ·) → (ins k l).Pairwise (· < ·)
  | [], _ => by simp [ins]
  | a :: l, h => by
    obtain ⟨h1, h2⟩ := List.pairwise_cons.mp h
    unfold ins
    split
    · rename_i lt
      exact List.pairwise_cons.mpr ⟨fun x hx => (List.mem_cons.mp hx).elim (fun e => e ▸ lt) fun hx => Int.lt_trans lt (h1 x hx), h⟩
    · split
      · exact h
      · refine List.pairwise_cons.mpr ⟨fun x hx => ?_, ins_pw h2⟩
        rcases ins_mem.mp hx with e | hx
        · omega
        · exact h1 x hx
theorem srt_mem {j : Int} : ∀ {ks : List Int}, j ∈ srt ks ↔ j ∈ ks
  | [] => by simp [srt]
  | k :: ks => by
    show j ∈ ins k (srt ks) ↔ _
    rw [ins_mem, srt_mem, List.mem_cons]
theorem srt_pw : ∀ ks : List Int, (srt ks).Pairwise (· < ·)
  | [] => .nil
  | k :: ks => ins_pw (srt_pw ks)
theorem pw_eq : ∀ {xs ys : List Int}, xs.Pairwise (· < ·) → ys.Pairwise (· < ·) → (∀ j, j ∈ xs ↔ j ∈ ys) → xs = ys
  | [], [], _, _, _ => rfl
  | [], y :: _, _, _, h => absurd ((h y).mpr List.mem_cons_self) (by simp)
  | x :: _, [], _, _, h => absurd ((h x).mp List.mem_cons_self) (by simp)
  | x :: xs, y :: ys, hx, hy, h => by
    obtain ⟨x1, x2⟩ := List.pairwise_cons.mp hx
    obtain ⟨y1, y2⟩ := List.pairwise_cons.mp hy
    have e : x = y := by
      rcases List.mem_cons.mp ((h x).mp List.mem_cons_self) with e | m
      · exact e
      · rcases List.mem_cons.mp ((h y).mpr List.mem_cons_self) with e | m2
        · exact e.symm
        · have := y1 x m
          have := x1 y m2
          omega
    subst e
    rw [pw_eq x2 y2 fun j => ⟨fun m => ?_, fun m => ?_⟩]
    · rcases List.mem_cons.mp ((h j).mp (List.mem_cons_of_mem _ m)) with e | q
      · subst e
        exact absurd (x1 j m) (Int.lt_irrefl _)
      · exact q
    · rcases List.mem_cons.mp ((h j).mpr (List.mem_cons_of_mem _ m)) with e | q
      · subst e
        exact absurd (y1 j m) (Int.lt_irrefl _)
      · exact q
def rSetTI (K : PySem.W.Frag) (w : World) : List V → Hp → VK → Prop := fun xs H Q => ∃ (l : Addr) (ns : List Int), xs = [V.ref l] ∧ SqT K H l (ns.map V.int) ∧ ns.length < 64 ∧ ∀ p c, H p = none → c ≤ ns.length → Q (.ref p) (upd H p (SetO w p (fun j => decide (j ∈ ns)) c))
theorem cr_setTI (hc : X.calm = true) : CallR X (.type "set") (rSetTI X.K X.w) := by
  intro pins s σ H xs us Q I r h
  obtain ⟨l, ns, rfl, hs, h64, q⟩ := h
  rw [Vals.ref1 r]
  obtain ⟨its, rv, p, _⟩ := I.tuple hs
  refine call_set_tupI ns (I.ok.hd hc) p (by simpa using ints_of_vals rv) (show ns.length + 1 < 4096 by omega) fun h' tk c new cle kk => ?_
  exact ⟨.ref _, upd H s.heap.objs.size (SetO X.w s.heap.objs.size (fun j => decide (j ∈ ns)) c), I.laid (t' := tk) kk (Nat.le_refl _) (setO_new new), rfl, q _ c (I.hok.fresh (Nat.le_refl _)) cle⟩
theorem RepL.intsV {r : Rf} {H : Hp} : ∀ {vs : List V} {ks : List Int}, RepL X.K r H vs (ks.map D.int) → vs = ks.map V.int
  | _, [], h => by cases h; rfl
  | _, k :: ks, h => by
    cases h with
    | cons a b =>
      cases a
      rw [RepL.intsV b]; rfl
theorem ints_repL {r : Rf} {H : Hp} : ∀ ks : List Int, RepL X.K r H (ks.map V.int) (ks.map D.int)
  | [] => .nil
  | k :: ks => .cons (.int k) (ints_repL ks)
def fSortSet (f : F) : F := fun env st => (f env st).bind fun p => match p.1 with
  | .tup ds => (intsD ds).bind fun ks => if ks.length < 64 then some (.lst ((srt ks).map .int), p.2) else none
  | _ => none
theorem de_sortSet {e : Expr} {f : F} {p1 p2 q1 q2 : Pos} (hc : X.calm = true) (h : DE X e f) (hg : Gl X "sorted") (hm : X.mg "sorted" = none) (hg2 : Gl X "set") (hm2 : X.mg "set" = none)
    (h1 : starEach [Expr.Call (.Name "set" p2) [e] [] q2] X.env = (false, eval (Expr.Call (.Name "set" p2) [e] [] q2) X.env) :: starEach [] X.env := by rfl) (h2 : (backTo q1 (starEach [] X.env)).any (·.1) = false := by rfl)
    (h3 : starEach [e] X.env = (false, eval e X.env) :: starEach [] X.env := by rfl) (h4 : (backTo q2 (starEach [] X.env)).any (·.1) = false := by rfl) :
    DE X (.Call (.Name "sorted" p1) [.Call (.Name "set" p2) [e] [] q2] [] q1) (fSortSet f) :=
  weakE (pe_callB (cr_sortedSet hc) hg hm (by decide +kernel) (pa_cons (pe_callTy (cr_setTI hc) hg2 hm2 (by decide +kernel) (pa_cons h pa_nil h3) (by decide) (by decide) h3 h4) pa_nil h1) (by decide) (by decide) h1 h2) fun σ H Q hh => by
    obtain ⟨r, env, st, d, st', he, hs, hf, q⟩ := hh
    obtain ⟨⟨x, s1⟩, e1, e2⟩ := Option.bind_eq_some_iff.mp hf
    cases x with
    | tup ds =>
      obtain ⟨ks, e3, e4⟩ := Option.bind_eq_some_iff.mp (show ((intsD ds).bind fun ks => if ks.length < 64 then some (D.lst ((srt ks).map .int), s1) else none) = some (d, st') from e2)
      by_cases hz : ks.length < 64
      case neg => rw [if_neg hz] at e4; cases e4
      rw [if_pos hz] at e4
      cases e4
      have ed := intsD_eq e3
      subst ed
      refine ⟨r, env, st, .tup (ks.map .int), st', he, hs, e1, fun v r1 H1 x1 q1 p1 => ?_⟩
      obtain ⟨a, xs, rfl, sq, rl⟩ := p1.sqT
      rw [RepL.intsV rl] at sq
      refine ⟨a, ks, rfl, sq, hz, fun p c hp cle => ⟨p, _, c, rfl, upd_same, by omega, fun ns' p' pw mem _ hp' => ?_⟩⟩
      have en : ns' = srt ks := pw_eq pw (srt_pw ks) fun j => by rw [mem j, srt_mem]; exact decide_eq_true_iff
      subst en
      have sm1 : Same H1 (upd H1 p (SetO X.w p (fun j => decide (j ∈ ks)) c)) := same_alloc hp
      have sm2 := same_alloc (o := HO.lst ((srt ks).map V.int)) hp'
      have q2 := q1.same sm1
      exact q _ r1 _ (x1.trans ((q1.ext sm1).trans (q2.ext sm2))) (q2.same sm2) (.lst upd_same (q2.free hp') (ints_repL _))
    | _ => cases e2
/-! ### tuple(range(n)) -/
def fTupRg (f : F) : F := fun env st => (f env st).bind fun p => match p.1 with
  | .int n => if 0 ≤ n ∧ n ≤ 1000000 then some (.tup (rg 0 n), p.2) else none
  | _ => none
theorem repL_map {r : Rf} {H : Hp} {α : Type} {f : α → V} {g : α → D} (h : ∀ a, Rep X.K r H (f a) (g a)) : ∀ l : List α, RepL X.K r H (l.map f) (l.map g)
  | [] => .nil
  | a :: l => .cons (h a) (repL_map h l)
theorem de_tupRg {e : Expr} {f : F} {p1 p2 q1 q2 : Pos} (hc : X.calm = true) (h : DE X e f) (hg : Gl X "tuple") (hm : X.mg "tuple" = none) (hg2 : Gl X "range") (hm2 : X.mg "range" = none)
    (h1 : starEach [Expr.Call (.Name "range" p2) [e] [] q2] X.env = (false, eval (Expr.Call (.Name "range" p2) [e] [] q2) X.env) :: starEach [] X.env := by rfl)
    (h3 : starEach [e] X.env = (false, eval e X.env) :: starEach [] X.env := by rfl) :
    DE X (.Call (.Name "tuple" p1) [.Call (.Name "range" p2) [e] [] q2] [] q1) (fTupRg f) :=
  weakE (pe_tupRg hc hg hm (prg_1 hg2 hm2 h h3) h1) fun σ H Q hh => by
    obtain ⟨r, env, st, d, st', he, hs, hf, q⟩ := hh
    obtain ⟨⟨x, s1⟩, e1, e2⟩ := Option.bind_eq_some_iff.mp hf
    cases x with
    | int n =>
      have e4 : (if 0 ≤ n ∧ n ≤ 1000000 then some (D.tup (rg 0 n), s1) else none) = some (d, st') := e2
      by_cases hz : 0 ≤ n ∧ n ≤ 1000000
      case neg => rw [if_neg hz] at e4; cases e4
      rw [if_pos hz] at e4
      cases e4
      refine ⟨r, env, st, .int n, st', he, hs, e1, fun v r1 H1 x1 q1 p1 => ?_⟩
      cases p1
      refine ⟨n, rfl, .of_le (by omega) (by omega) (by omega) hz.1, fun p hp => ?_⟩
      have sm : Same H1 (upd H1 p (.tup (rgV 0 n))) := same_alloc hp
      exact q _ r1 _ (x1.trans (q1.ext sm)) (q1.same sm) (.tupP upd_same (q1.free hp) (repL_map (fun i => .int _) _))
    | _ => cases e2
/-! ### x in xs, xs a list of the store -/
def fInL (neg : Bool) (fa fb : F) : F := fun env st => (fa env st).bind fun p => (fb env p.2).bind fun q => match q.1 with
  | .ref n => (match q.2[n]? with | some (.lst ds) => if flatD p.1 = true then (anyF p.1 ds).map fun b => (.bl (if neg = true then !b else b), q.2) else none | _ => none)
  | _ => none
theorem inL_reads {neg : Bool} {fa fb : F} (σ : L2.St) (H : Hp) (Q : VK) (h : tD X.K (fInL neg fa fb) σ H Q) : tOp (rIn X.K neg) (tD X.K fa) (tD X.K fb) σ H Q := by
  obtain ⟨r, env, st, d, st', he, hs, hf, q⟩ := h
  obtain ⟨⟨x, s1⟩, h1, hf1⟩ := Option.bind_eq_some_iff.mp hf
  obtain ⟨⟨y, s2⟩, h2, hf2⟩ := Option.bind_eq_some_iff.mp hf1
  cases y with
  | ref n =>
    have hf3 : (match s2[n]? with | some (.lst ds) => if flatD x = true then (anyF x ds).map fun b => (D.bl (if neg = true then !b else b), s2) else none | _ => none) = some (d, st') := hf2
    split at hf3
    · rename_i ds hst
      by_cases fl : flatD x = true
      case neg => rw [if_neg fl] at hf3; cases hf3
      rw [if_pos fl] at hf3
      obtain ⟨k, h3, h4⟩ := Option.map_eq_some_iff.mp hf3
      cases h4
      refine two he hs h1 h2 fun u v r' H' e1 q1 pu pv => ?_
      obtain ⟨a, rfl, ha⟩ := pv.refI
      obtain ⟨av, xs, hx, l⟩ := q1.ob _ a _ ha hst
      obtain ⟨z1, z2⟩ := anyF_rep pu l h3
      refine ⟨_, _, rfl, .inl (.of hx), flat_rep pu fl, z2, ?_⟩
      rw [z1]
      exact q _ r' H' e1 q1 (.bl _)
    · cases hf3
  | _ => cases hf2
theorem de_inL {a b : Expr} {fa fb : F} {pos : Pos} {k : Nat} (g : GX X k) (ha : DE X a fa) (hb : DE X b fb) (hm : behindInMarks .In b = false := by with_unfolding_all rfl) : DE X (.Compare a [.In] [b] pos) (fInL false fa fb) :=
  weakE (pe_cmpR op_in_seq ha hb hm) fun σ H Q h => inL_reads σ H Q h
theorem dt_inL {a b : Expr} {fa fb : F} {pos : Pos} {k : Nat} (g : GX X k) (ha : DE X a fa) (hb : DE X b fb) (hm : behindInMarks .In b = false := by with_unfolding_all rfl) : DT X (.Compare a [.In] [b] pos) (fTest (fInL false fa fb)) :=
  weakT (pt_cmpR op_in_seq ha hb hm) fun σ H Q h => inL_reads σ H (fun x H1 => ∃ c, x = .bl c ∧ Q c H1) (testReads σ H Q h)
theorem de_notinL {a b : Expr} {fa fb : F} {pos : Pos} {k : Nat} (g : GX X k) (ha : DE X a fa) (hb : DE X b fb) (hm : behindInMarks .NotIn b = false := by with_unfolding_all rfl) : DE X (.Compare a [.NotIn] [b] pos) (fInL true fa fb) :=
  weakE (pe_cmpR op_notIn_seq ha hb hm) fun σ H Q h => inL_reads σ H Q h
theorem dt_notinL {a b : Expr} {fa fb : F} {pos : Pos} {k : Nat} (g : GX X k) (ha : DE X a fa) (hb : DE X b fb) (hm : behindInMarks .NotIn b = false := by with_unfolding_all rfl) : DT X (.Compare a [.NotIn] [b] pos) (fTest (fInL true fa fb)) :=
  weakT (pt_cmpR op_notIn_seq ha hb hm) fun σ H Q h => inL_reads σ H (fun x H1 => ∃ c, x = .bl c ∧ Q c H1) (testReads σ H Q h)
end
end DL
/-! Dicts: frozen, read, walked, locked and walked, comprehended, copied, sorted. -/
namespace DL
open PySem PySem.Spec PyProof.Rows L2 TL
variable {K : PySem.W.Frag}
/-! ### what a dict holds -/
def dctAt : D → Store → Option (List (Key × D)) := fun d st => match d with
  | .dct kvs => some kvs
  | .ref n => (match st[n]? with | some (.dct kvs) => some kvs | some (.ldc kvs) => some kvs | _ => none)
  | _ => none
theorem dctRd {r : Rf} {H : Hp} {v : V} {d : D} {st : Store} {kvs : List (Key × D)} (h : Rep K r H v d) (si : Sim K r H st) (e : dctAt d st = some kvs) : ∃ a xs, v = .ref a ∧ Rd H a (.dK xs) ∧ RepK K r H xs kvs := by
  cases d with
  | dct ks =>
    cases e
    cases h with
    | dct a b c => exact ⟨_, _, rfl, .inr ⟨_, a⟩, c⟩
  | ref n =>
    obtain ⟨a, rfl, ha⟩ := h.refI
    have e' : (match st[n]? with | some (.dct kvs) => some kvs | some (.ldc kvs) => some kvs | _ => none) = some kvs := e
    split at e'
    · rename_i ks hst
      cases e'
      obtain ⟨av, xs, hx, l⟩ := si.ob _ a _ ha hst
      exact ⟨a, xs, rfl, .inl hx, l⟩
    · rename_i ks hst
      cases e'
      obtain ⟨av, lk, o, xs, hx, l⟩ := si.ob _ a _ ha hst
      exact ⟨a, xs, rfl, .inr ⟨o, hx⟩, l⟩
    · cases e'
  | _ => cases e
theorem RepK.valN {r : Rf} {H : Hp} {k : Key} : ∀ {vs : List (Key × V)} {ds : List (Key × D)}, RepK K r H vs ds → valD ds k = none → valV vs k = none
  | _, _, .nil, _ => rfl
  | _, _, .cons (k := k0) a b, h => by
    unfold valD at h
    unfold valV
    rw [List.find?_cons] at h ⊢
    by_cases z : k0 = k
    · simp [z] at h
    · have zz : decide (k0 = k) = false := decide_eq_false z
      simp only [zz] at h ⊢
      exact RepK.valN b h
/-- the value at a key, or none, on both levels -/
theorem RepK.opt {r : Rf} {H : Hp} {k : Key} {vs : List (Key × V)} {ds : List (Key × D)} (l : RepK K r H vs ds) : (valD ds k = none ∧ valV vs k = none) ∨ ∃ d v, valD ds k = some d ∧ valV vs k = some v ∧ Rep K r H v d := by
  cases e : valD ds k with
  | none => exact .inl ⟨rfl, l.valN e⟩
  | some d =>
    obtain ⟨v, hv, rv⟩ := l.val e
    exact .inr ⟨d, v, rfl, hv, rv⟩
def dropD (kvs : List (Key × D)) (k : Key) : List (Key × D) := kvs.filter fun kv => decide (kv.1 ≠ k)
theorem RepK.drop {r : Rf} {H : Hp} {k : Key} : ∀ {vs : List (Key × V)} {ds : List (Key × D)}, RepK K r H vs ds → RepK K r H (dropK vs k) (dropD ds k)
  | _, _, .nil => .nil
  | _, _, .cons (k := k0) a b => by
    unfold dropK dropD
    rw [List.filter_cons, List.filter_cons]
    by_cases z : k0 = k
    · have : decide (k0 ≠ k) = false := decide_eq_false (fun q => q z)
      simp only [this]
      exact RepK.drop b
    · have : decide (k0 ≠ k) = true := decide_eq_true z
      simp only [this, if_true]
      exact .cons a (RepK.drop b)
theorem RepK.keys {r : Rf} {H : Hp} : ∀ {vs : List (Key × V)} {ds : List (Key × D)}, RepK K r H vs ds → vs.map (·.1) = ds.map (·.1)
  | _, _, .nil => rfl
  | _, _, .cons a b => by rw [List.map_cons, List.map_cons, RepK.keys b]
theorem RepK.get {r : Rf} {H : Hp} : ∀ {vs : List (Key × V)} {ds : List (Key × D)}, RepK K r H vs ds → ∀ {i : Nat} {k : Key} {d : D}, ds[i]? = some (k, d) → ∃ v, vs[i]? = some (k, v) ∧ Rep K r H v d
  | _, _, .nil, i, k, d, h => by simp at h
  | _, _, .cons a b, 0, k, d, h => by
    have e := Option.some.inj h
    cases e
    exact ⟨_, rfl, a⟩
  | _, _, .cons a b, i + 1, k, d, h => RepK.get b (i := i) h
def keyD : Key → D | .inl i => .int i | .inr x => .str x
theorem keyD_rep {r : Rf} {H : Hp} (k : Key) : Rep K r H (kV k) (keyD k) := by cases k with | inl i => exact .int i | inr x => exact .str x
section
variable {X : Cx} {W : WXd} {tg iter : Expr}
/-! ### d.get(k), d.get(k, x), k in d -/
def fGet1 (fo fk : F) : F := fun env st => (fo env st).bind fun p => (dctAt p.1 p.2).bind fun _ => (fk env p.2).bind fun q => (asKey q.1).bind fun k => (dctAt p.1 q.2).map fun kvs => ((valD kvs k).getD .non, q.2)
theorem de_get1 {o e : Expr} {fo fk : F} {apos cpos : Pos} {k : Nat} (g : GX X k) (ho : DE X o fo) (he : DE X e fk) (m : M1 X o "get" apos e cpos) : DE X (.Call (.Attribute o "get" apos) [e] [] cpos) (fGet1 fo fk) :=
  weakE (pe_dget1 (hu_of g.room) ho he m) fun σ H Q hh => by
  obtain ⟨r, env, st, d, st', he, hs, hf, q⟩ := hh
  obtain ⟨⟨x, s1⟩, h1, hf1⟩ := Option.bind_eq_some_iff.mp hf
  obtain ⟨ks, h2, hf2⟩ := Option.bind_eq_some_iff.mp hf1
  obtain ⟨⟨y, s2⟩, h3, hf3⟩ := Option.bind_eq_some_iff.mp hf2
  obtain ⟨kk, h4, hf4⟩ := Option.bind_eq_some_iff.mp hf3
  obtain ⟨kvs, h5, hf5⟩ := Option.map_eq_some_iff.mp hf4
  cases hf5
  refine ⟨r, env, st, x, s1, he, hs, h1, fun u r1 H1 e1 q1 p1 => ?_⟩
  obtain ⟨a, xs, rfl, rd, l⟩ := dctRd p1 q1 h2
  refine ⟨a, rfl, .inl ⟨xs, rd⟩, r1, env, s1, y, _, he.ext e1, q1, h3, fun v r2 H2 e2 q2 p2 => ?_⟩
  obtain ⟨a', ys, ea, rd2, l2⟩ := dctRd (p1.ext e2) q2 h5
  cases ea
  have ev := asKey_rep p2 h4
  subst ev
  refine ⟨_, dget_rd rd2, ?_⟩
  rcases l2.opt (k := kk) with ⟨n1, n2⟩ | ⟨d, v, n1, n2, rv⟩
  · rw [n2]
    rw [n1] at q
    exact q .non r2 H2 (e1.trans e2) q2 .non
  · rw [n2]
    rw [n1] at q
    exact q v r2 H2 (e1.trans e2) q2 rv
def fGet2 (fo fk fx : F) : F := fun env st => (fo env st).bind fun p => (dctAt p.1 p.2).bind fun _ => (fk env p.2).bind fun q => (asKey q.1).bind fun k => (fx env q.2).bind fun w => (dctAt p.1 w.2).map fun kvs => ((valD kvs k).getD w.1, w.2)
theorem de_get2 {o e f : Expr} {fo fk fx : F} {apos cpos : Pos} {k : Nat} (g : GX X k) (ho : DE X o fo) (he : DE X e fk) (hx : DE X f fx) (m : M2 X o "get" apos e f cpos) : DE X (.Call (.Attribute o "get" apos) [e, f] [] cpos) (fGet2 fo fk fx) :=
  weakE (pe_dget2 (hu_of g.room) ho he hx m) fun σ H Q hh => by
  obtain ⟨r, env, st, d, st', he, hs, hf, q⟩ := hh
  obtain ⟨⟨x, s1⟩, h1, hf1⟩ := Option.bind_eq_some_iff.mp hf
  obtain ⟨ks, h2, hf2⟩ := Option.bind_eq_some_iff.mp hf1
  obtain ⟨⟨y, s2⟩, h3, hf3⟩ := Option.bind_eq_some_iff.mp hf2
  obtain ⟨kk, h4, hf4⟩ := Option.bind_eq_some_iff.mp hf3
  obtain ⟨⟨z, s3⟩, h6, hf6⟩ := Option.bind_eq_some_iff.mp hf4
  obtain ⟨kvs, h5, hf5⟩ := Option.map_eq_some_iff.mp hf6
  cases hf5
  refine ⟨r, env, st, x, s1, he, hs, h1, fun u r1 H1 e1 q1 p1 => ?_⟩
  obtain ⟨a, xs, rfl, rd, l⟩ := dctRd p1 q1 h2
  refine ⟨a, rfl, .inl ⟨xs, rd⟩, r1, env, s1, y, s2, he.ext e1, q1, h3, fun v r2 H2 e2 q2 p2 => ⟨r2, env, s2, z, _, (he.ext e1).ext e2, q2, h6, fun w r3 H3 e3 q3 p3 => ?_⟩⟩
  obtain ⟨a', ys, ea, rd2, l2⟩ := dctRd ((p1.ext e2).ext e3) q3 h5
  cases ea
  have ev := asKey_rep p2 h4
  subst ev
  refine ⟨_, dget_rd rd2, ?_⟩
  rcases l2.opt (k := kk) with ⟨n1, n2⟩ | ⟨d, v, n1, n2, rv⟩
  · rw [n2]
    rw [n1] at q
    exact q w r3 H3 ((e1.trans e2).trans e3) q3 p3
  · rw [n2]
    rw [n1] at q
    exact q v r3 H3 ((e1.trans e2).trans e3) q3 rv
def fInD (neg : Bool) (fk fo : F) : F := fun env st => (fk env st).bind fun q => (asKey q.1).bind fun k => (fo env q.2).bind fun p => (dctAt p.1 p.2).map fun kvs => (.bl (if neg = true then !(valD kvs k).isSome else (valD kvs k).isSome), p.2)
theorem inD_reads {neg : Bool} {fk fo : F} {R : VK → Option V → Hp → Prop} (hR : ∀ Q o H, Q (.bl (if neg = true then !o.isSome else o.isSome)) H → R Q o H) (σ : L2.St) (H : Hp) (Q : VK) (h : tD K (fInD neg fk fo) σ H Q) :
    tD K fk σ H fun y H1 => tD K fo σ H1 fun x H2 => ∃ a o, x = .ref a ∧ DGet H2 a y o ∧ R Q o H2 := by
  obtain ⟨r, env, st, d, st', he, hs, hf, q⟩ := h
  obtain ⟨⟨y, s1⟩, h1, hf1⟩ := Option.bind_eq_some_iff.mp hf
  obtain ⟨kk, h4, hf4⟩ := Option.bind_eq_some_iff.mp hf1
  obtain ⟨⟨x, s2⟩, h3, hf3⟩ := Option.bind_eq_some_iff.mp hf4
  obtain ⟨kvs, h5, hf5⟩ := Option.map_eq_some_iff.mp hf3
  cases hf5
  refine two he hs h1 h3 fun u v r' H' e1 q1 pu pv => ?_
  obtain ⟨a, xs, rfl, rd, l⟩ := dctRd pv q1 h5
  have ev := asKey_rep pu h4
  subst ev
  refine ⟨a, _, rfl, dget_rd rd, hR _ _ _ ?_⟩
  have same : (valV xs kk).isSome = (valD kvs kk).isSome := by
    rcases l.opt (k := kk) with ⟨n1, n2⟩ | ⟨d, v, n1, n2, rv⟩
    · rw [n1, n2]; rfl
    · rw [n1, n2]; rfl
  rw [same]
  exact q _ r' H' e1 q1 (.bl _)
theorem de_inD {a b : Expr} {fa fb : F} {pos : Pos} {k : Nat} (g : GX X k) (ha : DE X a fa) (hb : DE X b fb) (hm : behindInMarks .In b = false := by with_unfolding_all rfl) : DE X (.Compare a [.In] [b] pos) (fInD false fa fb) :=
  weakE (pe_cmp (pc_din (hu_of g.room) ha hb) hm) fun σ H Q h => inD_reads (fun Q o H h => h) σ H Q h
theorem de_notinD {a b : Expr} {fa fb : F} {pos : Pos} {k : Nat} (g : GX X k) (ha : DE X a fa) (hb : DE X b fb) (hm : behindInMarks .NotIn b = false := by with_unfolding_all rfl) : DE X (.Compare a [.NotIn] [b] pos) (fInD true fa fb) :=
  weakE (pe_cmp (pc_dnotin (hu_of g.room) ha hb) hm) fun σ H Q h => inD_reads (fun Q o H h => h) σ H Q h
theorem dt_inD {a b : Expr} {fa fb : F} {pos : Pos} {k : Nat} (g : GX X k) (ha : DE X a fa) (hb : DE X b fb) (hm : behindInMarks .In b = false := by with_unfolding_all rfl) : DT X (.Compare a [.In] [b] pos) (fTest (fInD false fa fb)) :=
  weakT (pt_cmp (pc_din (hu_of g.room) ha hb) hm) fun σ H Q h => inD_reads (fun Q o H h => h) σ H (fun x H1 => ∃ c, x = .bl c ∧ Q c H1) (testReads σ H Q h)
theorem dt_notinD {a b : Expr} {fa fb : F} {pos : Pos} {k : Nat} (g : GX X k) (ha : DE X a fa) (hb : DE X b fb) (hm : behindInMarks .NotIn b = false := by with_unfolding_all rfl) : DT X (.Compare a [.NotIn] [b] pos) (fTest (fInD true fa fb)) :=
  weakT (pt_cmp (pc_dnotin (hu_of g.room) ha hb) hm) fun σ H Q h => inD_reads (fun Q o H h => h) σ H (fun x H1 => ∃ c, x = .bl c ∧ Q c H1) (testReads σ H Q h)
/-! ### {} into the store -/
def fNewD : F := fun _ st => some (.ref st.length, st ++ [.dct []])
theorem de_newD {pos : Pos} : DE X (.Dict [] [] pos) fNewD := weakE pe_dnewK fun σ H Q hh => by
  obtain ⟨r, env, st, d, st', he, hs, hf, q⟩ := hh
  cases hf
  intro p hp
  obtain ⟨e0, hd0⟩ := hideNew (o := .dK []) hs hp
  have ee : ObR X.K ((r.hide p).add p) (upd (upd H p (.dK [])) p (.dK [])) p (.dct []) := ⟨hd0.av, [], upd_same, .nil⟩
  obtain ⟨w1, w2, w3⟩ := hd0.add (o := .dK []) (ob := .dct []) e0 hs hp ee
  have key := q (.ref p) _ _ w1 w2 (w3 _ rfl)
  rw [upd_upd] at key
  exact key
/-! ### d.pop(k, x) -/
def fPop2 (fo fk fx : F) : F := fun env st => (fo env st).bind fun p => (dctAt p.1 p.2).bind fun _ => (fk env p.2).bind fun q => (asKey q.1).bind fun k => (fx env q.2).bind fun w => match p.1 with
  | .ref n => (match w.2[n]? with
    | some (.dct kvs) => (match valD kvs k with | some d => some (d, w.2.set n (.dct (dropD kvs k))) | none => some (w.1, w.2))
    | _ => none)
  | _ => none
theorem de_pop2 {o e f : Expr} {fo fk fx : F} {apos cpos : Pos} (ho : DE X o fo) (he : DE X e fk) (hx : DE X f fx) (m : M2 X o "pop" apos e f cpos) : DE X (.Call (.Attribute o "pop" apos) [e, f] [] cpos) (fPop2 fo fk fx) :=
  weakE (pe_dpop2 ho he hx m) fun σ H Q hh => by
  obtain ⟨r, env, st, d, st', he, hs, hf, q⟩ := hh
  obtain ⟨⟨x, s1⟩, h1, hf1⟩ := Option.bind_eq_some_iff.mp hf
  obtain ⟨ks, h2, hf2⟩ := Option.bind_eq_some_iff.mp hf1
  obtain ⟨⟨y, s2⟩, h3, hf3⟩ := Option.bind_eq_some_iff.mp hf2
  obtain ⟨kk, h4, hf4⟩ := Option.bind_eq_some_iff.mp hf3
  obtain ⟨⟨z, s3⟩, h6, hf6⟩ := Option.bind_eq_some_iff.mp hf4
  cases x with
  | ref n =>
    have hf7 : (match s3[n]? with | some (.dct kvs) => (match valD kvs kk with | some d => some (d, s3.set n (.dct (dropD kvs kk))) | none => some (z, s3)) | _ => none) = some (d, st') := hf6
    split at hf7
    · rename_i kvs hst
      refine ⟨r, env, st, _, s1, he, hs, h1, fun u r1 H1 e1 q1 p1 => ?_⟩
      obtain ⟨a, xs, rfl, rd, l⟩ := dctRd p1 q1 h2
      refine ⟨a, rfl, .inl ⟨xs, rd⟩, r1, env, s1, y, s2, he.ext e1, q1, h3, fun v r2 H2 e2 q2 p2 => ⟨r2, env, s2, z, s3, (he.ext e1).ext e2, q2, h6, fun w r3 H3 e3 q3 p3 => ?_⟩⟩
      obtain ⟨a', ea, ha⟩ := ((p1.ext e2).ext e3).refI
      cases ea
      obtain ⟨av, ys, hx, l2⟩ := q3.ob _ a _ ha hst
      have ev := asKey_rep p2 h4
      subst ev
      refine ⟨ys, kk, hx, rfl, fun v hv => ?_, fun hv => ?_⟩
      · rcases l2.opt (k := kk) with ⟨n1, n2⟩ | ⟨d', v', n1, n2, rv⟩
        · rw [n2] at hv; cases hv
        · rw [n2] at hv
          cases hv
          rw [n1] at hf7
          cases hf7
          have ee : Ex r3 H3 r3 (upd H3 a (.dK (dropK ys kk))) := ⟨⟨[], by simp⟩, fun b o w m => by rw [upd_ne (fun y => m (by rw [y]; exact av))]; exact w, fun b w m => absurd w m⟩
          obtain ⟨w1, w2⟩ := q3.set (o := .dK (dropK ys kk)) (ob := .dct (dropD kvs kk)) ha av ⟨av, _, upd_same, (l2.drop).ex ee⟩ (fun _ _ z => by rw [hx] at z; cases z)
          exact q v r3 _ (((e1.trans e2).trans e3).trans w1) w2 (rv.ext w1)
      · rcases l2.opt (k := kk) with ⟨n1, n2⟩ | ⟨d', v', n1, n2, rv⟩
        · rw [n1] at hf7
          cases hf7
          exact q w r3 H3 ((e1.trans e2).trans e3) q3 p3
        · rw [n2] at hv; cases hv
    · cases hf7
  | _ => cases hf6
/-! ### a dict of the store becomes a value, for good -/
theorem frz_sim {r : Rf} {H : Hp} {st : Store} (s : Sim K r H st) {n : Nat} {a : Addr} {xs : List (Key × V)} {kvs : List (Key × D)} (o : Obj) (ha : r.adr[n]? = some a) (hx : H a = some (.dK xs)) (l : RepK K r H xs kvs) (av : r.av a) :
    Ext r H (r.drop a) (upd H a (.frz o (.dK xs))) ∧ Sim K (r.drop a) (upd H a (.frz o (.dK xs))) (st.set n .dead) ∧ Rep K (r.drop a) (upd H a (.frz o (.dK xs))) (.ref a) (.dct kvs) := by
  have hm := List.mem_of_getElem? ha
  have nlk : ∀ q, r.lk q → q ≠ a := fun q z y => by
    obtain ⟨o, u, h⟩ := s.lkd q z
    rw [y, hx] at h
    cases h
  have e : Ext r H (r.drop a) (upd H a (.frz o (.dK xs))) := ⟨⟨⟨[], by simp [Rf.drop]⟩, fun b u h n => by rw [upd_ne (fun y => n (by rw [y]; exact av))]; exact h, fun b h n => absurd h.1 n⟩, fun b v n => ⟨by rw [upd_ne (fun y => n (by rw [y]; exact hm))], ⟨v, fun y => n (by rw [y]; exact hm)⟩, n⟩, fun _ => Iff.rfl, fun b z => by rw [upd_ne (nlk b z)]⟩
  refine ⟨e, ⟨by rw [List.length_set]; exact s.len, s.nd, fun m b x h1 h2 => ?_, fun b v => ?_, fun b v => ?_, fun b v => by rw [upd_ne (nlk b v)]; exact s.lkd b v⟩, .dct upd_same (fun z => z.2 rfl) (l.ext e)⟩
  · by_cases z : n = m
    · subst z
      by_cases hl : n < st.length
      · rw [List.getElem?_set_self hl] at h2
        cases h2
        trivial
      · rw [List.getElem?_eq_none (by rw [List.length_set]; omega)] at h2
        cases h2
    · rw [List.getElem?_set_ne z] at h2
      have nb : b ≠ a := fun y => z (by
        subst y
        obtain ⟨l1, e1⟩ := List.getElem?_eq_some_iff.mp ha
        obtain ⟨l2, e2⟩ := List.getElem?_eq_some_iff.mp h1
        exact (List.getElem_inj s.nd).mp (e1.trans e2.symm))
      exact (s.ob m b x h1 h2).ex e.toEx fun v => ⟨by rw [upd_ne nb], v, nb⟩
  · by_cases z : b = a
    · exact ⟨_, by rw [z]; exact upd_same⟩
    · rw [upd_ne z]; exact s.there b v.1
  · by_cases z : b = a
    · exact ⟨_, by rw [z]; exact upd_same⟩
    · rw [upd_ne z]; exact s.old b v
def fFrz (f : F) : F := fun env st => (f env st).bind fun p => match p.1 with
  | .ref n => (match p.2[n]? with | some (.dct kvs) => some (.dct kvs, p.2.set n .dead) | _ => none)
  | _ => none
theorem de_frz {e : Expr} {f : F} (h : DE X e f) : DE X e (fFrz f) := weakE (pe_frz h) fun σ H Q hh => by
  obtain ⟨r, env, st, d, st', he, hs, hf, q⟩ := hh
  obtain ⟨⟨x, s1⟩, h1, h2⟩ := Option.bind_eq_some_iff.mp hf
  cases x with
  | ref n =>
    have h2' : (match s1[n]? with | some (.dct kvs) => some (D.dct kvs, s1.set n .dead) | _ => none) = some (d, st') := h2
    split at h2'
    · rename_i kvs hst
      cases h2'
      refine ⟨r, env, st, _, s1, he, hs, h1, fun v r1 H1 e1 q1 p1 => ?_⟩
      obtain ⟨a, rfl, ha⟩ := p1.refI
      obtain ⟨av, xs, hx, l⟩ := q1.ob _ a _ ha hst
      refine ⟨a, _, rfl, hx, trivial, fun o => ?_⟩
      obtain ⟨w1, w2, w3⟩ := frz_sim q1 o ha hx l av
      exact q _ _ _ (e1.trans w1) w2 w3
    · cases h2'
  | _ => cases h2
/-- the dict in slot i, ahead of a statement -/
theorem ps_frz {s : Stmt} {t : TS} (h : PS X s t) : PS X s (fun D σ H => ∃ d u, H d = some u ∧ Mut (some u) ∧ ∀ o, t D σ (upd H d (.frz o u))) := by
  refine ⟨fun pins s σ H D I hw => ?_⟩
  obtain ⟨d, u, hd, mu, q⟩ := hw
  obtain ⟨od, I2⟩ := I.lock hd mu
  exact h.run pins s σ _ D I2 (q od)
def sFrzV (i : Nat) : FS := fun env st => match env[i]? with
  | some (some (.ref n)) => (match st[n]? with | some (.dct kvs) => some (.nx, env.set i (some (.dct kvs)), st.set n .dead) | _ => none)
  | _ => none
theorem ds_frzV (i : Nat) {s : Stmt} {g : FS} (h : DS X W s g) : DS X W s (sSeq (sFrzV i) g) := weakS (ps_frz h) fun D' σ H hh => by
  obtain ⟨r, env, st, o, env', st', he, hs, hf, q⟩ := hh
  obtain ⟨⟨o1, e1, s1⟩, h1, h2⟩ := Option.bind_eq_some_iff.mp hf
  unfold sFrzV at h1
  split at h1
  · rename_i n hn
    split at h1
    · rename_i kvs hst
      cases h1
      obtain ⟨v, hv, rv⟩ := he.at_ i _ hn
      obtain ⟨a, rfl, ha⟩ := rv.refI
      obtain ⟨av, xs, hx, l⟩ := hs.ob _ a _ ha hst
      refine ⟨a, _, hx, trivial, fun ob => ?_⟩
      obtain ⟨w1, w2, w3⟩ := frz_sim hs ob ha hx l av
      have he2 := (he.ext w1).set w3 i
      have es : σ.set i (some (V.ref a)) = σ := by
        refine List.ext_getElem? fun j => ?_
        by_cases z : i = j
        · subst z
          rw [List.getElem?_set_self (List.getElem?_eq_some_iff.mp hv).1, hv]
        · rw [List.getElem?_set_ne z]
      rw [es] at he2
      exact ⟨_, _, _, o, env', st', he2, w2, h2, q.ext w1⟩
    · cases h1
  · cases h1
/-! ### for k in d, for k, v in d.items(), d a value -/
def asKeys : D → Option (List D) | .dct kvs => some (kvs.map fun kv => keyD kv.1) | _ => none
theorem di_keys {f : F} (h : DE X iter f) : DI X tg iter (iOf asKeys f) := weakI (pi_keys h) fun σ H R hh => by
  obtain ⟨r, env, st, ds, st', he, hs, hf, q⟩ := hh
  obtain ⟨d, h1, h2⟩ := iOf_some hf
  refine ⟨r, env, st, d, st', he, hs, h1, fun v r1 H1 e1 q1 p1 => ?_⟩
  cases d with
  | dct kvs =>
    cases h2
    cases p1 with
    | dct a b c =>
      rename_i p o xs
      refine ⟨p, o, rfl, .inl ⟨xs, a, q _ r1 H1 e1 q1 fun r2 H2 st2 e2 s2 => ?_⟩⟩
      have a2 := e2.keep _ _ a b
      refine ⟨fun i hi => ⟨a2, by rw [c.len]; simpa using hi⟩, fun i d hd => ?_⟩
      rw [List.getElem?_map] at hd
      obtain ⟨⟨k, e⟩, hk, rfl⟩ := Option.map_eq_some_iff.mp hd
      obtain ⟨v, hv, rv⟩ := c.get hk
      refine ⟨⟨a2, (List.getElem?_eq_some_iff.mp hv).1⟩, fun x H3 ⟨eH, k', v', hk', ex⟩ => ?_⟩
      subst eH
      rw [hv] at hk'
      cases hk'
      subst ex
      exact ⟨r2, .refl _ _, s2, keyD_rep k⟩
  | _ => cases h2
def asItems : D → Option (List D) | .dct kvs => some (kvs.map fun kv => .tup [keyD kv.1, kv.2]) | _ => none
theorem di_items {e : Expr} {f : F} {elts : List Expr} {kk : Nat} {tpos apos cpos : Pos} (h : DE X e f) (hbase : attributeBase e "items" X.env (eval e X.env) = eval e X.env := by rfl) (hline : (apos.endLine == cpos.line) = true := by rfl) :
    DIR X (RepI X.K) (.Tuple elts kk tpos) (.Call (.Attribute e "items" apos) [] [] cpos) (iOf asItems f) := weakI (pi_items h hbase hline) fun σ H R hh => by
  obtain ⟨r, env, st, ds, st', he, hs, hf, q⟩ := hh
  obtain ⟨d, h1, h2⟩ := iOf_some hf
  refine ⟨r, env, st, d, st', he, hs, h1, fun v r1 H1 e1 q1 p1 => ?_⟩
  cases d with
  | dct kvs =>
    cases h2
    cases p1 with
    | dct a b c =>
      rename_i p o xs
      refine ⟨p, o, xs, rfl, a, q _ r1 H1 e1 q1 fun r2 H2 st2 e2 s2 => ?_⟩
      have a2 := e2.keep _ _ a b
      have c2 := c.ext e2
      refine ⟨fun i hi => ⟨a2, by rw [c.len]; simpa using hi⟩, fun i d hd => ?_⟩
      rw [List.getElem?_map] at hd
      obtain ⟨⟨k, e⟩, hk, rfl⟩ := Option.map_eq_some_iff.mp hd
      obtain ⟨v, hv, rv⟩ := c2.get hk
      refine ⟨⟨a2, (List.getElem?_eq_some_iff.mp hv).1⟩, fun x H3 ⟨T, k', v', hk', ex, hT, eH⟩ => ?_⟩
      subst eH
      rw [hv] at hk'
      cases hk'
      subst ex
      have sm : Same H2 (upd H2 T (.tup [kV k, v])) := same_alloc hT
      exact ⟨r2, s2.ext sm, s2.same sm, T, _, _, rfl, rfl, .inl (.inl upd_same), .cons (keyD_rep k) (.cons (rv.ext (s2.ext sm)) .nil)⟩
  | _ => cases h2
end
end DL
/-! t[::-1], xs[::-1]. -/
namespace DL
open PySem PySem.Spec PyProof.Rows L2 HT
section
variable {prog : Program} {w : World} {A : Around} {E : Value → Shared → Prop} {s : Shared}
theorem sliceApplied_rev {sl : Addr} {vs : Value} {n : Nat} {Q : Int × Int × Nat → Shared → Prop} (hs : s.heap.IsSliceOf sl .none .none vs) (ps : IsPart vs (some (-1)))
    (h : Q ((n : Int) - 1, -1, n) s) : wpAny (model prog w) A (Builtin.Slice.sliceApplied (.ref sl) (pure (n : Int))) Q E s := by
  obtain ⟨os, hos, hcs, hds⟩ := id hs
  unfold Builtin.Slice.sliceApplied Builtin.Slice.sliceFields
  refine wpAny_bind (wpAny_bind (wpAny_field hos hds (x := .none) rfl (wpAny_bind (wpAny_field hos hds (x := .none) rfl (wpAny_bind (wpAny_field hos hds (x := vs) rfl (wpAny_pure ?_)))))))
  refine wpAny_bind (slicePart_ ps ?_)
  show wpAny _ _ (if ((-1 : Int) == 0) = true then _ else _) _ _ s
  rw [if_neg (by decide)]
  refine wpAny_bind (slicePart_none (wpAny_bind (slicePart_none (wpAny_bind (wpAny_pure ?_)))))
  show wpAny _ _ (pure ((n : Int) - 1, (-1 : Int), Builtin.Slice.slicePlaces ((n : Int) - 1) (-1) (-1))) _ _ s
  have e : Builtin.Slice.slicePlaces ((n : Int) - 1) (-1) (-1) = n := by
    unfold Builtin.Slice.slicePlaces
    rw [if_neg (show ¬ (-1 : Int) > 0 by decide)]
    by_cases h : (n : Int) - 1 > -1
    · rw [if_pos h, show (- -1 : Int) = 1 by decide, Int.ediv_one]
      omega
    · rw [if_neg h]
      omega
  rw [e]
  exact wpAny_pure h
theorem fm_congr {α β : Type} {f g : α → Option β} : ∀ {l : List α}, (∀ x ∈ l, f x = g x) → l.filterMap f = l.filterMap g
  | [], _ => rfl
  | x :: l, h => by rw [List.filterMap_cons, List.filterMap_cons, h x List.mem_cons_self, fm_congr fun y hy => h y (List.mem_cons_of_mem _ hy)]
theorem pick_rev (xs : Array Value) : ((List.range xs.size).filterMap fun (m : Nat) => xs[(((xs.size : Int) - 1) + (m : Int) * (-1)).toNat]?).toArray = xs.toList.reverse.toArray := by
  have e : ((List.range xs.size).filterMap fun (m : Nat) => xs[(((xs.size : Int) - 1) + (m : Int) * (-1)).toNat]?) = (((List.range xs.size).map fun k => xs.size - 1 - k).filterMap (xs[·]?)) := by
    rw [List.filterMap_map]
    refine fm_congr fun m hm => ?_
    have := List.mem_range.mp hm
    have e2 : (((xs.size : Int) - 1) + (m : Int) * (-1)).toNat = xs.size - 1 - m := by omega
    show xs[(((xs.size : Int) - 1) + (m : Int) * (-1)).toNat]? = xs[xs.size - 1 - m]?
    rw [e2]
  rw [e, PySem.W.krv_range, List.filterMap_reverse, PySem.W.krv_all]
theorem getItem_tuple_rev {t sl : Addr} {items : Array Value} {vs : Value} {Q : Value → Shared → Prop} (ht : IsTup s.heap t items) (hs : s.heap.IsSliceOf sl .none .none vs) (ps : IsPart vs (some (-1)))
    (h : Q (.ref s.heap.objs.size) { s with heap := s.heap.push { cls := .type "tuple", data := .seq items.toList.reverse.toArray } })
    (hsz : items.size ≤ sizeLine) : wpAny (model prog w) A (getItem (.ref t) (.ref sl)) Q E s := by
  have htake : sizeOk (.seq items.toList.reverse.toArray) := by
    show items.toList.reverse.toArray.size ≤ sizeLine
    rw [List.size_toArray, List.length_reverse, Array.length_toList]
    exact hsz
  obtain ⟨os, hos, hcs, hds⟩ := id hs
  have hTs : s.TypeIs (.ref sl) "slice" := ⟨os, hos, hcs⟩
  unfold getItem
  try with_reducible refine wpAny_holding ?_
  first | refine wpAny_bind (wpAny_pure ?_) | skip
  refine wpAny_bind (wpAny_sequenceKey ht.typeIs (by decide) ?_)
  refine wpAny_bind (wpAny_callSpecial?_slot (name := Str.ofString "__getitem__") ht.typeIs PyProof.Rows.slot_tuple_getitem
    (wpAny_call_entry PyProof.Rows.slot_tuple_getitem ht.typeIs entry_tuple_getitem ?_ (args_tuple_getitem _ _)))
  show wpAny _ _ (Builtin.Tuple.tupleItemsOf (.ref t) >>= _) _ _ s
  refine wpAny_bind (tupleItemsOf_ ht ?_)
  refine wpAny_bind (wpAny_typeOf hTs ?_)
  rw [if_pos (by decide)]
  refine wpAny_bind (sliceApplied_rev hs ps ?_)
  have hno : ¬ ((((items.size : Int) - 1) == 0 && (-1 : Int) == 1 && items.size == items.size) = true) := by
    intro q
    rw [Bool.and_eq_true, Bool.and_eq_true] at q
    exact absurd q.1.2 (by decide)
  show wpAny _ _ (if (((items.size : Int) - 1) == 0 && (-1 : Int) == 1 && items.size == items.size) = true then _ else _) _ _ s
  rw [if_neg hno, pick_rev]
  first
    | exact wpAny_bind (m := Builtin.Tuple.tupleExact _) (wpAny_newObj_type (wpAny_pure ⟨_, rfl, wpAny_pure h⟩) htake)
    | exact wpAny_bind (m := Builtin.Tuple.tupleExact _) (wpAny_newObj_type (wpAny_bind (wpAny_pure (wpAny_pure ⟨_, rfl, wpAny_pure h⟩))) htake)
    | exact wpAny_bind (wpAny_bind (m := Builtin.Tuple.tupleExact _) (wpAny_newObj_type (wpAny_pure (wpAny_pure ⟨_, rfl, wpAny_pure h⟩)) htake))
    | exact wpAny_bind (wpAny_bind (m := Builtin.Tuple.tupleExact _) (wpAny_newObj_type (wpAny_pure ⟨_, rfl, wpAny_pure h⟩) htake))
end
section
variable {X : Cx}
def tRevT (K : PySem.W.Frag) (te : TE) : TE := fun σ H Q => te σ H fun x H1 => ∃ a xs, x = .ref a ∧ SqT K H1 a xs ∧ Fz Q H1 xs.reverse
theorem pe_revT {e : Expr} {te : TE} {k : Nat} {p1 p2 p3 pos : Pos} (he : PE X e te) : PE X (.Subscript e (.Slice none none (some (.UnaryOp .USub (.Constant (.int 1) k p1) p2)) p3) pos) (tRevT X.K te) := by
  refine ⟨fun pins s σ H Q I h => ?_⟩
  refine Subscript_ (thn (he.run pins s σ H _ I h) fun v s1 ⟨x, H1, I1, r1, q1⟩ => ?_)
  obtain ⟨a, xs, ex, hx, q⟩ := q1
  subst ex
  cases r1
  have hst : PO X (some (.UnaryOp .USub (.Constant (.int 1) k p1) p2)) (tPart (tUn (rU fun i => .int (-i)) (tC (.int 1)))) := po_some (pe_un un_neg pe_int)
  refine wpAny_Slice (thn (po_none.run pins s1 σ H1 (fun o H2 => o = none ∧ H2 = H1) I1 ⟨rfl, rfl⟩) fun vl s2 ⟨l, H2, I2, pl, el, e2⟩ => ?_)
  subst el e2
  refine thn (po_none.run pins s2 σ H2 (fun o H3 => o = none ∧ H3 = H2) I2 ⟨rfl, rfl⟩) fun vu s3 ⟨u, H3, I3, pu, eu, e3⟩ => ?_
  subst eu e3
  refine thn (hst.run pins s3 σ H3 (fun o H4 => o = some (-1) ∧ H4 = H3) I3 ⟨1, rfl, -1, rfl, rfl, rfl⟩) fun vs s4 ⟨o, H4, I4, ps, eo, e4⟩ => ?_
  subst eo e4
  have I5 : Inv X pins σ H4 { s4 with heap := s4.heap.push { cls := .type "slice", data := .fields #[vl, vu, vs] } } := I4.kept (t' := s4.toks) fun b ob q => Heap.get?_push_of_some _ q
  obtain ⟨its, r, ht, hz⟩ := I5.tuple hx
  have hlen := r.length
  cases pl
  cases pu
  show wpAny (model X.prog X.w) X.A (subscriptTail e (.Slice none none (some (.UnaryOp .USub (.Constant (.int 1) k p1) p2)) p3) (.ref a) (.ref s4.heap.objs.size)) (EP X pins σ Q) X.xe { s4 with heap := s4.heap.push { cls := .type "slice", data := .fields #[.none, .none, vs] } }
  refine tail_any (ops := [.ref a, .ref s4.heap.objs.size]) ht.typeIs (PyProof.Rows.slot_tuple_getitem.lookup) ?_ (by with_unfolding_all rfl)
  refine getItem_tuple_rev ht (Heap.IsSliceOf.new _ .none .none vs) ps ?_ (by rw [List.size_toArray]; omega)
  rw [show its.toArray.toList.reverse.toArray = its.reverse.toArray from rfl]
  exact laidF (t' := s4.toks) I5 r.reverse (by rw [List.length_reverse]; exact hz) q
/-- t[::-1], xs[::-1] -/
def revD : D → Option D | .tup ds => some (.tup ds.reverse) | _ => none
theorem RepL.reverse {r : Rf} {H : Hp} {K : PySem.W.Frag} : ∀ {vs : List V} {ds : List D}, RepL K r H vs ds → RepL K r H vs.reverse ds.reverse
  | _, _, .nil => .nil
  | _, _, .cons a b => by rw [List.reverse_cons, List.reverse_cons]; exact (RepL.reverse b).append (.cons a .nil)
def fRevT (f : F) : F := fun env st => (f env st).bind fun p => match p.1 with | .tup ds => some (.tup ds.reverse, p.2) | _ => none
theorem de_revT {e : Expr} {f : F} {k : Nat} {p1 p2 p3 pos : Pos} (he : DE X e f) : DE X (.Subscript e (.Slice none none (some (.UnaryOp .USub (.Constant (.int 1) k p1) p2)) p3) pos) (fRevT f) := weakE (pe_revT he) fun σ H Q hh => by
  obtain ⟨r, env, st, d, st', he, hs, hf, q⟩ := hh
  obtain ⟨⟨x, s1⟩, h1, h2⟩ := Option.bind_eq_some_iff.mp hf
  cases x with
  | tup ds =>
    cases h2
    refine ⟨r, env, st, _, _, he, hs, h1, fun v r1 H1 e1 q1 p1 => ?_⟩
    obtain ⟨a, xs, rfl, sq, l⟩ := p1.sqT
    refine ⟨a, xs, rfl, sq, fun p o hp hz => ?_⟩
    exact q _ r1 _ (e1.trans (q1.ext (same_alloc hp))) (q1.same (same_alloc hp)) (fresh_tup q1 hp hz l.reverse)
  | _ => cases h2
/-- xs[::-1] of a list by value or of the store: a new list by value -/
def lstAt : D → Store → Option (List D) := fun d st => match d with
  | .lst ds => some ds
  | .scr ns => some (ns.map D.int)
  | .ref n => (match st[n]? with | some (.lst ds) => some ds | _ => none)
  | _ => none
theorem lstRd {r : Rf} {H : Hp} {v : V} {d : D} {st : Store} {ds : List D} {K : PySem.W.Frag} (h : Rep K r H v d) (si : Sim K r H st) (e : lstAt d st = some ds) : ∃ a xs, v = .ref a ∧ SqL K H a xs ∧ RepL K r H xs ds := by
  unfold lstAt at e
  split at e
  · cases e
    exact h.sqLv
  · cases e
    obtain ⟨a, rfl, h2⟩ := h.scrL
    exact ⟨a, _, rfl, h2, .ofInts _⟩
  · rename_i n
    split at e
    · rename_i es hst
      cases e
      obtain ⟨a, rfl, ha⟩ := h.refI
      obtain ⟨av, xs, hx, l⟩ := si.ob _ a _ ha hst
      exact ⟨a, xs, rfl, .of hx, l⟩
    · cases e
  · cases e
def fRevL (f : F) : F := fun env st => (f env st).bind fun p => (lstAt p.1 p.2).map fun ds => (.lst ds.reverse, p.2)
theorem de_revL {e : Expr} {f : F} {k : Nat} {p1 p2 p3 pos : Pos} (he : DE X e f) : DE X (.Subscript e (.Slice none none (some (.UnaryOp .USub (.Constant (.int 1) k p1) p2)) p3) pos) (fRevL f) := weakE (pe_revL he) fun σ H Q hh => by
  obtain ⟨r, env, st, d, st', he, hs, hf, q⟩ := hh
  obtain ⟨⟨x, s1⟩, h1, h2⟩ := Option.bind_eq_some_iff.mp hf
  obtain ⟨ds, h3, h4⟩ := Option.map_eq_some_iff.mp h2
  cases h4
  refine ⟨r, env, st, _, _, he, hs, h1, fun v r1 H1 e1 q1 p1 => ?_⟩
  obtain ⟨a, xs, rfl, sq, l⟩ := lstRd p1 q1 h3
  exact ⟨a, xs, rfl, sq, fun p hp => q _ r1 _ (e1.trans (q1.ext (same_alloc hp))) (q1.same (same_alloc hp)) (fresh_lst q1 hp l.reverse)⟩
end
end DL
/-! o.m(), len(o) by an own __len__. -/
namespace DL
open PySem PySem.Spec PyProof.Rows L2 TL
section
variable {X : Cx} {W : WXd}
variable {k : Nat} {f C : Addr} {fd : FuncData} {ps : List Str} {mm : FM} {c m : Str} {apos pos : Pos} {o e : Expr} {es : List Expr}
/-- o.m() -/
def fMeth0 (c m : Str) (mm : FM) (fo : F) : F := fun env st => (fo env st).bind fun p => match p.1 with
  | .ref n => if noF m (insAt c n p.2) = true then mm [.ref n] p.2 else none
  | _ => none
theorem de_meth0 {pl : Sem Bool} (hc : ClsAt X.K c C) (hm : Meth X.K C m f) (Fd : FnD X.prog X.w X.K X.mg X.base k f fd ps mm) (gx : GX X k) (hb : Binds X.K fd ps []) {fo : F} (ho : DE X o fo) (hl : 1 = ps.length := by rfl)
    (ht : eval (.Call (.Attribute o m apos) [] [] pos) X.env = (do let ov ← eval o X.env; standAt apos.atName; let (f, first) ← holding [ov] (getMethod ov m pl); callWith pos f first (backTo pos (starEach [] X.env)) (backToKw pos (keywordEach [] X.env))) := by rfl) :
    DE X (.Call (.Attribute o m apos) [] [] pos) (fMeth0 c m mm fo) := by
  refine ⟨fun pins s σ H Q I h => ?_⟩
  obtain ⟨r, env, st, d, st', he', hs, hf, q⟩ := h
  obtain ⟨⟨x, s1⟩, h1, h2⟩ := Option.bind_eq_some_iff.mp hf
  cases x with
  | ref n =>
    have h2' : (if noF m (insAt c n s1) = true then mm [.ref n] s1 else none) = some (d, st') := h2
    by_cases hz : noF m (insAt c n s1) = true
    case neg => rw [if_neg hz] at h2'; cases h2'
    rw [if_pos hz] at h2'
    refine PySem.W.methodCall_KW (pl := pl) (thn (ho.run pins s σ H (fun v H1 => ∃ a r1 C' dx vs, v = .ref a ∧ r1.adr[n]? = some a ∧ H1 a = some (.ins C' dx vs) ∧ C' = C ∧ vs.lookup m = none ∧ Ext r H r1 H1 ∧ Sim X.K r1 H1 s1) I ⟨r, env, st, _, s1, he', hs, h1, fun v r1 H1 e1 q1 p1 => ?_⟩) fun u sa hq => ?_) ht
    · obtain ⟨a, rfl, hadr⟩ := p1.refI
      cases hi : insAt c n s1 with
      | none => rw [hi] at hz; cases hz
      | some fs =>
        rw [hi] at hz
        obtain ⟨av, C', dx, vs, hn', hx, nm, l⟩ := q1.ob _ a _ hadr (insAt_some hi)
        rw [hc.at_] at hn'
        cases hn'
        exact ⟨a, r1, C, dx, vs, rfl, hadr, hx, rfl, fields_none nm (Option.isNone_iff_eq_none.mp hz), e1, q1⟩
    · obtain ⟨x, H1, I1, rx, a, r1, C', dx, vs, rfl, hadr, hx, rfl, hno, e1, q1⟩ := hq
      cases rx
      refine getmeth_ok I1 hx hc.cls hm hno ?_
      exact PySem.W.callWith_K0 (first := [.ref a]) I1.kIn hm.kp (runD (us := [.ref a]) (vs := [.ref a]) Fd gx hb I1 (.cons rfl .nil) hl (.cons (.ref hadr) .nil) q1 h2' fun v r3 H3 e3 q3 p3 => q v r3 H3 (e1.trans e3) q3 p3)
  | _ => cases h2
/-- a def called within a built-in -/
theorem runD1 {pins : List (Addr × Obj)} {σ : L2.St} {H : Hp} {s : Shared} {Q : VK} {us : List Value} {vs : List V} {rho : Rf} {ds : List D} {st st' : Store} {d : D} {E : Value → Shared → Prop} (Fd : FnD X.prog X.w X.K X.mg X.base k f fd ps mm) (gx : GX X (k + 1)) (hb : Binds X.K fd ps [])
    (I : Inv X pins σ H s) (r : Vals vs us) (hl : vs.length = ps.length) (rd : RepL X.K rho H vs ds) (hs : Sim X.K rho H st) (hm : mm ds st = some (d, st')) (hq : ∀ v rho' H', Ext rho H rho' H' → Sim X.K rho' H' st' → Rep X.K rho' H' v d → Q v H') :
    wpAny (model X.prog X.w) X.A.in1 (call (.ref f) us) (EP X pins σ Q) E s := by
  have hu : us.length = ps.length := by rw [← r.length]; exact hl
  have hbt : BindsTo s fd ⟨us, []⟩ (ps.zip us) := by
    have := hb s us I.kIn (by rw [List.append_nil]; exact hu)
    rwa [List.append_nil] at this
  have e0 : Env0 X.prog X.w X.K X.mg X.base X.A.in1 X.stack s H := by
    have e := I.env0
    exact ⟨e.frames, e.mod, e.bs, e.bsz, e.funs, e.frf, e.hok, e.bare⟩
  refine wpAny_call (codeAny_mono (Fd.run X.A.in1 X.stack s H ⟨us, []⟩ us vs Q rho ds st st' d gx.gd gx.room.in1 e0 hbt r hl rd hs hm hq) fun z s' hz => ?_)
  cases z with
  | error e => exact False.elim hz
  | ok fl =>
    cases fl with
    | ret u => exact I.after hz
    | next => exact False.elim hz
    | brk => exact False.elim hz
    | cont => exact False.elim hz
/-- len(o) -/
def fLenO (c : Str) (mm : FM) (fo : F) : F := fun env st => (fo env st).bind fun p => match p.1 with
  | .ref n => (insAt c n p.2).bind fun _ => (mm [.ref n] p.2).bind fun z => match z.1 with | .int i => if 0 ≤ i ∧ i < 2 ^ 62 then some (.int i, z.2) else none | _ => none
  | _ => none
theorem de_lenO {p : Pos} (hc : ClsAt X.K c C) (hs : PySem.W.findIn X.K (.ref C) "__len__" = some (some (.ref f))) (hfn : PySem.W.typeIn X.K (.ref f) = some (.type "function")) (Fd : FnD X.prog X.w X.K X.mg X.base k f fd ps mm) (gx : GX X (k + 1)) (hb : Binds X.K fd ps [])
    (hg : Gl X "len") (hm : X.mg "len" = none) {fo : F} (ho : DE X e fo) (hl : 1 = ps.length := by rfl) (he : starEach [e] X.env = (false, eval e X.env) :: starEach [] X.env := by rfl) : DE X (.Call (.Name "len" p) [e] [] pos) (fLenO c mm fo) := by
  let rr : List V → Hp → VK → Prop := fun xs H Q => ∃ a dx fs rho n st z st', xs = [.ref a] ∧ H a = some (.ins C dx fs) ∧ rho.adr[n]? = some a ∧ Sim X.K rho H st ∧ mm [.ref n] st = some (.int z, st') ∧ 0 ≤ z ∧ z < 2 ^ 62 ∧ ∀ rho' H', Ext rho H rho' H' → Sim X.K rho' H' st' → Q (.int z) H'
  have hr : CallR X (.builtin "len") rr := by
    intro pins s σ H xs us Q I r h
    obtain ⟨a, dx, fs, rho, n, st, z, st', rfl, ha, hn, hsim, hm, z0, z1, q⟩ := h
    obtain ⟨u, rfl, rx⟩ := vals1 r
    obtain rfl : u = Value.ref a := rx
    obtain ⟨mA, J, _⟩ := ins_get I.hok ha
    obtain ⟨od, J, _⟩ := J.look
    have sp : PySem.W.Looks (model X.prog X.w) s.heap (specialOf (.ref a) "__len__") (some (.ref f)) := J.type.andThen (PySem.W.looks_findIn I.kIn hs)
    refine Calls.call_function_entry kind_len plain_len entry_len (args_len1 _) ?_
    unfold Builtin.«len»
    refine wpAny_bind (m := oneArg "len" _) (wpAny_pure ?_)
    have hc : ∀ {Q' : Option Value → Shared → Prop} {E : Value → Shared → Prop}, wpAny (model X.prog X.w) X.A.in1 (call (.ref f) [.ref a]) (fun v s' => Q' (some v) s') E s → wpAny (model X.prog X.w) X.A.in1 (callSpecial? (.ref a) "__len__") Q' E s := fun q => by
      unfold callSpecial?
      refine wpAny_bind (sp.here ?_)
      refine wpAny_holding ?_
      refine wpAny_bind ((PySem.W.bind_fn I.kIn _ hfn).here ?_)
      exact wpAny_bind (wpAny_mono q (fun v s' z => wpAny_pure z) fun _ _ z => z)
    refine wpAny_bind (m := callSpecial? (.ref a) (PySem.Str.ofString "__len__")) (hc (wpAny_mono (runD1 (Q := fun v H' => v = .int z ∧ Q (.int z) H') (us := [.ref a]) (vs := [.ref a]) Fd gx hb I (.cons rfl .nil) hl (.cons (.ref hn) .nil) hsim hm fun v r3 H3 e3 q3 p3 => ?_) (fun v s' hv => ?_) fun _ _ x => x))
    · cases p3
      exact ⟨rfl, q r3 H3 e3 q3⟩
    · obtain ⟨x, H', I', rx, rfl, q'⟩ := hv
      obtain ⟨t, rfl⟩ := rx
      refine wpAny_bind (wpAny_holding (wpAny_pure ?_))
      refine wpAny_bind (wpAny_letGo ?_)
      show wpAny _ _ (if z < 0 then _ else _) _ _ _
      rw [if_neg (by omega)]
      show wpAny _ _ (if z ≥ 2 ^ 63 then _ else _) _ _ _
      rw [if_neg (by omega)]
      exact wpAny_bind (wpAny_mkInt (wpAny_pure ⟨_, rfl, .int z, H', I'.tok _, ⟨_, rfl⟩, q'⟩))
  exact weakE (pe_callB hr hg hm (by decide +kernel) (pa_cons ho pa_nil he) (he := he)) fun σ H Q hh => by
    obtain ⟨r, env, st, d, st', he, hs, hf, q⟩ := hh
    obtain ⟨⟨x, s1⟩, h1, h2⟩ := Option.bind_eq_some_iff.mp hf
    cases x with
    | ref n =>
      obtain ⟨fs, h3, h4⟩ := Option.bind_eq_some_iff.mp (show ((insAt c n s1).bind fun _ => (mm [.ref n] s1).bind fun z => match z.1 with | .int i => if 0 ≤ i ∧ i < 2 ^ 62 then some (D.int i, z.2) else none | _ => none) = some (d, st') from h2)
      obtain ⟨⟨z, s2⟩, h5, h6⟩ := Option.bind_eq_some_iff.mp h4
      cases z with
      | int i =>
        have h6' : (if 0 ≤ i ∧ i < 2 ^ 62 then some (D.int i, s2) else none) = some (d, st') := h6
        by_cases hi : 0 ≤ i ∧ i < 2 ^ 62
        case neg => rw [if_neg hi] at h6'; cases h6'
        rw [if_pos hi] at h6'
        cases h6'
        refine ⟨r, env, st, _, s1, he, hs, h1, fun v r1 H1 e1 q1 p1 => ?_⟩
        obtain ⟨a, rfl, hadr⟩ := p1.refI
        obtain ⟨av, C', dx, vs, hn', hx, nm, l⟩ := q1.ob _ a _ hadr (insAt_some h3)
        rw [hc.at_] at hn'
        cases hn'
        exact ⟨a, dx, vs, r1, n, s1, i, _, rfl, hx, hadr, q1, h5, hi.1, hi.2, fun rho' H' e' s' => q _ rho' H' (e1.trans e') s' (.int i)⟩
      | _ => cases h6
    | _ => cases h2
end
end DL
/-! sorted(d.items()), d's keys ints. -/
namespace DL
open PySem PySem.Spec PyProof.Rows L2 Srt SrtO L2.DX
/-! the order -/
def keyI : Key → Int | .inl i => i | .inr _ => 0
def insK {α : Type} (p : Key × α) : List (Key × α) → List (Key × α)
  | [] => [p]
  | q :: l => if keyI p.1 < keyI q.1 then p :: q :: l else q :: insK p l
def sortK {α : Type} (l : List (Key × α)) : List (Key × α) := l.foldr insK []
theorem insK_perm {α : Type} (p : Key × α) : ∀ l : List (Key × α), (insK p l).Perm (p :: l)
  | [] => .refl _
  | q :: l => by
    unfold insK
    by_cases h : keyI p.1 < keyI q.1
    · rw [if_pos h]
    · rw [if_neg h]
      exact ((insK_perm p l).cons q).trans (.swap ..)
theorem sortK_perm {α : Type} : ∀ l : List (Key × α), (sortK l).Perm l
  | [] => .refl _
  | p :: l => (insK_perm p (sortK l)).trans ((sortK_perm l).cons p)
theorem insK_pw {α : Type} {p : Key × α} : ∀ {l : List (Key × α)}, l.Pairwise (fun a b => keyI a.1 < keyI b.1) → (∀ q ∈ l, keyI q.1 ≠ keyI p.1) → (insK p l).Pairwise (fun a b => keyI a.1 < keyI b.1)
  | [], _, _ => List.pairwise_singleton _ _
  | q :: l, h, n => by
    unfold insK
    have hq := List.pairwise_cons.mp h
    by_cases c : keyI p.1 < keyI q.1
    · rw [if_pos c]
      exact List.pairwise_cons.mpr ⟨fun z hz => by
        rcases List.mem_cons.mp hz with rfl | hz
        · exact c
        · exact Int.lt_trans c (hq.1 z hz), h⟩
    · rw [if_neg c]
      refine List.pairwise_cons.mpr ⟨fun z hz => ?_, insK_pw hq.2 fun z hz => n z (List.mem_cons_of_mem _ hz)⟩
      rcases List.mem_cons.mp ((insK_perm p l).mem_iff.mp hz) with rfl | hz
      · have := n q List.mem_cons_self
        omega
      · exact hq.1 z hz
theorem sortK_pw {α : Type} : ∀ {l : List (Key × α)}, (l.map fun p => keyI p.1).Nodup → (sortK l).Pairwise (fun a b => keyI a.1 < keyI b.1)
  | [], _ => .nil
  | p :: l, h => by
    have h' := List.nodup_cons.mp (show (keyI p.1 :: l.map fun p => keyI p.1).Nodup from h)
    exact insK_pw (sortK_pw h'.2) fun q hq e => h'.1 (List.mem_map.mpr ⟨q, (sortK_perm l).mem_iff.mp hq, e⟩)
theorem sortK_uniq {α : Type} {l m : List (Key × α)} (p : m.Perm l) (s : m.Pairwise (fun a b => keyI a.1 < keyI b.1)) : m = sortK l := by
  have nd : (l.map fun p => keyI p.1).Nodup := (p.map _).nodup (List.pairwise_map.mpr (s.imp fun h => by omega))
  refine List.Perm.eq_of_pairwise (le := fun a b => keyI a.1 < keyI b.1) (fun a b _ _ h1 h2 => by omega) s (sortK_pw nd) (p.trans (sortK_perm l).symm)
theorem RepK.insK {K : PySem.W.Frag} {r : Rf} {H : Hp} {k : Key} {v : V} {d : D} (q : Rep K r H v d) : ∀ {xs : List (Key × V)} {ds : List (Key × D)}, RepK K r H xs ds → RepK K r H (insK (k, v) xs) (insK (k, d) ds)
  | _, _, .nil => .cons q .nil
  | _, _, .cons (k := k') a b => by
    unfold DL.insK
    by_cases c : keyI k < keyI k'
    · rw [if_pos c, if_pos c]; exact .cons q (.cons a b)
    · rw [if_neg c, if_neg c]; exact .cons a (RepK.insK q b)
theorem RepK.sortK {K : PySem.W.Frag} {r : Rf} {H : Hp} : ∀ {xs : List (Key × V)} {ds : List (Key × D)}, RepK K r H xs ds → RepK K r H (sortK xs) (sortK ds)
  | _, _, .nil => .nil
  | _, _, .cons a b => RepK.insK a (RepK.sortK b)
/-! tuples (int, thing), by the int -/
section
variable {prog : Program} {w : World} {A : Around} {E : Value → Shared → Prop} {s : Shared}
def IsIt (h : Heap) (v : Value) (x : Int) (z : Value) : Prop := ∃ a o t n, v = .ref a ∧ h.get? a = some o ∧ o.cls = .type "tuple" ∧ o.data = .seq #[.int x t, z] n
theorem IsIt.keeps {h h' : Heap} {v z : Value} {x : Int} (p : IsIt h v x z) (k : ∀ b o, h.get? b = some o → o.cls = .type "tuple" → h'.get? b = some o) : IsIt h' v x z := by
  obtain ⟨a, o, t, n, e, ho, hc, hd⟩ := p
  exact ⟨a, o, t, n, e, k _ _ ho hc, hc, hd⟩
abbrev ltKy (k : Value → Int) (v u : Value) : Bool := decide (k v < k u)
theorem swo_I (k : Value → Int) : Swo (ltKy k) := by
  refine ⟨fun x y h => ?_, fun x y z h1 h2 => ?_⟩
  · have := of_decide_eq_true h
    exact decide_eq_false (by omega)
  · have a := of_decide_eq_false h1
    have b := of_decide_eq_false h2
    exact decide_eq_false (by omega)
theorem it_cmp {vs : List Value} {k : Value → Int} {zf : Value → Value} (hp : ∀ v ∈ vs, IsIt s.heap v (k v) (zf v)) (inj : ∀ v ∈ vs, ∀ u ∈ vs, k v = k u → v = u) : Cmp prog w A s (tuples' true) (fun p => p.1 ∈ vs) (SrtO.lt2 (ltKy k)) := by
  intro p q hm hm'
  have h1 := hp _ hm
  have h2 := hp _ hm'
  have ij := inj _ hm _ hm'
  show wpAny (model prog w) A (keyLt' (tuples' true) p.1 q.1) (fun r s' => s' = s ∧ r = decide (k p.1 < k q.1)) (fun _ _ => False) s
  obtain ⟨a, o, t, n, e, ho, hc, hd⟩ := h1
  obtain ⟨a', o', t', n', e', ho', hc', hd'⟩ := h2
  generalize hx : k p.1 = x at hd ij ⊢
  generalize hx' : k q.1 = x' at hd' ij ⊢
  generalize hz : zf p.1 = z at hd
  generalize hz' : zf q.1 = z' at hd'
  have zz : x = x' → z = z' := fun h => by rw [← hz, ← hz', ij h]
  rw [e, e']
  refine PySem.W.kat_lt ho hd ho' hd' ?_
  show PySem.W.KatLex prog w A true (decide (2 < 2)) _ [(.int x t, .int x' t'), (z, z')] 0 s
  refine PySem.W.kat_cons (SeqAt.EqAt.int_int x t x' t' prog w _ _ ?_)
  refine PySem.W.kat_go (fun e1 => ?_) (fun e1 => ?_)
  · have ex : x = x' := by simpa using e1
    have ez := zz ex
    subst ez
    refine PySem.W.kat_yes (PySem.W.kat_cons (SeqAt.EqAt.same z prog w _ _ ?_))
    have e3 : decide (x < x') = false := decide_eq_false (by omega)
    exact PySem.W.kat_yes (PySem.W.kat_nil ⟨rfl, e3.symm⟩)
  · exact PySem.W.kat_no (oneLt_int ⟨rfl, rfl⟩)
theorem firsts_it {h : Heap} {k : Value → Int} {zf : Value → Value} : ∀ {vs : List Value}, (∀ v ∈ vs, IsIt h v (k v) (zf v)) → ∃ fs : List Value, PySem.W.KatTups h vs fs ∧ fs.length = vs.length ∧ ∀ f ∈ fs, ∃ x t, f = Value.int x t
  | [], _ => ⟨[], PySem.W.KatTups.nil, rfl, fun _ hm => by simp at hm⟩
  | v :: vs, hp => by
    obtain ⟨fs, h1, h2, h3⟩ := firsts_it (vs := vs) fun v' hm => hp v' (List.mem_cons_of_mem _ hm)
    obtain ⟨a, o, t, n, e, ho, hc, hd⟩ := hp v (List.mem_cons_self ..)
    generalize k v = x at hd
    generalize zf v = z at hd
    subst e
    refine ⟨.int x t :: fs, PySem.W.KatTups.cons ho hc hd rfl h1, by rw [List.length_cons, List.length_cons, h2], fun f hm => ?_⟩
    rcases List.mem_cons.mp hm with rfl | hm
    · exact ⟨x, t, rfl⟩
    · exact h3 f hm
theorem its_sortable {a : Addr} {vs : List Value} {k : Value → Int} {zf : Value → Value} (h0 : 0 < vs.length) (hp : ∀ v ∈ vs, IsIt s.heap v (k v) (zf v)) (inj : ∀ v ∈ vs, ∀ u ∈ vs, k v = k u → v = u) (ha : ∀ o, s.heap.get? a = some o → o.cls ≠ .type "tuple") : SortableO prog w A s a vs (ltKy k) := by
  intro h' keep
  have hp' : ∀ v ∈ vs, IsIt h' v (k v) (zf v) := fun v hm => (hp v hm).keeps fun b o e c => keep b o (fun z => by subst z; exact ha o e c) e
  obtain ⟨fs, h1, h2, h3⟩ := firsts_it hp'
  refine ⟨tuples' true, fun Q E hq => ?_, it_cmp hp' inj⟩
  refine PySem.W.kat_kind (T := .type "int") h1 (by omega) (fun f hm => ?_) (by rfl) ?_
  · obtain ⟨x, t, rfl⟩ := h3 f hm
    exact PySem.W.Looks.now
  · have e : (Value.type "int" != Value.type "tuple") = true := by first | decide +kernel | rfl | decide
    rw [e]
    exact hq
end
section
variable {X : Cx}
/-- e.items(), a view -/
def tDItems (te : TE) : TE := fun σ H Q => te σ H fun x H1 => ∃ (d : Addr) (kvs : List (Key × V)), x = .ref d ∧ Rd H1 d (.dK kvs) ∧ ∀ p, H1 p = none → Q (.ref p) (upd H1 p (itemsO p d))
theorem pe_dItems {e : Expr} {te : TE} {apos cpos : Pos} (he : PE X e te) (hbase : attributeBase e "items" X.env (eval e X.env) = eval e X.env := by rfl) (hline : (apos.endLine == cpos.line) = true := by rfl) : PE X (.Call (.Attribute e "items" apos) [] [] cpos) (tDItems te) := by
  refine ⟨fun pins s σ H Q I hq => ?_⟩
  refine wpAny_Call_method (T := "dict") (id := "dict.items") hbase rfl hline F.plainAttrs_dict F.slot_dict_items F.type_dict_items (thn (he.run pins s σ H _ I hq) fun u s1 ⟨x, H1, I1, rx, d, kvs, ex, hd, q⟩ => ?_)
  subst ex
  obtain rfl : u = Value.ref d := rx
  obtain ⟨hz, hs0, vs, kv, hdo⟩ := dk_rd I1.hok hd
  refine ⟨hdo.typeIs, hdo.mapOf.noDict, ?_⟩
  show wpAny _ _ (callWith cpos (.builtin "dict.items") [.ref d] [] []) _ X.xe s1
  refine method_meetsIn F.slot_dict_items F.entry_dict_items rfl (PySem.evalArgs_none ⟨rfl, hdo.typeIs, F.args_dict_items_1 _, _, meets_dict_items (mixKind X.prog X.w) d hs0, ⟨vs, hdo⟩, ?_⟩)
  exact ⟨.ref s1.heap.objs.size, upd H1 s1.heap.objs.size (itemsO s1.heap.objs.size d), I1.laid (t' := s1.toks) (fun b u e => Heap.get?_push_of_some _ e) (Nat.le_refl _) (itemsO_ok (Heap.get?_push_size _ rfl)), rfl, q _ (I1.hok.fresh (Nat.le_refl _))⟩
theorem zip_look {α : Type} : ∀ {as : List Addr} {bs : List α} {j : Nat} {a : Addr} {b : α}, as.Nodup → as[j]? = some a → bs[j]? = some b → (as.zip bs).lookup a = some b
  | [], _, _, _, _, _, h, _ => by simp at h
  | _ :: _, [], _, _, _, _, _, h => by simp at h
  | x :: as, y :: bs, 0, a, b, _, h1, h2 => by
    cases h1
    cases h2
    simp [List.lookup]
  | x :: as, y :: bs, j + 1, a, b, n, h1, h2 => by
    have n' := List.nodup_cons.mp n
    have h1' : as[j]? = some a := by simpa using h1
    have ne : (a == x) = false := by
      simp
      intro e
      subst e
      exact n'.1 (List.mem_of_getElem? h1')
    simp [List.lookup, ne]
    exact zip_look n'.2 h1' (by simpa using h2)
/-- the tuples and the list of them, tracked -/
theorem sorted_laid {pins : List (Addr × Obj)} {σ : L2.St} {H : Hp} {s : Shared} {h1 h' : Heap} {tk : Nat} {kvs : List (Key × V)} {vs : List (Key × Value)} {out : Array Value} {c : Nat} {as ts : List Addr} {l : Addr} (I : Inv X pins σ H s) (hz : kvs.length ≤ sizeLine) (kv : KV kvs vs)
    (hk : ∀ b o, s.heap.get? b = some o → h'.get? b = some o) (hk1 : ∀ b o, h1.get? b = some o → h'.get? b = some o) (hG : PySem.W.KdxG (mixKind X.prog X.w) vs s.heap.objs.size h1 as) (hlen : as.length = vs.length)
    (hS : h'.get? l = some (PyProof.Rows.seqObj "list" out c)) (newS : H l = none) (hl : ∀ b o, s.heap.get? b = some o → b ≠ l) (hla : l ∉ as) (hout : out.toList = ts.map Value.ref) (hts : ts.Perm as) :
    ∃ H' : Hp, (∀ b o, H b = some o → H' b = some o) ∧ H l = none ∧ (∀ t ∈ as, H t = none) ∧ H' l = some (.lst (ts.map V.ref)) ∧ Paired (fun (t : Addr) (q : Key × V) => H' t = some (.tup [kV q.1, q.2])) as kvs ∧ Inv X pins σ H' { s with heap := h', toks := tk } := by
  have lk : kvs.length = vs.length := Paired.length kv
  have nd : as.Nodup := List.Pairwise.imp (fun {a b} (h : a < b) => Nat.ne_of_lt h) hG.rise
  have new : ∀ t ∈ as, H t = none := fun t ht => I.hok.fresh (Nat.le_of_lt (hG.above t ht))
  have atP := LiI.putT_at as kvs (upd H l (.lst (ts.map V.ref))) (by omega) nd
  have off : ∀ b, b ∉ as → b ≠ l → LiI.putT (upd H l (.lst (ts.map V.ref))) as kvs b = H b := fun b h1 h2 => by rw [LiI.putT_off as kvs _ h1, upd_ne h2]
  have low : ∀ b o, s.heap.get? b = some o → b ∉ as ∧ b ≠ l := fun b o e => ⟨fun z => absurd (Heap.lt_size e) (Nat.not_lt.mpr (Nat.le_of_lt (hG.above b z))), hl b o e⟩
  have kp : ∀ b u, H b = some u → (LiI.putT (upd H l (.lst (ts.map V.ref))) as kvs) b = some u := fun b u e => by
    rw [off b (fun z => by rw [new b z] at e; cases e) (fun z => by rw [z, newS] at e; cases e)]
    exact e
  have eS : LiI.putT (upd H l (.lst (ts.map V.ref))) as kvs l = some (.lst (ts.map V.ref)) := by rw [LiI.putT_off as kvs _ hla, upd_same]
  refine ⟨LiI.putT (upd H l (.lst (ts.map V.ref))) as kvs, kp, newS, new, eS, atP, ?_⟩
  refine I.call' (ch := []) rfl ⟨fun b o q _ _ _ => hk b o q, fun b o q _ _ _ => ⟨o.slots, hk b o q⟩, fun b o q n _ => ?_, fun b o q _ => ⟨o, hk b o q⟩, fun b xs q => kp b _ q, fun b o u q => kp b _ q, fun b ps q => ⟨#[], by rw [kp b _ q]; simp⟩⟩ (fun b u q => ?_) I.bare fun b z => by simp at z
  · obtain ⟨z1, z2⟩ := low b o q
    rw [off b z1 z2]
    exact n
  · by_cases hb : b ∈ as
    · obtain ⟨j, pk, e1, e2, e3⟩ := LiI.paired_ix atP hb
      rw [e3] at q
      cases q
      obtain ⟨key, k, x, f1, f2, f3⟩ := hG.pairs j b e1
      obtain ⟨qv, g1, g2, g3⟩ := LiI.paired_get kv e2
      rw [f1] at g1
      cases g1
      have rk : RelV (kV pk.1) key := by
        rw [g2]
        exact relV_key (show keyIs k key = true from f2)
      exact ⟨by show 2 ≤ sizeLine; decide, [key, x], .cons rk (.cons g3 .nil), ⟨_, hk1 _ _ f3, rfl, _, rfl⟩⟩
    · by_cases hb2 : b = l
      · rw [hb2] at q ⊢
        rw [eS] at q
        cases q
        refine ⟨by rw [List.length_map, hts.length_eq]; omega, out.toList, c, by rw [hout]; exact LiI.vals_refs ts, ?_⟩
        rw [Array.toArray_toList]
        exact hS
      · rw [off b hb hb2] at q
        exact (I.hok b u q).stay (fun d v _ y => hk d v y) (fun d y => kp d _ y) fun d xs y => kp d _ y
/-- sorted of such a view -/
def rSortI : List V → Hp → VK → Prop := fun vs H Q => ∃ (p a : Addr) (kvs : List (Key × V)) (ks : List Int), vs = [.ref p] ∧ H p = some (itemsO p a) ∧ Rd H a (.dK kvs) ∧ kvs.map (·.1) = ks.map Sum.inl ∧ ks.Nodup ∧
  ∀ (H' : Hp) (l : Addr) (ts : List Addr), (∀ b o, H b = some o → H' b = some o) → H l = none → H' l = some (.lst (ts.map V.ref)) → (∀ t ∈ ts, H t = none) → Paired (fun (t : Addr) (q : Key × V) => H' t = some (.tup [kV q.1, q.2])) ts (sortK kvs) → Q (.ref l) H'
theorem paired_of {α β : Type} {F : α → β → Prop} (g : α → β) : ∀ {xs : List α}, (∀ x ∈ xs, F x (g x)) → Paired F xs (xs.map g)
  | [], _ => .nil
  | x :: xs, h => .cons (h x List.mem_cons_self) (paired_of g fun y hy => h y (List.mem_cons_of_mem _ hy))
theorem cr_sortI (hc : X.calm = true) : CallR X (.builtin "sorted") rSortI := by
  intro pins s σ H vs us Q I r h
  obtain ⟨p, a, kvs, ks, rfl, hp, hd, hks, hnd, q⟩ := h
  obtain ⟨u, rfl, ru⟩ := vals1 r
  obtain rfl : u = Value.ref p := ru
  have hv : s.heap.IsItemsView p a := (show ObjOk X.prog X.w H s.heap p (itemsO p a) from I.hok p _ hp).1
  obtain ⟨hz, lo, ws, kv, hdo⟩ := dk_rd I.hok hd
  obtain ⟨ep, hat⟩ := hdo.dictAt
  have lk : kvs.length = ws.length := Paired.length kv
  refine Calls.call_function_entry PyProof.Rows.kind_sorted PyProof.Rows.plain_sorted PyProof.Rows.entry_sorted (PyProof.Rows.args_sorted1 _) ?_
  unfold Builtin.«sorted»
  refine wpAny_bind (m := checkCount "sorted" 1 1 _) (wpAny_pure ?_)
  refine wpAny_bind (PySem.W.kdx_collect (A := X.A.in1) (knd := mixKind X.prog X.w) (kvs := ws) (ep := ep) (I.ok.hd hc) hv hat (by omega) fun h1 tk as hk hl hG => ?_)
  have hasl : (as.map Value.ref).length ≤ sizeLine := by rw [List.length_map]; omega
  refine wpAny_bind (wpAny_newList ?_ hasl)
  have nd : as.Nodup := List.Pairwise.imp (fun {a b} (h : a < b) => Nat.ne_of_lt h) hG.rise
  have hoL : (h1.push { cls := .type "list", data := .seq (as.map Value.ref).toArray }).get? h1.objs.size = some (PyProof.Rows.seqObj "list" (as.map Value.ref).toArray 0) := Heap.get?_push_size _ rfl
  -- the keys
  let kf : Value → Int := fun v => match v with | .ref b => ((as.zip ks).lookup b).getD 0 | _ => 0
  let zf : Value → Value := fun v => match v with | .ref b => ((as.zip (ws.map (·.2))).lookup b).getD .none | _ => .none
  have hkw : ws.map (·.1) = ks.map Sum.inl := kv.keys.symm.trans hks
  have hkl : ks.length = ws.length := by
    have := congrArg List.length hkw
    rw [List.length_map, List.length_map] at this
    exact this.symm
  have at_ : ∀ (j : Nat) (b : Addr), as[j]? = some b → ∃ k z t, ks[j]? = some k ∧ kf (.ref b) = k ∧ zf (.ref b) = z ∧ ws[j]? = some (Sum.inl k, z) ∧ h1.get? b = some { cls := .type "tuple", data := .seq #[.int k t, z] } := fun j b hj => by
    obtain ⟨key, k, x, f1, f2, f3⟩ := hG.pairs j b hj
    have e1 : (ws.map (·.1))[j]? = some k := by rw [List.getElem?_map, f1]; rfl
    rw [hkw, List.getElem?_map] at e1
    obtain ⟨k0, e2, e3⟩ := Option.map_eq_some_iff.mp e1
    subst e3
    have kk : RelV (kV (Sum.inl k0)) key := relV_key (show keyIs (Sum.inl k0) key = true from f2)
    obtain ⟨t, rfl⟩ := kk
    have z1 := zip_look nd hj e2
    have z2 := zip_look (bs := ws.map (·.2)) nd hj (by rw [List.getElem?_map, f1]; rfl)
    exact ⟨k0, x, t, e2, by show ((as.zip ks).lookup b).getD 0 = k0; rw [z1]; rfl, by show ((as.zip (ws.map (·.2))).lookup b).getD .none = x; rw [z2]; rfl, f1, f3⟩
  have hit : ∀ (h2 : Heap), (∀ b o, h1.get? b = some o → h2.get? b = some o) → ∀ v ∈ as.map Value.ref, IsIt h2 v (kf v) (zf v) := fun h2 kk v hv => by
    obtain ⟨b, hb, rfl⟩ := List.mem_map.mp hv
    obtain ⟨j, hj⟩ := List.mem_iff_getElem?.mp hb
    obtain ⟨k, z, t, e1, e2, e3, e4, e5⟩ := at_ j b hj
    rw [e2, e3]
    exact ⟨b, _, t, _, rfl, kk _ _ e5, rfl, rfl⟩
  have inj : ∀ v ∈ as.map Value.ref, ∀ u ∈ as.map Value.ref, kf v = kf u → v = u := fun v hv u hu e => by
    obtain ⟨b, hb, rfl⟩ := List.mem_map.mp hv
    obtain ⟨c, hc, rfl⟩ := List.mem_map.mp hu
    obtain ⟨i, hi⟩ := List.mem_iff_getElem?.mp hb
    obtain ⟨j, hj⟩ := List.mem_iff_getElem?.mp hc
    obtain ⟨k, z, t, e1, e2, e3, e4, e5⟩ := at_ i b hi
    obtain ⟨k', z', t', f1, f2, f3, f4, f5⟩ := at_ j c hj
    rw [e2, f2] at e
    subst e
    have : i = j := by
      obtain ⟨i1, i2⟩ := List.getElem?_eq_some_iff.mp e1
      obtain ⟨j1, j2⟩ := List.getElem?_eq_some_iff.mp f1
      exact (List.getElem_inj hnd).mp (i2.trans j2.symm)
    subst this
    rw [hi] at hj
    cases hj
    rfl
  show wpAny _ _ _ _ _ { s with heap := h1.push { cls := .type "list", data := .seq (as.map Value.ref).toArray }, toks := tk }
  refine wpAny_bind (wpAny_holding (wpAny_call_entry PyProof.Rows.slot_list_sort ⟨_, hoL, rfl⟩ PyProof.Rows.entry_list_sort (list_sort_ord (swo_I kf) hoL hasl (fun h2 => ?_) fun out hs hb => ⟨_, rfl, ?_⟩) (PyProof.Rows.args_list_sort _)))
  · refine its_sortable (s := { s with heap := h1.push { cls := .type "list", data := .seq (as.map Value.ref).toArray }, toks := tk }) (by omega) (hit _ fun b o e => Heap.get?_push_of_some _ e) inj fun o e => ?_
    have e' : some o = some (PyProof.Rows.seqObj "list" (as.map Value.ref).toArray 0) := e.symm.trans hoL
    cases e'
    intro c
    exact absurd (Value.type.inj c) (by decide)
  · refine wpAny_pure ⟨_, rfl, ?_⟩
    have hpm : out.Perm (as.map Value.ref) := hb.perm
    let bk : Value → Addr := fun v => match v with | .ref b => b | _ => 0
    have hts : (out.map bk).Perm as := by
      have := hpm.map bk
      rw [List.map_map] at this
      have e : (bk ∘ Value.ref) = id := rfl
      rw [e, List.map_id] at this
      exact this
    have hot : out = (out.map bk).map Value.ref := by
      rw [List.map_map]
      refine (List.map_id out).symm.trans (List.map_congr_left fun v hv => ?_)
      obtain ⟨b, hb, rfl⟩ := List.mem_map.mp (hpm.mem_iff.mp hv)
      rfl
    obtain ⟨e', he'⟩ := PyProof.Rows.sortedHeap_at (vs := as.map Value.ref) (out := out.toArray) hoL
    have sz1 : h1.objs.size < (h1.push { cls := .type "list", data := .seq (as.map Value.ref).toArray }).objs.size := Heap.lt_size hoL
    have old1 : ∀ b o, h1.get? b = some o → (PyProof.Rows.sortedHeap (h1.push { cls := .type "list", data := .seq (as.map Value.ref).toArray }) h1.objs.size (as.map Value.ref) out.toArray).get? b = some o := fun b o e => by
      have hb : b < h1.objs.size := Heap.lt_size e
      rw [PyProof.Rows.sortedHeap_old (Nat.ne_of_lt hb) (Nat.lt_trans hb sz1)]
      exact Heap.get?_push_of_some _ e
    have I1 : Inv X pins σ H { s with heap := h1, toks := tk } := I.kept (t' := tk) hk
    have newS : H h1.objs.size = none := I1.hok.fresh (Nat.le_refl _)
    obtain ⟨H', k1, k2, k3, k4, k5, J⟩ := sorted_laid (tk := tk) I hz kv (fun b o e => old1 b o (hk b o e)) old1 hG hl he' newS (fun b o e => Nat.ne_of_lt (Heap.lt_size (hk b o e))) (fun z => Nat.lt_irrefl _ (hG.there z)) (by show out.toArray.toList = _; exact hot) hts
    -- the pairs in their order
    let g : Addr → Key × V := fun b => ((as.zip kvs).lookup b).getD (Sum.inl 0, .non)
    have gat : ∀ (j : Nat) (b : Addr), as[j]? = some b → ∃ q, kvs[j]? = some q ∧ g b = q ∧ H' b = some (.tup [kV q.1, q.2]) ∧ (∃ i : Int, q.1 = Sum.inl i ∧ kf (.ref b) = i) := fun j b hj => by
      obtain ⟨q, e1, e2⟩ := LiI.paired_get k5 hj
      obtain ⟨k, z, t, f1, f2, f3, f4, f5⟩ := at_ j b hj
      refine ⟨q, e1, by show ((as.zip kvs).lookup b).getD _ = q; rw [zip_look nd hj e1]; rfl, e2, k, ?_, f2⟩
      have e3 : (kvs.map (·.1))[j]? = some q.1 := by rw [List.getElem?_map, e1]; rfl
      rw [hks, List.getElem?_map, f1] at e3
      exact (Option.some.inj e3).symm
    have hg : as.map g = kvs := by
      refine List.ext_getElem? fun j => ?_
      rw [List.getElem?_map]
      cases hj : as[j]? with
      | none => 
        have : kvs.length ≤ j := by rw [lk, ← hl]; exact List.getElem?_eq_none_iff.mp hj
        rw [List.getElem?_eq_none this]
        rfl
      | some b =>
        obtain ⟨q, e1, e2, _⟩ := gat j b hj
        rw [e1, Option.map_some, e2]
    have hqs : ((out.map bk).map g) = sortK kvs := by
      refine sortK_uniq (by have := hts.map g; rwa [hg] at this) ?_
      rw [List.pairwise_map]
      have nd2 : (out.map bk).Nodup := hts.symm.nodup nd
      have hs3 : ((out.map bk).map Value.ref).Pairwise fun x y => ltKy kf y x = false := by rw [← hot]; exact hs
      rw [List.pairwise_map] at hs3
      refine (hs3.and nd2).imp_of_mem fun {b c} hb hc2 h => ?_
      obtain ⟨i, hi⟩ := List.mem_iff_getElem?.mp (hts.mem_iff.mp hb)
      obtain ⟨j, hj⟩ := List.mem_iff_getElem?.mp (hts.mem_iff.mp hc2)
      obtain ⟨q1, a1, a2, a3, n1, a4, a5⟩ := gat i b hi
      obtain ⟨q2, b1, b2, b3, n2, b4, b5⟩ := gat j c hj
      have h1' := of_decide_eq_false h.1
      rw [a5, b5] at h1'
      rw [a2, b2, a4, b4]
      show n1 < n2
      have ne : n1 ≠ n2 := fun e => by
        have := inj (.ref b) (List.mem_map.mpr ⟨b, hts.mem_iff.mp hb, rfl⟩) (.ref c) (List.mem_map.mpr ⟨c, hts.mem_iff.mp hc2, rfl⟩) (by rw [a5, b5, e])
        cases this
        exact h.2 rfl
      omega
    refine ⟨.ref h1.objs.size, H', J, rfl, q H' _ (out.map bk) k1 k2 k4 (fun t ht => k3 t (hts.mem_iff.mp ht)) ?_⟩
    rw [← hqs]
    exact paired_of g fun b hb => by
      obtain ⟨j, hj⟩ := List.mem_iff_getElem?.mp (hts.mem_iff.mp hb)
      obtain ⟨q, e1, e2, e3, _⟩ := gat j b hj
      rw [e2]
      exact e3
end
end DL
/-! Dicts and lists of the store: copies, keys, sorted, clear, insert. -/
namespace DL
open PySem PySem.Spec PyProof.Rows L2 L2.DX
variable {K : PySem.W.Frag}
/-- a new object of the store -/
theorem newOb {r : Rf} {H : Hp} {st : Store} {p : Addr} {o : HO} {ob : Ob} (hs : Sim K r H st) (hp : H p = none) (hob : ∀ r' H', Ex r H r' H' → r'.av p → H' p = some o → ObR K r' H' p ob) :
    ∃ r', Ext r H r' (upd H p o) ∧ Sim K r' (upd H p o) (st ++ [ob]) ∧ Rep K r' (upd H p o) (.ref p) (.ref st.length) := by
  obtain ⟨e0, hd0⟩ := hideNew (o := o) hs hp
  have ex : Ex (r.hide p) (upd H p o) ((r.hide p).add p) (upd (upd H p o) p o) := ⟨⟨[p], rfl⟩, fun q x z n => by rw [upd_upd]; exact z, fun q z n => absurd z n⟩
  obtain ⟨w1, w2, w3⟩ := hd0.add (o := o) (ob := ob) e0 hs hp (hob _ _ (e0.toEx.trans ex) hd0.av upd_same)
  rw [upd_upd] at w1 w2 w3
  exact ⟨_, w1, w2, w3 _ rfl⟩
theorem newDct {r : Rf} {H : Hp} {st : Store} {p : Addr} {xs : List (Key × V)} {kvs : List (Key × D)} (hs : Sim K r H st) (hp : H p = none) (l : RepK K r H xs kvs) :
    ∃ r', Ext r H r' (upd H p (.dK xs)) ∧ Sim K r' (upd H p (.dK xs)) (st ++ [.dct kvs]) ∧ Rep K r' (upd H p (.dK xs)) (.ref p) (.ref st.length) :=
  newOb hs hp fun _ _ e v h => ⟨v, _, h, l.ex e⟩
theorem newLst {r : Rf} {H : Hp} {st : Store} {p : Addr} {xs : List V} {ds : List D} (hs : Sim K r H st) (hp : H p = none) (l : RepL K r H xs ds) :
    ∃ r', Ext r H r' (upd H p (.lst xs)) ∧ Sim K r' (upd H p (.lst xs)) (st ++ [.lst ds]) ∧ Rep K r' (upd H p (.lst xs)) (.ref p) (.ref st.length) :=
  newOb hs hp fun _ _ e v h => ⟨v, _, h, l.ex e⟩
section
variable {X : Cx} {W : WXd}
/-! ### dict(d) -/
def fDictC (fo : F) : F := fun env st => (fo env st).bind fun p => (dctAt p.1 p.2).map fun kvs => (.ref p.2.length, p.2 ++ [.dct kvs])
theorem de_dictC {e : Expr} {fo : F} {p pos : Pos} (ho : DE X e fo) (hg : Gl X "dict") (hm : X.mg "dict" = none) (hs : starEach [e] X.env = (false, eval e X.env) :: starEach [] X.env := by rfl) (hpl : (backTo pos (starEach [] X.env)).any (·.1) = false := by rfl) :
    DE X (.Call (.Name "dict" p) [e] [] pos) (fDictC fo) :=
  weakE (pe_callTy call_dictD hg hm (by decide +kernel) (pa_cons ho pa_nil hs) (he := hs) (hpl := hpl)) fun σ H Q hh => by
  obtain ⟨r, env, st, d, st', he, hs, hf, q⟩ := hh
  obtain ⟨⟨x, s1⟩, h1, h2⟩ := Option.bind_eq_some_iff.mp hf
  obtain ⟨kvs, h3, h4⟩ := Option.map_eq_some_iff.mp h2
  cases h4
  refine ⟨r, env, st, _, s1, he, hs, h1, fun v r1 H1 e1 q1 p1 => ?_⟩
  obtain ⟨a, xs, rfl, rd, l⟩ := dctRd p1 q1 h3
  refine ⟨a, xs, rfl, rd, fun p hp => ?_⟩
  obtain ⟨r', w1, w2, w3⟩ := newDct q1 hp l
  exact q _ r' _ (e1.trans w1) w2 w3
/-! ### list(d): the keys -/
def keysL : List D → Store → Option D := fun ds st => match ds with
  | [d] => (dctAt d st).map fun kvs => .lst (kvs.map fun kv => keyD kv.1)
  | _ => none
theorem keys_repL {r : Rf} {H : Hp} : ∀ {xs : List (Key × V)} {kvs : List (Key × D)}, RepK K r H xs kvs → RepL K r H (xs.map fun kv => kV kv.1) (kvs.map fun kv => keyD kv.1)
  | _, _, .nil => .nil
  | _, _, .cons (k := k) a b => .cons (keyD_rep k) (keys_repL b)
theorem ok_keysL {k : Nat} (g : GX X k) : CallOk X (.type "list") keysL := ⟨_, call_listD g.calm, fun rho H xs ds d st Q rl si e q => by
  unfold keysL at e
  split at e
  · rename_i d0
    obtain ⟨kvs, h1, h2⟩ := Option.map_eq_some_iff.mp e
    subst h2
    obtain ⟨v, rfl, rv⟩ := lst1 rl
    obtain ⟨a, xs, rfl, rd, l⟩ := dctRd rv si h1
    exact ⟨a, xs, rfl, rd, fun p hp => q _ _ (same_alloc hp) (fresh_lst si hp (keys_repL l))⟩
  · cases e⟩
def bListK : List D → Store → Option D := fun ds st => (bList ds st).or (keysL ds st)
theorem ok_listK {k : Nat} (g : GX X k) : CallOk X (.type "list") bListK := (ok_list g).or (ok_keysL g)
/-! ### sorted(d), the keys ints -/
def intKs : List (Key × D) → Option (List Int)
  | [] => some []
  | (.inl i, _) :: l => (intKs l).map (i :: ·)
  | _ :: _ => none
theorem intKs_keys : ∀ {kvs : List (Key × D)} {ks : List Int}, intKs kvs = some ks → kvs.map (·.1) = ks.map Sum.inl
  | [], _, h => by cases h; rfl
  | (.inl i, _) :: l, _, h => by
    obtain ⟨ks, h1, h2⟩ := Option.map_eq_some_iff.mp (show (intKs l).map (i :: ·) = _ from h)
    subst h2
    rw [List.map_cons, List.map_cons, intKs_keys h1]
  | (.inr x, _) :: l, _, h => by cases h
theorem intKs_some : ∀ {kvs : List (Key × D)} {ks : List Int}, kvs.map (·.1) = ks.map Sum.inl → intKs kvs = some ks
  | [], [], _ => rfl
  | [], _ :: _, h => by cases h
  | _ :: _, [], h => by cases h
  | (k, d) :: l, i :: ks, h => by
    injection h with h1 h2
    have h1' : k = Sum.inl i := h1
    subst h1'
    show (intKs l).map (i :: ·) = _
    rw [intKs_some h2]
    rfl
def sortedKs (kvs : List (Key × D)) : Option (List Int) := (intKs kvs).bind fun ks => if ks.length < 64 ∧ ks.Nodup then some (srt ks) else none
theorem sorted_srt {ys ks : List Int} (p : ys.Perm ks) (s : ys.Pairwise (· ≤ ·)) (n : ks.Nodup) : ys = srt ks := by
  have ny : ys.Nodup := p.symm.nodup n
  refine pw_eq ((s.and ny).imp fun h => by omega) (srt_pw ks) fun j => by rw [srt_mem]; exact p.mem_iff
def fSortKs (fo : F) : F := fun env st => (fo env st).bind fun p => (dctAt p.1 p.2).bind fun kvs => (sortedKs kvs).map fun ks => (.lst (ks.map .int), p.2)
/-- .. into the store -/
def fSortKR (fo : F) : F := fun env st => (fo env st).bind fun p => (dctAt p.1 p.2).bind fun kvs => (sortedKs kvs).map fun ks => (.ref p.2.length, p.2 ++ [.lst (ks.map .int)])
theorem sortedKs_some {kvs : List (Key × D)} {zs : List Int} (h : sortedKs kvs = some zs) : ∃ ks, kvs.map (·.1) = ks.map Sum.inl ∧ ks.length < 64 ∧ ks.Nodup ∧ zs = srt ks := by
  obtain ⟨ks, h1, h2⟩ := Option.bind_eq_some_iff.mp h
  by_cases c : ks.length < 64 ∧ ks.Nodup
  · rw [if_pos c] at h2
    cases h2
    exact ⟨ks, intKs_keys h1, c.1, c.2, rfl⟩
  · rw [if_neg c] at h2
    cases h2
theorem de_sortKs {e : Expr} {fo : F} {p pos : Pos} {k : Nat} (g : GX X k) (ho : DE X e fo) (hg : Gl X "sorted") (hm : X.mg "sorted" = none) (hs : starEach [e] X.env = (false, eval e X.env) :: starEach [] X.env := by rfl) (hpl : (backTo pos (starEach [] X.env)).any (·.1) = false := by rfl) :
    DE X (.Call (.Name "sorted" p) [e] [] pos) (fSortKs fo) := weakE (pe_callB (p := p) (pos := pos) (call_sortedDI g.calm) hg hm (by decide +kernel) (pa_cons ho pa_nil hs) (he := hs) (hpl := hpl)) fun σ H Q hh => by
  obtain ⟨r, env, st, d, st', he, hs, hf, q⟩ := hh
  obtain ⟨⟨x, s1⟩, h1, h2⟩ := Option.bind_eq_some_iff.mp hf
  obtain ⟨kvs, h3, h4⟩ := Option.bind_eq_some_iff.mp h2
  obtain ⟨zs, h5, h6⟩ := Option.map_eq_some_iff.mp h4
  cases h6
  obtain ⟨ks, k1, k2, k3, rfl⟩ := sortedKs_some h5
  refine ⟨r, env, st, _, _, he, hs, h1, fun v r1 H1 e1 q1 p1 => ?_⟩
  obtain ⟨a, xs, rfl, rd, l⟩ := dctRd p1 q1 h3
  refine ⟨a, xs, ks, rfl, rd, by rw [l.keys]; exact k1, k2, fun ys p pm pw hp => ?_⟩
  rw [sorted_srt pm pw k3]
  exact q _ r1 _ (e1.trans (q1.ext (same_alloc hp))) (q1.same (same_alloc hp)) (fresh_lst q1 hp (RepL.ofInts _))
theorem de_sortKR {e : Expr} {fo : F} {p pos : Pos} {k : Nat} (g : GX X k) (ho : DE X e fo) (hg : Gl X "sorted") (hm : X.mg "sorted" = none) (hs : starEach [e] X.env = (false, eval e X.env) :: starEach [] X.env := by rfl) (hpl : (backTo pos (starEach [] X.env)).any (·.1) = false := by rfl) :
    DE X (.Call (.Name "sorted" p) [e] [] pos) (fSortKR fo) := weakE (pe_callB (p := p) (pos := pos) (call_sortedDI g.calm) hg hm (by decide +kernel) (pa_cons ho pa_nil hs) (he := hs) (hpl := hpl)) fun σ H Q hh => by
  obtain ⟨r, env, st, d, st', he, hs, hf, q⟩ := hh
  obtain ⟨⟨x, s1⟩, h1, h2⟩ := Option.bind_eq_some_iff.mp hf
  obtain ⟨kvs, h3, h4⟩ := Option.bind_eq_some_iff.mp h2
  obtain ⟨zs, h5, h6⟩ := Option.map_eq_some_iff.mp h4
  cases h6
  obtain ⟨ks, k1, k2, k3, rfl⟩ := sortedKs_some h5
  refine ⟨r, env, st, _, _, he, hs, h1, fun v r1 H1 e1 q1 p1 => ?_⟩
  obtain ⟨a, xs, rfl, rd, l⟩ := dctRd p1 q1 h3
  refine ⟨a, xs, ks, rfl, rd, by rw [l.keys]; exact k1, k2, fun ys p pm pw hp => ?_⟩
  rw [sorted_srt pm pw k3]
  obtain ⟨r', w1, w2, w3⟩ := newLst q1 hp (RepL.ofInts (srt ks))
  exact q _ r' _ (e1.trans w1) w2 w3
/-! ### sorted(d.items()) -/
def itemsD (kvs : List (Key × D)) : List D := (sortK kvs).map fun kv => .tup [keyD kv.1, kv.2]
def fSortI (fo : F) : F := fun env st => (fo env st).bind fun p => (dctAt p.1 p.2).bind fun kvs => (intKs kvs).bind fun ks => if ks.Nodup then some (.lst (itemsD kvs), p.2) else none
theorem items_repL {r : Rf} {H H' : Hp} {st : Store} (si : Sim K r H st) (sm : Same H H') : ∀ {xs : List (Key × V)} {kvs : List (Key × D)}, RepK K r H xs kvs → ∀ {ts : List Addr}, (∀ t ∈ ts, H t = none) → Paired (fun (t : Addr) (q : Key × V) => H' t = some (.tup [kV q.1, q.2])) ts xs →
    RepL K r H' (ts.map V.ref) (kvs.map fun kv => .tup [keyD kv.1, kv.2])
  | _, _, .nil, _, _, p => by cases p; exact .nil
  | _, _, .cons (k := k) a b, _, hn, p => by
    cases p with
    | cons h p => exact .cons (.tupP h (si.free (hn _ List.mem_cons_self)) (.cons (keyD_rep k) (.cons (a.ex (Ex.same r sm)) .nil))) (items_repL si sm b (fun u hu => hn u (List.mem_cons_of_mem _ hu)) p)
theorem de_sortI {e : Expr} {fo : F} {p apos cpos pos : Pos} {k : Nat} (g : GX X k) (ho : DE X e fo) (hg : Gl X "sorted") (hm : X.mg "sorted" = none) (hbase : attributeBase e "items" X.env (eval e X.env) = eval e X.env := by rfl) (hline : (apos.endLine == cpos.line) = true := by rfl)
    (hs : starEach [.Call (.Attribute e "items" apos) [] [] cpos] X.env = (false, eval (.Call (.Attribute e "items" apos) [] [] cpos) X.env) :: starEach [] X.env := by rfl) (hpl : (backTo pos (starEach [] X.env)).any (·.1) = false := by rfl) :
    DE X (.Call (.Name "sorted" p) [.Call (.Attribute e "items" apos) [] [] cpos] [] pos) (fSortI fo) :=
  weakE (pe_callB (cr_sortI g.calm) hg hm (by decide +kernel) (pa_cons (pe_dItems ho hbase hline) pa_nil hs) (he := hs) (hpl := hpl)) fun σ H Q hh => by
  obtain ⟨r, env, st, d, st', he, hs, hf, q⟩ := hh
  obtain ⟨⟨x, s1⟩, h1, h2⟩ := Option.bind_eq_some_iff.mp hf
  obtain ⟨kvs, h3, h4⟩ := Option.bind_eq_some_iff.mp h2
  obtain ⟨ks, h5, h6⟩ := Option.bind_eq_some_iff.mp h4
  by_cases hn : ks.Nodup
  case neg => rw [if_neg hn] at h6; cases h6
  rw [if_pos hn] at h6
  cases h6
  refine ⟨r, env, st, _, _, he, hs, h1, fun v r1 H1 e1 q1 p1 => ?_⟩
  obtain ⟨a, xs, rfl, rd, l⟩ := dctRd p1 q1 h3
  refine ⟨a, xs, rfl, rd, fun p hp => ?_⟩
  have sm : Same H1 (upd H1 p (itemsO p a)) := same_alloc hp
  have q2 := q1.same sm
  have l2 := l.ex (Ex.same r1 sm)
  have rd2 : Rd (upd H1 p (itemsO p a)) a (.dK xs) := by
    rcases rd with h | ⟨o, h⟩
    · exact .inl (sm _ _ h)
    · exact .inr ⟨o, sm _ _ h⟩
  refine ⟨p, a, xs, ks, rfl, upd_same, rd2, by rw [l.keys]; exact intKs_keys h5, hn, fun H' lo ts k1 k2 k3 k4 k5 => ?_⟩
  have l3 := l2.sortK
  have hnl : ¬ r1.av lo := q2.free k2
  exact q _ r1 H' (e1.trans ((q1.ext sm).trans (q2.ext k1))) (q2.same k1) (.lst k3 hnl (items_repL q2 k1 l3 k4 k5))
/-! ### d.clear() -/
def fClear (fo : F) : F := fun env st => (fo env st).bind fun p => match p.1 with
  | .ref n => (match p.2[n]? with | some (.dct _) => some (.non, p.2.set n (.dct [])) | _ => none)
  | _ => none
theorem de_clear {o : Expr} {fo : F} {apos cpos : Pos} (ho : DE X o fo) (hbase : attributeBase o "clear" X.env (eval o X.env) = eval o X.env := by rfl) (hline : (apos.endLine == cpos.line) = true := by rfl) :
    DE X (.Call (.Attribute o "clear" apos) [] [] cpos) (fClear fo) := weakE (pe_dclear ho hbase hline) fun σ H Q hh => by
  obtain ⟨r, env, st, d, st', he, hs, hf, q⟩ := hh
  obtain ⟨⟨x, s1⟩, h1, h2⟩ := Option.bind_eq_some_iff.mp hf
  cases x with
  | ref n =>
    have h2' : (match s1[n]? with | some (.dct _) => some (D.non, s1.set n (.dct [])) | _ => none) = some (d, st') := h2
    split at h2'
    · rename_i kvs hst
      cases h2'
      refine ⟨r, env, st, _, s1, he, hs, h1, fun v r1 H1 e1 q1 p1 => ?_⟩
      obtain ⟨a, rfl, ha⟩ := p1.refI
      obtain ⟨av, xs, hx, l⟩ := q1.ob _ a _ ha hst
      refine ⟨.inr (.inr (.inl ⟨rfl, .inl ⟨xs, hx⟩⟩)), a, xs, rfl, rfl, hx, ?_⟩
      obtain ⟨w1, w2⟩ := q1.set (o := .dK []) (ob := .dct []) ha av ⟨av, [], upd_same, .nil⟩ (fun _ _ z => by rw [hx] at z; cases z)
      exact q _ r1 _ (e1.trans w1) w2 .non
    · cases h2'
  | _ => cases h2
/-! ### xs.insert(i, x) -/
def insAtL (xs : List D) (i : Int) (d : D) : List D := xs.take i.toNat ++ [d] ++ xs.drop i.toNat
def fIns (fo fi fe : F) : F := fun env st => (fo env st).bind fun p => match p.1 with
  | .ref n => if isLs p.2[n]? = true then (fi env p.2).bind fun q => (fe env q.2).bind fun w => match q.1, w.2[n]? with
    | .int i, some (.lst xs) => if xs.length < sizeLine ∧ 0 ≤ i ∧ i < 2 ^ 62 then some (.non, w.2.set n (.lst (insAtL xs i w.1))) else none
    | _, _ => none else none
  | _ => none
theorem RepL.insAt {r : Rf} {H : Hp} {vs : List V} {ds : List D} {v : V} {d : D} (l : RepL K r H vs ds) (q : Rep K r H v d) (i : Nat) : RepL K r H (vs.take i ++ [v] ++ vs.drop i) (ds.take i ++ [d] ++ ds.drop i) := ((l.take i).append (.cons q .nil)).append (l.drop i)
theorem de_insert {o i e : Expr} {fo fi fe : F} {apos cpos : Pos} (ho : DE X o fo) (hi : DE X i fi) (hv : DE X e fe) (hbase : attributeBase o "insert" X.env (eval o X.env) = eval o X.env := by rfl)
    (hfew : ((backTo cpos (starEach [i, e] X.env)).all (fun x => !x.1) && (backToKw cpos (keywordEach [] X.env)).all (fun x => x.1.isSome)
      && decide (([i, e] : List Expr).length + ([] : List Keyword).length + (if ([] : List Keyword).isEmpty then 0 else 1) < 30)) = true := by rfl)
    (hline : (apos.endLine == cpos.line) = true := by rfl) (hs : starEach [i, e] X.env = (false, eval i X.env) :: starEach [e] X.env := by rfl) (hs2 : starEach [e] X.env = (false, eval e X.env) :: starEach [] X.env := by rfl) (hpl : (backTo cpos (starEach [e] X.env)).any (·.1) = false := by rfl) :
    DE X (.Call (.Attribute o "insert" apos) [i, e] [] cpos) (fIns fo fi fe) :=
  weakE (pe_bm PySem.F.plainAttrs_list PySem.F.slot_list_insert PySem.F.type_list_insert mt_insert ho (pa_cons hi (pa_cons hv pa_nil hs2) hs) hbase hfew hline hs hpl) fun σ H Q hh => by
  obtain ⟨r, env, st, d, st', he, hs, hf, q⟩ := hh
  obtain ⟨⟨x, s1⟩, h1, hf1⟩ := Option.bind_eq_some_iff.mp hf
  cases x with
  | ref n =>
    have hf1' : (if isLs s1[n]? = true then (fi env s1).bind fun q => (fe env q.2).bind fun w => match q.1, w.2[n]? with
      | .int i, some (.lst xs) => if xs.length < sizeLine ∧ 0 ≤ i ∧ i < 2 ^ 62 then some (D.non, w.2.set n (.lst (insAtL xs i w.1))) else none
      | _, _ => none else none) = some (d, st') := hf1
    by_cases hl1 : isLs s1[n]? = true
    case neg => rw [if_neg hl1] at hf1'; cases hf1'
    rw [if_pos hl1] at hf1'
    obtain ⟨⟨y, s2⟩, h2, hf2⟩ := Option.bind_eq_some_iff.mp hf1'
    obtain ⟨⟨z, s3⟩, h3, hf3⟩ := Option.bind_eq_some_iff.mp hf2
    dsimp only at hf3
    split at hf3
    · rename_i iv xs hst
      by_cases hc : xs.length < sizeLine ∧ 0 ≤ iv ∧ iv < 2 ^ 62
      case neg => rw [if_neg hc] at hf3; cases hf3
      rw [if_pos hc] at hf3
      cases hf3
      refine ⟨r, env, st, _, s1, he, hs, h1, fun v r1 H1 e1 q1 p1 => ?_⟩
      obtain ⟨a, rfl, ha⟩ := p1.refI
      refine ⟨?_, r1, env, s1, _, s2, he.ext e1, q1, h2, fun v2 r2 H2 e2 q2 p2 => ⟨r2, env, s2, z, s3, (he.ext e1).ext e2, q2, h3, fun v3 r3 H3 e3 q3 p3 => ?_⟩⟩
      · cases hq : s1[n]? with
        | none => rw [hq] at hl1; cases hl1
        | some ob =>
          rw [hq] at hl1
          cases ob with
          | lst us =>
            obtain ⟨av, ys, hx, l⟩ := q1.ob _ a _ ha hq
            exact .inl ⟨rfl, ys, .of hx⟩
          | _ => cases hl1
      · cases p2
        have ha3 := (e2.toEx.trans e3.toEx).get ha
        obtain ⟨av, ys, hx, l⟩ := q3.ob _ a _ ha3 hst
        refine ⟨a, ys, iv, v3, rfl, rfl, hx, by rw [l.len]; exact hc.1, hc.2.1, Int.lt_trans hc.2.2 (by decide), ?_⟩
        have ee : Ex r3 H3 r3 (upd H3 a (.lst (ys.take iv.toNat ++ [v3] ++ ys.drop iv.toNat))) := ⟨⟨[], by simp⟩, fun b o w m => by rw [upd_ne (fun y => m (by rw [y]; exact av))]; exact w, fun b w m => absurd w m⟩
        obtain ⟨w1, w2⟩ := q3.set (o := .lst (ys.take iv.toNat ++ [v3] ++ ys.drop iv.toNat)) (ob := .lst (insAtL xs iv z)) ha3 av ⟨av, _, upd_same, (l.insAt p3 _).ex ee⟩ (fun _ _ z => by rw [hx] at z; cases z)
        exact q _ r3 _ (((e1.trans e2).trans e3).trans w1) w2 .non
    · cases hf3
  | _ => cases hf1
end
end DL
/-! A dict of the store is locked while a statement or an expression runs. -/
namespace DL
open PySem PySem.Spec PyProof.Rows L2
variable {K : PySem.W.Frag}
def Rf.lock (r : Rf) (a : Addr) : Rf := ⟨r.adr, r.av, fun p => r.lk p ∨ p = a⟩
theorem lock_ex {r : Rf} {H : Hp} {a : Addr} {o : HO} (av : r.av a) : Ex r H (r.lock a) (upd H a o) := ⟨⟨[], by simp [Rf.lock]⟩, fun b u h n => by rw [upd_ne (fun y => n (by rw [y]; exact av))]; exact h, fun b h n => absurd h n⟩
theorem lock_sim {r : Rf} {H : Hp} {st : Store} (s : Sim K r H st) {n : Nat} {a : Addr} {xs : List (Key × V)} {kvs : List (Key × D)} (o : Obj) (ha : r.adr[n]? = some a) (hx : H a = some (.dK xs)) (l : RepK K r H xs kvs) (av : r.av a) :
    Sim K (r.lock a) (upd H a (.frz o (.dK xs))) (st.set n (.ldc kvs)) := by
  have e := lock_ex (H := H) (o := .frz o (.dK xs)) av
  have nlk : ∀ q, r.lk q → q ≠ a := fun q z y => by
    obtain ⟨o, u, h⟩ := s.lkd q z
    rw [y, hx] at h
    cases h
  refine ⟨by rw [List.length_set]; exact s.len, s.nd, fun m b x h1 h2 => ?_, fun b v => ?_, fun b v => ?_, fun b v => ?_⟩
  · by_cases z : n = m
    · subst z
      have h1' : r.adr[n]? = some b := h1
      rw [ha] at h1'
      cases h1'
      by_cases hl : n < st.length
      · rw [List.getElem?_set_self hl] at h2
        cases h2
        exact ⟨av, .inr rfl, o, xs, upd_same, l.ex e⟩
      · rw [List.getElem?_eq_none (by rw [List.length_set]; omega)] at h2
        cases h2
    · rw [List.getElem?_set_ne z] at h2
      have nb : b ≠ a := fun y => z (by
        subst y
        obtain ⟨l1, e1⟩ := List.getElem?_eq_some_iff.mp ha
        obtain ⟨l2, e2⟩ := List.getElem?_eq_some_iff.mp h1
        exact (List.getElem_inj s.nd).mp (e1.trans e2.symm))
      exact (s.ob m b x h1 h2).ex e (fun v => ⟨by rw [upd_ne nb], v⟩) (fun v => .inl v)
  · by_cases z : b = a
    · exact ⟨_, by rw [z]; exact upd_same⟩
    · rw [upd_ne z]; exact s.there b v
  · by_cases z : b = a
    · exact ⟨_, by rw [z]; exact upd_same⟩
    · rw [upd_ne z]; exact s.old b v
  · by_cases z : b = a
    · exact ⟨_, _, by rw [z]; exact upd_same⟩
    · rw [upd_ne z]
      rcases v with v | v
      · exact s.lkd b v
      · exact absurd v z
/-- .. and opened again -/
theorem unlock_sim {r r2 : Rf} {H H2 : Hp} {st st2 : Store} (s : Sim K r H st) {n : Nat} {a : Addr} {xs : List (Key × V)} {k2 : List (Key × D)} {o : Obj} (ha : r.adr[n]? = some a) (hx : H a = some (.dK xs)) (av : r.av a)
    (e : Ext (r.lock a) (upd H a (.frz o (.dK xs))) r2 H2) (s2 : Sim K r2 H2 st2) (h2 : st2[n]? = some (.ldc k2)) :
    H2 a = some (.frz o (.dK xs)) ∧ Ext r H ⟨r2.adr, r2.av, r.lk⟩ (upd H2 a (.dK xs)) ∧ Sim K ⟨r2.adr, r2.av, r.lk⟩ (upd H2 a (.dK xs)) (st2.set n (.dct k2)) ∧ Ex r2 H2 ⟨r2.adr, r2.av, r.lk⟩ (upd H2 a (.dK xs)) := by
  have hm := List.mem_of_getElem? ha
  have ha2 : r2.adr[n]? = some a := e.toEx.get ha
  have h2a : H2 a = some (.frz o (.dK xs)) := by rw [e.hd.lks a (.inr rfl)]; exact upd_same
  have nla : ¬ r.lk a := fun z => by
    obtain ⟨o, u, h⟩ := s.lkd a z
    rw [hx] at h
    cases h
  obtain ⟨av2, lk2, o2, xs2, hx2, l2⟩ := s2.ob n a _ ha2 h2
  rw [h2a] at hx2
  cases hx2
  have ex : Ex r2 H2 ⟨r2.adr, r2.av, r.lk⟩ (upd H2 a (.dK xs)) := ⟨⟨[], by simp⟩, fun b u h n => by rw [upd_ne (fun y => n (by rw [y]; exact av2))]; exact h, fun b h n => absurd h n⟩
  have lke : ∀ p, r2.lk p ↔ r.lk p ∨ p = a := fun p => e.hd.lke p
  refine ⟨h2a, ⟨⟨e.toEx.pre, fun b u h nn => ?_, fun b h nn => ?_⟩, fun b v nn => ?_, fun _ => Iff.rfl, fun b v => ?_⟩, ⟨by rw [List.length_set]; exact s2.len, s2.nd, fun m b x h1 h3 => ?_, fun b v => ?_, fun b v => ?_, fun b v => ?_⟩, ex⟩
  · have ne : b ≠ a := fun y => nn (by rw [y]; exact av)
    rw [upd_ne ne]
    exact e.toEx.keep b u (by rw [upd_ne ne]; exact h) nn
  · have := e.toEx.new b h nn
    have ne : b ≠ a := fun y => nn (by rw [y]; exact av)
    rwa [upd_ne ne] at this
  · have ne : b ≠ a := fun y => nn (by rw [y]; exact hm)
    obtain ⟨z1, z2, z3⟩ := e.hd.hid b v nn
    rw [upd_ne ne] at z1
    exact ⟨by rw [upd_ne ne]; exact z1, z2, z3⟩
  · have ne : b ≠ a := fun y => nla (by rw [← y]; exact v)
    have := e.hd.lks b (.inl v)
    rw [upd_ne ne] at this
    rw [upd_ne ne]
    exact this
  · by_cases z : n = m
    · subst z
      have h1' : r2.adr[n]? = some b := h1
      rw [ha2] at h1'
      cases h1'
      have hl := (List.getElem?_eq_some_iff.mp h2).1
      rw [List.getElem?_set_self hl] at h3
      cases h3
      exact ⟨av2, xs, upd_same, l2.ex ex⟩
    · rw [List.getElem?_set_ne z] at h3
      have nb : b ≠ a := fun y => z (by
        subst y
        obtain ⟨l1, e1⟩ := List.getElem?_eq_some_iff.mp ha2
        obtain ⟨l2, e2⟩ := List.getElem?_eq_some_iff.mp h1
        exact (List.getElem_inj s2.nd).mp (e1.trans e2.symm))
      exact (s2.ob m b x h1 h3).ex ex (fun v => ⟨by rw [upd_ne nb], v⟩) (fun v => ((lke b).mp v).resolve_right nb)
  · by_cases z : b = a
    · exact ⟨_, by rw [z]; exact upd_same⟩
    · rw [upd_ne z]; exact s2.there b v
  · by_cases z : b = a
    · exact ⟨_, by rw [z]; exact upd_same⟩
    · rw [upd_ne z]; exact s2.old b v
  · have ne : b ≠ a := fun y => nla (by rw [← y]; exact v)
    rw [upd_ne ne]
    exact s2.lkd b ((lke b).mpr (.inl v))
section
variable {X : Cx} {W : WXd}
/-- which object is locked: what an expression says -/
def whichR (f : F) : Lo → Store → Option Nat := fun env st => match f env st with | some (.ref n, _) => some n | _ => none
def ldcAt (n : Nat) (st : Store) : Option (List (Key × D)) := match st[n]? with | some (.ldc k) => some k | _ => none
def dctIn (n : Nat) (st : Store) : Option (List (Key × D)) := match st[n]? with | some (.dct k) => some k | _ => none
theorem ldcAt_some {n : Nat} {st : Store} {k : List (Key × D)} (h : ldcAt n st = some k) : st[n]? = some (.ldc k) := by
  unfold ldcAt at h
  split at h
  · rename_i q; cases h; exact q
  · cases h
theorem dctIn_some {n : Nat} {st : Store} {k : List (Key × D)} (h : dctIn n st = some k) : st[n]? = some (.dct k) := by
  unfold dctIn at h
  split at h
  · rename_i q; cases h; exact q
  · cases h
def sLock (w : Lo → Store → Option Nat) (g : FS) : FS := fun env st => (w env st).bind fun n => (dctIn n st).bind fun kvs => (g env (st.set n (.ldc kvs))).bind fun p => match p.1 with
  | .er _ _ _ => none
  | o => (ldcAt n p.2.2).map fun k2 => (o, p.2.1, p.2.2.set n (.dct k2))
theorem ds_lock (w : Lo → Store → Option Nat) {s : Stmt} {g : FS} (h : DS X W s g) : DS X W s (sLock w g) := weakS (ps_lock h) fun D' σ H hh => by
  obtain ⟨r, env, st, o, env', st', he, hs, hf, q⟩ := hh
  obtain ⟨n, h1, hf1⟩ := Option.bind_eq_some_iff.mp hf
  obtain ⟨kvs, h2, hf2⟩ := Option.bind_eq_some_iff.mp hf1
  obtain ⟨⟨o1, e1, s1⟩, h3, hf3⟩ := Option.bind_eq_some_iff.mp hf2
  have hst := dctIn_some h2
  have hlt := (List.getElem?_eq_some_iff.mp hst).1
  obtain ⟨a, ha⟩ : ∃ a, r.adr[n]? = some a := ⟨r.adr[n]'(by rw [hs.len]; exact hlt), List.getElem?_eq_getElem (by rw [hs.len]; exact hlt)⟩
  obtain ⟨av, xs, hx, l⟩ := hs.ob n a _ ha hst
  refine ⟨a, _, hx, trivial, fun od => ?_⟩
  have ls := lock_sim hs od ha hx l av
  have lex := lock_ex (r := r) (H := H) (o := .frz od (.dK xs)) av
  -- what is left once it runs through
  have fin : (∃ k2, ldcAt n s1 = some k2 ∧ (∃ o2, o2 = o1 ∧ o = o2 ∧ env' = e1 ∧ st' = s1.set n (.dct k2))) → OutOk X.K W (r.lock a) (upd H a (.frz od (.dK xs))) ⟨fun σ' H' => H' a = some (.frz od (.dK xs)) ∧ D'.nx σ' (upd H' a (.dK xs)), fun v H' => H' a = some (.frz od (.dK xs)) ∧ D'.rt v (upd H' a (.dK xs)), fun σ' H' => H' a = some (.frz od (.dK xs)) ∧ D'.bk σ' (upd H' a (.dK xs)), fun σ' H' => H' a = some (.frz od (.dK xs)) ∧ D'.ct σ' (upd H' a (.dK xs))⟩ e1 s1 o1 ∨ ∃ c f d, o1 = .er c f d := by
    rintro ⟨k2, h4, o2, rfl, rfl, rfl, rfl⟩
    have h4' := ldcAt_some h4
    cases o with
    | nx =>
      exact .inl fun σ' r' H' ex he' hs' => by
        obtain ⟨u1, u2, u3, u4⟩ := unlock_sim hs ha hx av ex hs' h4'
        exact ⟨u1, q σ' _ _ u2 (he'.exx u4) u3⟩
    | bk =>
      exact .inl fun σ' r' H' ex he' hs' => by
        obtain ⟨u1, u2, u3, u4⟩ := unlock_sim hs ha hx av ex hs' h4'
        exact ⟨u1, q σ' _ _ u2 (he'.exx u4) u3⟩
    | ct =>
      exact .inl fun σ' r' H' ex he' hs' => by
        obtain ⟨u1, u2, u3, u4⟩ := unlock_sim hs ha hx av ex hs' h4'
        exact ⟨u1, q σ' _ _ u2 (he'.exx u4) u3⟩
    | rt d =>
      exact .inl fun v r' H' ex hs' rv => by
        obtain ⟨u1, u2, u3, u4⟩ := unlock_sim hs ha hx av ex hs' h4'
        exact ⟨u1, q v _ _ u2 u3 (rv.ex u4)⟩
    | er c f d => exact .inr ⟨c, f, d, rfl⟩
  have key : OutOk X.K W (r.lock a) (upd H a (.frz od (.dK xs))) ⟨fun σ' H' => H' a = some (.frz od (.dK xs)) ∧ D'.nx σ' (upd H' a (.dK xs)), fun v H' => H' a = some (.frz od (.dK xs)) ∧ D'.rt v (upd H' a (.dK xs)), fun σ' H' => H' a = some (.frz od (.dK xs)) ∧ D'.bk σ' (upd H' a (.dK xs)), fun σ' H' => H' a = some (.frz od (.dK xs)) ∧ D'.ct σ' (upd H' a (.dK xs))⟩ e1 s1 o1 := by
    cases o1 with
    | er c f d => cases hf3
    | nx =>
      obtain ⟨k2, h4, h5⟩ := Option.map_eq_some_iff.mp (show ((ldcAt n s1).map fun k2 => (Out.nx, e1, s1.set n (.dct k2))) = some (o, env', st') from hf3)
      cases h5
      exact (fin ⟨k2, h4, _, rfl, rfl, rfl, rfl⟩).resolve_right (fun ⟨c, f, d, z⟩ => by cases z)
    | bk =>
      obtain ⟨k2, h4, h5⟩ := Option.map_eq_some_iff.mp (show ((ldcAt n s1).map fun k2 => (Out.bk, e1, s1.set n (.dct k2))) = some (o, env', st') from hf3)
      cases h5
      exact (fin ⟨k2, h4, _, rfl, rfl, rfl, rfl⟩).resolve_right (fun ⟨c, f, d, z⟩ => by cases z)
    | ct =>
      obtain ⟨k2, h4, h5⟩ := Option.map_eq_some_iff.mp (show ((ldcAt n s1).map fun k2 => (Out.ct, e1, s1.set n (.dct k2))) = some (o, env', st') from hf3)
      cases h5
      exact (fin ⟨k2, h4, _, rfl, rfl, rfl, rfl⟩).resolve_right (fun ⟨c, f, d, z⟩ => by cases z)
    | rt v =>
      obtain ⟨k2, h4, h5⟩ := Option.map_eq_some_iff.mp (show ((ldcAt n s1).map fun k2 => (Out.rt v, e1, s1.set n (.dct k2))) = some (o, env', st') from hf3)
      cases h5
      exact (fin ⟨k2, h4, _, rfl, rfl, rfl, rfl⟩).resolve_right (fun ⟨c, f, d, z⟩ => by cases z)
  exact ⟨r.lock a, env, _, o1, e1, s1, he.exx lex, ls, h3, key⟩
def fLock (w : Lo → Store → Option Nat) (g : F) : F := fun env st => (w env st).bind fun n => (dctIn n st).bind fun kvs => (g env (st.set n (.ldc kvs))).bind fun p => (ldcAt n p.2).map fun k2 => (p.1, p.2.set n (.dct k2))
theorem de_lock (w : Lo → Store → Option Nat) {e : Expr} {g : F} (h : DE X e g) : DE X e (fLock w g) := weakE (pe_lock h) fun σ H Q hh => by
  obtain ⟨r, env, st, d, st', he, hs, hf, q⟩ := hh
  obtain ⟨n, h1, hf1⟩ := Option.bind_eq_some_iff.mp hf
  obtain ⟨kvs, h2, hf2⟩ := Option.bind_eq_some_iff.mp hf1
  obtain ⟨⟨d1, s1⟩, h3, hf3⟩ := Option.bind_eq_some_iff.mp hf2
  obtain ⟨k2, h4, h5⟩ := Option.map_eq_some_iff.mp hf3
  cases h5
  have hst := dctIn_some h2
  have hlt := (List.getElem?_eq_some_iff.mp hst).1
  obtain ⟨a, ha⟩ : ∃ a, r.adr[n]? = some a := ⟨r.adr[n]'(by rw [hs.len]; exact hlt), List.getElem?_eq_getElem (by rw [hs.len]; exact hlt)⟩
  obtain ⟨av, xs, hx, l⟩ := hs.ob n a _ ha hst
  refine ⟨a, _, hx, trivial, fun od => ?_⟩
  have ls := lock_sim hs od ha hx l av
  have lex := lock_ex (r := r) (H := H) (o := .frz od (.dK xs)) av
  refine ⟨r.lock a, env, _, _, s1, he.exx lex, ls, h3, fun v r' H' ex hs' rv => ?_⟩
  obtain ⟨u1, u2, u3, u4⟩ := unlock_sim hs ha hx av ex hs' (ldcAt_some h4)
  exact ⟨u1, q v _ _ u2 u3 (rv.ex u4)⟩
/-! ### the walk of a dict that is a value or locked -/
def frzAt : D → Store → Option (List (Key × D)) := fun d st => match d with
  | .dct kvs => some kvs
  | .ref n => ldcAt n st
  | _ => none
def kKeys (kvs : List (Key × D)) : List D := kvs.map fun kv => keyD kv.1
def kItems (kvs : List (Key × D)) : List D := kvs.map fun kv => .tup [keyD kv.1, kv.2]
def kVals (kvs : List (Key × D)) : List D := kvs.map fun kv => kv.2
def iFrz (a : List (Key × D) → List D) (f : F) : FI := fun env st => (f env st).bind fun p => (frzAt p.1 p.2).map fun kvs => (a kvs, p.2)
/-- it stays -/
theorem frzRd {r : Rf} {H : Hp} {v : V} {d : D} {st : Store} {kvs : List (Key × D)} (h : Rep K r H v d) (si : Sim K r H st) (e : frzAt d st = some kvs) : ∃ a o xs, v = .ref a ∧ RepK K r H xs kvs ∧ H a = some (.frz o (.dK xs)) ∧ ∀ r' H', Ext r H r' H' → H' a = some (.frz o (.dK xs)) := by
  unfold frzAt at e
  split at e
  · cases e
    cases h with
    | dct a b c => exact ⟨_, _, _, rfl, c, a, fun r' H' x => x.keep _ _ a b⟩
  · rename_i n
    obtain ⟨a, rfl, ha⟩ := h.refI
    obtain ⟨av, lk, o, xs, hx, l⟩ := si.ob n a _ ha (ldcAt_some e)
    exact ⟨a, o, xs, rfl, l, hx, fun r' H' x => by rw [x.hd.lks a lk]; exact hx⟩
  · cases e
theorem di_keysF {tg iter : Expr} {f : F} (h : DE X iter f) : DI X tg iter (iFrz kKeys f) := weakI (pi_keys h) fun σ H R hh => by
  obtain ⟨r, env, st, ds, st', he, hs, hf, q⟩ := hh
  obtain ⟨⟨d, s1⟩, h1, h2⟩ := Option.bind_eq_some_iff.mp hf
  obtain ⟨kvs, h3, h4⟩ := Option.map_eq_some_iff.mp h2
  cases h4
  refine ⟨r, env, st, d, _, he, hs, h1, fun v r1 H1 e1 q1 p1 => ?_⟩
  obtain ⟨a, o, xs, rfl, c, hx, stay⟩ := frzRd p1 q1 h3
  refine ⟨a, o, rfl, .inl ⟨xs, hx, q _ r1 H1 e1 q1 fun r2 H2 st2 e2 s2 => ?_⟩⟩
  have a2 := stay r2 H2 e2
  refine ⟨fun i hi => ⟨a2, by rw [c.len]; simpa [kKeys] using hi⟩, fun i d hd => ?_⟩
  unfold kKeys at hd
  rw [List.getElem?_map] at hd
  obtain ⟨⟨k, e⟩, hk, rfl⟩ := Option.map_eq_some_iff.mp hd
  obtain ⟨v, hv, rv⟩ := c.get hk
  refine ⟨⟨a2, (List.getElem?_eq_some_iff.mp hv).1⟩, fun x H3 ⟨eH, k', v', hk', ex⟩ => ?_⟩
  subst eH
  rw [hv] at hk'
  cases hk'
  subst ex
  exact ⟨r2, .refl _ _, s2, keyD_rep k⟩
theorem di_itemsF {e : Expr} {f : F} {elts : List Expr} {kk : Nat} {tpos apos cpos : Pos} (h : DE X e f) (hbase : attributeBase e "items" X.env (eval e X.env) = eval e X.env := by rfl) (hline : (apos.endLine == cpos.line) = true := by rfl) :
    DIR X (RepI X.K) (.Tuple elts kk tpos) (.Call (.Attribute e "items" apos) [] [] cpos) (iFrz kItems f) := weakI (pi_items h hbase hline) fun σ H R hh => by
  obtain ⟨r, env, st, ds, st', he, hs, hf, q⟩ := hh
  obtain ⟨⟨d, s1⟩, h1, h2⟩ := Option.bind_eq_some_iff.mp hf
  obtain ⟨kvs, h3, h4⟩ := Option.map_eq_some_iff.mp h2
  cases h4
  refine ⟨r, env, st, d, _, he, hs, h1, fun v r1 H1 e1 q1 p1 => ?_⟩
  obtain ⟨a, o, xs, rfl, c, hx, stay⟩ := frzRd p1 q1 h3
  refine ⟨a, o, xs, rfl, hx, q _ r1 H1 e1 q1 fun r2 H2 st2 e2 s2 => ?_⟩
  have a2 := stay r2 H2 e2
  have c2 := c.ext e2
  refine ⟨fun i hi => ⟨a2, by rw [c.len]; simpa [kItems] using hi⟩, fun i d hd => ?_⟩
  unfold kItems at hd
  rw [List.getElem?_map] at hd
  obtain ⟨⟨k, e⟩, hk, rfl⟩ := Option.map_eq_some_iff.mp hd
  obtain ⟨v, hv, rv⟩ := c2.get hk
  refine ⟨⟨a2, (List.getElem?_eq_some_iff.mp hv).1⟩, fun x H3 ⟨T, k', v', hk', ex, hT, eH⟩ => ?_⟩
  subst eH
  rw [hv] at hk'
  cases hk'
  subst ex
  have sm : Same H2 (upd H2 T (.tup [kV k, v])) := same_alloc hT
  exact ⟨r2, s2.ext sm, s2.same sm, T, _, _, rfl, rfl, .inl (.inl upd_same), .cons (keyD_rep k) (.cons (rv.ext (s2.ext sm)) .nil)⟩
theorem di_valsF {tg e : Expr} {f : F} {apos cpos : Pos} (h : DE X e f) (hbase : attributeBase e "values" X.env (eval e X.env) = eval e X.env := by rfl) (hline : (apos.endLine == cpos.line) = true := by rfl) :
    DI X tg (.Call (.Attribute e "values" apos) [] [] cpos) (iFrz kVals f) := weakI (pi_values h hbase hline) fun σ H R hh => by
  obtain ⟨r, env, st, ds, st', he, hs, hf, q⟩ := hh
  obtain ⟨⟨d, s1⟩, h1, h2⟩ := Option.bind_eq_some_iff.mp hf
  obtain ⟨kvs, h3, h4⟩ := Option.map_eq_some_iff.mp h2
  cases h4
  refine ⟨r, env, st, d, _, he, hs, h1, fun v r1 H1 e1 q1 p1 => ?_⟩
  obtain ⟨a, o, xs, rfl, c, hx, stay⟩ := frzRd p1 q1 h3
  refine ⟨a, o, xs, rfl, hx, q _ r1 H1 e1 q1 fun r2 H2 st2 e2 s2 => ?_⟩
  have a2 := stay r2 H2 e2
  have c2 := c.ext e2
  refine ⟨fun i hi => ⟨a2, by rw [c.len]; simpa [kVals] using hi⟩, fun i d hd => ?_⟩
  unfold kVals at hd
  rw [List.getElem?_map] at hd
  obtain ⟨⟨k, e⟩, hk, rfl⟩ := Option.map_eq_some_iff.mp hd
  obtain ⟨v, hv, rv⟩ := c2.get hk
  refine ⟨⟨a2, (List.getElem?_eq_some_iff.mp hv).1⟩, fun x H3 ⟨eH, k', hk'⟩ => ?_⟩
  subst eH
  rw [hv] at hk'
  cases hk'
  exact ⟨r2, .refl _ _, s2, rv⟩
end
end DL
/-! {k: v for x in xs if ..}: a new dict of the store. -/
namespace DL
open PySem PySem.Spec PyProof.Rows L2
variable {K : PySem.W.Frag}
def loopD (is : List Nat) (bd : FB) (t : FT) (fk fv : F) : List D → List (Key × D) → Lo → Store → Option (List (Key × D) × Store)
  | [], acc, _, st => some (acc, st)
  | d :: ds, acc, env, st => (bd d).bind fun vs => (t (setL is vs env) st).bind fun p => if p.1 = true then (fk (setL is vs env) p.2).bind fun k => (asKey k.1).bind fun kk => (fv (setL is vs env) k.2).bind fun v =>
      if acc.length < sizeLine then loopD is bd t fk fv ds (putD acc kk v.1) env v.2 else none
    else loopD is bd t fk fv ds acc env p.2
def fDComp (fi : FI) (is : List Nat) (bd : FB) (t : FT) (fk fv : F) : F := fun env st => (fi env st).bind fun p => (loopD is bd t fk fv p.1 [] (wipeL env is) p.2).map fun q => (.ref q.2.length, q.2 ++ [.dct q.1])
theorem upd_self {H : Hp} {p : Addr} {o : HO} (h : H p = some o) : upd H p o = H := by
  funext b
  by_cases z : b = p
  · rw [z, upd_same, h]
  · rw [upd_ne z]
theorem dcompReads {RR : RD} {fi : FI} {is : List Nat} {bd : FB} {g : TG} {t : FT} {fk fv : F} (hg : TgOkR K RR g is bd) (σ : L2.St) (H : Hp) (Q : VK) (hh : tD K (fDComp fi is bd t fk fv) σ H Q) : tDc (tIR K RR fi) g (tT K t) (tD K fk) (tD K fv) is σ H Q := by
  obtain ⟨r, env, st, d, st', he, hs, hf, q⟩ := hh
  obtain ⟨⟨ds, s1⟩, h1, h2⟩ := Option.bind_eq_some_iff.mp hf
  obtain ⟨⟨zs, s2⟩, h3, h4⟩ := Option.map_eq_some_iff.mp h2
  cases h4
  refine ⟨r, env, st, ds, s1, he, hs, h1, fun J r1 H1 e1 q1 j1 Dl hD => ?_⟩
  have m0 := Mkg.start (o := .dK []) q1 hD
  refine ⟨fun k m H2 => m = ds.length - k ∧ k ≤ ds.length ∧ ∃ r2 st2 acc us, Mkg K r1 H1 Dl r2 H2 st2 ∧ EnvR K r2 H2 (DL.wipeL env is) (wipe σ is) ∧ H2 Dl = some (.dK us) ∧ RepK K r2 H2 us acc ∧
    loopD is bd t fk fv (ds.drop k) acc (DL.wipeL env is) st2 = some (zs, s2), ⟨_, rfl, Nat.zero_le _, r1.hide Dl, s1, [], [], m0, ((he.ext e1).ext m0.ex).wipeL is, upd_same, .nil, h3⟩, ?_⟩
  rintro k m H2 ⟨rfl, hk, r2, st2, acc, us, mk, wp, hus, racc, hl⟩
  obtain ⟨jst, jgo⟩ := j1 r2 H2 st2 mk.ex mk.sim
  by_cases hlt : k < ds.length
  case neg =>
    have e : k = ds.length := by omega
    subst e
    rw [List.drop_length] at hl
    cases hl
    have hid : Hid K r2 H2 s2 Dl := ⟨mk.av, mk.na, mk.nl, mk.sim⟩
    have us2 := upd_self hus
    have exa : Ex r2 H2 (r2.add Dl) (upd H2 Dl (.dK us)) := ⟨⟨[Dl], rfl⟩, fun q x z n => by rw [us2]; exact z, fun q z n => absurd z n⟩
    obtain ⟨w1, w2, w3⟩ := hid.add (o := .dK us) (ob := .dct zs) mk.ex q1 hD ⟨hid.av, us, upd_same, racc.ex exa⟩
    rw [us2] at w1 w2 w3
    exact .inl ⟨jst _ (Nat.le_refl _), q (.ref Dl) _ H2 (e1.trans w1) w2 (w3 _ rfl)⟩
  case pos =>
    have hd : ds[k]? = some ds[k] := List.getElem?_eq_getElem hlt
    rw [List.drop_eq_getElem_cons hlt] at hl
    obtain ⟨vals, hv, hl1⟩ := Option.bind_eq_some_iff.mp hl
    obtain ⟨⟨b, st3⟩, hb, hl2⟩ := Option.bind_eq_some_iff.mp hl1
    obtain ⟨j2, j3⟩ := jgo k _ hd
    refine .inr ⟨j2, fun H' => k + 1 ≤ ds.length ∧ ∃ r2 st2 acc us, Mkg K r1 H1 Dl r2 H' st2 ∧ EnvR K r2 H' (DL.wipeL env is) (wipe σ is) ∧ H' Dl = some (.dK us) ∧ RepK K r2 H' us acc ∧
      loopD is bd t fk fv (ds.drop (k + 1)) acc (DL.wipeL env is) st2 = some (zs, s2), fun H' ⟨hk', w⟩ => ⟨ds.length - (k + 1), by omega, rfl, hk', w⟩, fun x H3 y => ?_⟩
    obtain ⟨r3, e3, s3, rx⟩ := j3 x H3 y
    have wp3 := wp.ext e3
    refine hg r3 H3 x _ _ _ vals rx hv fun vs rvs => ⟨wipe_setL σ is vs, ?_⟩
    have he3 : EnvR K r3 H3 (DL.setL is vals (DL.wipeL env is)) (DL.setL is vs (wipe σ is)) := wp3.setL rvs
    refine ⟨r3, _, st2, b, st3, he3, s3, hb, fun r4 H4 e4 s4 => ?_⟩
    cases b with
    | false =>
      rw [if_neg Bool.false_ne_true] at hl2 ⊢
      obtain ⟨m4, k4⟩ := mk.step (e3.trans e4) s4
      exact ⟨hlt, r4, st3, acc, us, m4, wp3.ext e4, k4.trans hus, racc.ext (e3.trans e4), hl2⟩
    | true =>
      rw [if_pos rfl] at hl2 ⊢
      obtain ⟨⟨kd, st4⟩, hkd, hl3⟩ := Option.bind_eq_some_iff.mp hl2
      obtain ⟨kk, hkk, hl4⟩ := Option.bind_eq_some_iff.mp hl3
      obtain ⟨⟨vd, st5⟩, hvd, hl5⟩ := Option.bind_eq_some_iff.mp hl4
      by_cases hz : acc.length < sizeLine
      case neg => rw [if_neg hz] at hl5; cases hl5
      rw [if_pos hz] at hl5
      refine ⟨r4, _, st3, kd, st4, he3.ext e4, s4, hkd, fun kv r5 H5 e5 s5 rk => ⟨r5, _, st4, vd, st5, (he3.ext e4).ext e5, s5, hvd, fun vv r6 H6 e6 s6 rv => ?_⟩⟩
      have e26 : Ext r2 H2 r6 H6 := ((e3.trans e4).trans e5).trans e6
      obtain ⟨m6, k6⟩ := mk.step e26 s6
      obtain ⟨m7, g1⟩ := m6.put q1 hD (.dK (putK us kk vv))
      refine ⟨us, kk, asKey_rep rk hkk, k6.trans hus, by rw [racc.len]; exact hz, hlt, r6, st5, putD acc kk vd, putK us kk vv, m7, (((wp3.ext e4).ext e5).ext e6).exx g1, upd_same, ((racc.ext e26).ex g1).put (rv.ex g1), hl5⟩
section
variable {X : Cx} {W : WXd} {tg iter : Expr}
theorem de_dc {RR : RD} {kx vx : Expr} {ifs : List Expr} {scope : Scope} {own : List (Str × Nat)} {pos : Pos} {fi : FI} {bd : FB} {g : TG} {t : FT} {fk fv : F} (hc : X.calm = true) (hN : X.N.Nodup) (hi : DIR X RR tg iter fi) (ok : BlkOk X.N X.env.scope scope own)
    (tk : TgOkR X.K RR g (own.map (·.2)) bd)
    (hg : ∀ (s : Shared) (H : Hp) (C : Addr) (cl : List (Str × Addr)) (fp : List Addr), PG (X.blk s H scope (compEnvC scope cl C X.env) fp) tg g) (ht : ∀ (s : Shared) (H : Hp) (C : Addr) (cl : List (Str × Addr)) (fp : List Addr), DTs (X.blk s H scope (compEnvC scope cl C X.env) fp) ifs t)
    (hk : ∀ (s : Shared) (H : Hp) (C : Addr) (cl : List (Str × Addr)) (fp : List Addr), DE (X.blk s H scope (compEnvC scope cl C X.env) fp) kx fk)
    (he : ∀ (s : Shared) (H : Hp) (C : Addr) (cl : List (Str × Addr)) (fp : List Addr), DE (X.blk s H scope (compEnvC scope cl C X.env) fp) vx fv) (hs : ∀ x, foldedSetIterable iter X.env x = pure x := by intro _; rfl) :
    DE X (.DictComp kx vx [⟨tg, iter, ifs, 0⟩] scope pos) (fDComp fi (own.map (·.2)) bd t fk fv) := weakE (pe_dc hc hN hi ok hg ht hk he hs) fun σ H Q hh => dcompReads tk σ H Q hh
theorem ps_setDc {i : Nat} {y : Str} {py : Pos} {kx vx tg iter : Expr} {ifs : List Expr} {scope : Scope} {own : List (Str × Nat)} {pos spos : Pos} {wi : TI} {g : TG} {tt : TT} {tk te : TE} (hc : X.calm = true) (hN : X.N.Nodup) (hy : X.N[i]? = some y) (hyl : X.env.scope.names.lookup y = some .local)
    (hsw : swapsWith (.DictComp kx vx [⟨tg, iter, ifs, 0⟩] scope pos) (some (.Name y py)) spos.line X.env = pure true) (hi : PI X tg iter wi) (ok : BlkOk X.N X.env.scope scope own)
    (hg : ∀ (s : Shared) (H : Hp) (C : Addr) (cl : List (Str × Addr)) (fp : List Addr), PG (X.blk s H scope (compEnvC scope cl C X.env) fp) tg g) (ht : ∀ (s : Shared) (H : Hp) (C : Addr) (cl : List (Str × Addr)) (fp : List Addr), PTs (X.blk s H scope (compEnvC scope cl C X.env) fp) ifs tt)
    (hk : ∀ (s : Shared) (H : Hp) (C : Addr) (cl : List (Str × Addr)) (fp : List Addr), PE (X.blk s H scope (compEnvC scope cl C X.env) fp) kx tk)
    (he : ∀ (s : Shared) (H : Hp) (C : Addr) (cl : List (Str × Addr)) (fp : List Addr), PE (X.blk s H scope (compEnvC scope cl C X.env) fp) vx te) (hs : ∀ x, foldedSetIterable iter X.env x = pure x := by intro _; rfl) :
    PS X (.Assign [.Name y py] (.DictComp kx vx [⟨tg, iter, ifs, 0⟩] scope pos) spos) (tAsg (tDc wi g tt tk te (own.map (·.2))) (gName i)) := by
  refine ⟨fun pins s σ H D I h => ?_⟩
  rw [exec_Assign_Name_used _ _ _ _ hsw]
  refine wpAny_bind (wpAny_standAt (wpAny_bind ?_))
  show wpAny _ X.A (do let _ ← comprehension (.DictComp kx vx [⟨tg, iter, ifs, 0⟩] scope pos) scope X.env (firstIterPos [⟨tg, iter, ifs, 0⟩] pos) newDict false (eval iter X.env) (some (assign (.Name y py) X.env))) _ _ s
  have h : tDc wi g tt tk te (own.map (·.2)) σ H (fun x H1 => gName i x σ H1 D.nx) := h
  refine wpAny_bind (thn (dc_core (Qf := fun _ s' => SP X pins D .next s') hc hN I hi ok hg ht hk he hs h fun L C s' m H' I' q hn f => ?_) fun _ s' hq => wpAny_pure (wpAny_pure hq))
  show wpAny _ _ (assign (.Name y py) X.env (.ref L)) _ _ _
  refine wpAny_assign_Name (store_ok2 (v := V.ref L) I' hN hy (.inl hyl) rfl (fun s2 I2 ⟨a, sb, ha⟩ => ?_) (.inr hyl))
  obtain ⟨f0, f1, f2, f3, f4, f5⟩ := f
  have haC : C ≠ a := by
    rcases ha with z | z
    · rw [z]; exact f1
    · exact fun e => f4 y a z e.symm
  refine ⟨m, hn.sameBut sb haC, fun h3 sb3 => ?_⟩
  exact ⟨_, H', I2.turned (t' := s2.toks) (fun b o hb e => (sb3.2 b hb).trans e) f0 f1 f3 f4 f5, q⟩
theorem sw_trueD {kx vx : Expr} {gs : List Comprehension} {scope : Scope} {pos py : Pos} {y : Str} {l : Nat} {env : Env} (hk : env.scope.kind = .function) (hy : env.scope.names.lookup y = some .local) (hl : (py.line == pos.line) = true)
    (ha : (scope.names.any fun (n, k) => n == y && (k == .local || k == .cell)) = false) : swapsWith (.DictComp kx vx gs scope pos) (some (.Name y py)) l env = pure true := by
  have ky : env.kindOf y = some .local := hy
  have hb : env.blockKind = .function := by unfold Env.blockKind; rw [hk]; rfl
  unfold swapsWith
  simp only [hb, ky, ha, Expr.pos, hl]
  rfl
theorem ds_setDc {RR : RD} {i : Nat} {y : Str} {py : Pos} {kx vx : Expr} {ifs : List Expr} {scope : Scope} {own : List (Str × Nat)} {pos spos : Pos} {fi : FI} {bd : FB} {g : TG} {t : FT} {fk fv : F} (hc : X.calm = true) (hN : X.N.Nodup) (hy : X.N[i]? = some y) (hyl : X.env.scope.names.lookup y = some .local)
    (hsw : swapsWith (.DictComp kx vx [⟨tg, iter, ifs, 0⟩] scope pos) (some (.Name y py)) spos.line X.env = pure true) (hi : DIR X RR tg iter fi) (ok : BlkOk X.N X.env.scope scope own)
    (tk : TgOkR X.K RR g (own.map (·.2)) bd)
    (hg : ∀ (s : Shared) (H : Hp) (C : Addr) (cl : List (Str × Addr)) (fp : List Addr), PG (X.blk s H scope (compEnvC scope cl C X.env) fp) tg g) (ht : ∀ (s : Shared) (H : Hp) (C : Addr) (cl : List (Str × Addr)) (fp : List Addr), DTs (X.blk s H scope (compEnvC scope cl C X.env) fp) ifs t)
    (hk : ∀ (s : Shared) (H : Hp) (C : Addr) (cl : List (Str × Addr)) (fp : List Addr), DE (X.blk s H scope (compEnvC scope cl C X.env) fp) kx fk)
    (he : ∀ (s : Shared) (H : Hp) (C : Addr) (cl : List (Str × Addr)) (fp : List Addr), DE (X.blk s H scope (compEnvC scope cl C X.env) fp) vx fv) (hs : ∀ x, foldedSetIterable iter X.env x = pure x := by intro _; rfl) :
    DS X W (.Assign [.Name y py] (.DictComp kx vx [⟨tg, iter, ifs, 0⟩] scope pos) spos) (sAsg (fDComp fi (own.map (·.2)) bd t fk fv) (gN i)) := weakS (ps_setDc hc hN hy hyl hsw hi ok hg ht hk he hs) fun D' σ H hh => by
  obtain ⟨r, env, st, o, env', st', he, hs, hf, q⟩ := hh
  obtain ⟨⟨d, s1⟩, h1, h2⟩ := Option.bind_eq_some_iff.mp hf
  obtain ⟨e1, h3, h4⟩ := Option.map_eq_some_iff.mp h2
  cases h4
  cases h3
  exact dcompReads tk σ H _ ⟨r, env, st, d, _, he, hs, h1, fun v r1 H1 x1 q1 p1 => q _ r1 H1 x1 ((he.ext x1).set p1 i) q1⟩
end
end DL
/-! len(set(t)) of a tuple of texts. -/
namespace DL
open PySem PySem.Spec PyProof.Rows L2
/-- how many different ones stand before place i -/
def cntS (xs : List Str) : Nat → Nat
  | 0 => 0
  | i + 1 => if xs.getD i Str.empty ∈ xs.take i then cntS xs i else cntS xs i + 1
theorem cntS_le (xs : List Str) : ∀ i, cntS xs i ≤ i
  | 0 => Nat.le_refl _
  | i + 1 => by
    have := cntS_le xs i
    unfold cntS
    split <;> omega
theorem cntS_all {xs : List Str} : ∀ {i : Nat}, i ≤ xs.length → (cntS xs i = i ↔ (xs.take i).Nodup)
  | 0, _ => by simp [cntS]
  | i + 1, h => by
    have hi : i < xs.length := h
    have ih := cntS_all (xs := xs) (i := i) (Nat.le_of_lt hi)
    have le := cntS_le xs i
    have e : xs.getD i Str.empty = xs[i] := by rw [List.getD_eq_getElem?_getD, List.getElem?_eq_getElem hi]; rfl
    rw [List.take_add_one, List.getElem?_eq_getElem hi]
    unfold cntS
    rw [e]
    by_cases m : xs[i] ∈ xs.take i
    · rw [if_pos m]
      refine ⟨fun h => by omega, fun h => ?_⟩
      exact absurd rfl ((List.nodup_append.mp h).2.2 _ m _ (by simp))
    · rw [if_neg m]
      refine ⟨fun h => ?_, fun h => ?_⟩
      · refine List.nodup_append.mpr ⟨ih.mp (by omega), by simp, fun a ha b hb => ?_⟩
        simp at hb
        subst hb
        exact fun e => m (e ▸ ha)
      · have := ih.mpr (List.nodup_append.mp h).1
        omega
theorem cntS_nodup (xs : List Str) : cntS xs xs.length = xs.length ↔ xs.Nodup := by
  have := cntS_all (xs := xs) (Nat.le_refl _)
  rwa [List.take_length] at this
section
variable {prog : Program} {w : World} {A : Around} {R : Result → Shared → Prop} {I : Addr} {fp wr : List Addr} {G : Array GenState → Array GenState → Prop} {n : Nat} {P : Nat → Value → Prop} {St : Nat → Shared → Prop}
theorem loopSt (W : WalksS prog w A.in1 I fp wr G n P St) (S : Addr) (hSf : S ∉ fp) (xs : List Str) (hsz : xs.length = n) (hb : xs.length + 1 < scanBound)
    (hval : ∀ i v, P i v → ∃ t, v = .str (xs.getD i Str.empty) t) :
    ∀ (k i : Nat) (s : Shared), n - i = k → i ≤ n → St i s →
      s.heap.SetOf (PySem.strKind prog w) S (fun j => decide (j ∈ xs.take i)) (cntS xs i) →
      (∀ s', Moved (S :: wr) G s s' → s'.heap.SetOf (PySem.strKind prog w) S (fun j => decide (j ∈ xs)) (cntS xs n) → R (.ok (.ret .none)) s') →
      codeAny (model prog w) A (.builtin "set.update.loop" ⟨[.ref S, .ref I], []⟩) R s := by
  have hSw : S ∉ wr := fun h => hSf (W.sub _ h)
  have hsub : ∀ b ∈ wr, b ∈ S :: wr := fun b hb => List.mem_cons_of_mem _ hb
  intro k
  induction k with
  | zero =>
    intro i s hk hi hst hS hR
    have hin : i = n := by omega
    subst hin
    refine codeAny_builtin PyProof.Rows.F.entry_set_update_loop ?_
    rw [Around.under_plainId PyProof.Rows.F.plain_set_update_loop _]
    show wpAny _ A.in1 (pyNext (.ref I) >>= _) _ _ s
    refine wpAny_bind (W.done s _ _ hst fun s' hm => ?_)
    show wpAny _ A.in1 (ret Value.none) _ _ s'
    have e : xs.take i = xs := List.take_of_length_le (by omega)
    rw [e] at hS
    exact wpAny_pure (hR s' (hm.mono hsub) (by
      obtain ⟨o, es, ep, t, ho, rest⟩ := hS
      exact ⟨o, es, ep, t, hm.heap S _ hSw ho, rest⟩))
  | succ k ih =>
    intro i s hk hi hst hS hR
    have hlt : i < n := by omega
    refine codeAny_builtin PyProof.Rows.F.entry_set_update_loop ?_
    rw [Around.under_plainId PyProof.Rows.F.plain_set_update_loop _]
    show wpAny _ A.in1 (pyNext (.ref I) >>= _) _ _ s
    refine wpAny_bind (W.item i s _ _ hlt hst fun v s' hP hst' hm => ?_)
    obtain ⟨t, rfl⟩ := hval i v hP
    have hS' : s'.heap.SetOf (PySem.strKind prog w) S (fun j => decide (j ∈ xs.take i)) (cntS xs i) := by
      obtain ⟨o, es, ep, tb, ho, rest⟩ := hS
      exact ⟨o, es, ep, tb, hm.heap S _ hSw ho, rest⟩
    show wpAny _ A.in1 (holding [Value.str (xs.getD i Str.empty) t] (setAdd S (.str (xs.getD i Str.empty) t)) >>= _) _ _ s'
    refine wpAny_bind (wpAny_holding ?_)
    unfold setAdd
    refine wpAny_holding ?_
    have hle := cntS_le xs i
    refine wpAny_bind ((PySem.strKind prog w).pyHash (k := xs.getD i Str.empty) (strKind_is _ _ _ _) ?_)
    refine wpAny_setAddHashed_of (knd := PySem.strKind prog w) (s := { s' with toks := s'.toks + 1 }) (strKind_is _ _ _ _) rfl hS' (by omega) fun h' hsb hS2 => ?_
    have hSi : h'.SetOf (PySem.strKind prog w) S (fun j => decide (j ∈ xs.take (i + 1))) (cntS xs (i + 1)) := by
      refine SetOf_congr hS2 (fun j => ?_) ?_
      · have hil : i < xs.length := by omega
        have e : xs.getD i Str.empty = xs[i] := by rw [List.getD_eq_getElem?_getD, List.getElem?_eq_getElem hil]; rfl
        have m : j ∈ xs.take (i + 1) ↔ (j ∈ xs.take i ∨ j = xs[i]) := by
          rw [List.take_add_one, List.getElem?_eq_getElem hil, List.mem_append]
          simp
        rw [e, decide_eq_decide.mpr m, Bool.decide_or]
      · show (if decide (xs.getD i Str.empty ∈ xs.take i) = true then cntS xs i else cntS xs i + 1) = cntS xs (i + 1)
        simp [cntS]
    refine wpAny_pure ⟨plainId_quiet PyProof.Rows.F.plain_set_update_loop _, ih (i + 1) _ (by omega) hlt (W.frame _ s' _ _ hst' (Nat.le_succ _) fun b hb o e => ?_) hSi fun s'' hm'' hS'' => ?_⟩
    · rw [hsb.2 b (fun h : b = S => hSf (by rw [← h]; exact hb))]; exact e
    · refine hR s'' (Moved.trans W.gtrans ((hm.mono hsub).then_heap (Nat.le_succ _) fun b o hb e => ?_) hm'') hS''
      rw [hsb.2 b (fun h : b = S => hb (by rw [h]; exact List.mem_cons_self))]; exact e
end
section
variable {prog : Program} {w : World} {A : Around} {E : Value → Shared → Prop} {s : Shared}
set_option maxHeartbeats 3200000 in
theorem call_set_tupSt {l : Addr} {items : Array Value} {xs : List Str} {Q : Value → Shared → Prop}
    (hh : A.handled = none) (hl : s.heap.IsTuple l items) (hi : PyProof.Rows.StrsAre items.toList xs) (hn1 : xs.length + 1 < scanBound)
    (h : ∀ (h' : Heap) (tk : Nat), h'.SetOf (PySem.strKind prog w) s.heap.objs.size (fun j => decide (j ∈ xs)) (cntS xs xs.length) →
      (∀ b o, b < s.heap.objs.size → s.heap.get? b = some o → h'.get? b = some o) → Q (.ref s.heap.objs.size) { s with heap := h', toks := tk }) :
    wpAny (model prog w) A (call (.type "set") [.ref l]) Q E s := by
  obtain ⟨c, tl, hmro⟩ := PySem.F.called_set.mro
  have hmade := PySem.F.called_set.made
  have hsub := PySem.F.called_set.sub
  refine wpAny_call (codeAny_of_tree ?_)
  show wpAny _ _ (callAny (.type "set") _) _ _ _
  refine wpAny_pure ⟨Code.quiet_builtin _ (by decide +kernel), codeAny_builtin PySem.F.entry_type_call ?_⟩
  rw [Around.under_plain (weight_type_call_type "set" [.ref l] []) rfl]
  have h1 := PySem.F.called_set.notType
  have h2 := PySem.F.called_set.canCreate
  have hct := PySem.F.typeCall_set_1 (.ref l)
  repeat (any_goals (first | assumption | wp_step))

  refine codeAny_mono (code_set_new_1 (.ref l) (E := E) (Q₁ := fun obj s₁ => ∃ led : Bool, obj = .ref s.heap.objs.size ∧ s₁ = { s with heap := s.heap.push { cls := .type "set", dict := none, data := .set #[] 0 (.fresh 0 0 led) } }) fun led => ⟨led, rfl, rfl⟩) fun r s₁ hr => ?_
  cases r with
  | error e => exact hr
  | ok fl =>
    cases fl with
    | ret obj =>
      obtain ⟨led, rfl, rfl⟩ := hr
      have hS : (s.heap.push { cls := .type "set", dict := none, data := .set #[] 0 (.fresh 0 0 led) }).get? s.heap.objs.size = some { cls := .type "set", dict := none, data := .set #[] 0 (.fresh 0 0 led) } := Heap.get?_push_size _ rfl
      have hT : Shared.TypeIs { s with heap := s.heap.push { cls := .type "set", dict := none, data := .set #[] 0 (.fresh 0 0 led) } } (.ref s.heap.objs.size) "set" := ⟨_, hS, rfl⟩
      have hli := PySem.F.called_set.init.lookup
      have hbi := PySem.F.called_set.init.bind (.ref s.heap.objs.size)
      repeat (any_goals (first | assumption | wp_step))

      refine codeAny_mono (codeAny_call_builtin (R := wants (fun r s₂ => r = .none ∧ ∃ h' tk, s₂ = { s with heap := h', toks := tk } ∧
          h'.SetOf (PySem.strKind prog w) s.heap.objs.size (fun j => decide (j ∈ xs)) (cntS xs xs.length) ∧
          (∀ b o, b < s.heap.objs.size → s.heap.get? b = some o → h'.get? b = some o)) E) PySem.F.called_set.init.plain PySem.F.entry_set_init (check_set_init_1 hT ?_)) fun r₂ s₂ hr₂ => ?_
      · obtain ⟨ol, hol, hcl, nl, hdl⟩ := hl
        obtain ⟨ocls, odict, odata, oslots⟩ := ol
        simp only at hcl hdl
        subst hcl; subst hdl
        have hol' : (s.heap.push { cls := .type "set", dict := none, data := .set #[] 0 (.fresh 0 0 led) }).get? l = some { cls := .type "tuple", dict := odict, data := .seq items nl, slots := oslots } := Heap.get?_push_of_some _ hol
        have hsls := PySem.F.sub_tuple_set
        have hslf := PySem.F.sub_tuple_frozenset
        have hne : (Value.type "tuple" == Value.type "dict") = false := by decide
        have hl1 : (s.heap.push { cls := .type "set", dict := none, data := .set #[] 0 (.fresh 0 0 led) }).IsTuple l items := ⟨_, hol', rfl, nl, rfl⟩
        unfold Builtin.«set.__init__» noKeywords Builtin.Frozenset.updateFrom
        generalize hPI : pyIter = PI
        wp_walk
        subst hPI

        refine wpAny_pyIter_tuple hl1 ?_
        refine wpAny_bind (wpAny_runValue ?_)
        have hlS : l < s.heap.objs.size := Heap.lt_size hol
        have hh3 : A.in1.in1.in1.handled = none := by simp [hh]
        have hneI : l ≠ (s.heap.push { cls := .type "set", dict := none, data := .set #[] 0 (.fresh 0 0 led) }).objs.size := by
          rw [Heap.size_push]; exact Nat.ne_of_lt (Nat.lt_succ_of_lt hlS)
        have hSf : s.heap.objs.size ∉ [(s.heap.push { cls := .type "set", dict := none, data := .set #[] 0 (.fresh 0 0 led) }).objs.size, l] := by
          rw [Heap.size_push]; simp only [List.mem_cons, List.mem_singleton, List.not_mem_nil, or_false, not_or]
          exact ⟨Nat.ne_of_lt (Nat.lt_succ_self _), Nat.ne_of_gt hlS⟩
        have hsz : xs.length = items.size := by rw [← StrsAre.len_eq hi, Array.length_toList]
        have hval : ∀ (i : Nat) (v : Value), items[i]? = some v → ∃ t, v = .str (xs.getD i Str.empty) t := fun i v hv => SS.strs_at hi i v (by rw [Array.getElem?_toList]; exact hv)
        refine loopSt ((Walks.tuple hh3 _ l hneI items).toS) s.heap.objs.size
          hSf xs hsz hn1 hval (items.size - 0) 0 _ (by omega) (Nat.zero_le _)
          ⟨⟨_, Heap.get?_push_size _ rfl, rfl, rfl⟩, (hl1.push _)⟩ ?hS0 ?hR
        case hS0 =>
          have hget : ((s.heap.push { cls := .type "set", dict := none, data := .set #[] 0 (.fresh 0 0 led) }).push { cls := .type "tuple_iterator", data := .fields #[.ref l, .int 0 0] }).get? s.heap.objs.size
              = some { cls := .type "set", dict := none, data := .set #[] 0 (.fresh 0 0 led) } := Heap.get?_push_of_some _ hS
          exact PyProof.Rows.SetOf_congr ((PyProof.Rows.setObjOf_fresh (knd := PySem.strKind prog w) led).setOf hget (by unfold scanBound; omega)) (fun _ => by simp) rfl
        case hR =>
          intro s' hm hS'
          rw [← hsz] at hS'
          obtain ⟨h', g', d', tk', os'⟩ := s'
          have eg : g' = s.gens := hm.gens
          have ed : d' = s.drawn := hm.drawn
          have eo : os' = s.os := hm.os
          subst eg; subst ed; subst eo
          show wpAny _ _ _ _ _ _
          refine wpAny_pure ?_
          show wpAny _ _ (ret Value.none) _ _ _
          refine wpAny_pure ⟨rfl, h', tk', rfl, hS', fun b o hb e => ?_⟩
          have hb1 : b ≠ s.heap.objs.size := Nat.ne_of_lt hb
          have hb2 : b ≠ (s.heap.push { cls := .type "set", dict := none, data := .set #[] 0 (.fresh 0 0 led) }).objs.size := by
            rw [Heap.size_push]; exact Nat.ne_of_lt (Nat.lt_succ_of_lt hb)
          exact hm.heap b o (by simp only [List.mem_cons, List.mem_singleton, List.not_mem_nil, or_false, not_or]; exact ⟨hb1, hb2⟩) (Heap.get?_push_of_some _ (Heap.get?_push_of_some _ e))

      · cases r₂ with
        | error e => exact hr₂
        | ok fl₂ =>
          cases fl₂ with
          | ret r =>
            obtain ⟨rfl, h', tk, rfl, hS', hk'⟩ := hr₂
            repeat (any_goals (first | assumption | wp_step))
            exact h _ _ hS' hk'
          | _ => exact hr₂.elim
    | _ => exact hr.elim
end
section
variable {X : Cx}
def tLenSt (K : PySem.W.Frag) (ta : TE) : TE := fun σ H Q => ta σ H fun x H1 => ∃ l, ∃ xs : List Str, x = .ref l ∧ SqT K H1 l (xs.map V.str) ∧ xs.length < 1000 ∧ Q (.int (cntS xs xs.length)) H1
theorem pe_lenSt {a : Expr} {ta : TE} {p p2 q pos : Pos} (hc : X.calm = true) (hg : Gl X "len") (hm : X.mg "len" = none) (hg2 : Gl X "set") (hm2 : X.mg "set" = none) (ha : PE X a ta)
    (na : starEach [a] X.env = (false, eval a X.env) :: starEach [] X.env := by rfl) : PE X (.Call (.Name "len" p) [.Call (.Name "set" p2) [a] [] q] [] pos) (tLenSt X.K ta) := by
  refine ⟨fun pins s σ H Q I h => ?_⟩
  refine Call_ (ld_blt I hg hm boot_len ?_)
  refine PyProof.Rows.callWith_builtin1 (PyProof.Rows.args_cons ?_ rfl) rfl rfl
  refine Call_ (ld_blt I hg2 hm2 boot_set ?_)
  refine PyProof.Rows.callWith_type1 (PyProof.Rows.args_cons (thn (ha.run pins s σ H _ I h) fun v s1 ⟨x, H1, I1, r1, q1⟩ => PyProof.Rows.args_nil ?_) na) na rfl
  obtain ⟨l, xs, rfl, hq, h1, q1⟩ := q1
  cases r1
  obtain ⟨its, r, pl, hz⟩ := I1.tuple hq
  have hl : its.toArray.size = xs.length := by rw [List.size_toArray, ← r.length, List.length_map]
  have hle := cntS_le xs xs.length
  refine call_set_tupSt (I1.ok.hd hc) pl (xs := xs) (by simpa using strsAre_of r) (by unfold scanBound; omega) fun h' tk hS hk => ?_
  refine PyProof.Rows.args_nil ?_
  obtain ⟨o, es, ep, t, ho, hex, hd, _, _, _, hf, hn⟩ := hS
  have I2 : Inv X pins σ H1 { s1 with heap := h', toks := tk } := I1.kept fun b o e => hk b o (Heap.lt_size e) e
  refine call_len_set ho hex hd hf (by rw [hn]; omega) ⟨.int (cntS xs xs.length), H1, I2.tok _, ⟨_, by rw [hn]⟩, q1⟩
theorem strsD_eq' : ∀ {ds : List D} {ks : List Str}, strsD ds = some ks → ds = ks.map D.str
  | [], _, h => by cases h; rfl
  | .str k :: ds, _, h => by
    obtain ⟨l, h1, h2⟩ := Option.map_eq_some_iff.mp h
    subst h2
    rw [List.map_cons, ← strsD_eq' h1]
  | .non :: _, _, h => by cases h
  | .bl _ :: _, _, h => by cases h
  | .int _ :: _, _, h => by cases h
  | .tup _ :: _, _, h => by cases h
  | .lst _ :: _, _, h => by cases h
  | .dct _ :: _, _, h => by cases h
  | .scr _ :: _, _, h => by cases h
  | .ref _ :: _, _, h => by cases h
theorem RepL.strsV {r : Rf} {H : Hp} : ∀ {vs : List V} {ks : List Str}, RepL X.K r H vs (ks.map D.str) → vs = ks.map V.str
  | _, [], h => by cases h; rfl
  | _, k :: ks, h => by
    cases h with
    | cons a b =>
      cases a
      rw [RepL.strsV b]; rfl
def fLenSt (f : F) : F := fun env st => (f env st).bind fun p => match p.1 with
  | .tup ds => (strsD ds).bind fun xs => if xs.length < 1000 then some (.int (cntS xs xs.length), p.2) else none
  | _ => none
theorem de_lenSt {e : Expr} {f : F} {p p2 q pos : Pos} (hc : X.calm = true) (h : DE X e f) (hg : Gl X "len") (hm : X.mg "len" = none) (hg2 : Gl X "set") (hm2 : X.mg "set" = none)
    (na : starEach [e] X.env = (false, eval e X.env) :: starEach [] X.env := by rfl) : DE X (.Call (.Name "len" p) [.Call (.Name "set" p2) [e] [] q] [] pos) (fLenSt f) :=
  weakE (pe_lenSt hc hg hm hg2 hm2 h na) fun σ H Q hh => by
    obtain ⟨r, env, st, d, st', he, hs, hf, q⟩ := hh
    obtain ⟨⟨x, s1⟩, e1, e2⟩ := Option.bind_eq_some_iff.mp hf
    cases x with
    | tup ds =>
      obtain ⟨ks, e3, e4⟩ := Option.bind_eq_some_iff.mp (show ((strsD ds).bind fun xs => if xs.length < 1000 then some (D.int (cntS xs xs.length), s1) else none) = some (d, st') from e2)
      by_cases hz : ks.length < 1000
      case neg => rw [if_neg hz] at e4; cases e4
      rw [if_pos hz] at e4
      cases e4
      have ed := strsD_eq' e3
      subst ed
      refine ⟨r, env, st, .tup (ks.map .str), st', he, hs, e1, fun v r1 H1 x1 q1 p1 => ?_⟩
      obtain ⟨a, xs, rfl, sq, rl⟩ := p1.sqT
      rw [RepL.strsV rl] at sq
      exact ⟨a, ks, rfl, sq, hz, q _ r1 _ x1 q1 (.int _)⟩
    | _ => cases e2
end
end DL
/-! == and != of dicts, list(range(n)), sorted(set(xs)) of a list of ints, d.update(e). -/
namespace DL
open PySem PySem.Spec PyProof.Rows L2 L2.DX
variable {K : PySem.W.Frag}
def shB (p : PyData) : Bool := p.canLay0 && decide (p.depth ≤ 60)
def eqFl (a b : D) : Option Bool := (toPy a).bind fun p => (toPy b).bind fun q => if shB p = true ∧ shB q = true then some (PyData.eqv p q) else none
def eqGo (ls : List (Key × D)) : List (Key × D) → Option Bool
  | [] => some true
  | (k, v) :: r => match valD ls k with
    | none => some false
    | some y => (eqFl v y).bind fun b => (eqGo ls r).map fun c => b && c
def eqKv (ks ls : List (Key × D)) : Option Bool := if ks.length = ls.length then eqGo ls ks else some false
section
variable {X : Cx}
theorem eqFl_at {pins : List (Addr × Obj)} {σ : L2.St} {H : Hp} {s : Shared} {rho : Rf} {x y : V} {v u : Value} {a b : D} {k : Bool} {A : Around} (I : Inv X pins σ H s) (hu : A.units + 60 < cLine) (ra : Rep X.K rho H x a) (rb : Rep X.K rho H y b) (rx : RelV x v) (ry : RelV y u) (e : eqFl a b = some k) : SeqAt.EqAt A s v u k := by
  obtain ⟨p, h1, h2⟩ := Option.bind_eq_some_iff.mp e
  obtain ⟨q, h3, h4⟩ := Option.bind_eq_some_iff.mp h2
  by_cases z : shB p = true ∧ shB q = true
  case neg => rw [if_neg z] at h4; cases h4
  rw [if_pos z] at h4
  cases h4
  obtain ⟨as, r1⟩ := Dp.reads I p x v (ra.dp h1) rx
  obtain ⟨bs, r2⟩ := Dp.reads I q y u (rb.dp h3) ry
  have zp := Bool.and_eq_true_iff.mp z.1
  have zq := Bool.and_eq_true_iff.mp z.2
  have dp := of_decide_eq_true zp.2
  exact SeqAt.eqAt_reads p q A s v u as bs r1 r2 zp.1 zq.1 (by omega)
theorem hits_of {pins : List (Addr × Obj)} {σ : L2.St} {H : Hp} {s : Shared} {rho : Rf} {A : Around} (I : Inv X pins σ H s) (hu : A.units + 60 < cLine) {ls : List (Key × D)} {lv : List (Key × V)} {vb : List (Key × Value)} (rl : RepK X.K rho H lv ls) (rb : KV lv vb) :
    ∀ {ks : List (Key × D)} {kv : List (Key × V)} {va : List (Key × Value)} {b : Bool}, RepK X.K rho H kv ks → KV kv va → eqGo ls ks = some b → PySem.W.KeqHits A s vb va b
  | [], _, _, b, .nil, ra, e => by
    cases ra
    cases e
    exact .nil
  | (k, d) :: ks, _, _, b, .cons (v := v) rp rt, ra, e => by
    unfold KV at ra
    cases ra with
    | @cons _ q _ qs h t =>
      obtain ⟨h1, h2⟩ := h
      obtain ⟨key, w⟩ := q
      have h1' : k = key := h1
      subst h1'
      have e' : (match valD ls k with | none => some false | some y => (eqFl d y).bind fun b => (eqGo ls ks).map fun c => b && c) = some b := e
      rcases rl.opt (k := k) with ⟨e1, e2⟩ | ⟨y, yv, e1, e2, ry⟩
      · rw [e1] at e'
        cases e'
        have rr : RelO (none : Option V) (valueAt vb k) := by rw [← e2]; exact rb.val k
        exact .miss (by
          cases hq : valueAt vb k with
          | none => rfl
          | some _ => rw [hq] at rr; cases rr)
      · rw [e1] at e'
        obtain ⟨b1, g1, g2⟩ := Option.bind_eq_some_iff.mp (show (eqFl d y).bind (fun b => (eqGo ls ks).map fun c => b && c) = some b from e')
        obtain ⟨b2, g3, g4⟩ := Option.map_eq_some_iff.mp g2
        subst g4
        have rr : RelO (some yv) (valueAt vb k) := by rw [← e2]; exact rb.val k
        obtain ⟨yw, hy, rw'⟩ := rr.some_of
        exact .hit hy (eqFl_at I hu rp ry h2 rw' g1) (hits_of I hu rl rb rt t g3)
def rEqKv (K : PySem.W.Frag) (neg : Bool) : R2 := fun x y H Q => ∃ (rho : Rf) (a b : Addr) (kv lv : List (Key × V)) (ks ls : List (Key × D)) (k : Bool), x = .ref a ∧ y = .ref b ∧ Rd H a (.dK kv) ∧ Rd H b (.dK lv) ∧ RepK K rho H kv ks ∧ RepK K rho H lv ls ∧ eqKv ks ls = some k ∧ Q (.bl (if neg = true then !k else k)) H
theorem rd_ok {pins : List (Addr × Obj)} {σ : L2.St} {H : Hp} {s : Shared} {a : Addr} {kv : List (Key × V)} (I : Inv X pins σ H s) (h : Rd H a (.dK kv)) : ObjOk X.prog X.w H s.heap a (.dK kv) := by
  rcases h with h | ⟨o, h⟩
  · exact I.hok a _ h
  · exact (show ObjOk X.prog X.w H s.heap a (.dK kv) from (I.hok _ _ h).2)
theorem op_eqKv (neg : Bool) (hu : X.A.units + 64 < cLine) : OpR X (compareOp (if neg = true then .NotEq else .Eq)) (rEqKv X.K neg) := by
  intro pins s σ H x y v u Q I rx ry h
  obtain ⟨rho, a, b, kv, lv, ks, ls, k, rfl, rfl, ea, eb, ra, rb, e, q⟩ := h
  obtain rfl : v = Value.ref a := rx
  obtain rfl : u = Value.ref b := ry
  obtain ⟨_, ya, va, rva, da⟩ := rd_ok I ea
  obtain ⟨_, yb, vb, rvb, db⟩ := rd_ok I eb
  have la : va.length = ks.length := by rw [← rva.length, ra.len]
  have lb : vb.length = ls.length := by rw [← rvb.length, rb.len]
  have hA : X.A.in1.units + 60 < cLine := by show X.A.units + 1 + 60 < cLine; omega
  by_cases hl : ks.length = ls.length
  · have e' : eqGo ls ks = some k := by rw [eqKv, if_pos hl] at e; exact e
    have hits := hits_of (A := X.A.in1) I hA rb rvb ra rva e'
    have hz : (va.length == vb.length && k) = k := by rw [la, lb, hl]; simp
    cases neg with
    | false => exact PySem.W.keq_eq (knd := mixKind X.prog X.w) (r := k) ya yb da db (by omega) (fun _ => hits) (by rw [hz]; exact ⟨.bl k, H, I, rfl, q⟩)
    | true => exact PySem.W.keq_ne (knd := mixKind X.prog X.w) (r := k) ya yb da db (by omega) (fun _ => hits) (by rw [hz]; exact ⟨.bl (!k), H, I, rfl, q⟩)
  · have e' : k = false := by rw [eqKv, if_neg hl] at e; exact (Option.some.inj e).symm
    subst e'
    have hne : ¬ va.length = vb.length := by omega
    have hz : (va.length == vb.length && false) = false := by simp
    cases neg with
    | false => exact PySem.W.keq_eq (knd := mixKind X.prog X.w) (r := false) ya yb da db (by omega) (fun h => absurd h hne) (by rw [hz]; exact ⟨.bl false, H, I, rfl, q⟩)
    | true => exact PySem.W.keq_ne (knd := mixKind X.prog X.w) (r := false) ya yb da db (by omega) (fun h => absurd h hne) (by rw [hz]; exact ⟨.bl true, H, I, rfl, q⟩)
def fEqDt (neg : Bool) (fa fb : F) : F := fun env st => (fa env st).bind fun p => (fb env p.2).bind fun q => (dctAt p.1 q.2).bind fun x => (dctAt q.1 q.2).bind fun y => (eqKv x y).map fun k => (.bl (if neg = true then !k else k), q.2)
theorem eqDt_reads {neg : Bool} {fa fb : F} (σ : L2.St) (H : Hp) (Q : VK) (h : tD X.K (fEqDt neg fa fb) σ H Q) : tOp (rEqKv X.K neg) (tD X.K fa) (tD X.K fb) σ H Q := by
  obtain ⟨r, env, st, d, st', he, hs, hf, q⟩ := h
  obtain ⟨⟨x, s1⟩, h1, hf1⟩ := Option.bind_eq_some_iff.mp hf
  obtain ⟨⟨y, s2⟩, h2, hf2⟩ := Option.bind_eq_some_iff.mp hf1
  obtain ⟨px, h3, hf3⟩ := Option.bind_eq_some_iff.mp hf2
  obtain ⟨py, h4, hf4⟩ := Option.bind_eq_some_iff.mp hf3
  obtain ⟨k, h5, hf5⟩ := Option.map_eq_some_iff.mp hf4
  cases hf5
  refine two he hs h1 h2 fun u v r' H' e1 q1 pu pv => ?_
  obtain ⟨a, kv, rfl, da, ra⟩ := dctRd pu q1 h3
  obtain ⟨b, lv, rfl, db, rb⟩ := dctRd pv q1 h4
  exact ⟨r', a, b, kv, lv, px, py, k, rfl, rfl, da, db, ra, rb, h5, q _ r' H' e1 q1 (.bl _)⟩
theorem de_eqDt {a b : Expr} {fa fb : F} {pos : Pos} {k : Nat} (g : GX X k) (ha : DE X a fa) (hb : DE X b fb) (hm : behindInMarks .Eq b = false := by with_unfolding_all rfl) : DE X (.Compare a [.Eq] [b] pos) (fEqDt false fa fb) :=
  weakE (pe_cmpR (op_eqKv false g.room.units) ha hb hm) fun σ H Q h => eqDt_reads σ H Q h
theorem de_neDt {a b : Expr} {fa fb : F} {pos : Pos} {k : Nat} (g : GX X k) (ha : DE X a fa) (hb : DE X b fb) (hm : behindInMarks .NotEq b = false := by with_unfolding_all rfl) : DE X (.Compare a [.NotEq] [b] pos) (fEqDt true fa fb) :=
  weakE (pe_cmpR (op_eqKv true g.room.units) ha hb hm) fun σ H Q h => eqDt_reads σ H Q h
theorem dt_eqDt {a b : Expr} {fa fb : F} {pos : Pos} {k : Nat} (g : GX X k) (ha : DE X a fa) (hb : DE X b fb) (hm : behindInMarks .Eq b = false := by with_unfolding_all rfl) : DT X (.Compare a [.Eq] [b] pos) (fTest (fEqDt false fa fb)) :=
  weakT (pt_cmpR (op_eqKv false g.room.units) ha hb hm) fun σ H Q h => eqDt_reads σ H (fun x H1 => ∃ c, x = .bl c ∧ Q c H1) (testReads σ H Q h)
theorem dt_neDt {a b : Expr} {fa fb : F} {pos : Pos} {k : Nat} (g : GX X k) (ha : DE X a fa) (hb : DE X b fb) (hm : behindInMarks .NotEq b = false := by with_unfolding_all rfl) : DT X (.Compare a [.NotEq] [b] pos) (fTest (fEqDt true fa fb)) :=
  weakT (pt_cmpR (op_eqKv true g.room.units) ha hb hm) fun σ H Q h => eqDt_reads σ H (fun x H1 => ∃ c, x = .bl c ∧ Q c H1) (testReads σ H Q h)
end
end DL
/-! sorted(set(xs)) of a list of ints, list(range(n)). -/
namespace DL
open PySem PySem.Spec PyProof.Rows L2 L2.DX
section
variable {P : Program} {w : World} {A : Around} {E : Value → Shared → Prop} {s : Shared}
set_option maxHeartbeats 3200000 in
theorem call_set_lstI {l : Addr} {items : Array Value} (ns : List Int) {Q : Value → Shared → Prop} (hh : A.handled = none) (hl : s.heap.IsList l items) (hit : IntsAre items.toList ns) (hb : ns.length + 1 < scanBound)
    (h : ∀ (h' : Heap) (tk c : Nat), SetR w h' s.heap.objs.size (fun j => decide (j ∈ ns)) c → c ≤ ns.length → (∀ b o, s.heap.get? b = some o → h'.get? b = some o) → Q (.ref s.heap.objs.size) { s with heap := h', toks := tk }) :
    wpAny (model P w) A (call (.type "set") [.ref l]) Q E s := by
  have hisz : items.size = ns.length := by
    have q := IntsAre.length hit
    rw [Array.length_toList] at q
    exact q
  obtain ⟨c, tl, hmro⟩ := F.called_set.mro
  have hmade := F.called_set.made
  have hsub := F.called_set.sub
  refine wpAny_call (codeAny_of_tree ?_)
  show wpAny _ _ (callAny (.type "set") _) _ _ _
  refine wpAny_pure ⟨Code.quiet_builtin _ (by decide +kernel), codeAny_builtin F.entry_type_call ?_⟩
  rw [Around.under_plain (weight_type_call_type "set" [.ref l] []) rfl]
  have h1 := F.called_set.notType
  have h2 := F.called_set.canCreate
  have hct := F.typeCall_set_1 (.ref l)
  repeat (any_goals (first | assumption | wp_step))

  refine codeAny_mono (code_set_led1 (.ref l) (E := E) (Q₁ := fun obj s₁ => obj = .ref s.heap.objs.size ∧ s₁ = { s with heap := s.heap.push { cls := .type "set", dict := none, data := .set #[] 0 (.fresh 0 0 (!w.params.followText "set-order")) } }) ⟨rfl, rfl⟩) fun r s₁ hr => ?_
  cases r with
  | error e => exact hr
  | ok fl =>
    cases fl with
    | ret obj =>
      obtain ⟨rfl, rfl⟩ := hr
      have hS : (s.heap.push { cls := .type "set", dict := none, data := .set #[] 0 (.fresh 0 0 (!w.params.followText "set-order")) }).get? s.heap.objs.size = some { cls := .type "set", dict := none, data := .set #[] 0 (.fresh 0 0 (!w.params.followText "set-order")) } := Heap.get?_push_size _ rfl
      have hT : Shared.TypeIs { s with heap := s.heap.push { cls := .type "set", dict := none, data := .set #[] 0 (.fresh 0 0 (!w.params.followText "set-order")) } } (.ref s.heap.objs.size) "set" := ⟨_, hS, rfl⟩
      have hli := F.called_set.init.lookup
      have hbi := F.called_set.init.bind (.ref s.heap.objs.size)
      repeat (any_goals (first | assumption | wp_step))

      refine codeAny_mono (codeAny_call_builtin (R := wants (fun r s₂ => r = .none ∧ ∃ h' tk c, s₂ = { s with heap := h', toks := tk } ∧ SetR w h' s.heap.objs.size (fun j => decide (j ∈ ns)) c ∧ c ≤ ns.length ∧
          (∀ b o, s.heap.get? b = some o → h'.get? b = some o)) E) F.called_set.init.plain F.entry_set_init (check_set_init_1 hT ?_)) fun r₂ s₂ hr₂ => ?_
      · obtain ⟨ol, hol, hcl, nl, hdl⟩ := hl
        obtain ⟨ocls, odict, odata, oslots⟩ := ol
        simp only at hcl hdl
        subst hcl; subst hdl
        have hol' : (s.heap.push { cls := .type "set", dict := none, data := .set #[] 0 (.fresh 0 0 (!w.params.followText "set-order")) }).get? l = some { cls := .type "list", dict := odict, data := .seq items nl, slots := oslots } := Heap.get?_push_of_some _ hol
        have hsls := F.sub_list_set
        have hslf := F.sub_list_frozenset
        have hne : (Value.type "list" == Value.type "dict") = false := by decide
        have hl1 : (s.heap.push { cls := .type "set", dict := none, data := .set #[] 0 (.fresh 0 0 (!w.params.followText "set-order")) }).IsList l items := ⟨_, hol', rfl, nl, rfl⟩
        unfold Builtin.«set.__init__» noKeywords Builtin.Frozenset.updateFrom
        generalize hPI : pyIter = PI
        wp_walk
        subst hPI

        refine wpAny_pyIter_list hl1 ?_
        refine wpAny_bind (wpAny_runValue ?_)
        have hlS : l < s.heap.objs.size := Heap.lt_size hol
        have hh3 : A.in1.in1.in1.handled = none := by simp [hh]
        have hz1 : (s.heap.push { cls := .type "set", dict := none, data := .set #[] 0 (.fresh 0 0 (!w.params.followText "set-order")) }).objs.size = s.heap.objs.size + 1 := Heap.size_push ..
        have hneI : l ≠ (s.heap.push { cls := .type "set", dict := none, data := .set #[] 0 (.fresh 0 0 (!w.params.followText "set-order")) }).objs.size := by
          rw [Heap.size_push]; exact Nat.ne_of_lt (Nat.lt_succ_of_lt hlS)
        have hSf : s.heap.objs.size ∉ [(s.heap.push { cls := .type "set", dict := none, data := .set #[] 0 (.fresh 0 0 (!w.params.followText "set-order")) }).objs.size, l] := by
          rw [Heap.size_push]; simp only [List.mem_cons, List.mem_singleton, List.not_mem_nil, or_false, not_or]
          exact ⟨Nat.ne_of_lt (Nat.lt_succ_self _), Nat.ne_of_gt hlS⟩
        have hval : ∀ (i : Nat) (v : Value), items[i]? = some v → ∃ k t, ns[i]? = some k ∧ v = .int k t := fun i v hv => by
          have hi : i < ns.length := by rw [← hisz]; exact (Array.getElem?_eq_some_iff.mp hv).1
          obtain ⟨t, e⟩ := PyProof.Rows.IntsAre.int_at hit i v (by rw [Array.getElem?_toList]; exact hv)
          refine ⟨ns[i], t, List.getElem?_eq_getElem hi, ?_⟩
          rw [e, List.getD_eq_getElem?_getD, List.getElem?_eq_getElem hi] <;> rfl
        refine set_update_ints ((Walks.list hh3 _ l hneI items).toS) s.heap.objs.size
          hSf ns hisz hb hval (items.size - 0) 0 _ (by omega) (Nat.zero_le _)
          ⟨⟨_, Heap.get?_push_size _ rfl, rfl, rfl⟩, (hl1.push _)⟩ ?hS0 ?hR
        case hS0 =>
          have hget : ((s.heap.push { cls := .type "set", dict := none, data := .set #[] 0 (.fresh 0 0 (!w.params.followText "set-order")) }).push { cls := .type "list_iterator", data := .fields #[.ref l, .int 0 0] }).get? s.heap.objs.size
              = some { cls := .type "set", dict := none, data := .set #[] 0 (.fresh 0 0 (!w.params.followText "set-order")) } := Heap.get?_push_of_some _ hS
          exact ⟨0, Nat.le_refl 0, setR_new_at hget⟩
        case hR =>
          intro s' c' hm hc' hS'
          obtain ⟨h', g2, d', tk', os'⟩ := s'
          have eg : g2 = s.gens := hm.gens
          have ed : d' = s.drawn := hm.drawn
          have eo : os' = s.os := hm.os
          subst eg; subst ed; subst eo
          show wpAny _ _ _ _ _ _
          refine wpAny_pure ?_
          show wpAny _ _ (ret Value.none) _ _ _
          rw [hisz] at hc'
          refine wpAny_pure ⟨rfl, h', tk', c', rfl, hS', hc', fun b o e => ?_⟩
          have hb0 : b < s.heap.objs.size := Heap.lt_size e
          have hb1 : b ≠ s.heap.objs.size := Nat.ne_of_lt hb0
          have hb2 : b ≠ (s.heap.push { cls := .type "set", dict := none, data := .set #[] 0 (.fresh 0 0 (!w.params.followText "set-order")) }).objs.size := by
            rw [Heap.size_push]; exact Nat.ne_of_lt (Nat.lt_succ_of_lt hb0)
          exact hm.heap b o (by simp only [List.mem_cons, List.mem_singleton, List.not_mem_nil, or_false, not_or]; exact ⟨hb1, hb2⟩) (Heap.get?_push_of_some _ (Heap.get?_push_of_some _ e))

      · cases r₂ with
        | error e => exact hr₂
        | ok fl₂ =>
          cases fl₂ with
          | ret r =>
            obtain ⟨rfl, h', tk, c', rfl, hS', hc', hk'⟩ := hr₂
            repeat (any_goals (first | assumption | wp_step))
            exact h _ _ _ hS' hc' hk'
          | _ => exact hr₂.elim
    | _ => exact hr.elim

end
section
variable {X : Cx}
def rSetLI (K : PySem.W.Frag) (w : World) : List V → Hp → VK → Prop := fun xs H Q => ∃ (l : Addr) (ns : List Int), xs = [V.ref l] ∧ SqL K H l (ns.map V.int) ∧ ns.length < 64 ∧ ∀ p c, H p = none → c ≤ ns.length → Q (.ref p) (upd H p (SetO w p (fun j => decide (j ∈ ns)) c))
theorem cr_setLI (hc : X.calm = true) : CallR X (.type "set") (rSetLI X.K X.w) := by
  intro pins s σ H xs us Q I r h
  obtain ⟨l, ns, rfl, hs, h64, q⟩ := h
  rw [Vals.ref1 r]
  obtain ⟨its, rv, p, _⟩ := I.list hs
  refine call_set_lstI ns (I.ok.hd hc) p.isList (by simpa using ints_of_vals rv) (show ns.length + 1 < 4096 by omega) fun h' tk c new cle kk => ?_
  exact ⟨.ref _, upd H s.heap.objs.size (SetO X.w s.heap.objs.size (fun j => decide (j ∈ ns)) c), I.laid (t' := tk) kk (Nat.le_refl _) (setO_new new), rfl, q _ c (I.hok.fresh (Nat.le_refl _)) cle⟩
/-- sorted(set(xs)), xs a list by value -/
def fSortSetL (f : F) : F := fun env st => (f env st).bind fun p => match p.1 with
  | .lst ds => (intsD ds).bind fun ks => if ks.length < 64 then some (.lst ((srt ks).map .int), p.2) else none
  | _ => none
theorem de_sortSetL {e : Expr} {f : F} {p1 p2 q1 q2 : Pos} (hc : X.calm = true) (h : DE X e f) (hg : Gl X "sorted") (hm : X.mg "sorted" = none) (hg2 : Gl X "set") (hm2 : X.mg "set" = none)
    (h1 : starEach [Expr.Call (.Name "set" p2) [e] [] q2] X.env = (false, eval (Expr.Call (.Name "set" p2) [e] [] q2) X.env) :: starEach [] X.env := by rfl) (h2 : (backTo q1 (starEach [] X.env)).any (·.1) = false := by rfl)
    (h3 : starEach [e] X.env = (false, eval e X.env) :: starEach [] X.env := by rfl) (h4 : (backTo q2 (starEach [] X.env)).any (·.1) = false := by rfl) :
    DE X (.Call (.Name "sorted" p1) [.Call (.Name "set" p2) [e] [] q2] [] q1) (fSortSetL f) :=
  weakE (pe_callB (cr_sortedSet hc) hg hm (by decide +kernel) (pa_cons (pe_callTy (cr_setLI hc) hg2 hm2 (by decide +kernel) (pa_cons h pa_nil h3) (by decide) (by decide) h3 h4) pa_nil h1) (by decide) (by decide) h1 h2) fun σ H Q hh => by
    obtain ⟨r, env, st, d, st', he, hs, hf, q⟩ := hh
    obtain ⟨⟨x, s1⟩, e1, e2⟩ := Option.bind_eq_some_iff.mp hf
    cases x with
    | lst ds =>
      obtain ⟨ks, e3, e4⟩ := Option.bind_eq_some_iff.mp (show ((intsD ds).bind fun ks => if ks.length < 64 then some (D.lst ((srt ks).map .int), s1) else none) = some (d, st') from e2)
      by_cases hz : ks.length < 64
      case neg => rw [if_neg hz] at e4; cases e4
      rw [if_pos hz] at e4
      cases e4
      have ed := intsD_eq e3
      subst ed
      refine ⟨r, env, st, .lst (ks.map .int), st', he, hs, e1, fun v r1 H1 x1 q1 p1 => ?_⟩
      cases p1 with
      | lst g1 g2 g3 =>
        rw [RepL.intsV g3] at g1
        refine ⟨_, ks, rfl, .of g1, hz, fun p c hp cle => ⟨p, _, c, rfl, upd_same, by omega, fun ns' p' pw mem _ hp' => ?_⟩⟩
        have en : ns' = srt ks := pw_eq pw (srt_pw ks) fun j => by rw [mem j, srt_mem]; exact decide_eq_true_iff
        subst en
        have sm1 : Same H1 (upd H1 p (SetO X.w p (fun j => decide (j ∈ ks)) c)) := same_alloc hp
        have sm2 := same_alloc (o := HO.lst ((srt ks).map V.int)) hp'
        have q2 := q1.same sm1
        exact q _ r1 _ (x1.trans ((q1.ext sm1).trans (q2.ext sm2))) (q2.same sm2) (.lst upd_same (q2.free hp') (ints_repL _))
    | _ => cases e2
/-! ### list(range(n)) -/
def fLstRg (f : F) : F := fun env st => (f env st).bind fun p => match p.1 with
  | .int n => if 0 ≤ n ∧ n ≤ 1000000 then some (.lst (rg 0 n), p.2) else none
  | _ => none
theorem de_lstRg {e : Expr} {f : F} {p1 p2 q1 q2 : Pos} (hc : X.calm = true) (h : DE X e f) (hg : Gl X "list") (hm : X.mg "list" = none) (hg2 : Gl X "range") (hm2 : X.mg "range" = none)
    (h1 : starEach [Expr.Call (.Name "range" p2) [e] [] q2] X.env = (false, eval (Expr.Call (.Name "range" p2) [e] [] q2) X.env) :: starEach [] X.env := by rfl)
    (h3 : starEach [e] X.env = (false, eval e X.env) :: starEach [] X.env := by rfl) :
    DE X (.Call (.Name "list" p1) [.Call (.Name "range" p2) [e] [] q2] [] q1) (fLstRg f) :=
  weakE (pe_listRg hc hg hm (prg_1 hg2 hm2 h h3) h1) fun σ H Q hh => by
    obtain ⟨r, env, st, d, st', he, hs, hf, q⟩ := hh
    obtain ⟨⟨x, s1⟩, e1, e2⟩ := Option.bind_eq_some_iff.mp hf
    cases x with
    | int n =>
      have e4 : (if 0 ≤ n ∧ n ≤ 1000000 then some (D.lst (rg 0 n), s1) else none) = some (d, st') := e2
      by_cases hz : 0 ≤ n ∧ n ≤ 1000000
      case neg => rw [if_neg hz] at e4; cases e4
      rw [if_pos hz] at e4
      cases e4
      refine ⟨r, env, st, .int n, st', he, hs, e1, fun v r1 H1 x1 q1 p1 => ?_⟩
      cases p1
      refine ⟨n, rfl, .of_le (by omega) (by omega) (by omega) hz.1, fun p hp => ?_⟩
      have sm : Same H1 (upd H1 p (.lst (rgV 0 n))) := same_alloc hp
      exact q _ r1 _ (x1.trans (q1.ext sm)) (q1.same sm) (.lst upd_same (q1.free hp) (repL_map (fun i => .int _) _))
    | _ => cases e2
end
end DL
/-! d.update(e). -/
namespace DL
open PySem PySem.Spec PyProof.Rows L2 L2.DX
section
variable {X : Cx}
/-! ### d.update(e) -/
theorem d_update {pins : List (Addr × Obj)} {σ : L2.St} {H : Hp} {s : Shared} {A : Around} {E : Value → Shared → Prop} {a b : Addr} {kvs more : List (Key × V)} {Q : Value → Shared → Prop} (I : Inv X pins σ H s) (ha : H a = some (.dK kvs)) (hb : Rd H b (.dK more)) (hne : a ≠ b) (hz : kvs.length + more.length ≤ sizeLine)
    (q : ∀ s', Inv X pins σ (upd H a (.dK (mergeK kvs more))) s' → Q .none s') : wpAny (model X.prog X.w) A (call (.builtin "dict.update") [.ref a, .ref b]) Q E s := by
  obtain ⟨z, hd, vs, rel, dd⟩ := dk_of I.hok ha
  obtain ⟨z2, hd2, vs2, rel2, dd2⟩ := rd_ok I hb
  refine call_meetsIn PySem.F.slot_dict_update dd.typeIs PySem.F.entry_dict_update (PySem.F.args_dict_update_2 _ _) (meets_dict_update (mixKind X.prog X.w) a b hne hd2)
    ⟨vs, vs2, dd, dd2, by rw [← rel.length, ← rel2.length]; exact hz, fun h' hm _ hs => ?_⟩
  have hl : (mergeK kvs more).length ≤ sizeLine := Nat.le_trans (length_mergeK more kvs) hz
  have he : ∃ u, h'.get? a = some u := let ⟨u, _, _, hu, _⟩ := hm; ⟨u, hu⟩
  exact q _ (d_write I (by rw [ha]; exact True.intro) hs he (dk_new hl hd (rel2.merge rel) hm))
def tDUpd (td te : TE) : TE := fun σ H Q => td σ H fun x H1 => ∃ a, x = .ref a ∧ IsD H1 a ∧ te σ H1 fun y H2 => ∃ b kvs more, y = .ref b ∧ H2 a = some (.dK kvs) ∧ Rd H2 b (.dK more) ∧ a ≠ b ∧ kvs.length + more.length ≤ sizeLine ∧ Q .non (upd H2 a (.dK (mergeK kvs more)))
theorem pe_dupd {o e : Expr} {apos cpos : Pos} {td te : TE} (ho : PE X o td) (he : PE X e te) (m : M1 X o "update" apos e cpos) : PE X (.Call (.Attribute o "update" apos) [e] [] cpos) (tDUpd td te) := by
  refine ⟨fun pins s σ H Q I h => ?_⟩
  refine wpAny_Call_method m.base m.few m.line PySem.F.plainAttrs_dict PySem.F.slot_dict_update PySem.F.type_dict_update (thn (ho.run pins s σ H _ I h) fun u s1 ⟨x, H1, I1, rx, a, ex, d, q1⟩ => ?_)
  subst ex
  obtain rfl : u = Value.ref a := rx
  obtain ⟨t1, t2, _⟩ := isD_at I1 d
  refine ⟨t1, t2, ?_⟩
  rw [m.trees]
  refine Calls.callWith_builtin rfl (Calls.evalArgs_plain (Calls.spliced_cons (thn (he.run pins s1 σ H1 _ I1 q1) fun iv s2 ⟨y, H2, I2, ry, b, kvs, more, ey, ea, eb, ne, hz, q2⟩ => Calls.spliced_nil ?_)))
  subst ey
  obtain rfl : iv = Value.ref b := ry
  exact d_update I2 ea eb ne hz fun s3 I3 => ⟨.non, _, I3, rfl, q2⟩
/-- d.update(e), d of the store, e another dict -/
def notN (n : Nat) : D → Bool | .ref m => m != n | _ => true
def fUpd (fo fe : F) : F := fun env st => (fo env st).bind fun p => match p.1 with
  | .ref n => (dctAt (.ref n) p.2).bind fun _ => (fe env p.2).bind fun q => match q.2[n]? with
    | some (.dct kvs) => if notN n q.1 = true then (dctAt q.1 q.2).bind fun more => if kvs.length + more.length ≤ sizeLine then some (.non, q.2.set n (.dct (mergeD kvs more))) else none else none
    | _ => none
  | _ => none
theorem de_upd {o e : Expr} {fo fe : F} {apos cpos : Pos} (ho : DE X o fo) (he : DE X e fe) (m : M1 X o "update" apos e cpos) : DE X (.Call (.Attribute o "update" apos) [e] [] cpos) (fUpd fo fe) :=
  weakE (pe_dupd ho he m) fun σ H Q hh => by
  obtain ⟨r, env, st, d, st', he, hs, hf, q⟩ := hh
  obtain ⟨⟨x, s1⟩, h1, hf1⟩ := Option.bind_eq_some_iff.mp hf
  cases x with
  | ref n =>
    obtain ⟨kv0, h2, hf2⟩ := Option.bind_eq_some_iff.mp (show ((dctAt (.ref n) s1).bind fun _ => (fe env s1).bind fun q => match q.2[n]? with
      | some (.dct kvs) => if notN n q.1 = true then (dctAt q.1 q.2).bind fun more => if kvs.length + more.length ≤ sizeLine then some (D.non, q.2.set n (.dct (mergeD kvs more))) else none else none
      | _ => none) = some (d, st') from hf1)
    obtain ⟨⟨y, s2⟩, h3, hf3⟩ := Option.bind_eq_some_iff.mp hf2
    simp only at hf3
    split at hf3
    · rename_i kvs hst
      by_cases hn : notN n y = true
      case neg => rw [if_neg hn] at hf3; cases hf3
      rw [if_pos hn] at hf3
      obtain ⟨more, h5, hf5⟩ := Option.bind_eq_some_iff.mp hf3
      by_cases hz : kvs.length + more.length ≤ sizeLine
      case neg => rw [if_neg hz] at hf5; cases hf5
      rw [if_pos hz] at hf5
      cases hf5
      refine ⟨r, env, st, .ref n, s1, he, hs, h1, fun u r1 H1 e1 q1 p1 => ?_⟩
      obtain ⟨a, xs, rfl, rd, l⟩ := dctRd p1 q1 h2
      refine ⟨a, rfl, .inl ⟨xs, rd⟩, r1, env, s1, y, s2, he.ext e1, q1, h3, fun v r2 H2 e2 q2 p2 => ?_⟩
      obtain ⟨a', ea, ha⟩ := (p1.ext e2).refI
      cases ea
      obtain ⟨av, ys, hx, l2⟩ := q2.ob _ a _ ha hst
      obtain ⟨b, zs, rfl, rdb, lb⟩ := dctRd p2 q2 h5
      have ne : a ≠ b := by
        rintro rfl
        cases p2 with
        | dct g1 g2 g3 => exact g2 av
        | ref hm =>
          rename_i m
          have hm' : r2.adr[m]? = some a := hm
          obtain ⟨i1, j1⟩ := List.getElem?_eq_some_iff.mp hm'
          obtain ⟨i2, j2⟩ := List.getElem?_eq_some_iff.mp ha
          have : m = n := by
            rcases Nat.lt_trichotomy m n with lt | e | lt
            · exact absurd (j1.trans j2.symm) (List.pairwise_iff_getElem.mp q2.nd m n i1 i2 lt)
            · exact e
            · exact absurd (j2.trans j1.symm) (List.pairwise_iff_getElem.mp q2.nd n m i2 i1 lt)
          simp [notN, this] at hn
        | _ => cases h5
      have ee : Ex r2 H2 r2 (upd H2 a (.dK (mergeK ys zs))) := ⟨⟨[], by simp⟩, fun b o w m => by rw [upd_ne (fun y => m (by rw [y]; exact av))]; exact w, fun b w m => absurd w m⟩
      obtain ⟨w1, w2⟩ := q2.set (o := .dK (mergeK ys zs)) (ob := .dct (mergeD kvs more)) ha av ⟨av, _, upd_same, (RepK.merge lb l2).ex ee⟩ (fun _ _ z => by rw [hx] at z; cases z)
      exact ⟨b, ys, zs, rfl, hx, rdb, ne, by rw [l2.len, lb.len]; exact hz, q _ r2 _ ((e1.trans e2).trans w1) w2 .non⟩
    · cases hf3
  | _ => cases hf1
end
end DL
/-! a, b = xs, xs a list by value. -/
namespace DL
open PySem PySem.Spec PyProof.Rows L2
section
variable {X : Cx}
def gTL (n : Nat) (h : FGs) : FG := fun d env => match d with | .lst ds => if ds.length = n then h ds env else none | _ => none
theorem dg_lst {es : List Expr} {k n : Nat} {h : FGs} {pos : Pos} (hc : X.calm = true) (hh : DGs X es h) (hn : (assignEach es X.env).length = n := by rfl) (hst : (assignEach es X.env).findIdx? (·.1) = none := by rfl) : DG X (.Tuple es k pos) (gTL n h) :=
  weakG (pg_lst hc hh hn hst) fun v σ H Q hh => by
  obtain ⟨r, env, d, env', he, hr, hg, q⟩ := hh
  cases d with
  | lst ds =>
    have hg' : (if ds.length = n then h ds env else none) = some env' := hg
    by_cases hl : ds.length = n
    · rw [if_pos hl] at hg'
      cases hr with
      | lst g1 g2 g3 => exact ⟨_, _, rfl, .of g1, by rw [g3.len]; exact hl, r, env, ds, env', he, g3, hg', q⟩
    · rw [if_neg hl] at hg'
      cases hg'
  | _ => cases hg
end
end DL
/-! Sets of ints that are kept in the store: set(xs), k in s. -/
namespace DL
open PySem PySem.Spec PyProof.Rows L2
section
variable {X : Cx}
/-- set(xs), xs a list of ints by value -/
def fSetN (f : F) : F := fun env st => (f env st).bind fun p => match p.1 with
  | .lst ds => (intsD ds).bind fun ks => if ks.length < 64 then some (.ref p.2.length, p.2 ++ [.st ks]) else none
  | _ => none
theorem de_setN {e : Expr} {f : F} {p2 q2 : Pos} (hc : X.calm = true) (h : DE X e f) (hg2 : Gl X "set") (hm2 : X.mg "set" = none)
    (h3 : starEach [e] X.env = (false, eval e X.env) :: starEach [] X.env := by rfl) (h4 : (backTo q2 (starEach [] X.env)).any (·.1) = false := by rfl) :
    DE X (.Call (.Name "set" p2) [e] [] q2) (fSetN f) :=
  weakE (pe_callTy (cr_setLI hc) hg2 hm2 (by decide +kernel) (pa_cons h pa_nil h3) (by decide) (by decide) h3 h4) fun σ H Q hh => by
    obtain ⟨r, env, st, d, st', he, hs, hf, q⟩ := hh
    obtain ⟨⟨x, s1⟩, e1, e2⟩ := Option.bind_eq_some_iff.mp hf
    cases x with
    | lst ds =>
      obtain ⟨ks, e3, e4⟩ := Option.bind_eq_some_iff.mp (show ((intsD ds).bind fun ks => if ks.length < 64 then some (D.ref s1.length, s1 ++ [.st ks]) else none) = some (d, st') from e2)
      by_cases hz : ks.length < 64
      case neg => rw [if_neg hz] at e4; cases e4
      rw [if_pos hz] at e4
      cases e4
      have ed := intsD_eq e3
      subst ed
      refine ⟨r, env, st, .lst (ks.map .int), s1, he, hs, e1, fun v r1 H1 x1 q1 p1 => ?_⟩
      cases p1 with
      | lst g1 g2 g3 =>
        rw [RepL.intsV g3] at g1
        refine ⟨_, ks, rfl, .of g1, hz, fun p c hp cle => ?_⟩
        obtain ⟨r', w1, w2, w3⟩ := newOb (ob := .st ks) (o := SetO X.w p (fun j => decide (j ∈ ks)) c) q1 hp fun _ _ e v h => ⟨v, X.w, c, h⟩
        exact q _ r' _ (x1.trans w1) w2 w3
    | _ => cases e2
/-- k in s -/
def rSIn' (neg : Bool) : V → V → Hp → VK → Prop := fun x y H Q => ∃ (k : Int) (a : Addr) (w : World) (S : Int → Bool) (n : Nat), x = V.int k ∧ y = V.ref a ∧ H a = some (SetO w a S n) ∧ Q (.bl (if neg = true then !S k else S k)) H
theorem setO_any {pins : List (Addr × Obj)} {σ : L2.St} {H : Hp} {s : Shared} {a : Addr} {w : World} {S : Int → Bool} {n : Nat} (I : Inv X pins σ H s) (ha : H a = some (SetO w a S n)) : s.heap.SetOf (intKind X.prog X.w) a S n :=
  (show SetR w s.heap a S n from (I.hok a _ ha).1).setOf (P := X.prog)
theorem or_sin' (neg : Bool) : OpR X (compareOp (if neg = true then .NotIn else .In)) (rSIn' neg) := by
  intro pins s σ H x y v u Q I rx ry h
  obtain ⟨k, a, w, S, n, rfl, rfl, ha, q⟩ := h
  obtain ⟨tk, rfl⟩ := rx
  cases ry
  cases neg with
  | false => exact wpAny_inSet_of (intKind_is _ _ _ _) rfl (setO_any I ha) ⟨.bl (S k), H, I.tok _, rfl, q⟩
  | true => exact wpAny_notInSet_of (intKind_is _ _ _ _) rfl (setO_any I ha) ⟨.bl (!S k), H, I.tok _, rfl, q⟩
def fInSt (neg : Bool) (fa fb : F) : F := fun env st => (fa env st).bind fun p => (fb env p.2).bind fun q => match p.1, q.1 with
  | .int k, .ref n => (match q.2[n]? with | some (.st ns) => some (.bl (if neg = true then !decide (k ∈ ns) else decide (k ∈ ns)), q.2) | _ => none)
  | _, _ => none
theorem inSt_reads {neg : Bool} {fa fb : F} (σ : L2.St) (H : Hp) (Q : VK) (h : tD X.K (fInSt neg fa fb) σ H Q) : tOp (rSIn' neg) (tD X.K fa) (tD X.K fb) σ H Q := by
  obtain ⟨r, env, st, d, st', he, hs, hf, q⟩ := h
  obtain ⟨⟨x, s1⟩, h1, hf1⟩ := Option.bind_eq_some_iff.mp hf
  obtain ⟨⟨y, s2⟩, h2, hf2⟩ := Option.bind_eq_some_iff.mp hf1
  cases x with
  | int k =>
    cases y with
    | ref n =>
      have hf3 : (match s2[n]? with | some (.st ns) => some (D.bl (if neg = true then !decide (k ∈ ns) else decide (k ∈ ns)), s2) | _ => none) = some (d, st') := hf2
      split at hf3
      · rename_i ns hst
        cases hf3
        refine two he hs h1 h2 fun u v r' H' e1 q1 pu pv => ?_
        obtain ⟨a, rfl, ha⟩ := pv.refI
        obtain ⟨av, w, m, hx⟩ := q1.ob _ a _ ha hst
        cases pu
        exact ⟨k, a, w, _, m, rfl, rfl, hx, q _ r' H' e1 q1 (.bl _)⟩
      · cases hf3
    | _ => cases hf2
  | _ => cases hf2
theorem de_inSt {a b : Expr} {fa fb : F} {pos : Pos} {k : Nat} (g : GX X k) (ha : DE X a fa) (hb : DE X b fb) (hm : behindInMarks .In b = false := by with_unfolding_all rfl) : DE X (.Compare a [.In] [b] pos) (fInSt false fa fb) :=
  weakE (pe_cmpR (or_sin' false) ha hb hm) fun σ H Q h => inSt_reads σ H Q h
theorem dt_inSt {a b : Expr} {fa fb : F} {pos : Pos} {k : Nat} (g : GX X k) (ha : DE X a fa) (hb : DE X b fb) (hm : behindInMarks .In b = false := by with_unfolding_all rfl) : DT X (.Compare a [.In] [b] pos) (fTest (fInSt false fa fb)) :=
  weakT (pt_cmpR (or_sin' false) ha hb hm) fun σ H Q h => inSt_reads σ H (fun x H1 => ∃ c, x = .bl c ∧ Q c H1) (testReads σ H Q h)
theorem de_notinSt {a b : Expr} {fa fb : F} {pos : Pos} {k : Nat} (g : GX X k) (ha : DE X a fa) (hb : DE X b fb) (hm : behindInMarks .NotIn b = false := by with_unfolding_all rfl) : DE X (.Compare a [.NotIn] [b] pos) (fInSt true fa fb) :=
  weakE (pe_cmpR (or_sin' true) ha hb hm) fun σ H Q h => inSt_reads σ H Q h
theorem dt_notinSt {a b : Expr} {fa fb : F} {pos : Pos} {k : Nat} (g : GX X k) (ha : DE X a fa) (hb : DE X b fb) (hm : behindInMarks .NotIn b = false := by with_unfolding_all rfl) : DT X (.Compare a [.NotIn] [b] pos) (fTest (fInSt true fa fb)) :=
  weakT (pt_cmpR (or_sin' true) ha hb hm) fun σ H Q h => inSt_reads σ H (fun x H1 => ∃ c, x = .bl c ∧ Q c H1) (testReads σ H Q h)
end
end DL
/-! xs.extend(e), min(d). -/
namespace DL
open PySem PySem.Spec PyProof.Rows L2
section
variable {X : Cx}
/-- xs.extend(e), xs of the store, e a list by value -/
def fExt (fo fe : F) : F := fun env st => (fo env st).bind fun p => match p.1 with
  | .ref n => if isLs p.2[n]? = true then (fe env p.2).bind fun q => match q.1, q.2[n]? with
    | .lst es, some (.lst ds) => if ds.length + es.length ≤ sizeLine then some (.non, q.2.set n (.lst (ds ++ es))) else none
    | _, _ => none else none
  | _ => none
theorem de_extend {o e : Expr} {fo fe : F} {apos cpos : Pos} (ho : DE X o fo) (hv : DE X e fe) (hbase : attributeBase o "extend" X.env (eval o X.env) = eval o X.env := by rfl)
    (hfew : ((backTo cpos (starEach [e] X.env)).all (fun x => !x.1) && (backToKw cpos (keywordEach [] X.env)).all (fun x => x.1.isSome)
      && decide (([e] : List Expr).length + ([] : List Keyword).length + (if ([] : List Keyword).isEmpty then 0 else 1) < 30)) = true := by rfl)
    (hline : (apos.endLine == cpos.line) = true := by rfl) (hs : starEach [e] X.env = (false, eval e X.env) :: starEach [] X.env := by rfl) :
    DE X (.Call (.Attribute o "extend" apos) [e] [] cpos) (fExt fo fe) :=
  weakE (pe_bm PySem.F.plainAttrs_list PySem.F.slot_list_extend PySem.F.type_list_extend mt_extend ho (pa_cons hv pa_nil hs) hbase hfew hline hs rfl) fun σ H Q hh => by
  obtain ⟨r, env, st, d, st', he, hs, hf, q⟩ := hh
  obtain ⟨⟨x, s1⟩, h1, hf1⟩ := Option.bind_eq_some_iff.mp hf
  cases x with
  | ref n =>
    have hf1' : (if isLs s1[n]? = true then (fe env s1).bind fun q => match q.1, q.2[n]? with
      | .lst es, some (.lst ds) => if ds.length + es.length ≤ sizeLine then some (D.non, q.2.set n (.lst (ds ++ es))) else none
      | _, _ => none else none) = some (d, st') := hf1
    by_cases hl1 : isLs s1[n]? = true
    case neg => rw [if_neg hl1] at hf1'; cases hf1'
    rw [if_pos hl1] at hf1'
    obtain ⟨⟨y, s2⟩, h2, hf2⟩ := Option.bind_eq_some_iff.mp hf1'
    cases y with
    | lst es =>
      simp only at hf2
      split at hf2
      · rename_i es' ds e1 hst
        cases e1
        by_cases hl : ds.length + es.length ≤ sizeLine
        case neg => rw [if_neg hl] at hf2; cases hf2
        rw [if_pos hl] at hf2
        cases hf2
        refine ⟨r, env, st, _, s1, he, hs, h1, fun xv r1 H1 e1 q1 p1 => ?_⟩
        obtain ⟨p, rfl, hp⟩ := p1.refI
        refine ⟨.inl ⟨rfl, ?_⟩, r1, env, s1, .lst es, s2, he.ext e1, q1, h2, fun yv r2 H2 e2 q2 p2 => ?_⟩
        · unfold isLs at hl1
          split at hl1
          · rename_i zs hzs
            obtain ⟨av, xs, hx, l⟩ := q1.ob n p _ hp hzs
            exact ⟨xs, .of hx⟩
          · cases hl1
        · have hp2 := e2.get hp
          obtain ⟨av, xs, hx, l⟩ := q2.ob n p _ hp2 hst
          cases p2 with
          | @lst _ zs _ g1 g2 g3 =>
            have lx : xs.length = ds.length := l.len
            have lz := g3.len
            have ee : Ex r2 H2 r2 (upd H2 p (.lst (xs ++ zs))) := ⟨⟨[], by simp⟩, fun b o w m => by rw [upd_ne (fun y => m (by rw [y]; exact av))]; exact w, fun b w m => absurd w m⟩
            refine ⟨_, _, _, _, rfl, rfl, hx, g1, by omega, ?_⟩
            obtain ⟨w1, w2⟩ := q2.set (o := .lst (xs ++ zs)) (ob := .lst (ds ++ es)) hp2 av ⟨av, _, upd_same, (l.append g3).ex ee⟩ (fun _ _ z => by rw [hx] at z; cases z)
            exact q _ r2 _ ((e1.trans e2).trans w1) w2 .non
      · cases hf2
    | _ => cases hf2
  | _ => cases hf1
/-- min(d), d of the store -/
def minL : List Int → Option Int
  | [] => none
  | a :: l => some (l.foldl (fun x y => if y < x then y else x) a)
theorem minL_spec : ∀ {l : List Int} {a m : Int}, m = l.foldl (fun x y => if y < x then y else x) a → (m = a ∨ m ∈ l) ∧ m ≤ a ∧ ∀ j ∈ l, m ≤ j
  | [], a, m, h => by subst h; exact ⟨.inl rfl, Int.le_refl _, fun _ h => by cases h⟩
  | b :: l, a, m, h => by
    obtain ⟨h1, h2, h3⟩ := minL_spec (l := l) (a := if b < a then b else a) h
    by_cases c : b < a
    · rw [if_pos c] at h1 h2
      refine ⟨?_, by omega, fun j hj => ?_⟩
      · rcases h1 with e | e
        · exact .inr (by rw [e]; exact List.mem_cons_self)
        · exact .inr (List.mem_cons_of_mem _ e)
      · rcases List.mem_cons.mp hj with rfl | hj
        · exact h2
        · exact h3 j hj
    · rw [if_neg c] at h1 h2
      refine ⟨?_, h2, fun j hj => ?_⟩
      · rcases h1 with e | e
        · exact .inl e
        · exact .inr (List.mem_cons_of_mem _ e)
      · rcases List.mem_cons.mp hj with rfl | hj
        · omega
        · exact h3 j hj
def fMinD (fo : F) : F := fun env st => (fo env st).bind fun p => match p.1 with
  | .ref n => (dctIn n p.2).bind fun kvs => (intKs kvs).bind fun ks => (minL ks).map fun m => (.int m, p.2)
  | _ => none
theorem de_minD {e : Expr} {fo : F} {p pos : Pos} (hc : X.calm = true) (ho : DE X e fo) (hg : Gl X "min") (hm : X.mg "min" = none) (hs : starEach [e] X.env = (false, eval e X.env) :: starEach [] X.env := by rfl) (hpl : (backTo pos (starEach [] X.env)).any (·.1) = false := by rfl) :
    DE X (.Call (.Name "min" p) [e] [] pos) (fMinD fo) := weakE (pe_callB (p := p) (pos := pos) (cr_minK hc) hg hm (by decide +kernel) (pa_cons ho pa_nil hs) (he := hs) (hpl := hpl)) fun σ H Q hh => by
  obtain ⟨r, env, st, d, st', he, hs, hf, q⟩ := hh
  obtain ⟨⟨x, s1⟩, h1, hf1⟩ := Option.bind_eq_some_iff.mp hf
  cases x with
  | ref n =>
    obtain ⟨kvs, h2, hf2⟩ := Option.bind_eq_some_iff.mp (show ((dctIn n s1).bind fun kvs => (intKs kvs).bind fun ks => (minL ks).map fun m => (D.int m, s1)) = some (d, st') from hf1)
    obtain ⟨ks, h3, hf3⟩ := Option.bind_eq_some_iff.mp hf2
    obtain ⟨m, h4, hf4⟩ := Option.map_eq_some_iff.mp hf3
    cases hf4
    refine ⟨r, env, st, _, _, he, hs, h1, fun v r1 H1 e1 q1 p1 => ?_⟩
    obtain ⟨a, rfl, ha⟩ := p1.refI
    obtain ⟨av, xs, hx, l⟩ := q1.ob _ a _ ha (dctIn_some h2)
    cases ks with
    | nil => cases h4
    | cons b ks =>
      have hm : m = ks.foldl (fun x y => if y < x then y else x) b := (Option.some.inj h4).symm
      obtain ⟨k1, k2, k3⟩ := minL_spec hm
      refine ⟨a, xs, b :: ks, rfl, hx, by rw [l.keys, intKs_keys h3], by simp, fun m' hm' hmin => ?_⟩
      have e : m' = m := by
        have i1 : m' ≤ m := hmin m (by rcases k1 with e | e <;> simp [e])
        have i2 : m ≤ m' := by
          rcases List.mem_cons.mp hm' with e | e
          · rw [e]; exact k2
          · exact k3 m' e
        omega
      rw [e]
      exact q _ r1 _ e1 q1 (.int m)
  | _ => cases hf1
/-- repr(xs), xs a list of the store -/
def bReprS : List D → Store → Option D := fun ds st => match ds with
  | [.ref n] => (match st[n]? with | some (.lst xs) => bReprA [.lst xs] st | _ => none)
  | _ => none
theorem bare_ex {r : Rf} {H : Hp} : Ex r H ⟨r.adr, fun _ => False, r.lk⟩ H := ⟨⟨[], by simp⟩, fun _ _ h _ => h, fun _ h _ => h.elim⟩
theorem ok_reprS {k : Nat} (g : GX X k) : CallOk X (.builtin "repr") bReprS := ⟨_, call_reprA g, fun rho H xs ds d st Q rl si e q => by
  unfold bReprS at e
  split at e
  · rename_i n
    obtain ⟨v, rfl, p⟩ := lst1 rl
    split at e
    · rename_i ys hst
      obtain ⟨a, rfl, ha⟩ := p.refI
      obtain ⟨av, zs, hx, l⟩ := si.ob _ a _ ha hst
      unfold bReprA at e
      obtain ⟨z, h1, h2⟩ := Option.bind_eq_some_iff.mp e
      by_cases c : z.showable = true ∧ z.depth ≤ 64 ∧ z.shown.length ≤ sizeLine
      · rw [if_pos c] at h2
        cases h2
        exact ⟨⟨rho.adr, fun _ => False, rho.lk⟩, .ref a, .lst ys, z, rfl, .lst hx (fun h => h) (l.ex bare_ex), h1, c.1, c.2.1, c.2.2, q _ H (fun _ _ h => h) (.str _)⟩
      · rw [if_neg c] at h2
        cases h2
    · cases e
  · cases e⟩
def bReprAS : List D → Store → Option D := fun ds st => (bReprA ds st).or (bReprS ds st)
theorem ok_reprAS {k : Nat} (g : GX X k) : CallOk X (.builtin "repr") bReprAS := (ok_reprA g).or (ok_reprS g)
end
end DL
/-! Dicts with int keys as maps: lookups after writes, equal maps have equal items. -/
namespace DL
open PySem PySem.Spec PyProof.Rows L2
abbrev KL := List (Key × D)
def gt (l : KL) (i : Int) : Option D := valD l (.inl i)
theorem valD_nil (k : Key) : valD [] k = none := rfl
theorem valD_cons (k j : Key) (v : D) (l : KL) : valD ((k, v) :: l) j = if k = j then some v else valD l j := by
  unfold valD
  by_cases h : k = j <;> simp [List.find?_cons, h]
theorem valD_app (l m : KL) (j : Key) : valD (l ++ m) j = (valD l j).or (valD m j) := by
  induction l with
  | nil => simp [valD_nil]
  | cons p l ih =>
    obtain ⟨k, v⟩ := p
    rw [List.cons_append, valD_cons, valD_cons, ih]
    by_cases h : k = j <;> simp [h]
theorem valD_none {l : KL} {k : Key} : valD l k = none ↔ k ∉ l.map (·.1) := by
  induction l with
  | nil => simp [valD_nil]
  | cons p l ih =>
    obtain ⟨j, v⟩ := p
    rw [valD_cons]
    by_cases h : j = k
    · simp [h]
    · have h' : ¬ k = j := fun e => h e.symm
      simp only [h, if_false, ih, List.map_cons, List.mem_cons, h', false_or]
theorem valD_some {l : KL} {k : Key} {v : D} : (l.map (·.1)).Nodup → (valD l k = some v ↔ (k, v) ∈ l) := by
  induction l with
  | nil => simp [valD_nil]
  | cons p l ih =>
    obtain ⟨j, u⟩ := p
    intro nd
    have nd' := List.nodup_cons.mp (show (j :: l.map (·.1)).Nodup from nd)
    rw [valD_cons, List.mem_cons]
    by_cases h : j = k
    · subst h
      have : (j, v) ∉ l := fun m => nd'.1 (List.mem_map.mpr ⟨_, m, rfl⟩)
      simp [this, eq_comm]
    · have : (k, v) ≠ (j, u) := fun e => h (by injection e with a b; exact a.symm)
      simp [h, ih nd'.2, this]
theorem valD_map (k : Key) (v : D) (l : KL) (j : Key) : valD (l.map fun kv => if kv.1 = k then (kv.1, v) else kv) j = if k = j then (valD l j).map (fun _ => v) else valD l j := by
  induction l with
  | nil => simp [valD_nil]
  | cons p l ih =>
    obtain ⟨i, u⟩ := p
    rw [List.map_cons]
    by_cases h : i = k
    · subst h
      simp only [if_true, valD_cons, ih]
      by_cases h2 : i = j <;> simp [h2]
    · simp only [h, if_false, valD_cons, ih]
      by_cases h2 : i = j
      · subst h2
        have : ¬ k = i := fun e => h e.symm
        simp [this]
      · simp [h2]
theorem any_key {l : KL} {k : Key} : (l.any fun kv => decide (kv.1 = k)) = (valD l k).isSome := by
  induction l with
  | nil => rfl
  | cons p l ih =>
    obtain ⟨i, u⟩ := p
    rw [List.any_cons, ih, valD_cons]
    by_cases h : i = k <;> simp [h]
theorem valD_put (l : KL) (k j : Key) (v : D) : valD (putD l k v) j = if k = j then some v else valD l j := by
  unfold putD
  rw [any_key]
  cases hs : valD l k with
  | some u =>
    simp only [Option.isSome_some, if_true]
    rw [valD_map]
    by_cases h : k = j
    · subst h; simp [hs]
    · simp [h]
  | none =>
    simp only [Option.isSome_none, Bool.false_eq_true, if_false]
    rw [valD_app, valD_cons, valD_nil]
    by_cases h : k = j
    · subst h; simp [hs]
    · simp [h]
theorem valD_drop (l : KL) (k j : Key) : valD (dropD l k) j = if k = j then none else valD l j := by
  unfold dropD
  induction l with
  | nil => simp [valD_nil]
  | cons p l ih =>
    obtain ⟨i, u⟩ := p
    rw [List.filter_cons]
    by_cases h : i = k
    · subst h
      simp only [ne_eq, not_true_eq_false, decide_false, Bool.false_eq_true, if_false, ih, valD_cons]
      by_cases h2 : i = j <;> simp [h2]
    · simp only [ne_eq, h, not_false_eq_true, decide_true, if_true, valD_cons, ih]
      by_cases h2 : i = j
      · subst h2
        have : ¬ k = i := fun e => h e.symm
        simp [this]
      · simp [h2]
theorem keys_put (l : KL) (k : Key) (v : D) : (putD l k v).map (·.1) = if (valD l k).isSome = true then l.map (·.1) else l.map (·.1) ++ [k] := by
  unfold putD
  rw [any_key]
  cases valD l k with
  | some u =>
    simp only [Option.isSome_some, if_true, List.map_map]
    refine List.map_congr_left fun p _ => ?_
    by_cases h : p.1 = k <;> simp [h]
  | none => simp
/-- int keys of U, each once -/
structure okK (U : List Int) (l : KL) : Prop where
  mem : ∀ p ∈ l, ∃ i ∈ U, p.1 = .inl i
  nd : (l.map (·.1)).Nodup
theorem okK.nil {U : List Int} : okK U [] := ⟨fun _ h => (by cases h), .nil⟩
theorem okK.put {U : List Int} {l : KL} (h : okK U l) {i : Int} (hi : i ∈ U) (v : D) : okK U (putD l (.inl i) v) := by
  refine ⟨fun p hp => ?_, ?_⟩
  · have hm : p.1 ∈ (putD l (.inl i) v).map (·.1) := List.mem_map.mpr ⟨p, hp, rfl⟩
    rw [keys_put] at hm
    have key : p.1 ∈ l.map (·.1) → ∃ j ∈ U, p.1 = .inl j := fun m => by
      obtain ⟨q, hq, e⟩ := List.mem_map.mp m
      obtain ⟨j, hj, e2⟩ := h.mem q hq
      exact ⟨j, hj, e.symm.trans e2⟩
    split at hm
    · exact key hm
    · rcases List.mem_append.mp hm with m | m
      · exact key m
      · exact ⟨i, hi, List.mem_singleton.mp m⟩
  · rw [keys_put]
    split
    · exact h.nd
    · rename_i hs
      have : valD l (.inl i) = none := by
        cases q : valD l (.inl i) with
        | none => rfl
        | some _ => rw [q] at hs; exact absurd rfl hs
      exact List.nodup_append.mpr ⟨h.nd, by simp, fun a ha b hb e => by
        rw [List.mem_singleton.mp hb] at e
        exact valD_none.mp this (e ▸ ha)⟩
theorem okK.drop {U : List Int} {l : KL} (h : okK U l) (k : Key) : okK U (dropD l k) :=
  ⟨fun p hp => h.mem p (List.mem_filter.mp hp).1, List.Sublist.nodup (List.Sublist.map (fun p : Key × D => p.1) List.filter_sublist) h.nd⟩
theorem okK.cons {U : List Int} {l : KL} {p : Key × D} (h : okK U (p :: l)) : okK U l := ⟨fun q hq => h.mem q (List.mem_cons_of_mem _ hq), (List.nodup_cons.mp (show (p.1 :: l.map (·.1)).Nodup from h.nd)).2⟩
theorem nodup_sub {α : Type} [DecidableEq α] : ∀ {l u : List α}, l.Nodup → (∀ x ∈ l, x ∈ u) → l.length ≤ u.length
  | [], _, _, _ => Nat.zero_le _
  | a :: l, u, nd, h => by
    have nd' := List.nodup_cons.mp nd
    have ha := h a List.mem_cons_self
    have := nodup_sub (u := u.erase a) nd'.2 fun x hx => (List.mem_erase_of_ne (fun e : x = a => nd'.1 (by rw [← e]; exact hx))).mpr (h x (List.mem_cons_of_mem _ hx))
    rw [List.length_erase_of_mem ha] at this
    have hp : 0 < u.length := List.length_pos_of_mem ha
    rw [List.length_cons]
    omega
theorem okK.ints {U : List Int} : ∀ {l : KL}, okK U l → ∃ ks, intKs l = some ks ∧ l.map (·.1) = ks.map Sum.inl ∧ ks.Nodup ∧ (∀ i ∈ ks, i ∈ U) ∧ ks.length = l.length
  | [], _ => ⟨[], rfl, rfl, .nil, fun _ h => (by cases h), rfl⟩
  | (k, v) :: l, h => by
    obtain ⟨ks, h1, h2, h3, h4, h5⟩ := okK.ints h.cons
    obtain ⟨i, hi, e⟩ := h.mem _ List.mem_cons_self
    have e' : k = .inl i := e
    subst e'
    refine ⟨i :: ks, by show (intKs l).map (i :: ·) = _; rw [h1]; rfl, by rw [List.map_cons, List.map_cons, h2], List.nodup_cons.mpr ⟨fun m => ?_, h3⟩, fun j hj => ?_, by simp [h5]⟩
    · have nd := List.nodup_cons.mp (show (Sum.inl i :: l.map (·.1)).Nodup from h.nd)
      exact nd.1 (by rw [h2]; exact List.mem_map.mpr ⟨i, m, rfl⟩)
    · rcases List.mem_cons.mp hj with rfl | hj
      · exact hi
      · exact h4 j hj
theorem okK.len {U : List Int} {l : KL} (h : okK U l) : l.length ≤ U.length := by
  obtain ⟨ks, _, _, nd, m, e⟩ := h.ints
  rw [← e]
  exact nodup_sub nd m
/-- equal maps -/
theorem okK.perm {U : List Int} {l m : KL} (h : okK U l) (g : okK U m) (e : ∀ i, gt l i = gt m i) : l.Perm m := by
  have nd : ∀ {z : KL}, okK U z → z.Nodup := fun {z} o => List.Pairwise.imp (fun {a b} (h : a.1 ≠ b.1) e => h (by rw [e])) (List.pairwise_map.mp o.nd)
  refine (List.perm_ext_iff_of_nodup (nd h) (nd g)).mpr fun p => ?_
  have key : ∀ {a b : KL}, okK U a → okK U b → (∀ i, gt a i = gt b i) → p ∈ a → p ∈ b := fun {a b} oa ob e hp => by
    obtain ⟨i, _, ei⟩ := oa.mem p hp
    obtain ⟨k, v⟩ := p
    have ek : k = .inl i := ei
    subst ek
    have := (valD_some oa.nd).mpr hp
    exact (valD_some ob.nd).mp ((e i).symm.trans this)
  exact ⟨key h g e, key g h fun i => (e i).symm⟩
theorem sortK_eq {U : List Int} {l m : KL} (h : okK U l) (g : okK U m) (e : ∀ i, gt l i = gt m i) : sortK l = sortK m := by
  have nk : ∀ {z : KL}, okK U z → (z.map fun p => keyI p.1).Nodup := fun {z} o => by
    obtain ⟨ks, _, h2, nd, _, _⟩ := o.ints
    have : (z.map fun p => keyI p.1) = ks := by
      have : (z.map fun p => keyI p.1) = (z.map (·.1)).map keyI := by rw [List.map_map]; rfl
      rw [this, h2, List.map_map]
      exact List.map_id _
    rw [this]; exact nd
  exact sortK_uniq ((sortK_perm l).trans (h.perm g e)) (sortK_pw (nk h))
theorem itemsD_eq {U : List Int} {l m : KL} (h : okK U l) (g : okK U m) (e : ∀ i, gt l i = gt m i) : itemsD l = itemsD m := by
  unfold itemsD
  rw [sortK_eq h g e]
theorem okK.sortedKs {U : List Int} {l : KL} (h : okK U l) (hu : U.length < 64) : ∃ ks, sortedKs l = some (srt ks) ∧ l.map (·.1) = ks.map Sum.inl ∧ ks.Nodup ∧ (∀ i, i ∈ srt ks ↔ (gt l i).isSome = true) ∧ (∀ i ∈ ks, i ∈ U) ∧ ks.length = l.length := by
  obtain ⟨ks, h1, h2, h3, h4, h5⟩ := h.ints
  have hl := nodup_sub h3 h4
  refine ⟨ks, by simp [DL.sortedKs, h1, h3, show ks.length < 64 by omega], h2, h3, fun i => ?_, h4, h5⟩
  rw [srt_mem]
  unfold gt
  cases q : valD l (.inl i) with
  | none =>
    have := valD_none.mp q
    rw [h2] at this
    simp only [Option.isSome_none, Bool.false_eq_true, iff_false]
    exact fun m => this (List.mem_map.mpr ⟨i, m, rfl⟩)
  | some v =>
    simp only [Option.isSome_some, iff_true]
    have m : (Sum.inl i : Key) ∈ l.map (·.1) := List.mem_map.mpr ⟨_, (valD_some h.nd).mp q, rfl⟩
    rw [h2] at m
    obtain ⟨j, hj, e⟩ := List.mem_map.mp m
    injection e with e
    exact e ▸ hj
end DL
/-! Own errors with one field: made, raised. -/
namespace DL
open PySem PySem.W PySem.Calls PyProof.Rows PySem.HandSPX
def xA (f : Str) (p1 p2 : Pos) : Arguments := { posonlyargs := [], args := [{ arg := "self", annotation := none, pos := p1 }, { arg := f, annotation := none, pos := p2 }], vararg := none, kwonlyargs := [], kw_defaults := [], kwarg := none, defaults := [] }
def xB (f : Str) (q1 q2 q3 q4 : Pos) : List Stmt := [.Assign [.Attribute (.Name "self" q1) f q2] (.Name f q3) q4]
def xS (f : Str) : Scope := { kind := .function, names := [(PySem.Str.ofString "self", .local), (f, .local)], isGenerator := false, isCoroutine := false, more := [] }
/-- the class c of errors with the field f, at C; its __init__ (full name q) at fI -/
structure ErrTxt (K : Frag) (c q f : Str) (C fI : Addr) : Prop where
  nf : (f == ("self" : Str)) = false
  nd : (f == ("__debug__" : Str)) = false
  bd : ∀ (q : Str) (doc pm : Value) (an : Option Addr) (cdv ct : Value) (p1 p2 q1 q2 q3 q4 : Pos) (x v : Value), bindArgs (fnOf "__init__" q (xA f p1 p2) (xB f q1 q2 q3 q4) (xS f) .none .none doc pm an cdv ct) ⟨[x, v], []⟩ = pure [(("self" : Str), x), (f, v)]
  aC : nsIn K mainGlobals c = some (some (.ref C))
  cls : ∃ nm qn N bs bm sn sub ab col dd k0 k1 k2 k3 k5, K.lookup C = some (excClassObj nm qn C N bs bm true sn sub ab col dd k0 k1 k2 k3 k5 "ValueError.__new__") ∧ refsVE bm = true
  sa : findIn K (.ref C) "__setattr__" = some (some (.builtin "object.__setattr__"))
  ga : findIn K (.ref C) "__getattribute__" = some (some (.builtin "BaseException.__getattribute__"))
  gg : findIn K (.ref C) "__getattr__" = some none
  noN : findIn K (.ref C) f = some none
  iC : findIn K (.ref C) "__init__" = some (some (.ref fI))
  tC : typeIn K (.ref fI) = some (.type "function")
  kC : keepIn K (.ref C) = true
  exC : subIn K (.ref C) (.type "BaseException") = some true
  tyC : typeIn K (.ref C) = some (.type "type")
  hdC : hasDictIn K C = true
  te : exmOne K (.ref C) (.ref C) = some true
  fn : ∃ (oc : Value) (od : Option Addr) (doc pm : Value) (an : Option Addr) (cdv ct : Value) (osl : Array (Option Value)) (p1 p2 q1 q2 q3 q4 : Pos),
    K.lookup fI = some ⟨oc, od, .func (fnOf "__init__" q (xA f p1 p2) (xB f q1 q2 q3 q4) (xS f) .none .none doc pm an cdv ct), osl⟩ ∧ codeIn K cdv q = true
/-- an error of the class at S is what «except S» names -/
theorem exm_self {K : PySem.W.Frag} {S : Addr} (h1 : PySem.W.subIn K (.ref S) (.type "BaseException") = some true) (h2 : PySem.W.isClsIn K S = true) (h3 : PySem.W.typeIn K (.ref S) = some (.type "type")) (h4 : PySem.W.subIn K (.ref S) (.ref S) = some true) :
    PySem.W.exmOne K (.ref S) (.ref S) = some true := by
  have e1 : (PySem.W.subIn K (.ref S) (.type "BaseException") == some true) = true := by rw [h1] <;> rfl
  have e2 : ((PySem.W.clsIn K S).isSome && PySem.W.typeIn K (.ref S) == some (.type "type")) = true := by
    have h2' : (PySem.W.clsIn K S).isSome = true := h2
    rw [h2', h3] <;> rfl
  show (if (PySem.W.subIn K (.ref S) (.type "BaseException") == some true) = true then (if ((PySem.W.clsIn K S).isSome && PySem.W.typeIn K (.ref S) == some (.type "type")) = true then PySem.W.subIn K (.ref S) (.ref S) else none) else none) = some true
  rw [if_pos e1, if_pos e2]
  exact h4
theorem one_size (v : Value) : [v].length ≤ sizeLine := by
  rw [sizeLine_eq]
  exact (by decide : 1 ≤ 16777216)
theorem ldC {M : Model} {s : Shared} {name : Str} {scope : Scope} {L a : Addr} {cd : Value} {m : Str → Option Value} {x : Str} {pos : Pos} {v : Value} {Q : Value → Shared → Prop} {A : Around} {E : Value → Shared → Prop} (hn : s.heap.Ns L m) (hv : m x = some v) (h : Q v s)
    (hk : scope.kind = .function) (hl : (envOfC name scope L a cd).kindOf x = some .local) (hd : (x == ("__debug__" : Str)) = false) :
    wpAny M A (eval (.Name x pos) (envOfC name scope L a cd)) Q E s := wpAny_Name (wpAny_loadName_local hk hl hn hv h) hd
structure InitEnd (h h' : Heap) (x C dx t1 : Addr) (f : Str) (v : Value) : Prop where
  keep : ∀ b o, b ≠ x → h.get? b = some o → h'.get? b = some o
  obj : h'.get? x = some { cls := .ref C, dict := some dx, data := .fields #[.ref t1, .none, .none, .none, .bool false, .none] }
  dbig : h.objs.size ≤ dx
  dne : dx ≠ x
  ns : h'.Ns1 dx (fun y => if y = f then some v else none)
structure OwnMade (h h' : Heap) (e C d : Addr) (f : Str) (v : Value) : Prop where
  keep : ∀ b o, h.get? b = some o → h'.get? b = some o
  new : h.objs.size ≤ e
  obj : ∃ oe vs, h'.get? e = some oe ∧ oe.cls = .ref C ∧ oe.dict = some d ∧ oe.data = .fields vs ∧ vs[1]? = some .none
  dbig : h.objs.size ≤ d
  dne : d ≠ e
  ns : h'.Ns1 d (fun y => if y = f then some v else none)
section
variable {prog : Program} {w : World} {A : Around} {E : Value → Shared → Prop} {R : Result → Shared → Prop} {s : Shared} {K : Frag} {c q f : Str} {C fI : Addr}
theorem kS_self (name : Str) (L a : Addr) (cd : Value) : (envOfC name (xS f) L a cd).kindOf "self" = some .local := rfl
theorem kS_f (hf : (f == ("self" : Str)) = false) (name : Str) (L a : Addr) (cd : Value) : (envOfC name (xS f) L a cd).kindOf f = some .local := by
  show List.lookup f [(PySem.Str.ofString "self", NameKind.local), (f, NameKind.local)] = some .local
  rw [List.lookup_cons, show (f == PySem.Str.ofString "self") = false from hf]
  simp [List.lookup]
theorem bind_at (hf : (f == ("self" : Str)) = false) (name : Str) (L a : Addr) (cd x v : Value) :
    bindL (envOfC name (xS f) L a cd).kindOf [(("self" : Str), x), (f, v)] (fun _ => none) f = some v ∧ bindL (envOfC name (xS f) L a cd).kindOf [(("self" : Str), x), (f, v)] (fun _ => none) "self" = some x := by
  have ne : ¬ (("self" : Str) = f) := fun z => by
    rw [← z] at hf
    exact absurd hf (by decide)
  constructor
  · rw [bindL, bindL, bindL, if_pos (kS_f hf name L a cd)]
    exact if_pos rfl
  · rw [bindL, bindL, bindL, if_pos (kS_f hf name L a cd), if_pos (kS_self name L a cd)]
    exact (if_neg ne).trans (if_pos rfl)
theorem err_init (T : ErrTxt K c q f C fI) {x t0 : Addr} {v : Value} (X : K.In s.heap) (hlim : s.heap.NoLimit) (hx : s.heap.get? x = some (excO C t0)) (hnx : K.lookup x = none) (hroom : A.depth < recursionLimit)
    (hq : ∀ h' tk dx, InitEnd s.heap h' x C dx t0 f v → R (.ok (.ret .none)) { s with heap := h', toks := tk }) :
    codeAny (model prog w) A (.call (.ref fI) ⟨[.ref x, v], []⟩) R s := by
  obtain ⟨oc, od, doc, pm, an, cdv, ct, osl, p1, p2, q1, q2, q3, q4, ho, hcd⟩ := T.fn
  obtain ⟨nm, qn, N, bs, bm, sn, sub, ab, col, dd, k0, k1, k2, k3, k5, hC, hbm⟩ := T.cls
  have hcl : clsIn K C = some { name := nm, bases := bs, mro := .ref C :: bm, ns := N, qualname := qn, hasDict := true, slotNames := sn, subclasses := sub, abstract := ab, collection := col, hasDel := false } := by unfold clsIn; rw [hC] <;> rfl
  have nf := T.nf
  refine Att.call_fn (binds := [(("self" : Str), .ref x), (f, v)]) X hlim ho hcd hroom (BindsTo.of_eq (T.bd q doc pm an cdv ct p1 p2 q1 q2 q3 q4 (.ref x) v)) (by
    have e1 : List.lookup ("self" : Str) (xS f).names = some .local := rfl
    have e2 : List.lookup f (xS f).names = some .local := kS_f nf "" 0 0 .none
    simp only [List.all_cons, List.all_nil, e1, e2]; rfl) (fun s₁ IC => ?_) rfl rfl rfl
  obtain ⟨h₁, tk₁, rfl⟩ := IC.toInCall.same
  have k : ∀ b o, s.heap.get? b = some o → h₁.get? b = some o := IC.toInCall.keep
  have hn := IC.toInCall.ns
  have hxL : s.heap.objs.size ≠ x := Nat.ne_of_gt (Heap.lt_size hx)
  have X₁ : K.In h₁ := X.keeps k
  have hx₁ := k _ _ hx
  have ba := bind_at nf q s.heap.objs.size fI cdv (.ref x) v
  -- self.f = f
  show wpAny _ _ (execs _ _) _ _ _
  refine wpAny_execs_cons (plainObj_wpAny_Assign_Attribute ?_)
  refine ldC (v := v) hn ba.1 (ldC (v := .ref x) hn ba.2 ?_ rfl (kS_self _ _ _ _) (by decide)) rfl (kS_f nf _ _ _ _) T.nd
  refine set_plain X₁ (ox := excO C t0) (od := none) ⟨hx₁, rfl, rfl, trivial⟩ T.sa ?_
  refine exc_osa X₁ hx₁ hcl (show refsVE (.ref C :: bm) = true from hbm) rfl T.noN (fun h₃ tk₃ dx k₃ dn dne hx₃ hn₃ => ?_)
  show wpAny _ _ (execs _ _) _ _ _
  have z : s.heap.objs.size < h₁.objs.size := hn.lt
  exact wpAny_execs_nil (hq h₃ tk₃ dx ⟨fun b o hb e => k₃ b o hb (k b o e), hx₃, Nat.le_of_lt (Nat.lt_of_lt_of_le z dn), dne, hn₃⟩)
theorem err_made (T : ErrTxt K c q f C fI) {v : Value} (X : K.In s.heap) (hlim : s.heap.NoLimit) (hroom : A.depth + 1 < recursionLimit)
    (hq : ∀ h' tk e d, OwnMade s.heap h' e C d f v → R (.ok (.ret (.ref e))) { s with heap := h', toks := tk }) :
    codeAny (model prog w) A (.call (.ref C) ⟨[v], []⟩) R s := by
  obtain ⟨nm, qn, N, bs, bm, sn, sub, ab, col, dd, k0, k1, k2, k3, k5, hC, hbm⟩ := T.cls
  obtain ⟨hp, g, dr, tk, os⟩ := s
  have k : ∀ b o, hp.get? b = some o → ((hp.push (kdv_tup [v])).push (excO C hp.objs.size)).get? b = some o := fun b o e => Heap.get?_push_of_some _ (Heap.get?_push_of_some _ e)
  have hget : ((hp.push (kdv_tup [v])).push (excO C hp.objs.size)).get? (hp.objs.size + 1) = some (excO C hp.objs.size) := by heap_get
  have hnx : K.lookup (hp.objs.size + 1) = none := by
    cases e : K.lookup (hp.objs.size + 1) with
    | none => rfl
    | some o =>
      have z : hp.get? (hp.objs.size + 1) = some o := X _ _ e
      exact absurd (Nat.lt_of_succ_lt (Heap.lt_size z)) (Nat.lt_irrefl _)
  refine call_own F.excBase_ValueError (fun X => refsVE_contains X bm hbm) (X _ _ hC) (looks_findIn X T.iC) (fun self => bind_fn X self T.tC) (one_size v) ?_
  refine err_init (s := ⟨(hp.push (kdv_tup [v])).push (excO C hp.objs.size), g, dr, tk, os⟩) T (X.keeps k) (hlim.keeps k) hget hnx ?_ fun h' tk' dx ⟨k', hx, dn, dne, hns⟩ => ?_
  · show A.depth + 1 < recursionLimit
    exact hroom
  · have old : ∀ b o, hp.get? b = some o → h'.get? b = some o := fun b o e => k' b o (Nat.ne_of_lt (Nat.lt_succ_of_lt (Heap.lt_size e))) (k b o e)
    have z : hp.objs.size + 1 + 1 ≤ dx := by
      first
        | (simpa only [Heap.size_push] using dn)
        | exact dn
        | (have q := dn; rw [Heap.size_push, Heap.size_push] at q; exact q)
    exact ⟨rfl, hq h' tk' (hp.objs.size + 1) dx ⟨old, Nat.le_succ _, ⟨_, _, hx, rfl, rfl, rfl, rfl⟩, Nat.le_trans (Nat.le_trans (Nat.le_succ _) (Nat.le_succ _)) z, dne, hns⟩⟩
end
end DL
/-! raise C(e); methods that may raise; for in such defs; try .. except C as n. -/
namespace DL
open PySem PySem.Spec PyProof.Rows L2 TL
theorem relO_err {v : V} {v' : PySem.Value} (r : RelV v v') (f g : Str) : RelO (List.lookup g [(f, v)]) (if g = f then some v' else none) := by
  by_cases hw : g = f
  · subst hw
    rw [if_pos rfl]
    have q : List.lookup g [(g, v)] = some v := by simp [List.lookup]
    rw [q]
    exact r
  · rw [if_neg hw]
    have qw : (g == f) = false := by simpa using hw
    have q2 : List.lookup g [(f, v)] = none := by simp [List.lookup, qw]
    rw [q2]
    trivial
section
variable {X : Cx} {W : WXd} {C fI : Addr} {c q f : Str}
/-- C(e) -/
def tMkErr (C : Addr) (f : Str) (ta : TA) : L2.St → Hp → XK → Prop := fun σ H Q => ta σ H fun vs H1 => ∃ v, vs = [v] ∧ ∀ d, H1 d = none → Q (.ref C) (some d) (upd H1 d (.xd [(f, v)]))
theorem pmk_err {a : Expr} {ta : TA} {p pos : Pos} {k : Nat} (T : ErrTxt X.K c q f C fI) (gC : X.mg c = some (.ref C)) (hr : Room k X.A) (ha : PA X [a] ta) (hg : Gl X c := by rfl)
    (hdb : (c == ("__debug__" : Str)) = false := by decide)
    (he : starEach (a :: []) X.env = (false, eval a X.env) :: starEach [] X.env := by rfl) (hpl : (backTo pos (starEach [] X.env)).any (·.1) = false := by rfl) :
    PMk X (.Call (.Name c p) [a] [] pos) (tMkErr C f ta) := by
  intro pins s σ H Q I h
  refine wpAny_Call_Name_kw (ld_glob I hg gC ?_ hdb)
  refine PySem.W.callWith_K (h₀ := X.base) I.ok.mod.kin T.kC (thn (ha.run pos pins s σ H _ I h) fun us s1 hh => ?_) he hpl
  obtain ⟨vs, H1, I1, r1, v, ev, q1⟩ := hh
  subst ev
  refine ⟨I1.kIn, ?_⟩
  cases r1 with
  | cons rv rn =>
    rename_i v' us'
    cases rn
    show wpAny _ _ (call (.ref C) [v']) _ _ _
    have hlim := I1.nolimit
    obtain ⟨hp, g, dr, tk, os⟩ := s1
    refine wpAny_call (err_made T I1.kIn hlim (by have := hr.dp; omega) fun h' tk' e d M => ?_)
    show MkP X pins σ Q (.ref e) ⟨h', g, dr, tk', os⟩
    obtain ⟨oe, fv, hoe, hc, hd, hdat, h1⟩ := M.obj
    have hns := M.ns
    obtain ⟨G', g1, g2⟩ := restrict h' fun b => decide (b ≠ e)
    have gk : ∀ b, b ≠ e → G'.get? b = h'.get? b := fun b hb => g1 b (decide_eq_true hb)
    have ge : G'.get? e = none := g2 e (by simp)
    have old : ∀ b o, hp.get? b = some o → G'.get? b = some o := fun b o q => (gk b (Nat.ne_of_lt (Nat.lt_of_lt_of_le (Heap.lt_size q) M.new))).trans (M.keep b o q)
    have ob : ObjOk X.prog X.w (upd H1 d (.xd [(f, v)])) G' d (.xd [(f, v)]) :=
      ⟨_, hns.at (fun o q => (gk d M.dne).trans q), fun g => relO_err rv f g⟩
    have J : Inv X pins σ (upd H1 d (.xd [(f, v)])) ⟨G', g, dr, tk', os⟩ := I1.laid (t' := tk') old M.dbig ob
    refine ⟨e, oe, fv, ⟨G', g, dr, tk', os⟩, _, .ref C, some d, rfl, J, fun b o q => ?_, ge, hoe, ⟨hc, hd⟩, hdat, h1, ?_, rfl, I1.bare, raises_own T.exC T.tyC, q1 d (I1.hok.fresh M.dbig)⟩
    · by_cases hb : b = e
      · have q' : G'.get? b = some o := q
        rw [hb, ge] at q'; cases q'
      · exact (gk b hb).symm.trans q
    · rw [upd_ne (Ne.symm M.dne)]
      exact I1.hok.fresh M.new
/-- raise C(e) -/
def tRaiseErr (C : Addr) (f : Str) (W : WXd) (ta : TA) : TS := fun _ σ H => tMkErr C f ta σ H fun cls d H' => W cls d σ H'
theorem ps_raiseErr {a : Expr} {ta : TA} {p pos pos2 : Pos} {k : Nat} (hc : X.calm = true) (T : ErrTxt X.K c q f C fI) (gC : X.mg c = some (.ref C)) (hr : Room k X.A) (tk : L2.Takes X W) (ha : PA X [a] ta) (hg : Gl X c := by rfl)
    (hdb : (c == ("__debug__" : Str)) = false := by decide)
    (he : starEach (a :: []) X.env = (false, eval a X.env) :: starEach [] X.env := by rfl) (hpl : (backTo pos (starEach [] X.env)).any (·.1) = false := by rfl) :
    PS X (.Raise (some (.Call (.Name c p) [a] [] pos)) none pos2) (tRaiseErr C f W ta) := ps_raise hc tk (pmk_err T gC hr ha hg hdb he hpl)
def sRaise (c f : Str) (fa : FA) : FS := fun env st => (fa env st).bind fun p => match p.1 with | [d] => some (.er c f d, env, p.2) | _ => none
/-- a new object that no value is: the dict of an error -/
theorem ds_raise {a : Expr} {fa : FA} {p pos pos2 : Pos} {k : Nat} (hc : X.calm = true) (T : ErrTxt X.K c q f C fI) (gC : X.mg c = some (.ref C)) (gx : GX X k) (tk : L2.Takes X W) (ha : DA X [a] fa) (hg : Gl X c := by rfl)
    (hdb : (c == ("__debug__" : Str)) = false := by decide)
    (he : starEach (a :: []) X.env = (false, eval a X.env) :: starEach [] X.env := by rfl) (hpl : (backTo pos (starEach [] X.env)).any (·.1) = false := by rfl) :
    DS X W (.Raise (some (.Call (.Name c p) [a] [] pos)) none pos2) (sRaise c f fa) := weakS (ps_raiseErr hc T gC gx.room tk ha hg hdb he hpl) fun D' σ H hh => by
  obtain ⟨r, env, st, o, env', st', he, hs, hf, q⟩ := hh
  obtain ⟨⟨ds, s1⟩, h1, h2⟩ := Option.bind_eq_some_iff.mp hf
  cases ds with
  | nil => cases h2
  | cons d ds =>
    cases ds with
    | cons _ _ => cases h2
    | nil =>
      cases h2
      refine ⟨r, env, st, [d], _, he, hs, h1, fun vs r1 H1 e1 q1 l1 => ?_⟩
      cases l1 with
      | cons rv rn =>
        cases rn
        rename_i v
        refine ⟨v, rfl, fun dd hd => ?_⟩
        have sm : Same H1 (upd H1 dd (.xd [(f, v)])) := same_alloc hd
        exact q σ r1 _ C dd (e1.trans (q1.ext sm)) ((he.ext e1).ext (q1.ext sm)) (q1.same sm) ⟨T.aC, v, upd_same, rv.ext (q1.ext sm)⟩
/-- o.m(e, ..) where m may raise -/
def fMethX (c m : Str) (mm : FMX) (fo : F) (fa : FA) : FX := fun env st => (fo env st).bind fun p => match p.1 with
  | .ref n => if noF m (insAt c n p.2) = true then (fa env p.2).bind fun q => mm (.ref n :: q.1) q.2 else none
  | _ => none
variable {k : Nat} {fm Cc : Addr} {fd : FuncData} {ps : List Str} {mm : FMX} {cc m : Str} {apos pos : Pos} {o e : Expr} {es : List Expr}
theorem dx_meth {pl : Sem Bool} (hc : ClsAt X.K cc Cc) (hm : Meth X.K Cc m fm) (Fd : FnX X.prog X.w X.K X.mg X.base k fm fd ps mm) (gx : GX X k) (hb : Binds X.K fd ps []) (tk : L2.Takes X W) {fo : F} {fa : FA} (ho : DE X o fo) (ha : DA X (e :: es) fa) (hl : (e :: es).length + 1 = ps.length := by rfl)
    (hst : starEach (e :: es) X.env = (false, eval e X.env) :: starEach es X.env := by rfl) (hpl : (backTo pos (starEach es X.env)).any (·.1) = false := by rfl)
    (ht : eval (.Call (.Attribute o m apos) (e :: es) [] pos) X.env = (do let ov ← eval o X.env; standAt apos.atName; let (f, first) ← holding [ov] (getMethod ov m pl); callWith pos f first (backTo pos (starEach (e :: es) X.env)) (backToKw pos (keywordEach [] X.env))) := by rfl)
    (hn : ∀ env st ds st', fa env st = some (ds, st') → ds.length = (e :: es).length) :
    DX X W (.Call (.Attribute o m apos) (e :: es) [] pos) (fMethX cc m mm fo fa) := by
  refine ⟨fun pins s σ H Q I h => ?_⟩
  obtain ⟨r, env, st, z, st', he', hs, hf, q⟩ := h
  obtain ⟨⟨x, s1⟩, h1, h2⟩ := Option.bind_eq_some_iff.mp hf
  cases x with
  | ref n =>
    have h2' : (if noF m (insAt cc n s1) = true then (fa env s1).bind fun q => mm (.ref n :: q.1) q.2 else none) = some (z, st') := h2
    by_cases hz : noF m (insAt cc n s1) = true
    case neg => rw [if_neg hz] at h2'; cases h2'
    rw [if_pos hz] at h2'
    obtain ⟨⟨ds, s2⟩, h3, h4⟩ := Option.bind_eq_some_iff.mp h2'
    refine PySem.W.methodCall_KW (pl := pl) (thn (ho.run pins s σ H (fun v H1 => ∃ a r1 C' dx vs, v = .ref a ∧ r1.adr[n]? = some a ∧ H1 a = some (.ins C' dx vs) ∧ C' = Cc ∧ vs.lookup m = none ∧ Ext r H r1 H1 ∧ Sim X.K r1 H1 s1) I ⟨r, env, st, _, s1, he', hs, h1, fun v r1 H1 e1 q1 p1 => ?_⟩) fun u sa hq => ?_) ht
    · obtain ⟨a, rfl, hadr⟩ := p1.refI
      cases hi : insAt cc n s1 with
      | none => rw [hi] at hz; cases hz
      | some fs =>
        rw [hi] at hz
        obtain ⟨av, C', dx, vs, hn', hx, nm, l⟩ := q1.ob _ a _ hadr (insAt_some hi)
        rw [hc.at_] at hn'
        cases hn'
        exact ⟨a, r1, Cc, dx, vs, rfl, hadr, hx, rfl, fields_none nm (Option.isNone_iff_eq_none.mp hz), e1, q1⟩
    · obtain ⟨x, H1, I1, rx, a, r1, C', dx, vs, rfl, hadr, hx, rfl, hno, e1, q1⟩ := hq
      cases rx
      refine getmeth_ok I1 hx hc.cls hm hno ?_
      refine PySem.W.callWith_K (first := [.ref a]) (h₀ := X.base) I.ok.mod.kin hm.kp (thn (ha.run pos pins sa σ H1 (fun vs H2 => ∃ r2, Ext r1 H1 r2 H2 ∧ Sim X.K r2 H2 s2 ∧ RepL X.K r2 H2 vs ds) I1 ⟨r1, env, s1, ds, s2, he'.ext e1, q1, h3, fun vs r2 H2 e2 q2 l2 => ⟨r2, e2, q2, l2⟩⟩) fun us sb hz => ?_) hst hpl
      obtain ⟨vs2, H2, I2, rv, r2, e2, q2, l2⟩ := hz
      exact ⟨I2.kIn, runX (us := .ref a :: us) (vs := .ref a :: vs2) Fd gx hb tk I2 (.cons rfl rv) (by rw [List.length_cons, l2.len, hn _ _ _ _ h3]; exact hl) (.cons (.ref (e2.get hadr)) l2) q2 h4 (q.ext (e1.trans e2))⟩
  | _ => cases h2
end
end DL
/-! try: .. except C as n: .. -/
namespace DL
open PySem PySem.Spec PyProof.Rows L2 TL
section
variable {X : Cx} {W : WXd} {C fI : Addr} {c q f : Str}
def tErrFld (f : Str) (C a : Addr) (cls : PySem.Value) (d : Option Addr) (te : TE) : TE := fun σ H Q => te σ H fun x H1 => x = .ref a ∧ cls = .ref C ∧ ∃ (dd : Addr) (v : V), d = some dd ∧ H1 dd = some (.xd [(f, v)]) ∧ Q v H1
theorem pe_errFld {a : Addr} {oe : Obj} {cls : PySem.Value} {d : Option Addr} {pn : List (Addr × Obj)} {e : Expr} {te : TE} {pos : Pos} (T : ErrTxt X.K c q f C fI) (hz : Zc cls d oe) (hf : ∃ vs, oe.data = .fields vs) (he : PE (X.suite a ((a, oe) :: pn)) e te)
    (hb : attributeBase e f X.env (eval e X.env) = eval e X.env := by rfl) :
    PE (X.suite a ((a, oe) :: pn)) (.Attribute e f pos) (tErrFld f C a cls d te) := by
  refine ⟨fun pins s σ H Q I h => ?_⟩
  refine attr_of hb (thn (he.run pins s σ H _ I h) fun u s1 hh => ?_)
  obtain ⟨x, H1, I1, rx, ex, ec, dd, v, ed, ea, q⟩ := hh
  subst ex
  obtain rfl : u = Value.ref a := rx
  subst ec
  subst ed
  obtain ⟨ha, _⟩ := I1.pin (a, oe) (List.mem_append_left _ List.mem_cons_self)
  obtain ⟨vs, hd⟩ := hf
  have hx : ObjOk X.prog X.w H1 s1.heap dd (.xd [(f, v)]) := I1.hok dd _ ea
  obtain ⟨mA, hns, hr⟩ := hx
  obtain ⟨od, ho, hl⟩ := lookIn_ns hns
  have l : List.lookup f [(f, v)] = some v := by simp [List.lookup]
  obtain ⟨u, hu, ru⟩ := RelO.some_of (v := v) (o := mA f) (by rw [← l]; exact hr f)
  have J : PySem.W.InstAt s1.heap a oe C (some od) := ⟨ha, hz.1, by unfold PySem.W.notCls; rw [hd] <;> rfl, by rw [hz.2]; exact ho⟩
  exact HandSPX.exc_get I1.kIn J T.ga T.gg T.exC (PySem.W.findObj_own T.hdC T.noN rfl (by rw [hl, hu])) (handed_of ru) ⟨v, H1, I1.tok _, ru, q⟩
/-- the suite's reading: the payload is handed to h; slot i holds the exception -/
def tSu (K : PySem.W.Frag) (i : Nat) (c f : Str) (h : D → FS) (a : Addr) (cls : PySem.Value) (d : Option Addr) : TS := fun D' σ H => ∃ r env st o env' st' pay C dd, cls = .ref C ∧ d = some dd ∧ σ[i]? = some (some (.ref a)) ∧ ErrAt K r H c f pay C dd ∧
  EnvR K r H env σ ∧ Sim K r H st ∧ h pay env st = some (o, env', st') ∧ OutOk K (fun _ _ _ _ => False) r H D' env' st' o
abbrev DSu (X : Cx) (i : Nat) (c f : Str) (ss : List Stmt) (h : D → FS) : Prop := ∀ (a : Addr) (oe : Obj) (cls : PySem.Value) (d : Option Addr) (pn : List (Addr × Obj)), Zc cls d oe → (∃ vs, oe.data = .fields vs) → PSs (X.suite a ((a, oe) :: pn)) ss (tSu X.K i c f h a cls d)
def wipeO (i : Nat) : Out × Lo × Store → Option (Out × Lo × Store)
  | (.er _ _ _, _, _) => none
  | (o, e, s) => some (o, e.set i none, s)
def sTry (g : FS) (c f : Str) (i : Nat) (h : D → FS) : FS := fun env st => (g env st).bind fun p => match p with
  | (.er c' f' d, e1, s1) => if c' = c ∧ f' = f ∧ i < e1.length then (h d (e1.set i none) s1).bind (wipeO i) else none
  | q => some q
theorem EnvR.hold {K : PySem.W.Frag} {r : Rf} {H : Hp} {env : Lo} {σ : L2.St} (h : EnvR K r H env σ) (i : Nat) (v : V) : EnvR K r H (env.set i none) (σ.set i (some v)) := by
  refine ⟨by rw [List.length_set, List.length_set]; exact h.len, fun j c e => ?_⟩
  by_cases z : i = j
  · subst z
    by_cases hi : i < env.length
    · rw [List.getElem?_set_self hi] at e
      cases e
    · rw [List.getElem?_eq_none (by rw [List.length_set]; omega)] at e
      cases e
  · rw [List.getElem?_set_ne z] at e
    obtain ⟨u, a, b⟩ := h.at_ j c e
    exact ⟨u, by rw [List.getElem?_set_ne z]; exact a, b⟩
theorem ds_try {n : Str} {i : Nat} {body suite : List Stmt} {b₀ : Stmt} {np pos pos' : Pos} {g : FS} {h : D → FS} (T : ErrTxt X.K c q f C fI) (gC : X.mg c = some (.ref C)) (hs : X.stack = X.env :: X.outer) (hf : X.env.frame = some X.env.locals) (hN : X.N.Nodup) (hi : X.N[i]? = some n) (hln : X.env.kindOf n = some .local)
    (hg : Gl X c) (hdb : (c == ("__debug__" : Str)) = false) {Wout : WXd} (tk : L2.Takes X Wout)
    (hb : ∀ (W : WXd) (pn : List (Addr × Obj)) (xe : PySem.Value → Shared → Prop), L2.Takes (X.tr pn xe) W → PassesOwn (model X.prog X.w) X.A X.env xe → DSs (X.tr pn xe) W body g)
    (hsu : DSu X i c f (b₀ :: suite) h) :
    DS X W (.Try body [.ExceptHandler (some (.Name c np)) (some n) (b₀ :: suite) pos'] [] [] pos) (sTry g c f i h) :=
  weakS (ps_try_as (tb := fun W => tS X.K W g) (ts := fun a cls d => tSu X.K i c f h a cls d) (Wout := Wout) hs hf hN hi hln ⟨hg, hdb, .inl gC⟩ tk (fun W pn xe tk' po => hb W pn xe tk' po) hsu) fun D' σ H hh => by
  obtain ⟨r, env, st, o, env', st', he, hsi, hf', q⟩ := hh
  obtain ⟨⟨o1, e1, s1⟩, h1, h2⟩ := Option.bind_eq_some_iff.mp hf'
  refine ⟨r, env, st, o1, e1, s1, he, hsi, h1, ?_⟩
  cases o1 with
  | nx => cases h2; exact q
  | bk => cases h2; exact q
  | ct => cases h2; exact q
  | rt d => cases h2; exact q
  | er c' f' d =>
    have h2' : (if c' = c ∧ f' = f ∧ i < e1.length then (h d (e1.set i none) s1).bind (wipeO i) else none) = some (o, env', st') := h2
    by_cases hc : c' = c ∧ f' = f ∧ i < e1.length
    case neg => rw [if_neg hc] at h2'; cases h2'
    rw [if_pos hc] at h2'
    obtain ⟨rfl, rfl, hlt⟩ := hc
    obtain ⟨⟨o2, e2, s2⟩, h3, h4⟩ := Option.bind_eq_some_iff.mp h2'
    intro σ' r' H' C' dd ex he' hs' er
    have eC : C' = C := by
      have := er.1.symm.trans T.aC
      cases this
      rfl
    subst eC
    refine ⟨true, T.te, fun _ a ha => ?_, fun z => by cases z⟩
    refine ⟨r', e1.set i none, s1, o2, e2, s2, d, C', dd, rfl, rfl, ?_, er, he'.hold i _, hs', h3, ?_⟩
    · exact List.getElem?_set_self (by rw [← he'.len]; exact hlt)
    · cases o2 with
      | nx => cases h4; exact fun σ2 r2 H2 x2 a2 b2 => q _ r2 H2 (ex.trans x2) (a2.wipe i) b2
      | bk => cases h4; exact fun σ2 r2 H2 x2 a2 b2 => q _ r2 H2 (ex.trans x2) (a2.wipe i) b2
      | ct => cases h4; exact fun σ2 r2 H2 x2 a2 b2 => q _ r2 H2 (ex.trans x2) (a2.wipe i) b2
      | rt d2 => cases h4; exact fun v r2 H2 x2 b2 p2 => q v r2 H2 (ex.trans x2) b2 p2
      | er _ _ _ => cases h4

/-! suites -/
theorem suSet {K : PySem.W.Frag} {r : Rf} {H : Hp} {env : Lo} {σ : L2.St} {st : Store} (he : EnvR K r H env σ) (hs : Sim K r H st) : True := trivial
/-- x = n.f -/
def hAsg (j : Nat) (pay : D) : FS := fun env st => some (.nx, env.set j (some pay), st)
theorem hs_asg {i j : Nat} {n x : Str} {p1 p2 p3 pos : Pos} (T : ErrTxt X.K c q f C fI) (hN : X.N.Nodup) (hi : X.N[i]? = some n) (hv : Vis X.env.scope n) (hj : X.N[j]? = some x) (hx : Loc X.env.scope x) (hl : X.env.scope.names.lookup x = some .local)
    (hd1 : (n == ("__debug__" : Str)) = false) (hd2 : (n == ("__classdict__" : Str)) = false)
    (hb : attributeBase (.Name n p1) f X.env (eval (.Name n p1) X.env) = eval (.Name n p1) X.env := by rfl)
    (h1 : swapsWithSole [.Name x p3] (.Attribute (.Name n p1) f p2) pos.line X.env = pure false := by rfl) (h2 : swappedStores [.Name x p3] (.Attribute (.Name n p1) f p2) X.env = pure none := by rfl) (h3 : (assignEach [.Name x p3] X.env).map (·.2) = [assign (.Name x p3) X.env] := by rfl) :
    DSu X i c f [.Assign [.Name x p3] (.Attribute (.Name n p1) f p2) pos] (hAsg j) := fun a oe cls d pn hz hf =>
  weakSs (pss_one (ps_asg (X := X.suite a ((a, oe) :: pn)) (pe_errFld T hz hf (pe_var (X := X.suite a ((a, oe) :: pn)) hi hv hd1 hd2) hb) (pg_name hN hj hx (.inr hl)) h1 h2 h3)) fun D' σ H hh => by
  obtain ⟨r, env, st, o, env', st', pay, C', dd, ec, ed, hσ, er, he, hs, hf', q⟩ := hh
  cases hf'
  obtain ⟨e1, v, e2, e3⟩ := er
  have := e1.symm.trans T.aC
  cases this
  exact ⟨_, hσ, rfl, ec, dd, v, ed, e2, q _ r H (.refl r H) (he.set e3 j) hs⟩
/-- x = (k, n.f), k a text -/
def hAsgT (j : Nat) (k : Str) (pay : D) : FS := fun env st => some (.nx, env.set j (some (.tup [.str k, pay])), st)
theorem hs_asgT {i j : Nat} {n x k : Str} {kk : Nat} {x1 : Nat} {p1 p2 p3 p4 p5 pos : Pos} (T : ErrTxt X.K c q f C fI) (hN : X.N.Nodup) (hi : X.N[i]? = some n) (hv : Vis X.env.scope n) (hj : X.N[j]? = some x) (hx : Loc X.env.scope x) (hl : X.env.scope.names.lookup x = some .local)
    (hd1 : (n == ("__debug__" : Str)) = false) (hd2 : (n == ("__classdict__" : Str)) = false)
    (hb : attributeBase (.Name n p1) f X.env (eval (.Name n p1) X.env) = eval (.Name n p1) X.env := by rfl)
    (h1 : swapsWithSole [.Name x p3] (.Tuple [.Constant (.str k) kk p4, .Attribute (.Name n p1) f p2] x1 p5) pos.line X.env = pure false := by rfl) (h2 : swappedStores [.Name x p3] (.Tuple [.Constant (.str k) kk p4, .Attribute (.Name n p1) f p2] x1 p5) X.env = pure none := by rfl) (h3 : (assignEach [.Name x p3] X.env).map (·.2) = [assign (.Name x p3) X.env] := by rfl) :
    DSu X i c f [.Assign [.Name x p3] (.Tuple [.Constant (.str k) kk p4, .Attribute (.Name n p1) f p2] x1 p5) pos] (hAsgT j k) := fun a oe cls d pn hz hf =>
  weakSs (pss_one (ps_asg (X := X.suite a ((a, oe) :: pn)) (pe_tupF (pa_cons pe_str (pa_cons (pe_errFld T hz hf (pe_var (X := X.suite a ((a, oe) :: pn)) hi hv hd1 hd2) hb) pa_nil))) (pg_name hN hj hx (.inr hl)) h1 h2 h3)) fun D' σ H hh => by
  obtain ⟨r, env, st, o, env', st', pay, C', dd, ec, ed, hσ, er, he, hs, hf', q⟩ := hh
  cases hf'
  obtain ⟨e1, v, e2, e3⟩ := er
  have := e1.symm.trans T.aC
  cases this
  refine ⟨_, hσ, rfl, ec, dd, v, ed, e2, by show 2 ≤ sizeLine; decide, fun p o hp hz' => ?_⟩
  have sm := same_alloc (o := .frz o (.tup [.str k, v])) hp
  have ex := hs.ext sm
  exact q _ r _ ex ((he.ext ex).set (.tup upd_same hz' (hs.free hp) (.cons (.str k) (.cons (e3.ext ex) .nil))) j) (hs.same sm)
/-- xs.append(n.f) -/
def hApp (j : Nat) (pay : D) : FS := sDrop (fApp (fVar j) (fC pay))
theorem hs_app {i j : Nat} {n x : Str} {p1 p2 p3 apos cpos pos : Pos} (T : ErrTxt X.K c q f C fI) (hi : X.N[i]? = some n) (hv : Vis X.env.scope n) (hj : X.N[j]? = some x) (hvx : Vis X.env.scope x)
    (hd1 : (n == ("__debug__" : Str)) = false) (hd2 : (n == ("__classdict__" : Str)) = false) (hd3 : (x == ("__debug__" : Str)) = false) (hd4 : (x == ("__classdict__" : Str)) = false)
    (hb : attributeBase (.Name n p1) f X.env (eval (.Name n p1) X.env) = eval (.Name n p1) X.env := by rfl) (hbase : attributeBase (.Name x p3) "append" X.env (eval (.Name x p3) X.env) = eval (.Name x p3) X.env := by rfl)
    (hfew : ((backTo cpos (starEach [.Attribute (.Name n p1) f p2] X.env)).all (fun x => !x.1) && (backToKw cpos (keywordEach [] X.env)).all (fun x => x.1.isSome)
      && decide (([.Attribute (.Name n p1) f p2] : List Expr).length + ([] : List Keyword).length + (if ([] : List Keyword).isEmpty then 0 else 1) < 30)) = true := by rfl)
    (hline : (apos.endLine == cpos.line) = true := by rfl) (hst : starEach [.Attribute (.Name n p1) f p2] X.env = [(false, eval (.Attribute (.Name n p1) f p2) X.env)] := by rfl)
    (hsw : swapsWith (.Call (.Attribute (.Name x p3) "append" apos) [.Attribute (.Name n p1) f p2] [] cpos) none pos.line X.env = pure false := by rfl) :
    DSu X i c f [.Expr (.Call (.Attribute (.Name x p3) "append" apos) [.Attribute (.Name n p1) f p2] [] cpos) pos] (hApp j) := fun a oe cls d pn hz hf =>
  weakSs (pss_one (ps_expr (X := X.suite a ((a, oe) :: pn)) (pe_bm PySem.F.plainAttrs_list PySem.F.slot_list_append PySem.F.type_list_append mt_append (pe_var hj hvx hd3 hd4) (pa_cons (pe_errFld T hz hf (pe_var (X := X.suite a ((a, oe) :: pn)) hi hv hd1 hd2) hb) pa_nil hst) hbase hfew hline hst rfl) hsw)) fun D' σ H hh => by
  obtain ⟨r, env, st, o, env', st', pay, C', dd, ec, ed, hσ, er, he, hs, hf', q⟩ := hh
  obtain ⟨e1, v, e2, e3⟩ := er
  have := e1.symm.trans T.aC
  cases this
  obtain ⟨⟨x1, s1⟩, h1, h2⟩ := Option.map_eq_some_iff.mp hf'
  cases h2
  obtain ⟨⟨x2, s2⟩, h3, hf1⟩ := Option.bind_eq_some_iff.mp h1
  unfold fVar at h3
  split at h3
  · rename_i hd'
    cases h3
    obtain ⟨u, hu, ru⟩ := he.at_ j _ hd'
    cases x2 with
    | ref m =>
      have hf1' : (if isLs st[m]? = true then appAt m pay st else none) = some (x1, s1) := hf1
      by_cases hl1 : isLs st[m]? = true
      case neg => rw [if_neg hl1] at hf1'; cases hf1'
      rw [if_pos hl1] at hf1'
      unfold appAt at hf1'
      split at hf1'
      · rename_i ds hst'
        split at hf1'
        · rename_i hl
          cases hf1'
          obtain ⟨p, rfl, hp⟩ := ru.refI
          try dsimp only at hst' hl q
          obtain ⟨av, xs, hx, l⟩ := hs.ob m p _ hp hst'
          refine ⟨.ref p, hu, .inl ⟨rfl, xs, .of hx⟩, _, hσ, rfl, ec, dd, v, ed, e2, p, xs, v, rfl, rfl, hx, by rw [l.len]; exact hl, ?_⟩
          have ee : Ex r H r (upd H p (.lst (xs ++ [v]))) := ⟨⟨[], by simp⟩, fun a o w m => by rw [upd_ne (fun y => m (by rw [y]; exact av))]; exact w, fun a w m => absurd w m⟩
          obtain ⟨w1, w2⟩ := hs.set (o := .lst (xs ++ [v])) (ob := .lst (ds ++ [pay])) hp av ⟨av, _, upd_same, (l.append (.cons e3 .nil)).ex ee⟩ (fun _ _ z => by rw [hx] at z; cases z)
          exact q σ r _ w1 (he.ext w1) w2
        · cases hf1'
      · cases hf1'
    | _ => cases hf1
  · cases h3
/-- return n.f -/
def hRet (pay : D) : FS := fun env st => some (.rt pay, env, st)
theorem hs_ret {i : Nat} {n : Str} {p1 p2 pos : Pos} (T : ErrTxt X.K c q f C fI) (hi : X.N[i]? = some n) (hv : Vis X.env.scope n)
    (hd1 : (n == ("__debug__" : Str)) = false) (hd2 : (n == ("__classdict__" : Str)) = false)
    (hb : attributeBase (.Name n p1) f X.env (eval (.Name n p1) X.env) = eval (.Name n p1) X.env := by rfl) :
    DSu X i c f [.Return (some (.Attribute (.Name n p1) f p2)) pos] hRet := fun a oe cls d pn hz hf =>
  weakSs (pss_one (ps_ret (X := X.suite a ((a, oe) :: pn)) (pe_errFld T hz hf (pe_var (X := X.suite a ((a, oe) :: pn)) hi hv hd1 hd2) hb))) fun D' σ H hh => by
  obtain ⟨r, env, st, o, env', st', pay, C', dd, ec, ed, hσ, er, he, hs, hf', q⟩ := hh
  cases hf'
  obtain ⟨e1, v, e2, e3⟩ := er
  have := e1.symm.trans T.aC
  cases this
  exact ⟨_, hσ, rfl, ec, dd, v, ed, e2, q v r H (.refl r H) hs e3⟩
end
theorem gxTr {X : Cx} {k : Nat} (g : GX X k) (pn : List (Addr × Obj)) (xe : PySem.Value → Shared → Prop) : GX (X.tr pn xe) k := ⟨g.calm, g.nd, g.room, g.gd⟩
end DL
/-! Arguments by name. -/
namespace DL
open PySem PySem.Spec PyProof.Rows L2 TL
variable {K : PySem.W.Frag}
def pickL {α : Type} (is : List Nat) (xs : List α) : List α := is.filterMap fun i => xs[i]?
theorem vals_pick {vs : List V} {us : List PySem.Value} (h : Vals vs us) : ∀ is : List Nat, Vals (pickL is vs) (pickL is us)
  | [] => .nil
  | i :: is => by
    have ih := vals_pick h is
    unfold pickL at ih ⊢
    rw [List.filterMap_cons, List.filterMap_cons]
    have key : ∀ {vs : List V} {us : List PySem.Value}, Vals vs us → ∀ i : Nat, (vs[i]? = none ∧ us[i]? = none) ∨ ∃ v u, vs[i]? = some v ∧ us[i]? = some u ∧ RelV v u := by
      intro vs us h
      induction h with
      | nil => intro i; exact .inl ⟨rfl, rfl⟩
      | cons a b ih =>
        intro i
        cases i with
        | zero => exact .inr ⟨_, _, rfl, rfl, a⟩
        | succ i => simpa using ih i
    rcases key h i with ⟨e1, e2⟩ | ⟨v, u, e1, e2, r⟩
    · rw [e1, e2]; exact ih
    · rw [e1, e2]; exact .cons r ih
theorem repL_pick {r : Rf} {H : Hp} {vs : List V} {ds : List D} (h : RepL K r H vs ds) : ∀ is : List Nat, RepL K r H (pickL is vs) (pickL is ds)
  | [] => .nil
  | i :: is => by
    have ih := repL_pick h is
    unfold pickL at ih ⊢
    rw [List.filterMap_cons, List.filterMap_cons]
    cases e : ds[i]? with
    | none =>
      have : vs[i]? = none := by
        rw [List.getElem?_eq_none_iff] at e ⊢
        rw [h.len]; exact e
      rw [this]; exact ih
    | some d =>
      obtain ⟨v, hv, rv⟩ := h.get e
      rw [hv]; exact .cons rv ih
/-- how a call with n values by place and the names ks binds -/
structure KB (K : PySem.W.Frag) (fd : FuncData) (ps ks : List Str) (n : Nat) (is : List Nat) : Prop where
  to : ∀ (s : Shared) (us ws : List PySem.Value), K.In s.heap → us.length = n → ws.length = ks.length → BindsTo s fd ⟨us, ks.zip ws⟩ (ps.zip (pickL is (us ++ ws)))
  len : ∀ xs : List D, xs.length = n + ks.length → (pickL is xs).length = ps.length
theorem kb_of {x qual : Str} {st : Stmt} {f : Addr} {fd : FuncData} {ps ks : List Str} {n : Nat} {is : List Nat} (F : Fun K x qual st f fd) (h2 : is.all (fun i => decide (i < n + ks.length)) = true) (h3 : is.length = ps.length)
    (h : ∀ (kV doc pm : PySem.Value) (an : Option Addr) (cdv ct : PySem.Value) (us ws : List PySem.Value), us.length = n → ws.length = ks.length → bindArgs (PySem.W.fnOf x qual (defArgs st) (defBody st) (defScope st) .none kV doc pm an cdv ct) ⟨us, ks.zip ws⟩ = pure (ps.zip (pickL is (us ++ ws)))) : KB K fd ps ks n is := by
  obtain ⟨oc, od, kV, doc, pm, an, cdv, ct, osl, rfl, lk, hcd⟩ := F.ex
  refine ⟨fun s us ws _ l1 l2 => BindsTo.of_eq (h kV doc pm an cdv ct us ws l1 l2), fun xs hx => ?_⟩
  rw [← hx] at h2
  rw [← h3]
  clear h h3
  induction is with
  | nil => rfl
  | cons i is ih =>
    rw [List.all_cons, Bool.and_eq_true, decide_eq_true_eq] at h2
    unfold pickL at ih ⊢
    rw [List.filterMap_cons, List.getElem?_eq_getElem h2.1]
    simp only [List.length_cons]
    rw [ih h2.2]
section
variable {X : Cx} {W : WXd} {k n : Nat} {f C : Addr} {fd : FuncData} {ps ks : List Str} {is : List Nat} {m : FM} {x : Str} {p pos apos : Pos} {o e : Expr} {es : List Expr} {kws : List Keyword}
abbrev DK (X : Cx) (kws : List Keyword) (f : FA) : Prop := PK X kws (tA X.K f)
theorem dk_nil : DK X [] aNil := by
  refine ⟨fun pos pins s σ H Q I h => (pk_nil (X := X)).run pos pins s σ H Q I ?_⟩
  obtain ⟨r, env, st, ds, st', he, hs, hf, q⟩ := h
  cases hf
  exact q [] r H (.refl r H) hs .nil
theorem dk_cons {nm : Option Str} {kpos : Pos} {f : F} {g : FA} (h : DE X e f) (t : DK X kws g) : DK X (⟨nm, e, kpos⟩ :: kws) (aCons f g) := by
  refine ⟨fun pos pins s σ H Q I hh => (pk_cons h t).run pos pins s σ H Q I ?_⟩
  obtain ⟨r, env, st, ds, st', he, hs, hf, q⟩ := hh
  obtain ⟨x, s1, ys, s2, h1, h2, e⟩ := aCons_some hf
  cases e
  exact ⟨r, env, st, x, s1, he, hs, h1, fun u r1 H1 e1 q1 p1 => ⟨r1, env, s1, ys, _, he.ext e1, q1, h2, fun us r2 H2 e2 q2 p2 => q (u :: us) r2 H2 (e1.trans e2) q2 (.cons (p1.ext e2) p2)⟩⟩
theorem runK {pins : List (Addr × Obj)} {σ : L2.St} {H : Hp} {s : Shared} {Q : VK} {us ws : List PySem.Value} {vs zs : List V} {rho : Rf} {ds es : List D} {st st' : Store} {d : D} (Fd : FnD X.prog X.w X.K X.mg X.base k f fd ps m) (gx : GX X k) (hb : KB X.K fd ps ks n is)
    (I : Inv X pins σ H s) (r : Vals vs us) (rz : Vals zs ws) (l1 : ds.length = n) (l2 : es.length = ks.length) (rd : RepL X.K rho H vs ds) (re : RepL X.K rho H zs es) (hs : Sim X.K rho H st) (hm : m (pickL is (ds ++ es)) st = some (d, st')) (hq : ∀ v rho' H', Ext rho H rho' H' → Sim X.K rho' H' st' → Rep X.K rho' H' v d → Q v H') :
    wpAny (model X.prog X.w) X.A (call (.ref f) us (ks.zip ws)) (EP X pins σ Q) X.xe s := by
  have u1 : us.length = n := by rw [← r.length, rd.len, l1]
  have u2 : ws.length = ks.length := by rw [← rz.length, re.len, l2]
  have hv : Vals (vs ++ zs) (us ++ ws) := by
    clear hm hq rd re u1 u2 l1 l2
    induction r with
    | nil => exact rz
    | cons a b ih => exact .cons a ih
  have rp := repL_pick (rd.append re) is
  refine wpAny_call (codeAny_mono (Fd.run X.A X.stack s H ⟨us, ks.zip ws⟩ (pickL is (us ++ ws)) (pickL is (vs ++ zs)) Q rho (pickL is (ds ++ es)) st st' d gx.gd gx.room I.env0 (hb.to s us ws I.kIn u1 u2) (vals_pick hv is) (by rw [rp.len]; exact hb.len _ (by rw [List.length_append, l1, l2])) rp hs hm hq) fun z s' hz => ?_)
  cases z with
  | error e => exact False.elim hz
  | ok fl =>
    cases fl with
    | ret u => exact I.after hz
    | next => exact False.elim hz
    | brk => exact False.elim hz
    | cont => exact False.elim hz
/-- f(e, .., k = v, ..) -/
def fCallK (m : FM) (is : List Nat) (fa fk : FA) : F := fun env st => (fa env st).bind fun p => (fk env p.2).bind fun q => m (pickL is (p.1 ++ q.1)) q.2
theorem de_callK (Fd : FnD X.prog X.w X.K X.mg X.base k f fd ps m) (gx : GX X k) (hg : Gl X x) (hm : X.mg x = some (.ref f)) (hk : PySem.W.keepIn X.K (.ref f) = true) (hb : KB X.K fd ps ks n is) {fa fk : FA}
    (ha : DA X (e :: es) fa) (hkw : DK X kws fk) (hl : (e :: es).length = n := by rfl) (hks : (backToKw pos (keywordEach kws X.env)).filterMap (·.1) = ks := by rfl) (hall : (backToKw pos (keywordEach kws X.env)).all (·.1.isSome) = true := by rfl) (hdb : (x == ("__debug__" : Str)) = false := by decide)
    (he : starEach (e :: es) X.env = (false, eval e X.env) :: starEach es X.env := by rfl) (hpl : ((backTo pos (starEach (e :: es) X.env)).any (·.1) || (backToKw pos (keywordEach kws X.env)).any (·.1.isNone)) = false := by rfl)
    (hn : ∀ env st ds st', fa env st = some (ds, st') → ds.length = (e :: es).length) (hn2 : ∀ env st ds st', fk env st = some (ds, st') → ds.length = ks.length) :
    DE X (.Call (.Name x p) (e :: es) kws pos) (fCallK m is fa fk) := by
  refine ⟨fun pins s σ H Q I h => wpAny_Call_Name_kw (ld_glob I hg hm ?_ hdb)⟩
  obtain ⟨r, env, st, d, st', he', hs, hf, q⟩ := h
  obtain ⟨⟨ds, s1⟩, h1, h2⟩ := Option.bind_eq_some_iff.mp hf
  obtain ⟨⟨es', s2⟩, h3, h4⟩ := Option.bind_eq_some_iff.mp h2
  refine PySem.W.callWith_KW (h₀ := X.base) I.ok.mod.kin hk hall (thn (ha.run pos pins s σ H (fun vs H1 => ∃ r1, Ext r H r1 H1 ∧ Sim X.K r1 H1 s1 ∧ RepL X.K r1 H1 vs ds) I ⟨r, env, st, ds, s1, he', hs, h1, fun vs r1 H1 e1 q1 l1 => ⟨r1, e1, q1, l1⟩⟩) fun us sa hz => ?_) hpl he
  obtain ⟨vs, H1, I1, rv, r1, e1, q1, l1⟩ := hz
  refine thn (hkw.run pos pins sa σ H1 (fun zs H2 => ∃ r2, Ext r1 H1 r2 H2 ∧ Sim X.K r2 H2 s2 ∧ RepL X.K r2 H2 zs es') I1 ⟨r1, env, s1, es', s2, he'.ext e1, q1, h3, fun zs r2 H2 e2 q2 l2 => ⟨r2, e2, q2, l2⟩⟩) fun ws sb hz => ?_
  obtain ⟨zs, H2, I2, rz, r2, e2, q2, l2⟩ := hz
  refine ⟨I2.kIn, ?_⟩
  rw [hks]
  exact runK Fd gx hb I2 rv rz ((hn _ _ _ _ h1).trans hl) (hn2 _ _ _ _ h3) (l1.ext e2) l2 q2 h4 fun v r3 H3 e3 q3 p3 => q v r3 H3 ((e1.trans e2).trans e3) q3 p3
/-- f(k = v, ..) -/
theorem de_callK0 (Fd : FnD X.prog X.w X.K X.mg X.base k f fd ps m) (gx : GX X k) (hg : Gl X x) (hm : X.mg x = some (.ref f)) (hk : PySem.W.keepIn X.K (.ref f) = true) (hb : KB X.K fd ps ks 0 is) {fk : FA}
    (hkw : DK X kws fk) (hks : (backToKw pos (keywordEach kws X.env)).filterMap (·.1) = ks := by rfl) (hall : (backToKw pos (keywordEach kws X.env)).all (·.1.isSome) = true := by rfl) (hdb : (x == ("__debug__" : Str)) = false := by decide)
    (hpl : ((backTo pos (starEach [] X.env)).any (·.1) || (backToKw pos (keywordEach kws X.env)).any (·.1.isNone)) = false := by rfl) (hn2 : ∀ env st ds st', fk env st = some (ds, st') → ds.length = ks.length) :
    DE X (.Call (.Name x p) [] kws pos) (fCallK m is aNil fk) := by
  refine ⟨fun pins s σ H Q I h => wpAny_Call_Name_kw (ld_glob I hg hm ?_ hdb)⟩
  obtain ⟨r, env, st, d, st', he', hs, hf, q⟩ := h
  obtain ⟨⟨es', s2⟩, h3, h4⟩ := Option.bind_eq_some_iff.mp (show ((fk env st).bind fun q => m (pickL is ([] ++ q.1)) q.2) = some (d, st') from hf)
  refine PySem.W.callWith_KW0 (h₀ := X.base) I.ok.mod.kin hk hall ?_ hpl
  refine thn (hkw.run pos pins s σ H (fun zs H2 => ∃ r2, Ext r H r2 H2 ∧ Sim X.K r2 H2 s2 ∧ RepL X.K r2 H2 zs es') I ⟨r, env, st, es', s2, he', hs, h3, fun zs r2 H2 e2 q2 l2 => ⟨r2, e2, q2, l2⟩⟩) fun ws sb hz => ?_
  obtain ⟨zs, H2, I2, rz, r2, e2, q2, l2⟩ := hz
  refine ⟨I2.kIn, ?_⟩
  rw [hks]
  exact runK (us := []) (vs := []) (ds := []) Fd gx hb I2 .nil rz rfl (hn2 _ _ _ _ h3) .nil l2 q2 h4 fun v r3 H3 e3 q3 p3 => q v r3 H3 (e2.trans e3) q3 p3
/-- o.m(.., k = v, ..) -/
def fMethK (c mn : Str) (mm : FM) (is : List Nat) (fo : F) (fa fk : FA) : F := fun env st => (fo env st).bind fun p => match p.1 with
  | .ref n => if noF mn (insAt c n p.2) = true then (fa env p.2).bind fun q => (fk env q.2).bind fun z => mm (pickL is (.ref n :: q.1 ++ z.1)) z.2 else none
  | _ => none
variable {mm : FM} {c mn : Str}
theorem meth_start {fo : F} {Q : PySem.Value → Shared → Prop} (hc : ClsAt X.K c C) (hm : Meth X.K C mn f) {args : List Expr} {pl : Sem Bool} (ho : DE X o fo) {pins : List (Addr × Obj)} {s : Shared} {σ : L2.St} {H : Hp} (I : Inv X pins σ H s) {r : Rf} {env : Lo} {st s1 : Store} {nn : Nat} (he' : EnvR X.K r H env σ) (hs : Sim X.K r H st) (h1 : fo env st = some (.ref nn, s1)) (hz : noF mn (insAt c nn s1) = true)
    (ht : eval (.Call (.Attribute o mn apos) args kws pos) X.env = (do let ov ← eval o X.env; standAt apos.atName; let (f, first) ← holding [ov] (getMethod ov mn pl); callWith pos f first (backTo pos (starEach args X.env)) (backToKw pos (keywordEach kws X.env))))
    (k : ∀ (a : Addr) (r1 : Rf) (sa : Shared) (H1 : Hp), Inv X pins σ H1 sa → Ext r H r1 H1 → Sim X.K r1 H1 s1 → r1.adr[nn]? = some a → wpAny (model X.prog X.w) X.A (callWith pos (.ref f) [.ref a] (backTo pos (starEach args X.env)) (backToKw pos (keywordEach kws X.env))) Q X.xe sa) :
    wpAny (model X.prog X.w) X.A (eval (.Call (.Attribute o mn apos) args kws pos) X.env) Q X.xe s := by
  refine PySem.W.methodCall_KW (pl := pl) (thn (ho.run pins s σ H (fun v H1 => ∃ a r1 C' dx vs, v = .ref a ∧ r1.adr[nn]? = some a ∧ H1 a = some (.ins C' dx vs) ∧ C' = C ∧ vs.lookup mn = none ∧ Ext r H r1 H1 ∧ Sim X.K r1 H1 s1) I ⟨r, env, st, _, s1, he', hs, h1, fun v r1 H1 e1 q1 p1 => ?_⟩) fun u sa hq => ?_) ht
  · obtain ⟨a, rfl, hadr⟩ := p1.refI
    cases hi : insAt c nn s1 with
    | none => rw [hi] at hz; cases hz
    | some fs =>
      rw [hi] at hz
      obtain ⟨av, C', dx, vs, hn', hx, nm, l⟩ := q1.ob _ a _ hadr (insAt_some hi)
      rw [hc.at_] at hn'
      cases hn'
      exact ⟨a, r1, C, dx, vs, rfl, hadr, hx, rfl, fields_none nm (Option.isNone_iff_eq_none.mp hz), e1, q1⟩
  · obtain ⟨x, H1, I1, rx, a, r1, C', dx, vs, rfl, hadr, hx, rfl, hno, e1, q1⟩ := hq
    cases rx
    exact getmeth_ok I1 hx hc.cls hm hno (k a r1 sa H1 I1 e1 q1 hadr)
theorem de_methK {pl : Sem Bool} (hc : ClsAt X.K c C) (hm : Meth X.K C mn f) (Fd : FnD X.prog X.w X.K X.mg X.base k f fd ps mm) (gx : GX X k) (hb : KB X.K fd ps ks n is) {fo : F} {fa fk : FA} (ho : DE X o fo) (ha : DA X (e :: es) fa) (hkw : DK X kws fk) (hl : (e :: es).length + 1 = n := by rfl)
    (hks : (backToKw pos (keywordEach kws X.env)).filterMap (·.1) = ks := by rfl) (hall : (backToKw pos (keywordEach kws X.env)).all (·.1.isSome) = true := by rfl)
    (he : starEach (e :: es) X.env = (false, eval e X.env) :: starEach es X.env := by rfl) (hpl : ((backTo pos (starEach (e :: es) X.env)).any (·.1) || (backToKw pos (keywordEach kws X.env)).any (·.1.isNone)) = false := by rfl)
    (ht : eval (.Call (.Attribute o mn apos) (e :: es) kws pos) X.env = (do let ov ← eval o X.env; standAt apos.atName; let (f, first) ← holding [ov] (getMethod ov mn pl); callWith pos f first (backTo pos (starEach (e :: es) X.env)) (backToKw pos (keywordEach kws X.env))) := by rfl)
    (hn : ∀ env st ds st', fa env st = some (ds, st') → ds.length = (e :: es).length) (hn2 : ∀ env st ds st', fk env st = some (ds, st') → ds.length = ks.length) :
    DE X (.Call (.Attribute o mn apos) (e :: es) kws pos) (fMethK c mn mm is fo fa fk) := by
  refine ⟨fun pins s σ H Q I h => ?_⟩
  obtain ⟨r, env, st, d, st', he', hs, hf, q⟩ := h
  obtain ⟨⟨x, s1⟩, h1, h2⟩ := Option.bind_eq_some_iff.mp hf
  cases x with
  | ref nn =>
    have h2' : (if noF mn (insAt c nn s1) = true then (fa env s1).bind fun q => (fk env q.2).bind fun z => mm (pickL is (.ref nn :: q.1 ++ z.1)) z.2 else none) = some (d, st') := h2
    by_cases hz : noF mn (insAt c nn s1) = true
    case neg => rw [if_neg hz] at h2'; cases h2'
    rw [if_pos hz] at h2'
    obtain ⟨⟨ds, s2⟩, h3, h4⟩ := Option.bind_eq_some_iff.mp h2'
    obtain ⟨⟨es', s3⟩, h5, h6⟩ := Option.bind_eq_some_iff.mp h4
    refine meth_start hc hm ho I he' hs h1 hz ht fun a r1 sa H1 I1 e1 q1 hadr => ?_
    refine PySem.W.callWith_KW (first := [.ref a]) (h₀ := X.base) I.ok.mod.kin hm.kp hall (thn (ha.run pos pins sa σ H1 (fun vs H2 => ∃ r2, Ext r1 H1 r2 H2 ∧ Sim X.K r2 H2 s2 ∧ RepL X.K r2 H2 vs ds) I1 ⟨r1, env, s1, ds, s2, he'.ext e1, q1, h3, fun vs r2 H2 e2 q2 l2 => ⟨r2, e2, q2, l2⟩⟩) fun us sb hz => ?_) hpl he
    obtain ⟨vs, H2, I2, rv, r2, e2, q2, l2⟩ := hz
    refine thn (hkw.run pos pins sb σ H2 (fun zs H3 => ∃ r3, Ext r2 H2 r3 H3 ∧ Sim X.K r3 H3 s3 ∧ RepL X.K r3 H3 zs es') I2 ⟨r2, env, s2, es', s3, (he'.ext e1).ext e2, q2, h5, fun zs r3 H3 e3 q3 l3 => ⟨r3, e3, q3, l3⟩⟩) fun ws sc hz => ?_
    obtain ⟨zs, H3, I3, rz, r3, e3, q3, l3⟩ := hz
    refine ⟨I3.kIn, ?_⟩
    rw [hks]
    exact runK (us := .ref a :: us) (vs := .ref a :: vs) (ds := .ref nn :: ds) Fd gx hb I3 (.cons rfl rv) rz (by rw [List.length_cons, hn _ _ _ _ h3]; exact hl) (hn2 _ _ _ _ h5) (.cons (.ref (e3.get (e2.get hadr))) (l2.ext e3)) l3 q3 h6 fun v r4 H4 e4 q4 p4 => q v r4 H4 (((e1.trans e2).trans e3).trans e4) q4 p4
  | _ => cases h2
theorem de_methK0 {pl : Sem Bool} (hc : ClsAt X.K c C) (hm : Meth X.K C mn f) (Fd : FnD X.prog X.w X.K X.mg X.base k f fd ps mm) (gx : GX X k) (hb : KB X.K fd ps ks 1 is) {fo : F} {fk : FA} (ho : DE X o fo) (hkw : DK X kws fk)
    (hks : (backToKw pos (keywordEach kws X.env)).filterMap (·.1) = ks := by rfl) (hall : (backToKw pos (keywordEach kws X.env)).all (·.1.isSome) = true := by rfl)
    (hpl : ((backTo pos (starEach [] X.env)).any (·.1) || (backToKw pos (keywordEach kws X.env)).any (·.1.isNone)) = false := by rfl)
    (ht : eval (.Call (.Attribute o mn apos) [] kws pos) X.env = (do let ov ← eval o X.env; standAt apos.atName; let (f, first) ← holding [ov] (getMethod ov mn pl); callWith pos f first (backTo pos (starEach [] X.env)) (backToKw pos (keywordEach kws X.env))) := by rfl)
    (hn2 : ∀ env st ds st', fk env st = some (ds, st') → ds.length = ks.length) :
    DE X (.Call (.Attribute o mn apos) [] kws pos) (fMethK c mn mm is fo aNil fk) := by
  refine ⟨fun pins s σ H Q I h => ?_⟩
  obtain ⟨r, env, st, d, st', he', hs, hf, q⟩ := h
  obtain ⟨⟨x, s1⟩, h1, h2⟩ := Option.bind_eq_some_iff.mp hf
  cases x with
  | ref nn =>
    have h2' : (if noF mn (insAt c nn s1) = true then (fk env s1).bind fun z => mm (pickL is ([.ref nn] ++ z.1)) z.2 else none) = some (d, st') := h2
    by_cases hz : noF mn (insAt c nn s1) = true
    case neg => rw [if_neg hz] at h2'; cases h2'
    rw [if_pos hz] at h2'
    obtain ⟨⟨es', s3⟩, h5, h6⟩ := Option.bind_eq_some_iff.mp h2'
    refine meth_start hc hm ho I he' hs h1 hz ht fun a r1 sa H1 I1 e1 q1 hadr => ?_
    refine PySem.W.callWith_KW0 (first := [.ref a]) (h₀ := X.base) I.ok.mod.kin hm.kp hall ?_ hpl
    refine thn (hkw.run pos pins sa σ H1 (fun zs H3 => ∃ r3, Ext r1 H1 r3 H3 ∧ Sim X.K r3 H3 s3 ∧ RepL X.K r3 H3 zs es') I1 ⟨r1, env, s1, es', s3, he'.ext e1, q1, h5, fun zs r3 H3 e3 q3 l3 => ⟨r3, e3, q3, l3⟩⟩) fun ws sc hz => ?_
    obtain ⟨zs, H3, I3, rz, r3, e3, q3, l3⟩ := hz
    refine ⟨I3.kIn, ?_⟩
    rw [hks]
    exact runK (us := [.ref a]) (vs := [.ref a]) (ds := [.ref nn]) Fd gx hb I3 (.cons rfl .nil) rz rfl (hn2 _ _ _ _ h5) (.cons (.ref (e3.get hadr)) .nil) l3 q3 h6 fun v r4 H4 e4 q4 p4 => q v r4 H4 ((e1.trans e3).trans e4) q4 p4
  | _ => cases h2
end
end DL
/-! A list by value or of the store walked; list(x) into the store; xs.clear(). -/
namespace DL
open PySem PySem.Spec PyProof.Rows L2 TL
variable {K : PySem.W.Frag}
section
variable {X : Cx} {W : WXd} {tg iter : Expr}
def iLR (f : F) : FIg := fun env st => (f env st).bind fun p => match p.1 with
  | .lst ds => some (ds, (fun _ => True), p.2)
  | .ref n => (match p.2[n]? with | some (.lst ds) => some (ds, (fun s => s[n]? = some (.lst ds)), p.2) | _ => none)
  | _ => none
theorem di_LR {f : F} (h : DE X iter f) : DIG X (Rep X.K) tg iter (iLR f) := weakI (pi_list h) fun σ H R hh => by
  obtain ⟨r, env, st, ds, P, st', he, hs, hf, q⟩ := hh
  obtain ⟨⟨d, s1⟩, h1, h2⟩ := Option.bind_eq_some_iff.mp hf
  cases d with
  | lst es =>
    cases h2
    refine ⟨r, env, st, _, _, he, hs, h1, fun v r1 H1 e1 q1 p1 => ?_⟩
    cases p1 with
    | lst g1 g2 g3 =>
      rename_i a xs
      refine ⟨a, rfl, ⟨xs, .of g1⟩, q _ r1 H1 e1 q1 fun r2 H2 st2 e2 s2 _ => ?_⟩
      have sq : SqL X.K H2 a xs := .of (e2.keep _ _ g1 g2)
      have l2 := g3.ext e2
      refine ⟨fun i hi => ⟨xs, sq, by rw [g3.len]; exact hi⟩, fun i d hd => ?_⟩
      obtain ⟨v, hv, rv⟩ := l2.get hd
      exact ⟨⟨xs, v, sq, hv⟩, fun x H3 ⟨e, y⟩ => by
        subst e
        have := y xs sq
        rw [hv] at this
        cases this
        exact ⟨r2, .refl _ _, s2, rv⟩⟩
  | ref n =>
    have h2' : (match s1[n]? with | some (.lst ds) => some (ds, (fun s : Store => s[n]? = some (.lst ds)), s1) | _ => none) = some (ds, P, st') := h2
    split at h2'
    · rename_i es hst
      cases h2'
      refine ⟨r, env, st, _, _, he, hs, h1, fun v r1 H1 e1 q1 p1 => ?_⟩
      obtain ⟨a, rfl, ha⟩ := p1.refI
      obtain ⟨av, xs, hx, l⟩ := q1.ob _ a _ ha hst
      refine ⟨a, rfl, ⟨xs, .of hx⟩, q _ r1 H1 e1 q1 fun r2 H2 st2 e2 s2 hP => ?_⟩
      obtain ⟨av2, ys, hy, l2⟩ := s2.ob _ a _ (e2.get ha) hP
      have sq : SqL X.K H2 a ys := .of hy
      refine ⟨fun i hi => ⟨ys, sq, by rw [l2.len]; exact hi⟩, fun i d hd => ?_⟩
      obtain ⟨v, hv, rv⟩ := l2.get hd
      exact ⟨⟨ys, v, sq, hv⟩, fun x H3 ⟨e, y⟩ => by
        subst e
        have := y ys sq
        rw [hv] at this
        cases this
        exact ⟨r2, .refl _ _, s2, rv⟩⟩
    · cases h2'
  | _ => cases h2
/-- xs.clear(), xs a list of the store -/
def fClrL (fo : F) : F := fun env st => (fo env st).bind fun p => match p.1 with
  | .ref n => (match p.2[n]? with | some (.lst _) => some (.non, p.2.set n (.lst [])) | _ => none)
  | _ => none
theorem de_clrL {o : Expr} {fo : F} {apos cpos : Pos} (ho : DE X o fo) (hbase : attributeBase o "clear" X.env (eval o X.env) = eval o X.env := by rfl) (hline : (apos.endLine == cpos.line) = true := by rfl) :
    DE X (.Call (.Attribute o "clear" apos) [] [] cpos) (fClrL fo) := weakE (pe_bm0 PySem.F.plainAttrs_list PySem.F.slot_list_clear PySem.F.type_list_clear mt_clear ho hbase hline) fun σ H Q hh => by
  obtain ⟨r, env, st, d, st', he, hs, hf, q⟩ := hh
  obtain ⟨⟨x, s1⟩, h1, h2⟩ := Option.bind_eq_some_iff.mp hf
  cases x with
  | ref n =>
    have h2' : (match s1[n]? with | some (.lst _) => some (D.non, s1.set n (.lst [])) | _ => none) = some (d, st') := h2
    split at h2'
    · rename_i ds hst
      cases h2'
      refine ⟨r, env, st, _, s1, he, hs, h1, fun v r1 H1 e1 q1 p1 => ?_⟩
      obtain ⟨a, rfl, ha⟩ := p1.refI
      obtain ⟨av, xs, hx, l⟩ := q1.ob _ a _ ha hst
      refine ⟨.inl ⟨rfl, xs, .of hx⟩, a, xs, rfl, rfl, hx, ?_⟩
      obtain ⟨w1, w2⟩ := q1.set (o := .lst []) (ob := .lst []) ha av ⟨av, [], upd_same, .nil⟩ (fun _ _ z => by rw [hx] at z; cases z)
      exact q _ r1 _ (e1.trans w1) w2 .non
    · cases h2'
  | _ => cases h2
/-- list(x) into the store -/
def lsAt : D → Store → Option (List D) := fun d st => match d with
  | .lst ds => some ds
  | .tup ds => some ds
  | .ref n => (match st[n]? with | some (.lst ds) => some ds | _ => none)
  | _ => none
def fLstC (fo : F) : F := fun env st => (fo env st).bind fun p => (lsAt p.1 p.2).map fun ds => (.ref p.2.length, p.2 ++ [.lst ds])
theorem de_lstC {e : Expr} {fo : F} {p pos : Pos} (ho : DE X e fo) (hg : Gl X "list") (hm : X.mg "list" = none) (hs : starEach [e] X.env = (false, eval e X.env) :: starEach [] X.env := by rfl) (hpl : (backTo pos (starEach [] X.env)).any (·.1) = false := by rfl) :
    DE X (.Call (.Name "list" p) [e] [] pos) (fLstC fo) :=
  weakE (pe_callTy call_list_of hg hm (by decide +kernel) (pa_cons ho pa_nil hs) (he := hs) (hpl := hpl)) fun σ H Q hh => by
  obtain ⟨r, env, st, d, st', he, hs, hf, q⟩ := hh
  obtain ⟨⟨x, s1⟩, h1, h2⟩ := Option.bind_eq_some_iff.mp hf
  obtain ⟨ds, h3, h4⟩ := Option.map_eq_some_iff.mp h2
  cases h4
  refine ⟨r, env, st, _, s1, he, hs, h1, fun v r1 H1 e1 q1 p1 => ?_⟩
  have fin : ∀ {vs : List V}, RepL X.K r1 H1 vs ds → ∀ l, H1 l = none → Q (.ref l) (upd H1 l (.lst vs)) := fun {vs} l p hp => by
    obtain ⟨r', w1, w2, w3⟩ := newLst q1 hp l
    exact q _ r' _ (e1.trans w1) w2 w3
  cases x with
  | lst es =>
    cases h3
    cases p1 with
    | lst a b c => exact ⟨_, _, rfl, .inl (.of a), fin c⟩
  | tup es =>
    cases h3
    obtain ⟨a, us, rfl, s, l⟩ := p1.sqT
    exact ⟨_, _, rfl, .inr s, fin l⟩
  | ref n =>
    obtain ⟨a, rfl, ha⟩ := p1.refI
    have h3' : (match s1[n]? with | some (.lst ds) => some ds | _ => none) = some ds := h3
    split at h3'
    · rename_i es hst
      cases h3'
      obtain ⟨av, us, hx, l⟩ := q1.ob _ a _ ha hst
      exact ⟨_, _, rfl, .inl (.of hx), fin l⟩
    · cases h3'
  | _ => cases h3
end
end DL
/-! t * 1. -/
namespace DL
open PySem PySem.Spec PyProof.Rows L2 TL
theorem tuple_mul1 (l : Addr) (items : Array Value) (n : Nat) (dd : Option Addr) (sl : Array (Option Value)) (u : Tok) :
    Meets (Builtin.«tuple.__mul__» ⟨[.ref l, .int 1 u], []⟩) (fun _ R s => s.heap.get? l = some { cls := .type "tuple", dict := dd, data := .seq items n, slots := sl } ∧ R (.ok (.ret (Value.ref l))) s) :=
  .of_wp fun prog w A R s h => by
    obtain ⟨hp, g, d, tk, os⟩ := s
    obtain ⟨hl, h⟩ := h
    have f1 := AutoSeq1.idx_int
    have c1 : (items.isEmpty || (1 : Int) == 1) = true := by simp
    wp_walk using AutoSeq1.wpAny_loadPart' hl
    exact ⟨_, rfl, h⟩
section
variable {X : Cx}
def rRep1 (K : PySem.W.Frag) : R2 := fun x y H Q => ∃ l xs, x = .ref l ∧ y = .int 1 ∧ SqT K H l xs ∧ Q (.ref l) H
theorem op_rep1 : OpR X (binaryOp .Mult) (rRep1 X.K) := by
  intro pins s σ H x y v u Q I rx ry h
  obtain ⟨l, xs, rfl, rfl, sq, q⟩ := h
  cases rx
  obtain ⟨t, rfl⟩ := ry
  obtain ⟨its, r, ⟨⟨cls, dd, data, sl⟩, ho, hc, n, hd⟩, _⟩ := I.tuple sq
  simp only at hc hd
  subst hc hd
  refine wpAny_binaryOp_repeat_ref (T := "tuple") (U := "int") (by decide) ⟨_, ho, rfl⟩ (fun z => typeIs_int z 1 t) noFill_tuple_mul PySem.F.fills_int_mul PySem.F.slot_int_rmul repeat_tuple PySem.F.slot_int_index.lookup (call_meets PySem.F.slot_int_rmul (typeIs_int s 1 t) PySem.F.entry_int_rmul (PySem.F.args_int_rmul_2 _ _) (int_rmul_tuple 1 t l its.toArray n dd sl) ⟨ho, rfl, ⟨_, ho, rfl⟩, ?_⟩)
  exact call_meets PySem.F.slot_tuple_mul ⟨_, ho, rfl⟩ PySem.F.entry_tuple_mul (PySem.F.args_tuple_mul_2 _ _) (tuple_mul1 l its.toArray n dd sl t) ⟨ho, .ref l, H, I, rfl, q⟩
def mul1 : D → D → Option D := fun a b => match a, b with
  | .tup xs, .int n => if n = 1 then some (.tup xs) else none
  | _, _ => none
theorem ok_mul1 : OpOk X (binaryOp .Mult) mul1 := ⟨_, op_rep1, fun rho H x y a b d st Q si ra rb e q => by
  unfold mul1 at e
  split at e
  · rename_i xs n
    by_cases c : n = 1
    · subst c
      cases e
      cases rb
      obtain ⟨p, us, rfl, s1, l1⟩ := ra.sqT
      exact ⟨p, us, rfl, rfl, s1, q _ H (fun _ _ h => h) ra⟩
    · rw [if_neg c] at e
      cases e
  · cases e⟩
def opMulB : D → D → Option D := orD opMulA mul1
theorem ok_mulB : OpOk X (binaryOp .Mult) opMulB := ok_mulA.or ok_mul1
end
end DL
/-! == and != of instances by an own __eq__; isinstance of an own class; C(k = v). -/
namespace DL
open PySem PySem.Spec PyProof.Rows L2 TL
section
variable {M : Model} {prog : Program} {w : World} {A : Around} {E : Value → Shared → Prop} {s : Shared} {K : PySem.W.Frag} {x C f : Addr} {ox : Obj} {od : Option Obj} {b tb : Value}
theorem ifBound_objNe {args : List Value} {Q : Option Value → Shared → Prop} (X : K.In s.heap) (I : PySem.W.InstAt s.heap x ox C od) (hs : PySem.W.findIn K (.ref C) "__ne__" = some (some (.builtin "object.__ne__")))
    (h : wpAny M A (call (.builtin "object.__ne__") (.ref x :: args)) (fun v => Q (some v)) E s) : wpAny M A (callSpecialIfBound? (.ref x) "__ne__" args) Q E s := by
  simp only [callSpecialIfBound?, bindSpecialIfBound?]
  refine wpAny_holding (wpAny_bind (wpAny_bind (wpAny_bind (I.type.here ((PySem.W.looks_findIn X hs).here ?_)))))
  refine wpAny_bind (wpAny_askSetting (wpAny_ite ?_))
  have fin : wpAny M A (call (.builtin "object.__ne__") ([.ref x] ++ args) >>= fun v => pure (some v)) Q E s := wpAny_bind (wpAny_mono h (fun v s' h' => wpAny_pure h') fun _ _ h' => h')
  split
  · exact wpAny_bind (wpAny_of_eq (F.cmp_object.ne.bind _) (wpAny_pure (by exact fin)))
  · exact wpAny_tryCatch (wpAny_bind (wpAny_of_eq (F.cmp_object.ne.bind _) (wpAny_pure (by exact fin))))
/-- how an own == answers here: a bool -/
def BackB (Q : Bool → Shared → Prop) (v : Value) (s' : Shared) : Prop := ∃ k, v = .bool k ∧ Q k s'
theorem entry_objNe {Q : Fin → Shared → Prop} (hu : A.units < cLine) (X : K.In s.heap) (I : PySem.W.InstAt s.heap x ox C od) (hs : PySem.W.findIn K (.ref C) "__eq__" = some (some (.ref f))) (hf : PySem.W.isFn K (.ref f) = true)
    (h : wpAny M A (call (.ref f) [.ref x, b]) (BackB fun k s' => Q (.done (.ret (.bool (!k)))) s') E s) : wpAny M A (Builtin.«object.__ne__» ⟨[.ref x, b], []⟩) Q E s := by
  unfold Builtin.«object.__ne__»
  refine wpAny_bind (m := slotArgs "__ne__" 1 _) (wpAny_pure ?_)
  refine wpAny_bind (wpAny_cRoomFor hu ?_)
  refine wpAny_bind (m := callSpecialIfBound? (.ref x) (Str.ofString "__eq__") [b]) (PySem.W.ifBound_K X I hs hf (wpAny_mono h (fun v s' hv => ?_) fun _ _ e => e))
  obtain ⟨k, rfl, q⟩ := hv
  exact wpAny_bind (wpAny_truthy_bool (wpAny_pure q))
theorem cmp_ne_K {Q : Value → Shared → Prop} (hu : A.units + 1 < cLine) (X : K.In s.heap) (I : PySem.W.InstAt s.heap x ox C od) (hb : PySem.W.Looks (model prog w) s.heap (typeOf b) (.ref C)) (hm : PySem.W.mroIn K C (.type "object") = some true)
    (hn : PySem.W.findIn K (.ref C) "__ne__" = some (some (.builtin "object.__ne__"))) (hs : PySem.W.findIn K (.ref C) "__eq__" = some (some (.ref f))) (hf : PySem.W.isFn K (.ref f) = true)
    (h : wpAny (model prog w) A.in1 (call (.ref f) [.ref x, b]) (BackB fun k s' => Q (.bool (!k)) s') E s) : wpAny (model prog w) A (richCompare .NotEq (.ref x) b) Q E s := by
  have one : wpAny (model prog w) A (tryCompare (.ref x) "__ne__" b) (fun r s' => ∃ v, r = some v ∧ Q v s') E s := by
    unfold tryCompare
    refine wpAny_bind (ifBound_objNe X I hn ?_)
    refine wpAny_call (codeAny_call_builtin PySem.F.cmp_object.ne.plain PySem.F.cmpEntry_ne (PySem.W.check_slot PySem.F.cmpKind_ne PySem.F.cmpSplit_ne (I.type.andThen (PySem.W.looks_mroIn X hm)) (PySem.F.cmpArgs_ne _ _) (entry_objNe (A := A.in1) hu X I hs hf (wpAny_mono h (fun v s' hv => ?_) fun _ _ e => e))))
    obtain ⟨k, rfl, q⟩ := hv
    exact ⟨k, rfl, wpAny_pure ⟨_, rfl, q⟩⟩
  unfold richCompare
  simp only [cmpInfo_NotEq, oneThing_ref]
  refine wpAny_holding (wpAny_bind (wpAny_cRoomFor (by omega) ?_))
  refine wpAny_bind (I.type.here (wpAny_bind (hb.here ?_)))
  split
  · rename_i q
    exact absurd q (by simp)
  · refine wpAny_bind (wpAny_pure ?_)
    simp only [Bool.false_eq_true, if_false]
    refine wpAny_bind (wpAny_mono one (fun r s' z => ?_) fun _ _ e => e)
    obtain ⟨v, rfl, hq⟩ := z
    exact wpAny_pure hq
end
section
variable {X : Cx} {W : WXd} {k : Nat} {f C : Addr} {fd : FuncData} {ps : List Str} {mm : FM} {c : Str}
/-- the class at C has its own __eq__, at f, and no __ne__ -/
structure OwnEq (K : PySem.W.Frag) (C f : Addr) : Prop where
  eq : PySem.W.findIn K (.ref C) "__eq__" = some (some (.ref f))
  fn : PySem.W.isFn K (.ref f) = true
  ne : PySem.W.findIn K (.ref C) "__ne__" = some (some (.builtin "object.__ne__"))
  mro : PySem.W.mroIn K C (.type "object") = some true
def fEqO (neg : Bool) (c : Str) (mm : FM) (fa fb : F) : F := fun env st => (fa env st).bind fun p => (fb env p.2).bind fun q => match p.1, q.1 with
  | .ref n, .ref m => (insAt c n q.2).bind fun _ => (insAt c m q.2).bind fun _ => (mm [.ref n, .ref m] q.2).bind fun z => match z.1 with | .bl k => some (.bl (if neg = true then !k else k), z.2) | _ => none
  | _, _ => none
def rEqO (K : PySem.W.Frag) (neg : Bool) (C : Addr) (mm : FM) : R2 := fun x y H Q => ∃ (a b dx dy : Addr) (fs gs : List (Str × V)) (rho : Rf) (n m : Nat) (st : Store) (k : Bool) (st' : Store), x = .ref a ∧ y = .ref b ∧ H a = some (.ins C dx fs) ∧ H b = some (.ins C dy gs) ∧
  rho.adr[n]? = some a ∧ rho.adr[m]? = some b ∧ Sim K rho H st ∧ mm [.ref n, .ref m] st = some (.bl k, st') ∧ ∀ rho' H', Ext rho H rho' H' → Sim K rho' H' st' → Q (.bl (if neg = true then !k else k)) H'
theorem op_eqO (neg : Bool) (O : OwnEq X.K C f) (Fd : FnD X.prog X.w X.K X.mg X.base k f fd ps mm) (gx : GX X (k + 1)) (hb : Binds X.K fd ps []) (hl : 2 = ps.length) : OpR X (compareOp (if neg = true then .NotEq else .Eq)) (rEqO X.K neg C mm) := by
  intro pins s σ H x y v u Q I rx ry h
  obtain ⟨a, b, dx, dy, fs, gs, rho, n, m, st, k', st', rfl, rfl, ha, hb', hna, hmb, si, hm, q⟩ := h
  obtain rfl : v = Value.ref a := rx
  obtain rfl : u = Value.ref b := ry
  obtain ⟨mA, J, _⟩ := ins_get I.hok ha
  obtain ⟨mB, J', _⟩ := ins_get I.hok hb'
  obtain ⟨od, J, _⟩ := J.look
  obtain ⟨od', J', _⟩ := J'.look
  obtain ⟨mf, hF⟩ := I.fr
  have r2 : Vals [V.ref a, V.ref b] [Value.ref a, Value.ref b] := .cons rfl (.cons rfl .nil)
  have gx0 : GX X k := ⟨gx.calm, gx.nd, gx.room.mono (Nat.le_succ k), gx.gd⟩
  cases neg with
  | false =>
    show wpAny (model X.prog X.w) X.A (richCompare .Eq (.ref a) (.ref b)) (EP X pins σ Q) X.xe s
    refine PySem.W.cmp_K (op := .Eq) (tb := .ref C) gx.room.units0 hF I.ok.mod.kin J J'.type (by simp [PySem.W.notFirst]) O.eq O.fn ?_
    refine wpAny_mono (runD (Q := fun v H' => v = .bl k' ∧ Q (.bl k') H') (us := [.ref a, .ref b]) (vs := [.ref a, .ref b]) Fd gx0 hb I r2 hl (.cons (.ref hna) (.cons (.ref hmb) .nil)) si hm fun v r3 H3 e3 q3 p3 => ?_) (fun v s' hv => ?_) fun _ _ x => x
    · cases p3
      exact ⟨rfl, q r3 H3 e3 q3⟩
    · obtain ⟨x, H', I', rx, rfl, q'⟩ := hv
      cases rx
      exact ⟨.bl k', H', I', rfl, q'⟩
  | true =>
    show wpAny (model X.prog X.w) X.A (richCompare .NotEq (.ref a) (.ref b)) (EP X pins σ Q) X.xe s
    have hu : X.A.units + 1 < cLine := gx.room.in1.units0
    refine cmp_ne_K (C := C) (f := f) hu I.kIn J J'.type O.mro O.ne O.eq O.fn ?_
    refine wpAny_mono (runD1 (Q := fun v H' => v = .bl k' ∧ Q (.bl (!k')) H') (us := [.ref a, .ref b]) (vs := [.ref a, .ref b]) Fd gx hb I r2 hl (.cons (.ref hna) (.cons (.ref hmb) .nil)) si hm fun v r3 H3 e3 q3 p3 => ?_) (fun v s' hv => ?_) fun _ _ x => x
    · cases p3
      exact ⟨rfl, q r3 H3 e3 q3⟩
    · obtain ⟨x, H', I', rx, rfl, q'⟩ := hv
      cases rx
      exact ⟨k', rfl, .bl (!k'), H', I', rfl, q'⟩
theorem eqO_reads {neg : Bool} (hc : ClsAt X.K c C) {fa fb : F} (σ : L2.St) (H : Hp) (Q : VK) (h : tD X.K (fEqO neg c mm fa fb) σ H Q) : tOp (rEqO X.K neg C mm) (tD X.K fa) (tD X.K fb) σ H Q := by
  obtain ⟨r, env, st, d, st', he, hs, hf, q⟩ := h
  obtain ⟨⟨x, s1⟩, h1, hf1⟩ := Option.bind_eq_some_iff.mp hf
  obtain ⟨⟨y, s2⟩, h2, hf2⟩ := Option.bind_eq_some_iff.mp hf1
  cases x with
  | ref n =>
    cases y with
    | ref m =>
      obtain ⟨fs, h3, hf3⟩ := Option.bind_eq_some_iff.mp (show ((insAt c n s2).bind fun _ => (insAt c m s2).bind fun _ => (mm [.ref n, .ref m] s2).bind fun z => match z.1 with | .bl k => some (D.bl (if neg = true then !k else k), z.2) | _ => none) = some (d, st') from hf2)
      obtain ⟨gs, h4, hf4⟩ := Option.bind_eq_some_iff.mp hf3
      obtain ⟨⟨z, s3⟩, h5, h6⟩ := Option.bind_eq_some_iff.mp hf4
      cases z with
      | bl kk =>
        cases h6
        refine two he hs h1 h2 fun u v r' H' e1 q1 pu pv => ?_
        obtain ⟨a, rfl, ha⟩ := pu.refI
        obtain ⟨b, rfl, hb⟩ := pv.refI
        obtain ⟨av, C', dx, vs, hn', hx, nm, l⟩ := q1.ob _ a _ ha (insAt_some h3)
        rw [hc.at_] at hn'
        cases hn'
        obtain ⟨av2, C', dx2, vs2, hn', hx2, nm2, l2⟩ := q1.ob _ b _ hb (insAt_some h4)
        rw [hc.at_] at hn'
        cases hn'
        exact ⟨a, b, dx, dx2, vs, vs2, r', n, m, s2, kk, _, rfl, rfl, hx, hx2, ha, hb, q1, h5, fun r3 H3 e3 q3 => q _ r3 H3 (e1.trans e3) q3 (.bl _)⟩
      | _ => cases h6
    | _ => cases hf2
  | _ => cases hf2
variable {a b : Expr} {fa fb : F} {pos : Pos}
theorem de_eqO (O : OwnEq X.K C f) (hc : ClsAt X.K c C) (Fd : FnD X.prog X.w X.K X.mg X.base k f fd ps mm) (gx : GX X (k + 1)) (hb : Binds X.K fd ps []) (ha : DE X a fa) (hb' : DE X b fb) (hl : 2 = ps.length := by rfl) (hm : behindInMarks .Eq b = false := by with_unfolding_all rfl) :
    DE X (.Compare a [.Eq] [b] pos) (fEqO false c mm fa fb) := weakE (pe_cmpR (op_eqO false O Fd gx hb hl) ha hb' hm) fun σ H Q h => eqO_reads hc σ H Q h
theorem de_neO (O : OwnEq X.K C f) (hc : ClsAt X.K c C) (Fd : FnD X.prog X.w X.K X.mg X.base k f fd ps mm) (gx : GX X (k + 1)) (hb : Binds X.K fd ps []) (ha : DE X a fa) (hb' : DE X b fb) (hl : 2 = ps.length := by rfl) (hm : behindInMarks .NotEq b = false := by with_unfolding_all rfl) :
    DE X (.Compare a [.NotEq] [b] pos) (fEqO true c mm fa fb) := weakE (pe_cmpR (op_eqO true O Fd gx hb hl) ha hb' hm) fun σ H Q h => eqO_reads hc σ H Q h
theorem dt_eqO (O : OwnEq X.K C f) (hc : ClsAt X.K c C) (Fd : FnD X.prog X.w X.K X.mg X.base k f fd ps mm) (gx : GX X (k + 1)) (hb : Binds X.K fd ps []) (ha : DE X a fa) (hb' : DE X b fb) (hl : 2 = ps.length := by rfl) (hm : behindInMarks .Eq b = false := by with_unfolding_all rfl) :
    DT X (.Compare a [.Eq] [b] pos) (fTest (fEqO false c mm fa fb)) := weakT (pt_cmpR (op_eqO false O Fd gx hb hl) ha hb' hm) fun σ H Q h => eqO_reads hc σ H (fun x H1 => ∃ c, x = .bl c ∧ Q c H1) (testReads σ H Q h)
theorem dt_neO (O : OwnEq X.K C f) (hc : ClsAt X.K c C) (Fd : FnD X.prog X.w X.K X.mg X.base k f fd ps mm) (gx : GX X (k + 1)) (hb : Binds X.K fd ps []) (ha : DE X a fa) (hb' : DE X b fb) (hl : 2 = ps.length := by rfl) (hm : behindInMarks .NotEq b = false := by with_unfolding_all rfl) :
    DT X (.Compare a [.NotEq] [b] pos) (fTest (fEqO true c mm fa fb)) := weakT (pt_cmpR (op_eqO true O Fd gx hb hl) ha hb' hm) fun σ H Q h => eqO_reads hc σ H (fun x H1 => ∃ c, x = .bl c ∧ Q c H1) (testReads σ H Q h)
/-- isinstance(e, C) of an instance of C -/
def fIsiO (c : Str) (fo : F) : F := fun env st => (fo env st).bind fun p => match p.1 with
  | .ref n => (insAt c n p.2).map fun _ => (.bl true, p.2)
  | _ => none
theorem de_isiO {x : Str} {p p2 : Pos} (ic : C8.InsC X.K C) (hc : ClsAt X.K c C) (ha : DE X a fa) (hg : Gl X "isinstance") (hm : X.mg "isinstance" = none) (hg2 : Gl X x) (hm2 : X.mg x = some (.ref C)) (hdb : (x == ("__debug__" : Str)) = false := by decide)
    (hs : starEach [a, .Name x p2] X.env = (false, eval a X.env) :: starEach [.Name x p2] X.env := by rfl) (hs2 : starEach [.Name x p2] X.env = [(false, eval (.Name x p2) X.env)] := by rfl) (hpl : (backTo pos (starEach [.Name x p2] X.env)).any (·.1) = false := by rfl) :
    DE X (.Call (.Name "isinstance" p) [a, .Name x p2] [] pos) (fIsiO c fa) :=
  weakE (pe_callB (C8.call_isC ic) hg hm PyProof.Rows.boot_isinstance (pa_cons ha (pa_cons (pe_glob (v := .ref C) hg2 hm2 rfl hdb) pa_nil hs2) hs) (by decide) (by decide) hs hpl) fun σ H Q hh => by
  obtain ⟨r', env, st, d, st', he, hs, hf, q⟩ := hh
  obtain ⟨⟨y, s1⟩, h1, hf1⟩ := Option.bind_eq_some_iff.mp hf
  cases y with
  | ref n =>
    obtain ⟨fs, h2, hf2⟩ := Option.map_eq_some_iff.mp (show (insAt c n s1).map (fun _ => (D.bl true, s1)) = some (d, st') from hf1)
    cases hf2
    refine ⟨r', env, st, _, _, he, hs, h1, fun u r1 H1 e1 q1 p1 => ?_⟩
    obtain ⟨ad, rfl, hadr⟩ := p1.refI
    obtain ⟨av, C', dx, vs, hn', hx, nm, l⟩ := q1.ob _ ad _ hadr (insAt_some h2)
    rw [hc.at_] at hn'
    cases hn'
    exact ⟨ad, dx, vs, rfl, hx, q _ r1 H1 e1 q1 (.bl _)⟩
  | _ => cases hf1
end
end DL
/-! == and != of lists, tuples and dicts that hold lists, tuples and dicts: by value or of the store. -/
namespace DL
open PySem PySem.Spec PyProof.Rows L2 TL PySem.SeqAt MeetsSeq MeetsSeq2 MeetsSeq3 SeqRoads2
section
variable {prog : Program} {w : World}
/-- the loop behind == (code 2) and != (code 3) of lists, within one model -/
theorem cmp_loop (neg : Bool) {a b : Addr} {oa ob : Obj} {xs ys : Array Value} {n n2 : Nat} (ca : oa.cls = .type "list") (cb : ob.cls = .type "list") (da : oa.data = .seq xs n) (db : ob.data = .seq ys n2) (hz : xs.size = ys.size) (e : Nat → Bool) {A : Around} {R : Result → Shared → Prop} {s : Shared}
    (ga : s.heap.get? a = some oa) (gb : s.heap.get? b = some ob) (he : ∀ j (h1 : j < xs.size) (h2 : j < ys.size), EqIn prog w A.in1 s xs[j] ys[j] (e j)) :
    ∀ (k i : Nat), xs.size - i = k → i ≤ xs.size → R (.ok (.ret (.bool (if neg = true then !((List.range' i k).all e) else (List.range' i k).all e)))) s →
      wpAny (model prog w) A.in1 (Builtin.«list.__eq__.loop» ⟨[.ref a, .ref b, rawInt i, rawInt (if neg = true then 3 else 2)], []⟩) (GQ.FinOf prog w A R) (fun e s' => R (.error e) s') s := by
  obtain ⟨cls, dd, data, sl⟩ := oa
  obtain ⟨cls2, dd2, data2, sl2⟩ := ob
  simp only at ca cb da db
  subst ca cb da db
  intro k
  induction k with
  | zero =>
    intro i hk hi h
    obtain ⟨hp, g, d, tk, os⟩ := s
    have e1 : xs[((i : Nat) : Int).toNat]? = none := by simp; omega
    have e2 : ys[((i : Nat) : Int).toNat]? = none := by simp; omega
    cases neg with
    | false =>
      simp only [Bool.false_eq_true, if_false] at h ⊢
      wp_walk using AutoSeq1.wpAny_loadPart' ga, AutoSeq1.wpAny_loadPart' gb
      rw [e1, e2]
      wp_walk using AutoSeq1.wpAny_loadPart' ga, AutoSeq1.wpAny_loadPart' gb
      show R (.ok (.ret (.bool (xs.size == ys.size)))) _
      rw [hz]
      simpa using h
    | true =>
      simp only [if_true] at h ⊢
      wp_walk using AutoSeq1.wpAny_loadPart' ga, AutoSeq1.wpAny_loadPart' gb
      rw [e1, e2]
      wp_walk using AutoSeq1.wpAny_loadPart' ga, AutoSeq1.wpAny_loadPart' gb
      show R (.ok (.ret (.bool (xs.size != ys.size)))) _
      rw [hz]
      simpa using h
  | succ k ih =>
    intro i hk hi h
    have h1 : i < xs.size := by omega
    have h2 : i < ys.size := by omega
    have rcc := ih (i + 1) (by omega) (by omega)
    have hi1 := he i h1 h2
    obtain ⟨hp, g, d, tk, os⟩ := s
    have e1 : xs[((i : Nat) : Int).toNat]? = some xs[i] := by simp [h1]
    have e2 : ys[((i : Nat) : Int).toNat]? = some ys[i] := by simp [h2]
    have hc : ((i : Int) + 1) = ((i + 1 : Nat) : Int) := by omega
    rw [List.range'_succ, List.all_cons] at h
    cases neg with
    | false =>
      simp only [Bool.false_eq_true, if_false] at h rcc ⊢
      wp_walk using AutoSeq1.wpAny_loadPart' ga, AutoSeq1.wpAny_loadPart' gb
      rw [e1, e2]
      refine wpAny_bind (hi1 _ _ ?_)
      cases hb' : e i with
      | true =>
        rw [hb', Bool.true_and] at h
        wp_walk
        rw [hc]
        exact ⟨plainId_quiet plain_eq_loop _, codeAny_builtin entry_eq_loop (by
          rw [Around.under_plainId plain_eq_loop _]
          exact rcc h)⟩
      | false =>
        rw [hb', Bool.false_and] at h
        wp_walk using AutoSeq1.wpAny_loadPart' ga, AutoSeq1.wpAny_loadPart' gb
        rw [e1, e2]
        wp_walk
        exact h
    | true =>
      simp only [if_true] at h rcc ⊢
      wp_walk using AutoSeq1.wpAny_loadPart' ga, AutoSeq1.wpAny_loadPart' gb
      rw [e1, e2]
      refine wpAny_bind (hi1 _ _ ?_)
      cases hb' : e i with
      | true =>
        rw [hb', Bool.true_and] at h
        wp_walk
        rw [hc]
        exact ⟨plainId_quiet plain_eq_loop _, codeAny_builtin entry_eq_loop (by
          rw [Around.under_plainId plain_eq_loop _]
          exact rcc h)⟩
      | false =>
        rw [hb', Bool.false_and] at h
        wp_walk using AutoSeq1.wpAny_loadPart' ga, AutoSeq1.wpAny_loadPart' gb
        rw [e1, e2]
        wp_walk
        exact h

variable {A : Around} {E : Value → Shared → Prop} {s : Shared}
/-- xs != ys of two lists of one length -/
theorem rcIn_listsNe {a b : Addr} {xs ys : Array Value} {e : Nat → Bool} {Q : Value → Shared → Prop} (la : s.heap.IsList a xs) (lb : s.heap.IsList b ys) (hz : xs.size = ys.size) (hu : A.units < cLine)
    (he : ∀ j (h1 : j < xs.size) (h2 : j < ys.size), EqIn prog w A.in1 s xs[j] ys[j] (e j)) (h : Q (.bool (!(List.range xs.size).all e)) s) : wpAny (model prog w) A (richCompare .NotEq (.ref a) (.ref b)) Q E s := by
  obtain ⟨oa, ga, ca, n, da⟩ := id la
  obtain ⟨ob, gb, cb, n2, db⟩ := id lb
  refine wpAny_richCompare_same_room (T := "list") (op := .NotEq) ⟨_, ga, ca⟩ ⟨_, gb, cb⟩ F.slot_list_ne (GQ.call_here F.slot_list_ne ⟨_, ga, ca⟩ F.entry_list_ne (F.args_list_ne_2 _ _) ?_) hu
  have hl := cmp_loop (prog := prog) (w := w) true ca cb da db hz e (A := A) (R := wants (fun v s' => v ≠ .notImplemented ∧ Q v s') E) ga gb he xs.size 0 (by omega) (Nat.zero_le _) (by
    show Value.bool _ ≠ Value.notImplemented ∧ Q (.bool _) s
    rw [if_pos rfl, ← List.range_eq_range']
    exact ⟨(fun x => nomatch x), h⟩)
  clear he h
  obtain ⟨cls, dd, data, sl⟩ := oa
  obtain ⟨cls2, dd2, data2, sl2⟩ := ob
  simp only at ca cb da db
  subst ca cb da db
  obtain ⟨hp, g, d, tk, os⟩ := s
  have f3 := AutoSeq1.sub_list_list
  have hne : ¬ (xs.size != ys.size) = true := by simp [hz]
  wp_walk using AutoSeq1.wpAny_loadPart' ga, AutoSeq1.wpAny_loadPart' gb
  exact ⟨plainId_quiet plain_eq_loop _, codeAny_builtin entry_eq_loop (by
    rw [Around.under_plainId plain_eq_loop _]
    exact hl)⟩
end
end DL
namespace DL
open PySem PySem.Spec PyProof.Rows L2 TL
section
variable {prog : Program} {w : World} {KT : Type} [DecidableEq KT] {knd : KeyKind prog w KT} {A : Around} {E : Value → Shared → Prop} {s : Shared}
/-- d != e of two dicts -/
theorem rcIn_dictsNe {a b : Addr} {ka kb : List (KT × Value)} {r : Bool} {Q : Value → Shared → Prop} (ha : (a == sysModules) = false) (hb : (b == sysModules) = false)
    (da : s.heap.DictOf knd a ka) (db : s.heap.DictOf knd b kb) (hu : A.units < cLine) (hits : ka.length = kb.length → PySem.W.KeqHitsIn prog w A.in1 s kb ka r) (h : Q (.bool (!(ka.length == kb.length && r))) s) :
    wpAny (model prog w) A (richCompare .NotEq (.ref a) (.ref b)) Q E s := by
  refine wpAny_richCompare_same_room (op := .NotEq) da.typeIs db.typeIs PySem.F.slot_dict_ne (wpAny_call_entry PySem.F.slot_dict_ne da.typeIs PySem.F.entry_dict_ne ?_ (PySem.F.args_dict_ne_2 _ _)) hu
  show wpAny _ _ (Builtin.Dict.dictSlotArgs "__ne__" ⟨[.ref a, .ref b], []⟩ >>= _) _ _ s
  refine wpAny_bind ?_
  unfold Builtin.Dict.dictSlotArgs
  refine wpAny_bind (wpAny_notOrdered_dict da.typeIs (wpAny_pure ?_))
  refine wpAny_bind (wpAny_isInstance (T := "dict") db.typeIs PySem.F.sub_dict_dict ?_)
  simp only [Bool.not_true, Bool.false_eq_true, if_false]
  refine wpAny_bind (wpAny_pure (wpAny_bind (wpAny_pure (wpAny_bind (PySem.W.keq_samePairsIn ha hb da db hits (wpAny_pure ⟨_, rfl, ?_, ?_⟩))))))
  · exact fun x => nomatch x
  · simpa using h
end
end DL
namespace DL
open PySem PySem.Spec PyProof.Rows L2 TL L2.DX
variable {K : PySem.W.Frag}
/-- a container's content -/
inductive Shp where
  | lst (ds : List D) | tup (ds : List D) | dct (ks : List (Key × D))
def shpOf (st : Store) : D → Option Shp
  | .lst ds => some (.lst ds)
  | .tup ds => some (.tup ds)
  | .dct ks => some (.dct ks)
  | .ref n => match st[n]? with | some (.lst ds) => some (.lst ds) | some (.dct ks) => some (.dct ks) | some (.ldc ks) => some (.dct ks) | _ => none
  | _ => none
def eqAllD (f : D → D → Option Bool) : List D → List D → Option Bool
  | x :: xs, y :: ys => (f x y).bind fun b => (eqAllD f xs ys).map fun c => b && c
  | _, _ => some true
def eqGoF (f : D → D → Option Bool) (ls : List (Key × D)) : List (Key × D) → Option Bool
  | [] => some true
  | (k, v) :: r => match valD ls k with
    | none => some false
    | some y => (f v y).bind fun b => (eqGoF f ls r).map fun c => b && c
def eqSh (f : D → D → Option Bool) : Shp → Shp → Option Bool
  | .lst xs, .lst ys => if xs.length = ys.length then eqAllD f xs ys else some false
  | .tup xs, .tup ys => (eqAllD f xs ys).map fun k => k && (xs.length == ys.length)
  | .dct ks, .dct ls => if ks.length = ls.length then eqGoF f ls ks else some false
  | _, _ => none
def refEq : D → D → Bool
  | .ref n, .ref m => n == m
  | _, _ => false
/-- == inside a container -/
def eqN (st : Store) : Nat → D → D → Option Bool
  | 0, a, b => eqFl a b
  | n + 1, a, b => if refEq a b = true then some true else match eqFl a b with
    | some k => some k
    | none => (shpOf st a).bind fun x => (shpOf st b).bind fun y => eqSh (eqN st n) x y
def eqTp (st : Store) (a b : D) : Option Bool := (shpOf st a).bind fun x => (shpOf st b).bind fun y => eqSh (eqN st 2) x y
/-- the content, seen in the heap -/
def ShR (K : PySem.W.Frag) (r : Rf) (H : Hp) (p : Addr) : Shp → Prop
  | .lst ds => ∃ xs, SqL K H p xs ∧ RepL K r H xs ds
  | .tup ds => ∃ xs, SqT K H p xs ∧ RepL K r H xs ds
  | .dct ks => ∃ kv, Rd H p (.dK kv) ∧ RepK K r H kv ks
theorem shp_rep {r : Rf} {H : Hp} {st : Store} {v : V} {d : D} {x : Shp} (si : Sim K r H st) (h : Rep K r H v d) (e : shpOf st d = some x) : ∃ p, v = .ref p ∧ ShR K r H p x := by
  cases d with
  | lst ds =>
    cases e
    obtain ⟨a, xs, h1, h2, h3⟩ := h.sqLv
    exact ⟨a, h1, xs, h2, h3⟩
  | tup ds =>
    cases e
    obtain ⟨a, xs, h1, h2, h3⟩ := h.sqT
    exact ⟨a, h1, xs, h2, h3⟩
  | dct ks =>
    cases e
    obtain ⟨a, xs, h1, h2, h3⟩ := dctRd (kvs := ks) h si rfl
    exact ⟨a, h1, xs, h2, h3⟩
  | ref n =>
    have e' : (match st[n]? with | some (.lst ds) => some (Shp.lst ds) | some (.dct ks) => some (Shp.dct ks) | some (.ldc ks) => some (Shp.dct ks) | _ => none) = some x := e
    cases hn : st[n]? with
    | none => rw [hn] at e'; cases e'
    | some o =>
      rw [hn] at e'
      cases o with
      | lst ds =>
        cases e'
        obtain ⟨a, rfl, ha⟩ := h.refI
        obtain ⟨av, xs, hx, l⟩ := si.ob _ a _ ha hn
        exact ⟨a, rfl, xs, .inl (.inl hx), l⟩
      | dct ks =>
        cases e'
        obtain ⟨a, xs, h1, h2, h3⟩ := dctRd (kvs := ks) h si (by simp [dctAt, hn])
        exact ⟨a, h1, xs, h2, h3⟩
      | ldc ks =>
        cases e'
        obtain ⟨a, xs, h1, h2, h3⟩ := dctRd (kvs := ks) h si (by simp [dctAt, hn])
        exact ⟨a, h1, xs, h2, h3⟩
      | _ => cases e'
  | _ => cases e
end DL
namespace DL
open PySem PySem.Spec PyProof.Rows L2 TL L2.DX
section
variable {X : Cx} {pins : List (Addr × Obj)} {σ : L2.St} {H : Hp} {s : Shared} {rho : Rf} {st : Store}
theorem eqFl_same (I : Inv X pins σ H s) {v : V} {u : Value} {a b : D} {k : Bool} (ra : Rep X.K rho H v a) (rb : Rep X.K rho H v b) (rv : RelV v u) (e : eqFl a b = some k) : k = true := by
  obtain ⟨p, h1, h2⟩ := Option.bind_eq_some_iff.mp e
  obtain ⟨q, h3, h4⟩ := Option.bind_eq_some_iff.mp h2
  by_cases z : shB p = true ∧ shB q = true
  case neg => rw [if_neg z] at h4; cases h4
  rw [if_pos z] at h4
  cases h4
  obtain ⟨as, r1⟩ := Dp.reads I p v u (ra.dp h1) rv
  obtain ⟨bs, r2⟩ := Dp.reads I q v u (rb.dp h3) rv
  have zp := (Bool.and_eq_true_iff.mp z.1).1
  obtain rfl := PySem.SeqAt.Reads.unique p q u as bs zp r1 r2
  exact PySem.SeqAt.eqv_refl p zp
theorem rd_inj {a : Addr} {kv lv : List (Key × V)} (h : Rd H a (.dK kv)) (h' : Rd H a (.dK lv)) : kv = lv := by
  rcases h with h | ⟨o, h⟩ <;> rcases h' with h' | ⟨o', h'⟩ <;> rw [h] at h' <;> cases h' <;> rfl
theorem kv_keys {kv : List (Key × V)} {va : List (Key × Value)} (h : KV kv va) : kv.map (·.1) = va.map (·.1) := by
  unfold KV at h
  induction h with
  | nil => rfl
  | cons hh t ih => rw [List.map_cons, List.map_cons, hh.1, ih]
theorem nodup_of (I : Inv X pins σ H s) {a : Addr} {kv : List (Key × V)} (h : Rd H a (.dK kv)) : (kv.map (·.1)).Nodup := by
  obtain ⟨_, ya, va, rva, da⟩ := rd_ok I h
  obtain ⟨o, es, ep, _, _, _, _, _, nd⟩ := da
  rw [kv_keys rva]; exact nd
theorem RepK.keysX {kv : List (Key × V)} {ks : List (Key × D)} (h : RepK X.K rho H kv ks) : ks.map (·.1) = kv.map (·.1) := by
  induction kv generalizing ks with
  | nil => cases h; rfl
  | cons p kv ih => cases h with | cons a b => rw [List.map_cons, List.map_cons, ih b]
/-- the values of one object, item by item -/
theorem all_same {f : D → D → Option Bool} (hf : ∀ (v : V) (a b : D) (k : Bool), (∃ u, RelV v u) → Rep X.K rho H v a → Rep X.K rho H v b → f a b = some k → k = true) :
    ∀ {xs : List V} {us : List Value} {as bs : List D} {k : Bool}, Vals xs us → RepL X.K rho H xs as → RepL X.K rho H xs bs → eqAllD f as bs = some k → k = true
  | [], _, _, _, _, _, .nil, .nil, e => by cases e; rfl
  | x :: xs, _, _, _, k, .cons rx rs, .cons a as, .cons b bs, e => by
    obtain ⟨k1, h1, h2⟩ := Option.bind_eq_some_iff.mp e
    obtain ⟨k2, h3, h4⟩ := Option.map_eq_some_iff.mp h2
    subst h4
    rw [hf x _ _ _ ⟨_, rx⟩ a b h1, all_same hf rs as bs h3]; rfl
theorem RepK.mem {kv : List (Key × V)} {ks : List (Key × D)} (h : RepK X.K rho H kv ks) {k : Key} {d : D} (m : (k, d) ∈ ks) : ∃ v, (k, v) ∈ kv ∧ Rep X.K rho H v d := by
  induction kv generalizing ks with
  | nil => cases h; cases m
  | cons p kv ih =>
    cases h with
    | cons a b =>
      rcases List.mem_cons.mp m with e | m
      · cases e; exact ⟨_, List.mem_cons_self, a⟩
      · obtain ⟨v, h1, h2⟩ := ih b m
        exact ⟨v, List.mem_cons_of_mem _ h1, h2⟩
theorem valD_mem {ls : List (Key × D)} {k : Key} {y : D} (h : valD ls k = some y) : (k, y) ∈ ls := by
  unfold valD at h
  obtain ⟨⟨k', y'⟩, h1, h2⟩ := Option.map_eq_some_iff.mp h
  have e := List.find?_some h1
  have : k' = k := by simpa using e
  subst this
  cases h2
  exact List.mem_of_find?_eq_some h1
theorem mem_one {κ α : Type} {kv : List (κ × α)} (nd : (kv.map (·.1)).Nodup) {k : κ} {v u : α} (h1 : (k, v) ∈ kv) (h2 : (k, u) ∈ kv) : v = u := by
  induction kv with
  | nil => cases h1
  | cons p kv ih =>
    rw [List.map_cons, List.nodup_cons] at nd
    rcases List.mem_cons.mp h1 with e1 | m1 <;> rcases List.mem_cons.mp h2 with e2 | m2
    · rw [← e1] at e2; cases e2; rfl
    · rw [← e1] at nd; exact absurd (List.mem_map.mpr ⟨_, m2, rfl⟩) nd.1
    · rw [← e2] at nd; exact absurd (List.mem_map.mpr ⟨_, m1, rfl⟩) nd.1
    · exact ih nd.2 m1 m2
theorem kv_mem {kv : List (Key × V)} {va : List (Key × Value)} (h : KV kv va) {k : Key} {v : V} (m : (k, v) ∈ kv) : ∃ u, RelV v u := by
  unfold KV at h
  induction h with
  | nil => cases m
  | cons a b ih =>
    rcases List.mem_cons.mp m with e | m
    · subst e; exact ⟨_, a.2⟩
    · exact ih m
theorem go_same {f : D → D → Option Bool} (hf : ∀ (v : V) (a b : D) (k : Bool), (∃ u, RelV v u) → Rep X.K rho H v a → Rep X.K rho H v b → f a b = some k → k = true) {kv : List (Key × V)} (nd : (kv.map (·.1)).Nodup) {va : List (Key × Value)} (hva : KV kv va) {ls : List (Key × D)} (rl : RepK X.K rho H kv ls) :
    ∀ (ks : List (Key × D)) {k : Bool}, (∀ p ∈ ks, ∃ v, (p.1, v) ∈ kv ∧ Rep X.K rho H v p.2) → eqGoF f ls ks = some k → k = true
  | [], _, _, e => by cases e; rfl
  | (k, d) :: ks, b, hk, e => by
    obtain ⟨v, hm, rv⟩ := hk (k, d) List.mem_cons_self
    have e' : (match valD ls k with | none => some false | some y => (f d y).bind fun b => (eqGoF f ls ks).map fun c => b && c) = some b := e
    rcases rl.opt (k := k) with ⟨e1, e2⟩ | ⟨y, yv, e1, e2, ry⟩
    · exfalso
      have hin : k ∈ ls.map (·.1) := by rw [rl.keysX]; exact List.mem_map.mpr ⟨_, hm, rfl⟩
      obtain ⟨⟨k', y⟩, hy, rfl⟩ := List.mem_map.mp hin
      unfold valD at e1
      rw [Option.map_eq_none_iff, List.find?_eq_none] at e1
      exact e1 _ hy (by simp)
    · rw [e1] at e'
      obtain ⟨b1, g1, g2⟩ := Option.bind_eq_some_iff.mp (show (f d y).bind (fun b => (eqGoF f ls ks).map fun c => b && c) = some b from e')
      obtain ⟨b2, g3, g4⟩ := Option.map_eq_some_iff.mp g2
      subst g4
      obtain ⟨v', hm', rv'⟩ := rl.mem (valD_mem e1)
      obtain rfl := mem_one nd hm hm'
      rw [hf v d y b1 (kv_mem hva hm) rv rv' g1, go_same hf nd hva rl ks (fun p hp => hk p (List.mem_cons_of_mem _ hp)) g3]; rfl
/-- one object is equal to itself -/
theorem eqN_same (I : Inv X pins σ H s) (si : Sim X.K rho H st) : ∀ (n : Nat) (v : V) (a b : D) (k : Bool), (∃ u, RelV v u) → Rep X.K rho H v a → Rep X.K rho H v b → eqN st n a b = some k → k = true
  | 0, v, a, b, k, ⟨u, rv⟩, ra, rb, e => eqFl_same I ra rb rv e
  | n + 1, v, a, b, k, ⟨u, rv⟩, ra, rb, e => by
    have ih := eqN_same I si n
    have e' : (if refEq a b = true then some true else match eqFl a b with | some k => some k | none => (shpOf st a).bind fun x => (shpOf st b).bind fun y => eqSh (eqN st n) x y) = some k := e
    by_cases hr : refEq a b = true
    · rw [if_pos hr] at e'; cases e'; rfl
    rw [if_neg hr] at e'
    cases hf : eqFl a b with
    | some k' => rw [hf] at e'; cases e'; exact eqFl_same I ra rb rv hf
    | none =>
      rw [hf] at e'
      obtain ⟨x, h1, h2⟩ := Option.bind_eq_some_iff.mp (show ((shpOf st a).bind fun x => (shpOf st b).bind fun y => eqSh (eqN st n) x y) = some k from e')
      obtain ⟨y, h3, h4⟩ := Option.bind_eq_some_iff.mp h2
      obtain ⟨p, rfl, hx⟩ := shp_rep si ra h1
      obtain ⟨p', hp, hy⟩ := shp_rep si rb h3
      cases hp
      cases x <;> cases y <;> first | (cases h4; done) | skip
      · rename_i ds es
        obtain ⟨xs, q1, q2⟩ := hx
        obtain ⟨ys, q3, q4⟩ := hy
        obtain rfl := I.list_inj q1 q3
        have hl : ds.length = es.length := by rw [← q2.len, q4.len]
        have h4' : eqAllD (eqN st n) ds es = some k := by rw [eqSh, if_pos hl] at h4; exact h4
        obtain ⟨its, rv', _⟩ := I.list q1
        exact all_same ih rv' q2 q4 h4'
      · rename_i ds es
        obtain ⟨xs, q1, q2⟩ := hx
        obtain ⟨ys, q3, q4⟩ := hy
        obtain rfl := I.tuple_inj q1 q3
        have hl : ds.length = es.length := by rw [← q2.len, q4.len]
        obtain ⟨k', h5, h6⟩ := Option.map_eq_some_iff.mp (show (eqAllD (eqN st n) ds es).map (fun k => k && (ds.length == es.length)) = some k from h4)
        obtain ⟨its, rv', _⟩ := I.tuple q1
        rw [← h6, all_same ih rv' q2 q4 h5, hl]; simp
      · rename_i ks ls
        obtain ⟨kv, q1, q2⟩ := hx
        obtain ⟨lv, q3, q4⟩ := hy
        obtain rfl := rd_inj q1 q3
        have hl : ks.length = ls.length := by rw [← q2.len, q4.len]
        have h4' : eqGoF (eqN st n) ls ks = some k := by rw [eqSh, if_pos hl] at h4; exact h4
        obtain ⟨_, ya, va, rva, da⟩ := rd_ok I q1
        exact go_same ih (nodup_of I q1) rva q4 ks (fun p hp => q2.mem hp) h4'

def eAt (f : D → D → Option Bool) (as bs : List D) (j : Nat) : Bool := match as[j]?, bs[j]? with
  | some x, some y => (f x y).getD false
  | _, _ => false
theorem all_at {f : D → D → Option Bool} : ∀ {as bs : List D} {k : Bool}, eqAllD f as bs = some k →
    (∀ j x y, as[j]? = some x → bs[j]? = some y → f x y = some (eAt f as bs j)) ∧ k = (List.range (min as.length bs.length)).all (eAt f as bs)
  | [], bs, k, e => by cases e; exact ⟨fun j x y h => (by simp at h), by simp⟩
  | a :: as, [], k, e => by cases e; exact ⟨fun j x y _ h => (by simp at h), by simp⟩
  | a :: as, b :: bs, k, e => by
    obtain ⟨k1, h1, h2⟩ := Option.bind_eq_some_iff.mp e
    obtain ⟨k2, h3, h4⟩ := Option.map_eq_some_iff.mp h2
    obtain ⟨i1, i2⟩ := all_at h3
    have z0 : eAt f (a :: as) (b :: bs) 0 = k1 := by simp [eAt, h1]
    have zs : ∀ j, eAt f (a :: as) (b :: bs) (j + 1) = eAt f as bs j := fun j => by simp [eAt]
    refine ⟨fun j x y hx hy => ?_, ?_⟩
    · cases j with
      | zero =>
        simp at hx hy
        subst hx hy
        rw [z0]; exact h1
      | succ j =>
        rw [zs]
        exact i1 j x y (by simpa using hx) (by simpa using hy)
    · have e1 : min (a :: as).length (b :: bs).length = min as.length bs.length + 1 := by simp
      rw [e1, List.range_succ_eq_map, List.all_cons, List.all_map, z0]
      rw [← h4, i2]
      congr 1
theorem items_at {f : D → D → Option Bool} {A : Around} (ih : ∀ (v u : V) (a b : D) (k : Bool) (v' u' : Value), Rep X.K rho H v a → Rep X.K rho H u b → RelV v v' → RelV u u' → f a b = some k → SeqAt.EqIn X.prog X.w A s v' u' k)
    {xs ys : List V} {us ws : List Value} {as bs : List D} (rx : Vals xs us) (ry : Vals ys ws) (la : RepL X.K rho H xs as) (lb : RepL X.K rho H ys bs) (hf : ∀ j x y, as[j]? = some x → bs[j]? = some y → f x y = some (eAt f as bs j)) :
    ∀ j (h1 : j < us.toArray.size) (h2 : j < ws.toArray.size), SeqAt.EqIn X.prog X.w A s us.toArray[j] ws.toArray[j] (eAt f as bs j) := fun j h1 h2 => by
  have h1' : j < us.length := by simpa using h1
  have h2' : j < ws.length := by simpa using h2
  have k1 : j < xs.length := by rw [rx.length]; exact h1'
  have k2 : j < ys.length := by rw [ry.length]; exact h2'
  obtain ⟨u, hu, ru⟩ := rx.get (List.getElem?_eq_getElem k1)
  obtain ⟨w, hw, rw'⟩ := ry.get (List.getElem?_eq_getElem k2)
  obtain ⟨a, ha, ra⟩ := la.getV (List.getElem?_eq_getElem k1)
  obtain ⟨b, hb, rb⟩ := lb.getV (List.getElem?_eq_getElem k2)
  have e1 : us.toArray[j] = u := by
    have : us[j]? = some us.toArray[j] := by rw [List.getElem?_eq_getElem h1'] <;> simp
    rw [this] at hu; exact Option.some.inj hu
  have e2 : ws.toArray[j] = w := by
    have : ws[j]? = some ws.toArray[j] := by rw [List.getElem?_eq_getElem h2'] <;> simp
    rw [this] at hw; exact Option.some.inj hw
  rw [e1, e2]
  exact ih _ _ a b _ u w ra rb ru rw' (hf j a b ha hb)
theorem hits_in {f : D → D → Option Bool} {A : Around} (ih : ∀ (v u : V) (a b : D) (k : Bool) (v' u' : Value), Rep X.K rho H v a → Rep X.K rho H u b → RelV v v' → RelV u u' → f a b = some k → SeqAt.EqIn X.prog X.w A s v' u' k)
    {ls : List (Key × D)} {lv : List (Key × V)} {vb : List (Key × Value)} (rl : RepK X.K rho H lv ls) (rb : KV lv vb) :
    ∀ {ks : List (Key × D)} {kv : List (Key × V)} {va : List (Key × Value)} {b : Bool}, RepK X.K rho H kv ks → KV kv va → eqGoF f ls ks = some b → PySem.W.KeqHitsIn X.prog X.w A s vb va b
  | [], _, _, b, .nil, ra, e => by
    cases ra
    cases e
    exact .nil
  | (k, d) :: ks, _, _, b, .cons (v := v) rp rt, ra, e => by
    unfold KV at ra
    cases ra with
    | @cons _ q _ qs h t =>
      obtain ⟨h1, h2⟩ := h
      obtain ⟨key, w⟩ := q
      have h1' : k = key := h1
      subst h1'
      have e' : (match valD ls k with | none => some false | some y => (f d y).bind fun b => (eqGoF f ls ks).map fun c => b && c) = some b := e
      rcases rl.opt (k := k) with ⟨e1, e2⟩ | ⟨y, yv, e1, e2, ry⟩
      · rw [e1] at e'
        cases e'
        have rr : RelO (none : Option V) (valueAt vb k) := by rw [← e2]; exact rb.val k
        exact .miss (by
          cases hq : valueAt vb k with
          | none => rfl
          | some _ => rw [hq] at rr; cases rr)
      · rw [e1] at e'
        obtain ⟨b1, g1, g2⟩ := Option.bind_eq_some_iff.mp (show (f d y).bind (fun b => (eqGoF f ls ks).map fun c => b && c) = some b from e')
        obtain ⟨b2, g3, g4⟩ := Option.map_eq_some_iff.mp g2
        subst g4
        have rr : RelO (some yv) (valueAt vb k) := by rw [← e2]; exact rb.val k
        obtain ⟨yw, hy, rw'⟩ := rr.some_of
        exact .hit hy (ih _ _ _ _ _ _ _ rp ry h2 rw' g1) (hits_in ih rl rb rt t g3)
/-- == (neg: !=) of two containers, asked by their rich comparison -/
theorem sh_rc (neg : Bool) (I : Inv X pins σ H s) {f : D → D → Option Bool} {A : Around} (hu : A.units < cLine) (ih : ∀ (v u : V) (a b : D) (k : Bool) (v' u' : Value), Rep X.K rho H v a → Rep X.K rho H u b → RelV v v' → RelV u u' → f a b = some k → SeqAt.EqIn X.prog X.w A.in1 s v' u' k)
    {p q : Addr} {x y : Shp} {k : Bool} (hx : ShR X.K rho H p x) (hy : ShR X.K rho H q y) (e : eqSh f x y = some k) (ht : neg = true → ∀ ds, x ≠ .tup ds) (E Q : Value → Shared → Prop) (h : Q (.bool (if neg = true then !k else k)) s) :
    wpAny (model X.prog X.w) A (richCompare (if neg = true then .NotEq else .Eq) (.ref p) (.ref q)) Q E s := by
  cases x <;> cases y <;> first | (cases e; done) | skip
  · rename_i ds es
    obtain ⟨xs, q1, q2⟩ := hx
    obtain ⟨ys, q3, q4⟩ := hy
    obtain ⟨us, r1, ⟨o1, n1, g1, c1, _, d1⟩, _⟩ := I.list q1
    obtain ⟨ws, r2, ⟨o2, n2, g2, c2, _, d2⟩, _⟩ := I.list q3
    have l1 : us.toArray.size = ds.length := by rw [List.size_toArray, ← r1.length, q2.len]
    have l2 : ws.toArray.size = es.length := by rw [List.size_toArray, ← r2.length, q4.len]
    have L1 : s.heap.IsList p us.toArray := ⟨o1, g1, c1, n1, d1⟩
    have L2' : s.heap.IsList q ws.toArray := ⟨o2, g2, c2, n2, d2⟩
    by_cases hl : ds.length = es.length
    · have e' : eqAllD f ds es = some k := by rw [eqSh, if_pos hl] at e; exact e
      obtain ⟨a1, a2⟩ := all_at e'
      have hz : us.toArray.size = ws.toArray.size := by rw [l1, l2, hl]
      have a2' : k = (List.range us.toArray.size).all (eAt f ds es) := by rw [a2, l1, ← hl, Nat.min_self]
      cases neg with
      | false => exact SeqAt.rcIn_lists L1 L2' hz hu (items_at ih r1 r2 q2 q4 a1) (by rw [← a2']; exact h)
      | true => exact rcIn_listsNe L1 L2' hz hu (items_at ih r1 r2 q2 q4 a1) (by rw [← a2']; exact h)
    · have e' : k = false := by rw [eqSh, if_neg hl] at e; exact (Option.some.inj e).symm
      subst e'
      have hz : (us.toArray.size != ws.toArray.size) = true := by rw [l1, l2]; simpa using hl
      cases neg with
      | false => exact SeqAt.RcAt.lists_lengths L1 L2' hz hu X.prog X.w E Q h
      | true => exact SeqAt.RcNeAt.lists_lengths L1 L2' hz hu X.prog X.w E Q h
  · rename_i ds es
    cases neg with
    | true => exact absurd rfl (ht rfl ds)
    | false =>
      obtain ⟨xs, q1, q2⟩ := hx
      obtain ⟨ys, q3, q4⟩ := hy
      obtain ⟨us, r1, ⟨o1, g1, c1, n1, d1⟩, _⟩ := I.tuple q1
      obtain ⟨ws, r2, ⟨o2, g2, c2, n2, d2⟩, _⟩ := I.tuple q3
      have l1 : us.toArray.size = ds.length := by rw [List.size_toArray, ← r1.length, q2.len]
      have l2 : ws.toArray.size = es.length := by rw [List.size_toArray, ← r2.length, q4.len]
      obtain ⟨k', h5, h6⟩ := Option.map_eq_some_iff.mp (show (eqAllD f ds es).map (fun k => k && (ds.length == es.length)) = some k from e)
      obtain ⟨a1, a2⟩ := all_at h5
      refine SeqAt.rcIn_tuples (e := eAt f ds es) ⟨o1, g1, c1, n1, d1⟩ ⟨o2, g2, c2, n2, d2⟩ hu (items_at ih r1 r2 q2 q4 a1) ?_
      rw [l1, l2, ← a2, h6]; exact h
  · rename_i ks ls
    obtain ⟨kv, q1, q2⟩ := hx
    obtain ⟨lv, q3, q4⟩ := hy
    obtain ⟨_, ya, va, rva, da⟩ := rd_ok I q1
    obtain ⟨_, yb, vb, rvb, db⟩ := rd_ok I q3
    have la : va.length = ks.length := by rw [← rva.length, q2.len]
    have lb : vb.length = ls.length := by rw [← rvb.length, q4.len]
    by_cases hl : ks.length = ls.length
    · have e' : eqGoF f ls ks = some k := by rw [eqSh, if_pos hl] at e; exact e
      have hits := hits_in (A := A.in1) ih q4 rvb q2 rva e'
      have hz : (va.length == vb.length && k) = k := by rw [la, lb, hl]; simp
      cases neg with
      | false => exact PySem.W.keq_eqIn (knd := mixKind X.prog X.w) (r := k) ya yb da db hu (fun _ => hits) (by rw [hz]; exact h)
      | true => exact rcIn_dictsNe (knd := mixKind X.prog X.w) (r := k) ya yb da db hu (fun _ => hits) (by rw [hz]; exact h)
    · have e' : k = false := by rw [eqSh, if_neg hl] at e; exact (Option.some.inj e).symm
      subst e'
      have hne : ¬ va.length = vb.length := by omega
      have hz : (va.length == vb.length && false) = false := by simp
      cases neg with
      | false => exact PySem.W.keq_eqIn (knd := mixKind X.prog X.w) (r := false) ya yb da db hu (fun h => absurd h hne) (by rw [hz]; exact h)
      | true => exact rcIn_dictsNe (knd := mixKind X.prog X.w) (r := false) ya yb da db hu (fun h => absurd h hne) (by rw [hz]; exact h)
theorem eqN_at (I : Inv X pins σ H s) (si : Sim X.K rho H st) : ∀ (n : Nat) (A : Around), A.units + (n + 60) < cLine → ∀ (v u : V) (a b : D) (k : Bool) (v' u' : Value), Rep X.K rho H v a → Rep X.K rho H u b → RelV v v' → RelV u u' → eqN st n a b = some k → SeqAt.EqIn X.prog X.w A s v' u' k
  | 0, A, hA, v, u, a, b, k, v', u', ra, rb, rv, ru, e => (eqFl_at I (by omega) ra rb rv ru e).inModel X.prog X.w
  | n + 1, A, hA, v, u, a, b, k, v', u', ra, rb, rv, ru, e => by
    have e0 := e
    have e' : (if refEq a b = true then some true else match eqFl a b with | some k => some k | none => (shpOf st a).bind fun x => (shpOf st b).bind fun y => eqSh (eqN st n) x y) = some k := e
    by_cases hr : refEq a b = true
    · rw [if_pos hr] at e'
      cases e'
      cases a <;> cases b <;> first | (cases hr; done) | skip
      rename_i i j
      obtain rfl : i = j := by simpa [refEq] using hr
      obtain ⟨p, rfl, hp⟩ := ra.refI
      obtain ⟨q, rfl, hq⟩ := rb.refI
      rw [hp] at hq
      cases hq
      cases rv; cases ru
      exact (SeqAt.EqAt.same _).inModel X.prog X.w
    rw [if_neg hr] at e'
    cases hf : eqFl a b with
    | some k' =>
      rw [hf] at e'
      cases e'
      exact (eqFl_at I (by omega) ra rb rv ru hf).inModel X.prog X.w
    | none =>
      rw [hf] at e'
      obtain ⟨x, h1, h2⟩ := Option.bind_eq_some_iff.mp (show ((shpOf st a).bind fun x => (shpOf st b).bind fun y => eqSh (eqN st n) x y) = some k from e')
      obtain ⟨y, h3, h4⟩ := Option.bind_eq_some_iff.mp h2
      obtain ⟨p, rfl, hx⟩ := shp_rep si ra h1
      obtain ⟨q, rfl, hy⟩ := shp_rep si rb h3
      cases rv; cases ru
      by_cases hpq : p = q
      · subst hpq
        rw [eqN_same I si (n + 1) (.ref p) a b k ⟨_, rfl⟩ ra rb e0]
        exact (SeqAt.EqAt.same _).inModel X.prog X.w
      · exact SeqAt.EqIn.of_refs hpq fun E Q hq => sh_rc false I (by omega) (fun v u a b k v' u' ra rb rv ru e => eqN_at I si n A.in1 (by show A.units + 1 + (n + 60) < cLine; omega) v u a b k v' u' ra rb rv ru e) hx hy h4 (fun z => nomatch z) E Q hq
end
def isTup : D → Bool
  | .tup _ => true
  | _ => false
def rEqN (K : PySem.W.Frag) (neg : Bool) : R2 := fun x y H Q => ∃ (rho : Rf) (st : Store) (a b : D) (k : Bool), Rep K rho H x a ∧ Rep K rho H y b ∧ Sim K rho H st ∧ eqTp st a b = some k ∧ (neg = true → isTup a = false) ∧ Q (.bl (if neg = true then !k else k)) H
section
variable {X : Cx} {W : WXd}
theorem op_eqN (neg : Bool) (hu : X.A.units + 64 < cLine) : OpR X (compareOp (if neg = true then .NotEq else .Eq)) (rEqN X.K neg) := by
  intro pins s σ H x y v u Q I rx ry h
  obtain ⟨rho, st, a, b, k, ra, rb, si, e, ht, q⟩ := h
  obtain ⟨sx, h1, h2⟩ := Option.bind_eq_some_iff.mp e
  obtain ⟨sy, h3, h4⟩ := Option.bind_eq_some_iff.mp h2
  obtain ⟨p, rfl, hx⟩ := shp_rep si ra h1
  obtain ⟨p', rfl, hy⟩ := shp_rep si rb h3
  cases rx; cases ry
  have ht' : neg = true → ∀ ds, sx ≠ .tup ds := fun z ds e => by
    have := ht z
    subst e
    cases a with
    | tup _ => cases this
    | ref n =>
      have h1' : (match st[n]? with | some (.lst ds) => some (Shp.lst ds) | some (.dct ks) => some (Shp.dct ks) | some (.ldc ks) => some (Shp.dct ks) | _ => none) = some (.tup ds) := h1
      split at h1' <;> cases h1'
    | _ => cases h1
  have g := sh_rc neg I (f := eqN st 2) (A := X.A) (by omega) (fun v u a b k v' u' ra rb rv ru e => eqN_at I si 2 X.A.in1 (by show X.A.units + 1 + (2 + 60) < cLine; omega) v u a b k v' u' ra rb rv ru e) hx hy h4 ht' X.xe (EP X pins σ Q) ⟨.bl _, H, I, rfl, q⟩
  cases neg with
  | false => exact g
  | true => exact g
def fEqN (neg : Bool) (fa fb : F) : F := fun env st => (fa env st).bind fun p => (fb env p.2).bind fun q => if neg = true → isTup p.1 = false then (eqTp q.2 p.1 q.1).map fun k => (.bl (if neg = true then !k else k), q.2) else none
theorem eqN_reads {neg : Bool} {fa fb : F} (σ : L2.St) (H : Hp) (Q : VK) (h : tD X.K (fEqN neg fa fb) σ H Q) : tOp (rEqN X.K neg) (tD X.K fa) (tD X.K fb) σ H Q := by
  obtain ⟨r, env, st, d, st', he, hs, hf, q⟩ := h
  obtain ⟨⟨x, s1⟩, h1, hf1⟩ := Option.bind_eq_some_iff.mp hf
  obtain ⟨⟨y, s2⟩, h2, hf2⟩ := Option.bind_eq_some_iff.mp hf1
  have hf2' : (if neg = true → isTup x = false then (eqTp s2 x y).map fun k => (D.bl (if neg = true then !k else k), s2) else none) = some (d, st') := hf2
  by_cases hn : neg = true → isTup x = false
  case neg => rw [if_neg hn] at hf2'; cases hf2'
  rw [if_pos hn] at hf2'
  obtain ⟨k, h3, h4⟩ := Option.map_eq_some_iff.mp hf2'
  cases h4
  exact two he hs h1 h2 fun u v r' H' e1 q1 pu pv => ⟨r', _, x, y, k, pu, pv, q1, h3, hn, q _ r' H' e1 q1 (.bl _)⟩
variable {a b : Expr} {fa fb : F} {pos : Pos} {k : Nat}
theorem de_eqN (g : GX X k) (ha : DE X a fa) (hb : DE X b fb) (hm : behindInMarks .Eq b = false := by with_unfolding_all rfl) : DE X (.Compare a [.Eq] [b] pos) (fEqN false fa fb) :=
  weakE (pe_cmpR (op_eqN false g.room.units) ha hb hm) fun σ H Q h => eqN_reads σ H Q h
theorem de_neN (g : GX X k) (ha : DE X a fa) (hb : DE X b fb) (hm : behindInMarks .NotEq b = false := by with_unfolding_all rfl) : DE X (.Compare a [.NotEq] [b] pos) (fEqN true fa fb) :=
  weakE (pe_cmpR (op_eqN true g.room.units) ha hb hm) fun σ H Q h => eqN_reads σ H Q h
theorem dt_eqN (g : GX X k) (ha : DE X a fa) (hb : DE X b fb) (hm : behindInMarks .Eq b = false := by with_unfolding_all rfl) : DT X (.Compare a [.Eq] [b] pos) (fTest (fEqN false fa fb)) :=
  weakT (pt_cmpR (op_eqN false g.room.units) ha hb hm) fun σ H Q h => eqN_reads σ H (fun x H1 => ∃ c, x = .bl c ∧ Q c H1) (testReads σ H Q h)
theorem dt_neN (g : GX X k) (ha : DE X a fa) (hb : DE X b fb) (hm : behindInMarks .NotEq b = false := by with_unfolding_all rfl) : DT X (.Compare a [.NotEq] [b] pos) (fTest (fEqN true fa fb)) :=
  weakT (pt_cmpR (op_eqN true g.room.units) ha hb hm) fun σ H Q h => eqN_reads σ H (fun x H1 => ∃ c, x = .bl c ∧ Q c H1) (testReads σ H Q h)
end
end DL
/-! C(k = v, ..) -/
namespace DL
open PySem PySem.Spec PyProof.Rows L2 TL
section
variable {X : Cx} {k n : Nat} {f C : Addr} {fd : FuncData} {ps ks : List Str} {is : List Nat} {mm : FM} {c x : Str} {p pos : Pos} {e : Expr} {es : List Expr} {kws : List Keyword}
theorem runMakeK {pins : List (Addr × Obj)} {σ : L2.St} {H : Hp} {s : Shared} {Q : VK} {us ws : List Value} {vs zs : List V} {rho : Rf} {ds es : List D} {st st' : Store} (M : Mk X.K C f) (hc : PySem.W.nsIn X.K mainGlobals c = some (some (.ref C)))
    (Fd : FnD X.prog X.w X.K X.mg X.base k f fd ps mm) (gx : GX X (k + 1)) (hb : KB X.K fd ps ks (n + 1) is) (I : Inv X pins σ H s) (r : Vals vs us) (rz : Vals zs ws) (l1 : ds.length = n) (l2 : es.length = ks.length) (rd : RepL X.K rho H vs ds) (re : RepL X.K rho H zs es) (hs : Sim X.K rho H st)
    (hm : mm (pickL is (.ref st.length :: ds ++ es)) (st ++ [.ins c []]) = some (.non, st')) (hq : ∀ v rho' H', Ext rho H rho' H' → Sim X.K rho' H' st' → Rep X.K rho' H' v (.ref st.length) → Q v H') :
    wpAny (model X.prog X.w) X.A (call (.ref C) us (ks.zip ws)) (EP X pins σ Q) X.xe s := by
  obtain ⟨r1, e1, s1, p1⟩ := made_sim (c := c) (C := C) hs hc (I.hok.fresh (Nat.le_succ s.heap.objs.size)) (I.hok.fresh (Nat.le_refl s.heap.objs.size)) (Nat.ne_of_lt (Nat.lt_succ_self s.heap.objs.size))
  have I2 := Inv.made (C := C) I
  have u1 : (Value.ref (s.heap.objs.size + 1) :: us).length = n + 1 := by rw [List.length_cons, ← r.length, rd.len, l1]
  have u2 : ws.length = ks.length := by rw [← rz.length, re.len, l2]
  have hv : Vals (V.ref (s.heap.objs.size + 1) :: vs ++ zs) (Value.ref (s.heap.objs.size + 1) :: us ++ ws) := by
    refine .cons rfl ?_
    clear hm hq rd re u1 u2 l1 l2
    induction r with
    | nil => exact rz
    | cons a b ih => exact .cons a ih
  have rp := repL_pick (.cons p1 ((rd.append re).ext e1)) is
  have hbt := hb.to { s with heap := (s.heap.push PySem.W.emptyDict).push (PySem.W.instObj C s.heap.objs.size) } (Value.ref (s.heap.objs.size + 1) :: us) ws I2.kIn u1 u2
  refine wpAny_call (make_map (f := f) I.kIn M.makes M.init (beq_iff_eq.mp M.fn) (codeAny_mono (Fd.run _ X.stack _ _ ⟨Value.ref (s.heap.objs.size + 1) :: us, ks.zip ws⟩ (pickL is (Value.ref (s.heap.objs.size + 1) :: us ++ ws)) _ (fun v H2 => v = .non ∧ Q (.ref (s.heap.objs.size + 1)) H2) r1 (pickL is (.ref st.length :: (ds ++ es))) _ st' .non (make_guards.trans gx.gd) (gx.room.make C us _)
    (I2.env0.make C us _) hbt (vals_pick hv is) (by rw [List.cons_append, rp.len]; exact hb.len _ (by rw [List.length_cons, List.length_append, l1, l2]; omega)) rp s1 hm fun v r3 H3 e3 q3 p3 => ?_) fun z s' hz => ?_))
  · cases p3
    exact ⟨rfl, hq _ r3 H3 (e1.trans e3) q3 (p1.ext e3)⟩
  · cases z with
    | error e => exact False.elim hz
    | ok fl =>
      cases fl with
      | ret u =>
        obtain ⟨v, H', I3, rv, ev, q3⟩ := I2.after hz
        subst ev
        exact ⟨rv, ⟨V.ref (s.heap.objs.size + 1), H', I3, rfl, q3⟩⟩
      | next => exact False.elim hz
      | brk => exact False.elim hz
      | cont => exact False.elim hz
def fMakeK (c : Str) (mi : FM) (is : List Nat) (fa fk : FA) : F := fun env st => (fa env st).bind fun p => (fk env p.2).bind fun q => (mi (pickL is (.ref q.2.length :: p.1 ++ q.1)) (q.2 ++ [.ins c []])).bind fun z => match z.1 with | .non => some (.ref q.2.length, z.2) | _ => none
/-- C(k = v, ..) -/
theorem de_makeK0 (M : Mk X.K C f) (hc : PySem.W.nsIn X.K mainGlobals c = some (some (.ref C))) (Fd : FnD X.prog X.w X.K X.mg X.base k f fd ps mm) (gx : GX X (k + 1)) (hg : Gl X x) (hm : X.mg x = some (.ref C)) (hb : KB X.K fd ps ks 1 is) {fk : FA}
    (hkw : DK X kws fk) (hks : (backToKw pos (keywordEach kws X.env)).filterMap (·.1) = ks := by rfl) (hall : (backToKw pos (keywordEach kws X.env)).all (·.1.isSome) = true := by rfl) (hdb : (x == ("__debug__" : Str)) = false := by decide)
    (hpl : ((backTo pos (starEach [] X.env)).any (·.1) || (backToKw pos (keywordEach kws X.env)).any (·.1.isNone)) = false := by rfl) (hn2 : ∀ env st ds st', fk env st = some (ds, st') → ds.length = ks.length) :
    DE X (.Call (.Name x p) [] kws pos) (fMakeK c mm is aNil fk) := by
  refine ⟨fun pins s σ H Q I h => wpAny_Call_Name_kw (ld_glob I hg hm ?_ hdb)⟩
  obtain ⟨r, env, st, d, st', he', hs, hf, q⟩ := h
  obtain ⟨⟨es', s2⟩, h3, h4⟩ := Option.bind_eq_some_iff.mp (show ((fk env st).bind fun q => (mm (pickL is (.ref q.2.length :: [] ++ q.1)) (q.2 ++ [.ins c []])).bind fun z => match z.1 with | .non => some (D.ref q.2.length, z.2) | _ => none) = some (d, st') from hf)
  obtain ⟨⟨z, s3⟩, h5, h6⟩ := Option.bind_eq_some_iff.mp h4
  have ez : z = .non ∧ d = .ref s2.length ∧ st' = s3 := by
    cases z with
    | non => cases h6; exact ⟨rfl, rfl, rfl⟩
    | _ => cases h6
  obtain ⟨rfl, rfl, rfl⟩ := ez
  refine PySem.W.callWith_KW0 (h₀ := X.base) I.ok.mod.kin M.kp hall ?_ hpl
  refine thn (hkw.run pos pins s σ H (fun zs H2 => ∃ r2, Ext r H r2 H2 ∧ Sim X.K r2 H2 s2 ∧ RepL X.K r2 H2 zs es') I ⟨r, env, st, es', s2, he', hs, h3, fun zs r2 H2 e2 q2 l2 => ⟨r2, e2, q2, l2⟩⟩) fun ws sb hz => ?_
  obtain ⟨zs, H2, I2, rz, r2, e2, q2, l2⟩ := hz
  refine ⟨I2.kIn, ?_⟩
  rw [hks]
  exact runMakeK (us := []) (vs := []) (ds := []) M hc Fd gx hb I2 .nil rz rfl (hn2 _ _ _ _ h3) .nil l2 q2 h5 fun v r3 H3 e3 q3 p3 => q v r3 H3 (e2.trans e3) q3 p3
end
end DL
/-! walking a body statement by statement; what has changed in the store. -/
namespace DL
open PySem PySem.Spec PyProof.Rows L2 TL
theorem at_some {α : Type} {l : List α} {n : Nat} {x : α} (h : l[n]? = some x) : n < l.length := (List.getElem?_eq_some_iff.mp h).1
theorem app_at {α : Type} {l : List α} {n : Nat} {x : α} (h : l[n]? = some x) (m : List α) : (l ++ m)[n]? = some x := by
  rw [List.getElem?_append_left (at_some h)]; exact h
theorem Tp.of {a b : Store} {n : Nat} (h : Tp a n) (e : b[n]? = a[n]?) : Tp b n := by
  obtain ⟨x, y, k1, k2, k3, k4⟩ := h.at_
  exact ⟨x, y, by rw [e]; exact k1, k2, k3, k4⟩
theorem seq_nx {f g : FS} {e e2 : Lo} {s s2 : Store} (h : f e s = some (.nx, e2, s2)) : sSeq f g e s = g e2 s2 := by
  rw [sSeq, h]; rfl
theorem loop_cons {tg : FG} {b : FS} {d : D} {ds : List D} {e e1 e2 : Lo} {s s2 : Store} (h1 : tg d e = some e1) (h2 : b e1 s = some (.nx, e2, s2)) : loopS tg b (d :: ds) e s = loopS tg b ds e2 s2 := by
  rw [loopS, h1]; simp only [Option.bind_some]; rw [h2]; rfl
/-- what is there stays, but for the cells named; the store grows -/
structure Fm (ex : List Nat) (st st' : Store) : Prop where
  le : st.length ≤ st'.length
  at_ : ∀ m, m < st.length → m ∉ ex → st'[m]? = st[m]?
theorem Fm.refl (ex : List Nat) (st : Store) : Fm ex st st := ⟨Nat.le_refl _, fun _ _ _ => rfl⟩
theorem Fm.trans {ex : List Nat} {a b c : Store} (h : Fm ex a b) (g : Fm ex b c) : Fm ex a c := ⟨Nat.le_trans h.le g.le, fun m hm hn => (g.at_ m (Nat.lt_of_lt_of_le hm h.le) hn).trans (h.at_ m hm hn)⟩
theorem Fm.mono {ex ey : List Nat} {a b : Store} (h : Fm ex a b) (s : ∀ m ∈ ex, m ∈ ey) : Fm ey a b := ⟨h.le, fun m hm hn => h.at_ m hm fun z => hn (s m z)⟩
theorem Fm.app (ex : List Nat) (st l : Store) : Fm ex st (st ++ l) := ⟨by simp, fun m hm _ => List.getElem?_append_left hm⟩
theorem Fm.of_fr {n : Nat} {st st' : Store} (f : Fr n st st') (l : st'.length = st.length) : Fm [n] st st' := ⟨by omega, fun m hm hn => f.at_ m (by simpa using hn) hm⟩
theorem Fm.set {ex : List Nat} {st s : Store} (f : Fm ex st s) {n : Nat} (h : n ∈ ex ∨ st.length ≤ n) (o : Ob) : Fm ex st (s.set n o) := ⟨by rw [List.length_set]; exact f.le, fun m hm hn => by
  rw [List.getElem?_set_ne]
  · exact f.at_ m hm hn
  intro e
  subst e
  rcases h with h | h
  · exact hn h
  · omega⟩
theorem Fm.get {ex : List Nat} {st st' : Store} (f : Fm ex st st') {m : Nat} {o : Ob} (h : st[m]? = some o) (hn : m ∉ ex) : st'[m]? = some o := by rw [f.at_ m (at_some h) hn]; exact h
theorem loopS_ix {tg : FG} {body : FS} {I : Nat → Lo → Store → Prop} : ∀ {ds : List D} {k : Nat} {env : Lo} {st : Store}, (∀ m d env st, m < k + ds.length → I m env st → ∃ e1, tg d env = some e1 ∧ ∃ e2 s2, body e1 st = some (.nx, e2, s2) ∧ I (m + 1) e2 s2) → I k env st →
    ∃ e2 s2, loopS tg body ds env st = some (.nx, e2, s2) ∧ I (k + ds.length) e2 s2
  | [], k, env, st, _, i => ⟨env, st, rfl, i⟩
  | d :: ds, k, env, st, h, i => by
    obtain ⟨e1, h1, e2, s2, h2, i2⟩ := h k d env st (by simp) i
    obtain ⟨e3, s3, h3, i3⟩ := loopS_ix (ds := ds) (k := k + 1) (env := e2) (st := s2) (fun m d env st hm => h m d env st (by rw [List.length_cons]; omega)) i2
    exact ⟨e3, s3, by simp [loopS, h1, h2, h3], by rw [List.length_cons, show k + (ds.length + 1) = k + 1 + ds.length by omega]; exact i3⟩
theorem loopS_inv' {tg : FG} {body : FS} (I : Lo → Store → Prop) : ∀ {ds : List D}, (∀ d ∈ ds, ∀ env st, I env st → ∃ e1, tg d env = some e1 ∧ ∃ e2 s2, body e1 st = some (.nx, e2, s2) ∧ I e2 s2) →
    ∀ {env : Lo} {st : Store}, I env st → ∃ e2 s2, loopS tg body ds env st = some (.nx, e2, s2) ∧ I e2 s2
  | [], _, env, st, i => ⟨env, st, rfl, i⟩
  | d :: ds, h, env, st, i => by
    obtain ⟨e1, h1, e2, s2, h2, i2⟩ := h d List.mem_cons_self env st i
    obtain ⟨e3, s3, h3, i3⟩ := loopS_inv' I (ds := ds) (fun d hd => h d (List.mem_cons_of_mem _ hd)) i2
    exact ⟨e3, s3, by simp [loopS, h1, h2, h3], i3⟩
theorem it1 {m : Int} (h0 : 0 ≤ m) (h1 : m < 1000) (env : Lo) (st : Store) : iOfA asR1 (aCons (fC (.int m)) aNil) env st = some (rg 0 m, st) := by
  have ra := asR1_ok (n := m) h0 (by omega)
  simp [iOfA, aCons, aNil, fC, ra]
theorem for_nx {fi : FI} {g : FG} {b : FS} {ds : List D} {e e2 : Lo} {s s1 s2 : Store} (h : fi e s = some (ds, s1)) (k : loopS g b ds e s1 = some (.nx, e2, s2)) : sFor fi g b e s = some (.nx, e2, s2) := by
  rw [sFor, h]
  exact k
theorem if_t {tt : FT} {f g : FS} {e : Lo} {s s1 : Store} {b : Bool} (h : tt e s = some (b, s1)) : sIf tt f g e s = if b = true then f e s1 else g e s1 := by
  rw [sIf, h]; rfl
theorem comp_nx {g : F} {e : Lo} {i : Nat} {d : D} {s s1 : Store} (h : g e s = some (d, s1)) : sAsg g (gN i) e s = some (.nx, e.set i (some d), s1) := by
  simp [sAsg, h, gN]
theorem asg_call2 {M : FM} {i j : Nat} {a c d : D} {g : FG} {e e2 : Lo} {s s1 : Store} (ha : e[i]? = some (some a)) (hc : e[j]? = some (some c)) (h : M [a, c] s = some (d, s1)) (hg : g d e = some e2) : sAsg (fCall M (aCons (fVar i) (aCons (fVar j) aNil))) g e s = some (.nx, e2, s1) := by
  simp [sAsg, fCall, aCons, aNil, fVar, ha, hc, h, hg]
theorem asg_call2c {M : FM} {i : Nat} {a c d : D} {g : FG} {e e2 : Lo} {s s1 : Store} (ha : e[i]? = some (some a)) (h : M [a, c] s = some (d, s1)) (hg : g d e = some e2) : sAsg (fCall M (aCons (fVar i) (aCons (fC c) aNil))) g e s = some (.nx, e2, s1) := by
  simp [sAsg, fCall, aCons, aNil, fVar, fC, ha, h, hg]
end DL
/-! is anything in a list of ints. -/
namespace DL
open PySem PySem.Spec PyProof.Rows L2 TL
variable {K : PySem.W.Frag}
section
open PySem.MeetsSeq PySem.MeetsSeq2 PySem.MeetsSeq3 PySem.SeqAt
variable {A : Around} {s : Shared}
theorem sub_int_dict : isSubtype (.type "int") (.type "dict") = pure false := by rw [isSubtype_type]; kernel_rfl
theorem sub_dict_int : isSubtype (.type "dict") (.type "int") = pure false := by rw [isSubtype_type]; kernel_rfl
theorem int_not_dict (x : Int) (t : Tok) (a : Addr) (es : Array DictEntry) (n : Nat) (dd : Option Addr) (sl : Array (Option Value)) :
    Meets (Builtin.«int.__eq__» ⟨[.int x t, .ref a], []⟩) (fun _ R s => s.heap.get? a = some ⟨.type "dict", dd, .dict es n, sl⟩ ∧ R (.ok (.ret .notImplemented)) s) := .of_wp fun P w A R s hh => by
  obtain ⟨hp, g, d, tk, os⟩ := s
  obtain ⟨got, done⟩ := hh
  wp_walk using wpAny_load got
  exact ⟨_, rfl, done⟩
theorem call_dict_int {P : Program} {w : World} {E Q' : Value → Shared → Prop} {a : Addr} (x : Int) (t : Tok) {id : Str} (slot : Slot "dict" id "dict.__eq__") (hT : s.TypeIs (.ref a) "dict") (hq : Q' .notImplemented s) : wpAny (model P w) A (call (.builtin "dict.__eq__") [.ref a, .int x t]) Q' E s := by
  refine wpAny_call_entry slot hT PySem.F.entry_dict_eq ?_ (PySem.F.args_dict_eq_2 _ _)
  show wpAny _ _ (Builtin.Dict.dictSlotArgs "__eq__" ⟨[.ref a, .int x t], []⟩ >>= _) _ _ s
  refine wpAny_bind ?_
  unfold Builtin.Dict.dictSlotArgs
  refine wpAny_bind (wpAny_notOrdered_dict hT ?_)
  show wpAny _ _ (pure (Value.ref a, Value.int x t)) _ _ s
  refine wpAny_pure ?_
  refine wpAny_bind (wpAny_isInstance (T := "int") (typeIs_int _ _ _) sub_int_dict ?_)
  simp only [Bool.not_false, if_true]
  wp_walk
  exact ⟨_, rfl, hq⟩
theorem rc_int_dict {a : Addr} {es : Array DictEntry} {n : Nat} {dd : Option Addr} {sl : Array (Option Value)} (x : Int) (t : Tok) (got : s.heap.get? a = some ⟨.type "dict", dd, .dict es n, sl⟩) (hu : A.units < cLine) : RcAt A s (.int x t) (.ref a) false := fun P w E Q h =>
  have hT : s.TypeIs (.ref a) "dict" := ⟨_, got, rfl⟩
  rc_eq_decline_or (k := false) (typeIs_int s x t) hT (by decide) sub_dict_int PySem.F.slot_int_eq PySem.F.slot_dict_eq_refl
    (fun Q' hq => call_meets PySem.F.slot_int_eq (typeIs_int s x t) PySem.F.entry_int_eq (PySem.F.args_int_eq_2 _ _) (int_not_dict x t a es n dd sl) ⟨got, hq⟩) (fun Q' hq => call_dict_int x t PySem.F.slot_dict_eq_refl hT hq)
    (fun Q' hq => wpAny_of_eq (rfl : isSame (.int x t) (.ref a) = pure false) hq) (.inr hu) h
theorem eq_int_dict {a : Addr} {es : Array DictEntry} {n : Nat} {dd : Option Addr} {sl : Array (Option Value)} (x : Int) (t : Tok) (got : s.heap.get? a = some ⟨.type "dict", dd, .dict es n, sl⟩) (hu : A.units < cLine) : EqAt A s (.int x t) (.ref a) false := fun P w E Q q => by
  unfold eqBool
  refine wpAny_holding (wpAny_ite_split (fun z => absurd (eq_of_beq z) nofun) fun _ => ?_)
  exact wpAny_bind (rc_int_dict x t got hu P w E _ (wpAny_truthy_bool q))
end
section
variable {X : Cx} {W : WXd}
/-- is it this int -/
def eqI (x : Int) : D → Option Bool
  | .non => some false | .bl b => some (x == (if b then 1 else 0)) | .int y => some (x == y) | .str _ => some false | .tup _ => some false | .lst _ => some false | .dct _ => some false | .scr _ => none | .ref _ => none
theorem any_int {rho : Rf} {pins : List (Addr × Obj)} {σ : L2.St} {H : Hp} {s : Shared} {v : V} {u : Value} {d : D} {x : Int} {t : Tok} {k : Bool} {A : Around} (I : Inv X pins σ H s) (r : Rep X.K rho H v d) (rv : RelV v u) (e : eqI x d = some k) (hu : A.units < cLine) :
    SeqAt.EqAt A s (.int x t) u k := by
  cases d with
  | non => cases r; cases e; cases rv; exact .int_none _ _
  | bl b => cases r; cases e; cases rv; exact .int_bool _ _ _
  | int i =>
    cases r
    cases e
    obtain ⟨t', rfl⟩ := rv
    exact .int_int _ _ _ _
  | str y =>
    cases r
    cases e
    obtain ⟨t', rfl⟩ := rv
    exact .int_str _ _ _ _
  | tup ds =>
    cases e
    obtain ⟨a, us, rfl, sq, l⟩ := r.sqT
    cases rv
    obtain ⟨its, r1, p1, _⟩ := I.tuple sq
    exact .int_tuple _ _ p1 hu
  | lst ds =>
    cases e
    cases r with
    | lst g1 g2 g3 =>
      cases rv
      obtain ⟨its, r1, p1, _⟩ := I.list (.of g1)
      exact .int_list _ _ p1.isList hu
  | dct kvs =>
    cases e
    cases r with
    | dct g1 g2 g3 =>
      cases rv
      obtain ⟨_, ns, vs, _, ⟨⟨cls, dd, data, sl⟩, es, ep, ho, ⟨hc, _, _⟩, hd, _⟩⟩ := (show ObjOk X.prog X.w H s.heap _ (.dK _) from (I.hok _ _ g1).2)
      simp only at hc hd
      subst hc hd
      exact eq_int_dict x t ho hu
  | scr ns => cases e
  | ref n => cases e
def anyI (a : D) : List Int → Option Bool
  | [] => some false
  | z :: zs => (eqI z a).bind fun b => (anyI a zs).map fun c => b || c
def inInt (neg : Bool) : D → D → Option D := fun a b => match b with | .lst ds => (intsD ds).bind fun zs => (anyI a zs).map fun b => .bl (if neg then !b else b) | _ => none
def rInInt (K : PySem.W.Frag) (neg : Bool) : R2 := fun x y H Q => ∃ (rho : Rf) (d : D) (p : Addr) (zs : List Int) (k : Bool), Rep K rho H x d ∧ y = .ref p ∧ SqL K H p (zs.map V.int) ∧ anyI d zs = some k ∧ Q (.bl (if neg then !k else k)) H
def itemI (d : D) : Value → Bool | .int z _ => (eqI z d).getD false | _ => false
theorem any_itemsI {rho : Rf} {pins : List (Addr × Obj)} {σ : L2.St} {H : Hp} {s : Shared} {v : V} {u : Value} {d : D} {A : Around} (I : Inv X pins σ H s) (r : Rep X.K rho H v d) (rv : RelV v u) (hu : A.units < cLine) :
    ∀ {zs : List Int} {its : List Value} {k : Bool}, Vals (zs.map V.int) its → anyI d zs = some k → its.any (itemI d) = k ∧ ∀ y ∈ its, SeqAt.EqAt A s y u (itemI d y)
  | [], _, k, .nil, e => by
    cases e
    exact ⟨rfl, fun y hy => by cases hy⟩
  | z :: zs, _, k, .cons (b := w) (l₂ := ws) hw t, e => by
    obtain ⟨b, h1, h2⟩ := Option.bind_eq_some_iff.mp (show ((eqI z d).bind fun b => (anyI d zs).map fun c => b || c) = some k from e)
    obtain ⟨c, h3, h4⟩ := Option.map_eq_some_iff.mp h2
    obtain ⟨g1, g2⟩ := any_itemsI I r rv hu t h3
    obtain ⟨tk, rfl⟩ := hw
    have e1 : itemI d (.int z tk) = b := by
      show (eqI z d).getD false = b
      rw [h1]; rfl
    refine ⟨by rw [List.any_cons, g1, e1]; exact h4, fun y hy => ?_⟩
    rcases List.mem_cons.mp hy with rfl | hy
    · rw [e1]
      exact any_int (A := A) I r rv h1 hu
    · exact g2 y hy
theorem op_inInt (hu : X.A.units + 1 < cLine) : OpR X (compareOp .In) (rInInt X.K false) := by
  intro pins s σ H x y v u Q I rx ry h
  obtain ⟨rho, d, p, zs, k, r, rfl, sq, e, q⟩ := h
  cases ry
  obtain ⟨its, r1, p1, _⟩ := I.list sq
  obtain ⟨g1, g2⟩ := any_itemsI (A := X.A.in1) I r rx hu r1 e
  refine SeqAt.in_listAt (itemI d) p1.isList (fun y hy => g2 y (by simpa using hy)) ?_
  rw [show its.toArray.any (itemI d) = its.any (itemI d) by simp, g1]
  exact ⟨.bl k, H, I, rfl, q⟩
theorem op_notInInt (hu : X.A.units + 1 < cLine) : OpR X (compareOp .NotIn) (rInInt X.K true) := by
  intro pins s σ H x y v u Q I rx ry h
  obtain ⟨rho, d, p, zs, k, r, rfl, sq, e, q⟩ := h
  cases ry
  obtain ⟨its, r1, p1, _⟩ := I.list sq
  obtain ⟨g1, g2⟩ := any_itemsI (A := X.A.in1) I r rx hu r1 e
  refine SeqAt.notIn_listAt (itemI d) p1.isList (fun y hy => g2 y (by simpa using hy)) ?_
  rw [show its.toArray.any (itemI d) = its.any (itemI d) by simp, g1]
  exact ⟨.bl (!k), H, I, rfl, q⟩
theorem inInt_ok (neg : Bool) {rho : Rf} {H : Hp} {x y : V} {a b d : D} {Q : VK} (ra : Rep K rho H x a) (rb : Rep K rho H y b) (e : inInt neg a b = some d) (q : ∀ v H', Same H H' → Rep K rho H' v d → Q v H') : rInInt K neg x y H Q := by
  unfold inInt at e
  split at e
  · obtain ⟨zs, h1, h2⟩ := Option.bind_eq_some_iff.mp e
    obtain ⟨c, h3, h4⟩ := Option.map_eq_some_iff.mp h2
    subst h4
    obtain ⟨p, us, rfl, s1, l1⟩ := rb.sqLv
    have e1 := intsD_eq h1
    subst e1
    have := RepL.ints l1
    subst this
    exact ⟨rho, a, p, zs, c, ra, rfl, s1, h3, q _ H (fun _ _ h => h) (.bl _)⟩
  · cases e
theorem ok_inI {k : Nat} (g : GX X k) : OpOk X (compareOp .In) (inInt false) := ⟨_, op_inInt (by have := g.room.un; omega), fun rho H x y a b d st Q si ra rb e q => inInt_ok false ra rb e q⟩
theorem ok_notinI {k : Nat} (g : GX X k) : OpOk X (compareOp .NotIn) (inInt true) := ⟨_, op_notInInt (by have := g.room.un; omega), fun rho H x y a b d st Q si ra rb e q => inInt_ok true ra rb e q⟩
end
end DL
/-! [x, ..] * n -/
namespace DL
open PySem PySem.Spec PyProof.Rows L2 TL
section
variable {X : Cx}
def mulL : D → D → Option D := fun a b => match a, b with
  | .lst xs, .int n => if 0 ≤ n ∧ n ≤ 1000 ∧ xs.length ≤ 1000 then some (.lst (List.replicate n.toNat xs).flatten) else none
  | _, _ => none
theorem ok_mulL : OpOk X (binaryOp .Mult) mulL := ⟨_, op_rep, fun rho H x y a b d st Q si ra rb e q => by
  unfold mulL at e
  split at e
  · rename_i xs n
    by_cases c : 0 ≤ n ∧ n ≤ 1000 ∧ xs.length ≤ 1000
    · rw [if_pos c] at e
      cases e
      cases rb
      cases ra with
      | lst a1 a2 a3 =>
        have z1 : (2 : Int) ^ 63 > 1000 := by decide
        have z2 : -(2 : Int) ^ 63 ≤ 0 := by decide
        refine ⟨_, n, _, rfl, rfl, a1, by omega, by omega, ?_, fun p hp => q _ _ (same_alloc hp) (.lst upd_same (si.free hp) ((a3.rep n.toNat).ex (Ex.same rho (same_alloc hp))))⟩
        rw [a3.len]
        have : xs.length * n.toNat ≤ 1000 * 1000 := Nat.mul_le_mul c.2.2 (by omega)
        exact Nat.le_trans this (by decide)
    · rw [if_neg c] at e
      cases e
  · cases e⟩
def opMulL : D → D → Option D := orD mulL opMul
theorem ok_mulLA : OpOk X (binaryOp .Mult) opMulL := ok_mulL.or ok_mul
theorem mulL_ok {xs : List D} {n : Int} (h : 0 ≤ n ∧ n ≤ 1000) (hx : xs.length ≤ 1000) : opMulL (.lst xs) (.int n) = some (.lst (List.replicate n.toNat xs).flatten) := by
  simp [opMulL, orD, mulL, h, hx]
end
end DL
/-! Dicts of the store: their items, their values as lists; a dict of a list of pairs; a walk of a dict that may be a value. -/
namespace DL
open PySem PySem.Spec PyProof.Rows L2 L2.DX
variable {K : PySem.W.Frag}
section
variable {X : Cx} {W : WXd}
/-- the dict is in the store, not locked -/
def dctS : D → Store → Option (List (Key × D)) := fun d st => match d with
  | .ref n => dctIn n st
  | _ => none
theorem dctSRd {r : Rf} {H : Hp} {v : V} {d : D} {st : Store} {kvs : List (Key × D)} (h : Rep K r H v d) (si : Sim K r H st) (e : dctS d st = some kvs) : ∃ a xs, v = .ref a ∧ H a = some (.dK xs) ∧ RepK K r H xs kvs := by
  cases d with
  | ref n =>
    obtain ⟨a, rfl, ha⟩ := h.refI
    obtain ⟨av, xs, hx, l⟩ := si.ob _ a _ ha (dctIn_some e)
    exact ⟨a, xs, rfl, hx, l⟩
  | _ => cases e
/-! ### list(d.items()) -/
def fLstI (fo : F) : F := fun env st => (fo env st).bind fun p => (dctS p.1 p.2).map fun kvs => (.lst (kItems kvs), p.2)
theorem de_lstI {e : Expr} {fo : F} {p apos cpos pos : Pos} {k : Nat} (g : GX X k) (ho : DE X e fo) (hg : Gl X "list") (hm : X.mg "list" = none) (hbase : attributeBase e "items" X.env (eval e X.env) = eval e X.env := by rfl) (hline : (apos.endLine == cpos.line) = true := by rfl)
    (hs : starEach [.Call (.Attribute e "items" apos) [] [] cpos] X.env = (false, eval (.Call (.Attribute e "items" apos) [] [] cpos) X.env) :: starEach [] X.env := by rfl) :
    DE X (.Call (.Name "list" p) [.Call (.Attribute e "items" apos) [] [] cpos] [] pos) (fLstI fo) := weakE (LiI.pe_listItems g.calm ho hg hm (by decide +kernel) hbase hline hs) fun σ H Q hh => by
  obtain ⟨r, env, st, d, st', he, hs, hf, q⟩ := hh
  obtain ⟨⟨x, s1⟩, h1, h2⟩ := Option.bind_eq_some_iff.mp hf
  obtain ⟨kvs, h3, h4⟩ := Option.map_eq_some_iff.mp h2
  cases h4
  refine ⟨r, env, st, _, s1, he, hs, h1, fun v r1 H1 e1 q1 p1 => ?_⟩
  obtain ⟨a, xs, rfl, hx, l⟩ := dctSRd p1 q1 h3
  refine ⟨a, xs, rfl, hx, fun H' lo ts k1 k2 k3 _ k4 k5 => ?_⟩
  have hnl : ¬ r1.av lo := q1.free k2
  exact q _ r1 H' (e1.trans (q1.ext k1)) (q1.same k1) (.lst k4 hnl (items_repL q1 k1 l k3 k5))
/-! ### list(d.values()) -/
theorem vals_snd {kvs : List (Key × V)} {vs : List (Key × Value)} (h : KV kvs vs) : Vals (kvs.map (·.2)) (vs.map (·.2)) := by
  unfold KV at h
  induction h with
  | nil => exact .nil
  | cons a b ih => exact .cons a.2 ih
def rValsL : V → Hp → VK → Prop := fun x H Q => ∃ (d : Addr) (kvs : List (Key × V)), x = .ref d ∧ H d = some (.dK kvs) ∧ ∀ p, H p = none → Q (.ref p) (upd H p (.lst (kvs.map (·.2))))
def tListVals (te : TE) : TE := fun σ H Q => te σ H fun x H1 => rValsL x H1 Q
theorem pe_listVals {e : Expr} {te : TE} {p apos cpos pos : Pos} (hc : X.calm = true) (he : PE X e te) (hg : Gl X "list") (hm : X.mg "list" = none) (hv : bootBuiltins "list" = some (.type "list")) (hbase : attributeBase e "values" X.env (eval e X.env) = eval e X.env := by rfl) (hline : (apos.endLine == cpos.line) = true := by rfl)
    (hs : starEach [.Call (.Attribute e "values" apos) [] [] cpos] X.env = (false, eval (.Call (.Attribute e "values" apos) [] [] cpos) X.env) :: starEach [] X.env := by rfl) :
    PE X (.Call (.Name "list" p) [.Call (.Attribute e "values" apos) [] [] cpos] [] pos) (tListVals te) := by
  refine ⟨fun pins s σ H Q I hq => ?_⟩
  refine wpAny_Call_Name_kw (ld_blt I hg hm hv ?_)
  refine PyProof.Rows.callWith_type1 ?_ hs rfl
  rw [hs]
  show wpAny _ _ (spliced ((false, eval (.Call (.Attribute e "values" apos) [] [] cpos) X.env) :: backTo pos (starEach [] X.env))) _ _ s
  refine Calls.spliced_cons ?_
  refine wpAny_Call_method (T := "dict") (id := "dict.values") hbase rfl hline F.plainAttrs_dict F.slot_dict_values F.type_dict_values (thn (he.run pins s σ H _ I hq) fun u s1 ⟨x, H1, I1, rx, d, kvs, ex, hd, q⟩ => ?_)
  subst ex
  obtain rfl : u = Value.ref d := rx
  obtain ⟨hz, hs0, vs, kv, hdo⟩ := I1.hok d _ hd
  obtain ⟨ep, hat⟩ := hdo.dictAt
  have lk : kvs.length = vs.length := Paired.length kv
  have I2 : Inv X pins σ H1 { s1 with heap := s1.heap.push { cls := .type "dict_values", data := .fields #[.ref d] } } := I1.kept (t' := s1.toks) fun b ob q => Heap.get?_push_of_some _ q
  refine ⟨hdo.typeIs, hdo.mapOf.noDict, ?_⟩
  show wpAny _ _ (callWith cpos (.builtin "dict.values") [.ref d] [] []) _ X.xe s1
  refine method_meetsIn F.slot_dict_values F.entry_dict_values rfl (PySem.evalArgs_none ⟨rfl, hdo.typeIs, F.args_dict_values_1 _, _, meets_dict_values (mixKind X.prog X.w) d hs0, ⟨vs, hdo⟩, ?_⟩)
  refine Calls.spliced_nil ?_
  refine PySem.W.kdl_call (PySem.W.kdl_values (knd := mixKind X.prog X.w) (d := d) (kvs := vs) (ep := ep)) (I1.ok.hd hc) ⟨⟨_, Heap.get?_push_size _ rfl, rfl, rfl⟩, hat.push _⟩ (by omega) fun h' tk acc c hk hS hacc => ?_
  have ea : acc.toList = vs.map (·.2) := by
    refine List.ext_getElem? fun j => ?_
    rw [List.getElem?_map]
    cases hj : acc.toList[j]? with
    | none =>
      have : vs[j]? = none := List.getElem?_eq_none_iff.mpr (by have := List.getElem?_eq_none_iff.mp hj; rw [Array.length_toList, hacc.1] at this; exact this)
      rw [this]; rfl
    | some v =>
      obtain ⟨k, hk⟩ := hacc.2 j v (by rw [← Array.getElem?_toList]; exact hj)
      rw [hk]; rfl
  refine ⟨.ref _, upd H1 _ (.lst (kvs.map (·.2))), I2.laid (t' := tk) hk (Nat.le_refl _) (show ObjOk X.prog X.w _ _ _ (.lst (kvs.map (·.2))) from ⟨by rw [List.length_map]; exact hz, acc.toList, c, by rw [ea]; exact vals_snd kv, by rw [Array.toArray_toList]; exact hS⟩), rfl, q _ (I2.hok.fresh (Nat.le_refl _))⟩
theorem RepK.vals {r : Rf} {H : Hp} : ∀ {xs : List (Key × V)} {kvs : List (Key × D)}, RepK K r H xs kvs → RepL K r H (xs.map (·.2)) (kvs.map (·.2))
  | _, _, .nil => .nil
  | _, _, .cons a b => .cons a b.vals
def fLstV (fo : F) : F := fun env st => (fo env st).bind fun p => (dctS p.1 p.2).map fun kvs => (.lst (kVals kvs), p.2)
theorem de_lstV {e : Expr} {fo : F} {p apos cpos pos : Pos} {k : Nat} (g : GX X k) (ho : DE X e fo) (hg : Gl X "list") (hm : X.mg "list" = none) (hbase : attributeBase e "values" X.env (eval e X.env) = eval e X.env := by rfl) (hline : (apos.endLine == cpos.line) = true := by rfl)
    (hs : starEach [.Call (.Attribute e "values" apos) [] [] cpos] X.env = (false, eval (.Call (.Attribute e "values" apos) [] [] cpos) X.env) :: starEach [] X.env := by rfl) :
    DE X (.Call (.Name "list" p) [.Call (.Attribute e "values" apos) [] [] cpos] [] pos) (fLstV fo) := weakE (pe_listVals g.calm ho hg hm (by decide +kernel) hbase hline hs) fun σ H Q hh => by
  obtain ⟨r, env, st, d, st', he, hs, hf, q⟩ := hh
  obtain ⟨⟨x, s1⟩, h1, h2⟩ := Option.bind_eq_some_iff.mp hf
  obtain ⟨kvs, h3, h4⟩ := Option.map_eq_some_iff.mp h2
  cases h4
  refine ⟨r, env, st, _, s1, he, hs, h1, fun v r1 H1 e1 q1 p1 => ?_⟩
  obtain ⟨a, xs, rfl, hx, l⟩ := dctSRd p1 q1 h3
  refine ⟨a, xs, rfl, hx, fun p hp => ?_⟩
  have sm : Same H1 (upd H1 p (.lst (xs.map (·.2)))) := same_alloc hp
  exact q _ r1 _ (e1.trans (q1.ext sm)) (q1.same sm) (fresh_lst q1 hp l.vals)
/-! ### dict(xs), xs a list of pairs -/
def pairD : D → Option (Key × D) | .tup [k, v] => (asKey k).map fun k => (k, v) | _ => none
def pairsD : List D → Option (List (Key × D))
  | [] => some []
  | d :: ds => (pairD d).bind fun p => (pairsD ds).map fun q => p :: q
def mergeP (acc more : List (Key × D)) : List (Key × D) := more.foldl (fun acc kv => putD acc kv.1 kv.2) acc
theorem RepK.mergeP {r : Rf} {H : Hp} : ∀ {xs : List (Key × V)} {kvs : List (Key × D)}, RepK K r H xs kvs → ∀ {ys : List (Key × V)} {acc : List (Key × D)}, RepK K r H ys acc → RepK K r H (mergeK ys xs) (mergeP acc kvs)
  | _, _, .nil, _, _, l => l
  | _, _, .cons a b, _, _, l => b.mergeP (l.put a)
theorem pairs_rep {r : Rf} {H : Hp} : ∀ {ds : List D} {vs : List V} {kvs : List (Key × D)}, RepL K r H vs ds → pairsD ds = some kvs → ∃ (ps : List Addr) (xs : List (Key × V)), vs = ps.map V.ref ∧ Paired (fun p kv => SqT K H p [kV kv.1, kv.2]) ps xs ∧ RepK K r H xs kvs
  | [], _, _, .nil, e => by cases e; exact ⟨[], [], rfl, .nil, .nil⟩
  | d :: ds, _, _, .cons a b, e => by
    obtain ⟨p, e1, e2⟩ := Option.bind_eq_some_iff.mp (show ((pairD d).bind fun p => (pairsD ds).map fun q => p :: q) = _ from e)
    obtain ⟨q, e3, e4⟩ := Option.map_eq_some_iff.mp e2
    subst e4
    obtain ⟨ps, xs, i1, i2, i3⟩ := pairs_rep b e3
    unfold pairD at e1
    split at e1
    · rename_i k v
      obtain ⟨k', f1, f2⟩ := Option.map_eq_some_iff.mp e1
      subst f2
      obtain ⟨c, us, rfl, sq, l⟩ := a.sqT
      cases l with
      | cons r1 l =>
        cases l with
        | cons r2 l =>
          cases l
          rw [asKey_rep r1 f1] at sq
          exact ⟨c :: ps, (k', _) :: xs, by rw [i1]; rfl, .cons sq i2, .cons r2 i3⟩
    · cases e1
def fDictP (fo : F) : F := fun env st => (fo env st).bind fun p => match p.1 with
  | .lst ds => (pairsD ds).map fun kvs => (.ref p.2.length, p.2 ++ [.dct (mergeP [] kvs)])
  | _ => none
theorem de_dictP {e : Expr} {fo : F} {p pos : Pos} {k : Nat} (g : GX X k) (ho : DE X e fo) (hg : Gl X "dict") (hm : X.mg "dict" = none) (hs : starEach [e] X.env = (false, eval e X.env) :: starEach [] X.env := by rfl) (hpl : (backTo pos (starEach [] X.env)).any (·.1) = false := by rfl) :
    DE X (.Call (.Name "dict" p) [e] [] pos) (fDictP fo) :=
  weakE (pe_callTy (call_dictP g.calm) hg hm (by decide +kernel) (pa_cons ho pa_nil hs) (he := hs) (hpl := hpl)) fun σ H Q hh => by
  obtain ⟨r, env, st, d, st', he, hs, hf, q⟩ := hh
  obtain ⟨⟨x, s1⟩, h1, h2⟩ := Option.bind_eq_some_iff.mp hf
  cases x with
  | lst ds =>
    obtain ⟨kvs, h3, h4⟩ := Option.map_eq_some_iff.mp (show (pairsD ds).map _ = some _ from h2)
    cases h4
    refine ⟨r, env, st, _, s1, he, hs, h1, fun v r1 H1 e1 q1 p1 => ?_⟩
    obtain ⟨a, xs, rfl, sq, l⟩ := p1.sqLv
    obtain ⟨ps, ys, rfl, pr, rk⟩ := pairs_rep l h3
    refine ⟨a, ps, ys, rfl, sq, pr, fun p hp => ?_⟩
    obtain ⟨r', w1, w2, w3⟩ := newDct q1 hp (rk.mergeP (.nil (K := X.K) (r := r1) (H := H1)))
    exact q _ r' _ (e1.trans w1) w2 w3
  | _ => cases h2
/-! ### one of two ways -/
def orS (g h : FS) : FS := fun env st => (g env st).or (h env st)
theorem ds_or {s : Stmt} {g h : FS} (a : DS X W s g) (b : DS X W s h) : DS X W s (orS g h) := by
  refine ⟨fun pins s σ H D I hw => ?_⟩
  obtain ⟨r, env, st, o, env', st', he, hs, hf, q⟩ := hw
  cases hg : g env st with
  | some x =>
    have : (g env st).or (h env st) = some (o, env', st') := hf
    rw [hg] at this
    exact a.run pins s σ H D I ⟨r, env, st, o, env', st', he, hs, hg.trans this, q⟩
  | none =>
    have : (g env st).or (h env st) = some (o, env', st') := hf
    rw [hg] at this
    exact b.run pins s σ H D I ⟨r, env, st, o, env', st', he, hs, this, q⟩
/-- a walk of a dict that stands in the store or is a value -/
def sLockD (w : Lo → Store → Option Nat) (g : FS) : FS := orS (sLock w g) g
theorem ds_lockD (w : Lo → Store → Option Nat) {s : Stmt} {g : FS} (h : DS X W s g) : DS X W s (sLockD w g) := ds_or (ds_lock w h) h
end
end DL
/-! repr of dicts whose values hold no list and no dict, and of tuples of such dicts. -/
namespace DL
open PySem PySem.Spec PyProof.Rows L2 TL
variable {K : PySem.W.Frag}
mutual
/-- no list, no dict inside -/
def noL : D → Bool
  | .tup ds => noLL ds
  | .lst _ => false
  | .dct _ => false
  | _ => true
def noLL : List D → Bool
  | [] => true
  | d :: ds => noL d && noLL ds
end
theorem noLL_iff {ds : List D} : noLL ds = true ↔ ∀ d ∈ ds, noL d = true := by
  induction ds with
  | nil => exact ⟨fun _ _ h => (by cases h), fun _ => rfl⟩
  | cons d ds ih =>
    show (noL d && noLL ds) = true ↔ _
    rw [Bool.and_eq_true, ih]
    simp
def keyP : Key → PyData | .inl i => .int i | .inr x => .str x
def toPyK : List (Key × D) → Option (List (PyData × PyData))
  | [] => some []
  | (k, d) :: l => if noL d = true then (toPyR d).bind fun p => (toPyK l).map fun q => (keyP k, p) :: q else none
/-- a dict, or what holds none -/
def toPyE (st : Store) (d : D) : Option PyData := match dctAt d st with
  | some kvs => (toPyK kvs).map .dict
  | none => if noL d = true then toPyR d else none
def toPyEL (st : Store) : List D → Option (List PyData)
  | [] => some []
  | d :: ds => (toPyE st d).bind fun p => (toPyEL st ds).map fun q => p :: q
def bReprG : List D → Store → Option D := fun ds st => match ds with
  | [.tup ds] => (toPyEL st ds).bind fun ps => if PyData.showableAll ps = true ∧ PyData.depthAll ps ≤ 60 ∧ (PyData.tuple ps).shown.length ≤ sizeLine then some (.str (PyData.tuple ps).shown) else none
  | _ => none
section
variable {X : Cx} {W : WXd} {pins : List (Addr × Obj)} {σ : L2.St} {H : Hp} {s : Shared} {rho : Rf}
mutual
theorem reads_N (I : Inv X pins σ H s) : ∀ (d : D) {v : V} {u : Value} {p : PyData}, Rep X.K rho H v d → RelV v u → toPyR d = some p → noL d = true → Reads s.heap u p []
  | .non, _, _, _, r, rv, e, _ => by cases r; cases rv; cases e; exact .none
  | .bl b, _, _, _, r, rv, e, _ => by cases r; cases rv; cases e; exact .bool b
  | .int i, _, _, _, r, rv, e, _ => by cases r; obtain ⟨t, rfl⟩ := rv; cases e; exact .int i t
  | .str x, _, _, _, r, rv, e, _ => by cases r; obtain ⟨t, rfl⟩ := rv; cases e; exact .str x t
  | .scr _, _, _, _, _, _, e, _ => by cases e
  | .ref _, _, _, _, _, _, e, _ => by cases e
  | .dct _, _, _, _, _, _, _, n => by cases n
  | .lst _, _, _, _, _, _, _, n => by cases n
  | .tup ds, _, _, _, r, rv, e, n => by
    obtain ⟨ps, e1, e2⟩ := Option.map_eq_some_iff.mp (show (toPyRL ds).map PyData.tuple = some _ from e)
    subst e2
    obtain ⟨a, us, rfl, sq, l⟩ := r.sqT
    cases rv
    obtain ⟨its, r1, ⟨o, ho, hc, m, hd⟩, _⟩ := I.tuple sq
    exact .tuple ho hc hd (readsL_N I ds l r1 e1 n)
theorem readsL_N (I : Inv X pins σ H s) : ∀ (ds : List D) {vs : List V} {us : List Value} {ps : List PyData}, RepL X.K rho H vs ds → Vals vs us → toPyRL ds = some ps → noLL ds = true → ReadsAll s.heap us ps []
  | [], _, _, _, .nil, .nil, e, _ => by cases e; exact .nil
  | d :: ds, _, _, ps, .cons r l, .cons rv rt, e, n => by
    obtain ⟨p, e1, e2⟩ := Option.bind_eq_some_iff.mp (show ((toPyR d).bind fun p => (toPyRL ds).map fun q => p :: q) = some ps from e)
    obtain ⟨qs, e3, e4⟩ := Option.map_eq_some_iff.mp e2
    subst e4
    obtain ⟨n1, n2⟩ := Bool.and_eq_true_iff.mp (show (noL d && noLL ds) = true from n)
    exact ReadsAll.cons (as := []) (bs := []) (reads_N I d r rv e1 n1) (readsL_N I ds l rt e3 n2)
end
theorem pairs_read (I : Inv X pins σ H s) : ∀ {kvs : List (Key × D)} {xs : List (Key × V)} {vs : List (Key × Value)} {ps : List (PyData × PyData)}, RepK X.K rho H xs kvs → Paired (fun p q => p.1 = q.1 ∧ RelV p.2 q.2) xs vs → toPyK kvs = some ps → PyProof.V.PairsRead s.heap keyP vs ps []
  | _, _, _, _, .nil, .nil, e => by cases e; exact .nil
  | (k, d) :: l, _, (k2, v2) :: vs, ps, .cons r t, .cons rv rt, e => by
    have e' : (if noL d = true then (toPyR d).bind fun p => (toPyK l).map fun q => (keyP k, p) :: q else none) = some ps := e
    by_cases n : noL d = true
    case neg => rw [if_neg n] at e'; cases e'
    rw [if_pos n] at e'
    obtain ⟨p, e1, e2⟩ := Option.bind_eq_some_iff.mp e'
    obtain ⟨qs, e3, e4⟩ := Option.map_eq_some_iff.mp e2
    subst e4
    have hk : k = k2 := rv.1
    subst hk
    exact PyProof.V.PairsRead.cons (as := []) (bs := []) (reads_N I d r rv.2 e1 n) (pairs_read I t rt e3)
theorem key_reads {h : Heap} : ∀ (k : Key) (v : Value), keyIs k v = true → Reads h v (keyP k) [] := fun k v e => by
  rcases keyIs_shape e with ⟨i, t, rfl, rfl⟩ | ⟨x, t, rfl, rfl⟩
  · exact .int i t
  · exact .str x t
theorem reads_E (I : Inv X pins σ H s) {st : Store} (si : Sim X.K rho H st) {d : D} {v : V} {u : Value} {p : PyData} (r : Rep X.K rho H v d) (rv : RelV v u) (e : toPyE st d = some p) : ∃ as, Reads s.heap u p as ∧ sysModules ∉ as := by
  unfold toPyE at e
  split at e
  · rename_i kvs hk
    obtain ⟨ps, e1, e2⟩ := Option.map_eq_some_iff.mp e
    subst e2
    obtain ⟨a, xs, rfl, rd, l⟩ := dctRd r si hk
    cases rv
    obtain ⟨_, hs, vs, kv, hd⟩ := dk_rd I.hok rd
    refine ⟨[a], PyProof.V.reads_dictOf (knd := mixKind X.prog X.w) key_reads hd (pairs_read I l kv e1), fun m => ?_⟩
    rw [List.mem_singleton.mp m] at hs
    exact absurd hs (by simp)
  · by_cases n : noL d = true
    case neg => rw [if_neg n] at e; cases e
    rw [if_pos n] at e
    exact ⟨[], reads_N I d r rv e n, by simp⟩
theorem reads_EL (I : Inv X pins σ H s) {st : Store} (si : Sim X.K rho H st) : ∀ (ds : List D) {vs : List V} {us : List Value} {ps : List PyData}, RepL X.K rho H vs ds → Vals vs us → toPyEL st ds = some ps → ∃ as, ReadsAll s.heap us ps as ∧ sysModules ∉ as
  | [], _, _, _, .nil, .nil, e => by cases e; exact ⟨[], .nil, by simp⟩
  | d :: ds, _, _, ps, .cons r l, .cons rv rt, e => by
    obtain ⟨p, e1, e2⟩ := Option.bind_eq_some_iff.mp (show ((toPyE st d).bind fun p => (toPyEL st ds).map fun q => p :: q) = some ps from e)
    obtain ⟨qs, e3, e4⟩ := Option.map_eq_some_iff.mp e2
    subst e4
    obtain ⟨as, h1, h2⟩ := reads_E I si r rv e1
    obtain ⟨bs, h3, h4⟩ := reads_EL I si ds l rt e3
    exact ⟨as ++ bs, .cons h1 h3, fun m => (List.mem_append.mp m).elim h2 h4⟩
def rReprG (K : PySem.W.Frag) : List V → Hp → VK → Prop := fun xs H Q => ∃ rho st v ds ps, xs = [v] ∧ Sim K rho H st ∧ Rep K rho H v (.tup ds) ∧ toPyEL st ds = some ps ∧ PyData.showableAll ps = true ∧ PyData.depthAll ps ≤ 60 ∧ (PyData.tuple ps).shown.length ≤ sizeLine ∧ Q (.str (PyData.tuple ps).shown) H
end
section
variable {X : Cx} {W : WXd}
theorem call_reprG {k : Nat} (g : GX X k) : CallR X (.builtin "repr") (rReprG X.K) := by
  intro pins s σ H xs us Q I r h
  obtain ⟨rho, st, v, ds, ps, rfl, si, rp, e, sh, dp, z, q⟩ := h
  obtain ⟨u, rfl, rv⟩ := vals1 r
  have hu := g.room.un
  obtain ⟨a, vs, rfl, sq, l⟩ := rp.sqT
  cases rv
  obtain ⟨its, r1, ⟨o, ho, hc, m, hd⟩, _⟩ := I.tuple sq
  obtain ⟨as, h1, h2⟩ := reads_EL I si ds l r1 e
  have rd : Reads s.heap (.ref a) (.tuple ps) as := .tuple ho hc hd h1
  refine repr_of_reads' rd (by rw [PyData.showable]; exact sh) (fun _ => h2) g.gd (by rw [PyData.depth]; omega) (fun _ _ e => e) (fun h' u tk hk => ?_) z
  exact ⟨.str _, H, I.kept hk, ⟨_, rfl⟩, q⟩
theorem ok_reprG {k : Nat} (g : GX X k) : CallOk X (.builtin "repr") bReprG := ⟨_, call_reprG g, fun rho H xs ds d st Q rl si e q => by
  unfold bReprG at e
  split at e
  · rename_i y
    obtain ⟨v, rfl, p⟩ := lst1 rl
    obtain ⟨ps, h1, h2⟩ := Option.bind_eq_some_iff.mp e
    by_cases c : PyData.showableAll ps = true ∧ PyData.depthAll ps ≤ 60 ∧ (PyData.tuple ps).shown.length ≤ sizeLine
    · rw [if_pos c] at h2
      cases h2
      exact ⟨rho, st, v, y, ps, rfl, si, p, h1, c.1, c.2.1, c.2.2, q _ H (fun _ _ h => h) (.str _)⟩
    · rw [if_neg c] at h2
      cases h2
  · cases e⟩
end
/-! ### measures -/
structure OkV (m : Nat) (d : D) : Prop where
  ok : okD d = true
  nl : noL d = true
  hd : hD d ≤ 20
  wd : wD d ≤ m
theorem okK_py {m : Nat} : ∀ {kvs : List (Key × D)}, (∀ kv ∈ kvs, OkV m kv.2 ∧ okD (keyD kv.1) = true ∧ wD (keyD kv.1) ≤ 300) → ∃ ps, toPyK kvs = some ps ∧ PyData.showableKv ps = true ∧ PyData.leavesShortKv 70 ps = true ∧ PyData.depthKv ps ≤ 20 ∧ PyData.weightKv ps ≤ kvs.length * (m + 302)
  | [], _ => ⟨[], rfl, rfl, rfl, Nat.zero_le _, Nat.zero_le _⟩
  | (k, d) :: l, h => by
    obtain ⟨ov, k1, k2⟩ := h _ List.mem_cons_self
    obtain ⟨p, a1, a2, a3, a4, a5⟩ := ok_pyR d ov.ok
    obtain ⟨c, b1, b2, b3, b4, b5⟩ := ok_pyR _ k1
    obtain ⟨ps, i1, i2, i3, i4, i5⟩ := okK_py fun kv m => h kv (List.mem_cons_of_mem _ m)
    have ek : c = keyP k := by
      cases k with
      | inl i => cases b1; rfl
      | inr x => cases b1; rfl
    have hdk : hD (keyD k) ≤ 20 := by cases k <;> exact Nat.zero_le _
    subst ek
    refine ⟨(keyP k, p) :: ps, ?_, ?_, ?_, ?_, ?_⟩
    · show (if noL d = true then (toPyR d).bind fun p => (toPyK l).map fun q => (keyP k, p) :: q else none) = _
      rw [if_pos ov.nl, a1, i1]; rfl
    · rw [PyData.showableKv, a2, b2, i2]; rfl
    · rw [PyData.leavesShortKv, a3, b3, i3]; rfl
    · rw [PyData.depthKv]
      exact Nat.max_le.mpr ⟨Nat.max_le.mpr ⟨Nat.le_trans b4 hdk, Nat.le_trans a4 ov.hd⟩, i4⟩
    · rw [PyData.weightKv, List.length_cons, Nat.succ_mul]
      have w1 : wD d ≤ m := ov.wd
      have w2 : wD (keyD k) ≤ 300 := k2
      have w3 : (keyP k).weight ≤ wD (keyD k) := b5
      omega
/-- repr of a tuple of two dicts -/
theorem repr2_ok {m : Nat} {a b : D} {ka kb : List (Key × D)} {st : Store} (ha : dctAt a st = some ka) (hb : dctAt b st = some kb) (oa : ∀ kv ∈ ka, OkV m kv.2 ∧ okD (keyD kv.1) = true ∧ wD (keyD kv.1) ≤ 300) (ob : ∀ kv ∈ kb, OkV m kv.2 ∧ okD (keyD kv.1) = true ∧ wD (keyD kv.1) ≤ 300)
    (hm : (ka.length + kb.length) * (m + 302) ≤ 200000) : ∃ x, ∀ (st' : Store) (a' b' : D), dctAt a' st' = some ka → dctAt b' st' = some kb → bReprG [.tup [a', b']] st' = some (.str x) := by
  obtain ⟨pa, a1, a2, a3, a4, a5⟩ := okK_py oa
  obtain ⟨pb, b1, b2, b3, b4, b5⟩ := okK_py ob
  have sh : PyData.showableAll [.dict pa, .dict pb] = true := by rw [PyData.showableAll, PyData.showableAll, PyData.showableAll, PyData.showable, PyData.showable, a2, b2]; rfl
  have ls : (PyData.tuple [.dict pa, .dict pb]).leavesShort 70 = true := by rw [PyData.leavesShort, PyData.leavesShortAll, PyData.leavesShortAll, PyData.leavesShortAll, PyData.leavesShort, PyData.leavesShort, a3, b3]; rfl
  have dp : PyData.depthAll [.dict pa, .dict pb] ≤ 60 := by
    rw [PyData.depthAll, PyData.depthAll, PyData.depthAll, PyData.depth, PyData.depth]
    omega
  have z : (PyData.tuple [.dict pa, .dict pb]).shown.length ≤ sizeLine := by
    have h1 := PyData.shown_le 70 (by decide) _ ls
    have h2 : (PyData.tuple [.dict pa, .dict pb]).weight ≤ 210000 := by
      rw [PyData.weight, PyData.weightAll, PyData.weightAll, PyData.weightAll, PyData.weight, PyData.weight]
      have : (ka.length + kb.length) * (m + 302) = ka.length * (m + 302) + kb.length * (m + 302) := Nat.add_mul _ _ _
      omega
    have h3 : (70 + 2) * (PyData.tuple [.dict pa, .dict pb]).weight ≤ 72 * 210000 := Nat.mul_le_mul_left 72 h2
    rw [sizeLine_eq]
    omega
  refine ⟨(PyData.tuple [.dict pa, .dict pb]).shown, fun st' a' b' ea eb => ?_⟩
  have e1 : toPyEL st' [a', b'] = some [.dict pa, .dict pb] := by
    have x1 : toPyE st' a' = some (.dict pa) := by unfold toPyE; rw [ea]; show (toPyK ka).map _ = _; rw [a1]; rfl
    have x2 : toPyE st' b' = some (.dict pb) := by unfold toPyE; rw [eb]; show (toPyK kb).map _ = _; rw [b1]; rfl
    show (toPyE st' a').bind _ = _
    rw [x1, Option.bind_some]
    show ((toPyE st' b').bind _).map _ = _
    rw [x2]; rfl
  show (toPyEL st' [a', b']).bind _ = _
  rw [e1, Option.bind_some, if_pos ⟨sh, dp, z⟩]
end DL
namespace LW
open PySem PySem.Spec PyProof.Rows L2 DL
def topS (i : Nat) : Stmt := PySem.Challenge.pw_steadypages_k34_corrections.main.body.getD i (.Pass ⟨0, 0, 0, 0⟩)
abbrev s_copy_of : Stmt := topS 4
abbrev N_copy_of : List Str := ["delivered", "row"]
theorem sc_copy_of : FnScope N_copy_of ["delivered"] (defScope s_copy_of) := ⟨rfl, rfl, rfl, by decide +kernel, rfl, by decide +kernel, by decide +kernel⟩
abbrev s_set_row : Stmt := topS 6
abbrev N_set_row : List Str := ["rows", "row_id", "delivered"]
theorem sc_set_row : FnScope N_set_row ["rows", "row_id", "delivered"] (defScope s_set_row) := ⟨rfl, rfl, rfl, by decide +kernel, rfl, by decide +kernel, by decide +kernel⟩
abbrev s_apply_changes : Stmt := topS 5
abbrev N_apply_changes : List Str := ["rows", "changes", "changed", "row_id", "before", "after"]
theorem sc_apply_changes : FnScope N_apply_changes ["rows", "changes"] (defScope s_apply_changes) := ⟨rfl, rfl, rfl, by decide +kernel, rfl, by decide +kernel, by decide +kernel⟩
abbrev s_correction_to : Stmt := topS 8
abbrev N_correction_to : List Str := ["row_id", "delivered", "key", "shown"]
theorem sc_correction_to : FnScope N_correction_to ["row_id", "delivered"] (defScope s_correction_to) := ⟨rfl, rfl, rfl, by decide +kernel, rfl, by decide +kernel, by decide +kernel⟩
abbrev s_corrections_of : Stmt := topS 7
abbrev N_corrections_of : List Str := ["changes", "row_id"]
theorem sc_corrections_of : FnScope N_corrections_of ["changes"] (defScope s_corrections_of) := ⟨rfl, rfl, rfl, by decide +kernel, rfl, by decide +kernel, by decide +kernel⟩
abbrev s_corrected_id : Stmt := topS 9
abbrev N_corrected_id : List Str := ["correction"]
theorem sc_corrected_id : FnScope N_corrected_id ["correction"] (defScope s_corrected_id) := ⟨rfl, rfl, rfl, by decide +kernel, rfl, by decide +kernel, by decide +kernel⟩
abbrev s_apply_corrections : Stmt := topS 10
abbrev N_apply_corrections : List Str := ["rows", "corrections", "corrected", "correction", "delivered", "row_id"]
theorem sc_apply_corrections : FnScope N_apply_corrections ["rows", "corrections"] (defScope s_apply_corrections) := ⟨rfl, rfl, rfl, by decide +kernel, rfl, by decide +kernel, by decide +kernel⟩
abbrev s__law_tape : Stmt := topS 12
abbrev N__law_tape : List Str := ["script", "start", "mixed", "cell", "digits"]
theorem sc__law_tape : FnScope N__law_tape ["script", "start"] (defScope s__law_tape) := ⟨rfl, rfl, rfl, by decide +kernel, rfl, by decide +kernel, by decide +kernel⟩
abbrev s__law_pick : Stmt := topS 13
abbrev N__law_pick : List Str := ["tape", "size", "found"]
theorem sc__law_pick : FnScope N__law_pick ["tape", "size"] (defScope s__law_pick) := ⟨rfl, rfl, rfl, by decide +kernel, rfl, by decide +kernel, by decide +kernel⟩
abbrev s__law_one_of : Stmt := topS 14
abbrev N__law_one_of : List Str := ["tape", "items"]
theorem sc__law_one_of : FnScope N__law_one_of ["tape", "items"] (defScope s__law_one_of) := ⟨rfl, rfl, rfl, by decide +kernel, rfl, by decide +kernel, by decide +kernel⟩
abbrev s__law_value : Stmt := topS 15
abbrev N__law_value : List Str := ["tape", "signs", "some", "turn"]
theorem sc__law_value : FnScope N__law_value ["tape"] (defScope s__law_value) := ⟨rfl, rfl, rfl, by decide +kernel, rfl, by decide +kernel, by decide +kernel⟩
abbrev s__law_values : Stmt := topS 16
abbrev N__law_values : List Str := ["tape", "width", "column"]
theorem sc__law_values : FnScope N__law_values ["tape", "width"] (defScope s__law_values) := ⟨rfl, rfl, rfl, by decide +kernel, rfl, by decide +kernel, by decide +kernel⟩
abbrev s__law_test : Stmt := topS 17
abbrev N__law_test : List Str := ["tape", "width", "column", "kind", "many", "turn"]
theorem sc__law_test : FnScope N__law_test ["tape", "width"] (defScope s__law_test) := ⟨rfl, rfl, rfl, by decide +kernel, rfl, by decide +kernel, by decide +kernel⟩
abbrev s__law_condition : Stmt := topS 18
abbrev N__law_condition : List Str := ["tape", "width", "depth", "kind", "parts"]
theorem sc__law_condition : FnScope N__law_condition ["tape", "width", "depth"] (defScope s__law_condition) := ⟨rfl, rfl, rfl, by decide +kernel, rfl, by decide +kernel, by decide +kernel⟩
abbrev s__law_view : Stmt := topS 19
abbrev N__law_view : List Str := ["tape", "width", "condition", "order", "turn", "column", "shown", "pair"]
theorem sc__law_view : FnScope N__law_view ["tape", "width"] (defScope s__law_view) := ⟨rfl, rfl, rfl, by decide +kernel, rfl, by decide +kernel, by decide +kernel⟩
abbrev s__law_key : Stmt := topS 20
abbrev N__law_key : List Str := ["view", "number", "values", "column", "falling"]
theorem sc__law_key : FnScope N__law_key ["view", "number", "values"] (defScope s__law_key) := ⟨rfl, rfl, rfl, by decide +kernel, rfl, by decide +kernel, by decide +kernel⟩
abbrev s__law_row : Stmt := topS 21
abbrev N__law_row : List Str := ["tape", "view", "row_id", "width", "values", "column"]
theorem sc__law_row : FnScope N__law_row ["tape", "view", "row_id", "width"] (defScope s__law_row) := ⟨rfl, rfl, rfl, by decide +kernel, rfl, by decide +kernel, by decide +kernel⟩
abbrev s__law_set : Stmt := topS 22
abbrev N__law_set : List Str := ["tape", "view", "width", "firsts", "found", "row_id", "before", "after"]
theorem sc__law_set : FnScope N__law_set ["tape", "view", "width", "firsts"] (defScope s__law_set) := ⟨rfl, rfl, rfl, by decide +kernel, rfl, by decide +kernel, by decide +kernel⟩
abbrev s__law_same : Stmt := topS 23
abbrev N__law_same : List Str := ["found", "expected"]
theorem sc__law_same : FnScope N__law_same ["found", "expected"] (defScope s__law_same) := ⟨rfl, rfl, rfl, by decide +kernel, rfl, by decide +kernel, by decide +kernel⟩
abbrev s__law_applied : Stmt := topS 24
abbrev N__law_applied : List Str := ["rows", "changes", "found", "row_id"]
theorem sc__law_applied : FnScope N__law_applied ["rows", "changes"] (defScope s__law_applied) := ⟨rfl, rfl, rfl, by decide +kernel, rfl, by decide +kernel, by decide +kernel⟩
abbrev s__law_told : Stmt := topS 25
abbrev N__law_told : List Str := ["rows", "changes", "found", "e"]
theorem sc__law_told : FnScope N__law_told ["rows", "changes"] (defScope s__law_told) := ⟨rfl, rfl, rfl, by decide +kernel, rfl, by decide +kernel, by decide +kernel⟩
abbrev s__law_other_right : Stmt := topS 26
abbrev N__law_other_right : List Str := ["tape", "view", "width", "rows", "changes", "other", "turn", "row_id", "row", "wanted", "told"]
theorem sc__law_other_right : FnScope N__law_other_right ["tape", "view", "width", "rows", "changes"] (defScope s__law_other_right) := ⟨rfl, rfl, rfl, by decide +kernel, rfl, by decide +kernel, by decide +kernel⟩
abbrev s__law_corrections : Stmt := topS 27
abbrev N__law_corrections : List Str := ["changes", "found", "row_id", "after"]
theorem sc__law_corrections : FnScope N__law_corrections ["changes"] (defScope s__law_corrections) := ⟨rfl, rfl, rfl, by decide +kernel, rfl, by decide +kernel, by decide +kernel⟩
abbrev s_law : Stmt := topS 28
abbrev N_law : List Str := ["script", "start", "tape", "width", "view", "turn", "changes", "rows", "row_id", "row", "expected", "kept", "corrections", "found"]
theorem sc_law : FnScope N_law ["script"] (defScope s_law) := ⟨rfl, rfl, rfl, by decide +kernel, rfl, by decide +kernel, by decide +kernel⟩
/-- what the top has left -/
structure Txt (K : PySem.W.Frag) (mg : Str → Option Value) where
  a_copy_of : Addr
  f_copy_of : FuncData
  F_copy_of : Fun K "copy_of" "copy_of" s_copy_of a_copy_of f_copy_of
  b_copy_of : Binds K f_copy_of ["delivered"] []
  g_copy_of : mg "copy_of" = some (.ref a_copy_of)
  a_set_row : Addr
  f_set_row : FuncData
  F_set_row : Fun K "set_row" "set_row" s_set_row a_set_row f_set_row
  b_set_row : Binds K f_set_row ["rows", "row_id", "delivered"] []
  g_set_row : mg "set_row" = some (.ref a_set_row)
  a_apply_changes : Addr
  f_apply_changes : FuncData
  F_apply_changes : Fun K "apply_changes" "apply_changes" s_apply_changes a_apply_changes f_apply_changes
  b_apply_changes : Binds K f_apply_changes ["rows", "changes"] []
  g_apply_changes : mg "apply_changes" = some (.ref a_apply_changes)
  a_correction_to : Addr
  f_correction_to : FuncData
  F_correction_to : Fun K "correction_to" "correction_to" s_correction_to a_correction_to f_correction_to
  b_correction_to : Binds K f_correction_to ["row_id", "delivered"] []
  g_correction_to : mg "correction_to" = some (.ref a_correction_to)
  a_corrections_of : Addr
  f_corrections_of : FuncData
  F_corrections_of : Fun K "corrections_of" "corrections_of" s_corrections_of a_corrections_of f_corrections_of
  b_corrections_of : Binds K f_corrections_of ["changes"] []
  g_corrections_of : mg "corrections_of" = some (.ref a_corrections_of)
  a_corrected_id : Addr
  f_corrected_id : FuncData
  F_corrected_id : Fun K "corrected_id" "corrected_id" s_corrected_id a_corrected_id f_corrected_id
  b_corrected_id : Binds K f_corrected_id ["correction"] []
  g_corrected_id : mg "corrected_id" = some (.ref a_corrected_id)
  a_apply_corrections : Addr
  f_apply_corrections : FuncData
  F_apply_corrections : Fun K "apply_corrections" "apply_corrections" s_apply_corrections a_apply_corrections f_apply_corrections
  b_apply_corrections : Binds K f_apply_corrections ["rows", "corrections"] []
  g_apply_corrections : mg "apply_corrections" = some (.ref a_apply_corrections)
  a__law_tape : Addr
  f__law_tape : FuncData
  F__law_tape : Fun K "_law_tape" "_law_tape" s__law_tape a__law_tape f__law_tape
  b__law_tape : Binds K f__law_tape ["script", "start"] []
  g__law_tape : mg "_law_tape" = some (.ref a__law_tape)
  a__law_pick : Addr
  f__law_pick : FuncData
  F__law_pick : Fun K "_law_pick" "_law_pick" s__law_pick a__law_pick f__law_pick
  b__law_pick : Binds K f__law_pick ["tape", "size"] []
  g__law_pick : mg "_law_pick" = some (.ref a__law_pick)
  a__law_one_of : Addr
  f__law_one_of : FuncData
  F__law_one_of : Fun K "_law_one_of" "_law_one_of" s__law_one_of a__law_one_of f__law_one_of
  b__law_one_of : Binds K f__law_one_of ["tape", "items"] []
  g__law_one_of : mg "_law_one_of" = some (.ref a__law_one_of)
  a__law_value : Addr
  f__law_value : FuncData
  F__law_value : Fun K "_law_value" "_law_value" s__law_value a__law_value f__law_value
  b__law_value : Binds K f__law_value ["tape"] []
  g__law_value : mg "_law_value" = some (.ref a__law_value)
  a__law_values : Addr
  f__law_values : FuncData
  F__law_values : Fun K "_law_values" "_law_values" s__law_values a__law_values f__law_values
  b__law_values : Binds K f__law_values ["tape", "width"] []
  g__law_values : mg "_law_values" = some (.ref a__law_values)
  a__law_test : Addr
  f__law_test : FuncData
  F__law_test : Fun K "_law_test" "_law_test" s__law_test a__law_test f__law_test
  b__law_test : Binds K f__law_test ["tape", "width"] []
  g__law_test : mg "_law_test" = some (.ref a__law_test)
  a__law_condition : Addr
  f__law_condition : FuncData
  F__law_condition : Fun K "_law_condition" "_law_condition" s__law_condition a__law_condition f__law_condition
  b__law_condition : Binds K f__law_condition ["tape", "width", "depth"] []
  g__law_condition : mg "_law_condition" = some (.ref a__law_condition)
  a__law_view : Addr
  f__law_view : FuncData
  F__law_view : Fun K "_law_view" "_law_view" s__law_view a__law_view f__law_view
  b__law_view : Binds K f__law_view ["tape", "width"] []
  g__law_view : mg "_law_view" = some (.ref a__law_view)
  a__law_key : Addr
  f__law_key : FuncData
  F__law_key : Fun K "_law_key" "_law_key" s__law_key a__law_key f__law_key
  b__law_key : Binds K f__law_key ["view", "number", "values"] []
  g__law_key : mg "_law_key" = some (.ref a__law_key)
  a__law_row : Addr
  f__law_row : FuncData
  F__law_row : Fun K "_law_row" "_law_row" s__law_row a__law_row f__law_row
  b__law_row : Binds K f__law_row ["tape", "view", "row_id", "width"] []
  g__law_row : mg "_law_row" = some (.ref a__law_row)
  a__law_set : Addr
  f__law_set : FuncData
  F__law_set : Fun K "_law_set" "_law_set" s__law_set a__law_set f__law_set
  b__law_set : Binds K f__law_set ["tape", "view", "width", "firsts"] []
  g__law_set : mg "_law_set" = some (.ref a__law_set)
  a__law_same : Addr
  f__law_same : FuncData
  F__law_same : Fun K "_law_same" "_law_same" s__law_same a__law_same f__law_same
  b__law_same : Binds K f__law_same ["found", "expected"] []
  g__law_same : mg "_law_same" = some (.ref a__law_same)
  a__law_applied : Addr
  f__law_applied : FuncData
  F__law_applied : Fun K "_law_applied" "_law_applied" s__law_applied a__law_applied f__law_applied
  b__law_applied : Binds K f__law_applied ["rows", "changes"] []
  g__law_applied : mg "_law_applied" = some (.ref a__law_applied)
  a__law_told : Addr
  f__law_told : FuncData
  F__law_told : Fun K "_law_told" "_law_told" s__law_told a__law_told f__law_told
  b__law_told : Binds K f__law_told ["rows", "changes"] []
  g__law_told : mg "_law_told" = some (.ref a__law_told)
  a__law_other_right : Addr
  f__law_other_right : FuncData
  F__law_other_right : Fun K "_law_other_right" "_law_other_right" s__law_other_right a__law_other_right f__law_other_right
  b__law_other_right : Binds K f__law_other_right ["tape", "view", "width", "rows", "changes"] []
  g__law_other_right : mg "_law_other_right" = some (.ref a__law_other_right)
  a__law_corrections : Addr
  f__law_corrections : FuncData
  F__law_corrections : Fun K "_law_corrections" "_law_corrections" s__law_corrections a__law_corrections f__law_corrections
  b__law_corrections : Binds K f__law_corrections ["changes"] []
  g__law_corrections : mg "_law_corrections" = some (.ref a__law_corrections)
  a_law : Addr
  f_law : FuncData
  F_law : Fun K "law" "law" s_law a_law f_law
  b_law : Binds K f_law ["script"] []
  g_law : mg "law" = some (.ref a_law)
  X_Mismatch : Addr
  I_Mismatch : Addr
  E_Mismatch : ErrTxt K "Mismatch" "Mismatch.__init__" "row_id" X_Mismatch I_Mismatch
  ge_Mismatch : mg "Mismatch" = some (.ref X_Mismatch)
  n_dict : mg "dict" = none
  n_int : mg "int" = none
  n_isinstance : mg "isinstance" = none
  n_len : mg "len" = none
  n_list : mg "list" = none
  n_max : mg "max" = none
  n_min : mg "min" = none
  n_range : mg "range" = none
  n_repr : mg "repr" = none
  n_sorted : mg "sorted" = none
  n_tuple : mg "tuple" = none
variable {P : Program} {w : World} {K : PySem.W.Frag} {mg : Str → Option Value} {base : Heap}
noncomputable abbrev q_copy_of_0 : FS := (sRet (fDComp (iOf asL (fVar 0)) [1] b1 tTrue (fSub (fSub (fVar 1) (fC (.int 0))) (fUn negI (fC (.int 1)))) (fVar 1)))
noncomputable def g_copy_of : FS := q_copy_of_0
noncomputable def m_copy_of : FM := mOf N_copy_of.length g_copy_of
theorem d_copy_of (T : Txt K mg) : FnD P w K mg base 1 T.a_copy_of T.f_copy_of ["delivered"] m_copy_of := FnD.of T.F_copy_of sc_copy_of fun cd A outer s H gx => (ds_one (ds_ret (de_dc (own := [("row", 1)]) gx.calm gx.nd (di_lst (de_var 0)) (blkOk_by (N := N_copy_of) (sc := defScope s_copy_of) (by decide +kernel)) (tg1 1) (fun _ _ _ _ _ => (pg_name (i := 1) gx.nd rfl (.inl rfl))) (fun _ _ _ _ _ => dts_nil) (fun _ _ _ _ _ => (de_sub gx.blk (de_sub gx.blk (de_var 1) de_int) (de_neg de_int))) (fun _ _ _ _ _ => (de_var 1)))))
noncomputable abbrev q_set_row_0t_0 : FS := (sDrop (fPop2 (fVar 0) (fVar 1) (fC .non)))
noncomputable abbrev q_set_row_0e_0 : FS := (sPut (fVar 0) (fVar 1) (fVar 2))
noncomputable abbrev q_set_row_0 : FS := (sIf (fTest (fOp opIs (fVar 2) (fC .non))) q_set_row_0t_0 q_set_row_0e_0)
noncomputable def g_set_row : FS := q_set_row_0
noncomputable def m_set_row : FM := mOf N_set_row.length g_set_row
theorem d_set_row (T : Txt K mg) : FnD P w K mg base 1 T.a_set_row T.f_set_row ["rows", "row_id", "delivered"] m_set_row := FnD.of T.F_set_row sc_set_row fun cd A outer s H gx => (ds_one (ds_if (dt_cmp ok_is (de_var 2) de_non) (ds_one (ds_expr (de_pop2 (de_var 0) (de_var 1) de_non ⟨rfl, rfl, rfl, rfl⟩))) (ds_one (ds_put gx (de_var 0) (de_var 1) (de_var 2)))))
noncomputable abbrev q_apply_changes_0 : FS := (sLock (whichR (fVar 0)) (sAsg (fDComp (iFrz kKeys (fVar 0)) [3] b1 tTrue (fVar 3) (fSub (fVar 0) (fVar 3))) (gN 2)))
noncomputable abbrev q_apply_changes_1l_0 : FS := (sAsg (fSub (fVar 1) (fVar 3)) (gT 2 (gCons' (gN 4) (gCons' (gN 5) gNil'))))
noncomputable abbrev q_apply_changes_1l_1t_0 : FS := sNever
noncomputable abbrev q_apply_changes_1l_1 : FS := (sIf (fTest (fOp opNe (fGet1 (fVar 0) (fVar 3)) (fVar 4))) q_apply_changes_1l_1t_0 sNil)
noncomputable abbrev q_apply_changes_1l_2 : FS := (sDrop (fCall m_set_row (aCons (fVar 2) (aCons (fVar 3) (aCons (fVar 5) aNil)))))
noncomputable abbrev q_apply_changes_1 : FS := (sFor (iOf asL (fSortKs (fVar 1))) (gN 3) (sSeq q_apply_changes_1l_0 (sSeq q_apply_changes_1l_1 q_apply_changes_1l_2)))
noncomputable abbrev q_apply_changes_2 : FS := (sRet (fVar 2))
noncomputable def g_apply_changes : FS := (sSeq q_apply_changes_0 (sSeq q_apply_changes_1 q_apply_changes_2))
noncomputable def m_apply_changes : FM := mOf N_apply_changes.length g_apply_changes
theorem d_apply_changes (T : Txt K mg) : FnD P w K mg base 2 T.a_apply_changes T.f_apply_changes ["rows", "changes"] m_apply_changes := FnD.of T.F_apply_changes sc_apply_changes fun cd A outer s H gx => (ds_cons (ds_lock (whichR (fVar 0)) (ds_setDc (own := [("row_id", 3)]) (i := 2) gx.calm gx.nd rfl rfl (sw_trueD rfl rfl rfl (by decide +kernel)) (di_keysF (de_var 0)) (blkOk_by (N := N_apply_changes) (sc := defScope s_apply_changes) (by decide +kernel)) (tg1 3) (fun _ _ _ _ _ => (pg_name (i := 3) gx.nd rfl (.inl rfl))) (fun _ _ _ _ _ => dts_nil) (fun _ _ _ _ _ => (de_var 3)) (fun _ _ _ _ _ => (de_sub gx.blk (de_var 0) (de_var 3))))) (ds_cons (ds_forR PassesOwn.never gx.calm (di_lst (de_sortKs gx (de_var 1) (by rfl) T.n_sorted)) (dg_name 3 gx.nd) (ds_cons (ds_asg (de_sub gx (de_var 1) (de_var 3)) (dg_tup gx.calm (dgs_cons (dg_name 4 gx.nd) (dgs_cons (dg_name 5 gx.nd) dgs_nil)))) (ds_cons (ds_if (dt_cmp (ok_ne gx) (de_get1 gx (de_var 0) (de_var 3) ⟨rfl, rfl, rfl, rfl⟩) (de_var 4)) (ds_one ds_never) ds_nil) (ds_one (ds_expr (de_call ((d_set_row T).up (by decide)) gx (by rfl) T.g_set_row T.F_set_row.kp T.b_set_row (da_cons (de_var 2) (da_cons (de_var 3) (da_cons (de_var 5) da_nil))) (hn := (aCons_n (aCons_n (aCons_n aNil_n)))))))))) (ds_one (ds_ret (de_var 2)))))
noncomputable abbrev q_correction_to_0t_0 : FS := (sRet (fMk mkTup (aCons (fC (.str (Str.ofString "drop"))) (aCons (fVar 0) aNil))))
noncomputable abbrev q_correction_to_0 : FS := (sIf (fTest (fOp opIs (fVar 1) (fC .non))) q_correction_to_0t_0 sNil)
noncomputable abbrev q_correction_to_1 : FS := (sAsg (fVar 1) (gT 2 (gCons' (gN 2) (gCons' (gN 3) gNil'))))
noncomputable abbrev q_correction_to_2 : FS := (sRet (fMk mkTup (aCons (fC (.str (Str.ofString "put"))) (aCons (fVar 2) (aCons (fVar 3) aNil)))))
noncomputable def g_correction_to : FS := (sSeq q_correction_to_0 (sSeq q_correction_to_1 q_correction_to_2))
noncomputable def m_correction_to : FM := mOf N_correction_to.length g_correction_to
theorem d_correction_to (T : Txt K mg) : FnD P w K mg base 1 T.a_correction_to T.f_correction_to ["row_id", "delivered"] m_correction_to := FnD.of T.F_correction_to sc_correction_to fun cd A outer s H gx => (ds_cons (ds_if (dt_cmp ok_is (de_var 1) de_non) (ds_one (ds_ret (de_tup (da_cons de_str (da_cons (de_var 0) da_nil))))) ds_nil) (ds_cons (ds_asg (de_var 1) (dg_tup gx.calm (dgs_cons (dg_name 2 gx.nd) (dgs_cons (dg_name 3 gx.nd) dgs_nil)))) (ds_one (ds_ret (de_tup (da_cons de_str (da_cons (de_var 2) (da_cons (de_var 3) da_nil))))))))
noncomputable abbrev q_corrections_of_0 : FS := (sRet (fComp (iOf asL (fSortKs (fVar 0))) [1] b1 tTrue (fCall m_correction_to (aCons (fVar 1) (aCons (fSub (fSub (fVar 0) (fVar 1)) (fC (.int 1))) aNil)))))
noncomputable def g_corrections_of : FS := q_corrections_of_0
noncomputable def m_corrections_of : FM := mOf N_corrections_of.length g_corrections_of
theorem d_corrections_of (T : Txt K mg) : FnD P w K mg base 2 T.a_corrections_of T.f_corrections_of ["changes"] m_corrections_of := FnD.of T.F_corrections_of sc_corrections_of fun cd A outer s H gx => (ds_one (ds_ret (de_lc (own := [("row_id", 1)]) gx.calm gx.nd (di_lst (de_sortKs gx (de_var 0) (by rfl) T.n_sorted)) (blkOk_by (N := N_corrections_of) (sc := defScope s_corrections_of) (by decide +kernel)) (tg1 1) (fun _ _ _ _ _ => (pg_name (i := 1) gx.nd rfl (.inl rfl))) (fun _ _ _ _ _ => dts_nil) (fun _ _ _ _ _ => (de_call ((d_correction_to T).up (by decide)) gx.blk (by rfl) T.g_correction_to T.F_correction_to.kp T.b_correction_to (da_cons (de_var 1) (da_cons (de_sub gx.blk (de_sub gx.blk (de_var 0) (de_var 1)) de_int) da_nil)) (hn := (aCons_n (aCons_n aNil_n))))))))
noncomputable abbrev q_corrected_id_0t_0 : FS := (sRet (fSub (fVar 0) (fC (.int 1))))
noncomputable abbrev q_corrected_id_0 : FS := (sIf (fTest (fOp opEq (fSub (fVar 0) (fC (.int 0))) (fC (.str (Str.ofString "drop"))))) q_corrected_id_0t_0 sNil)
noncomputable abbrev q_corrected_id_1 : FS := (sRet (fSub (fSub (fVar 0) (fC (.int 1))) (fUn negI (fC (.int 1)))))
noncomputable def g_corrected_id : FS := (sSeq q_corrected_id_0 q_corrected_id_1)
noncomputable def m_corrected_id : FM := mOf N_corrected_id.length g_corrected_id
theorem d_corrected_id (T : Txt K mg) : FnD P w K mg base 1 T.a_corrected_id T.f_corrected_id ["correction"] m_corrected_id := FnD.of T.F_corrected_id sc_corrected_id fun cd A outer s H gx => (ds_cons (ds_if (dt_cmp (ok_eq gx) (de_sub gx (de_var 0) de_int) de_str) (ds_one (ds_ret (de_sub gx (de_var 0) de_int))) ds_nil) (ds_one (ds_ret (de_sub gx (de_sub gx (de_var 0) de_int) (de_neg de_int)))))
noncomputable abbrev q_apply_corrections_0 : FS := (sLock (whichR (fVar 0)) (sAsg (fDComp (iFrz kKeys (fVar 0)) [5] b1 tTrue (fVar 5) (fSub (fVar 0) (fVar 5))) (gN 2)))
noncomputable abbrev q_apply_corrections_1l_0 : FS := (sAsg (fIfE (fTest (fOp opEq (fSub (fVar 3) (fC (.int 0))) (fC (.str (Str.ofString "drop"))))) (fC .non) (fSlice (fVar 3) (oSome (fC (.int 1))) oNone)) (gN 4))
noncomputable abbrev q_apply_corrections_1l_1 : FS := (sDrop (fCall m_set_row (aCons (fVar 2) (aCons (fCall m_corrected_id (aCons (fVar 3) aNil)) (aCons (fVar 4) aNil)))))
noncomputable abbrev q_apply_corrections_1 : FS := (sFor (iOf asL (fVar 1)) (gN 3) (sSeq q_apply_corrections_1l_0 q_apply_corrections_1l_1))
noncomputable abbrev q_apply_corrections_2 : FS := (sRet (fVar 2))
noncomputable def g_apply_corrections : FS := (sSeq q_apply_corrections_0 (sSeq q_apply_corrections_1 q_apply_corrections_2))
noncomputable def m_apply_corrections : FM := mOf N_apply_corrections.length g_apply_corrections
theorem d_apply_corrections (T : Txt K mg) : FnD P w K mg base 2 T.a_apply_corrections T.f_apply_corrections ["rows", "corrections"] m_apply_corrections := FnD.of T.F_apply_corrections sc_apply_corrections fun cd A outer s H gx => (ds_cons (ds_lock (whichR (fVar 0)) (ds_setDc (own := [("row_id", 5)]) (i := 2) gx.calm gx.nd rfl rfl (sw_trueD rfl rfl rfl (by decide +kernel)) (di_keysF (de_var 0)) (blkOk_by (N := N_apply_corrections) (sc := defScope s_apply_corrections) (by decide +kernel)) (tg1 5) (fun _ _ _ _ _ => (pg_name (i := 5) gx.nd rfl (.inl rfl))) (fun _ _ _ _ _ => dts_nil) (fun _ _ _ _ _ => (de_var 5)) (fun _ _ _ _ _ => (de_sub gx.blk (de_var 0) (de_var 5))))) (ds_cons (ds_forR PassesOwn.never gx.calm (di_lst (de_var 1)) (dg_name 3 gx.nd) (ds_cons (ds_asg (de_if (dt_cmp (ok_eq gx) (de_sub gx (de_var 3) de_int) de_str) de_non (de_slice (de_var 3) (do_some de_int) do_none)) (dg_name 4 gx.nd)) (ds_one (ds_expr (de_call ((d_set_row T).up (by decide)) gx (by rfl) T.g_set_row T.F_set_row.kp T.b_set_row (da_cons (de_var 2) (da_cons (de_call ((d_corrected_id T).up (by decide)) gx (by rfl) T.g_corrected_id T.F_corrected_id.kp T.b_corrected_id (da_cons (de_var 3) da_nil) (hn := (aCons_n aNil_n))) (da_cons (de_var 4) da_nil))) (hn := (aCons_n (aCons_n (aCons_n aNil_n))))))))) (ds_one (ds_ret (de_var 2)))))
noncomputable abbrev q__law_tape_0 : FS := (sAsg (fOp opAdd (fC (.int 97)) (fOp opMul (fVar 1) (fC (.int 31)))) (gN 2))
noncomputable abbrev q__law_tape_1l_0 : FS := (sAsg (fOp opAdd (fOp modI (fOp powI (fOp opAdd (fOp opAdd (fOp opMul (fVar 2) (fC (.int 30011))) (fOp opMul (fVar 3) (fVar 3))) (fC (.int 7))) (fC (.int 2))) (fC (.int 2147483563))) (fC (.int 2))) (gN 2))
noncomputable abbrev q__law_tape_1 : FS := (sFor (iOf asScr (fVar 0)) (gN 3) q__law_tape_1l_0)
noncomputable abbrev q__law_tape_2 : FS := (sAsg (fIfE (fAndT (fTest (fOp opLt (fVar 1) (fMk bLen (aCons (fVar 0) aNil)))) (fTest (fOp opGe (fSub (fVar 0) (fVar 1)) (fOp powI (fC (.int 10)) (fC (.int 18)))))) (fOp subI (fSub (fVar 0) (fVar 1)) (fOp powI (fC (.int 10)) (fC (.int 18)))) (fC (.int 0))) (gN 4))
noncomputable abbrev q__law_tape_3 : FS := (sRet (fDict (((fC (.str (Str.ofString "digits"))), (fVar 4)) :: (((fC (.str (Str.ofString "mixed"))), (fVar 2)) :: []))))
noncomputable def g__law_tape : FS := (sSeq q__law_tape_0 (sSeq q__law_tape_1 (sSeq q__law_tape_2 q__law_tape_3)))
noncomputable def m__law_tape : FM := mOf N__law_tape.length g__law_tape
theorem d__law_tape (T : Txt K mg) : FnD P w K mg base 1 T.a__law_tape T.f__law_tape ["script", "start"] m__law_tape := FnD.of T.F__law_tape sc__law_tape fun cd A outer s H gx => (ds_cons (ds_asg (de_op ok_add de_int (de_op ok_mul (de_var 1) de_int)) (dg_name 2 gx.nd)) (ds_cons (ds_forR PassesOwn.never gx.calm (di_scr (de_var 0)) (dg_name 3 gx.nd) (ds_one (ds_asg (de_op ok_add (de_op ok_modI (de_op ok_powI (de_op ok_add (de_op ok_add (de_op ok_mul (de_var 2) de_int) (de_op ok_mul (de_var 3) (de_var 3))) de_int) de_int) de_int) de_int) (dg_name 2 gx.nd)))) (ds_cons (ds_asg (de_if (dt_w (dw_and (dt_cmp ok_lt (de_var 1) (de_callB (id := "len") ok_len (by rfl) T.n_len (by decide +kernel) (da_cons (de_var 0) da_nil))) (dw_and1 (dt_cmp ok_ge (de_sub gx (de_var 0) (de_var 1)) (de_op ok_powI de_int de_int))))) (de_op ok_subI (de_sub gx (de_var 0) (de_var 1)) (de_op ok_powI de_int de_int)) de_int) (dg_name 4 gx.nd)) (ds_one (ds_ret (de_dict (.cons de_str (de_var 4) (.cons de_str (de_var 2) .nil))))))))
noncomputable abbrev q__law_pick_0t_0 : FS := (sAsg (fOp modI (fSub (fVar 0) (fC (.str (Str.ofString "digits")))) (fVar 1)) (gN 2))
noncomputable abbrev q__law_pick_0t_1 : FS := (sPut (fVar 0) (fC (.str (Str.ofString "digits"))) (fOp fdivI (fSub (fVar 0) (fC (.str (Str.ofString "digits")))) (fVar 1)))
noncomputable abbrev q__law_pick_0t_2 : FS := (sRet (fVar 2))
noncomputable abbrev q__law_pick_0 : FS := (sIf (fTest (fOp opGe (fSub (fVar 0) (fC (.str (Str.ofString "digits")))) (fVar 1))) (sSeq q__law_pick_0t_0 (sSeq q__law_pick_0t_1 q__law_pick_0t_2)) sNil)
noncomputable abbrev q__law_pick_1 : FS := (sPut (fVar 0) (fC (.str (Str.ofString "mixed"))) (fOp modI (fOp opAdd (fOp opMul (fSub (fVar 0) (fC (.str (Str.ofString "mixed")))) (fC (.int 40014))) (fC (.int 1013))) (fC (.int 2147483563))))
noncomputable abbrev q__law_pick_2 : FS := (sRet (fOp modI (fOp fdivI (fOp modI (fOp powI (fOp modI (fOp powI (fSub (fVar 0) (fC (.str (Str.ofString "mixed")))) (fC (.int 2))) (fC (.int 2147483399))) (fC (.int 3))) (fC (.int 998244353))) (fC (.int 5))) (fVar 1)))
noncomputable def g__law_pick : FS := (sSeq q__law_pick_0 (sSeq q__law_pick_1 q__law_pick_2))
noncomputable def m__law_pick : FM := mOf N__law_pick.length g__law_pick
theorem d__law_pick (T : Txt K mg) : FnD P w K mg base 1 T.a__law_pick T.f__law_pick ["tape", "size"] m__law_pick := FnD.of T.F__law_pick sc__law_pick fun cd A outer s H gx => (ds_cons (ds_if (dt_cmp ok_ge (de_sub gx (de_var 0) de_str) (de_var 1)) (ds_cons (ds_asg (de_op ok_modI (de_sub gx (de_var 0) de_str) (de_var 1)) (dg_name 2 gx.nd)) (ds_cons (ds_put gx (de_var 0) de_str (de_op ok_fdivI (de_sub gx (de_var 0) de_str) (de_var 1))) (ds_one (ds_ret (de_var 2))))) ds_nil) (ds_cons (ds_put gx (de_var 0) de_str (de_op ok_modI (de_op ok_add (de_op ok_mul (de_sub gx (de_var 0) de_str) de_int) de_int) de_int)) (ds_one (ds_ret (de_op ok_modI (de_op ok_fdivI (de_op ok_modI (de_op ok_powI (de_op ok_modI (de_op ok_powI (de_sub gx (de_var 0) de_str) de_int) de_int) de_int) de_int) de_int) (de_var 1))))))
noncomputable abbrev q__law_one_of_0 : FS := (sRet (fSub (fVar 1) (fCall m__law_pick (aCons (fVar 0) (aCons (fMk bLen (aCons (fVar 1) aNil)) aNil)))))
noncomputable def g__law_one_of : FS := q__law_one_of_0
noncomputable def m__law_one_of : FM := mOf N__law_one_of.length g__law_one_of
theorem d__law_one_of (T : Txt K mg) : FnD P w K mg base 2 T.a__law_one_of T.f__law_one_of ["tape", "items"] m__law_one_of := FnD.of T.F__law_one_of sc__law_one_of fun cd A outer s H gx => (ds_one (ds_ret (de_sub gx (de_var 1) (de_call ((d__law_pick T).up (by decide)) gx (by rfl) T.g__law_pick T.F__law_pick.kp T.b__law_pick (da_cons (de_var 0) (da_cons (de_callB (id := "len") ok_len (by rfl) T.n_len (by decide +kernel) (da_cons (de_var 1) da_nil)) da_nil)) (hn := (aCons_n (aCons_n aNil_n)))))))
noncomputable abbrev q__law_value_0t_0 : FS := (sAsg (fC (.str (Str.ofString " !#$&'()*+,-./0123456789:;<=>?@ABCDEFGHIJKLMNOPQRSTUVWXYZ[]^_{|}~"))) (gN 1))
noncomputable abbrev q__law_value_0t_1 : FS := (sAsg (fMk bList (aCons (fOp opAdd (fVar 1) (fC (.str (Str.ofString "abcdefghijklmnopqrstuvwxyz")))) aNil)) (gN 1))
noncomputable abbrev q__law_value_0t_2 : FS := (sRet (fMt joinD (fC (.str (Str.ofString ""))) (aCons (fComp (iOfA asR1 (aCons (fOp opAdd (fC (.int 1)) (fCall m__law_pick (aCons (fVar 0) (aCons (fC (.int 20)) aNil)))) aNil)) [3] b1 tTrue (fCall m__law_one_of (aCons (fVar 0) (aCons (fVar 1) aNil)))) aNil)))
noncomputable abbrev q__law_value_0 : FS := (sIf (fTest (fOp opEq (fCall m__law_pick (aCons (fVar 0) (aCons (fC (.int 24)) aNil))) (fC (.int 0)))) (sSeq q__law_value_0t_0 (sSeq q__law_value_0t_1 q__law_value_0t_2)) sNil)
noncomputable abbrev q__law_value_1 : FS := (sAsg (fMk mkLst (aCons (fC .non) (aCons (fC (.int 0)) (aCons (fC (.int 1)) (aCons (fC (.int 2)) (aCons (fOp subI (fC (.int 0)) (fC (.int 1))) (aCons (fC (.int 1)) (aCons (fC (.int 2)) (aCons (fOp powI (fC (.int 10)) (fC (.int 9))) (aCons (fOp subI (fC (.int 0)) (fOp powI (fC (.int 10)) (fC (.int 9)))) (aCons (fC (.str (Str.ofString ""))) (aCons (fC (.str (Str.ofString "a"))) (aCons (fC (.str (Str.ofString "ab"))) (aCons (fC (.str (Str.ofString "b"))) (aCons (fC (.str (Str.ofString "a b"))) (aCons (fC (.str (Str.ofString "A"))) (aCons (fC (.str (Str.ofString "~"))) (aCons (fOp opMul (fC (.str (Str.ofString "z"))) (fC (.int 20))) aNil)))))))))))))))))) (gN 2))
noncomputable abbrev q__law_value_2 : FS := (sAsg (fOp opAdd (fVar 2) (fMk mkLst (aCons (fOp opMul (fC (.str (Str.ofString "z"))) (fC (.int 19))) (aCons (fC (.str (Str.ofString "customer one"))) (aCons (fC (.str (Str.ofString "customer two"))) (aCons (fC (.str (Str.ofString "1"))) (aCons (fC (.str (Str.ofString "-1"))) (aCons (fC (.int 2)) (aCons (fC (.str (Str.ofString "abc"))) (aCons (fC (.str (Str.ofString "abd"))) aNil)))))))))) (gN 2))
noncomputable abbrev q__law_value_3 : FS := (sRet (fCall m__law_one_of (aCons (fVar 0) (aCons (fVar 2) aNil))))
noncomputable def g__law_value : FS := (sSeq q__law_value_0 (sSeq q__law_value_1 (sSeq q__law_value_2 q__law_value_3)))
noncomputable def m__law_value : FM := mOf N__law_value.length g__law_value
theorem d__law_value (T : Txt K mg) : FnD P w K mg base 3 T.a__law_value T.f__law_value ["tape"] m__law_value := FnD.of T.F__law_value sc__law_value fun cd A outer s H gx => (ds_cons (ds_if (dt_cmp (ok_eq gx) (de_call ((d__law_pick T).up (by decide)) gx (by rfl) T.g__law_pick T.F__law_pick.kp T.b__law_pick (da_cons (de_var 0) (da_cons de_int da_nil)) (hn := (aCons_n (aCons_n aNil_n)))) de_int) (ds_cons (ds_asg de_str (dg_name 1 gx.nd)) (ds_cons (ds_asg (de_callTy (T := "list") (ok_list gx) (by rfl) T.n_list (by decide +kernel) (da_cons (de_op ok_add (de_var 1) de_str) da_nil)) (dg_name 1 gx.nd)) (ds_one (ds_ret (de_mt mt_join joinTy joinOk PySem.F.plainAttrs_str PySem.F.slot_str_join PySem.F.type_str_join de_str (da_cons (de_lc (own := [("turn", 3)]) gx.calm gx.nd (di_range1 (by rfl) T.n_range (da_cons (de_op ok_add de_int (de_call ((d__law_pick T).up (by decide)) gx (by rfl) T.g__law_pick T.F__law_pick.kp T.b__law_pick (da_cons (de_var 0) (da_cons de_int da_nil)) (hn := (aCons_n (aCons_n aNil_n))))) da_nil)) (blkOk_by (N := N__law_value) (sc := defScope s__law_value) (by decide +kernel)) (tg1 3) (fun _ _ _ _ _ => (pg_name (i := 3) gx.nd rfl (.inl rfl))) (fun _ _ _ _ _ => dts_nil) (fun _ _ _ _ _ => (de_call ((d__law_one_of T).up (by decide)) gx.blk (by rfl) T.g__law_one_of T.F__law_one_of.kp T.b__law_one_of (da_cons (de_var 0) (da_cons (de_var 1) da_nil)) (hn := (aCons_n (aCons_n aNil_n)))))) da_nil)))))) ds_nil) (ds_cons (ds_asg (de_lst (da_cons de_non (da_cons de_int (da_cons de_int (da_cons de_int (da_cons (de_op ok_subI de_int de_int) (da_cons de_int (da_cons de_int (da_cons (de_op ok_powI de_int de_int) (da_cons (de_op ok_subI de_int (de_op ok_powI de_int de_int)) (da_cons de_str (da_cons de_str (da_cons de_str (da_cons de_str (da_cons de_str (da_cons de_str (da_cons de_str (da_cons (de_op ok_mul de_str de_int) da_nil)))))))))))))))))) (dg_name 2 gx.nd)) (ds_cons (ds_asg (de_op ok_add (de_var 2) (de_lst (da_cons (de_op ok_mul de_str de_int) (da_cons de_str (da_cons de_str (da_cons de_str (da_cons de_str (da_cons de_int (da_cons de_str (da_cons de_str da_nil)))))))))) (dg_name 2 gx.nd)) (ds_one (ds_ret (de_call ((d__law_one_of T).up (by decide)) gx (by rfl) T.g__law_one_of T.F__law_one_of.kp T.b__law_one_of (da_cons (de_var 0) (da_cons (de_var 2) da_nil)) (hn := (aCons_n (aCons_n aNil_n)))))))))
noncomputable abbrev q__law_values_0 : FS := (sRet (fMk bTuple (aCons (fComp (iOfA asR1 (aCons (fVar 1) aNil)) [2] b1 tTrue (fCall m__law_value (aCons (fVar 0) aNil))) aNil)))
noncomputable def g__law_values : FS := q__law_values_0
noncomputable def m__law_values : FM := mOf N__law_values.length g__law_values
theorem d__law_values (T : Txt K mg) : FnD P w K mg base 4 T.a__law_values T.f__law_values ["tape", "width"] m__law_values := FnD.of T.F__law_values sc__law_values fun cd A outer s H gx => (ds_one (ds_ret (de_callTy (T := "tuple") ok_tuple (by rfl) T.n_tuple (by decide +kernel) (da_cons (de_lc (own := [("column", 2)]) gx.calm gx.nd (di_range1 (by rfl) T.n_range (da_cons (de_var 1) da_nil)) (blkOk_by (N := N__law_values) (sc := defScope s__law_values) (by decide +kernel)) (tg1 2) (fun _ _ _ _ _ => (pg_name (i := 2) gx.nd rfl (.inl rfl))) (fun _ _ _ _ _ => dts_nil) (fun _ _ _ _ _ => (de_call ((d__law_value T).up (by decide)) gx.blk (by rfl) T.g__law_value T.F__law_value.kp T.b__law_value (da_cons (de_var 0) da_nil) (hn := (aCons_n aNil_n))))) da_nil))))
noncomputable abbrev q__law_test_0 : FS := (sPar (par2 2 3) (aCons (fCall m__law_pick (aCons (fVar 0) (aCons (fVar 1) aNil))) (aCons (fCall m__law_pick (aCons (fVar 0) (aCons (fC (.int 6)) aNil))) aNil)))
noncomputable abbrev q__law_test_1t_0 : FS := (sRet (fMk mkTup (aCons (fC (.str (Str.ofString "all"))) aNil)))
noncomputable abbrev q__law_test_1 : FS := (sIf (fTest (fOp opEq (fVar 3) (fC (.int 0)))) q__law_test_1t_0 sNil)
noncomputable abbrev q__law_test_2t_0 : FS := (sRet (fMk mkTup (aCons (fC (.str (Str.ofString "equal"))) (aCons (fVar 2) (aCons (fCall m__law_value (aCons (fVar 0) aNil)) aNil)))))
noncomputable abbrev q__law_test_2 : FS := (sIf (fTest (fOp opEq (fVar 3) (fC (.int 1)))) q__law_test_2t_0 sNil)
noncomputable abbrev q__law_test_3t_0 : FS := (sRet (fMk mkTup (aCons (fC (.str (Str.ofString "less"))) (aCons (fVar 2) (aCons (fCall m__law_value (aCons (fVar 0) aNil)) aNil)))))
noncomputable abbrev q__law_test_3 : FS := (sIf (fTest (fOp opLt (fVar 3) (fC (.int 4)))) q__law_test_3t_0 sNil)
noncomputable abbrev q__law_test_4t_0 : FS := (sRet (fMk mkTup (aCons (fC (.str (Str.ofString "starts"))) (aCons (fVar 2) (aCons (fCall m__law_one_of (aCons (fVar 0) (aCons (fMk mkLst (aCons (fC (.str (Str.ofString "a"))) (aCons (fC (.str (Str.ofString "ab"))) (aCons (fC (.str (Str.ofString "b"))) (aCons (fC (.str (Str.ofString "A"))) (aCons (fC (.str (Str.ofString " "))) (aCons (fC (.str (Str.ofString "1"))) (aCons (fC (.str (Str.ofString "-"))) (aCons (fC (.str (Str.ofString "N"))) (aCons (fC (.str (Str.ofString "customer"))) (aCons (fC (.str (Str.ofString "abc"))) aNil))))))))))) aNil))) aNil)))))
noncomputable abbrev q__law_test_4 : FS := (sIf (fTest (fOp opEq (fVar 3) (fC (.int 4)))) q__law_test_4t_0 sNil)
noncomputable abbrev q__law_test_5 : FS := (sAsg (fOp opAdd (fC (.int 1)) (fCall m__law_one_of (aCons (fVar 0) (aCons (fMk mkLst (aCons (fCall m__law_pick (aCons (fVar 0) (aCons (fC (.int 4)) aNil))) (aCons (fOp opAdd (fC (.int 4)) (fCall m__law_pick (aCons (fVar 0) (aCons (fC (.int 4)) aNil)))) aNil))) aNil)))) (gN 4))
noncomputable abbrev q__law_test_6 : FS := (sRet (fMk mkTup (aCons (fC (.str (Str.ofString "one_of"))) (aCons (fVar 2) (aCons (fMk bTuple (aCons (fComp (iOfA asR1 (aCons (fVar 4) aNil)) [5] b1 tTrue (fCall m__law_value (aCons (fVar 0) aNil))) aNil)) aNil)))))
noncomputable def g__law_test : FS := (sSeq q__law_test_0 (sSeq q__law_test_1 (sSeq q__law_test_2 (sSeq q__law_test_3 (sSeq q__law_test_4 (sSeq q__law_test_5 q__law_test_6))))))
noncomputable def m__law_test : FM := mOf N__law_test.length g__law_test
theorem d__law_test (T : Txt K mg) : FnD P w K mg base 4 T.a__law_test T.f__law_test ["tape", "width"] m__law_test := FnD.of T.F__law_test sc__law_test fun cd A outer s H gx => (ds_cons (ds_par2 2 3 gx rfl rfl (by decide) rfl rfl (da_cons (de_call ((d__law_pick T).up (by decide)) gx (by rfl) T.g__law_pick T.F__law_pick.kp T.b__law_pick (da_cons (de_var 0) (da_cons (de_var 1) da_nil)) (hn := (aCons_n (aCons_n aNil_n)))) (da_cons (de_call ((d__law_pick T).up (by decide)) gx (by rfl) T.g__law_pick T.F__law_pick.kp T.b__law_pick (da_cons (de_var 0) (da_cons de_int da_nil)) (hn := (aCons_n (aCons_n aNil_n)))) da_nil))) (ds_cons (ds_if (dt_cmp (ok_eq gx) (de_var 3) de_int) (ds_one (ds_ret (de_tup (da_cons de_str da_nil)))) ds_nil) (ds_cons (ds_if (dt_cmp (ok_eq gx) (de_var 3) de_int) (ds_one (ds_ret (de_tup (da_cons de_str (da_cons (de_var 2) (da_cons (de_call ((d__law_value T).up (by decide)) gx (by rfl) T.g__law_value T.F__law_value.kp T.b__law_value (da_cons (de_var 0) da_nil) (hn := (aCons_n aNil_n))) da_nil)))))) ds_nil) (ds_cons (ds_if (dt_cmp ok_lt (de_var 3) de_int) (ds_one (ds_ret (de_tup (da_cons de_str (da_cons (de_var 2) (da_cons (de_call ((d__law_value T).up (by decide)) gx (by rfl) T.g__law_value T.F__law_value.kp T.b__law_value (da_cons (de_var 0) da_nil) (hn := (aCons_n aNil_n))) da_nil)))))) ds_nil) (ds_cons (ds_if (dt_cmp (ok_eq gx) (de_var 3) de_int) (ds_one (ds_ret (de_tup (da_cons de_str (da_cons (de_var 2) (da_cons (de_call ((d__law_one_of T).up (by decide)) gx (by rfl) T.g__law_one_of T.F__law_one_of.kp T.b__law_one_of (da_cons (de_var 0) (da_cons (de_lst (da_cons de_str (da_cons de_str (da_cons de_str (da_cons de_str (da_cons de_str (da_cons de_str (da_cons de_str (da_cons de_str (da_cons de_str (da_cons de_str da_nil))))))))))) da_nil)) (hn := (aCons_n (aCons_n aNil_n)))) da_nil)))))) ds_nil) (ds_cons (ds_asg (de_op ok_add de_int (de_call ((d__law_one_of T).up (by decide)) gx (by rfl) T.g__law_one_of T.F__law_one_of.kp T.b__law_one_of (da_cons (de_var 0) (da_cons (de_lst (da_cons (de_call ((d__law_pick T).up (by decide)) gx (by rfl) T.g__law_pick T.F__law_pick.kp T.b__law_pick (da_cons (de_var 0) (da_cons de_int da_nil)) (hn := (aCons_n (aCons_n aNil_n)))) (da_cons (de_op ok_add de_int (de_call ((d__law_pick T).up (by decide)) gx (by rfl) T.g__law_pick T.F__law_pick.kp T.b__law_pick (da_cons (de_var 0) (da_cons de_int da_nil)) (hn := (aCons_n (aCons_n aNil_n))))) da_nil))) da_nil)) (hn := (aCons_n (aCons_n aNil_n))))) (dg_name 4 gx.nd)) (ds_one (ds_ret (de_tup (da_cons de_str (da_cons (de_var 2) (da_cons (de_callTy (T := "tuple") ok_tuple (by rfl) T.n_tuple (by decide +kernel) (da_cons (de_lc (own := [("turn", 5)]) gx.calm gx.nd (di_range1 (by rfl) T.n_range (da_cons (de_var 4) da_nil)) (blkOk_by (N := N__law_test) (sc := defScope s__law_test) (by decide +kernel)) (tg1 5) (fun _ _ _ _ _ => (pg_name (i := 5) gx.nd rfl (.inl rfl))) (fun _ _ _ _ _ => dts_nil) (fun _ _ _ _ _ => (de_call ((d__law_value T).up (by decide)) gx.blk (by rfl) T.g__law_value T.F__law_value.kp T.b__law_value (da_cons (de_var 0) da_nil) (hn := (aCons_n aNil_n))))) da_nil)) da_nil))))))))))))
noncomputable def g__law_condition (rec_ : FM) : FS := (sSeq (sAsg (fCall m__law_pick (aCons (fVar 0) (aCons (fC (.int 6)) aNil))) (gN 3)) (sSeq (sIf (fOrT (fTest (fOp opEq (fVar 2) (fC (.int 0)))) (fTest (fOp opLt (fVar 3) (fC (.int 2))))) (sRet (fCall m__law_test (aCons (fVar 0) (aCons (fVar 1) aNil)))) sNil) (sSeq (sIf (fTest (fOp opEq (fVar 3) (fC (.int 2)))) (sRet (fMk mkTup (aCons (fC (.str (Str.ofString "not"))) (aCons (fCall rec_ (aCons (fVar 0) (aCons (fVar 1) (aCons (fOp subI (fVar 2) (fC (.int 1))) aNil)))) aNil)))) sNil) (sSeq (sAsg (fMk mkTup (aCons (fCall rec_ (aCons (fVar 0) (aCons (fVar 1) (aCons (fOp subI (fVar 2) (fC (.int 1))) aNil)))) (aCons (fCall rec_ (aCons (fVar 0) (aCons (fVar 1) (aCons (fOp subI (fVar 2) (fC (.int 1))) aNil)))) aNil))) (gN 4)) (sRet (fOp opAdd (fMk mkTup (aCons (fCall m__law_one_of (aCons (fVar 0) (aCons (fMk mkLst (aCons (fC (.str (Str.ofString "and"))) (aCons (fC (.str (Str.ofString "or"))) aNil))) aNil))) aNil)) (fVar 4)))))))
noncomputable def m__law_condition : Nat → FM
  | 0 => fun _ _ => none
  | n + 1 => mOf N__law_condition.length (g__law_condition (m__law_condition n))
theorem d__law_condition (T : Txt K mg) : ∀ n : Nat, FnD P w K mg base (4 + n) T.a__law_condition T.f__law_condition ["tape", "width", "depth"] (m__law_condition n)
  | 0 => FnD.nil
  | n + 1 => by
    have ih : FnD P w K mg base (4 + n) T.a__law_condition T.f__law_condition ["tape", "width", "depth"] (m__law_condition n) := d__law_condition T n
    exact FnD.of (k := 4 + n) T.F__law_condition sc__law_condition fun cd A outer s H gx => (ds_cons (ds_asg (de_call ((d__law_pick T).up (by omega)) gx (by rfl) T.g__law_pick T.F__law_pick.kp T.b__law_pick (da_cons (de_var 0) (da_cons de_int da_nil)) (hn := (aCons_n (aCons_n aNil_n)))) (dg_name 3 gx.nd)) (ds_cons (ds_if (dt_w (dw_or (dt_cmp (ok_eq gx) (de_var 2) de_int) (dw_or1 (dt_cmp ok_lt (de_var 3) de_int)))) (ds_one (ds_ret (de_call ((d__law_test T).up (by omega)) gx (by rfl) T.g__law_test T.F__law_test.kp T.b__law_test (da_cons (de_var 0) (da_cons (de_var 1) da_nil)) (hn := (aCons_n (aCons_n aNil_n)))))) ds_nil) (ds_cons (ds_if (dt_cmp (ok_eq gx) (de_var 3) de_int) (ds_one (ds_ret (de_tup (da_cons de_str (da_cons (de_call ih gx (by rfl) T.g__law_condition T.F__law_condition.kp T.b__law_condition (da_cons (de_var 0) (da_cons (de_var 1) (da_cons (de_op ok_subI (de_var 2) de_int) da_nil))) (hn := (aCons_n (aCons_n (aCons_n aNil_n))))) da_nil))))) ds_nil) (ds_cons (ds_asg (de_tup (da_cons (de_call ih gx (by rfl) T.g__law_condition T.F__law_condition.kp T.b__law_condition (da_cons (de_var 0) (da_cons (de_var 1) (da_cons (de_op ok_subI (de_var 2) de_int) da_nil))) (hn := (aCons_n (aCons_n (aCons_n aNil_n))))) (da_cons (de_call ih gx (by rfl) T.g__law_condition T.F__law_condition.kp T.b__law_condition (da_cons (de_var 0) (da_cons (de_var 1) (da_cons (de_op ok_subI (de_var 2) de_int) da_nil))) (hn := (aCons_n (aCons_n (aCons_n aNil_n))))) da_nil))) (dg_name 4 gx.nd)) (ds_one (ds_ret (de_op ok_add (de_tup (da_cons (de_call ((d__law_one_of T).up (by omega)) gx (by rfl) T.g__law_one_of T.F__law_one_of.kp T.b__law_one_of (da_cons (de_var 0) (da_cons (de_lst (da_cons de_str (da_cons de_str da_nil))) da_nil)) (hn := (aCons_n (aCons_n aNil_n)))) da_nil)) (de_var 4))))))))
noncomputable abbrev q__law_view_0 : FS := (sAsg (fMk mkTup (aCons (fC (.str (Str.ofString "all"))) aNil)) (gN 2))
noncomputable abbrev q__law_view_1t_0 : FS := (sAsg (fCall (m__law_condition 5) (aCons (fVar 0) (aCons (fVar 1) (aCons (fC (.int 2)) aNil)))) (gN 2))
noncomputable abbrev q__law_view_1 : FS := (sIf (fTest (fOp opEq (fCall m__law_pick (aCons (fVar 0) (aCons (fC (.int 2)) aNil))) (fC (.int 0)))) q__law_view_1t_0 sNil)
noncomputable abbrev q__law_view_2 : FS := (sAsg (fNewL aNil) (gN 3))
noncomputable abbrev q__law_view_3l_0 : FS := (sAsg (fCall m__law_pick (aCons (fVar 0) (aCons (fVar 1) aNil))) (gN 5))
noncomputable abbrev q__law_view_3l_1t_0 : FS := (sDrop (fApp (fVar 3) (fMk mkTup (aCons (fVar 5) (aCons (fOp opEq (fCall m__law_pick (aCons (fVar 0) (aCons (fC (.int 2)) aNil))) (fC (.int 0))) aNil)))))
noncomputable abbrev q__law_view_3l_1 : FS := (sIf (fAndT (fTest (fOp opLt (fMk bLen (aCons (fVar 3) aNil)) (fC (.int 4)))) (fTest (fOp (inSeq true) (fVar 5) (fCompG (iRefL (fVar 3)) [7] b1 tTrue (fSub (fVar 7) (fC (.int 0))))))) q__law_view_3l_1t_0 sNil)
noncomputable abbrev q__law_view_3 : FS := (sFor (iOfA asR1 (aCons (fCall m__law_pick (aCons (fVar 0) (aCons (fC (.int 7)) aNil))) aNil)) (gN 4) (sSeq q__law_view_3l_0 q__law_view_3l_1))
noncomputable abbrev q__law_view_4 : FS := (sAsg (fMk bTuple (aCons (fComp (iOfA asR1 (aCons (fVar 1) aNil)) [5] b1 (fTest (fOp opGt (fCall m__law_pick (aCons (fVar 0) (aCons (fC (.int 3)) aNil))) (fC (.int 0)))) (fVar 5)) aNil)) (gN 6))
noncomputable abbrev q__law_view_5 : FS := (sRet (fMk mkTup (aCons (fVar 2) (aCons (fMk bTuple (aCons (fVar 3) aNil)) (aCons (fVar 6) aNil)))))
noncomputable def g__law_view : FS := (sSeq q__law_view_0 (sSeq q__law_view_1 (sSeq q__law_view_2 (sSeq q__law_view_3 (sSeq q__law_view_4 q__law_view_5)))))
noncomputable def m__law_view : FM := mOf N__law_view.length g__law_view
theorem d__law_view (T : Txt K mg) : FnD P w K mg base 10 T.a__law_view T.f__law_view ["tape", "width"] m__law_view := FnD.of T.F__law_view sc__law_view fun cd A outer s H gx => (ds_cons (ds_asg (de_tup (da_cons de_str da_nil)) (dg_name 2 gx.nd)) (ds_cons (ds_if (dt_cmp (ok_eq gx) (de_call ((d__law_pick T).up (by decide)) gx (by rfl) T.g__law_pick T.F__law_pick.kp T.b__law_pick (da_cons (de_var 0) (da_cons de_int da_nil)) (hn := (aCons_n (aCons_n aNil_n)))) de_int) (ds_one (ds_asg (de_call ((d__law_condition T 5).up (by decide)) gx (by rfl) T.g__law_condition T.F__law_condition.kp T.b__law_condition (da_cons (de_var 0) (da_cons (de_var 1) (da_cons de_int da_nil))) (hn := (aCons_n (aCons_n (aCons_n aNil_n))))) (dg_name 2 gx.nd))) ds_nil) (ds_cons (ds_asg (de_newL da_nil) (dg_name 3 gx.nd)) (ds_cons (ds_forR PassesOwn.never gx.calm (di_range1 (by rfl) T.n_range (da_cons (de_call ((d__law_pick T).up (by decide)) gx (by rfl) T.g__law_pick T.F__law_pick.kp T.b__law_pick (da_cons (de_var 0) (da_cons de_int da_nil)) (hn := (aCons_n (aCons_n aNil_n)))) da_nil)) (dg_name 4 gx.nd) (ds_cons (ds_asg (de_call ((d__law_pick T).up (by decide)) gx (by rfl) T.g__law_pick T.F__law_pick.kp T.b__law_pick (da_cons (de_var 0) (da_cons (de_var 1) da_nil)) (hn := (aCons_n (aCons_n aNil_n)))) (dg_name 5 gx.nd)) (ds_one (ds_if (dt_w (dw_and (dt_cmp ok_lt (de_callB (id := "len") ok_len (by rfl) T.n_len (by decide +kernel) (da_cons (de_var 3) da_nil)) de_int) (dw_and1 (dt_cmp ok_notin (de_var 5) (de_lcG (own := [("pair", 7)]) gx.calm gx.nd (di_refL (de_var 3)) (blkOk_by (N := N__law_view) (sc := defScope s__law_view) (by decide +kernel)) (tg1 7) (fun _ _ _ _ _ => (pg_name (i := 7) gx.nd rfl (.inl rfl))) (fun _ _ _ _ _ => dts_nil) (fun _ _ _ _ _ => (de_sub gx.blk (de_var 7) de_int))))))) (ds_one (ds_expr (de_append (de_var 3) (de_tup (da_cons (de_var 5) (da_cons (de_cmp (ok_eq gx) (de_call ((d__law_pick T).up (by decide)) gx (by rfl) T.g__law_pick T.F__law_pick.kp T.b__law_pick (da_cons (de_var 0) (da_cons de_int da_nil)) (hn := (aCons_n (aCons_n aNil_n)))) de_int) da_nil)))))) ds_nil)))) (ds_cons (ds_asg (de_callTy (T := "tuple") ok_tuple (by rfl) T.n_tuple (by decide +kernel) (da_cons (de_lc (own := [("column", 5)]) gx.calm gx.nd (di_range1 (by rfl) T.n_range (da_cons (de_var 1) da_nil)) (blkOk_by (N := N__law_view) (sc := defScope s__law_view) (by decide +kernel)) (tg1 5) (fun _ _ _ _ _ => (pg_name (i := 5) gx.nd rfl (.inl rfl))) (fun _ _ _ _ _ => (dts_one (dt_cmp ok_gt (de_call ((d__law_pick T).up (by decide)) gx.blk (by rfl) T.g__law_pick T.F__law_pick.kp T.b__law_pick (da_cons (de_var 0) (da_cons de_int da_nil)) (hn := (aCons_n (aCons_n aNil_n)))) de_int))) (fun _ _ _ _ _ => (de_var 5))) da_nil)) (dg_name 6 gx.nd)) (ds_one (ds_ret (de_tup (da_cons (de_var 2) (da_cons (de_callTy (T := "tuple") ok_tuple (by rfl) T.n_tuple (by decide +kernel) (da_cons (de_var 3) da_nil)) (da_cons (de_var 6) da_nil)))))))))))
noncomputable abbrev q__law_key_0 : FS := (sRet (fOp opAdd (fMk bTuple (aCons (fComp (iOf asT (fSub (fVar 0) (fC (.int 1)))) [3, 4] (bTup 2 (bCons b1 (bCons b1 bNil))) tTrue (fSub (fVar 2) (fVar 3))) aNil)) (fMk mkTup (aCons (fVar 1) aNil))))
noncomputable def g__law_key : FS := q__law_key_0
noncomputable def m__law_key : FM := mOf N__law_key.length g__law_key
theorem d__law_key (T : Txt K mg) : FnD P w K mg base 1 T.a__law_key T.f__law_key ["view", "number", "values"] m__law_key := FnD.of T.F__law_key sc__law_key fun cd A outer s H gx => (ds_one (ds_ret (de_op ok_add (de_callTy (T := "tuple") ok_tuple (by rfl) T.n_tuple (by decide +kernel) (da_cons (de_lc (own := [("column", 3), ("falling", 4)]) gx.calm gx.nd (di_tup (de_sub gx (de_var 0) de_int)) (blkOk_by (N := N__law_key) (sc := defScope s__law_key) (by decide +kernel)) (tg_tupR (n := 2) (tgs_cons (tg1 3) b1_n (tgs_cons (tg1 4) b1_n tgs_nil))) (fun _ _ _ _ _ => (pg_tup (n := 2) gx.calm (pgs_cons (pg_name (i := 3) gx.nd rfl (.inl rfl)) (pgs_cons (pg_name (i := 4) gx.nd rfl (.inl rfl)) pgs_nil)))) (fun _ _ _ _ _ => dts_nil) (fun _ _ _ _ _ => (de_sub gx.blk (de_var 2) (de_var 3)))) da_nil)) (de_tup (da_cons (de_var 1) da_nil)))))
noncomputable abbrev q__law_row_0t_0 : FS := (sRet (fC .non))
noncomputable abbrev q__law_row_0 : FS := (sIf (fTest (fOp opEq (fCall m__law_pick (aCons (fVar 0) (aCons (fC (.int 3)) aNil))) (fC (.int 0)))) q__law_row_0t_0 sNil)
noncomputable abbrev q__law_row_1 : FS := (sAsg (fCall m__law_values (aCons (fVar 0) (aCons (fVar 3) aNil))) (gN 4))
noncomputable abbrev q__law_row_2 : FS := (sRet (fMk mkTup (aCons (fCall m__law_key (aCons (fVar 1) (aCons (fVar 2) (aCons (fVar 4) aNil)))) (aCons (fMk bTuple (aCons (fComp (iOf asT (fSub (fVar 1) (fC (.int 2)))) [5] b1 tTrue (fSub (fVar 4) (fVar 5))) aNil)) aNil))))
noncomputable def g__law_row : FS := (sSeq q__law_row_0 (sSeq q__law_row_1 q__law_row_2))
noncomputable def m__law_row : FM := mOf N__law_row.length g__law_row
theorem d__law_row (T : Txt K mg) : FnD P w K mg base 5 T.a__law_row T.f__law_row ["tape", "view", "row_id", "width"] m__law_row := FnD.of T.F__law_row sc__law_row fun cd A outer s H gx => (ds_cons (ds_if (dt_cmp (ok_eq gx) (de_call ((d__law_pick T).up (by decide)) gx (by rfl) T.g__law_pick T.F__law_pick.kp T.b__law_pick (da_cons (de_var 0) (da_cons de_int da_nil)) (hn := (aCons_n (aCons_n aNil_n)))) de_int) (ds_one (ds_ret de_non)) ds_nil) (ds_cons (ds_asg (de_call ((d__law_values T).up (by decide)) gx (by rfl) T.g__law_values T.F__law_values.kp T.b__law_values (da_cons (de_var 0) (da_cons (de_var 3) da_nil)) (hn := (aCons_n (aCons_n aNil_n)))) (dg_name 4 gx.nd)) (ds_one (ds_ret (de_tup (da_cons (de_call ((d__law_key T).up (by decide)) gx (by rfl) T.g__law_key T.F__law_key.kp T.b__law_key (da_cons (de_var 1) (da_cons (de_var 2) (da_cons (de_var 4) da_nil))) (hn := (aCons_n (aCons_n (aCons_n aNil_n))))) (da_cons (de_callTy (T := "tuple") ok_tuple (by rfl) T.n_tuple (by decide +kernel) (da_cons (de_lc (own := [("column", 5)]) gx.calm gx.nd (di_tup (de_sub gx (de_var 1) de_int)) (blkOk_by (N := N__law_row) (sc := defScope s__law_row) (by decide +kernel)) (tg1 5) (fun _ _ _ _ _ => (pg_name (i := 5) gx.nd rfl (.inl rfl))) (fun _ _ _ _ _ => dts_nil) (fun _ _ _ _ _ => (de_sub gx.blk (de_var 4) (de_var 5)))) da_nil)) da_nil)))))))
noncomputable abbrev q__law_set_0 : FS := (sAsg fNewD (gN 4))
noncomputable abbrev q__law_set_1l_0 : FS := (sAsg (fCall m__law_row (aCons (fVar 0) (aCons (fVar 1) (aCons (fVar 5) (aCons (fVar 2) aNil))))) (gN 6))
noncomputable abbrev q__law_set_1l_1t_0 : FS := (sAsg (fSub (fVar 3) (fVar 5)) (gN 6))
noncomputable abbrev q__law_set_1l_1 : FS := (sIf (fAndT (fTest (fInD false (fVar 5) (fVar 3))) (fTest (fOp opGt (fCall m__law_pick (aCons (fVar 0) (aCons (fC (.int 6)) aNil))) (fC (.int 0))))) q__law_set_1l_1t_0 sNil)
noncomputable abbrev q__law_set_1l_2 : FS := (sAsg (fCall m__law_row (aCons (fVar 0) (aCons (fVar 1) (aCons (fVar 5) (aCons (fVar 2) aNil))))) (gN 7))
noncomputable abbrev q__law_set_1l_3t_0 : FS := (sPut (fVar 4) (fVar 5) (fMk mkTup (aCons (fVar 6) (aCons (fVar 7) aNil))))
noncomputable abbrev q__law_set_1l_3 : FS := (sIf (fAndT (fTest (fOp opNe (fVar 6) (fVar 7))) (fTest (fOp opGt (fCall m__law_pick (aCons (fVar 0) (aCons (fC (.int 3)) aNil))) (fC (.int 0))))) q__law_set_1l_3t_0 sNil)
noncomputable abbrev q__law_set_1 : FS := (sFor (iOfA asR2 (aCons (fC (.int 1)) (aCons (fC (.int 8)) aNil))) (gN 5) (sSeq q__law_set_1l_0 (sSeq q__law_set_1l_1 (sSeq q__law_set_1l_2 q__law_set_1l_3))))
noncomputable abbrev q__law_set_2 : FS := (sRet (fVar 4))
noncomputable def g__law_set : FS := (sSeq q__law_set_0 (sSeq q__law_set_1 q__law_set_2))
noncomputable def m__law_set : FM := mOf N__law_set.length g__law_set
theorem d__law_set (T : Txt K mg) : FnD P w K mg base 6 T.a__law_set T.f__law_set ["tape", "view", "width", "firsts"] m__law_set := FnD.of T.F__law_set sc__law_set fun cd A outer s H gx => (ds_cons (ds_asg de_newD (dg_name 4 gx.nd)) (ds_cons (ds_forR PassesOwn.never gx.calm (di_range2 (by rfl) T.n_range (da_cons de_int (da_cons de_int da_nil))) (dg_name 5 gx.nd) (ds_cons (ds_asg (de_call ((d__law_row T).up (by decide)) gx (by rfl) T.g__law_row T.F__law_row.kp T.b__law_row (da_cons (de_var 0) (da_cons (de_var 1) (da_cons (de_var 5) (da_cons (de_var 2) da_nil)))) (hn := (aCons_n (aCons_n (aCons_n (aCons_n aNil_n)))))) (dg_name 6 gx.nd)) (ds_cons (ds_if (dt_w (dw_and (dt_inD gx (de_var 5) (de_var 3)) (dw_and1 (dt_cmp ok_gt (de_call ((d__law_pick T).up (by decide)) gx (by rfl) T.g__law_pick T.F__law_pick.kp T.b__law_pick (da_cons (de_var 0) (da_cons de_int da_nil)) (hn := (aCons_n (aCons_n aNil_n)))) de_int)))) (ds_one (ds_asg (de_sub gx (de_var 3) (de_var 5)) (dg_name 6 gx.nd))) ds_nil) (ds_cons (ds_asg (de_call ((d__law_row T).up (by decide)) gx (by rfl) T.g__law_row T.F__law_row.kp T.b__law_row (da_cons (de_var 0) (da_cons (de_var 1) (da_cons (de_var 5) (da_cons (de_var 2) da_nil)))) (hn := (aCons_n (aCons_n (aCons_n (aCons_n aNil_n)))))) (dg_name 7 gx.nd)) (ds_one (ds_if (dt_w (dw_and (dt_cmp (ok_ne gx) (de_var 6) (de_var 7)) (dw_and1 (dt_cmp ok_gt (de_call ((d__law_pick T).up (by decide)) gx (by rfl) T.g__law_pick T.F__law_pick.kp T.b__law_pick (da_cons (de_var 0) (da_cons de_int da_nil)) (hn := (aCons_n (aCons_n aNil_n)))) de_int)))) (ds_one (ds_put gx (de_var 4) (de_var 5) (de_tup (da_cons (de_var 6) (da_cons (de_var 7) da_nil))))) ds_nil)))))) (ds_one (ds_ret (de_var 4)))))
noncomputable abbrev q__law_same_0 : FS := (sRet (fAnd (fIsi "dict" (fVar 0)) (fOp opEqS (fMk bReprA (aCons (fSortI (fVar 0)) aNil)) (fMk bReprA (aCons (fSortI (fVar 1)) aNil)))))
noncomputable def g__law_same : FS := q__law_same_0
noncomputable def m__law_same : FM := mOf N__law_same.length g__law_same
theorem d__law_same (T : Txt K mg) : FnD P w K mg base 1 T.a__law_same T.f__law_same ["found", "expected"] m__law_same := FnD.of T.F__law_same sc__law_same fun cd A outer s H gx => (ds_one (ds_ret (de_and (de_isi (T := "dict") (de_var 0) (by decide) (by rfl) T.n_isinstance (by rfl) T.n_dict (by decide +kernel)) (de_one (de_cmp ok_eqS (de_callB (id := "repr") (ok_reprA gx) (by rfl) T.n_repr (by decide +kernel) (da_cons (de_sortI gx (de_var 0) (by rfl) T.n_sorted) da_nil)) (de_callB (id := "repr") (ok_reprA gx) (by rfl) T.n_repr (by decide +kernel) (da_cons (de_sortI gx (de_var 1) (by rfl) T.n_sorted) da_nil)))))))
noncomputable abbrev q__law_applied_0 : FS := (sAsg (fDictC (fVar 0)) (gN 2))
noncomputable abbrev q__law_applied_1l_0t_0 : FS := (sRet (fVar 3))
noncomputable abbrev q__law_applied_1l_0 : FS := (sIf (fTest (fOp opNe (fGet1 (fVar 0) (fVar 3)) (fSub (fSub (fVar 1) (fVar 3)) (fC (.int 0))))) q__law_applied_1l_0t_0 sNil)
noncomputable abbrev q__law_applied_1l_1 : FS := (sDrop (fPop2 (fVar 2) (fVar 3) (fC .non)))
noncomputable abbrev q__law_applied_1l_2t_0 : FS := (sPut (fVar 2) (fVar 3) (fSub (fSub (fVar 1) (fVar 3)) (fC (.int 1))))
noncomputable abbrev q__law_applied_1l_2 : FS := (sIf (fTest (fOp opIsnt (fSub (fSub (fVar 1) (fVar 3)) (fC (.int 1))) (fC .non))) q__law_applied_1l_2t_0 sNil)
noncomputable abbrev q__law_applied_1 : FS := (sFor (iOf asL (fSortKs (fVar 1))) (gN 3) (sSeq q__law_applied_1l_0 (sSeq q__law_applied_1l_1 q__law_applied_1l_2)))
noncomputable abbrev q__law_applied_2 : FS := (sRet (fVar 2))
noncomputable def g__law_applied : FS := (sSeq q__law_applied_0 (sSeq q__law_applied_1 q__law_applied_2))
noncomputable def m__law_applied : FM := mOf N__law_applied.length g__law_applied
theorem d__law_applied (T : Txt K mg) : FnD P w K mg base 1 T.a__law_applied T.f__law_applied ["rows", "changes"] m__law_applied := FnD.of T.F__law_applied sc__law_applied fun cd A outer s H gx => (ds_cons (ds_asg (de_dictC (de_var 0) (by rfl) T.n_dict) (dg_name 2 gx.nd)) (ds_cons (ds_forR PassesOwn.never gx.calm (di_lst (de_sortKs gx (de_var 1) (by rfl) T.n_sorted)) (dg_name 3 gx.nd) (ds_cons (ds_if (dt_cmp (ok_ne gx) (de_get1 gx (de_var 0) (de_var 3) ⟨rfl, rfl, rfl, rfl⟩) (de_sub gx (de_sub gx (de_var 1) (de_var 3)) de_int)) (ds_one (ds_ret (de_var 3))) ds_nil) (ds_cons (ds_expr (de_pop2 (de_var 2) (de_var 3) de_non ⟨rfl, rfl, rfl, rfl⟩)) (ds_one (ds_if (dt_cmp ok_isnt (de_sub gx (de_sub gx (de_var 1) (de_var 3)) de_int) de_non) (ds_one (ds_put gx (de_var 2) (de_var 3) (de_sub gx (de_sub gx (de_var 1) (de_var 3)) de_int))) ds_nil))))) (ds_one (ds_ret (de_var 2)))))
noncomputable abbrev qx_apply_changes_0 : FS := (sLock (whichR (fVar 0)) (sAsg (fDComp (iFrz kKeys (fVar 0)) [3] b1 tTrue (fVar 3) (fSub (fVar 0) (fVar 3))) (gN 2)))
noncomputable abbrev qx_apply_changes_1l_0 : FS := (sAsg (fSub (fVar 1) (fVar 3)) (gT 2 (gCons' (gN 4) (gCons' (gN 5) gNil'))))
noncomputable abbrev qx_apply_changes_1l_1t_0 : FS := (sRaise "Mismatch" "row_id" (aCons (fVar 3) aNil))
noncomputable abbrev qx_apply_changes_1l_1 : FS := (sIf (fTest (fOp opNe (fGet1 (fVar 0) (fVar 3)) (fVar 4))) qx_apply_changes_1l_1t_0 sNil)
noncomputable abbrev qx_apply_changes_1l_2 : FS := (sDrop (fCall m_set_row (aCons (fVar 2) (aCons (fVar 3) (aCons (fVar 5) aNil)))))
noncomputable abbrev qx_apply_changes_1 : FS := (sFor (iOf asL (fSortKs (fVar 1))) (gN 3) (sSeq qx_apply_changes_1l_0 (sSeq qx_apply_changes_1l_1 qx_apply_changes_1l_2)))
noncomputable abbrev qx_apply_changes_2 : FS := (sRet (fVar 2))
noncomputable def gx_apply_changes : FS := (sSeq qx_apply_changes_0 (sSeq qx_apply_changes_1 qx_apply_changes_2))
noncomputable def mx_apply_changes : FMX := mOfX N_apply_changes.length gx_apply_changes
theorem dx_apply_changes (T : Txt K mg) : FnX P w K mg base 3 T.a_apply_changes T.f_apply_changes ["rows", "changes"] mx_apply_changes := FnX.of T.F_apply_changes sc_apply_changes fun cd A outer s H E gx => (ds_cons (ds_lock (whichR (fVar 0)) (ds_setDc (own := [("row_id", 3)]) (i := 2) gx.calm gx.nd rfl rfl (sw_trueD rfl rfl rfl (by decide +kernel)) (di_keysF (de_var 0)) (blkOk_by (N := N_apply_changes) (sc := defScope s_apply_changes) (by decide +kernel)) (tg1 3) (fun _ _ _ _ _ => (pg_name (i := 3) gx.nd rfl (.inl rfl))) (fun _ _ _ _ _ => dts_nil) (fun _ _ _ _ _ => (de_var 3)) (fun _ _ _ _ _ => (de_sub gx.blk (de_var 0) (de_var 3))))) (ds_cons (ds_forR (passes_of rfl) gx.calm (di_lst (de_sortKs gx (de_var 1) (by rfl) T.n_sorted)) (dg_name 3 gx.nd) (ds_cons (ds_asg (de_sub gx (de_var 1) (de_var 3)) (dg_tup gx.calm (dgs_cons (dg_name 4 gx.nd) (dgs_cons (dg_name 5 gx.nd) dgs_nil)))) (ds_cons (ds_if (dt_cmp (ok_ne gx) (de_get1 gx (de_var 0) (de_var 3) ⟨rfl, rfl, rfl, rfl⟩) (de_var 4)) (ds_one (ds_raise gx.calm T.E_Mismatch T.ge_Mismatch gx (takes_of rfl rfl rfl rfl) (da_cons (de_var 3) da_nil))) ds_nil) (ds_one (ds_expr (de_call ((d_set_row T).up (by decide)) gx (by rfl) T.g_set_row T.F_set_row.kp T.b_set_row (da_cons (de_var 2) (da_cons (de_var 3) (da_cons (de_var 5) da_nil))) (hn := (aCons_n (aCons_n (aCons_n aNil_n)))))))))) (ds_one (ds_ret (de_var 2)))))
noncomputable abbrev q__law_told_0 : FS := (sAsg (fC .non) (gN 2))
noncomputable abbrev q__law_told_1y_0 : FS := (sAsgX (fCallX mx_apply_changes (aCons (fVar 0) (aCons (fVar 1) aNil))) (gN 2))
noncomputable abbrev q__law_told_1 : FS := (sTry q__law_told_1y_0 "Mismatch" "row_id" 3 (hAsg 2))
noncomputable abbrev q__law_told_2 : FS := (sRet (fVar 2))
noncomputable def g__law_told : FS := (sSeq q__law_told_0 (sSeq q__law_told_1 q__law_told_2))
noncomputable def m__law_told : FM := mOf N__law_told.length g__law_told
theorem d__law_told (T : Txt K mg) : FnD P w K mg base 4 T.a__law_told T.f__law_told ["rows", "changes"] m__law_told := FnD.of T.F__law_told sc__law_told fun cd A outer s H gx => (ds_cons (ds_asg de_non (dg_name 2 gx.nd)) (ds_cons (ds_try (i := 3) T.E_Mismatch T.ge_Mismatch rfl rfl gx.nd rfl rfl (by rfl) (by decide) takes0 (fun W pn xe tk po => (ds_one (ds_asgX (dx_call ((dx_apply_changes T).up (by decide)) (gxTr gx pn xe) tk (by rfl) T.g_apply_changes T.F_apply_changes.kp T.b_apply_changes (da_cons (de_var 0) (da_cons (de_var 1) da_nil)) (hn := (aCons_n (aCons_n aNil_n)))) (dg_name 2 (gxTr gx pn xe).nd)))) (hs_asg T.E_Mismatch gx.nd rfl (by first | exact Or.inl rfl | exact Or.inr (Or.inl rfl) | exact Or.inr (Or.inr rfl)) (j := 2) rfl (by first | exact Or.inl rfl | exact Or.inr rfl) rfl (by decide) (by decide))) (ds_one (ds_ret (de_var 2)))))
noncomputable abbrev q__law_other_right_0 : FS := (sAsg (fDictC (fVar 3)) (gN 5))
noncomputable abbrev q__law_other_right_1l_0 : FS := (sAsg (fOp opAdd (fC (.int 1)) (fCall m__law_pick (aCons (fVar 0) (aCons (fC (.int 9)) aNil)))) (gN 7))
noncomputable abbrev q__law_other_right_1l_1 : FS := (sAsg (fCall m__law_row (aCons (fVar 0) (aCons (fVar 1) (aCons (fVar 7) (aCons (fVar 2) aNil))))) (gN 8))
noncomputable abbrev q__law_other_right_1l_2 : FS := (sDrop (fPop2 (fVar 5) (fVar 7) (fC .non)))
noncomputable abbrev q__law_other_right_1l_3t_0 : FS := (sPut (fVar 5) (fVar 7) (fVar 8))
noncomputable abbrev q__law_other_right_1l_3 : FS := (sIf (fTest (fOp opIsnt (fVar 8) (fC .non))) q__law_other_right_1l_3t_0 sNil)
noncomputable abbrev q__law_other_right_1 : FS := (sFor (iOfA asR1 (aCons (fOp opAdd (fC (.int 1)) (fCall m__law_pick (aCons (fVar 0) (aCons (fC (.int 3)) aNil)))) aNil)) (gN 6) (sSeq q__law_other_right_1l_0 (sSeq q__law_other_right_1l_1 (sSeq q__law_other_right_1l_2 q__law_other_right_1l_3))))
noncomputable abbrev q__law_other_right_2 : FS := (sPar (par2 9 10) (aCons (fCall m__law_applied (aCons (fVar 5) (aCons (fVar 4) aNil))) (aCons (fCall m__law_told (aCons (fVar 5) (aCons (fVar 4) aNil))) aNil)))
noncomputable abbrev q__law_other_right_3t_0 : FS := (sRet (fOp opEqS (fMk bReprA (aCons (fVar 10) aNil)) (fMk bReprA (aCons (fVar 9) aNil))))
noncomputable abbrev q__law_other_right_3 : FS := (sIf (fTest (fIsi "int" (fVar 9))) q__law_other_right_3t_0 sNil)
noncomputable abbrev q__law_other_right_4 : FS := (sRet (fCall m__law_same (aCons (fVar 10) (aCons (fVar 9) aNil))))
noncomputable def g__law_other_right : FS := (sSeq q__law_other_right_0 (sSeq q__law_other_right_1 (sSeq q__law_other_right_2 (sSeq q__law_other_right_3 q__law_other_right_4))))
noncomputable def m__law_other_right : FM := mOf N__law_other_right.length g__law_other_right
theorem d__law_other_right (T : Txt K mg) : FnD P w K mg base 6 T.a__law_other_right T.f__law_other_right ["tape", "view", "width", "rows", "changes"] m__law_other_right := FnD.of T.F__law_other_right sc__law_other_right fun cd A outer s H gx => (ds_cons (ds_asg (de_dictC (de_var 3) (by rfl) T.n_dict) (dg_name 5 gx.nd)) (ds_cons (ds_forR PassesOwn.never gx.calm (di_range1 (by rfl) T.n_range (da_cons (de_op ok_add de_int (de_call ((d__law_pick T).up (by decide)) gx (by rfl) T.g__law_pick T.F__law_pick.kp T.b__law_pick (da_cons (de_var 0) (da_cons de_int da_nil)) (hn := (aCons_n (aCons_n aNil_n))))) da_nil)) (dg_name 6 gx.nd) (ds_cons (ds_asg (de_op ok_add de_int (de_call ((d__law_pick T).up (by decide)) gx (by rfl) T.g__law_pick T.F__law_pick.kp T.b__law_pick (da_cons (de_var 0) (da_cons de_int da_nil)) (hn := (aCons_n (aCons_n aNil_n))))) (dg_name 7 gx.nd)) (ds_cons (ds_asg (de_call ((d__law_row T).up (by decide)) gx (by rfl) T.g__law_row T.F__law_row.kp T.b__law_row (da_cons (de_var 0) (da_cons (de_var 1) (da_cons (de_var 7) (da_cons (de_var 2) da_nil)))) (hn := (aCons_n (aCons_n (aCons_n (aCons_n aNil_n)))))) (dg_name 8 gx.nd)) (ds_cons (ds_expr (de_pop2 (de_var 5) (de_var 7) de_non ⟨rfl, rfl, rfl, rfl⟩)) (ds_one (ds_if (dt_cmp ok_isnt (de_var 8) de_non) (ds_one (ds_put gx (de_var 5) (de_var 7) (de_var 8))) ds_nil)))))) (ds_cons (ds_par2 9 10 gx rfl rfl (by decide) rfl rfl (da_cons (de_call ((d__law_applied T).up (by decide)) gx (by rfl) T.g__law_applied T.F__law_applied.kp T.b__law_applied (da_cons (de_var 5) (da_cons (de_var 4) da_nil)) (hn := (aCons_n (aCons_n aNil_n)))) (da_cons (de_call ((d__law_told T).up (by decide)) gx (by rfl) T.g__law_told T.F__law_told.kp T.b__law_told (da_cons (de_var 5) (da_cons (de_var 4) da_nil)) (hn := (aCons_n (aCons_n aNil_n)))) da_nil))) (ds_cons (ds_if (dt_val (de_isi (T := "int") (de_var 9) (by decide) (by rfl) T.n_isinstance (by rfl) T.n_int (by decide +kernel))) (ds_one (ds_ret (de_cmp ok_eqS (de_callB (id := "repr") (ok_reprA gx) (by rfl) T.n_repr (by decide +kernel) (da_cons (de_var 10) da_nil)) (de_callB (id := "repr") (ok_reprA gx) (by rfl) T.n_repr (by decide +kernel) (da_cons (de_var 9) da_nil))))) ds_nil) (ds_one (ds_ret (de_call ((d__law_same T).up (by decide)) gx (by rfl) T.g__law_same T.F__law_same.kp T.b__law_same (da_cons (de_var 10) (da_cons (de_var 9) da_nil)) (hn := (aCons_n (aCons_n aNil_n))))))))))
noncomputable abbrev q__law_corrections_0 : FS := (sAsg (fNewL aNil) (gN 1))
noncomputable abbrev q__law_corrections_1l_0 : FS := (sAsg (fSub (fSub (fVar 0) (fVar 2)) (fC (.int 1))) (gN 3))
noncomputable abbrev q__law_corrections_1l_1 : FS := (sDrop (fApp (fVar 1) (fIfE (fTest (fOp opIs (fVar 3) (fC .non))) (fMk mkTup (aCons (fC (.str (Str.ofString "drop"))) (aCons (fVar 2) aNil))) (fMk mkTup (aCons (fC (.str (Str.ofString "put"))) (aCons (fSub (fVar 3) (fC (.int 0))) (aCons (fSub (fVar 3) (fC (.int 1))) aNil)))))))
noncomputable abbrev q__law_corrections_1 : FS := (sFor (iOf asL (fSortKs (fVar 0))) (gN 2) (sSeq q__law_corrections_1l_0 q__law_corrections_1l_1))
noncomputable abbrev q__law_corrections_2 : FS := (sSeq (sFrzL 1) (sRet (fVar 1)))
noncomputable def g__law_corrections : FS := (sSeq q__law_corrections_0 (sSeq q__law_corrections_1 q__law_corrections_2))
noncomputable def m__law_corrections : FM := mOf N__law_corrections.length g__law_corrections
theorem d__law_corrections (T : Txt K mg) : FnD P w K mg base 1 T.a__law_corrections T.f__law_corrections ["changes"] m__law_corrections := FnD.of T.F__law_corrections sc__law_corrections fun cd A outer s H gx => (ds_cons (ds_asg (de_newL da_nil) (dg_name 1 gx.nd)) (ds_cons (ds_forR PassesOwn.never gx.calm (di_lst (de_sortKs gx (de_var 0) (by rfl) T.n_sorted)) (dg_name 2 gx.nd) (ds_cons (ds_asg (de_sub gx (de_sub gx (de_var 0) (de_var 2)) de_int) (dg_name 3 gx.nd)) (ds_one (ds_expr (de_append (de_var 1) (de_if (dt_cmp ok_is (de_var 3) de_non) (de_tup (da_cons de_str (da_cons (de_var 2) da_nil))) (de_tup (da_cons de_str (da_cons (de_sub gx (de_var 3) de_int) (da_cons (de_sub gx (de_var 3) de_int) da_nil)))))))))) (ds_one (ds_frzL 1 (ds_ret (de_var 1))))))
noncomputable abbrev q_law_0l_0 : FS := (sAsg (fCall m__law_tape (aCons (fVar 0) (aCons (fVar 1) aNil))) (gN 2))
noncomputable abbrev q_law_0l_1 : FS := (sAsg (fOp opAdd (fC (.int 1)) (fCall m__law_pick (aCons (fVar 2) (aCons (fC (.int 3)) aNil)))) (gN 3))
noncomputable abbrev q_law_0l_2 : FS := (sAsg (fCall m__law_view (aCons (fVar 2) (aCons (fVar 3) aNil))) (gN 4))
noncomputable abbrev q_law_0l_3l_0 : FS := (sAsg (fCall m__law_set (aCons (fVar 2) (aCons (fVar 4) (aCons (fVar 3) (aCons (fC (.dct [])) aNil))))) (gN 6))
noncomputable abbrev q_law_0l_3l_1 : FS := (sAsg (fDictP (fLock (whichR (fVar 6)) (fComp (iFrz kKeys (fVar 6)) [8] b1 (fTest (fOp opIsnt (fSub (fSub (fVar 6) (fVar 8)) (fC (.int 0))) (fC .non))) (fMk mkTup (aCons (fVar 8) (aCons (fSub (fSub (fVar 6) (fVar 8)) (fC (.int 0))) aNil)))))) (gN 7))
noncomputable abbrev q_law_0l_3l_2l_0 : FS := (sAsg (fCall m__law_row (aCons (fVar 2) (aCons (fVar 4) (aCons (fVar 8) (aCons (fVar 3) aNil))))) (gN 9))
noncomputable abbrev q_law_0l_3l_2l_1t_0 : FS := (sPut (fVar 7) (fVar 8) (fVar 9))
noncomputable abbrev q_law_0l_3l_2l_1 : FS := (sIf (fTest (fOp opIsnt (fVar 9) (fC .non))) q_law_0l_3l_2l_1t_0 sNil)
noncomputable abbrev q_law_0l_3l_2 : FS := (sFor (iOfA asR2 (aCons (fC (.int 8)) (aCons (fC (.int 10)) aNil))) (gN 8) (sSeq q_law_0l_3l_2l_0 q_law_0l_3l_2l_1))
noncomputable abbrev q_law_0l_3l_3 : FS := (sAsg (fCall m__law_applied (aCons (fVar 7) (aCons (fVar 6) aNil))) (gN 10))
noncomputable abbrev q_law_0l_3l_4 : FS := (sAsg (fDictP (fCall m__law_one_of (aCons (fVar 2) (aCons (fMk mkLst (aCons (fLstI (fVar 6)) (aCons (fRevL (fLstI (fVar 6))) aNil))) aNil)))) (gN 6))
noncomputable abbrev q_law_0l_3l_5 : FS := (sAsg (fMk bReprG (aCons (fMk mkTup (aCons (fVar 7) (aCons (fVar 6) aNil))) aNil)) (gN 11))
noncomputable abbrev q_law_0l_3l_6 : FS := (sAsg (fCall m_corrections_of (aCons (fVar 6) aNil)) (gN 12))
noncomputable abbrev q_law_0l_3l_7t_0 : FS := (sRet (fC (.bl false)))
noncomputable abbrev q_law_0l_3l_7 : FS := (sIf (fNotT (fTest (fCall m__law_same (aCons (fCall m__law_told (aCons (fVar 7) (aCons (fVar 6) aNil))) (aCons (fVar 10) aNil))))) q_law_0l_3l_7t_0 sNil)
noncomputable abbrev q_law_0l_3l_8t_0 : FS := (sRet (fC (.bl false)))
noncomputable abbrev q_law_0l_3l_8 : FS := (sIf (fTest (fOp opNeS (fMk bReprA (aCons (fVar 12) aNil)) (fMk bReprA (aCons (fCall m__law_corrections (aCons (fVar 6) aNil)) aNil)))) q_law_0l_3l_8t_0 sNil)
noncomputable abbrev q_law_0l_3l_9 : FS := (sAsg (fCall m_apply_corrections (aCons (fVar 7) (aCons (fVar 12) aNil))) (gN 13))
noncomputable abbrev q_law_0l_3l_10t_0 : FS := (sRet (fC (.bl false)))
noncomputable abbrev q_law_0l_3l_10 : FS := (sIf (fOrT (fNotT (fTest (fCall m__law_same (aCons (fVar 13) (aCons (fVar 10) aNil))))) (fNotT (fTest (fCall m__law_same (aCons (fCall m_apply_corrections (aCons (fVar 13) (aCons (fVar 12) aNil))) (aCons (fVar 10) aNil)))))) q_law_0l_3l_10t_0 sNil)
noncomputable abbrev q_law_0l_3l_11t_0 : FS := (sRet (fC (.bl false)))
noncomputable abbrev q_law_0l_3l_11 : FS := (sIf (fNotT (fTest (fCall m__law_same (aCons (fCall m_copy_of (aCons (fLstV (fVar 10)) aNil)) (aCons (fVar 10) aNil))))) q_law_0l_3l_11t_0 sNil)
noncomputable abbrev q_law_0l_3l_12 : FS := (sPut (fVar 13) (fC (.int 99)) (fC .non))
noncomputable abbrev q_law_0l_3l_13l_0t_0 : FS := (sRet (fC (.bl false)))
noncomputable abbrev q_law_0l_3l_13l_0 : FS := (sIf (fNotT (fTest (fCall m__law_same (aCons (fVar 13) (aCons (fVar 7) aNil))))) q_law_0l_3l_13l_0t_0 sNil)
noncomputable abbrev q_law_0l_3l_13l_1 : FS := (sPut (fVar 13) (fC (.int 99)) (fC .non))
noncomputable abbrev q_law_0l_3l_13 : FS := (sFor (iOf asL (fMk mkLst (aCons (fCall m_apply_changes (aCons (fVar 7) (aCons (fC (.dct [])) aNil))) (aCons (fCall m_apply_corrections (aCons (fVar 7) (aCons (fMk mkLst aNil) aNil))) aNil)))) (gN 13) (sSeq q_law_0l_3l_13l_0 q_law_0l_3l_13l_1))
noncomputable abbrev q_law_0l_3l_14t_0 : FS := (sRet (fC (.bl false)))
noncomputable abbrev q_law_0l_3l_14 : FS := (sIf (fOrT (fNotT (fTest (fCall m__law_other_right (aCons (fVar 2) (aCons (fVar 4) (aCons (fVar 3) (aCons (fVar 7) (aCons (fVar 6) aNil)))))))) (fTest (fOp opNeS (fMk bReprG (aCons (fMk mkTup (aCons (fVar 7) (aCons (fVar 6) aNil))) aNil)) (fVar 11)))) q_law_0l_3l_14t_0 sNil)
noncomputable abbrev q_law_0l_3 : FS := (sFor (iOfA asR1 (aCons (fC (.int 4)) aNil)) (gN 5) (sSeq q_law_0l_3l_0 (sSeq q_law_0l_3l_1 (sSeq q_law_0l_3l_2 (sSeq q_law_0l_3l_3 (sSeq q_law_0l_3l_4 (sSeq q_law_0l_3l_5 (sSeq q_law_0l_3l_6 (sSeq q_law_0l_3l_7 (sSeq q_law_0l_3l_8 (sSeq q_law_0l_3l_9 (sSeq q_law_0l_3l_10 (sSeq q_law_0l_3l_11 (sSeq q_law_0l_3l_12 (sSeq q_law_0l_3l_13 q_law_0l_3l_14)))))))))))))))
noncomputable abbrev q_law_0 : FS := (sFor (iOfA asR1 (aCons (fMk bMax (aCons (fC (.int 2)) (aCons (fMk bMin (aCons (fC (.int 4)) (aCons (fMk bLen (aCons (fVar 0) aNil)) aNil))) aNil))) aNil)) (gN 1) (sSeq q_law_0l_0 (sSeq q_law_0l_1 (sSeq q_law_0l_2 q_law_0l_3))))
noncomputable abbrev q_law_1 : FS := (sRet (fC (.bl true)))
noncomputable def g_law : FS := (sSeq q_law_0 q_law_1)
noncomputable def m_law : FM := mOf N_law.length g_law
theorem d_law (T : Txt K mg) : FnD P w K mg base 11 T.a_law T.f_law ["script"] m_law := FnD.of T.F_law sc_law fun cd A outer s H gx => (ds_cons (ds_forR PassesOwn.never gx.calm (di_range1 (by rfl) T.n_range (da_cons (de_callB (id := "max") (ok_max gx) (by rfl) T.n_max (by decide +kernel) (da_cons de_int (da_cons (de_callB (id := "min") (ok_min gx) (by rfl) T.n_min (by decide +kernel) (da_cons de_int (da_cons (de_callB (id := "len") ok_len (by rfl) T.n_len (by decide +kernel) (da_cons (de_var 0) da_nil)) da_nil))) da_nil))) da_nil)) (dg_name 1 gx.nd) (ds_cons (ds_asg (de_call ((d__law_tape T).up (by decide)) gx (by rfl) T.g__law_tape T.F__law_tape.kp T.b__law_tape (da_cons (de_var 0) (da_cons (de_var 1) da_nil)) (hn := (aCons_n (aCons_n aNil_n)))) (dg_name 2 gx.nd)) (ds_cons (ds_asg (de_op ok_add de_int (de_call ((d__law_pick T).up (by decide)) gx (by rfl) T.g__law_pick T.F__law_pick.kp T.b__law_pick (da_cons (de_var 2) (da_cons de_int da_nil)) (hn := (aCons_n (aCons_n aNil_n))))) (dg_name 3 gx.nd)) (ds_cons (ds_asg (de_call ((d__law_view T).up (by decide)) gx (by rfl) T.g__law_view T.F__law_view.kp T.b__law_view (da_cons (de_var 2) (da_cons (de_var 3) da_nil)) (hn := (aCons_n (aCons_n aNil_n)))) (dg_name 4 gx.nd)) (ds_one (ds_forR PassesOwn.never gx.calm (di_range1 (by rfl) T.n_range (da_cons de_int da_nil)) (dg_name 5 gx.nd) (ds_cons (ds_asg (de_call ((d__law_set T).up (by decide)) gx (by rfl) T.g__law_set T.F__law_set.kp T.b__law_set (da_cons (de_var 2) (da_cons (de_var 4) (da_cons (de_var 3) (da_cons de_dict0 da_nil)))) (hn := (aCons_n (aCons_n (aCons_n (aCons_n aNil_n)))))) (dg_name 6 gx.nd)) (ds_cons (ds_asg (de_dictP gx (de_lock (whichR (fVar 6)) (de_lc (own := [("row_id", 8)]) gx.calm gx.nd (di_keysF (de_var 6)) (blkOk_by (N := N_law) (sc := defScope s_law) (by decide +kernel)) (tg1 8) (fun _ _ _ _ _ => (pg_name (i := 8) gx.nd rfl (.inl rfl))) (fun _ _ _ _ _ => (dts_one (dt_cmp ok_isnt (de_sub gx.blk (de_sub gx.blk (de_var 6) (de_var 8)) de_int) de_non))) (fun _ _ _ _ _ => (de_tup (da_cons (de_var 8) (da_cons (de_sub gx.blk (de_sub gx.blk (de_var 6) (de_var 8)) de_int) da_nil)))))) (by rfl) T.n_dict) (dg_name 7 gx.nd)) (ds_cons (ds_forR PassesOwn.never gx.calm (di_range2 (by rfl) T.n_range (da_cons de_int (da_cons de_int da_nil))) (dg_name 8 gx.nd) (ds_cons (ds_asg (de_call ((d__law_row T).up (by decide)) gx (by rfl) T.g__law_row T.F__law_row.kp T.b__law_row (da_cons (de_var 2) (da_cons (de_var 4) (da_cons (de_var 8) (da_cons (de_var 3) da_nil)))) (hn := (aCons_n (aCons_n (aCons_n (aCons_n aNil_n)))))) (dg_name 9 gx.nd)) (ds_one (ds_if (dt_cmp ok_isnt (de_var 9) de_non) (ds_one (ds_put gx (de_var 7) (de_var 8) (de_var 9))) ds_nil)))) (ds_cons (ds_asg (de_call ((d__law_applied T).up (by decide)) gx (by rfl) T.g__law_applied T.F__law_applied.kp T.b__law_applied (da_cons (de_var 7) (da_cons (de_var 6) da_nil)) (hn := (aCons_n (aCons_n aNil_n)))) (dg_name 10 gx.nd)) (ds_cons (ds_asg (de_dictP gx (de_call ((d__law_one_of T).up (by decide)) gx (by rfl) T.g__law_one_of T.F__law_one_of.kp T.b__law_one_of (da_cons (de_var 2) (da_cons (de_lst (da_cons (de_lstI gx (de_var 6) (by rfl) T.n_list) (da_cons (de_revL (de_lstI gx (de_var 6) (by rfl) T.n_list)) da_nil))) da_nil)) (hn := (aCons_n (aCons_n aNil_n)))) (by rfl) T.n_dict) (dg_name 6 gx.nd)) (ds_cons (ds_asg (de_callB (id := "repr") (ok_reprG gx) (by rfl) T.n_repr (by decide +kernel) (da_cons (de_tup (da_cons (de_var 7) (da_cons (de_var 6) da_nil))) da_nil)) (dg_name 11 gx.nd)) (ds_cons (ds_asg (de_call ((d_corrections_of T).up (by decide)) gx (by rfl) T.g_corrections_of T.F_corrections_of.kp T.b_corrections_of (da_cons (de_var 6) da_nil) (hn := (aCons_n aNil_n))) (dg_name 12 gx.nd)) (ds_cons (ds_if (dt_not (dt_val (de_call ((d__law_same T).up (by decide)) gx (by rfl) T.g__law_same T.F__law_same.kp T.b__law_same (da_cons (de_call ((d__law_told T).up (by decide)) gx (by rfl) T.g__law_told T.F__law_told.kp T.b__law_told (da_cons (de_var 7) (da_cons (de_var 6) da_nil)) (hn := (aCons_n (aCons_n aNil_n)))) (da_cons (de_var 10) da_nil)) (hn := (aCons_n (aCons_n aNil_n)))))) (ds_one (ds_ret de_bl)) ds_nil) (ds_cons (ds_if (dt_cmp ok_neS (de_callB (id := "repr") (ok_reprA gx) (by rfl) T.n_repr (by decide +kernel) (da_cons (de_var 12) da_nil)) (de_callB (id := "repr") (ok_reprA gx) (by rfl) T.n_repr (by decide +kernel) (da_cons (de_call ((d__law_corrections T).up (by decide)) gx (by rfl) T.g__law_corrections T.F__law_corrections.kp T.b__law_corrections (da_cons (de_var 6) da_nil) (hn := (aCons_n aNil_n))) da_nil))) (ds_one (ds_ret de_bl)) ds_nil) (ds_cons (ds_asg (de_call ((d_apply_corrections T).up (by decide)) gx (by rfl) T.g_apply_corrections T.F_apply_corrections.kp T.b_apply_corrections (da_cons (de_var 7) (da_cons (de_var 12) da_nil)) (hn := (aCons_n (aCons_n aNil_n)))) (dg_name 13 gx.nd)) (ds_cons (ds_if (dt_w (dw_or (dt_not (dt_val (de_call ((d__law_same T).up (by decide)) gx (by rfl) T.g__law_same T.F__law_same.kp T.b__law_same (da_cons (de_var 13) (da_cons (de_var 10) da_nil)) (hn := (aCons_n (aCons_n aNil_n)))))) (dw_or1 (dt_not (dt_val (de_call ((d__law_same T).up (by decide)) gx (by rfl) T.g__law_same T.F__law_same.kp T.b__law_same (da_cons (de_call ((d_apply_corrections T).up (by decide)) gx (by rfl) T.g_apply_corrections T.F_apply_corrections.kp T.b_apply_corrections (da_cons (de_var 13) (da_cons (de_var 12) da_nil)) (hn := (aCons_n (aCons_n aNil_n)))) (da_cons (de_var 10) da_nil)) (hn := (aCons_n (aCons_n aNil_n))))))))) (ds_one (ds_ret de_bl)) ds_nil) (ds_cons (ds_if (dt_not (dt_val (de_call ((d__law_same T).up (by decide)) gx (by rfl) T.g__law_same T.F__law_same.kp T.b__law_same (da_cons (de_call ((d_copy_of T).up (by decide)) gx (by rfl) T.g_copy_of T.F_copy_of.kp T.b_copy_of (da_cons (de_lstV gx (de_var 10) (by rfl) T.n_list) da_nil) (hn := (aCons_n aNil_n))) (da_cons (de_var 10) da_nil)) (hn := (aCons_n (aCons_n aNil_n)))))) (ds_one (ds_ret de_bl)) ds_nil) (ds_cons (ds_put gx (de_var 13) de_int de_non) (ds_cons (ds_forR PassesOwn.never gx.calm (di_lst (de_lst (da_cons (de_call ((d_apply_changes T).up (by decide)) gx (by rfl) T.g_apply_changes T.F_apply_changes.kp T.b_apply_changes (da_cons (de_var 7) (da_cons de_dict0 da_nil)) (hn := (aCons_n (aCons_n aNil_n)))) (da_cons (de_call ((d_apply_corrections T).up (by decide)) gx (by rfl) T.g_apply_corrections T.F_apply_corrections.kp T.b_apply_corrections (da_cons (de_var 7) (da_cons (de_lst da_nil) da_nil)) (hn := (aCons_n (aCons_n aNil_n)))) da_nil)))) (dg_name 13 gx.nd) (ds_cons (ds_if (dt_not (dt_val (de_call ((d__law_same T).up (by decide)) gx (by rfl) T.g__law_same T.F__law_same.kp T.b__law_same (da_cons (de_var 13) (da_cons (de_var 7) da_nil)) (hn := (aCons_n (aCons_n aNil_n)))))) (ds_one (ds_ret de_bl)) ds_nil) (ds_one (ds_put gx (de_var 13) de_int de_non)))) (ds_one (ds_if (dt_w (dw_or (dt_not (dt_val (de_call ((d__law_other_right T).up (by decide)) gx (by rfl) T.g__law_other_right T.F__law_other_right.kp T.b__law_other_right (da_cons (de_var 2) (da_cons (de_var 4) (da_cons (de_var 3) (da_cons (de_var 7) (da_cons (de_var 6) da_nil))))) (hn := (aCons_n (aCons_n (aCons_n (aCons_n (aCons_n aNil_n))))))))) (dw_or1 (dt_cmp ok_neS (de_callB (id := "repr") (ok_reprG gx) (by rfl) T.n_repr (by decide +kernel) (da_cons (de_tup (da_cons (de_var 7) (da_cons (de_var 6) da_nil))) da_nil)) (de_var 11))))) (ds_one (ds_ret de_bl)) ds_nil)))))))))))))))))))))) (ds_one (ds_ret de_bl)))
end LW
namespace LW
open PySem PySem.Spec PyProof.Rows L2 DL TL
theorem e_tape : m__law_tape = mTape := rfl
theorem e_pick : m__law_pick = mPick := rfl
theorem e_one : m__law_one_of = mOne := rfl
def asc (n : Nat) (x : Str) : Bool := decide (x.length ≤ n) && (tl x).all fun c => decide (c < 128)
theorem asc_gs {n : Nat} {x : Str} (h : asc n x = true) : GS n x := by
  unfold asc at h
  rw [Bool.and_eq_true] at h
  exact ⟨of_decide_eq_true h.1, fun c hc => of_decide_eq_true (List.all_eq_true.mp h.2 c hc)⟩
theorem gs_asc {n : Nat} {x : Str} (h : GS n x) : asc n x = true := by
  unfold asc
  rw [Bool.and_eq_true]
  exact ⟨decide_eq_true h.1, List.all_eq_true.mpr fun c hc => decide_eq_true (h.2 c hc)⟩
theorem eqL {a b : Str} {c : Bool} (ha : asc 16 a = true) (hb : asc 16 b = true) (h : (a == b) = c) : opEq (.str a) (.str b) = some (.bl c) := by
  rw [← h]
  exact opEq_fv (m := 16) (n := 16) (a := .str a) (b := .str b) (asc_gs ha) (asc_gs hb)
theorem qs : opEq (.str (Str.ofString "all")) (.str (Str.ofString "all")) = some (.bl true) ∧
  opEq (.str (Str.ofString "all")) (.str (Str.ofString "not")) = some (.bl false) ∧
  opEq (.str (Str.ofString "all")) (.str (Str.ofString "and")) = some (.bl false) ∧
  opEq (.str (Str.ofString "all")) (.str (Str.ofString "or")) = some (.bl false) ∧
  opEq (.str (Str.ofString "all")) (.str (Str.ofString "equal")) = some (.bl false) ∧
  opEq (.str (Str.ofString "all")) (.str (Str.ofString "less")) = some (.bl false) ∧
  opEq (.str (Str.ofString "all")) (.str (Str.ofString "starts")) = some (.bl false) ∧
  opEq (.str (Str.ofString "equal")) (.str (Str.ofString "all")) = some (.bl false) ∧
  opEq (.str (Str.ofString "equal")) (.str (Str.ofString "not")) = some (.bl false) ∧
  opEq (.str (Str.ofString "equal")) (.str (Str.ofString "and")) = some (.bl false) ∧
  opEq (.str (Str.ofString "equal")) (.str (Str.ofString "or")) = some (.bl false) ∧
  opEq (.str (Str.ofString "equal")) (.str (Str.ofString "equal")) = some (.bl true) ∧
  opEq (.str (Str.ofString "equal")) (.str (Str.ofString "less")) = some (.bl false) ∧
  opEq (.str (Str.ofString "equal")) (.str (Str.ofString "starts")) = some (.bl false) ∧
  opEq (.str (Str.ofString "less")) (.str (Str.ofString "all")) = some (.bl false) ∧
  opEq (.str (Str.ofString "less")) (.str (Str.ofString "not")) = some (.bl false) ∧
  opEq (.str (Str.ofString "less")) (.str (Str.ofString "and")) = some (.bl false) ∧
  opEq (.str (Str.ofString "less")) (.str (Str.ofString "or")) = some (.bl false) ∧
  opEq (.str (Str.ofString "less")) (.str (Str.ofString "equal")) = some (.bl false) ∧
  opEq (.str (Str.ofString "less")) (.str (Str.ofString "less")) = some (.bl true) ∧
  opEq (.str (Str.ofString "less")) (.str (Str.ofString "starts")) = some (.bl false) ∧
  opEq (.str (Str.ofString "starts")) (.str (Str.ofString "all")) = some (.bl false) ∧
  opEq (.str (Str.ofString "starts")) (.str (Str.ofString "not")) = some (.bl false) ∧
  opEq (.str (Str.ofString "starts")) (.str (Str.ofString "and")) = some (.bl false) ∧
  opEq (.str (Str.ofString "starts")) (.str (Str.ofString "or")) = some (.bl false) ∧
  opEq (.str (Str.ofString "starts")) (.str (Str.ofString "equal")) = some (.bl false) ∧
  opEq (.str (Str.ofString "starts")) (.str (Str.ofString "less")) = some (.bl false) ∧
  opEq (.str (Str.ofString "starts")) (.str (Str.ofString "starts")) = some (.bl true) ∧
  opEq (.str (Str.ofString "one_of")) (.str (Str.ofString "all")) = some (.bl false) ∧
  opEq (.str (Str.ofString "one_of")) (.str (Str.ofString "not")) = some (.bl false) ∧
  opEq (.str (Str.ofString "one_of")) (.str (Str.ofString "and")) = some (.bl false) ∧
  opEq (.str (Str.ofString "one_of")) (.str (Str.ofString "or")) = some (.bl false) ∧
  opEq (.str (Str.ofString "one_of")) (.str (Str.ofString "equal")) = some (.bl false) ∧
  opEq (.str (Str.ofString "one_of")) (.str (Str.ofString "less")) = some (.bl false) ∧
  opEq (.str (Str.ofString "one_of")) (.str (Str.ofString "starts")) = some (.bl false) ∧
  opEq (.str (Str.ofString "not")) (.str (Str.ofString "all")) = some (.bl false) ∧
  opEq (.str (Str.ofString "not")) (.str (Str.ofString "not")) = some (.bl true) ∧
  opEq (.str (Str.ofString "not")) (.str (Str.ofString "and")) = some (.bl false) ∧
  opEq (.str (Str.ofString "not")) (.str (Str.ofString "or")) = some (.bl false) ∧
  opEq (.str (Str.ofString "not")) (.str (Str.ofString "equal")) = some (.bl false) ∧
  opEq (.str (Str.ofString "not")) (.str (Str.ofString "less")) = some (.bl false) ∧
  opEq (.str (Str.ofString "not")) (.str (Str.ofString "starts")) = some (.bl false) ∧
  opEq (.str (Str.ofString "and")) (.str (Str.ofString "all")) = some (.bl false) ∧
  opEq (.str (Str.ofString "and")) (.str (Str.ofString "not")) = some (.bl false) ∧
  opEq (.str (Str.ofString "and")) (.str (Str.ofString "and")) = some (.bl true) ∧
  opEq (.str (Str.ofString "and")) (.str (Str.ofString "or")) = some (.bl false) ∧
  opEq (.str (Str.ofString "and")) (.str (Str.ofString "equal")) = some (.bl false) ∧
  opEq (.str (Str.ofString "and")) (.str (Str.ofString "less")) = some (.bl false) ∧
  opEq (.str (Str.ofString "and")) (.str (Str.ofString "starts")) = some (.bl false) ∧
  opEq (.str (Str.ofString "or")) (.str (Str.ofString "all")) = some (.bl false) ∧
  opEq (.str (Str.ofString "or")) (.str (Str.ofString "not")) = some (.bl false) ∧
  opEq (.str (Str.ofString "or")) (.str (Str.ofString "and")) = some (.bl false) ∧
  opEq (.str (Str.ofString "or")) (.str (Str.ofString "or")) = some (.bl true) ∧
  opEq (.str (Str.ofString "or")) (.str (Str.ofString "equal")) = some (.bl false) ∧
  opEq (.str (Str.ofString "or")) (.str (Str.ofString "less")) = some (.bl false) ∧
  opEq (.str (Str.ofString "or")) (.str (Str.ofString "starts")) = some (.bl false) :=
  ⟨eqL (by decide +kernel) (by decide +kernel) (by decide +kernel), eqL (by decide +kernel) (by decide +kernel) (by decide +kernel), eqL (by decide +kernel) (by decide +kernel) (by decide +kernel), eqL (by decide +kernel) (by decide +kernel) (by decide +kernel), eqL (by decide +kernel) (by decide +kernel) (by decide +kernel), eqL (by decide +kernel) (by decide +kernel) (by decide +kernel), eqL (by decide +kernel) (by decide +kernel) (by decide +kernel), eqL (by decide +kernel) (by decide +kernel) (by decide +kernel), eqL (by decide +kernel) (by decide +kernel) (by decide +kernel), eqL (by decide +kernel) (by decide +kernel) (by decide +kernel), eqL (by decide +kernel) (by decide +kernel) (by decide +kernel), eqL (by decide +kernel) (by decide +kernel) (by decide +kernel), eqL (by decide +kernel) (by decide +kernel) (by decide +kernel), eqL (by decide +kernel) (by decide +kernel) (by decide +kernel), eqL (by decide +kernel) (by decide +kernel) (by decide +kernel), eqL (by decide +kernel) (by decide +kernel) (by decide +kernel), eqL (by decide +kernel) (by decide +kernel) (by decide +kernel), eqL (by decide +kernel) (by decide +kernel) (by decide +kernel), eqL (by decide +kernel) (by decide +kernel) (by decide +kernel), eqL (by decide +kernel) (by decide +kernel) (by decide +kernel), eqL (by decide +kernel) (by decide +kernel) (by decide +kernel), eqL (by decide +kernel) (by decide +kernel) (by decide +kernel), eqL (by decide +kernel) (by decide +kernel) (by decide +kernel), eqL (by decide +kernel) (by decide +kernel) (by decide +kernel), eqL (by decide +kernel) (by decide +kernel) (by decide +kernel), eqL (by decide +kernel) (by decide +kernel) (by decide +kernel), eqL (by decide +kernel) (by decide +kernel) (by decide +kernel), eqL (by decide +kernel) (by decide +kernel) (by decide +kernel), eqL (by decide +kernel) (by decide +kernel) (by decide +kernel), eqL (by decide +kernel) (by decide +kernel) (by decide +kernel), eqL (by decide +kernel) (by decide +kernel) (by decide +kernel), eqL (by decide +kernel) (by decide +kernel) (by decide +kernel), eqL (by decide +kernel) (by decide +kernel) (by decide +kernel), eqL (by decide +kernel) (by decide +kernel) (by decide +kernel), eqL (by decide +kernel) (by decide +kernel) (by decide +kernel), eqL (by decide +kernel) (by decide +kernel) (by decide +kernel), eqL (by decide +kernel) (by decide +kernel) (by decide +kernel), eqL (by decide +kernel) (by decide +kernel) (by decide +kernel), eqL (by decide +kernel) (by decide +kernel) (by decide +kernel), eqL (by decide +kernel) (by decide +kernel) (by decide +kernel), eqL (by decide +kernel) (by decide +kernel) (by decide +kernel), eqL (by decide +kernel) (by decide +kernel) (by decide +kernel), eqL (by decide +kernel) (by decide +kernel) (by decide +kernel), eqL (by decide +kernel) (by decide +kernel) (by decide +kernel), eqL (by decide +kernel) (by decide +kernel) (by decide +kernel), eqL (by decide +kernel) (by decide +kernel) (by decide +kernel), eqL (by decide +kernel) (by decide +kernel) (by decide +kernel), eqL (by decide +kernel) (by decide +kernel) (by decide +kernel), eqL (by decide +kernel) (by decide +kernel) (by decide +kernel), eqL (by decide +kernel) (by decide +kernel) (by decide +kernel), eqL (by decide +kernel) (by decide +kernel) (by decide +kernel), eqL (by decide +kernel) (by decide +kernel) (by decide +kernel), eqL (by decide +kernel) (by decide +kernel) (by decide +kernel), eqL (by decide +kernel) (by decide +kernel) (by decide +kernel), eqL (by decide +kernel) (by decide +kernel) (by decide +kernel), eqL (by decide +kernel) (by decide +kernel) (by decide +kernel)⟩
/-- plain values -/
def pvB : D → Bool | .non => true | .int i => decide (-1000000000 ≤ i ∧ i ≤ 1000000000) | .str x => asc 40 x | _ => false
theorem pv_fv : ∀ {d : D}, pvB d = true → FV 40 d
  | .non, _ => trivial
  | .int _, _ => trivial
  | .str x, h => asc_gs h
  | .bl _, h => by cases h
  | .tup _, h => by cases h
  | .lst _, h => by cases h
  | .dct _, h => by cases h
  | .scr _, h => by cases h
  | .ref _, h => by cases h
theorem pv_sm : ∀ {d : D}, pvB d = true → Sm 0 40 d
  | .non, _ => Sm.non.mono (Nat.le_refl _) (Nat.zero_le _)
  | .int i, h => Sm.int (by have := of_decide_eq_true (show decide (-1000000000 ≤ i ∧ i ≤ 1000000000) = true from h); omega)
  | .str x, h => Sm.str (asc_gs h)
  | .bl _, h => by cases h
  | .tup _, h => by cases h
  | .lst _, h => by cases h
  | .dct _, h => by cases h
  | .scr _, h => by cases h
  | .ref _, h => by cases h
def kindP : D → Int | .non => 0 | .str _ => 2 | _ => 1
def vLt : D → D → Bool | .int a, .int b => decide (a < b) | .str a, .str b => decide (tl a < tl b) | _, _ => false
def cmpV (a b : D) : Int := if vEq a b = true then 0 else if kindP a = kindP b then (if vLt a b = true then -1 else 1) else if kindP a < kindP b then -1 else 1
theorem strsD_of : ∀ {vs : List D}, (∀ v ∈ vs, ∃ x, v = .str x ∧ GS 1 x) → ∃ ys, strsD vs = some ys ∧ ys.length = vs.length ∧ ∀ y ∈ ys, GS 1 y
  | [], _ => ⟨[], rfl, rfl, fun _ h => by cases h⟩
  | v :: vs, h => by
    obtain ⟨x, rfl, g⟩ := h v List.mem_cons_self
    obtain ⟨ys, h1, h2, h3⟩ := strsD_of fun w hw => h w (List.mem_cons_of_mem _ hw)
    refine ⟨x :: ys, by simp [strsD, h1], by simp [h2], fun y hy => ?_⟩
    rcases List.mem_cons.mp hy with rfl | hy
    · exact g
    · exact h3 y hy
theorem sum_le {m : Nat} : ∀ {ys : List Str}, (∀ y ∈ ys, GS m y) → (ys.map (·.length)).sum ≤ ys.length * m
  | [], _ => Nat.zero_le _
  | y :: ys, h => by
    have h1 := sum_le fun z hz => h z (List.mem_cons_of_mem _ hz)
    have h2 := (h y List.mem_cons_self).1
    rw [List.map_cons, List.sum_cons, List.length_cons, Nat.succ_mul]
    omega
theorem join_ok {m k : Nat} {vs : List D} (h : ∀ v ∈ vs, ∃ x, v = .str x ∧ GS 1 x) (hl : vs.length ≤ k) (hk : k ≤ 1000) : ∃ z, joinD (.str (Str.ofString "")) [.lst vs] = some (.str z) ∧ GS k z := by
  obtain ⟨ys, h1, h2, h3⟩ := strsD_of h
  have hs := sum_le h3
  have : (ys.map (·.length)).sum + ys.length * (Str.ofString "").length ≤ 16777216 := by
    rw [show (Str.ofString "").length = 0 from rfl]
    omega
  refine ⟨_, by simp only [joinD, h1, Option.bind_some]; rw [if_pos this], ?_⟩
  exact (GS.join h3).mono (by omega)
end LW
namespace LW
open PySem PySem.Spec PyProof.Rows L2 DL TL
theorem pv_str {x : Str} (h : GS 40 x) : pvB (.str x) = true := gs_asc h
theorem bits10 : Builtin.Int.intBits 10 ≤ 32 := bits32 (by decide) (by decide)
theorem pow109 : powI (.int 10) (.int 9) = some (.int 1000000000) := by
  have p := powI_int (a := 10) (b := 9) (by decide) bits10 (by decide)
  simpa using p
theorem mulz (k : Int) (h : 0 ≤ k ∧ k ≤ 1000) : opMul (.str (Str.ofString "z")) (.int k) = some (.str (Txt.mul (Str.ofString "z") k)) := by
  have : (Str.ofString "z").length ≤ 1000 := by decide
  simp [opMul, orD, mulI, onI, mulS, this, h.1, h.2]
theorem addL_ok {xs ys : List D} (h : xs.length + ys.length ≤ 1000) : opAdd (.lst xs) (.lst ys) = some (.lst (xs ++ ys)) := by
  have : xs.length + ys.length ≤ sizeLine := Nat.le_trans h (by decide)
  simp [opAdd, orD, addI, addS, addL, onI, onS, this]
theorem addT_ok {xs ys : List D} (h : xs.length + ys.length ≤ 1000) : opAdd (.tup xs) (.tup ys) = some (.tup (xs ++ ys)) := by
  have : xs.length + ys.length ≤ sizeLine := Nat.le_trans h (by decide)
  simp [opAdd, orD, addI, addS, addL, addT, onI, onS, this]
def someV : List D := [.non, .int 0, .int 1, .int 2, .int (-1), .int 1, .int 2, .int 1000000000, .int (-1000000000), .str (Str.ofString ""), .str (Str.ofString "a"), .str (Str.ofString "ab"), .str (Str.ofString "b"), .str (Str.ofString "a b"), .str (Str.ofString "A"), .str (Str.ofString "~"), .str (Txt.mul (Str.ofString "z") 20)]
def moreV : List D := [.str (Txt.mul (Str.ofString "z") 19), .str (Str.ofString "customer one"), .str (Str.ofString "customer two"), .str (Str.ofString "1"), .str (Str.ofString "-1"), .int 2, .str (Str.ofString "abc"), .str (Str.ofString "abd")]
theorem allV : (someV ++ moreV).all pvB = true := by decide +kernel
abbrev sgn1 : String := " !#$&'()*+,-./0123456789:;<=>?@ABCDEFGHIJKLMNOPQRSTUVWXYZ[]^_{|}~"
abbrev sgn2 : String := "abcdefghijklmnopqrstuvwxyz"
theorem value_ok {st : Store} {n : Nat} (t : Tp st n) : ∃ d st', m__law_value [.ref n] st = some (d, st') ∧ pvB d = true ∧ Tp st' n ∧ Fr n st st' ∧ st'.length = st.length := by
  obtain ⟨r, s1, h1, r0, r8, t1, f1, l1⟩ := pick_ok t (s := 24) (by decide) (by decide)
  by_cases c0 : r = 0
  · subst c0
    let sg : List D := (Str.ofString sgn1 ++ Str.ofString sgn2).cps.toList.map fun c => D.str ⟨#[c]⟩
    have hsg : ∀ v ∈ sg, ∃ x, v = .str x ∧ GS 1 x := fun v hv => by
      obtain ⟨c, hc, rfl⟩ := List.mem_map.mp hv
      refine ⟨_, rfl, Nat.le_refl _, fun y hy => ?_⟩
      have : y = c := by simpa using hy
      subst this
      have := List.all_eq_true.mp (show ((Str.ofString sgn1 ++ Str.ofString sgn2).cps.toList.all fun c => decide (c < 128)) = true by decide +kernel) y hc
      exact of_decide_eq_true this
    have ad : opAdd (.str (Str.ofString sgn1)) (.str (Str.ofString sgn2)) = some (.str (Str.ofString sgn1 ++ Str.ofString sgn2)) := opAdd_str (by decide +kernel)
    have bl : bList [.str (Str.ofString sgn1 ++ Str.ofString sgn2)] = fun _ => some (.lst sg) := by
      funext s
      have : (Str.ofString sgn1 ++ Str.ofString sgn2).length ≤ sizeLine := Nat.le_trans (show _ ≤ 1000 by decide +kernel) (by decide)
      simp [bList, listSeq, listTxt, this, sg]
    obtain ⟨r2, s2, h2, r20, r24, t2, f2, l2⟩ := pick_ok t1 (s := 20) (by decide) (by decide)
    obtain ⟨vs, s3, h3, l3, p3, t3, f3, q3⟩ := loopC_draw2 (is := [3]) (bd := b1) (f := fCall m__law_one_of (aCons (fVar 0) (aCons (fVar 1) aNil))) (n := n) (P := fun v => ∃ x, v = .str x ∧ GS 1 x)
      (env := [some (.ref n), some (.lst sg), none, none]) (ds := rg 0 (1 + r2)) (fun d hd => ⟨[d], rfl, fun s t => by
        obtain ⟨v, s', g1, g2, g3, g4, g5⟩ := one_ok (xs := sg) t (by decide +kernel) (by decide +kernel)
        exact ⟨v, s', by simp [fCall, aCons, aNil, fVar, setL, e_one, g1], hsg v g2, g3, g4, g5⟩⟩) t2
    obtain ⟨w, hw, gw⟩ := join_ok (m := 1) (k := 20) p3 (by rw [l3, rg_len]; omega) (by decide)
    have zc : vs.length ≤ sizeLine := Nat.le_trans (by rw [l3, rg_len]; omega) (show 20 ≤ sizeLine by decide)
    have ra := asR1_ok (n := 1 + r2) (by omega) (by omega)
    refine ⟨.str w, s3, ?_, pv_str (gw.mono (by decide)), t3, (f1.trans f2).trans f3, by rw [q3, l2, l1]⟩
    rw [e_one] at h3
    simp [m__law_value, g__law_value, mOf, outM, startD, sSeq, sAsg, gN, sIf, sRet, sNil, fCall, aCons, aNil, fVar, fC, fTest, fOp, e_pick, h1, opEq_int, asB, ad, fMk, bl, fMt, fComp, iOfA, h2, opAdd_int, ra, wipeL, e_one, h3, zc, hw]
  · have q0 : (r == 0) = false := by simp [c0]
    obtain ⟨d, s2, h2, m2, t2, f2, l2⟩ := one_ok (xs := someV ++ moreV) t1 (by decide) (by decide)
    refine ⟨d, s2, ?_, List.all_eq_true.mp allV d m2, t2, f1.trans f2, by rw [l2, l1]⟩
    have z1 : 17 ≤ sizeLine := by decide
    have z2 : 8 ≤ sizeLine := by decide
    have ad : opAdd (.lst someV) (.lst moreV) = some (.lst (someV ++ moreV)) := addL_ok (by decide)
    simp only [someV, moreV] at ad h2
    simp [m__law_value, g__law_value, mOf, outM, startD, sSeq, sAsg, gN, sIf, sRet, sNil, fCall, aCons, aNil, fVar, fC, fTest, fOp, e_pick, h1, opEq_int, asB, q0, fMk, mkLst, subI_int, pow109, mulz, z1, z2]
    simp at ad h2
    simp [ad, e_one, h2]
end LW
namespace LW
open PySem PySem.Spec PyProof.Rows L2 DL TL
inductive C where
  | all | eq (c : Nat) (v : D) | lt (c : Nat) (v : D) | st (c : Nat) (x : Str) | one (c : Nat) (us : List D) | not (p : C) | and (p q : C) | or (p q : C)
def nm (s : String) : D := .str (Str.ofString s)
def C.d : C → D
  | .all => .tup [.str (Str.ofString "all")]
  | .eq c v => .tup [.str (Str.ofString "equal"), .int c, v]
  | .lt c v => .tup [.str (Str.ofString "less"), .int c, v]
  | .st c x => .tup [.str (Str.ofString "starts"), .int c, .str x]
  | .one c us => .tup [.str (Str.ofString "one_of"), .int c, .tup us]
  | .not p => .tup [.str (Str.ofString "not"), p.d]
  | .and p q => .tup [.str (Str.ofString "and"), p.d, q.d]
  | .or p q => .tup [.str (Str.ofString "or"), p.d, q.d]
def C.ok (w : Nat) : C → Prop
  | .all => True
  | .eq c v => c < w ∧ pvB v = true
  | .lt c v => c < w ∧ pvB v = true
  | .st c x => c < w ∧ GS 10 x ∧ 0 < x.length
  | .one c us => c < w ∧ us.length ≤ 8 ∧ 0 < us.length ∧ ∀ u ∈ us, pvB u = true
  | .not p => p.ok w
  | .and p q => p.ok w ∧ q.ok w
  | .or p q => p.ok w ∧ q.ok w
def C.ht : C → Nat
  | .not p => p.ht + 1
  | .and p q => max p.ht q.ht + 1
  | .or p q => max p.ht q.ht + 1
  | _ => 1
theorem C.ht_pos : ∀ c : C, 1 ≤ c.ht
  | .all => Nat.le_refl _
  | .eq _ _ => Nat.le_refl _
  | .lt _ _ => Nat.le_refl _
  | .st _ _ => Nat.le_refl _
  | .one _ _ => Nat.le_refl _
  | .not _ => Nat.le_add_left _ _
  | .and _ _ => Nat.le_add_left _ _
  | .or _ _ => Nat.le_add_left _ _
theorem sm_name {s : String} (h : asc 16 (Str.ofString s) = true) (dp : Nat) : Sm dp 40 (.str (Str.ofString s)) := (Sm.str (asc_gs h)).mono (Nat.zero_le _) (by decide)
theorem C.sm {w : Nat} (hw : w ≤ 10) : ∀ c : C, c.ok w → Sm (c.ht + 1) (500 * 2 ^ c.ht - 100) c.d
  | .all, _ => (Sm.tup (SmL.cons (sm_name (s := "all") (by decide +kernel) 0) (SmL.nil.mono (Nat.zero_le _) (Nat.le_refl _)))).mono (show _ ≤ 1 + 1 by decide) (show _ ≤ 500 * 2 ^ 1 - 100 by decide)
  | .eq c v, h => (Sm.tup (SmL.cons (sm_name (s := "equal") (by decide +kernel) 0) (SmL.cons (Sm.int (i := c) (by have := h.1; omega)) (SmL.cons (pv_sm h.2) SmL.nil)))).mono (show _ ≤ 1 + 1 by decide) (show _ ≤ 500 * 2 ^ 1 - 100 by decide)
  | .lt c v, h => (Sm.tup (SmL.cons (sm_name (s := "less") (by decide +kernel) 0) (SmL.cons (Sm.int (i := c) (by have := h.1; omega)) (SmL.cons (pv_sm h.2) SmL.nil)))).mono (show _ ≤ 1 + 1 by decide) (show _ ≤ 500 * 2 ^ 1 - 100 by decide)
  | .st c x, h => (Sm.tup (SmL.cons (sm_name (s := "starts") (by decide +kernel) 0) (SmL.cons (Sm.int (i := c) (by have := h.1; omega)) (SmL.cons (Sm.str h.2.1) SmL.nil)))).mono (show _ ≤ 1 + 1 by decide) (show _ ≤ 500 * 2 ^ 1 - 100 by decide)
  | .one c us, h => by
    have h1 : SmL 0 (us.length * 41) us := SmL.all fun u hu => pv_sm (h.2.2.2 u hu)
    have h2 : us.length * 41 ≤ 8 * 41 := Nat.mul_le_mul_right _ h.2.1
    exact (Sm.tup (SmL.cons (sm_name (s := "one_of") (by decide +kernel) 1) (SmL.cons ((Sm.int (i := c) (by have := h.1; omega)).mono (Nat.zero_le _) (Nat.le_refl _)) (SmL.cons (Sm.tup (h1.mono (Nat.le_refl _) h2)) (SmL.nil.mono (Nat.zero_le _) (Nat.le_refl _)))))).mono (show _ ≤ 1 + 1 by decide) (show _ ≤ 500 * 2 ^ 1 - 100 by decide)
  | .not p, h => by
    have hp := C.sm hw p h
    have := C.ht_pos p
    refine (Sm.tup (SmL.cons (sm_name (s := "not") (by decide +kernel) _) (SmL.cons hp (SmL.nil.mono (Nat.zero_le _) (Nat.le_refl _))))).mono (by show p.ht + 1 + 1 ≤ p.ht + 1 + 1; omega) ?_
    have e : C.ht (.not p) = p.ht + 1 := rfl
    have e2 : 2 ^ 1 ≤ 2 ^ p.ht := Nat.pow_le_pow_right (by decide) this
    rw [e, Nat.pow_succ]
    omega
  | .and p q, h => by
    have hp := C.sm hw p h.1
    have hq := C.sm hw q h.2
    have h1 := C.ht_pos p
    have e : C.ht (.and p q) = max p.ht q.ht + 1 := rfl
    have m1 := Nat.le_max_left p.ht q.ht
    have m2 := Nat.le_max_right p.ht q.ht
    rw [e]
    generalize max p.ht q.ht = m at *
    have e1 : 2 ^ p.ht ≤ 2 ^ m := Nat.pow_le_pow_right (by decide) m1
    have e2 : 2 ^ q.ht ≤ 2 ^ m := Nat.pow_le_pow_right (by decide) m2
    have e3 : 2 ^ 1 ≤ 2 ^ p.ht := Nat.pow_le_pow_right (by decide) (by omega)
    have e4 : 2 ^ 1 ≤ 2 ^ q.ht := Nat.pow_le_pow_right (by decide) (C.ht_pos q)
    refine (Sm.tup (SmL.cons (sm_name (s := "and") (by decide +kernel) (m + 1)) (SmL.cons (hp.mono (by omega) (Nat.le_refl _)) (SmL.cons (hq.mono (by omega) (Nat.le_refl _)) (SmL.nil.mono (Nat.zero_le _) (Nat.le_refl _)))))).mono (by omega) ?_
    rw [Nat.pow_succ]
    omega
  | .or p q, h => by
    have hp := C.sm hw p h.1
    have hq := C.sm hw q h.2
    have h1 := C.ht_pos p
    have e : C.ht (.or p q) = max p.ht q.ht + 1 := rfl
    have m1 := Nat.le_max_left p.ht q.ht
    have m2 := Nat.le_max_right p.ht q.ht
    rw [e]
    generalize max p.ht q.ht = m at *
    have e1 : 2 ^ p.ht ≤ 2 ^ m := Nat.pow_le_pow_right (by decide) m1
    have e2 : 2 ^ q.ht ≤ 2 ^ m := Nat.pow_le_pow_right (by decide) m2
    have e3 : 2 ^ 1 ≤ 2 ^ p.ht := Nat.pow_le_pow_right (by decide) (by omega)
    have e4 : 2 ^ 1 ≤ 2 ^ q.ht := Nat.pow_le_pow_right (by decide) (C.ht_pos q)
    refine (Sm.tup (SmL.cons (sm_name (s := "or") (by decide +kernel) (m + 1)) (SmL.cons (hp.mono (by omega) (Nat.le_refl _)) (SmL.cons (hq.mono (by omega) (Nat.le_refl _)) (SmL.nil.mono (Nat.zero_le _) (Nat.le_refl _)))))).mono (by omega) ?_
    rw [Nat.pow_succ]
    omega
theorem values_ok {st : Store} {n : Nat} {w : Int} (t : Tp st n) (h0 : 0 ≤ w) (h1 : w ≤ 10) : ∃ vs st', m__law_values [.ref n, .int w] st = some (.tup vs, st') ∧ (vs.length : Int) = w ∧ (∀ v ∈ vs, pvB v = true) ∧ Tp st' n ∧ Fr n st st' ∧ st'.length = st.length := by
  obtain ⟨vs, s3, h3, l3, p3, t3, f3, q3⟩ := loopC_draw2 (is := [2]) (bd := b1) (f := fCall m__law_value (aCons (fVar 0) aNil)) (n := n) (P := fun v => pvB v = true)
    (env := [some (.ref n), some (.int w), none]) (ds := rg 0 w) (fun d hd => ⟨[d], rfl, fun s t => by
      obtain ⟨v, s', g1, g2, g3, g4, g5⟩ := value_ok t
      exact ⟨v, s', by simp [fCall, aCons, aNil, fVar, setL, g1], g2, g3, g4, g5⟩⟩) t
  rw [rg_len] at l3
  have zc : vs.length ≤ sizeLine := Nat.le_trans (by rw [l3]; omega) (show 10 ≤ sizeLine by decide)
  have ra := asR1_ok (n := w) h0 (by omega)
  refine ⟨vs, s3, ?_, by omega, p3, t3, f3, q3⟩
  simp [m__law_values, g__law_values, mOf, outM, startD, sRet, fMk, aCons, aNil, fComp, iOfA, fVar, ra, wipeL, h3, zc, bTuple]
def startsV : List D := [.str (Str.ofString "a"), .str (Str.ofString "ab"), .str (Str.ofString "b"), .str (Str.ofString "A"), .str (Str.ofString " "), .str (Str.ofString "1"), .str (Str.ofString "-"), .str (Str.ofString "N"), .str (Str.ofString "customer"), .str (Str.ofString "abc")]
def stB : D → Bool | .str x => asc 10 x && decide (0 < x.length) | _ => false
theorem allSt : startsV.all stB = true := by decide +kernel
theorem test_ok {st : Store} {n : Nat} {w : Int} (t : Tp st n) (h0 : 0 < w) (h1 : w ≤ 10) : ∃ c st', m__law_test [.ref n, .int w] st = some (C.d c, st') ∧ c.ok w.toNat ∧ c.ht = 1 ∧ Tp st' n ∧ Fr n st st' ∧ st'.length = st.length := by
  obtain ⟨co, s1, g1, c0, c1, t1, f1, l1⟩ := pick_ok t (s := w) h0 (by omega)
  obtain ⟨r, s2, g2, r0, r6, t2, f2, l2⟩ := pick_ok t1 (s := 6) (by decide) (by decide)
  have hc : ((co.toNat : Nat) : Int) = co := Int.toNat_of_nonneg c0
  have hlt : co.toNat < w.toNat := by omega
  have z1 : 1 ≤ sizeLine := by decide
  have z3 : 3 ≤ sizeLine := by decide
  have f12 := f1.trans f2
  have l12 : s2.length = st.length := by rw [l2, l1]
  by_cases k0 : r = 0
  · subst k0
    exact ⟨.all, s2, by simp [m__law_test, g__law_test, mOf, outM, startD, sSeq, sPar, par2, fCall, aCons, aNil, fVar, fC, e_pick, g1, g2, sIf, fTest, fOp, opEq_int, asB, sRet, fMk, mkTup, z1, C.d], trivial, rfl, t2, f12, l12⟩
  · have q0 : (r == 0) = false := by simp [k0]
    by_cases k1 : r = 1
    · subst k1
      obtain ⟨v, s3, g3, pv, t3, f3, l3⟩ := value_ok t2
      exact ⟨.eq co.toNat v, s3, by simp [m__law_test, g__law_test, mOf, outM, startD, sSeq, sPar, par2, fCall, aCons, aNil, fVar, fC, e_pick, g1, g2, sIf, sNil, fTest, fOp, opEq_int, asB, sRet, fMk, mkTup, z3, C.d, g3, hc], ⟨hlt, pv⟩, rfl, t3, f12.trans f3, by rw [l3, l12]⟩
    · have q1 : (r == 1) = false := by simp [k1]
      by_cases k4 : r < 4
      · obtain ⟨v, s3, g3, pv, t3, f3, l3⟩ := value_ok t2
        exact ⟨.lt co.toNat v, s3, by simp [m__law_test, g__law_test, mOf, outM, startD, sSeq, sPar, par2, fCall, aCons, aNil, fVar, fC, e_pick, g1, g2, sIf, sNil, fTest, fOp, opEq_int, opLt_int, asB, q0, q1, k4, sRet, fMk, mkTup, z3, C.d, g3, hc], ⟨hlt, pv⟩, rfl, t3, f12.trans f3, by rw [l3, l12]⟩
      · by_cases k5 : r = 4
        · subst k5
          obtain ⟨d, s3, g3, md, t3, f3, l3⟩ := one_ok (xs := startsV) t2 (by decide) (by decide)
          have hs := List.all_eq_true.mp allSt d md
          obtain ⟨x, rfl, gx⟩ : ∃ x, d = .str x ∧ (asc 10 x && decide (0 < x.length)) = true := by
            cases d <;> first
              | exact ⟨_, rfl, hs⟩
              | cases hs
          rw [Bool.and_eq_true] at gx
          have z10 : 10 ≤ sizeLine := by decide
          simp only [startsV] at g3
          exact ⟨.st co.toNat x, s3, by simp [m__law_test, g__law_test, mOf, outM, startD, sSeq, sPar, par2, fCall, aCons, aNil, fVar, fC, e_pick, e_one, g1, g2, sIf, sNil, fTest, fOp, opEq_int, opLt_int, asB, sRet, fMk, mkTup, mkLst, z3, z10, C.d, g3, hc], ⟨hlt, asc_gs gx.1, of_decide_eq_true gx.2⟩, rfl, t3, f12.trans f3, by rw [l3, l12]⟩
        · have q4 : (r == 4) = false := by simp [k5]
          obtain ⟨a, s3, g3, a0, a4, t3, f3, l3⟩ := pick_ok t2 (s := 4) (by decide) (by decide)
          obtain ⟨b, s4, g4, b0, b4, t4, f4, l4⟩ := pick_ok t3 (s := 4) (by decide) (by decide)
          obtain ⟨d, s5, g5, md, t5, f5, l5⟩ := one_ok (xs := [.int a, .int (4 + b)]) t4 (by simp) (by simp)
          obtain ⟨m, rfl, m0, m8⟩ : ∃ m : Int, d = .int m ∧ 0 ≤ m ∧ m < 8 := by
            simp only [List.mem_cons, List.not_mem_nil, or_false] at md
            rcases md with rfl | rfl
            · exact ⟨_, rfl, by omega, by omega⟩
            · exact ⟨_, rfl, by omega, by omega⟩
          obtain ⟨vs, s6, g6, l6, p6, t6, f6, q6⟩ := loopC_draw2 (is := [5]) (bd := b1) (f := fCall m__law_value (aCons (fVar 0) aNil)) (n := n) (P := fun v => pvB v = true)
            (env := [some (.ref n), some (.int w), some (.int co), some (.int r), some (.int (1 + m)), none]) (ds := rg 0 (1 + m)) (fun d hd => ⟨[d], rfl, fun s t => by
              obtain ⟨v, s', x1, x2, x3, x4, x5⟩ := value_ok t
              exact ⟨v, s', by simp [fCall, aCons, aNil, fVar, setL, x1], x2, x3, x4, x5⟩⟩) t5
          rw [rg_len] at l6
          have ra := asR1_ok (n := 1 + m) (by omega) (by omega)
          have z2 : 2 ≤ sizeLine := by decide
          have zc : vs.length ≤ sizeLine := Nat.le_trans (by rw [l6]; omega) (show 10 ≤ sizeLine by decide)
          refine ⟨.one co.toNat vs, s6, ?_, ⟨hlt, by omega, by omega, p6⟩, rfl, t6, (((f12.trans f3).trans f4).trans f5).trans f6, by rw [q6, l5, l4, l3, l12]⟩
          simp [m__law_test, g__law_test, mOf, outM, startD, sSeq, sPar, par2, fCall, aCons, aNil, fVar, fC, e_pick, e_one, g1, g2, g3, g4, sIf, sNil, sAsg, gN, fTest, fOp, opEq_int, opLt_int, opAdd_int, asB, q0, q1, k4, q4, sRet, fMk, mkTup, mkLst, z2, z3, C.d, hc, g5, fComp, iOfA, ra, wipeL]
          simp [g6, zc, bTuple, z3]
theorem cond_ok : ∀ (k : Nat) {st : Store} {n : Nat} {w dp : Int}, Tp st n → 0 < w → w ≤ 10 → 0 ≤ dp → dp < k → ∃ c st', m__law_condition k [.ref n, .int w, .int dp] st = some (C.d c, st') ∧ c.ok w.toNat ∧ c.ht ≤ k ∧ Tp st' n ∧ Fr n st st' ∧ st'.length = st.length
  | 0, _, _, _, _, _, _, _, h, h2 => by omega
  | k + 1, st, n, w, dp, t, h0, h1, h2, h3 => by
    obtain ⟨r, s1, g1, r0, r6, t1, f1, l1⟩ := pick_ok t (s := 6) (by decide) (by decide)
    by_cases c1 : dp = 0 ∨ r < 2
    · obtain ⟨c, s2, g2, ok, hh, t2, f2, l2⟩ := test_ok t1 h0 h1
      refine ⟨c, s2, ?_, ok, by omega, t2, f1.trans f2, by rw [l2, l1]⟩
      rcases c1 with rfl | c1
      · simp [m__law_condition, g__law_condition, mOf, outM, startD, sSeq, sAsg, gN, sIf, sRet, fCall, aCons, aNil, fVar, fC, e_pick, g1, fOrT, fTest, fOp, opEq_int, asB, g2]
      · by_cases z : dp = 0
        · subst z
          simp [m__law_condition, g__law_condition, mOf, outM, startD, sSeq, sAsg, gN, sIf, sRet, fCall, aCons, aNil, fVar, fC, e_pick, g1, fOrT, fTest, fOp, opEq_int, asB, g2]
        · have z' : (dp == 0) = false := by simp [z]
          simp [m__law_condition, g__law_condition, mOf, outM, startD, sSeq, sAsg, gN, sIf, sRet, fCall, aCons, aNil, fVar, fC, e_pick, g1, fOrT, fTest, fOp, opEq_int, opLt_int, c1, z', asB, g2]
    · have c2 : ¬ dp = 0 := fun z => c1 (.inl z)
      have c3 : ¬ r < 2 := fun z => c1 (.inr z)
      have q0 : (dp == 0) = false := by simp [c2]
      have z1 : 1 ≤ sizeLine := by decide
      have z2 : 2 ≤ sizeLine := by decide
      by_cases c4 : r = 2
      · subst c4
        obtain ⟨c, s2, g2, ok, hh, t2, f2, l2⟩ := cond_ok k t1 h0 h1 (show 0 ≤ dp - 1 by omega) (by omega)
        refine ⟨.not c, s2, ?_, ok, Nat.succ_le_succ hh, t2, f1.trans f2, by rw [l2, l1]⟩
        simp [m__law_condition, g__law_condition, mOf, outM, startD, sSeq, sAsg, gN, sIf, sNil, sRet, fCall, aCons, aNil, fVar, fC, e_pick, g1, fOrT, fTest, fOp, opEq_int, opLt_int, subI_int, asB, q0, g2, fMk, mkTup, z2, C.d]
      · have q2 : (r == 2) = false := by simp [c4]
        obtain ⟨c, s2, g2, ok2, hh2, t2, f2, l2⟩ := cond_ok k t1 h0 h1 (show 0 ≤ dp - 1 by omega) (by omega)
        obtain ⟨e, s3, g3, ok3, hh3, t3, f3, l3⟩ := cond_ok k t2 h0 h1 (show 0 ≤ dp - 1 by omega) (by omega)
        obtain ⟨d, s4, g4, md, t4, f4, l4⟩ := one_ok (xs := [.str (Str.ofString "and"), .str (Str.ofString "or")]) t3 (by simp) (by simp)
        have fin : ∀ x : Str, d = .str x → m__law_condition (k + 1) [.ref n, .int w, .int dp] st = some (.tup [.str x, c.d, e.d], s4) := fun x hx => by
          subst hx
          have ad : opAdd (.tup [.str x]) (.tup [c.d, e.d]) = some (.tup [.str x, c.d, e.d]) := addT_ok (by simp)
          simp [m__law_condition, g__law_condition, mOf, outM, startD, sSeq, sAsg, gN, sIf, sNil, sRet, fCall, aCons, aNil, fVar, fC, e_pick, e_one, g1, fOrT, fTest, fOp, opEq_int, opLt_int, subI_int, asB, q0, c3, q2, g2, g3, g4, fMk, mkTup, mkLst, z1, z2, ad]
        have fr := ((f1.trans f2).trans f3).trans f4
        have ln : s4.length = st.length := by rw [l4, l3, l2, l1]
        simp only [List.mem_cons, List.not_mem_nil, or_false] at md
        rcases md with hd | hd
        · exact ⟨.and c e, s4, fin _ hd, ⟨ok2, ok3⟩, Nat.succ_le_succ (Nat.max_le.mpr ⟨hh2, hh3⟩), t4, fr, ln⟩
        · exact ⟨.or c e, s4, fin _ hd, ⟨ok2, ok3⟩, Nat.succ_le_succ (Nat.max_le.mpr ⟨hh2, hh3⟩), t4, fr, ln⟩
end LW
namespace LW
open PySem PySem.Spec PyProof.Rows L2 DL TL
def atV (vs : List D) (c : Nat) : D := (vs[c]?).getD .non
theorem ix0 {a : D} {r : List D} : L2.atI (a :: r) 0 = some a := atI_nat (j := 0) rfl
theorem ix1 {a b : D} {r : List D} : L2.atI (a :: b :: r) 1 = some b := atI_nat (j := 1) rfl
theorem ix2 {a b c : D} {r : List D} : L2.atI (a :: b :: c :: r) 2 = some c := atI_nat (j := 2) rfl
/-- a text that starts so -/
def stV (x : Str) : D → Bool | .str z => Txt.startswith z x | _ => false
/-- what a condition means -/
def sat (vs : List D) : C → Bool
  | .all => true
  | .eq c v => vEq (atV vs c) v
  | .lt c v => decide (cmpV (atV vs c) v < 0)
  | .st c x => stV x (atV vs c)
  | .one c us => us.any fun u => vEq u (atV vs c)
  | .not p => !sat vs p
  | .and p q => sat vs p && sat vs q
  | .or p q => sat vs p || sat vs q
theorem eqF_pv {a b : D} (ha : pvB a = true) (hb : pvB b = true) : eqF a b = some (vEq a b) := by
  cases a <;> cases b <;> first
    | rfl
    | (cases ha; done)
    | (cases hb; done)
theorem flat_pv {a : D} (ha : pvB a = true) : flatD a = true := by
  cases a <;> first
    | rfl
    | (cases ha; done)
theorem anyF_pv {v : D} (hv : pvB v = true) : ∀ {us : List D}, (∀ u ∈ us, pvB u = true) → anyF v us = some (us.any fun u => vEq u v)
  | [], _ => rfl
  | u :: us, h => by
    have := anyF_pv hv fun x hx => h x (List.mem_cons_of_mem _ hx)
    simp [anyF, eqF_pv (h u List.mem_cons_self) hv, this]
theorem at_val {vs : List D} {c : Nat} (h : c < vs.length) : L2.atI vs (c : Int) = some (atV vs c) := by
  rw [atI_nat (List.getElem?_eq_getElem h)]
  simp [atV, List.getElem?_eq_getElem h]
theorem mem_val {vs : List D} {c : Nat} (h : c < vs.length) : atV vs c ∈ vs := by
  simp [atV, List.getElem?_eq_getElem h]
/-! the law's own reading -/
def rkD : D → D
  | .non => .tup [.int 0, .int 0]
  | .str x => .tup [.int 2, .str x]
  | v => .tup [.int 1, v]
theorem rk_sm {v : D} (hv : pvB v = true) : Sm 1 100 (rkD v) := by
  cases v with
  | non => exact (Sm.tup (SmL.cons (Sm.int (i := 0) (by decide)) (SmL.cons (Sm.int (i := 0) (by decide)) SmL.nil))).mono (Nat.le_refl _) (by decide)
  | int i => exact (Sm.tup (SmL.cons (Sm.int (i := 1) (by decide)) (SmL.cons (pv_sm hv) SmL.nil))).mono (Nat.le_refl _) (by decide)
  | str i => exact (Sm.tup (SmL.cons (Sm.int (i := 2) (by decide)) (SmL.cons (pv_sm hv) SmL.nil))).mono (Nat.le_refl _) (by decide)
  | _ => cases hv
/-- the data of a rank -/
def rkP : D → PyData
  | .non => .tuple [.int 0, .int 0]
  | .str x => .tuple [.int 2, .str x]
  | .int i => .tuple [.int 1, .int i]
  | _ => .none
theorem rk_py {v : D} (hv : pvB v = true) : toPy (rkD v) = some (rkP v) := by
  cases v <;> first
    | rfl
    | (cases hv; done)
theorem rk_shaped {v : D} (hv : pvB v = true) : SeqAt.shaped (rkP v) = true := by
  obtain ⟨p, h1, h2⟩ := (rk_sm hv).shaped (by decide)
  rw [rk_py hv] at h1
  cases h1
  exact h2
theorem rk_eqv {v u : D} (hv : pvB v = true) (hu : pvB u = true) : PyData.eqv (rkP v) (rkP u) = vEq v u := by
  cases v <;> cases u <;> first
    | (cases hv; done)
    | (cases hu; done)
    | (simp [rkP, PyData.eqv, PyData.eqvAll, vEq]; done)
    | rfl
theorem rk_eq {v u : D} (hv : pvB v = true) (hu : pvB u = true) : opEq (rkD v) (rkD u) = some (.bl (vEq v u)) := by
  simp [opEq, rk_py hv, rk_py hu, rk_shaped hv, rk_shaped hu, rk_eqv hv hu]
theorem rk_lt {v u : D} (hv : pvB v = true) (hu : pvB u = true) : opLtD (rkD v) (rkD u) = some (.bl (decide (cmpV v u < 0))) := by
  cases v <;> cases u <;> first
    | (cases hv; done)
    | (cases hu; done)
    | skip
  · simp [rkD, opLtD, opLt, orD, ltI, ltS, onI, onS, lt2, eqF, cmpV, vEq]
  · simp [rkD, opLtD, opLt, orD, ltI, ltS, onI, onS, lt2, eqF, cmpV, vEq, kindP]
  · simp [rkD, opLtD, opLt, orD, ltI, ltS, onI, onS, lt2, eqF, cmpV, vEq, kindP]
  · simp [rkD, opLtD, opLt, orD, ltI, ltS, onI, onS, lt2, eqF, cmpV, vEq, kindP]
  · rename_i i j
    by_cases e : i = j
    · simp [rkD, opLtD, opLt, orD, ltI, ltS, onI, onS, lt2, eqF, cmpV, vEq, kindP, vLt, e]
    · by_cases l : i < j <;> simp [rkD, opLtD, opLt, orD, ltI, ltS, onI, onS, lt2, eqF, cmpV, vEq, kindP, vLt, e, l]
  · simp [rkD, opLtD, opLt, orD, ltI, ltS, onI, onS, lt2, eqF, cmpV, vEq, kindP]
  · simp [rkD, opLtD, opLt, orD, ltI, ltS, onI, onS, lt2, eqF, cmpV, vEq, kindP]
  · simp [rkD, opLtD, opLt, orD, ltI, ltS, onI, onS, lt2, eqF, cmpV, vEq, kindP]
  · rename_i i j
    by_cases e : i = j
    · simp [rkD, opLtD, opLt, orD, ltI, ltS, onI, onS, lt2, eqF, cmpV, vEq, kindP, vLt, e]
    · have tt : tl i < tl j ↔ i.cps.toList < j.cps.toList := Iff.rfl
      by_cases l : i.cps.toList < j.cps.toList <;> simp [rkD, opLtD, opLt, orD, ltI, ltS, onI, onS, lt2, eqF, cmpV, vEq, kindP, vLt, e, l, tt]
theorem rk_pyL : ∀ {us : List D}, (∀ u ∈ us, pvB u = true) → toPyL (us.map rkD) = some (us.map rkP)
  | [], _ => rfl
  | u :: us, h => by
    have := rk_pyL fun x hx => h x (List.mem_cons_of_mem _ hx)
    simp [toPyL, rk_py (h u List.mem_cons_self), this]
theorem rk_any {v : D} (hv : pvB v = true) : ∀ {us : List D}, (∀ u ∈ us, pvB u = true) → ((us.map rkP).any fun z => PyData.eqv z (rkP v)) = us.any fun u => vEq u v
  | [], _ => rfl
  | u :: us, h => by
    have := rk_any hv fun x hx => h x (List.mem_cons_of_mem _ hx)
    rw [List.map_cons, List.any_cons, List.any_cons, this, rk_eqv (h u List.mem_cons_self) hv]
theorem rk_in {v : D} (hv : pvB v = true) {us : List D} (hu : ∀ u ∈ us, pvB u = true) : opIn (rkD v) (.lst (us.map rkD)) = some (.bl (us.any fun u => vEq u v)) := by
  have s1 : SmL 1 ((us.map rkD).length * 101) (us.map rkD) := SmL.all fun x hx => by
    obtain ⟨u, h1, rfl⟩ := List.mem_map.mp hx
    exact rk_sm (hu u h1)
  obtain ⟨p, h1, h2⟩ := (Sm.lst s1).shaped (by decide)
  simp only [toPy, rk_pyL hu, Option.map_some, Option.some.injEq] at h1
  subst h1
  have fl : flatD (rkD v) = false := by
    cases v <;> first
      | rfl
      | (cases hv; done)
  simp [opIn, orD, inSeq, fl, inPy, rk_py hv, rk_pyL hu, rk_shaped hv, h2]
  have e := rk_any hv hu
  rw [List.any_map] at e
  exact e
theorem starts_cut {z x : Str} : (cutS z none (some (x.length : Int)) == x) = Txt.startswith z x := by
  have e1 : tl (cutS z none (some (x.length : Int))) = (tl z).take (tl x).length := by
    unfold cutS
    rw [HT.sIx_none, HT.sIx_nat]
    show ((z.cps.toList.drop 0).take (min x.length z.length - 0)).toArray.toList = _
    rw [List.drop_zero, Nat.sub_zero, len_tl x, len_tl z, ← List.take_eq_take_min]
  have e2 : Builtin.Str.subAt z x 0 = ((tl z).take (tl x).length == tl x) := by
    rw [StrLaws.subAt_eq, List.drop_zero, len_tl x]
  unfold Txt.startswith
  rw [e2, len_tl x, len_tl z, Nat.zero_add]
  rw [len_tl x] at e1
  generalize cutS z none (some ((tl x).length : Int)) = q at *
  by_cases h : (tl z).take (tl x).length = tl x
  · have hc : q = x := ext_tl (e1.trans h)
    have hl : (tl x).length ≤ (tl z).length := by
      have := congrArg List.length h
      rw [List.length_take] at this
      omega
    rw [hc, h, beq_self_eq_true, beq_self_eq_true, decide_eq_true hl]
    rfl
  · have hc : ¬ q = x := fun y => h (by rw [← e1, y])
    rw [show (q == x) = false from beq_eq_false_iff_ne.mpr hc, show ((tl z).take (tl x).length == tl x) = false from beq_eq_false_iff_ne.mpr h, Bool.and_false]
theorem cut_gs {n : Nat} {z : Str} (h : GS n z) (hi : Option Int) : GS n (cutS z none hi) := by
  have e : tl (cutS z none hi) = ((tl z).drop (HT.sIx z.length 0 none)).take (HT.sIx z.length z.length hi - HT.sIx z.length 0 none) := rfl
  refine ⟨?_, fun c hc => h.2 c ?_⟩
  · rw [len_tl, e, List.length_take, List.length_drop]
    have := h.1
    rw [len_tl] at this
    omega
  · rw [e] at hc
    exact List.mem_of_mem_drop (List.mem_of_mem_take hc)
theorem kindIn {s : String} {b : Bool} (h1 : opEq (.str (Str.ofString s)) (.str (Str.ofString "and")) = some (.bl true) ∨ True) (h : (Str.ofString "and" == Str.ofString s || Str.ofString "or" == Str.ofString s) = b) :
    inSeq false (.str (Str.ofString s)) (.tup [.str (Str.ofString "and"), .str (Str.ofString "or")]) = some (.bl b) := by
  subst h
  simp [inSeq, flatD, anyF, eqF]
theorem ks : inSeq false (.str (Str.ofString "and")) (.tup [.str (Str.ofString "and"), .str (Str.ofString "or")]) = some (.bl true) ∧ inSeq false (.str (Str.ofString "or")) (.tup [.str (Str.ofString "and"), .str (Str.ofString "or")]) = some (.bl true) ∧
    inSeq false (.str (Str.ofString "equal")) (.tup [.str (Str.ofString "and"), .str (Str.ofString "or")]) = some (.bl false) ∧ inSeq false (.str (Str.ofString "less")) (.tup [.str (Str.ofString "and"), .str (Str.ofString "or")]) = some (.bl false) ∧
    inSeq false (.str (Str.ofString "starts")) (.tup [.str (Str.ofString "and"), .str (Str.ofString "or")]) = some (.bl false) ∧ inSeq false (.str (Str.ofString "one_of")) (.tup [.str (Str.ofString "and"), .str (Str.ofString "or")]) = some (.bl false) :=
  ⟨kindIn (.inr trivial) (by decide +kernel), kindIn (.inr trivial) (by decide +kernel), kindIn (.inr trivial) (by decide +kernel), kindIn (.inr trivial) (by decide +kernel), kindIn (.inr trivial) (by decide +kernel), kindIn (.inr trivial) (by decide +kernel)⟩
theorem cut1 {a : D} {r : List D} : DL.cutD (a :: r) (some 1) none = r := by
  unfold DL.cutD
  rw [show (1 : Int) = ((1 : Nat) : Int) from rfl, HT.sIx_nat, HT.sIx_none]
  simp
end LW
namespace LW
open PySem PySem.Spec PyProof.Rows L2 DL TL
theorem sat_st {v : D} (hv : pvB v = true) {x : Str} (hx : GS 10 x) (env : Lo) (st : Store) (h4 : env[4]? = some (some v)) (h5 : env[5]? = some (some (.str x))) :
    (fAnd (fIsi "str" (fVar 4)) (fOp opEq (fSliceS (fVar 4) oNone (oSome (fMk bLen (aCons (fVar 5) aNil)))) (fVar 5))) env st = some (.bl (stV x v), st) := by
  have z : x.length ≤ sizeLine := Nat.le_trans hx.1 (by decide)
  cases v with
  | str y =>
    have zy : y.length ≤ sizeLine := Nat.le_trans (asc_gs hv).1 (by decide)
    have e := opEq_fv (m := 40) (n := 10) (a := .str (cutS y none (some (x.length : Int)))) (b := .str x) (cut_gs (asc_gs hv) _) hx
    have e2 : vEq (.str (cutS y none (some (x.length : Int)))) (.str x) = Txt.startswith y x := starts_cut
    rw [e2] at e
    simp [fAnd, fIsi, fVar, h4, h5, tyD, isiB, asB, fOp, fSliceS, oNone, oSome, fMk, bLen, lenL, aCons, aNil, z, zy, slS, e, stV]
  | non => simp [fAnd, fIsi, fVar, h4, h5, tyD, isiB, asB, stV]
  | int i => simp [fAnd, fIsi, fVar, h4, h5, tyD, isiB, asB, stV]
  | _ => cases hv
end LW
/-! What simp knows of the data level. -/
namespace DL
open PySem PySem.Spec PyProof.Rows L2 TL
@[simp] theorem u_mOf (n : Nat) (g : FS) (ds : List D) (st : Store) : mOf n g ds st = outM (g (startD n ds) st) := rfl
@[simp] theorem u_outM1 (d : D) (e : Lo) (s : Store) : outM (some (.rt d, e, s)) = some (d, s) := rfl
@[simp] theorem u_outM2 (e : Lo) (s : Store) : outM (some (.nx, e, s)) = some (.non, s) := rfl
@[simp] theorem u_startD (n : Nat) (ds : List D) : startD n ds = ds.map some ++ List.replicate (n - ds.length) none := rfl
@[simp] theorem u_sSeq (g h : FS) (env : Lo) (st : Store) : sSeq g h env st = (g env st).bind fun p => match p with | (.nx, e1, s1) => h e1 s1 | q => some q := rfl
@[simp] theorem u_sAsg (f : F) (g : FG) (env : Lo) (st : Store) : sAsg f g env st = (f env st).bind fun p => (g p.1 env).map fun e1 => (.nx, e1, p.2) := rfl
@[simp] theorem u_gN (i : Nat) (d : D) (env : Lo) : gN i d env = some (env.set i (some d)) := rfl
@[simp] theorem u_gT (n : Nat) (h : FGs) (ds : List D) (env : Lo) : gT n h (.tup ds) env = if ds.length = n then h ds env else none := rfl
@[simp] theorem u_gNil (env : Lo) : gNil' [] env = some env := rfl
@[simp] theorem u_gCons (g : FG) (h : FGs) (d : D) (r : List D) (env : Lo) : gCons' g h (d :: r) env = (g d env).bind fun e1 => h r e1 := rfl
@[simp] theorem u_sIf (t : FT) (g h : FS) (env : Lo) (st : Store) : sIf t g h env st = (t env st).bind fun p => if p.1 = true then g env p.2 else h env p.2 := rfl
@[simp] theorem u_sNil (env : Lo) (st : Store) : sNil env st = some (.nx, env, st) := rfl
@[simp] theorem u_sRet (f : F) (env : Lo) (st : Store) : sRet f env st = (f env st).map fun p => (.rt p.1, env, p.2) := rfl
@[simp] theorem u_sDrop (f : F) (env : Lo) (st : Store) : sDrop f env st = (f env st).map fun p => (.nx, env, p.2) := rfl
@[simp] theorem u_sRetN (env : Lo) (st : Store) : sRetN env st = some (.rt .non, env, st) := rfl
@[simp] theorem u_sBrk (env : Lo) (st : Store) : sBrk env st = some (.bk, env, st) := rfl
@[simp] theorem u_sCnt (env : Lo) (st : Store) : sCnt env st = some (.ct, env, st) := rfl
@[simp] theorem u_fVar (i : Nat) (env : Lo) (st : Store) : fVar i env st = match env[i]? with | some (some d) => some (d, st) | _ => none := rfl
@[simp] theorem u_fC (d : D) (env : Lo) (st : Store) : fC d env st = some (d, st) := rfl
@[simp] theorem u_fOp (g : D → D → Option D) (fa fb : F) (env : Lo) (st : Store) : fOp g fa fb env st = (fa env st).bind fun p => (fb env p.2).bind fun q => (g p.1 q.1).map fun d => (d, q.2) := rfl
@[simp] theorem u_fTest (f : F) (env : Lo) (st : Store) : fTest f env st = (f env st).bind fun p => (asB p.1).map fun b => (b, p.2) := rfl
@[simp] theorem u_asB (b : Bool) : asB (.bl b) = some b := rfl
@[simp] theorem u_fMk (g : List D → Store → Option D) (fa : FA) (env : Lo) (st : Store) : fMk g fa env st = (fa env st).bind fun p => (g p.1 p.2).map fun d => (d, p.2) := rfl
@[simp] theorem u_aNil (env : Lo) (st : Store) : aNil env st = some ([], st) := rfl
@[simp] theorem u_aCons (f : F) (g : FA) (env : Lo) (st : Store) : aCons f g env st = (f env st).bind fun p => (g env p.2).map fun q => (p.1 :: q.1, q.2) := rfl
@[simp] theorem u_aStar (f : F) (g : FA) (env : Lo) (st : Store) : aStar f g env st = (f env st).bind fun p => (asSeq p.1 p.2).bind fun ds => (g env p.2).map fun q => (ds ++ q.1, q.2) := rfl
@[simp] theorem u_asSeqL (ds : List D) (st : Store) : asSeq (.lst ds) st = some ds := rfl
@[simp] theorem u_asSeqT (ds : List D) (st : Store) : asSeq (.tup ds) st = some ds := rfl
@[simp] theorem u_fCall (m : FM) (fa : FA) (env : Lo) (st : Store) : fCall m fa env st = (fa env st).bind fun p => m p.1 p.2 := rfl
@[simp] theorem u_fAndT (f g : FT) (env : Lo) (st : Store) : fAndT f g env st = (f env st).bind fun p => if p.1 = true then g env p.2 else some (false, p.2) := rfl
@[simp] theorem u_fOrT (f g : FT) (env : Lo) (st : Store) : fOrT f g env st = (f env st).bind fun p => if p.1 = true then some (true, p.2) else g env p.2 := rfl
@[simp] theorem u_fNotT (f : FT) (env : Lo) (st : Store) : fNotT f env st = (f env st).map fun p => (!p.1, p.2) := rfl
@[simp] theorem u_fAnd (f g : F) (env : Lo) (st : Store) : fAnd f g env st = (f env st).bind fun p => (asB p.1).bind fun b => if b = true then g env p.2 else some (.bl false, p.2) := rfl
@[simp] theorem u_fOr (f g : F) (env : Lo) (st : Store) : fOr f g env st = (f env st).bind fun p => (asB p.1).bind fun b => if b = true then some (.bl true, p.2) else g env p.2 := rfl
@[simp] theorem u_fNot (f : F) (env : Lo) (st : Store) : fNot f env st = (f env st).bind fun p => (asB p.1).map fun b => (.bl (!b), p.2) := rfl
@[simp] theorem u_fIfE (t : FT) (f g : F) (env : Lo) (st : Store) : fIfE t f g env st = (t env st).bind fun p => if p.1 = true then f env p.2 else g env p.2 := rfl
@[simp] theorem u_fChain (g g' : D → D → Option D) (fa fb fc : F) (env : Lo) (st : Store) : fChain g g' fa fb fc env st = (fa env st).bind fun p => (fb env p.2).bind fun q => (g p.1 q.1).bind fun z => (asB z).bind fun k => if k = true then (fc env q.2).bind fun w => (g' q.1 w.1).map fun d => (d, w.2) else some (.bl false, q.2) := rfl
@[simp] theorem u_fSub (fa fb : F) (env : Lo) (st : Store) : fSub fa fb env st = (fa env st).bind fun p => (fb env p.2).bind fun q => (ixD p.1 q.1 q.2).map fun d => (d, q.2) := rfl
@[simp] theorem u_ixT (ds : List D) (i : Int) (st : Store) : ixD (.tup ds) (.int i) st = atI ds i := rfl
@[simp] theorem u_ixL (ds : List D) (i : Int) (st : Store) : ixD (.lst ds) (.int i) st = atI ds i := rfl
@[simp] theorem u_fSlice (fa : F) (lo hi : FO) (env : Lo) (st : Store) : fSlice fa lo hi env st = (fa env st).bind fun p => (lo env p.2).bind fun q => (hi env q.2).bind fun w => (slD p.1 q.1 w.1).map fun d => (d, w.2) := rfl
@[simp] theorem u_oNone (env : Lo) (st : Store) : oNone env st = some (none, st) := rfl
@[simp] theorem u_oSome (f : F) (env : Lo) (st : Store) : oSome f env st = (f env st).bind fun p => match p.1 with | .int i => some (some i, p.2) | _ => none := rfl
@[simp] theorem u_fMt (g : D → List D → Option D) (fo : F) (fa : FA) (env : Lo) (st : Store) : fMt g fo fa env st = (fo env st).bind fun p => (fa env p.2).bind fun q => (g p.1 q.1).map fun d => (d, q.2) := rfl
@[simp] theorem u_fUn (g : D → Option D) (fa : F) (env : Lo) (st : Store) : fUn g fa env st = (fa env st).bind fun p => (g p.1).map fun d => (d, p.2) := rfl
@[simp] theorem u_negI (i : Int) : negI (.int i) = some (.int (-i)) := rfl
@[simp] theorem u_fIsi (T : String) (f : F) (env : Lo) (st : Store) : fIsi T f env st = (f env st).bind fun p => (tyD p.1 p.2).map fun a => (.bl (isiB a T), p.2) := rfl
@[simp] theorem u_sPar (f : List D → Lo → Option Lo) (fa : FA) (env : Lo) (st : Store) : sPar f fa env st = (fa env st).bind fun p => (f p.1 env).map fun e => (.nx, e, p.2) := rfl
@[simp] theorem u_par2 (i j : Nat) (x y : D) (env : Lo) : par2 i j [x, y] env = some ((env.set i (some x)).set j (some y)) := rfl
@[simp] theorem u_par3 (i j l : Nat) (x y z : D) (env : Lo) : par3 i j l [x, y, z] env = some (((env.set i (some x)).set j (some y)).set l (some z)) := rfl
@[simp] theorem u_mkTup (ds : List D) (st : Store) : mkTup ds st = if ds.length ≤ sizeLine then some (.tup ds) else none := rfl
@[simp] theorem u_mkLst (ds : List D) (st : Store) : mkLst ds st = if ds.length ≤ sizeLine then some (.lst ds) else none := rfl
@[simp] theorem u_sFor (fi : FI) (tg : FG) (body : FS) (env : Lo) (st : Store) : sFor fi tg body env st = (fi env st).bind fun p => loopS tg body p.1 env p.2 := rfl
@[simp] theorem u_sForG (fi : FIg) (tg : FG) (body : FS) (env : Lo) (st : Store) : sForG fi tg body env st = (fi env st).bind fun p => loopSG p.2.1 tg body p.1 env p.2.2 := rfl
@[simp] theorem u_iOf (a : D → Option (List D)) (f : F) (env : Lo) (st : Store) : iOf a f env st = (f env st).bind fun p => (a p.1).map fun ds => (ds, p.2) := rfl
@[simp] theorem u_asL (ds : List D) : asL (.lst ds) = some ds := rfl
@[simp] theorem u_asT (ds : List D) : asT (.tup ds) = some ds := rfl
@[simp] theorem u_iOfA (a : List D → Option (List D)) (f : FA) (env : Lo) (st : Store) : iOfA a f env st = (f env st).bind fun p => (a p.1).map fun ds => (ds, p.2) := rfl
@[simp] theorem u_fComp (fi : FI) (is : List Nat) (bd : FB) (t : FT) (f : F) (env : Lo) (st : Store) : fComp fi is bd t f env st = (fi env st).bind fun p => (loopC is bd t f p.1 (wipeL env is) p.2).bind fun q => if q.1.length ≤ sizeLine then some (.lst q.1, q.2) else none := rfl
@[simp] theorem u_fCompG (fi : FIg) (is : List Nat) (bd : FB) (t : FT) (f : F) (env : Lo) (st : Store) : fCompG fi is bd t f env st = (fi env st).bind fun p => (loopCG p.2.1 is bd t f p.1 (wipeL env is) p.2.2).bind fun q => if q.1.length ≤ sizeLine then some (.lst q.1, q.2) else none := rfl
@[simp] theorem u_wipe0 (env : Lo) : wipeL env [] = env := rfl
@[simp] theorem u_wipe1 (env : Lo) (i : Nat) (is : List Nat) : wipeL env (i :: is) = (wipeL env is).set i none := rfl
@[simp] theorem u_setL0 {α : Type} (vs : List α) (env : List (Option α)) : setL [] vs env = env := rfl
@[simp] theorem u_setL1 {α : Type} (i : Nat) (is : List Nat) (v : α) (vs : List α) (env : List (Option α)) : setL (i :: is) (v :: vs) env = setL is vs (env.set i (some v)) := rfl
@[simp] theorem u_b1 (d : D) : b1 d = some [d] := rfl
@[simp] theorem u_bTup (n : Nat) (c : List D → Option (List D)) (ds : List D) : bTup n c (.tup ds) = if ds.length = n then c ds else none := rfl
@[simp] theorem u_bCons (b : FB) (c : List D → Option (List D)) (d : D) (r : List D) : bCons b c (d :: r) = (b d).bind fun x => (c r).map fun y => x ++ y := rfl
@[simp] theorem u_bNil : bNil [] = some [] := rfl
@[simp] theorem u_tTrue (env : Lo) (st : Store) : tTrue env st = some (true, st) := rfl
@[simp] theorem u_bTupleL (xs : List D) (st : Store) : bTuple [.lst xs] st = some (.tup xs) := rfl
@[simp] theorem u_bTupleT (xs : List D) (st : Store) : bTuple [.tup xs] st = some (.tup xs) := rfl
@[simp] theorem u_bTupleR (n : Nat) (st : Store) : bTuple [.ref n] st = match st[n]? with | some (.lst xs) => some (.tup xs) | _ => none := rfl
@[simp] theorem u_lenL (xs : List D) (st : Store) : bLen [.lst xs] st = some (.int xs.length) := rfl
@[simp] theorem u_lenT (xs : List D) (st : Store) : bLen [.tup xs] st = some (.int xs.length) := rfl
theorem len_ref {n : Nat} {st : Store} {xs : List D} (h : st[n]? = some (.lst xs)) : bLen [.ref n] st = some (.int xs.length) := by simp [bLen, lenL, lenK, h]
@[simp] theorem u_fNewL (fa : FA) (env : Lo) (st : Store) : fNewL fa env st = (fa env st).bind fun p => if p.1.length ≤ sizeLine then some (.ref p.2.length, p.2 ++ [.lst p.1]) else none := rfl
@[simp] theorem u_addI (a b : Int) : opAdd (.int a) (.int b) = some (.int (a + b)) := opAdd_int a b
@[simp] theorem u_subI (a b : Int) : subI (.int a) (.int b) = some (.int (a - b)) := subI_int a b
@[simp] theorem u_ltI (a b : Int) : opLt (.int a) (.int b) = some (.bl (decide (a < b))) := opLt_int a b
@[simp] theorem u_leI (a b : Int) : opLe (.int a) (.int b) = some (.bl (decide (a ≤ b))) := opLe_int a b
@[simp] theorem u_gtI (a b : Int) : opGt (.int a) (.int b) = some (.bl (decide (b < a))) := opGt_int a b
@[simp] theorem u_geI (a b : Int) : opGe (.int a) (.int b) = some (.bl (decide (b ≤ a))) := opGe_int a b
@[simp] theorem sl0 : 0 ≤ sizeLine := Nat.zero_le _
@[simp] theorem sl1 : 1 ≤ sizeLine := by decide
@[simp] theorem sl2 : 2 ≤ sizeLine := by decide
@[simp] theorem sl3 : 3 ≤ sizeLine := by decide
@[simp] theorem sl4 : 4 ≤ sizeLine := by decide
@[simp] theorem sl5 : 5 ≤ sizeLine := by decide
@[simp] theorem sl6 : 6 ≤ sizeLine := by decide
@[simp] theorem sl7 : 7 ≤ sizeLine := by decide
@[simp] theorem sl8 : 8 ≤ sizeLine := by decide
@[simp] theorem sl9 : 9 ≤ sizeLine := by decide
@[simp] theorem sl10 : 10 ≤ sizeLine := by decide
theorem sl_of {n : Nat} (h : n ≤ 1000000) : n ≤ sizeLine := Nat.le_trans h (by decide)
/-! data whose repr goes through -/
theorem okL_all : ∀ {ds : List D}, (∀ d ∈ ds, okD d = true) → okL ds = true
  | [], _ => rfl
  | d :: ds, h => by
    show (okD d && okL ds) = true
    rw [h d List.mem_cons_self, okL_all fun x hx => h x (List.mem_cons_of_mem _ hx)]; rfl
theorem wL_all {m : Nat} : ∀ {ds : List D}, (∀ d ∈ ds, wD d ≤ m) → wL ds ≤ ds.length * (m + 1)
  | [], _ => by simp [wL]
  | d :: ds, h => by
    have h1 := h d List.mem_cons_self
    have h2 := wL_all fun x hx => h x (List.mem_cons_of_mem _ hx)
    show wD d + 1 + wL ds ≤ _
    rw [List.length_cons, Nat.succ_mul]
    omega
theorem hL_all {m : Nat} : ∀ {ds : List D}, (∀ d ∈ ds, hD d ≤ m) → hL ds ≤ m
  | [], _ => by simp [hL]
  | d :: ds, h => by
    show max (hD d) (hL ds) ≤ m
    exact Nat.max_le.mpr ⟨h d List.mem_cons_self, hL_all fun x hx => h x (List.mem_cons_of_mem _ hx)⟩
/-- fit for repr: all at once -/
structure Fit (d : D) (h w : Nat) : Prop where
  ok : okD d = true
  hd : hD d ≤ h
  wd : wD d ≤ w
theorem Fit.mono {d : D} {h w h' w' : Nat} (f : Fit d h w) (a : h ≤ h') (b : w ≤ w') : Fit d h' w' := ⟨f.ok, Nat.le_trans f.hd a, Nat.le_trans f.wd b⟩
structure FitL (ds : List D) (h w : Nat) : Prop where
  ok : okL ds = true
  hd : hL ds ≤ h
  wd : wL ds ≤ w
theorem FitL.nil : FitL [] 0 0 := ⟨rfl, Nat.le_refl _, Nat.le_refl _⟩
theorem FitL.cons {d : D} {ds : List D} {h1 h2 w1 w2 : Nat} (a : Fit d h1 w1) (b : FitL ds h2 w2) : FitL (d :: ds) (max h1 h2) (w1 + 1 + w2) :=
  ⟨by show (okD d && okL ds) = true; rw [a.ok, b.ok]; rfl, Nat.max_le.mpr ⟨Nat.le_trans a.hd (Nat.le_max_left _ _), Nat.le_trans b.hd (Nat.le_max_right _ _)⟩, Nat.add_le_add (Nat.add_le_add a.wd (Nat.le_refl 1)) b.wd⟩
theorem FitL.all {ds : List D} {h w : Nat} (a : ∀ d ∈ ds, Fit d h w) : FitL ds h (ds.length * (w + 1)) := ⟨okL_all fun d hd => (a d hd).ok, hL_all fun d hd => (a d hd).hd, wL_all fun d hd => (a d hd).wd⟩
theorem FitL.mono {ds : List D} {h w h' w' : Nat} (f : FitL ds h w) (a : h ≤ h') (b : w ≤ w') : FitL ds h' w' := ⟨f.ok, Nat.le_trans f.hd a, Nat.le_trans f.wd b⟩
theorem FitL.append {ds es : List D} {h1 h2 w1 w2 : Nat} (a : FitL ds h1 w1) (b : FitL es h2 w2) : FitL (ds ++ es) (max h1 h2) (w1 + w2) := by
  induction ds generalizing w1 with
  | nil => exact b.mono (Nat.le_max_right _ _) (Nat.le_add_left _ _)
  | cons d ds ih =>
    obtain ⟨o1, o2⟩ := Bool.and_eq_true_iff.mp (show (okD d && okL ds) = true from a.ok)
    have hh := Nat.max_le.mp (show max (hD d) (hL ds) ≤ h1 from a.hd)
    have ww : wD d + 1 + wL ds ≤ w1 := a.wd
    have := ih (w1 := wL ds) ⟨o2, hh.2, Nat.le_refl _⟩
    exact ⟨by show (okD d && okL (ds ++ es)) = true; rw [o1, this.ok]; rfl, Nat.max_le.mpr ⟨Nat.le_trans hh.1 (Nat.le_max_left _ _), this.hd⟩, by
      have := this.wd
      show wD d + 1 + wL (ds ++ es) ≤ _
      omega⟩
theorem Fit.tup {ds : List D} {h w : Nat} (f : FitL ds h w) : Fit (.tup ds) (h + 1) w := ⟨f.ok, Nat.succ_le_succ f.hd, f.wd⟩
theorem Fit.lst {ds : List D} {h w : Nat} (f : FitL ds h w) : Fit (.lst ds) (h + 1) w := ⟨f.ok, Nat.succ_le_succ f.hd, f.wd⟩
theorem Fit.non : Fit .non 0 0 := ⟨rfl, Nat.le_refl _, Nat.le_refl _⟩
theorem Fit.bl (b : Bool) : Fit (.bl b) 0 0 := ⟨rfl, Nat.le_refl _, Nat.le_refl _⟩
theorem Fit.int {i : Int} (h : -1000000000000000 < i ∧ i < 1000000000000000) : Fit (.int i) 0 210 := by
  refine ⟨decide_eq_true (show i.natAbs < 10 ^ 62 from ?_), Nat.le_refl _, Nat.le_refl _⟩
  have : (1000000000000000 : Nat) ≤ 10 ^ 62 := by decide
  omega
theorem Fit.str {n : Nat} {x : Str} (h : GS n x) : Fit (.str x) 0 n := ⟨List.all_eq_true.mpr fun c hc => decide_eq_true (h.2 c hc), Nat.le_refl _, h.1⟩
theorem Fit.repr {d : D} {h w : Nat} (f : Fit d h w) (l : h ≤ 64) (m : w ≤ 200000) : ∃ x, ∀ st, bReprA [d] st = some (.str x) := repr_any f.ok (Nat.le_trans f.hd l) (Nat.le_trans f.wd m)
/-- a comprehension over data that are images -/
theorem loopC_over {α : Type} {is : List Nat} {bd : FB} {f : F} {φ ψ : α → D} {env : Lo} {st : Store} : ∀ {l : List α}, (∀ x ∈ l, ∃ vs, bd (φ x) = some vs ∧ f (setL is vs env) st = some (ψ x, st)) → loopC is bd tTrue f (l.map φ) env st = some (l.map ψ, st)
  | [], _ => rfl
  | x :: l, h => by
    obtain ⟨ws, hb, hf⟩ := h x List.mem_cons_self
    have := loopC_over (l := l) fun d hd => h d (List.mem_cons_of_mem _ hd)
    simp [loopC, hb, tTrue, hf, this]
/-! one statement behind the other -/
theorem seq_step {g h : FS} {env e1 : Lo} {st s1 : Store} (x : g env st = some (.nx, e1, s1)) : sSeq g h env st = h e1 s1 := by rw [u_sSeq, x]; rfl
theorem seq_ret {g h : FS} {env e1 : Lo} {st s1 : Store} {d : D} (x : g env st = some (.rt d, e1, s1)) : sSeq g h env st = some (.rt d, e1, s1) := by rw [u_sSeq, x]; rfl
theorem for_step {fi : FI} {tg : FG} {body : FS} {env : Lo} {st s1 : Store} {ds : List D} (x : fi env st = some (ds, s1)) : sFor fi tg body env st = loopS tg body ds env s1 := by rw [u_sFor, x]; rfl
/-- .. with the number of turns told -/
theorem loopS_cnt {tg : FG} {body : FS} {I : Nat → Lo → Store → Prop} : ∀ {ds : List D} {k : Nat}, (∀ m, m < k + ds.length → k ≤ m → ∀ d ∈ ds, ∀ env st, I m env st → ∃ e1, tg d env = some e1 ∧ ∃ e2 s2, body e1 st = some (.nx, e2, s2) ∧ I (m + 1) e2 s2) →
    ∀ {env : Lo} {st : Store}, I k env st → ∃ e2 s2, loopS tg body ds env st = some (.nx, e2, s2) ∧ I (k + ds.length) e2 s2
  | [], k, _, env, st, i => ⟨env, st, rfl, i⟩
  | d :: ds, k, h, env, st, i => by
    obtain ⟨e1, h1, e2, s2, h2, h4⟩ := h k (by simp) (Nat.le_refl _) d List.mem_cons_self env st i
    obtain ⟨e3, s3, h5, h6⟩ := loopS_cnt (ds := ds) (k := k + 1) (fun m hm hk d hd => h m (by simp at *; omega) (by omega) d (List.mem_cons_of_mem _ hd)) h4
    refine ⟨e3, s3, ?_, by rw [List.length_cons, Nat.add_comm ds.length 1, ← Nat.add_assoc]; exact h6⟩
    simp [loopS, h1, h2, h5]
theorem loopSG_inv {P : Store → Prop} {tg : FG} {body : FS} (I : Lo → Store → Prop) (hP : ∀ env st, I env st → P st) : ∀ {ds : List D}, (∀ d ∈ ds, ∀ env st, I env st → ∃ e1, tg d env = some e1 ∧ ∃ o e2 s2, body e1 st = some (o, e2, s2) ∧ (o = .nx ∨ o = .ct) ∧ I e2 s2) →
    ∀ {env : Lo} {st : Store}, I env st → ∃ e2 s2, loopSG P tg body ds env st = some (.nx, e2, s2) ∧ I e2 s2
  | [], _, env, st, i => ⟨env, st, by rw [loopSG, if_pos (okP_t (hP env st i))], i⟩
  | d :: ds, h, env, st, i => by
    obtain ⟨e1, h1, o, e2, s2, h2, h3, h4⟩ := h d List.mem_cons_self env st i
    obtain ⟨e3, s3, h5, h6⟩ := loopSG_inv I hP (ds := ds) (fun d hd => h d (List.mem_cons_of_mem _ hd)) h4
    refine ⟨e3, s3, ?_, h6⟩
    rw [loopSG, if_pos (okP_t (hP env st i)), h1, Option.bind_some, h2, Option.bind_some]
    rcases h3 with rfl | rfl
    · exact h5
    · exact h5
theorem forG_step {fi : FIg} {tg : FG} {body : FS} {env : Lo} {st s1 : Store} {ds : List D} {P : Store → Prop} (x : fi env st = some (ds, P, s1)) : sForG fi tg body env st = loopSG P tg body ds env s1 := by rw [u_sForG, x]; rfl
/-! ints looked for among ints -/
theorem anyF_ints {a : Int} : ∀ ns : List Int, anyF (.int a) (ns.map D.int) = some (ns.contains a)
  | [] => rfl
  | n :: ns => by
    have ih := anyF_ints (a := a) ns
    simp [anyF, eqF, ih]
    by_cases e : n = a
    · simp [e]
    · have e' : ¬ a = n := fun z => e z.symm
      simp [e, e']
theorem inSeq_ints (neg : Bool) (a : Int) (ns : List Int) : inSeq neg (.int a) (.lst (ns.map .int)) = some (.bl (if neg then !ns.contains a else ns.contains a)) := by
  simp [inSeq, flatD, anyF_ints]
/-! the tape's frame, the store growing -/
theorem Tp.app {st : Store} {n : Nat} (t : Tp st n) (o : Ob) : Tp (st ++ [o]) n := by
  obtain ⟨a, b, h, x⟩ := t.at_
  exact ⟨a, b, by rw [List.getElem?_append_left t.lt]; exact h, x⟩
theorem Fr.app {n : Nat} {st : Store} (o : Ob) : Fr n st (st ++ [o]) := ⟨by simp, fun m _ h => by rw [List.getElem?_append_left h]⟩
theorem get_app {st : Store} {o : Ob} : (st ++ [o])[st.length]? = some o := by simp
theorem Tp.setNe {st : Store} {n k : Nat} (t : Tp st n) (h : k ≠ n) (o : Ob) : Tp (st.set k o) n := by
  obtain ⟨a, b, e, x⟩ := t.at_
  exact ⟨a, b, by rw [List.getElem?_set_ne h]; exact e, x⟩
end DL
namespace LW
open PySem PySem.Spec PyProof.Rows L2 DL TL
/-! views drawn -/
def vOrd (o : List (Nat × Bool)) : List D := o.map fun p => .tup [.int p.1, .bl p.2]
def vD (c : C) (o : List (Nat × Bool)) (sh : List Nat) : D := .tup [c.d, .tup (vOrd o), .tup (sh.map fun n : Nat => .int n)]
structure VOk (w : Nat) (c : C) (o : List (Nat × Bool)) (sh : List Nat) : Prop where
  co : c.ok w
  ch : c.ht ≤ 5
  ol : o.length ≤ 4
  oc : ∀ p ∈ o, p.1 < w
  sc : ∀ n ∈ sh, n < w
  sl : sh.length ≤ w
theorem loopC_pick {is : List Nat} {bd : FB} {t : FT} {f : F} {n : Nat} {P : D → Prop} {env : Lo} : ∀ {ds : List D}, (∀ d ∈ ds, ∃ vs, bd d = some vs ∧ ∀ st, Tp st n → ∃ b v st', t (setL is vs env) st = some (b, st') ∧ (b = true → f (setL is vs env) st' = some (v, st') ∧ P v) ∧ Tp st' n ∧ Fr n st st' ∧ st'.length = st.length) →
    ∀ {st : Store}, Tp st n → ∃ vs st', loopC is bd t f ds env st = some (vs, st') ∧ vs.length ≤ ds.length ∧ (∀ v ∈ vs, P v) ∧ Tp st' n ∧ Fr n st st' ∧ st'.length = st.length
  | [], _, st, tp => ⟨[], st, rfl, Nat.le_refl _, fun _ h => (by cases h), tp, .refl _ _, rfl⟩
  | d :: ds, h, st, tp => by
    obtain ⟨ws, hb, h1⟩ := h d List.mem_cons_self
    obtain ⟨b, v, s1, e1, e2, t1, f1, l1⟩ := h1 st tp
    obtain ⟨vs, s2, g1, g2, g3, g4, g5, g6⟩ := loopC_pick (fun d hd => h d (List.mem_cons_of_mem _ hd)) t1
    cases b with
    | false => exact ⟨vs, s2, by simp [loopC, hb, e1, g1], Nat.le_succ_of_le g2, g3, g4, f1.trans g5, by rw [g6, l1]⟩
    | true =>
      obtain ⟨e3, pv⟩ := e2 rfl
      exact ⟨v :: vs, s2, by simp [loopC, hb, e1, e3, g1], Nat.succ_le_succ g2, fun z hz => (List.mem_cons.mp hz).elim (fun y => y ▸ pv) (g3 z), g4, f1.trans g5, by rw [g6, l1]⟩
theorem nats_of : ∀ {vs : List D} {w : Nat}, (∀ v ∈ vs, ∃ k : Nat, v = .int k ∧ k < w) → ∃ sh : List Nat, vs = sh.map (fun n : Nat => D.int n) ∧ ∀ k ∈ sh, k < w
  | [], _, _ => ⟨[], rfl, fun _ h => by cases h⟩
  | v :: vs, w, h => by
    obtain ⟨k, rfl, hk⟩ := h v List.mem_cons_self
    obtain ⟨sh, rfl, hs⟩ := nats_of fun u hu => h u (List.mem_cons_of_mem _ hu)
    exact ⟨k :: sh, rfl, fun j hj => (List.mem_cons.mp hj).elim (fun e => e ▸ hk) (hs j)⟩
noncomputable abbrev bOrdL : FS := (sSeq (sAsg (fCall m__law_pick (aCons (fVar 0) (aCons (fVar 1) aNil))) (gN 5)) (sIf (fAndT (fTest (fOp opLt (fMk bLen (aCons (fVar 3) aNil)) (fC (.int 4)))) (fTest (fOp (inSeq true) (fVar 5) (fCompG (iRefL (fVar 3)) [7] b1 tTrue (fSub (fVar 7) (fC (.int 0))))))) (sDrop (fApp (fVar 3) (fMk mkTup (aCons (fVar 5) (aCons (fOp opEq (fCall m__law_pick (aCons (fVar 0) (aCons (fC (.int 2)) aNil))) (fC (.int 0))) aNil))))) sNil))
theorem ordL_ok {x2 x4 x5 x6 x7 : Option D} {n k : Nat} {w : Int} {o : List (Nat × Bool)} {st : Store} (t : Tp st n) (hn : k ≠ n) (h0 : 0 < w) (h1 : w ≤ 10) (hk : st[k]? = some (.lst (vOrd o))) (ol : o.length ≤ 4) (oc : ∀ p ∈ o, p.1 < w.toNat) :
    ∃ st' y5 o', bOrdL [some (.ref n), some (.int w), x2, some (.ref k), x4, x5, x6, x7] st = some (.nx, [some (.ref n), some (.int w), x2, some (.ref k), x4, y5, x6, x7], st') ∧ Tp st' n ∧ st'[k]? = some (.lst (vOrd o')) ∧ o'.length ≤ 4 ∧ (∀ p ∈ o', p.1 < w.toNat) ∧ st'.length = st.length ∧ ∀ m, m ≠ n → m ≠ k → m < st.length → st'[m]? = st[m]? := by
  have kl : k < st.length := (List.getElem?_eq_some_iff.mp hk).1
  obtain ⟨c, s1, g1, c0, c1, t1, f1, l1⟩ := pick_ok t (s := w) h0 (by omega)
  have hk1 : s1[k]? = some (.lst (vOrd o)) := by rw [f1.at_ k hn kl, hk]
  have ln := len_ref hk1
  have vl : (vOrd o).length = o.length := by simp [vOrd]
  have keep0 : ∀ m, m ≠ n → m ≠ k → m < st.length → s1[m]? = st[m]? := fun m a _ b => f1.at_ m a b
  by_cases c4 : o.length < 4
  case neg =>
    have c4' : ¬ ((o.length : Int) < 4) := by omega
    refine ⟨s1, some (.int c), o, ?_, t1, hk1, ol, oc, l1, keep0⟩
    simp [bOrdL, e_pick, g1, ln, vl, c4']
  case pos =>
    have c4' : ((o.length : Int) < 4) := by omega
    have lc := loopCG_map (P := fun s : Store => s[k]? = some (.lst (vOrd o))) (is := [7]) (bd := b1) (f := fSub (fVar 7) (fC (.int 0))) (g := fun d => match d with | .tup (a :: _) => a | _ => .non) (env := [some (.ref n), some (.int w), x2, some (.ref k), x4, some (.int c), x6, none]) (st := s1) hk1 (ds := vOrd o) (fun d hd => by
      obtain ⟨p, _, rfl⟩ := List.mem_map.mp hd
      exact ⟨_, rfl, by simp [ix0]⟩)
    have mp : (vOrd o).map (fun d => match d with | .tup (a :: _) => a | _ => .non) = (o.map fun p => (p.1 : Int)).map D.int := by simp [vOrd, Function.comp_def]
    rw [mp] at lc
    have z : o.length ≤ sizeLine := sl_of (by omega)
    have iq := inSeq_ints true c (o.map fun p => (p.1 : Int))
    by_cases cm : (o.map fun p => (p.1 : Int)).contains c = true
    · refine ⟨s1, some (.int c), o, ?_, t1, hk1, ol, oc, l1, keep0⟩
      rw [cm] at iq
      simp only [bOrdL, u_sSeq, u_sAsg, u_fCall, u_aCons, u_aNil, u_fVar, e_pick, u_gN]
      simp [g1, ln, vl, c4', iRefL, hk1]
      simp at lc iq
      simp [lc, z, iq]
    · simp only [Bool.not_eq_true] at cm
      rw [cm] at iq
      obtain ⟨b, s2, g2, b0, b2, t2, f2, l2⟩ := pick_ok t1 (s := 2) (by decide) (by decide)
      have hk2 : s2[k]? = some (.lst (vOrd o)) := by rw [f2.at_ k hn (by rw [l1]; exact kl), hk1]
      have kl2 : k < s2.length := by rw [l2, l1]; exact kl
      have zl : (vOrd o).length < sizeLine := by rw [vl]; exact Nat.lt_of_lt_of_le c4 (by decide)
      refine ⟨s2.set k (.lst (vOrd o ++ [.tup [.int c, .bl (b == 0)]])), some (.int c), o ++ [(c.toNat, b == 0)], ?_, t2.setNe hn _, ?_, by simp; omega, fun p hp => ?_, by rw [List.length_set, l2, l1], fun m a e d => ?_⟩
      · simp only [bOrdL, u_sSeq, u_sAsg, u_fCall, u_aCons, u_aNil, u_fVar, e_pick, u_gN]
        simp [g1, ln, vl, c4', iRefL, hk1]
        simp at lc iq
        simp [lc, z, iq, fApp, isLs, appAt, hk1, hk2, zl, g2, opEq_int]
      · rw [List.getElem?_set_self kl2]
        have : ((c.toNat : Nat) : Int) = c := Int.toNat_of_nonneg c0
        simp [vOrd, this]
      · rcases List.mem_append.mp hp with hp | hp
        · exact oc p hp
        · rw [List.mem_singleton.mp hp]
          show c.toNat < w.toNat
          omega
      · rw [List.getElem?_set_ne (fun z => e z.symm), f2.at_ m a (by rw [l1]; exact d), f1.at_ m a d]
theorem view_ok {n : Nat} {w : Int} {st : Store} (t : Tp st n) (h0 : 0 < w) (h1 : w ≤ 10) :
    ∃ c o sh st', m__law_view [.ref n, .int w] st = some (vD c o sh, st') ∧ VOk w.toNat c o sh ∧ Tp st' n ∧ Fr n st st' := by
  obtain ⟨r, s1, g1, r0, r2, t1, f1, l1⟩ := pick_ok t (s := 2) (by decide) (by decide)
  -- the condition
  obtain ⟨c, s2, gc, ok, hh, t2, f2, l2⟩ : ∃ c s2, (sIf (fTest (fOp opEq (fCall m__law_pick (aCons (fVar 0) (aCons (fC (.int 2)) aNil))) (fC (.int 0)))) (sAsg (fCall (m__law_condition 5) (aCons (fVar 0) (aCons (fVar 1) (aCons (fC (.int 2)) aNil)))) (gN 2)) sNil) [some (.ref n), some (.int w), some (.tup [.str (Str.ofString "all")]), none, none, none, none, none] st = some (.nx, [some (.ref n), some (.int w), some (C.d c), none, none, none, none, none], s2) ∧ c.ok w.toNat ∧ c.ht ≤ 5 ∧ Tp s2 n ∧ Fr n st s2 ∧ s2.length = st.length := by
    by_cases e : r = 0
    · subst e
      obtain ⟨c, s2, g2, ok, hh, t2, f2, l2⟩ := cond_ok 5 t1 (w := w) (dp := 2) h0 h1 (by decide) (by decide)
      exact ⟨c, s2, by simp [e_pick, g1, opEq_int, g2], ok, hh, t2, f1.trans f2, by rw [l2, l1]⟩
    · have e' : (r == 0) = false := by simp [e]
      exact ⟨.all, s1, by simp [e_pick, g1, opEq_int, e', C.d], trivial, by decide, t1, f1, l1⟩
  -- the order
  have hk : (s2 ++ [Ob.lst []])[s2.length]? = some (.lst (vOrd [])) := get_app
  have kn : s2.length ≠ n := fun z => by have := t2.lt; omega
  obtain ⟨j, s4, g4, j0, j7, t4, f4, l4⟩ := pick_ok (t2.app (.lst [])) (s := 7) (by decide) (by decide)
  have hk4 : s4[s2.length]? = some (.lst (vOrd [])) := by rw [f4.at_ _ kn (by simp), hk]
  have len4 : s4.length = s2.length + 1 := by rw [l4]; simp
  obtain ⟨e5, s5, g5, ⟨y4, y5, _, he5, _⟩, t5, ⟨o, hk5, ol, oc⟩, l5, fr5⟩ := loopS_inv (tg := gN 4) (body := bOrdL) (fun env s => (∃ y4 y5 o, env = [some (.ref n), some (.int w), some (C.d c), some (.ref s2.length), y4, y5, none, none] ∧ True) ∧ Tp s n ∧ (∃ o, s[s2.length]? = some (.lst (vOrd o)) ∧ o.length ≤ 4 ∧ ∀ p ∈ o, p.1 < w.toNat) ∧ s.length = s2.length + 1 ∧ ∀ m, m ≠ n → m < s2.length → s[m]? = s2[m]?) (ds := rg 0 j) (fun d hd env s i => by
    obtain ⟨⟨y4, y5, o', rfl, _⟩, tp, ⟨o, ho, ol, oc⟩, ln, fr⟩ := i
    obtain ⟨s', z5, o2, b1, b2, b3, b4, b5, b6, b7⟩ := ordL_ok (x2 := some (C.d c)) (x4 := some d) (x5 := y5) (x6 := none) (x7 := none) tp kn h0 h1 ho ol oc
    exact ⟨[some (.ref n), some (.int w), some (C.d c), some (.ref s2.length), some d, y5, none, none], by simp, .nx, _, s', b1, .inl rfl, ⟨_, _, o2, rfl, trivial⟩, b2, ⟨o2, b3, b4, b5⟩, by rw [b6, ln], fun m a b => by rw [b7 m a (by omega) (by omega), fr m a b]⟩)
    (env := [some (.ref n), some (.int w), some (C.d c), some (.ref s2.length), none, none, none, none]) (st := s4) ⟨⟨_, _, ([] : List (Nat × Bool)), rfl, trivial⟩, t4, ⟨[], hk4, by simp, fun _ h => by cases h⟩, len4, fun m a b => by rw [f4.at_ m a (by simp; omega), List.getElem?_append_left b]⟩
  subst he5
  -- the shown columns
  obtain ⟨vs, s6, g6, lv, pv, t6, f6, l6⟩ := loopC_pick (is := [5]) (bd := b1) (t := fTest (fOp opGt (fCall m__law_pick (aCons (fVar 0) (aCons (fC (.int 3)) aNil))) (fC (.int 0)))) (f := fVar 5) (n := n) (P := fun v => ∃ k : Nat, v = .int k ∧ k < w.toNat)
    (env := [some (.ref n), some (.int w), some (C.d c), some (.ref s2.length), y4, none, none, none]) (ds := rg 0 w) (fun d hd => by
      obtain ⟨i, rfl, i0, i1⟩ := rg_mem hd
      refine ⟨[.int i], rfl, fun s tp => ?_⟩
      obtain ⟨b, s', q1, q2, q3, q4, q5, q6⟩ := pick_ok tp (s := 3) (by decide) (by decide)
      exact ⟨decide (0 < b), .int i, s', by simp [e_pick, q1], fun _ => ⟨by simp, i.toNat, by rw [Int.toNat_of_nonneg i0], by omega⟩, q4, q5, q6⟩) t5
  obtain ⟨sh, rfl, hsh⟩ := nats_of pv
  rw [rg_len] at lv
  have ra := asR1_ok (n := w) (by omega) (by omega)
  have rj := asR1_ok (n := j) j0 (by omega)
  have zs : sh.length ≤ sizeLine := sl_of (by simp at lv; omega)
  have hk6 : s6[s2.length]? = some (.lst (vOrd o)) := by rw [f6.at_ _ kn (by rw [l5]; omega), hk5]
  refine ⟨c, o, sh, s6, ?_, ⟨ok, hh, ol, oc, hsh, by simp at lv; omega⟩, t6, ⟨by rw [l6, l5, l2]; omega, fun m a b => ?_⟩⟩
  · have q0 : (sAsg (fMk mkTup (aCons (fC (.str (Str.ofString "all"))) aNil)) (gN 2)) [some (.ref n), some (.int w), none, none, none, none, none, none] st = some (.nx, [some (.ref n), some (.int w), some (.tup [.str (Str.ofString "all")]), none, none, none, none, none], st) := by simp
    have q1 : (sAsg (fNewL aNil) (gN 3)) [some (.ref n), some (.int w), some (C.d c), none, none, none, none, none] s2 = some (.nx, [some (.ref n), some (.int w), some (C.d c), some (.ref s2.length), none, none, none, none], s2 ++ [.lst []]) := by simp
    have q2 : (iOfA asR1 (aCons (fCall m__law_pick (aCons (fVar 0) (aCons (fC (.int 7)) aNil))) aNil)) [some (.ref n), some (.int w), some (C.d c), some (.ref s2.length), none, none, none, none] (s2 ++ [.lst []]) = some (rg 0 j, s4) := by simp [e_pick, g4, rj]
    rw [show m__law_view [.ref n, .int w] st = outM (g__law_view [some (.ref n), some (.int w), none, none, none, none, none, none] st) from rfl, g__law_view, seq_step q0, seq_step gc, seq_step q1, seq_step ((for_step q2).trans g5)]
    simp [ra]
    simp [g6, zs, hk6, vD]
  · rw [f6.at_ m a (by rw [l5]; omega), fr5 m a (by rw [l2]; exact b), f2.at_ m a b]
end LW
namespace LW
open PySem PySem.Spec PyProof.Rows L2 DL TL
theorem fit_pv {d : D} (h : pvB d = true) : Fit d 0 210 := by
  cases d with
  | non => exact Fit.non.mono (Nat.le_refl _) (by decide)
  | int i => exact Fit.int (by have := of_decide_eq_true (show decide (-1000000000 ≤ i ∧ i ≤ 1000000000) = true from h); omega)
  | str x => exact (Fit.str (asc_gs h)).mono (Nat.le_refl _) (by decide)
  | _ => cases h
theorem fit_nm {s : String} (h : asc 16 (Str.ofString s) = true) : Fit (.str (Str.ofString s)) 0 16 := Fit.str (asc_gs h)
theorem fit_nat {n m : Nat} (h : n < m) (hm : m ≤ 1000000) : Fit (.int n) 0 210 := Fit.int (by omega)
theorem C.fit {w : Nat} (hw : w ≤ 10) : ∀ c : C, c.ok w → Fit c.d (c.ht + 1) (2500 * 2 ^ c.ht - 300)
  | .all, _ => (Fit.tup (FitL.cons (fit_nm (s := "all") (by decide +kernel)) FitL.nil)).mono (show _ ≤ 1 + 1 by decide) (show _ ≤ 2500 * 2 ^ 1 - 300 by decide)
  | .eq c v, h => (Fit.tup (FitL.cons (fit_nm (s := "equal") (by decide +kernel)) (FitL.cons (fit_nat h.1 (by omega)) (FitL.cons (fit_pv h.2) FitL.nil)))).mono (show _ ≤ 1 + 1 by decide) (show _ ≤ 2500 * 2 ^ 1 - 300 by decide)
  | .lt c v, h => (Fit.tup (FitL.cons (fit_nm (s := "less") (by decide +kernel)) (FitL.cons (fit_nat h.1 (by omega)) (FitL.cons (fit_pv h.2) FitL.nil)))).mono (show _ ≤ 1 + 1 by decide) (show _ ≤ 2500 * 2 ^ 1 - 300 by decide)
  | .st c x, h => (Fit.tup (FitL.cons (fit_nm (s := "starts") (by decide +kernel)) (FitL.cons (fit_nat h.1 (by omega)) (FitL.cons (Fit.str h.2.1) FitL.nil)))).mono (show _ ≤ 1 + 1 by decide) (show _ ≤ 2500 * 2 ^ 1 - 300 by decide)
  | .one c us, h => by
    have h1 : FitL us 0 (us.length * 211) := FitL.all fun u hu => fit_pv (h.2.2.2 u hu)
    have h2 : us.length * 211 ≤ 8 * 211 := Nat.mul_le_mul_right _ h.2.1
    exact (Fit.tup (FitL.cons (fit_nm (s := "one_of") (by decide +kernel)) (FitL.cons (fit_nat h.1 (by omega)) (FitL.cons (Fit.tup (h1.mono (Nat.le_refl _) h2)) FitL.nil)))).mono (show _ ≤ 1 + 1 by decide) (show _ ≤ 2500 * 2 ^ 1 - 300 by decide)
  | .not p, h => by
    have hp := C.fit hw p h
    have e2 : 2 ^ 1 ≤ 2 ^ p.ht := Nat.pow_le_pow_right (by decide) (C.ht_pos p)
    refine (Fit.tup (FitL.cons (fit_nm (s := "not") (by decide +kernel)) (FitL.cons hp FitL.nil))).mono (by show max 0 (max (p.ht + 1) 0) + 1 ≤ p.ht + 1 + 1; omega) ?_
    rw [show C.ht (.not p) = p.ht + 1 from rfl, Nat.pow_succ]
    omega
  | .and p q, h => by
    have hp := C.fit hw p h.1
    have hq := C.fit hw q h.2
    have m1 := Nat.le_max_left p.ht q.ht
    have m2 := Nat.le_max_right p.ht q.ht
    rw [show C.ht (.and p q) = max p.ht q.ht + 1 from rfl]
    have a1 := C.ht_pos p
    have a2 := C.ht_pos q
    generalize max p.ht q.ht = m at *
    have e1 : 2 ^ p.ht ≤ 2 ^ m := Nat.pow_le_pow_right (by decide) m1
    have e2 : 2 ^ q.ht ≤ 2 ^ m := Nat.pow_le_pow_right (by decide) m2
    have e3 : 2 ^ 1 ≤ 2 ^ p.ht := Nat.pow_le_pow_right (by decide) a1
    have e4 : 2 ^ 1 ≤ 2 ^ q.ht := Nat.pow_le_pow_right (by decide) a2
    refine (Fit.tup (FitL.cons (fit_nm (s := "and") (by decide +kernel)) (FitL.cons hp (FitL.cons hq FitL.nil)))).mono (by omega) ?_
    rw [Nat.pow_succ]
    omega
  | .or p q, h => by
    have hp := C.fit hw p h.1
    have hq := C.fit hw q h.2
    have m1 := Nat.le_max_left p.ht q.ht
    have m2 := Nat.le_max_right p.ht q.ht
    rw [show C.ht (.or p q) = max p.ht q.ht + 1 from rfl]
    have a1 := C.ht_pos p
    have a2 := C.ht_pos q
    generalize max p.ht q.ht = m at *
    have e1 : 2 ^ p.ht ≤ 2 ^ m := Nat.pow_le_pow_right (by decide) m1
    have e2 : 2 ^ q.ht ≤ 2 ^ m := Nat.pow_le_pow_right (by decide) m2
    have e3 : 2 ^ 1 ≤ 2 ^ p.ht := Nat.pow_le_pow_right (by decide) a1
    have e4 : 2 ^ 1 ≤ 2 ^ q.ht := Nat.pow_le_pow_right (by decide) a2
    refine (Fit.tup (FitL.cons (fit_nm (s := "or") (by decide +kernel)) (FitL.cons hp (FitL.cons hq FitL.nil)))).mono (by omega) ?_
    rw [Nat.pow_succ]
    omega
theorem VOk.fit {w : Nat} (hw : w ≤ 10) {c : C} {o : List (Nat × Bool)} {sh : List Nat} (h : VOk w c o sh) : Fit (vD c o sh) 10 90000 := by
  have f1 := C.fit hw c h.co
  have e1 : 2 ^ c.ht ≤ 2 ^ 5 := Nat.pow_le_pow_right (by decide) h.ch
  have f2 : FitL (vOrd o) 1 ((vOrd o).length * 300) := FitL.all fun d hd => by
    obtain ⟨p, hp, rfl⟩ := List.mem_map.mp hd
    exact (Fit.tup (FitL.cons (fit_nat (h.oc p hp) (by omega)) (FitL.cons (Fit.bl p.2) FitL.nil))).mono (by decide) (by decide)
  have f3 : FitL (sh.map fun n : Nat => D.int n) 0 ((sh.map fun n : Nat => D.int n).length * 211) := FitL.all fun d hd => by
    obtain ⟨p, hp, rfl⟩ := List.mem_map.mp hd
    exact fit_nat (h.sc p hp) (by omega)
  have l2 : (vOrd o).length * 300 ≤ 4 * 300 := Nat.mul_le_mul_right _ (by simp [vOrd]; exact h.ol)
  have l3 : (sh.map fun n : Nat => D.int n).length * 211 ≤ 10 * 211 := Nat.mul_le_mul_right _ (by simp; exact Nat.le_trans h.sl hw)
  have hh := h.ch
  exact (Fit.tup (FitL.cons f1 (FitL.cons (Fit.tup f2) (FitL.cons (Fit.tup f3) FitL.nil)))).mono (by omega) (by omega)
/-! keys -/
def kD (o : List (Nat × Bool)) (vs : List D) (i : Int) : D := .tup ((o.map fun p => atV vs p.1) ++ [.int i])
def shD (sh : List Nat) (vs : List D) : D := .tup (sh.map fun n => atV vs n)
theorem lkey_ok {c : C} {o : List (Nat × Bool)} {sh : List Nat} {vs : List D} {i : Int} (st : Store) (oc : ∀ p ∈ o, p.1 < vs.length) (ol : o.length ≤ 4) : m__law_key [vD c o sh, .int i, .tup vs] st = some (kD o vs i, st) := by
  have lc := loopC_over (φ := fun p : Nat × Bool => D.tup [.int p.1, .bl p.2]) (ψ := fun p => atV vs p.1) (is := [3, 4]) (bd := bTup 2 (bCons b1 (bCons b1 bNil))) (f := fSub (fVar 2) (fVar 3)) (env := [some (vD c o sh), some (.int i), some (.tup vs), none, none]) (st := st) (l := o) (fun p hp => ⟨[.int p.1, .bl p.2], by simp, by simp [at_val (oc p hp)]⟩)
  have z : o.length ≤ sizeLine := sl_of (by omega)
  have z1 : o.length + 1 ≤ sizeLine := sl_of (by omega)
  have ad : opAdd (.tup (o.map fun p => atV vs p.1)) (.tup [.int i]) = some (kD o vs i) := by rw [addT_ok (by simp; omega)]; rfl
  simp only [vD, vOrd] at lc ⊢
  simp [m__law_key, g__law_key, ix1]
  simp [lc, z, z1, ad]
theorem shown_ok {sh : List Nat} {vs : List D} {env : Lo} {st : Store} {i j : Nat} (hs : ∀ n ∈ sh, n < vs.length) (hl : sh.length ≤ 10) (hj : ∀ d, (setL [j] [d] (wipeL env [j]))[i]? = some (some (.tup vs))) (hj2 : ∀ d, (setL [j] [d] (wipeL env [j]))[j]? = some (some d)) :
    loopC [j] b1 tTrue (fSub (fVar i) (fVar j)) (sh.map fun n : Nat => D.int n) (wipeL env [j]) st = some (sh.map fun n => atV vs n, st) :=
  loopC_over (φ := fun n : Nat => D.int n) (ψ := fun n => atV vs n) (l := sh) fun n hn => ⟨[.int n], rfl, by
    have a := hj (.int n)
    have b := hj2 (.int n)
    simp only [u_fSub, u_fVar, a, b, Option.bind_some, u_ixT, at_val (hs n hn), Option.map_some]⟩
theorem row_fit {o : List (Nat × Bool)} {sh : List Nat} {vs : List D} {i : Int} (ol : o.length ≤ 4) (sl : sh.length ≤ 10) (oc : ∀ p ∈ o, p.1 < vs.length) (hs : ∀ n ∈ sh, n < vs.length) (hv : ∀ v ∈ vs, pvB v = true) (hi : -1000000000000000 < i ∧ i < 1000000000000000) : Fit (.tup [kD o vs i, shD sh vs]) 2 5000 := by
  have f1 : FitL (o.map fun p => atV vs p.1) 0 ((o.map fun p => atV vs p.1).length * 211) := FitL.all fun d hd => by
    obtain ⟨p, hp, rfl⟩ := List.mem_map.mp hd
    exact fit_pv (hv _ (mem_val (oc p hp)))
  have f2 : FitL (sh.map fun n => atV vs n) 0 ((sh.map fun n => atV vs n).length * 211) := FitL.all fun d hd => by
    obtain ⟨p, hp, rfl⟩ := List.mem_map.mp hd
    exact fit_pv (hv _ (mem_val (hs p hp)))
  have l1 : (o.map fun p => atV vs p.1).length * 211 ≤ 4 * 211 := Nat.mul_le_mul_right _ (by simp; exact ol)
  have l2 : (sh.map fun n => atV vs n).length * 211 ≤ 10 * 211 := Nat.mul_le_mul_right _ (by simp; exact sl)
  exact (Fit.tup (FitL.cons (Fit.tup (f1.append (FitL.cons (Fit.int hi) FitL.nil))) (FitL.cons (Fit.tup f2) FitL.nil))).mono (by decide) (by omega)
end LW
namespace LW
open PySem PySem.Spec PyProof.Rows L2 DL TL
/-! rows delivered, as the law makes them -/
def Py (d : D) : Prop := ∃ p, toPy d = some p ∧ SeqAt.shaped p = true
structure Rw (i : Int) (d : D) : Prop where
  ex : ∃ us sh, d = .tup [.tup (us ++ [.int i]), .tup sh] ∧ us.length ≤ 10
  py : Py d
  ok : DL.OkV 5000 d
  hd : hD d ≤ 2
def RwO (i : Int) (d : D) : Prop := d = .non ∨ Rw i d
def nb (a b : D) : Bool := match opNe a b with | some (.bl b) => b | _ => false
theorem ne_py {a b : D} (ha : Py a) (hb : Py b) : opNe a b = some (.bl (nb a b)) := by
  obtain ⟨p, h1, t1⟩ := ha
  obtain ⟨q, h2, t2⟩ := hb
  have o : opNe a b = some (.bl (!PyData.eqv p q)) := by simp [opNe, h1, h2, t1, t2]
  have n : nb a b = !PyData.eqv p q := by simp [nb, o]
  rw [n]; exact o
theorem nb_self {a : D} (ha : Py a) : nb a a = false := by
  obtain ⟨p, h1, t1⟩ := ha
  have o : opNe a a = some (.bl (!PyData.eqv p p)) := by simp [opNe, h1, t1]
  have n : nb a a = !PyData.eqv p p := by simp [nb, o]
  rw [n, SeqAt.eqv_refl p (SeqAt.canLay_of_shaped t1)]; rfl
theorem py_non : Py .non := ⟨.none, rfl, by decide⟩
theorem RwO.py {i : Int} {d : D} (h : RwO i d) : Py d := h.elim (fun e => e ▸ py_non) Rw.py
theorem Rw.non {i : Int} {d : D} (h : Rw i d) : DL.isNon d = false := by
  obtain ⟨us, sh, rfl, _⟩ := h.ex; rfl
/-! maps -/
abbrev U9 : List Int := [1, 2, 3, 4, 5, 6, 7, 8, 9]
def opt (d : D) : Option D := if DL.isNon d = true then none else some d
structure RM (l : KL) : Prop where
  ok : okK U9 l
  rw : ∀ i d, gt l i = some d → Rw i d
structure CM (c : KL) : Prop where
  ok : okK U9 c
  ch : ∀ i d, gt c i = some d → ∃ b a, d = .tup [b, a] ∧ RwO i b ∧ RwO i a ∧ i ≤ 7
def bef (c : KL) (i : Int) : D := match gt c i with | some (.tup [b, _]) => b | _ => .non
def aft (c : KL) (i : Int) : D := match gt c i with | some (.tup [_, a]) => a | _ => .non
theorem CM.at {c : KL} (h : CM c) {i : Int} (m : (gt c i).isSome = true) : gt c i = some (.tup [bef c i, aft c i]) ∧ RwO i (bef c i) ∧ RwO i (aft c i) ∧ i ≤ 7 := by
  obtain ⟨d, e⟩ := Option.isSome_iff_exists.mp m
  obtain ⟨b, a, rfl, h1, h2, h3⟩ := h.ch i d e
  have e1 : bef c i = b := by simp [bef, e]
  have e2 : aft c i = a := by simp [aft, e]
  rw [e1, e2]
  exact ⟨e, h1, h2, h3⟩
theorem RM.get {l : KL} (h : RM l) (i : Int) : RwO i ((gt l i).getD .non) := by
  cases q : gt l i with
  | none => exact .inl rfl
  | some d => exact .inr (h.rw i d q)
theorem gt_mem {U : List Int} {l : KL} (h : okK U l) {i : Int} {d : D} (e : gt l i = some d) : (.inl i, d) ∈ l ∧ i ∈ U := by
  have m := (valD_some h.nd).mp e
  obtain ⟨j, hj, ej⟩ := h.mem _ m
  injection ej with ej
  exact ⟨m, ej ▸ hj⟩
def setK (cur : KL) (i : Int) (d : D) : KL := if DL.isNon d = true then dropD cur (.inl i) else putD cur (.inl i) d
theorem gt_setK (cur : KL) (i j : Int) (d : D) : gt (setK cur i d) j = if i = j then opt d else gt cur j := by
  unfold setK opt gt
  by_cases n : DL.isNon d = true
  · rw [if_pos n, if_pos n, valD_drop]
    by_cases e : i = j
    · rw [if_pos e, if_pos (by rw [e])]
    · rw [if_neg e, if_neg (fun z => e (by injection z))]
  · rw [if_neg n, if_neg n, valD_put]
    by_cases e : i = j
    · rw [if_pos e, if_pos (by rw [e])]
    · rw [if_neg e, if_neg (fun z => e (by injection z))]
theorem RM.set {l : KL} (h : RM l) {i : Int} (hi : i ∈ U9) {d : D} (hd : RwO i d) : RM (setK l i d) := by
  refine ⟨?_, fun j e q => ?_⟩
  · unfold setK
    split
    · exact h.ok.drop _
    · exact h.ok.put hi d
  · rw [gt_setK] at q
    by_cases e : i = j
    · rw [if_pos e] at q
      subst e
      unfold opt at q
      rcases hd with rfl | hd
      · cases q
      · rw [hd.non] at q
        cases q
        exact hd
    · rw [if_neg e] at q
      exact h.rw j _ q
theorem RM.len {l : KL} (h : RM l) : l.length ≤ 9 := h.ok.len
theorem CM.len {l : KL} (h : CM l) : l.length ≤ 9 := h.ok.len
theorem z9 {n : Nat} (h : n ≤ 9) : n < sizeLine := Nat.lt_of_le_of_lt h (by decide)
theorem opIs_non (d : D) : opIs d .non = some (.bl (DL.isNon d)) := by cases d <;> rfl
theorem opIsnt_non (d : D) : opIsnt d .non = some (.bl (!DL.isNon d)) := by cases d <;> rfl
/-! a dict copied row by row -/
theorem asKey_keyD (k : Key) : asKey (keyD k) = some k := by cases k <;> rfl
theorem put_new {acc : KL} {k : Key} {v : D} (h : k ∉ acc.map (·.1)) : putD acc k v = acc ++ [(k, v)] := by
  have : (acc.any fun kv => decide (kv.1 = k)) = false := by
    rw [any_key, valD_none.mpr h]; rfl
  rw [putD, this]; rfl
theorem loopD_all {is : List Nat} {bd : FB} {fk fv : F} {φ : Key × D → D} {env : Lo} {st : Store} : ∀ {l acc : KL}, ((acc ++ l).map (·.1)).Nodup → (acc ++ l).length ≤ 1000 → (∀ kv ∈ l, ∃ vs, bd (φ kv) = some vs ∧ fk (setL is vs env) st = some (keyD kv.1, st) ∧ fv (setL is vs env) st = some (kv.2, st)) →
    loopD is bd tTrue fk fv (l.map φ) acc env st = some (acc ++ l, st)
  | [], acc, _, _, _ => by rw [List.append_nil]; rfl
  | kv :: l, acc, nd, hl, h => by
    obtain ⟨vs, h1, h2, h3⟩ := h kv List.mem_cons_self
    have e : acc ++ kv :: l = (acc ++ [kv]) ++ l := by simp
    have nk : kv.1 ∉ acc.map (·.1) := fun m => by
      rw [List.map_append, List.map_cons] at nd
      exact (List.nodup_append.mp nd).2.2 _ m _ List.mem_cons_self rfl
    have ih := loopD_all (l := l) (acc := acc ++ [kv]) (by rw [← e]; exact nd) (by rw [← e]; exact hl) fun q m => h q (List.mem_cons_of_mem _ m)
    have za : acc.length < sizeLine := Nat.lt_of_le_of_lt (by simp at hl; omega) (show 1000 < sizeLine by decide)
    rw [List.map_cons, loopD, h1, Option.bind_some]
    simp only [tTrue, Option.bind_some, if_true, h2, h3, asKey_keyD, za, put_new nk]
    rw [ih, e]
theorem setLdc {st : Store} {n : Nat} {kvs : KL} (h : st[n]? = some (.dct kvs)) (o : Ob) : ((st.set n (.ldc kvs)) ++ [o]).set n (.dct kvs) = st ++ [o] := by
  have hl := (List.getElem?_eq_some_iff.mp h).1
  refine List.ext_getElem? fun j => ?_
  by_cases e : n = j
  · subst e
    rw [List.getElem?_set_self (by simp; omega), List.getElem?_append_left hl, h]
  · rw [List.getElem?_set_ne e]
    by_cases z : j < st.length
    · rw [List.getElem?_append_left (by simpa using z), List.getElem?_append_left z, List.getElem?_set_ne e]
    · rw [List.getElem?_append_right (by simpa using z), List.getElem?_append_right (by omega), List.length_set]
theorem copy_ok {env : Lo} {n i : Nat} {st : Store} {kvs : KL} (h0 : env[0]? = some (some (.ref n))) (hn : st[n]? = some (.dct kvs)) (nd : (kvs.map (·.1)).Nodup) (hl : kvs.length ≤ 1000) (hi : ∀ d : D, (setL [i] [d] (wipeL env [i]))[i]? = some (some d)) (hz : ∀ d : D, (setL [i] [d] (wipeL env [i]))[0]? = some (some (.ref n))) :
    sLock (whichR (fVar 0)) (sAsg (fDComp (iFrz kKeys (fVar 0)) [i] b1 tTrue (fVar i) (fSub (fVar 0) (fVar i))) (gN 2)) env st = some (.nx, env.set 2 (some (.ref st.length)), st ++ [.dct kvs]) := by
  have hlt := (List.getElem?_eq_some_iff.mp hn).1
  have s2 : (st.set n (.ldc kvs))[n]? = some (.ldc kvs) := List.getElem?_set_self hlt
  have v0 : ∀ s, fVar 0 env s = some (.ref n, s) := fun s => by simp [h0]
  have lp : loopD [i] b1 tTrue (fVar i) (fSub (fVar 0) (fVar i)) (kvs.map fun kv => keyD kv.1) [] (wipeL env [i]) (st.set n (.ldc kvs)) = some ([] ++ kvs, st.set n (.ldc kvs)) :=
    loopD_all (φ := fun kv => keyD kv.1) nd hl fun kv m => ⟨[keyD kv.1], rfl, by rw [u_fVar, hi], by
      have hv : valD kvs kv.1 = some kv.2 := (valD_some nd).mpr m
      rw [u_fSub, u_fVar, hz]
      simp only [Option.bind_some]
      rw [u_fVar, hi]
      simp only [Option.bind_some, ixD, s2, asKey_keyD, hv, Option.map_some]⟩
  have d1 : fDComp (iFrz kKeys (fVar 0)) [i] b1 tTrue (fVar i) (fSub (fVar 0) (fVar i)) env (st.set n (.ldc kvs)) = some (.ref st.length, st.set n (.ldc kvs) ++ [.dct kvs]) := by
    rw [fDComp, iFrz, v0]
    simp only [Option.bind_some, frzAt, ldcAt, s2, Option.map_some, kKeys]
    rw [lp]
    simp
  have w : whichR (fVar 0) env st = some n := by rw [whichR, v0]
  have l1 : ldcAt n (st.set n (.ldc kvs) ++ [.dct kvs]) = some kvs := by
    rw [ldcAt, List.getElem?_append_left (by simpa using hlt), s2]
  rw [sLock, w, Option.bind_some, dctIn, hn]
  simp only [Option.bind_some]
  rw [u_sAsg, d1]
  simp only [Option.bind_some, u_gN, Option.map_some, l1, setLdc hn]
/-! one row set -/
theorem setrow_ok {n : Nat} {i : Int} {d : D} {st : Store} {cur : KL} (hn : st[n]? = some (.dct cur)) (hl : cur.length ≤ 9) : m_set_row [.ref n, .int i, d] st = some (.non, st.set n (.dct (setK cur i d))) := by
  have z := z9 hl
  cases q : DL.isNon d with
  | true =>
    have k : setK cur i d = dropD cur (.inl i) := by rw [setK, if_pos q]
    have body : q_set_row_0t_0 [some (.ref n), some (.int i), some d] st = some (.nx, [some (.ref n), some (.int i), some d], st.set n (.dct (setK cur i d))) := by
      rw [k]
      cases v : valD cur (.inl i) with
      | some x => simp [fPop2, dctAt, hn, asKey, v]
      | none =>
        have e : dropD cur (.inl i) = cur := by
          refine List.filter_eq_self.mpr fun p m => ?_
          refine decide_eq_true fun z => ?_
          exact valD_none.mp v (List.mem_map.mpr ⟨p, m, z⟩)
        have es : st.set n (.dct cur) = st := by
          refine List.ext_getElem? fun j => ?_
          by_cases e : n = j
          · subst e; rw [List.getElem?_set_self (List.getElem?_eq_some_iff.mp hn).1, hn]
          · rw [List.getElem?_set_ne e]
        simp [fPop2, dctAt, hn, asKey, v, e, es]
    rw [m_set_row, g_set_row, u_mOf]
    show outM (q_set_row_0 [some (.ref n), some (.int i), some d] st) = _
    rw [q_set_row_0, u_sIf]
    simp only [u_fTest, u_fOp, u_fVar, u_fC, List.getElem?_cons_succ, List.getElem?_cons_zero, Option.bind_some, opIs_non, Option.map_some, u_asB, q, if_true, body]
    rfl
  | false =>
    have k : setK cur i d = putD cur (.inl i) d := by rw [setK, if_neg (by rw [q]; exact Bool.false_ne_true)]
    have body : q_set_row_0e_0 [some (.ref n), some (.int i), some d] st = some (.nx, [some (.ref n), some (.int i), some d], st.set n (.dct (setK cur i d))) := by
      rw [k]
      simp [sPut, hn, asKey, z]
    rw [m_set_row, g_set_row, u_mOf]
    show outM (q_set_row_0 [some (.ref n), some (.int i), some d] st) = _
    rw [q_set_row_0, u_sIf]
    simp only [u_fTest, u_fOp, u_fVar, u_fC, List.getElem?_cons_succ, List.getElem?_cons_zero, Option.bind_some, opIs_non, Option.map_some, u_asB, q, Bool.false_eq_true, if_false, body]
    rfl
end LW
namespace LW
open PySem PySem.Spec PyProof.Rows L2 DL TL
theorem set_eq {st : Store} {n : Nat} {o : Ob} (h : st[n]? = some o) : st.set n o = st := by
  refine List.ext_getElem? fun j => ?_
  by_cases e : n = j
  · subst e; rw [List.getElem?_set_self (List.getElem?_eq_some_iff.mp h).1, h]
  · rw [List.getElem?_set_ne e]
theorem set_app {st : Store} {o o' : Ob} : (st ++ [o]).set st.length o' = st ++ [o'] := by simp
/-! rows and changes side by side -/
def bad (rows c : KL) (i : Int) : Bool := nb ((gt rows i).getD .non) (bef c i)
def mis (rows c : KL) (l : List Int) : Option Int := l.find? (bad rows c)
/-- where the walk of l has led -/
structure Led (c : KL) (l : List Int) (a b : KL) : Prop where
  rm : RM b
  g : ∀ j, gt b j = if j ∈ l then opt (aft c j) else gt a j
theorem Led.nil {c a : KL} (h : RM a) : Led c [] a a := ⟨h, fun j => by rw [if_neg (by simp)]⟩
theorem Led.cons {c a b b2 : KL} {i : Int} {l : List Int} (g : ∀ j, gt b j = if i = j then opt (aft c i) else gt a j) (h : Led c l b b2) : Led c (i :: l) a b2 := by
  refine ⟨h.rm, fun j => ?_⟩
  rw [h.g, g]
  by_cases m : j ∈ l
  · rw [if_pos m, if_pos (List.mem_cons_of_mem _ m)]
  · rw [if_neg m]
    by_cases e : i = j
    · subst e; rw [if_pos rfl, if_pos List.mem_cons_self]
    · rw [if_neg e, if_neg (fun z => (List.mem_cons.mp z).elim (fun z => e z.symm) m)]
noncomputable abbrev bXl : FS := sSeq qx_apply_changes_1l_0 (sSeq qx_apply_changes_1l_1 qx_apply_changes_1l_2)
theorem xturn {n q m : Nat} {st : Store} {rows c cur : KL} {i : Int} {x4 x5 : Option D} (hn : st[n]? = some (.dct rows)) (hq : st[q]? = some (.dct c)) (hm : st[m]? = some (.dct cur)) (rm : RM rows) (cm : CM c) (ru : RM cur) (hi : (gt c i).isSome = true) :
    bXl [some (.ref n), some (.ref q), some (.ref m), some (.int i), x4, x5] st = (if bad rows c i = true then some (.er "Mismatch" "row_id" (.int i), [some (.ref n), some (.ref q), some (.ref m), some (.int i), some (bef c i), some (aft c i)], st)
      else some (.nx, [some (.ref n), some (.ref q), some (.ref m), some (.int i), some (bef c i), some (aft c i)], st.set m (.dct (setK cur i (aft c i))))) := by
  obtain ⟨e, hb, ha, _⟩ := cm.at hi
  have e' : valD c (.inl i) = some (.tup [bef c i, aft c i]) := e
  have a1 : qx_apply_changes_1l_0 [some (.ref n), some (.ref q), some (.ref m), some (.int i), x4, x5] st = some (.nx, [some (.ref n), some (.ref q), some (.ref m), some (.int i), some (bef c i), some (aft c i)], st) := by
    simp [ixD, hq, asKey, e']
  have ne : opNe ((valD rows (.inl i)).getD .non) (bef c i) = some (.bl (bad rows c i)) := ne_py (rm.get i).py hb.py
  have sr := setrow_ok (i := i) (d := aft c i) hm ru.len
  rw [bXl, seq_step a1, u_sSeq, qx_apply_changes_1l_1, u_sIf]
  simp only [u_fTest, u_fOp, u_fVar, List.getElem?_cons_succ, List.getElem?_cons_zero, Option.bind_some, fGet1, dctAt, hn, asKey, ne, Option.map_some, u_asB]
  cases k : bad rows c i with
  | true =>
    simp [sRaise]
  | false =>
    simp [sr]
theorem xloop {n q m : Nat} {rows c : KL} (rm : RM rows) (cm : CM c) (nm : n ≠ m) (qm : q ≠ m) : ∀ {l : List Int} {st : Store} {cur : KL} {x3 x4 x5 : Option D}, (∀ i ∈ l, (gt c i).isSome = true ∧ i ∈ U9) → st[n]? = some (.dct rows) → st[q]? = some (.dct c) → st[m]? = some (.dct cur) → RM cur →
    ∃ o e2 cur', loopS (gN 3) bXl (l.map .int) [some (.ref n), some (.ref q), some (.ref m), x3, x4, x5] st = some (o, e2, st.set m (.dct cur')) ∧ (mis rows c l = none → o = .nx ∧ (∃ y3 y4 y5, e2 = [some (.ref n), some (.ref q), some (.ref m), y3, y4, y5]) ∧ Led c l cur cur') ∧ (∀ i, mis rows c l = some i → o = .er "Mismatch" "row_id" (.int i)) ∧ RM cur'
  | [], st, cur, x3, x4, x5, _, _, _, hm, ru => ⟨.nx, [some (.ref n), some (.ref q), some (.ref m), x3, x4, x5], cur, by rw [set_eq hm]; rfl, fun _ => ⟨rfl, ⟨_, _, _, rfl⟩, Led.nil ru⟩, fun i e => (by cases e), ru⟩
  | i :: l, st, cur, _, x4, x5, hl, hn, hq, hm, ru => by
    obtain ⟨hi, hu⟩ := hl i List.mem_cons_self
    have t := xturn (x4 := x4) (x5 := x5) hn hq hm rm cm ru hi
    have ha := (cm.at hi).2.2.1
    cases k : bad rows c i with
    | true =>
      rw [k, if_pos rfl] at t
      refine ⟨.er "Mismatch" "row_id" (.int i), [some (.ref n), some (.ref q), some (.ref m), some (.int i), some (bef c i), some (aft c i)], cur, ?_, fun (z : mis rows c (i :: l) = none) => ?_, fun j (z : mis rows c (i :: l) = some j) => ?_, ru⟩
      · rw [List.map_cons, loopS]
        simp only [u_gN, List.set_cons_succ, List.set_cons_zero, Option.bind_some, t, set_eq hm]
      · rw [mis, List.find?_cons, k] at z; cases z
      · rw [mis, List.find?_cons, k] at z; cases z; rfl
    | false =>
      rw [k, if_neg Bool.false_ne_true] at t
      have ru2 := ru.set hu ha
      obtain ⟨o, e2, cur', h1, h2, h3, h4⟩ := xloop rm cm nm qm (l := l) (st := st.set m (.dct (setK cur i (aft c i)))) (cur := setK cur i (aft c i)) (x3 := some (.int i)) (x4 := some (bef c i)) (x5 := some (aft c i)) (fun j hj => hl j (List.mem_cons_of_mem _ hj)) (by rw [List.getElem?_set_ne (Ne.symm nm)]; exact hn) (by rw [List.getElem?_set_ne (Ne.symm qm)]; exact hq) (List.getElem?_set_self (List.getElem?_eq_some_iff.mp hm).1) ru2
      have em : mis rows c (i :: l) = mis rows c l := by rw [mis, List.find?_cons, k]; rfl
      refine ⟨o, e2, cur', ?_, fun z => ?_, fun j z => h3 j (em ▸ z), h4⟩
      · rw [List.map_cons, loopS]
        simp only [u_gN, List.set_cons_succ, List.set_cons_zero, Option.bind_some, t]
        rw [h1, List.set_set]
      · obtain ⟨z1, z2, z3⟩ := h2 (em ▸ z)
        exact ⟨z1, z2, .cons (fun j => gt_setK cur i j _) z3⟩
/-- the keys in order -/
theorem CM.keys {c : KL} (h : CM c) : ∃ ks : List Int, sortedKs c = some ks ∧ (∀ i, i ∈ ks ↔ (gt c i).isSome = true) ∧ (∀ i ∈ ks, i ∈ U9) ∧ ks.length ≤ 9 := by
  obtain ⟨ks, h1, h2, h3, h4, h5, h6⟩ := h.ok.sortedKs (by decide)
  refine ⟨srt ks, h1, h4, fun i m => ?_, ?_⟩
  · exact (gt_mem h.ok (Option.some_get ((h4 i).mp m)).symm).2
  · have nd := nodup_sub (l := srt ks) (u := ks) (List.Pairwise.imp (fun {a b} (h : a < b) => Int.ne_of_lt h) (srt_pw ks)) fun x m => by rw [srt_mem] at m; exact m
    have := h.len
    omega
/-- what the changes lead to -/
def ap (rows c : KL) (j : Int) : Option D := if (gt c j).isSome = true then opt (aft c j) else gt rows j
theorem Led.ap {rows c b : KL} {ks : List Int} (h : Led c ks rows b) (hk : ∀ i, i ∈ ks ↔ (gt c i).isSome = true) (j : Int) : gt b j = LW.ap rows c j := by
  rw [h.g, LW.ap]
  by_cases m : j ∈ ks
  · rw [if_pos m, if_pos ((hk j).mp m)]
  · rw [if_neg m, if_neg (fun z => m ((hk j).mpr z))]
theorem at_old {st : Store} {n : Nat} {o o' : Ob} (h : st[n]? = some o) : (st ++ [o'])[n]? = some o := by
  rw [List.getElem?_append_left (List.getElem?_eq_some_iff.mp h).1, h]
theorem lt_old {st : Store} {n : Nat} {o : Ob} (h : st[n]? = some o) : n < st.length := (List.getElem?_eq_some_iff.mp h).1
theorem xapply_ok {n q : Nat} {st : Store} {rows c : KL} {ks : List Int} (hn : st[n]? = some (.dct rows)) (hq : st[q]? = some (.dct c)) (rm : RM rows) (cm : CM c) (hk : sortedKs c = some ks) (km : ∀ i, i ∈ ks ↔ (gt c i).isSome = true) (ku : ∀ i ∈ ks, i ∈ U9) :
    ∃ z cur, mx_apply_changes [.ref n, .ref q] st = some (z, st ++ [.dct cur]) ∧ (mis rows c ks = none → z = .val (.ref st.length) ∧ ∀ j, gt cur j = ap rows c j) ∧ (∀ i, mis rows c ks = some i → z = .er "Mismatch" "row_id" (.int i)) ∧ RM cur := by
  have c1 := copy_ok (env := [some (.ref n), some (.ref q), none, none, none, none]) (i := 3) rfl hn rm.ok.nd (Nat.le_trans rm.len (by decide)) (fun _ => rfl) (fun _ => rfl)
  obtain ⟨o, e2, cur', h1, h2, h3, h4⟩ := xloop (n := n) (q := q) (m := st.length) rm cm (Nat.ne_of_lt (lt_old hn)) (Nat.ne_of_lt (lt_old hq)) (l := ks) (st := st ++ [.dct rows]) (cur := rows) (x3 := none) (x4 := none) (x5 := none) (fun i m => ⟨(km i).mp m, ku i m⟩) (at_old hn) (at_old hq) (by simp) rm
  rw [set_app] at h1
  have k1 : iOf asL (fSortKs (fVar 1)) [some (.ref n), some (.ref q), some (.ref st.length), none, none, none] (st ++ [.dct rows]) = some (ks.map .int, st ++ [.dct rows]) := by
    simp [fSortKs, dctAt, at_old hq, hk]
  have run : mx_apply_changes [.ref n, .ref q] st = outX (match ((o, e2, st ++ [.dct cur']) : Out × Lo × Store) with | (.nx, e1, s1) => qx_apply_changes_2 e1 s1 | z => some z) := by
    rw [mx_apply_changes, mOfX, gx_apply_changes]
    show outX (sSeq qx_apply_changes_0 _ [some (.ref n), some (.ref q), none, none, none, none] st) = _
    rw [seq_step (show qx_apply_changes_0 _ st = some (.nx, [some (.ref n), some (.ref q), some (.ref st.length), none, none, none], st ++ [.dct rows]) from c1), u_sSeq, show qx_apply_changes_1 _ _ = _ from (for_step k1).trans h1]
    rfl
  cases z : mis rows c ks with
  | none =>
    obtain ⟨rfl, ⟨y3, y4, y5, rfl⟩, led⟩ := h2 z
    exact ⟨.val (.ref st.length), cur', by rw [run]; simp [outX], fun _ => ⟨rfl, led.ap km⟩, fun i e => (by cases e), h4⟩
  | some i =>
    obtain rfl := h3 i z
    exact ⟨_, cur', by rw [run]; rfl, fun e => (by cases e), fun j e => by cases e; rfl, h4⟩
/-- what is told of it -/
def out (rows c : KL) (ks : List Int) (m : Nat) : D := match mis rows c ks with | none => .ref m | some i => .int i
theorem told_ok {n q : Nat} {st : Store} {rows c : KL} {ks : List Int} (hn : st[n]? = some (.dct rows)) (hq : st[q]? = some (.dct c)) (rm : RM rows) (cm : CM c) (hk : sortedKs c = some ks) (km : ∀ i, i ∈ ks ↔ (gt c i).isSome = true) (ku : ∀ i ∈ ks, i ∈ U9) :
    ∃ cur, m__law_told [.ref n, .ref q] st = some (out rows c ks st.length, st ++ [.dct cur]) ∧ (mis rows c ks = none → ∀ j, gt cur j = ap rows c j) ∧ RM cur := by
  obtain ⟨z, cur, h1, h2, h3, h4⟩ := xapply_ok hn hq rm cm hk km ku
  refine ⟨cur, ?_, fun e => (h2 e).2, h4⟩
  unfold out
  cases k : mis rows c ks with
  | none =>
    obtain ⟨rfl, _⟩ := h2 k
    simp [m__law_told, g__law_told, sTry, sAsgX, fCallX, h1]
  | some i =>
    obtain rfl := h3 i k
    simp [m__law_told, g__law_told, sTry, sAsgX, fCallX, h1, hAsg, wipeO]
end LW
namespace LW
open PySem PySem.Spec PyProof.Rows L2 DL TL
theorem atLast' {us : List D} {d : D} : L2.atI (us ++ [d]) (-1) = some d := by
  unfold L2.atI
  have : ixN (us ++ [d]).length (-1) = some us.length := by
    simp [ixN]
    omega
  rw [this]
  simp
theorem pop_ok {m a b : Nat} {i : Int} {env : Lo} {st : Store} {cur : KL} (ha : env[a]? = some (some (.ref m))) (hb : env[b]? = some (some (.int i))) (hm : st[m]? = some (.dct cur)) : sDrop (fPop2 (fVar a) (fVar b) (fC .non)) env st = some (.nx, env, st.set m (.dct (dropD cur (.inl i)))) := by
  cases v : valD cur (.inl i) with
  | some x => simp [fPop2, dctAt, hm, asKey, v, ha, hb]
  | none =>
    have e : dropD cur (.inl i) = cur := by
      refine List.filter_eq_self.mpr fun p m => decide_eq_true fun z => ?_
      exact valD_none.mp v (List.mem_map.mpr ⟨p, m, z⟩)
    simp [fPop2, dctAt, hm, asKey, v, e, set_eq hm, ha, hb]
/-! the law's own way -/
noncomputable abbrev bAl : FS := sSeq q__law_applied_1l_0 (sSeq q__law_applied_1l_1 q__law_applied_1l_2)
theorem aturn {n q m : Nat} {st : Store} {rows c cur : KL} {i : Int} (nm : n ≠ m) (qm : q ≠ m) (hn : st[n]? = some (.dct rows)) (hq : st[q]? = some (.dct c)) (hm : st[m]? = some (.dct cur)) (rm : RM rows) (cm : CM c) (ru : RM cur) (hi : (gt c i).isSome = true) (hu : i ∈ U9) :
    ∃ cur2, RM cur2 ∧ (∀ j, gt cur2 j = if i = j then opt (aft c i) else gt cur j) ∧ bAl [some (.ref n), some (.ref q), some (.ref m), some (.int i)] st = (if bad rows c i = true then some (.rt (.int i), [some (.ref n), some (.ref q), some (.ref m), some (.int i)], st)
      else some (.nx, [some (.ref n), some (.ref q), some (.ref m), some (.int i)], st.set m (.dct cur2))) := by
  obtain ⟨e, hb, ha, _⟩ := cm.at hi
  have e' : valD c (.inl i) = some (.tup [bef c i, aft c i]) := e
  have i0 : L2.atI [bef c i, aft c i] 0 = some (bef c i) := ix0
  have i1 : L2.atI [bef c i, aft c i] 1 = some (aft c i) := ix1
  have ne : opNe ((valD rows (.inl i)).getD .non) (bef c i) = some (.bl (bad rows c i)) := ne_py (rm.get i).py hb.py
  have rd := ru.set hu (.inl rfl : RwO i .non)
  have ed : setK cur i .non = dropD cur (.inl i) := rfl
  refine ⟨setK (setK cur i .non) i (aft c i), rd.set hu ha, fun j => ?_, ?_⟩
  · rw [gt_setK, gt_setK]
    by_cases z : i = j
    · rw [if_pos z, if_pos z]
    · rw [if_neg z, if_neg z, if_neg z]
  · have a1 : q__law_applied_1l_0 [some (.ref n), some (.ref q), some (.ref m), some (.int i)] st = if bad rows c i = true then some (.rt (.int i), [some (.ref n), some (.ref q), some (.ref m), some (.int i)], st) else some (.nx, [some (.ref n), some (.ref q), some (.ref m), some (.int i)], st) := by
      rw [q__law_applied_1l_0, u_sIf]
      simp only [u_fTest, u_fOp, u_fVar, u_fSub, u_fC, List.getElem?_cons_succ, List.getElem?_cons_zero, Option.bind_some, fGet1, dctAt, hn, hq, asKey, ixD, e', i0, ne, Option.map_some, u_asB]
      cases bad rows c i <;> simp
    cases k : bad rows c i with
    | true =>
      rw [k, if_pos rfl] at a1
      rw [bAl, seq_ret a1, if_pos rfl]
    | false =>
      rw [k, if_neg Bool.false_ne_true] at a1
      rw [bAl, seq_step a1, if_neg Bool.false_ne_true]
      have p := pop_ok (m := m) (a := 2) (b := 3) (i := i) (env := [some (.ref n), some (.ref q), some (.ref m), some (.int i)]) rfl rfl hm
      have ml := lt_old hm
      have hm2 : (st.set m (.dct (dropD cur (.inl i))))[m]? = some (.dct (dropD cur (.inl i))) := List.getElem?_set_self ml
      have hq2 : (st.set m (.dct (dropD cur (.inl i))))[q]? = some (.dct c) := by rw [List.getElem?_set_ne (Ne.symm qm)]; exact hq
      have z := z9 (show (dropD cur (.inl i)).length ≤ 9 from rd.len)
      rw [seq_step (show q__law_applied_1l_1 _ st = _ from p), q__law_applied_1l_2, u_sIf]
      simp only [u_fTest, u_fOp, u_fVar, u_fSub, u_fC, List.getElem?_cons_succ, List.getElem?_cons_zero, Option.bind_some, hq2, asKey, ixD, e', i1, opIsnt_non, Option.map_some, u_asB]
      cases w : DL.isNon (aft c i) with
      | true =>
        have : setK (setK cur i .non) i (aft c i) = dropD cur (.inl i) := by
          rw [setK, if_pos w, ed]
          unfold dropD
          rw [List.filter_filter]
          refine List.filter_congr fun x _ => ?_
          simp
        rw [this]
        simp
      | false =>
        have : setK (setK cur i .non) i (aft c i) = putD (dropD cur (.inl i)) (.inl i) (aft c i) := by rw [setK, if_neg (by rw [w]; exact Bool.false_ne_true), ed]
        rw [this]
        simp [sPut, hm2, hq2, ixD, asKey, e', i1, z]
theorem aloop {n q m : Nat} {rows c : KL} (rm : RM rows) (cm : CM c) (nm : n ≠ m) (qm : q ≠ m) : ∀ {l : List Int} {st : Store} {cur : KL} {x3 : Option D}, (∀ i ∈ l, (gt c i).isSome = true ∧ i ∈ U9) → st[n]? = some (.dct rows) → st[q]? = some (.dct c) → st[m]? = some (.dct cur) → RM cur →
    ∃ o e2 cur', loopS (gN 3) bAl (l.map .int) [some (.ref n), some (.ref q), some (.ref m), x3] st = some (o, e2, st.set m (.dct cur')) ∧ (mis rows c l = none → o = .nx ∧ (∃ y3, e2 = [some (.ref n), some (.ref q), some (.ref m), y3]) ∧ Led c l cur cur') ∧ (∀ i, mis rows c l = some i → o = .rt (.int i)) ∧ RM cur'
  | [], st, cur, x3, _, _, _, hm, ru => ⟨.nx, [some (.ref n), some (.ref q), some (.ref m), x3], cur, by rw [set_eq hm]; rfl, fun _ => ⟨rfl, ⟨_, rfl⟩, Led.nil ru⟩, fun i e => (by cases e), ru⟩
  | i :: l, st, cur, x3, hl, hn, hq, hm, ru => by
    obtain ⟨hi, hu⟩ := hl i List.mem_cons_self
    obtain ⟨cur2, r2, g2, t⟩ := aturn nm qm hn hq hm rm cm ru hi hu
    cases k : bad rows c i with
    | true =>
      rw [k, if_pos rfl] at t
      refine ⟨.rt (.int i), [some (.ref n), some (.ref q), some (.ref m), some (.int i)], cur, ?_, fun (z : mis rows c (i :: l) = none) => ?_, fun j (z : mis rows c (i :: l) = some j) => ?_, ru⟩
      · rw [List.map_cons, loopS]
        simp only [u_gN, List.set_cons_succ, List.set_cons_zero, Option.bind_some, t, set_eq hm]
      · rw [mis, List.find?_cons, k] at z; cases z
      · rw [mis, List.find?_cons, k] at z; cases z; rfl
    | false =>
      rw [k, if_neg Bool.false_ne_true] at t
      obtain ⟨o, e2, cur', h1, h2, h3, h4⟩ := aloop rm cm nm qm (l := l) (st := st.set m (.dct cur2)) (cur := cur2) (x3 := some (.int i)) (fun j hj => hl j (List.mem_cons_of_mem _ hj)) (by rw [List.getElem?_set_ne (Ne.symm nm)]; exact hn) (by rw [List.getElem?_set_ne (Ne.symm qm)]; exact hq) (List.getElem?_set_self (List.getElem?_eq_some_iff.mp hm).1) r2
      have em : mis rows c (i :: l) = mis rows c l := by rw [mis, List.find?_cons, k]; rfl
      refine ⟨o, e2, cur', ?_, fun z => ?_, fun j z => h3 j (em ▸ z), h4⟩
      · rw [List.map_cons, loopS]
        simp only [u_gN, List.set_cons_succ, List.set_cons_zero, Option.bind_some, t]
        rw [h1, List.set_set]
      · obtain ⟨z1, z2, z3⟩ := h2 (em ▸ z)
        exact ⟨z1, z2, .cons g2 z3⟩
theorem applied_ok {n q : Nat} {st : Store} {rows c : KL} {ks : List Int} (hn : st[n]? = some (.dct rows)) (hq : st[q]? = some (.dct c)) (rm : RM rows) (cm : CM c) (hk : sortedKs c = some ks) (km : ∀ i, i ∈ ks ↔ (gt c i).isSome = true) (ku : ∀ i ∈ ks, i ∈ U9) :
    ∃ cur, m__law_applied [.ref n, .ref q] st = some (out rows c ks st.length, st ++ [.dct cur]) ∧ (mis rows c ks = none → ∀ j, gt cur j = ap rows c j) ∧ RM cur := by
  obtain ⟨o, e2, cur', h1, h2, h3, h4⟩ := aloop (n := n) (q := q) (m := st.length) rm cm (Nat.ne_of_lt (lt_old hn)) (Nat.ne_of_lt (lt_old hq)) (l := ks) (st := st ++ [.dct rows]) (cur := rows) (x3 := none) (fun i m => ⟨(km i).mp m, ku i m⟩) (at_old hn) (at_old hq) (by simp) rm
  rw [set_app] at h1
  have c1 : q__law_applied_0 [some (.ref n), some (.ref q), none, none] st = some (.nx, [some (.ref n), some (.ref q), some (.ref st.length), none], st ++ [.dct rows]) := by
    simp [fDictC, dctAt, hn]
  have k1 : iOf asL (fSortKs (fVar 1)) [some (.ref n), some (.ref q), some (.ref st.length), none] (st ++ [.dct rows]) = some (ks.map .int, st ++ [.dct rows]) := by
    simp [fSortKs, dctAt, at_old hq, hk]
  have run : m__law_applied [.ref n, .ref q] st = outM (match ((o, e2, st ++ [.dct cur']) : Out × Lo × Store) with | (.nx, e1, s1) => q__law_applied_2 e1 s1 | z => some z) := by
    rw [m__law_applied, g__law_applied]
    show outM (sSeq q__law_applied_0 _ [some (.ref n), some (.ref q), none, none] st) = _
    rw [seq_step c1, u_sSeq, show q__law_applied_1 _ _ = _ from (for_step k1).trans h1]
    rfl
  unfold out
  cases z : mis rows c ks with
  | none =>
    obtain ⟨rfl, ⟨y3, rfl⟩, led⟩ := h2 z
    exact ⟨cur', by rw [run]; simp, fun _ => led.ap km, h4⟩
  | some i =>
    obtain rfl := h3 i z
    exact ⟨cur', by rw [run]; rfl, fun e => (by cases e), h4⟩
/-! corrections -/
abbrev kS (s : String) : D := .str (Str.ofString s)
def corrD (i : Int) (d : D) : D := match d with | .tup [k, s] => .tup [kS "put", k, s] | _ => .tup [kS "drop", .int i]
theorem s_dd : opEq (kS "drop") (kS "drop") = some (.bl true) := eqL (by decide) (by decide) (by decide)
theorem s_pd : opEq (kS "put") (kS "drop") = some (.bl false) := eqL (by decide) (by decide) (by decide)
theorem corr_cases {i : Int} {d : D} (h : RwO i d) : (d = .non ∧ corrD i d = .tup [kS "drop", .int i]) ∨ ∃ us sh, d = .tup [.tup (us ++ [.int i]), .tup sh] ∧ corrD i d = .tup [kS "put", .tup (us ++ [.int i]), .tup sh] := by
  rcases h with rfl | h
  · exact .inl ⟨rfl, rfl⟩
  · obtain ⟨us, sh, rfl, _⟩ := h.ex
    exact .inr ⟨us, sh, rfl, rfl⟩
theorem correction_ok {i : Int} {d : D} (h : RwO i d) (st : Store) : m_correction_to [.int i, d] st = some (corrD i d, st) := by
  rcases corr_cases h with ⟨rfl, e⟩ | ⟨us, sh, rfl, e⟩
  · rw [e]
    simp [m_correction_to, g_correction_to, opIs_non, DL.isNon]
  · rw [e]
    simp [m_correction_to, g_correction_to, opIs_non, DL.isNon]
def corrs (c : KL) (ks : List Int) : List D := ks.map fun i => corrD i (aft c i)
theorem corrections_ok {q : Nat} {st : Store} {c : KL} {ks : List Int} (hq : st[q]? = some (.dct c)) (cm : CM c) (hk : sortedKs c = some ks) (km : ∀ i, i ∈ ks ↔ (gt c i).isSome = true) (kl : ks.length ≤ 9) : m_corrections_of [.ref q] st = some (.lst (corrs c ks), st) := by
  have lc := loopC_over (φ := D.int) (ψ := fun i => corrD i (aft c i)) (is := [1]) (bd := b1) (f := fCall m_correction_to (aCons (fVar 1) (aCons (fSub (fSub (fVar 0) (fVar 1)) (fC (.int 1))) aNil))) (env := [some (.ref q), none]) (st := st) (l := ks) fun i m => ⟨[.int i], rfl, by
    obtain ⟨e, hb, ha, _⟩ := cm.at ((km i).mp m)
    have e' : valD c (.inl i) = some (.tup [bef c i, aft c i]) := e
    have i1 : L2.atI [bef c i, aft c i] 1 = some (aft c i) := ix1
    simp [ixD, hq, asKey, e', i1, correction_ok ha]⟩
  have z : ks.length ≤ sizeLine := sl_of (by omega)
  rw [m_corrections_of, g_corrections_of, u_mOf, q_corrections_of_0, u_sRet, u_fComp]
  simp only [u_iOf, fSortKs, u_startD]
  simp [dctAt, hq, hk]
  simp [lc, z, corrs]
theorem lcorrections_loop {q k : Nat} {c : KL} (cm : CM c) (qk : q ≠ k) : ∀ {l : List Int} {st : Store} {xs : List D} {x2 x3 : Option D}, (∀ i ∈ l, (gt c i).isSome = true) → xs.length + l.length ≤ 1000 → st[q]? = some (.dct c) → st[k]? = some (.lst xs) →
    ∃ y2 y3, loopS (gN 2) (sSeq q__law_corrections_1l_0 q__law_corrections_1l_1) (l.map .int) [some (.ref q), some (.ref k), x2, x3] st = some (.nx, [some (.ref q), some (.ref k), y2, y3], st.set k (.lst (xs ++ corrs c l)))
  | [], st, xs, x2, x3, _, _, _, hk => ⟨x2, x3, by rw [show corrs c [] = [] from rfl, List.append_nil, set_eq hk]; rfl⟩
  | i :: l, st, xs, x2, x3, hl, hz, hq, hk => by
    obtain ⟨e, hb, ha, _⟩ := cm.at (hl i List.mem_cons_self)
    have e' : valD c (.inl i) = some (.tup [bef c i, aft c i]) := e
    have i1 : L2.atI [bef c i, aft c i] 1 = some (aft c i) := ix1
    have zl : xs.length < sizeLine := Nat.lt_of_le_of_lt (by simp at hz; omega) (show 1000 < sizeLine by decide)
    have t : sSeq q__law_corrections_1l_0 q__law_corrections_1l_1 [some (.ref q), some (.ref k), some (.int i), x3] st = some (.nx, [some (.ref q), some (.ref k), some (.int i), some (aft c i)], st.set k (.lst (xs ++ [corrD i (aft c i)]))) := by
      have a1 : q__law_corrections_1l_0 [some (.ref q), some (.ref k), some (.int i), x3] st = some (.nx, [some (.ref q), some (.ref k), some (.int i), some (aft c i)], st) := by simp [ixD, hq, asKey, e', i1]
      rw [seq_step a1]
      rcases corr_cases ha with ⟨ea, ec⟩ | ⟨us, sh, ea, ec⟩
      · rw [ec, ea]
        simp [fApp, isLs, hk, appAt, zl, opIs_non, DL.isNon]
      · have j0 : L2.atI [D.tup (us ++ [.int i]), .tup sh] 0 = some (.tup (us ++ [.int i])) := ix0
        have j1 : L2.atI [D.tup (us ++ [.int i]), .tup sh] 1 = some (.tup sh) := ix1
        rw [ec, ea]
        simp [fApp, isLs, hk, appAt, zl, opIs_non, DL.isNon, j0, j1]
    obtain ⟨y2, y3, h⟩ := lcorrections_loop cm qk (l := l) (st := st.set k (.lst (xs ++ [corrD i (aft c i)]))) (xs := xs ++ [corrD i (aft c i)]) (x2 := some (.int i)) (x3 := some (aft c i)) (fun j m => hl j (List.mem_cons_of_mem _ m)) (by simp at hz ⊢; omega) (by rw [List.getElem?_set_ne (Ne.symm qk)]; exact hq) (List.getElem?_set_self (lt_old hk))
    refine ⟨y2, y3, ?_⟩
    rw [List.map_cons, loopS]
    simp only [u_gN, List.set_cons_succ, List.set_cons_zero, Option.bind_some, t]
    rw [h, List.set_set]
    simp [corrs]
theorem lcorrections_ok {q : Nat} {st : Store} {c : KL} {ks : List Int} (hq : st[q]? = some (.dct c)) (cm : CM c) (hk : sortedKs c = some ks) (km : ∀ i, i ∈ ks ↔ (gt c i).isSome = true) (kl : ks.length ≤ 9) : m__law_corrections [.ref q] st = some (.lst (corrs c ks), st ++ [.dead]) := by
  obtain ⟨y2, y3, h⟩ := lcorrections_loop (q := q) (k := st.length) cm (Nat.ne_of_lt (lt_old hq)) (l := ks) (st := st ++ [.lst []]) (xs := []) (x2 := none) (x3 := none) (fun i m => (km i).mp m) (by simp; omega) (at_old hq) (by simp)
  have c0 : q__law_corrections_0 [some (.ref q), none, none, none] st = some (.nx, [some (.ref q), some (.ref st.length), none, none], st ++ [.lst []]) := by simp
  have k1 : iOf asL (fSortKs (fVar 0)) [some (.ref q), some (.ref st.length), none, none] (st ++ [.lst []]) = some (ks.map .int, st ++ [.lst []]) := by
    simp [fSortKs, dctAt, at_old hq, hk]
  rw [set_app, List.nil_append] at h
  rw [m__law_corrections, g__law_corrections]
  show outM (sSeq q__law_corrections_0 _ [some (.ref q), none, none, none] st) = _
  rw [seq_step c0, seq_step (show q__law_corrections_1 _ _ = _ from (for_step k1).trans h), q__law_corrections_2]
  simp [sFrzL]
end LW
namespace LW
open PySem PySem.Spec PyProof.Rows L2 DL TL
/-! corrections applied -/
theorem cid_ok {i : Int} {d : D} (h : RwO i d) (st : Store) : m_corrected_id [corrD i d] st = some (.int i, st) := by
  rcases corr_cases h with ⟨rfl, e⟩ | ⟨us, sh, rfl, e⟩
  · rw [e]
    have i0 : L2.atI [kS "drop", .int i] 0 = some (kS "drop") := ix0
    have i1 : L2.atI [kS "drop", .int i] 1 = some (.int i) := ix1
    simp [m_corrected_id, g_corrected_id, i0, i1, s_dd]
  · rw [e]
    have i0 : L2.atI [kS "put", .tup (us ++ [.int i]), .tup sh] 0 = some (kS "put") := ix0
    have i1 : L2.atI [kS "put", .tup (us ++ [.int i]), .tup sh] 1 = some (.tup (us ++ [.int i])) := ix1
    simp [m_corrected_id, g_corrected_id, i0, i1, s_pd, atLast']
noncomputable abbrev bCl : FS := sSeq q_apply_corrections_1l_0 q_apply_corrections_1l_1
theorem cturn {n m : Nat} {st : Store} {cur : KL} {i : Int} {d cs : D} {x4 : Option D} (hm : st[m]? = some (.dct cur)) (ru : RM cur) (h : RwO i d) :
    bCl [some (.ref n), some cs, some (.ref m), some (corrD i d), x4, none] st = some (.nx, [some (.ref n), some cs, some (.ref m), some (corrD i d), some d, none], st.set m (.dct (setK cur i d))) := by
  have sr := setrow_ok (i := i) (d := d) hm ru.len
  have ci := cid_ok h st
  have a1 : q_apply_corrections_1l_0 [some (.ref n), some cs, some (.ref m), some (corrD i d), x4, none] st = some (.nx, [some (.ref n), some cs, some (.ref m), some (corrD i d), some d, none], st) := by
    rcases corr_cases h with ⟨rfl, e⟩ | ⟨us, sh, rfl, e⟩
    · rw [e]
      have i0 : L2.atI [kS "drop", .int i] 0 = some (kS "drop") := ix0
      simp [i0, s_dd]
    · rw [e]
      have i0 : L2.atI [kS "put", .tup (us ++ [.int i]), .tup sh] 0 = some (kS "put") := ix0
      simp [i0, s_pd, slD, cut1]
  rw [bCl, seq_step a1]
  simp [ci, sr]
theorem cloop {n m : Nat} {c : KL} {cs : D} : ∀ {l : List Int} {st : Store} {cur : KL} {x3 x4 : Option D}, (∀ i ∈ l, RwO i (aft c i) ∧ i ∈ U9) → st[m]? = some (.dct cur) → RM cur →
    ∃ y3 y4 cur', loopS (gN 3) bCl (corrs c l) [some (.ref n), some cs, some (.ref m), x3, x4, none] st = some (.nx, [some (.ref n), some cs, some (.ref m), y3, y4, none], st.set m (.dct cur')) ∧ Led c l cur cur'
  | [], st, cur, x3, x4, _, hm, ru => ⟨x3, x4, cur, by rw [set_eq hm]; rfl, Led.nil ru⟩
  | i :: l, st, cur, x3, x4, hl, hm, ru => by
    obtain ⟨ha, hu⟩ := hl i List.mem_cons_self
    have t := cturn (n := n) (cs := cs) (x4 := x4) hm ru ha
    obtain ⟨y3, y4, cur', h1, h2⟩ := cloop (n := n) (cs := cs) (l := l) (st := st.set m (.dct (setK cur i (aft c i)))) (x3 := some (corrD i (aft c i))) (x4 := some (aft c i)) (fun j hj => hl j (List.mem_cons_of_mem _ hj)) (List.getElem?_set_self (lt_old hm)) (ru.set hu ha)
    refine ⟨y3, y4, cur', ?_, .cons (fun j => gt_setK cur i j _) h2⟩
    rw [show corrs c (i :: l) = corrD i (aft c i) :: corrs c l from rfl, loopS]
    simp only [u_gN, List.set_cons_succ, List.set_cons_zero, Option.bind_some, t]
    rw [h1, List.set_set]
theorem capply_ok {n : Nat} {st : Store} {rows c : KL} {l : List Int} (hn : st[n]? = some (.dct rows)) (rm : RM rows) (hl : ∀ i ∈ l, RwO i (aft c i) ∧ i ∈ U9) : ∃ cur, m_apply_corrections [.ref n, .lst (corrs c l)] st = some (.ref st.length, st ++ [.dct cur]) ∧ Led c l rows cur := by
  have c1 := copy_ok (env := [some (.ref n), some (.lst (corrs c l)), none, none, none, none]) (i := 5) rfl hn rm.ok.nd (Nat.le_trans rm.len (by decide)) (fun _ => rfl) (fun _ => rfl)
  obtain ⟨y3, y4, cur', h1, h2⟩ := cloop (n := n) (m := st.length) (cs := .lst (corrs c l)) (l := l) (st := st ++ [.dct rows]) (cur := rows) (x3 := none) (x4 := none) hl (by simp) rm
  rw [set_app] at h1
  refine ⟨cur', ?_, h2⟩
  rw [m_apply_corrections, g_apply_corrections]
  show outM (sSeq q_apply_corrections_0 _ [some (.ref n), some (.lst (corrs c l)), none, none, none, none] st) = _
  rw [seq_step (show q_apply_corrections_0 _ st = some (.nx, [some (.ref n), some (.lst (corrs c l)), some (.ref st.length), none, none, none], st ++ [.dct rows]) from c1), seq_step (show q_apply_corrections_1 _ _ = _ from (for_step (by simp)).trans h1)]
  simp
/-- no changes at all -/
theorem apply0_ok {n : Nat} {st : Store} {rows : KL} (hn : st[n]? = some (.dct rows)) (rm : RM rows) : m_apply_changes [.ref n, .dct []] st = some (.ref st.length, st ++ [.dct rows]) := by
  have c1 := copy_ok (env := [some (.ref n), some (.dct []), none, none, none, none]) (i := 3) rfl hn rm.ok.nd (Nat.le_trans rm.len (by decide)) (fun _ => rfl) (fun _ => rfl)
  have k1 : iOf asL (fSortKs (fVar 1)) [some (.ref n), some (.dct []), some (.ref st.length), none, none, none] (st ++ [.dct rows]) = some ([], st ++ [.dct rows]) := by
    have : sortedKs [] = some [] := by decide
    simp [fSortKs, dctAt, this]
  rw [m_apply_changes, g_apply_changes]
  show outM (sSeq q_apply_changes_0 _ [some (.ref n), some (.dct []), none, none, none, none] st) = _
  rw [seq_step (show q_apply_changes_0 _ st = some (.nx, [some (.ref n), some (.dct []), some (.ref st.length), none, none, none], st ++ [.dct rows]) from c1), seq_step (show q_apply_changes_1 _ _ = _ from (for_step k1).trans rfl)]
  simp
/-! a copy from the rows themselves -/
theorem RM.mem {l : KL} (h : RM l) {kv : Key × D} (m : kv ∈ l) : ∃ i, kv.1 = .inl i ∧ i ∈ U9 ∧ Rw i kv.2 := by
  obtain ⟨i, hi, e⟩ := h.ok.mem kv m
  obtain ⟨k, d⟩ := kv
  have e' : k = .inl i := e
  subst e'
  exact ⟨i, rfl, hi, h.rw i d ((valD_some h.ok.nd).mpr m)⟩
theorem copyof_ok {st : Store} {e : KL} (rm : RM e) : m_copy_of [.lst (kVals e)] st = some (.ref st.length, st ++ [.dct e]) := by
  have lp : loopD [1] b1 tTrue (fSub (fSub (fVar 1) (fC (.int 0))) (fUn negI (fC (.int 1)))) (fVar 1) (e.map fun kv => kv.2) [] [some (.lst (kVals e)), none] st = some ([] ++ e, st) :=
    loopD_all (φ := fun kv => kv.2) rm.ok.nd (Nat.le_trans rm.len (by decide)) fun kv m => ⟨[kv.2], rfl, by
      obtain ⟨i, e1, _, hr⟩ := rm.mem m
      obtain ⟨us, sh, e2, _⟩ := hr.ex
      have i0 : L2.atI [D.tup (us ++ [.int i]), .tup sh] 0 = some (.tup (us ++ [.int i])) := ix0
      rw [e1, e2]
      simp [i0, atLast', keyD], by simp⟩
  rw [m_copy_of, g_copy_of, u_mOf, q_copy_of_0, u_sRet]
  show outM (Option.map _ (fDComp (iOf asL (fVar 0)) [1] b1 tTrue _ _ [some (.lst (kVals e)), none] st)) = _
  rw [fDComp]
  have k1 : iOf asL (fVar 0) [some (.lst (kVals e)), none] st = some (kVals e, st) := rfl
  rw [k1, Option.bind_some]
  show outM (Option.map _ (Option.map _ (loopD [1] b1 tTrue _ _ (e.map fun kv => kv.2) [] [some (.lst (kVals e)), none] st))) = _
  rw [lp]
  simp
/-! the same dict -/
theorem fitV {m : Nat} {d : D} (h : DL.OkV m d) : Fit d 20 m := ⟨h.ok, h.hd, h.wd⟩
theorem items_fit {e : KL} (rm : RM e) : Fit (.lst (itemsD e)) 22 50000 := by
  have key : ∀ d ∈ itemsD e, Fit d 21 5212 := fun d hd => by
    obtain ⟨kv, m, rfl⟩ := List.mem_map.mp hd
    have m' := (sortK_perm e).mem_iff.mp m
    obtain ⟨i, e1, hi, hr⟩ := rm.mem m'
    rw [e1]
    have b : -1000000000000000 < i ∧ i < 1000000000000000 := by
      simp only [U9, List.mem_cons, List.not_mem_nil, or_false] at hi
      omega
    exact (Fit.tup (FitL.cons (Fit.int b) (FitL.cons (fitV hr.ok) FitL.nil))).mono (by decide) (by decide)
  have ln : (itemsD e).length ≤ 9 := by
    rw [itemsD, List.length_map, (sortK_perm e).length_eq]; exact rm.len
  have := FitL.all key
  exact (Fit.lst this).mono (by decide) (Nat.le_trans (Nat.mul_le_mul_right _ ln) (by decide))
theorem sortI_ok {a : Nat} {i : Nat} {env : Lo} {st : Store} {e : KL} (hv : env[i]? = some (some (.ref a))) (ha : st[a]? = some (.dct e)) (rm : RM e) : fSortI (fVar i) env st = some (.lst (itemsD e), st) := by
  obtain ⟨ks, h1, _, h3, _⟩ := rm.ok.ints
  simp [fSortI, hv, dctAt, ha, h1, h3]
theorem same_ok {a b : Nat} {st : Store} {f e : KL} (ha : st[a]? = some (.dct f)) (hb : st[b]? = some (.dct e)) (rf : RM f) (re : RM e) (g : ∀ i, gt f i = gt e i) : m__law_same [.ref a, .ref b] st = some (.bl true, st) := by
  obtain ⟨x, hx⟩ := (items_fit re).repr (by decide) (by decide)
  have s1 := sortI_ok (env := [some (.ref a), some (.ref b)]) (i := 0) rfl ha rf
  have s2 := sortI_ok (env := [some (.ref a), some (.ref b)]) (i := 1) rfl hb re
  rw [itemsD_eq rf.ok re.ok g] at s1
  have eq : opEqS (.str x) (.str x) = some (.bl true) := by simp [opEqS, onS]
  have t : tyD (.ref a) st = some "dict" := by simp [tyD, ha, tyOb]
  rw [m__law_same, g__law_same, u_mOf, q__law_same_0, u_sRet]
  show outM (Option.map _ (fAnd _ _ [some (.ref a), some (.ref b)] st)) = _
  rw [u_fAnd]
  simp [t, isiB, s1, s2, hx, eq]
end LW
namespace LW
open PySem PySem.Spec PyProof.Rows L2 DL TL
theorem pv_noL {d : D} (h : pvB d = true) : noL d = true := by cases d <;> first | rfl | (cases h; done)
theorem rw_made {o : List (Nat × Bool)} {sh : List Nat} {vs : List D} {i : Int} (ol : o.length ≤ 4) (sl : sh.length ≤ 10) (oc : ∀ p ∈ o, p.1 < vs.length) (hs : ∀ n ∈ sh, n < vs.length) (hv : ∀ v ∈ vs, pvB v = true) (hi : 1 ≤ i ∧ i ≤ 9) : Rw i (.tup [kD o vs i, shD sh vs]) := by
  have f := row_fit (i := i) ol sl oc hs hv (by omega)
  have e1 : ∀ d ∈ (o.map fun p => atV vs p.1), pvB d = true := fun d hd => by
    obtain ⟨p, hp, rfl⟩ := List.mem_map.mp hd
    exact hv _ (mem_val (oc p hp))
  have e2 : ∀ d ∈ (sh.map fun n => atV vs n), pvB d = true := fun d hd => by
    obtain ⟨p, hp, rfl⟩ := List.mem_map.mp hd
    exact hv _ (mem_val (hs p hp))
  refine ⟨⟨_, _, rfl, by simp; omega⟩, ?_, ⟨f.ok, ?_, Nat.le_trans f.hd (by decide), f.wd⟩, f.hd⟩
  · have a1 := SmL.all (dp := 0) (wt := 40) (ds := (o.map fun p => atV vs p.1) ++ [D.int i]) fun d hd => by
      rcases List.mem_append.mp hd with m | m
      · exact pv_sm (e1 d m)
      · rw [List.mem_singleton.mp m]; exact Sm.int (by omega)
    have a2 := SmL.all (dp := 0) (wt := 40) (ds := sh.map fun n => atV vs n) fun d hd => pv_sm (e2 d hd)
    exact (Sm.tup (SmL.cons (Sm.tup a1) (SmL.cons (Sm.tup a2) (SmL.nil.mono (Nat.zero_le 1) (Nat.le_refl _))))).shaped (by decide)
  · show noLL [kD o vs i, shD sh vs] = true
    refine noLL_iff.mpr fun d hd => ?_
    simp only [List.mem_cons, List.not_mem_nil, or_false] at hd
    rcases hd with rfl | rfl
    · show noLL _ = true
      refine noLL_iff.mpr fun d hd => ?_
      rcases List.mem_append.mp hd with m | m
      · exact pv_noL (e1 d m)
      · rw [List.mem_singleton.mp m]; rfl
    · show noLL _ = true
      exact noLL_iff.mpr fun d hd => pv_noL (e2 d hd)
theorem row_ok {n : Nat} {w i : Int} {c : C} {o : List (Nat × Bool)} {sh : List Nat} {st : Store} (t : Tp st n) (h0 : 0 < w) (h1 : w ≤ 10) (vo : VOk w.toNat c o sh) (hi : 1 ≤ i ∧ i ≤ 9) :
    ∃ d st', m__law_row [.ref n, vD c o sh, .int i, .int w] st = some (d, st') ∧ RwO i d ∧ Tp st' n ∧ Fr n st st' ∧ st'.length = st.length := by
  obtain ⟨r, s1, g1, r0, r2, t1, f1, l1⟩ := pick_ok t (s := 3) (by decide) (by decide)
  by_cases z : r = 0
  · subst z
    refine ⟨.non, s1, ?_, .inl rfl, t1, f1, l1⟩
    simp [m__law_row, g__law_row, e_pick, g1, opEq_int]
  · have z' : (r == 0) = false := by simp [z]
    obtain ⟨vs, s2, g2, lv, pv, t2, f2, l2⟩ := values_ok t1 (w := w) (by omega) h1
    have wn : w.toNat = vs.length := by omega
    rw [wn] at vo
    have k1 := lkey_ok (c := c) (sh := sh) (i := i) s2 vo.oc vo.ol
    have zs : sh.length ≤ sizeLine := sl_of (Nat.le_trans vo.sl (by omega))
    have k3 := shown_ok (i := 4) (j := 5) (st := s2) (env := [some (.ref n), some (vD c o sh), some (.int i), some (.int w), some (.tup vs), none]) vo.sc (Nat.le_trans vo.sl (by omega)) (fun _ => rfl) (fun _ => rfl)
    refine ⟨.tup [kD o vs i, shD sh vs], s2, ?_, .inr (rw_made vo.ol (Nat.le_trans vo.sl (by omega)) vo.oc vo.sc pv hi), t2, f1.trans f2, by rw [l2, l1]⟩
    have c0 : q__law_row_0 [some (.ref n), some (vD c o sh), some (.int i), some (.int w), none, none] st = some (.nx, [some (.ref n), some (vD c o sh), some (.int i), some (.int w), none, none], s1) := by
      simp [e_pick, g1, opEq_int, z']
    have c1 : q__law_row_1 [some (.ref n), some (vD c o sh), some (.int i), some (.int w), none, none] s1 = some (.nx, [some (.ref n), some (vD c o sh), some (.int i), some (.int w), some (.tup vs), none], s2) := by
      simp [g2]
    rw [m__law_row, g__law_row]
    show outM (sSeq q__law_row_0 _ [some (.ref n), some (vD c o sh), some (.int i), some (.int w), none, none] st) = _
    rw [seq_step c0, seq_step c1]
    have i2 : L2.atI [C.d c, .tup (vOrd o), .tup (sh.map fun n : Nat => D.int n)] 2 = some (.tup (sh.map fun n : Nat => D.int n)) := ix2
    simp only [vD] at k1 k3 ⊢
    simp at k3
    simp [k1, i2, k3, zs, shD]
/-! the changes drawn -/
structure CP (m : Int) (c : KL) : Prop where
  ok : okK U9 c
  ch : ∀ i d, gt c i = some d → ∃ b a, d = .tup [b, a] ∧ RwO i b ∧ RwO i a ∧ i ≤ 7
theorem CP.nil {m : Int} : CP m [] := ⟨.nil, fun i d e => by cases e⟩
theorem CP.put {m : Int} {c : KL} (h : CP m c) {i : Int} (hi : 1 ≤ i ∧ i ≤ 7) {b a : D} (hb : RwO i b) (ha : RwO i a) : CP m (putD c (.inl i) (.tup [b, a])) := by
  refine ⟨h.ok.put (by simp only [U9, List.mem_cons, List.not_mem_nil, or_false]; omega) _, fun j d e => ?_⟩
  rw [gt, valD_put] at e
  by_cases z : (Sum.inl i : Key) = Sum.inl j
  · rw [if_pos z] at e
    injection z with z
    subst z
    cases e
    exact ⟨b, a, rfl, hb, ha, hi.2⟩
  · rw [if_neg z] at e
    exact h.ch j d e
theorem set_turn {n k : Nat} {w i : Int} {c : C} {o : List (Nat × Bool)} {sh : List Nat} {st : Store} {cur : KL} {x6 x7 : Option D} (t : Tp st n) (kn : k ≠ n) (h0 : 0 < w) (h1 : w ≤ 10) (vo : VOk w.toNat c o sh) (hi : 1 ≤ i ∧ i ≤ 7) (hk : st[k]? = some (.dct cur)) (hc : CP 7 cur) :
    ∃ b a cur' st', (sSeq q__law_set_1l_0 (sSeq q__law_set_1l_1 (sSeq q__law_set_1l_2 q__law_set_1l_3))) [some (.ref n), some (vD c o sh), some (.int w), some (.dct []), some (.ref k), some (.int i), x6, x7] st = some (.nx, [some (.ref n), some (vD c o sh), some (.int w), some (.dct []), some (.ref k), some (.int i), some b, some a], st') ∧ Tp st' n ∧ st'[k]? = some (.dct cur') ∧ CP 7 cur' ∧ st'.length = st.length ∧ ∀ m, m ≠ n → m ≠ k → m < st.length → st'[m]? = st[m]? := by
  obtain ⟨b, s1, g1, rb, t1, f1, l1⟩ := row_ok t h0 h1 vo (i := i) (by omega)
  obtain ⟨a, s2, g2, ra, t2, f2, l2⟩ := row_ok t1 h0 h1 vo (i := i) (by omega)
  have kl := lt_old hk
  have hk2 : s2[k]? = some (.dct cur) := by rw [f2.at_ k kn (by omega), f1.at_ k kn kl, hk]
  have c0 : q__law_set_1l_0 [some (.ref n), some (vD c o sh), some (.int w), some (.dct []), some (.ref k), some (.int i), x6, x7] st = some (.nx, [some (.ref n), some (vD c o sh), some (.int w), some (.dct []), some (.ref k), some (.int i), some b, x7], s1) := by simp [g1]
  have c1 : q__law_set_1l_1 [some (.ref n), some (vD c o sh), some (.int w), some (.dct []), some (.ref k), some (.int i), some b, x7] s1 = some (.nx, [some (.ref n), some (vD c o sh), some (.int w), some (.dct []), some (.ref k), some (.int i), some b, x7], s1) := by
    simp [fInD, dctAt, asKey, valD]
  have c2 : q__law_set_1l_2 [some (.ref n), some (vD c o sh), some (.int w), some (.dct []), some (.ref k), some (.int i), some b, x7] s1 = some (.nx, [some (.ref n), some (vD c o sh), some (.int w), some (.dct []), some (.ref k), some (.int i), some b, some a], s2) := by simp [g2]
  have ne := ne_py rb.py ra.py
  rw [seq_step c0, seq_step c1, seq_step c2]
  cases q : nb b a with
  | false =>
    rw [q] at ne
    refine ⟨b, a, cur, s2, by simp [ne], t2, hk2, hc, by omega, fun m m1 m2 m3 => by rw [f2.at_ m m1 (by omega), f1.at_ m m1 m3]⟩
  | true =>
    rw [q] at ne
    obtain ⟨r, s3, g3, r0, r2, t3, f3, l3⟩ := pick_ok t2 (s := 3) (by decide) (by decide)
    have hk3 : s3[k]? = some (.dct cur) := by rw [f3.at_ k kn (by omega), hk2]
    by_cases z : 0 < r
    · have zl : cur.length < sizeLine := z9 hc.ok.len
      refine ⟨b, a, putD cur (.inl i) (.tup [b, a]), s3.set k (.dct (putD cur (.inl i) (.tup [b, a]))), by simp [ne, e_pick, g3, z, sPut, hk3, asKey, zl], t3.setNe kn _, List.getElem?_set_self (by omega), hc.put hi rb ra, by rw [List.length_set]; omega, fun m m1 m2 m3 => ?_⟩
      rw [List.getElem?_set_ne (Ne.symm m2), f3.at_ m m1 (by omega), f2.at_ m m1 (by omega), f1.at_ m m1 m3]
    · refine ⟨b, a, cur, s3, by simp [ne, e_pick, g3, z], t3, hk3, hc, by omega, fun m m1 m2 m3 => by rw [f3.at_ m m1 (by omega), f2.at_ m m1 (by omega), f1.at_ m m1 m3]⟩
theorem asR2_ok {a b : Int} (h1 : 0 ≤ a) (h2 : a ≤ 1000) (h3 : 0 ≤ b) (h4 : b ≤ 1000) : asR2 [.int a, .int b] = some (rg a b) := by
  have k1 : -4611686018427387904 ≤ a := by omega
  have k2 : a < 4611686018427387904 := by omega
  have k3 : -4611686018427387904 ≤ b := by omega
  have k4 : b < 4611686018427387904 := by omega
  simp [asR2, k1, k2, k3, k4]
theorem set_ok {n : Nat} {w : Int} {c : C} {o : List (Nat × Bool)} {sh : List Nat} {st : Store} (t : Tp st n) (h0 : 0 < w) (h1 : w ≤ 10) (vo : VOk w.toNat c o sh) :
    ∃ ch st', m__law_set [.ref n, vD c o sh, .int w, .dct []] st = some (.ref st.length, st') ∧ st'[st.length]? = some (.dct ch) ∧ CM ch ∧ Tp st' n ∧ Fr n st st' ∧ st'.length = st.length + 1 := by
  have kn : st.length ≠ n := fun z => by have := t.lt; omega
  have ra := asR2_ok (a := 1) (b := 8) (by decide) (by decide) (by decide) (by decide)
  obtain ⟨e5, s5, g5, ⟨y5, y6, y7, he5⟩, t5, ⟨ch, hk5, hc⟩, l5, fr5⟩ := loopS_inv (tg := gN 5) (body := sSeq q__law_set_1l_0 (sSeq q__law_set_1l_1 (sSeq q__law_set_1l_2 q__law_set_1l_3))) (fun env s => (∃ y5 y6 y7, env = [some (.ref n), some (vD c o sh), some (.int w), some (.dct []), some (.ref st.length), y5, y6, y7]) ∧ Tp s n ∧ (∃ cur, s[st.length]? = some (.dct cur) ∧ CP 7 cur) ∧ s.length = st.length + 1 ∧ ∀ m, m ≠ n → m < st.length → s[m]? = st[m]?) (ds := rg 1 8) (fun d hd env s i => by
    obtain ⟨⟨y5, y6, y7, rfl⟩, tp, ⟨cur, hk, hc⟩, ln, fr⟩ := i
    obtain ⟨j, rfl, j0, j1⟩ := rg_mem hd
    obtain ⟨b, a, cur', s', b1, b2, b3, b4, b5, b6⟩ := set_turn (x6 := y6) (x7 := y7) tp kn h0 h1 vo (i := j) (by omega) hk hc
    exact ⟨[some (.ref n), some (vD c o sh), some (.int w), some (.dct []), some (.ref st.length), some (.int j), y6, y7], by simp, .nx, _, s', b1, .inl rfl, ⟨_, _, _, rfl⟩, b2, ⟨cur', b3, b4⟩, by rw [b5, ln], fun m a b => by rw [b6 m a (by omega) (by omega), fr m a b]⟩)
    (env := [some (.ref n), some (vD c o sh), some (.int w), some (.dct []), some (.ref st.length), none, none, none]) (st := st ++ [.dct []]) ⟨⟨_, _, _, rfl⟩, t.app _, ⟨[], get_app, .nil⟩, by simp, fun m a b => by rw [List.getElem?_append_left b]⟩
  subst he5
  refine ⟨ch, s5, ?_, hk5, ⟨hc.ok, hc.ch⟩, t5, ⟨by omega, fun m a b => fr5 m a b⟩, l5⟩
  have c0 : q__law_set_0 [some (.ref n), some (vD c o sh), some (.int w), some (.dct []), none, none, none, none] st = some (.nx, [some (.ref n), some (vD c o sh), some (.int w), some (.dct []), some (.ref st.length), none, none, none], st ++ [.dct []]) := by
    simp [fNewD]
  have k1 : iOfA asR2 (aCons (fC (.int 1)) (aCons (fC (.int 8)) aNil)) [some (.ref n), some (vD c o sh), some (.int w), some (.dct []), some (.ref st.length), none, none, none] (st ++ [.dct []]) = some (rg 1 8, st ++ [.dct []]) := by simp [ra]
  rw [m__law_set, g__law_set]
  show outM (sSeq q__law_set_0 _ [some (.ref n), some (vD c o sh), some (.int w), some (.dct []), none, none, none, none] st) = _
  rw [seq_step c0, seq_step (show q__law_set_1 _ _ = _ from (for_step k1).trans g5)]
  simp
end LW
namespace LW
open PySem PySem.Spec PyProof.Rows L2 DL TL
/-! the other copy -/
noncomputable abbrev bOl : FS := sSeq q__law_other_right_1l_0 (sSeq q__law_other_right_1l_1 (sSeq q__law_other_right_1l_2 q__law_other_right_1l_3))
theorem oturn {n k : Nat} {w : Int} {c : C} {o : List (Nat × Bool)} {sh : List Nat} {st : Store} {cur : KL} {R Q x6 x7 x8 : Option D} (t : Tp st n) (kn : k ≠ n) (h0 : 0 < w) (h1 : w ≤ 10) (vo : VOk w.toNat c o sh) (hk : st[k]? = some (.dct cur)) (ru : RM cur) :
    ∃ y7 y8 cur' st', bOl [some (.ref n), some (vD c o sh), some (.int w), R, Q, some (.ref k), x6, x7, x8, none, none] st = some (.nx, [some (.ref n), some (vD c o sh), some (.int w), R, Q, some (.ref k), x6, y7, y8, none, none], st') ∧ Tp st' n ∧ st'[k]? = some (.dct cur') ∧ RM cur' ∧ st'.length = st.length ∧ ∀ m, m ≠ n → m ≠ k → m < st.length → st'[m]? = st[m]? := by
  obtain ⟨r, s1, g1, r0, r2, t1, f1, l1⟩ := pick_ok t (s := 9) (by decide) (by decide)
  generalize hi : 1 + r = i
  have ib : 1 ≤ i ∧ i ≤ 9 := by omega
  have iu : i ∈ U9 := by simp only [U9, List.mem_cons, List.not_mem_nil, or_false]; omega
  obtain ⟨b, s2, g2, rb, t2, f2, l2⟩ := row_ok t1 h0 h1 vo ib
  have kl := lt_old hk
  have hk2 : s2[k]? = some (.dct cur) := by rw [f2.at_ k kn (by omega), f1.at_ k kn kl, hk]
  have c0 : q__law_other_right_1l_0 [some (.ref n), some (vD c o sh), some (.int w), R, Q, some (.ref k), x6, x7, x8, none, none] st = some (.nx, [some (.ref n), some (vD c o sh), some (.int w), R, Q, some (.ref k), x6, some (.int i), x8, none, none], s1) := by simp [e_pick, g1, hi]
  have c1 : q__law_other_right_1l_1 [some (.ref n), some (vD c o sh), some (.int w), R, Q, some (.ref k), x6, some (.int i), x8, none, none] s1 = some (.nx, [some (.ref n), some (vD c o sh), some (.int w), R, Q, some (.ref k), x6, some (.int i), some b, none, none], s2) := by simp [g2]
  have p := pop_ok (m := k) (a := 5) (b := 7) (i := i) (env := [some (.ref n), some (vD c o sh), some (.int w), R, Q, some (.ref k), x6, some (.int i), some b, none, none]) rfl rfl hk2
  have rd : RM (dropD cur (.inl i)) := ru.set iu (.inl rfl : RwO i .non)
  have rs := rd.set iu rb
  have k2l : k < s2.length := by omega
  have hm2 : (s2.set k (.dct (dropD cur (.inl i))))[k]? = some (.dct (dropD cur (.inl i))) := List.getElem?_set_self k2l
  have z := z9 rd.len
  have fr : ∀ m, m ≠ n → m ≠ k → m < st.length → ∀ x, (s2.set k x)[m]? = st[m]? := fun m m1 m2 m3 x => by rw [List.getElem?_set_ne (Ne.symm m2), f2.at_ m m1 (by omega), f1.at_ m m1 m3]
  rw [bOl, seq_step c0, seq_step c1, seq_step (show q__law_other_right_1l_2 _ s2 = _ from p)]
  cases q : DL.isNon b with
  | true =>
    refine ⟨some (.int i), some b, dropD cur (.inl i), s2.set k (.dct (dropD cur (.inl i))), by simp [opIsnt_non, q], t2.setNe kn _, hm2, rd, by rw [List.length_set]; omega, fun m a b c => fr m a b c _⟩
  | false =>
    have e : setK (dropD cur (.inl i)) i b = putD (dropD cur (.inl i)) (.inl i) b := by rw [setK, if_neg (by rw [q]; exact Bool.false_ne_true)]
    rw [e] at rs
    refine ⟨some (.int i), some b, putD (dropD cur (.inl i)) (.inl i) b, s2.set k (.dct (putD (dropD cur (.inl i)) (.inl i) b)), ?_, t2.setNe kn _, List.getElem?_set_self k2l, rs, by rw [List.length_set]; omega, fun m a b c => fr m a b c _⟩
    simp [opIsnt_non, q, sPut, hm2, asKey, z, k2l]
theorem other_ok {n R Q : Nat} {w : Int} {c : C} {o : List (Nat × Bool)} {sh : List Nat} {st : Store} {rows ch : KL} {ks : List Int} (t : Tp st n) (h0 : 0 < w) (h1 : w ≤ 10) (vo : VOk w.toNat c o sh) (Rn : R ≠ n) (Qn : Q ≠ n) (hR : st[R]? = some (.dct rows)) (hQ : st[Q]? = some (.dct ch)) (rm : RM rows) (cm : CM ch) (hk : sortedKs ch = some ks) (km : ∀ i, i ∈ ks ↔ (gt ch i).isSome = true) (ku : ∀ i ∈ ks, i ∈ U9) :
    ∃ st', m__law_other_right [.ref n, vD c o sh, .int w, .ref R, .ref Q] st = some (.bl true, st') ∧ Tp st' n ∧ Fr n st st' := by
  have kn : st.length ≠ n := fun z => by have := t.lt; omega
  have Ql := lt_old hQ
  have c0 : q__law_other_right_0 [some (.ref n), some (vD c o sh), some (.int w), some (.ref R), some (.ref Q), none, none, none, none, none, none] st = some (.nx, [some (.ref n), some (vD c o sh), some (.int w), some (.ref R), some (.ref Q), some (.ref st.length), none, none, none, none, none], st ++ [.dct rows]) := by
    simp [fDictC, dctAt, hR]
  obtain ⟨r, s1, g1, r0, r2, t1, f1, l1⟩ := pick_ok (t.app (.dct rows)) (s := 3) (by decide) (by decide)
  have ra := asR1_ok (n := 1 + r) (by omega) (by omega)
  have k1 : iOfA asR1 (aCons (fOp opAdd (fC (.int 1)) (fCall m__law_pick (aCons (fVar 0) (aCons (fC (.int 3)) aNil)))) aNil) [some (.ref n), some (vD c o sh), some (.int w), some (.ref R), some (.ref Q), some (.ref st.length), none, none, none, none, none] (st ++ [.dct rows]) = some (rg 0 (1 + r), s1) := by simp [e_pick, g1, ra]
  have ls1 : s1.length = st.length + 1 := by rw [l1]; simp
  obtain ⟨e5, s5, g5, ⟨y6, y7, y8, he5⟩, t5, ⟨cur, hk5, rc⟩, l5, fr5⟩ := loopS_inv (tg := gN 6) (body := bOl) (fun env s => (∃ y6 y7 y8, env = [some (.ref n), some (vD c o sh), some (.int w), some (.ref R), some (.ref Q), some (.ref st.length), y6, y7, y8, none, none]) ∧ Tp s n ∧ (∃ cur, s[st.length]? = some (.dct cur) ∧ RM cur) ∧ s.length = st.length + 1 ∧ ∀ m, m ≠ n → m < st.length → s[m]? = st[m]?) (ds := rg 0 (1 + r)) (fun d hd env s i => by
    obtain ⟨⟨y6, y7, y8, rfl⟩, tp, ⟨cur, hk, hc⟩, ln, fr⟩ := i
    obtain ⟨z7, z8, cur', s', b1, b2, b3, b4, b5, b6⟩ := oturn (R := some (.ref R)) (Q := some (.ref Q)) (x6 := some d) (x7 := y7) (x8 := y8) tp kn h0 h1 vo hk hc
    exact ⟨[some (.ref n), some (vD c o sh), some (.int w), some (.ref R), some (.ref Q), some (.ref st.length), some d, y7, y8, none, none], by simp, .nx, _, s', b1, .inl rfl, ⟨_, _, _, rfl⟩, b2, ⟨cur', b3, b4⟩, by rw [b5, ln], fun m a b => by rw [b6 m a (by omega) (by omega), fr m a b]⟩)
    (env := [some (.ref n), some (vD c o sh), some (.int w), some (.ref R), some (.ref Q), some (.ref st.length), none, none, none, none, none]) (st := s1) ⟨⟨_, _, _, rfl⟩, t1, ⟨rows, by rw [f1.at_ _ kn (by simp)]; simp, rm⟩, ls1, fun m a b => by rw [f1.at_ m a (by simp; omega), List.getElem?_append_left b]⟩
  subst he5
  have hQ5 : s5[Q]? = some (.dct ch) := by rw [fr5 Q Qn Ql, hQ]
  obtain ⟨ca, a1, a2, a3⟩ := applied_ok hk5 hQ5 rc cm hk km ku
  obtain ⟨cb, b1, b2, b3⟩ := told_ok (at_old (o' := .dct ca) hk5) (at_old (o' := .dct ca) hQ5) rc cm hk km ku
  have c2 : q__law_other_right_2 [some (.ref n), some (vD c o sh), some (.int w), some (.ref R), some (.ref Q), some (.ref st.length), y6, y7, y8, none, none] s5 = some (.nx, [some (.ref n), some (vD c o sh), some (.int w), some (.ref R), some (.ref Q), some (.ref st.length), y6, y7, y8, some (out cur ch ks s5.length), some (out cur ch ks (s5.length + 1))], s5 ++ [.dct ca] ++ [.dct cb]) := by
    simp at b1
    simp [a1, b1]
  refine ⟨s5 ++ [.dct ca] ++ [.dct cb], ?_, (t5.app _).app _, ⟨by simp; omega, fun m a b => ?_⟩⟩
  · rw [m__law_other_right, g__law_other_right]
    show outM (sSeq q__law_other_right_0 _ [some (.ref n), some (vD c o sh), some (.int w), some (.ref R), some (.ref Q), none, none, none, none, none, none] st) = _
    rw [seq_step c0, seq_step (show q__law_other_right_1 _ _ = _ from (for_step k1).trans g5), seq_step c2]
    unfold out
    cases z : mis cur ch ks with
    | none =>
      have x1 : (s5 ++ [.dct ca] ++ [.dct cb])[s5.length]? = some (.dct ca) := by simp
      have x2 : (s5 ++ [.dct ca] ++ [.dct cb])[s5.length + 1]? = some (.dct cb) := by
        have := get_app (st := s5 ++ [.dct ca]) (o := .dct cb)
        simpa using this
      have sm := same_ok x2 x1 b3 a3 fun i => by rw [b2 z, a2 z]
      have ty : tyD (.ref s5.length) (s5 ++ [.dct ca] ++ [.dct cb]) = some "dict" := by show tyOb _ = _; rw [x1]; rfl
      have d1 : q__law_other_right_3 [some (.ref n), some (vD c o sh), some (.int w), some (.ref R), some (.ref Q), some (.ref st.length), y6, y7, y8, some (.ref s5.length), some (.ref (s5.length + 1))] (s5 ++ [.dct ca] ++ [.dct cb]) = some (.nx, [some (.ref n), some (vD c o sh), some (.int w), some (.ref R), some (.ref Q), some (.ref st.length), y6, y7, y8, some (.ref s5.length), some (.ref (s5.length + 1))], s5 ++ [.dct ca] ++ [.dct cb]) := by
        rw [q__law_other_right_3, u_sIf]
        simp only [u_fTest, u_fIsi, u_fVar, List.getElem?_cons_succ, List.getElem?_cons_zero, Option.bind_some, ty, Option.map_some, u_asB]
        rfl
      show outM (sSeq q__law_other_right_3 q__law_other_right_4 _ _) = _
      rw [seq_step d1, q__law_other_right_4, u_sRet]
      simp only [u_fCall, u_aCons, u_aNil, u_fVar, List.getElem?_cons_succ, List.getElem?_cons_zero, Option.bind_some, Option.map_some, sm]
      rfl
    | some i =>
      have ib : i ∈ U9 := ku i (List.mem_of_find?_eq_some z)
      have ib2 : -1000000000000000 < i ∧ i < 1000000000000000 := by
        simp only [U9, List.mem_cons, List.not_mem_nil, or_false] at ib
        omega
      obtain ⟨x, hx⟩ := (Fit.int ib2).repr (by decide) (by decide)
      have eq : opEqS (.str x) (.str x) = some (.bl true) := by simp [opEqS, onS]
      have d1 : q__law_other_right_3 [some (.ref n), some (vD c o sh), some (.int w), some (.ref R), some (.ref Q), some (.ref st.length), y6, y7, y8, some (.int i), some (.int i)] (s5 ++ [.dct ca] ++ [.dct cb]) = some (.rt (.bl true), [some (.ref n), some (vD c o sh), some (.int w), some (.ref R), some (.ref Q), some (.ref st.length), y6, y7, y8, some (.int i), some (.int i)], s5 ++ [.dct ca] ++ [.dct cb]) := by
        rw [q__law_other_right_3, u_sIf]
        simp only [u_fTest, u_fIsi, u_fVar, List.getElem?_cons_succ, List.getElem?_cons_zero, Option.bind_some, tyD, Option.map_some, u_asB]
        simp [isiB, hx, eq]
      show outM (sSeq q__law_other_right_3 q__law_other_right_4 _ _) = _
      rw [seq_ret d1]
      rfl
  · rw [List.getElem?_append_left (by simp; omega), List.getElem?_append_left (by omega), fr5 m a b]
end LW
namespace LW
open PySem PySem.Spec PyProof.Rows L2 DL TL
theorem loopC_fm {α : Type} {is : List Nat} {bd : FB} {t : FT} {f : F} {φ ψ : α → D} {p : α → Bool} {env : Lo} {st : Store} : ∀ {l : List α}, (∀ x ∈ l, ∃ vs, bd (φ x) = some vs ∧ t (setL is vs env) st = some (p x, st) ∧ f (setL is vs env) st = some (ψ x, st)) → loopC is bd t f (l.map φ) env st = some ((l.filter p).map ψ, st)
  | [], _ => rfl
  | x :: l, h => by
    obtain ⟨vs, h1, h2, h3⟩ := h x List.mem_cons_self
    have ih := loopC_fm (φ := φ) (ψ := ψ) (p := p) (l := l) fun y hy => h y (List.mem_cons_of_mem _ hy)
    rw [List.map_cons, loopC, h1, Option.bind_some, h2, Option.bind_some]
    cases q : p x with
    | true => simp only [if_true, h3, Option.bind_some, ih, Option.map_some, List.filter_cons, q, List.map_cons]
    | false => simp only [Bool.false_eq_true, if_false, ih, List.filter_cons, q]
/-! the rows before -/
def bk (d : D) : D := match d with | .tup [b, _] => b | _ => .non
def hasB (kv : Key × D) : Bool := !DL.isNon (bk kv.2)
def rows0 (c : KL) : KL := (c.filter hasB).map fun kv => (kv.1, bk kv.2)
theorem gt_rows0 : ∀ {c : KL}, (c.map (·.1)).Nodup → ∀ i, gt (rows0 c) i = (gt c i).bind fun d => opt (bk d)
  | [], _, i => rfl
  | (k, d) :: c, nd, i => by
    have nd' := List.nodup_cons.mp (show (k :: c.map (·.1)).Nodup from nd)
    have ih := gt_rows0 nd'.2 i
    have unf : rows0 ((k, d) :: c) = if hasB (k, d) = true then (k, bk d) :: rows0 c else rows0 c := by
      unfold rows0
      rw [List.filter_cons]
      split <;> rfl
    rw [unf]
    unfold gt at ih ⊢
    rw [valD_cons]
    by_cases e : k = .inl i
    · rw [if_pos e]
      subst e
      have hn : valD c (.inl i) = none := valD_none.mpr nd'.1
      rw [hn] at ih
      cases q : hasB (Sum.inl i, d) with
      | true =>
        rw [if_pos rfl, valD_cons, if_pos rfl, Option.bind_some, opt]
        have : DL.isNon (bk d) = false := by simpa [hasB] using q
        rw [this]; rfl
      | false =>
        rw [if_neg Bool.false_ne_true, ih, Option.bind_some, opt]
        have : DL.isNon (bk d) = true := by simpa [hasB] using q
        rw [this]; rfl
    · rw [if_neg e]
      split
      · rw [valD_cons, if_neg e]; exact ih
      · exact ih
theorem rows0_rm {c : KL} (cm : CM c) : RM (rows0 c) := by
  refine ⟨⟨fun p hp => ?_, ?_⟩, fun i d e => ?_⟩
  · obtain ⟨q, hq, rfl⟩ := List.mem_map.mp hp
    exact cm.ok.mem q (List.mem_filter.mp hq).1
  · have : (rows0 c).map (·.1) = (c.filter hasB).map (·.1) := by unfold rows0; rw [List.map_map]; rfl
    rw [this]
    exact List.Sublist.nodup (List.Sublist.map (fun p : Key × D => p.1) List.filter_sublist) cm.ok.nd
  · rw [gt_rows0 cm.ok.nd] at e
    obtain ⟨d0, e1, e2⟩ := Option.bind_eq_some_iff.mp e
    obtain ⟨b, a, rfl, hb, ha, _⟩ := cm.ch i d0 e1
    unfold opt at e2
    rcases hb with rfl | hb
    · cases e2
    · have n := hb.non
      have n' : DL.isNon (bk (.tup [b, a])) = false := n
      rw [n'] at e2
      cases e2
      exact hb
theorem mergeP_self : ∀ {l acc : KL}, ((acc ++ l).map (·.1)).Nodup → mergeP acc l = acc ++ l
  | [], acc, _ => by rw [List.append_nil]; rfl
  | kv :: l, acc, nd => by
    have e : acc ++ kv :: l = (acc ++ [kv]) ++ l := by simp
    have nk : kv.1 ∉ acc.map (·.1) := fun m => by
      rw [List.map_append, List.map_cons] at nd
      exact (List.nodup_append.mp nd).2.2 _ m _ List.mem_cons_self rfl
    have ih := mergeP_self (l := l) (acc := acc ++ [kv]) (by rw [← e]; exact nd)
    show mergeP (putD acc kv.1 kv.2) l = _
    rw [put_new nk]
    exact ih.trans e.symm
theorem pairsD_map : ∀ l : KL, pairsD (l.map fun kv => .tup [keyD kv.1, kv.2]) = some l
  | [] => rfl
  | kv :: l => by
    rw [List.map_cons, pairsD, pairsD_map l]
    simp [DL.pairD, asKey_keyD]
theorem rows_ok {n k : Nat} {x0 x1 x3 x4 x5 x7 x8 x9 x10 x11 x12 x13 : Option D} {st : Store} {c : KL} (hk : st[k]? = some (.dct c)) (cm : CM c) :
    q_law_0l_3l_1 [x0, x1, some (.ref n), x3, x4, x5, some (.ref k), x7, x8, x9, x10, x11, x12, x13] st = some (.nx, [x0, x1, some (.ref n), x3, x4, x5, some (.ref k), some (.ref st.length), x8, x9, x10, x11, x12, x13], st ++ [.dct (rows0 c)]) := by
  have kl := lt_old hk
  have s2 : (st.set k (.ldc c))[k]? = some (.ldc c) := List.getElem?_set_self kl
  have back : (st.set k (.ldc c)).set k (.dct c) = st := by rw [List.set_set, set_eq hk]
  have zl : (((c.filter hasB).map fun kv => D.tup [keyD kv.1, bk kv.2])).length ≤ sizeLine := by
    rw [List.length_map]
    exact sl_of (Nat.le_trans (List.length_filter_le _ _) (Nat.le_trans cm.len (by decide)))
  have lc := loopC_fm (is := [8]) (bd := b1) (t := fTest (fOp opIsnt (fSub (fSub (fVar 6) (fVar 8)) (fC (.int 0))) (fC .non))) (f := fMk mkTup (aCons (fVar 8) (aCons (fSub (fSub (fVar 6) (fVar 8)) (fC (.int 0))) aNil))) (φ := fun kv : Key × D => keyD kv.1) (ψ := fun kv => D.tup [keyD kv.1, bk kv.2]) (p := hasB) (env := [x0, x1, some (.ref n), x3, x4, x5, some (.ref k), x7, none, x9, x10, x11, x12, x13]) (st := st.set k (.ldc c)) (l := c) fun kv m => ⟨[keyD kv.1], rfl, by
    have hv : valD c kv.1 = some kv.2 := (valD_some cm.ok.nd).mpr m
    obtain ⟨i, _, e1⟩ := cm.ok.mem kv m
    have hv' : gt c i = some kv.2 := by rw [gt, ← e1]; exact hv
    obtain ⟨b, a, e2, _⟩ := cm.ch i _ hv'
    rw [e2] at hv
    have i0 : L2.atI [b, a] 0 = some b := ix0
    have hb : hasB kv = !DL.isNon b := by rw [hasB, e2]; rfl
    have hk2 : bk kv.2 = b := by rw [e2]; rfl
    rw [hb, hk2]
    constructor
    · simp [ixD, s2, kl, asKey_keyD, hv, i0, opIsnt_non]
    · simp [ixD, s2, kl, asKey_keyD, hv, i0]⟩
  have c1 : fComp (iFrz kKeys (fVar 6)) [8] b1 (fTest (fOp opIsnt (fSub (fSub (fVar 6) (fVar 8)) (fC (.int 0))) (fC .non))) (fMk mkTup (aCons (fVar 8) (aCons (fSub (fSub (fVar 6) (fVar 8)) (fC (.int 0))) aNil))) [x0, x1, some (.ref n), x3, x4, x5, some (.ref k), x7, x8, x9, x10, x11, x12, x13] (st.set k (.ldc c)) = some (.lst ((c.filter hasB).map fun kv => D.tup [keyD kv.1, bk kv.2]), st.set k (.ldc c)) := by
    have i1 : iFrz kKeys (fVar 6) [x0, x1, some (.ref n), x3, x4, x5, some (.ref k), x7, x8, x9, x10, x11, x12, x13] (st.set k (.ldc c)) = some (c.map fun kv => keyD kv.1, st.set k (.ldc c)) := by
      rw [iFrz]
      simp [frzAt, ldcAt, s2, kl, kKeys]
    rw [u_fComp, i1, Option.bind_some]
    rw [show wipeL [x0, x1, some (.ref n), x3, x4, x5, some (.ref k), x7, x8, x9, x10, x11, x12, x13] [8] = [x0, x1, some (.ref n), x3, x4, x5, some (.ref k), x7, none, x9, x10, x11, x12, x13] from rfl, lc]
    simp only [Option.bind_some]
    rw [if_pos zl]
  have c2 : fLock (whichR (fVar 6)) (fComp (iFrz kKeys (fVar 6)) [8] b1 (fTest (fOp opIsnt (fSub (fSub (fVar 6) (fVar 8)) (fC (.int 0))) (fC .non))) (fMk mkTup (aCons (fVar 8) (aCons (fSub (fSub (fVar 6) (fVar 8)) (fC (.int 0))) aNil)))) [x0, x1, some (.ref n), x3, x4, x5, some (.ref k), x7, x8, x9, x10, x11, x12, x13] st = some (.lst ((c.filter hasB).map fun kv => D.tup [keyD kv.1, bk kv.2]), st) := by
    have w : whichR (fVar 6) [x0, x1, some (.ref n), x3, x4, x5, some (.ref k), x7, x8, x9, x10, x11, x12, x13] st = some k := rfl
    rw [fLock, w, Option.bind_some, dctIn, hk]
    simp only [Option.bind_some]
    rw [c1]
    simp only [Option.bind_some, ldcAt, s2, Option.map_some, back]
  have e : ((c.filter hasB).map fun kv => D.tup [keyD kv.1, bk kv.2]) = (rows0 c).map fun kv => .tup [keyD kv.1, kv.2] := by unfold rows0; rw [List.map_map]; rfl
  have mp : mergeP [] (rows0 c) = rows0 c := (mergeP_self (acc := []) (l := rows0 c) (rows0_rm cm).ok.nd).trans (List.nil_append _)
  rw [q_law_0l_3l_1, u_sAsg, fDictP, c2]
  simp only [Option.bind_some, e, pairsD_map, Option.map_some, mp, u_gN]
  rfl
/-! two rows more -/
theorem more_ok {n k : Nat} {w : Int} {c : C} {o : List (Nat × Bool)} {sh : List Nat} {x0 x1 x5 x6 x8 x9 x10 x11 x12 x13 : Option D} {st : Store} {r0 : KL} (t : Tp st n) (kn : k ≠ n) (h0 : 0 < w) (h1 : w ≤ 10) (vo : VOk w.toNat c o sh) (hk : st[k]? = some (.dct r0)) (rm : RM r0) :
    ∃ y8 y9 st' r, q_law_0l_3l_2 [x0, x1, some (.ref n), some (.int w), some (vD c o sh), x5, x6, some (.ref k), x8, x9, x10, x11, x12, x13] st = some (.nx, [x0, x1, some (.ref n), some (.int w), some (vD c o sh), x5, x6, some (.ref k), y8, y9, x10, x11, x12, x13], st') ∧ Tp st' n ∧ st'[k]? = some (.dct r) ∧ RM r ∧ (∀ i, i ≤ 7 → gt r i = gt r0 i) ∧ st'.length = st.length ∧ ∀ m, m ≠ n → m ≠ k → m < st.length → st'[m]? = st[m]? := by
  have ra := asR2_ok (a := 8) (b := 10) (by decide) (by decide) (by decide) (by decide)
  have k1 : iOfA asR2 (aCons (fC (.int 8)) (aCons (fC (.int 10)) aNil)) [x0, x1, some (.ref n), some (.int w), some (vD c o sh), x5, x6, some (.ref k), x8, x9, x10, x11, x12, x13] st = some (rg 8 10, st) := by simp [ra]
  obtain ⟨e5, s5, g5, ⟨y8, y9, he5⟩, t5, ⟨r, hk5, rc, gc⟩, l5, fr5⟩ := loopS_inv (tg := gN 8) (body := sSeq q_law_0l_3l_2l_0 q_law_0l_3l_2l_1) (fun env s => (∃ y8 y9, env = [x0, x1, some (.ref n), some (.int w), some (vD c o sh), x5, x6, some (.ref k), y8, y9, x10, x11, x12, x13]) ∧ Tp s n ∧ (∃ cur, s[k]? = some (.dct cur) ∧ RM cur ∧ ∀ i, i ≤ 7 → gt cur i = gt r0 i) ∧ s.length = st.length ∧ ∀ m, m ≠ n → m ≠ k → m < st.length → s[m]? = st[m]?) (ds := rg 8 10) (fun d hd env s i => by
    obtain ⟨⟨y8, y9, rfl⟩, tp, ⟨cur, hk, hc, gc⟩, ln, fr⟩ := i
    obtain ⟨j, rfl, j0, j1⟩ := rg_mem hd
    obtain ⟨b, s2, g2, rb, t2, f2, l2⟩ := row_ok tp h0 h1 vo (i := j) (by omega)
    have kl := lt_old hk
    have hk2 : s2[k]? = some (.dct cur) := by rw [f2.at_ k kn kl, hk]
    have c0 : q_law_0l_3l_2l_0 [x0, x1, some (.ref n), some (.int w), some (vD c o sh), x5, x6, some (.ref k), some (.int j), y9, x10, x11, x12, x13] s = some (.nx, [x0, x1, some (.ref n), some (.int w), some (vD c o sh), x5, x6, some (.ref k), some (.int j), some b, x10, x11, x12, x13], s2) := by simp [g2]
    have z := z9 hc.len
    have ju : j ∈ U9 := by simp only [U9, List.mem_cons, List.not_mem_nil, or_false]; omega
    refine ⟨[x0, x1, some (.ref n), some (.int w), some (vD c o sh), x5, x6, some (.ref k), some (.int j), y9, x10, x11, x12, x13], by simp, .nx, [x0, x1, some (.ref n), some (.int w), some (vD c o sh), x5, x6, some (.ref k), some (.int j), some b, x10, x11, x12, x13], ?_⟩
    rw [seq_step c0]
    cases q : DL.isNon b with
    | true => exact ⟨s2, by simp [opIsnt_non, q], .inl rfl, ⟨_, _, rfl⟩, t2, ⟨cur, hk2, hc, gc⟩, by omega, fun m a b c => by rw [f2.at_ m a (by omega), fr m a b c]⟩
    | false =>
      have e : setK cur j b = putD cur (.inl j) b := by rw [setK, if_neg (by rw [q]; exact Bool.false_ne_true)]
      have rs := hc.set ju rb
      refine ⟨s2.set k (.dct (setK cur j b)), by rw [e]; simp [opIsnt_non, q, sPut, hk2, asKey, z], .inl rfl, ⟨_, _, rfl⟩, t2.setNe kn _, ⟨setK cur j b, List.getElem?_set_self (by omega), rs, fun i hi => ?_⟩, by rw [List.length_set]; omega, fun m a b c => ?_⟩
      · rw [gt_setK, if_neg (by omega), gc i hi]
      · rw [List.getElem?_set_ne (Ne.symm b), f2.at_ m a (by omega), fr m a b c])
    (env := [x0, x1, some (.ref n), some (.int w), some (vD c o sh), x5, x6, some (.ref k), x8, x9, x10, x11, x12, x13]) (st := st) ⟨⟨_, _, rfl⟩, t, ⟨r0, hk, rm, fun _ _ => rfl⟩, rfl, fun _ _ _ _ => rfl⟩
  subst he5
  exact ⟨y8, y9, s5, r, (for_step k1).trans g5, t5, hk5, rc, gc, l5, fr5⟩
/-- rows with the changes' befores: nothing is amiss -/
theorem mis_none {rows c : KL} {ks : List Int} (cm : CM c) (km : ∀ i, i ∈ ks ↔ (gt c i).isSome = true) (h : ∀ i, (gt c i).isSome = true → gt rows i = opt (bef c i)) : mis rows c ks = none := by
  refine List.find?_eq_none.mpr fun i m => ?_
  have hi := (km i).mp m
  obtain ⟨e, hb, ha, _⟩ := cm.at hi
  have : (gt rows i).getD .non = bef c i := by
    rw [h i hi, opt]
    cases q : DL.isNon (bef c i) with
    | true =>
      rcases hb with e | hb
      · rw [e]; rfl
      · rw [hb.non] at q; cases q
    | false => rfl
  rw [bad, this, nb_self hb.py]
  exact Bool.false_ne_true
/-! the changes in another order -/
theorem CM.like {c d : KL} (cm : CM c) (ok : okK U9 d) (e : ∀ i, gt d i = gt c i) : CM d := ⟨ok, fun i x h => cm.ch i x (by rw [← e]; exact h)⟩
theorem gt_rev {U : List Int} {c : KL} (ok : okK U c) (i : Int) : gt c.reverse i = gt c i := by
  have nd : (c.reverse.map (·.1)).Nodup := by rw [List.map_reverse]; exact (List.reverse_perm _).symm.nodup ok.nd
  unfold gt
  cases q : valD c (.inl i) with
  | none =>
    refine valD_none.mpr ?_
    rw [List.map_reverse, List.mem_reverse]
    exact valD_none.mp q
  | some v => exact (valD_some nd).mpr (List.mem_reverse.mpr ((valD_some ok.nd).mp q))
theorem okK_rev {U : List Int} {c : KL} (ok : okK U c) : okK U c.reverse := ⟨fun p hp => ok.mem p (List.mem_reverse.mp hp), by rw [List.map_reverse]; exact (List.reverse_perm _).symm.nodup ok.nd⟩
theorem again_ok {n k : Nat} {x0 x1 x3 x4 x5 x7 x8 x9 x10 x11 x12 x13 : Option D} {st : Store} {c : KL} (t : Tp st n) (kn : k ≠ n) (hk : st[k]? = some (.dct c)) (cm : CM c) :
    ∃ d s1, q_law_0l_3l_4 [x0, x1, some (.ref n), x3, x4, x5, some (.ref k), x7, x8, x9, x10, x11, x12, x13] st = some (.nx, [x0, x1, some (.ref n), x3, x4, x5, some (.ref s1.length), x7, x8, x9, x10, x11, x12, x13], s1 ++ [.dct d]) ∧ CM d ∧ (∀ i, gt d i = gt c i) ∧ Tp s1 n ∧ Fr n st s1 ∧ s1.length = st.length := by
  obtain ⟨d, s1, g1, hd, t1, f1, l1⟩ := one_ok t (xs := [D.lst (kItems c), .lst (kItems c).reverse]) (by show 0 < 2; decide) (by show (2 : Nat) < 1073741824; decide)
  have key : ∃ d0, pairsD (match d with | .lst l => l | _ => []) = some d0 ∧ (∃ l, d = .lst l) ∧ okK U9 d0 ∧ ∀ i, gt d0 i = gt c i := by
    simp only [List.mem_cons, List.not_mem_nil, or_false] at hd
    rcases hd with rfl | rfl
    · exact ⟨c, pairsD_map c, ⟨_, rfl⟩, cm.ok, fun _ => rfl⟩
    · refine ⟨c.reverse, ?_, ⟨_, rfl⟩, okK_rev cm.ok, gt_rev cm.ok⟩
      show pairsD (kItems c).reverse = _
      unfold kItems
      rw [← List.map_reverse]
      exact pairsD_map c.reverse
  obtain ⟨d0, p1, ⟨l, rfl⟩, p2, p3⟩ := key
  have p1' : pairsD l = some d0 := p1
  refine ⟨d0, s1, ?_, cm.like p2 p3, p3, t1, f1, l1⟩
  have mp : mergeP [] d0 = d0 := (mergeP_self (acc := []) (l := d0) p2.nd).trans (List.nil_append _)
  simp [fLstI, dctS, dctIn, hk, fRevL, lstAt, e_one, g1, fDictP, p1', mp]
end LW
namespace LW
open PySem PySem.Spec PyProof.Rows L2 DL TL
/-- what a turn looks at -/
structure Wd (n R Q E : Nat) (rows c e : KL) (st : Store) : Prop where
  t : Tp st n
  Rn : R ≠ n
  Qn : Q ≠ n
  En : E ≠ n
  hR : st[R]? = some (.dct rows)
  hQ : st[Q]? = some (.dct c)
  hE : st[E]? = some (.dct e)
variable {n R Q E : Nat} {rows c e : KL} {st : Store}
theorem Wd.app (h : Wd n R Q E rows c e st) (o : Ob) : Wd n R Q E rows c e (st ++ [o]) := ⟨h.t.app o, h.Rn, h.Qn, h.En, at_old h.hR, at_old h.hQ, at_old h.hE⟩
theorem Wd.fr (h : Wd n R Q E rows c e st) {s : Store} (t : Tp s n) (f : Fr n st s) : Wd n R Q E rows c e s :=
  ⟨t, h.Rn, h.Qn, h.En, (f.at_ R h.Rn (lt_old h.hR)).trans h.hR, (f.at_ Q h.Qn (lt_old h.hQ)).trans h.hQ, (f.at_ E h.En (lt_old h.hE)).trans h.hE⟩
theorem Wd.set (h : Wd n R Q E rows c e st) {m : Nat} (mn : m ≠ n) (mR : m ≠ R) (mQ : m ≠ Q) (mE : m ≠ E) (o : Ob) : Wd n R Q E rows c e (st.set m o) :=
  ⟨h.t.setNe mn o, h.Rn, h.Qn, h.En, by rw [List.getElem?_set_ne mR]; exact h.hR, by rw [List.getElem?_set_ne mQ]; exact h.hQ, by rw [List.getElem?_set_ne mE]; exact h.hE⟩
theorem Wd.new (h : Wd n R Q E rows c e st) {m : Nat} (hm : st.length ≤ m) : m ≠ n ∧ m ≠ R ∧ m ≠ Q ∧ m ≠ E := by
  have a := h.t.lt
  have b := lt_old h.hR
  have d := lt_old h.hQ
  have f := lt_old h.hE
  omega
/-- the facts of the data -/
structure Dt (rows c e : KL) (ks : List Int) : Prop where
  rm : RM rows
  cm : CM c
  em : RM e
  hk : sortedKs c = some ks
  km : ∀ i, i ∈ ks ↔ (gt c i).isSome = true
  ku : ∀ i ∈ ks, i ∈ U9
  kl : ks.length ≤ 9
  ms : mis rows c ks = none
  ge : ∀ j, gt e j = ap rows c j
variable {ks : List Int}
theorem Dt.aft (d : Dt rows c e ks) {i : Int} (m : i ∈ ks) : RwO i (LW.aft c i) ∧ i ∈ U9 := ⟨(d.cm.at ((d.km i).mp m)).2.2.1, d.ku i m⟩
/-! the text that is kept -/
theorem rwO_okV {i : Int} {d : D} (h : RwO i d) : okD d = true ∧ noL d = true ∧ hD d ≤ 19 ∧ wD d ≤ 5000 := by
  rcases h with rfl | h
  · exact ⟨rfl, rfl, Nat.zero_le _, Nat.zero_le _⟩
  · refine ⟨h.ok.ok, h.ok.nl, ?_, h.ok.wd⟩
    exact Nat.le_trans h.hd (by decide)
theorem okV_tup {i : Int} {b a : D} (hb : RwO i b) (ha : RwO i a) : DL.OkV 10100 (.tup [b, a]) := by
  obtain ⟨b1, b2, b3, b4⟩ := rwO_okV hb
  obtain ⟨a1, a2, a3, a4⟩ := rwO_okV ha
  refine ⟨?_, ?_, ?_, ?_⟩
  · show (okD b && (okD a && true)) = true
    rw [b1, a1]; rfl
  · show (noL b && (noL a && true)) = true
    rw [b2, a2]; rfl
  · show max (hD b) (max (hD a) 0) + 1 ≤ 20
    omega
  · show wD b + 1 + (wD a + 1 + 0) ≤ 10100
    omega
theorem key_fit {i : Int} (h : i ∈ U9) : okD (keyD (.inl i)) = true ∧ wD (keyD (.inl i)) ≤ 300 := by
  simp only [U9, List.mem_cons, List.not_mem_nil, or_false] at h
  have f := Fit.int (i := i) (by omega)
  exact ⟨f.ok, Nat.le_trans f.wd (by decide)⟩
theorem kept_ok (d : Dt rows c e ks) (h : Wd n R Q E rows c e st) : ∃ x, ∀ st', Wd n R Q E rows c e st' → bReprG [.tup [.ref R, .ref Q]] st' = some (.str x) := by
  have oa : ∀ kv ∈ rows, DL.OkV 10100 kv.2 ∧ okD (keyD kv.1) = true ∧ wD (keyD kv.1) ≤ 300 := fun kv m => by
    obtain ⟨i, e1, hi, hr⟩ := d.rm.mem m
    rw [e1]
    exact ⟨⟨hr.ok.ok, hr.ok.nl, hr.ok.hd, Nat.le_trans hr.ok.wd (by decide)⟩, key_fit hi⟩
  have ob : ∀ kv ∈ c, DL.OkV 10100 kv.2 ∧ okD (keyD kv.1) = true ∧ wD (keyD kv.1) ≤ 300 := fun kv m => by
    obtain ⟨i, hi, e1⟩ := d.cm.ok.mem kv m
    obtain ⟨k, v⟩ := kv
    have e1' : k = .inl i := e1
    subst e1'
    obtain ⟨b, a, e2, hb, ha, _⟩ := d.cm.ch i v ((valD_some d.cm.ok.nd).mpr m)
    have e2' : v = .tup [b, a] := e2
    subst e2'
    exact ⟨okV_tup hb ha, key_fit hi⟩
  have lr := d.rm.len
  have lc := d.cm.len
  have hm : (rows.length + c.length) * (10100 + 302) ≤ 200000 := Nat.le_trans (Nat.mul_le_mul_right _ (show rows.length + c.length ≤ 18 by omega)) (by decide)
  obtain ⟨x, hx⟩ := repr2_ok (a := .ref R) (b := .ref Q) (st := st) (by simp [dctAt, h.hR]) (by simp [dctAt, h.hQ]) oa ob hm
  exact ⟨x, fun st' h' => hx st' _ _ (by simp [dctAt, h'.hR]) (by simp [dctAt, h'.hQ])⟩
/-! the tests one by one -/
variable {x0 x1 x3 x4 x5 x8 x9 x11 x12 x13 : Option D}
theorem s5_ok {x : Str} (hx : bReprG [.tup [.ref R, .ref Q]] st = some (.str x)) : q_law_0l_3l_5 [x0, x1, some (.ref n), x3, x4, x5, some (.ref Q), some (.ref R), x8, x9, some (.ref E), x11, x12, x13] st = some (.nx, [x0, x1, some (.ref n), x3, x4, x5, some (.ref Q), some (.ref R), x8, x9, some (.ref E), some (.str x), x12, x13], st) := by
  simp [hx]
theorem s6_ok (d : Dt rows c e ks) (h : Wd n R Q E rows c e st) : q_law_0l_3l_6 [x0, x1, some (.ref n), x3, x4, x5, some (.ref Q), some (.ref R), x8, x9, some (.ref E), x11, x12, x13] st = some (.nx, [x0, x1, some (.ref n), x3, x4, x5, some (.ref Q), some (.ref R), x8, x9, some (.ref E), x11, some (.lst (corrs c ks)), x13], st) := by
  simp [corrections_ok h.hQ d.cm d.hk d.km d.kl]
theorem s7_ok (d : Dt rows c e ks) (h : Wd n R Q E rows c e st) : ∃ o, q_law_0l_3l_7 [x0, x1, some (.ref n), x3, x4, x5, some (.ref Q), some (.ref R), x8, x9, some (.ref E), x11, x12, x13] st = some (.nx, [x0, x1, some (.ref n), x3, x4, x5, some (.ref Q), some (.ref R), x8, x9, some (.ref E), x11, x12, x13], st ++ [o]) := by
  obtain ⟨cur, h1, h2, h3⟩ := told_ok h.hR h.hQ d.rm d.cm d.hk d.km d.ku
  have hd := h.app (.dct cur)
  have o1 : out rows c ks st.length = .ref st.length := by unfold out; rw [d.ms]
  rw [o1] at h1
  have sm := same_ok (a := st.length) (b := E) (st := st ++ [.dct cur]) (by simp) hd.hE h3 d.em fun i => by rw [h2 d.ms, d.ge]
  exact ⟨.dct cur, by simp [h1, sm]⟩
theorem corr_fit {i : Int} {d : D} (hi : i ∈ U9) (h : RwO i d) : Fit (corrD i d) 21 5300 := by
  rcases h with rfl | h
  · simp only [U9, List.mem_cons, List.not_mem_nil, or_false] at hi
    exact (Fit.tup (FitL.cons (Fit.str (n := 16) (asc_gs (by decide))) (FitL.cons (Fit.int (by omega)) FitL.nil))).mono (by decide) (by decide)
  · obtain ⟨us, sh, e, _⟩ := h.ex
    have ok := h.ok
    rw [e] at ok ⊢
    have f : FitL [D.tup (us ++ [.int i]), .tup sh] 19 5000 := ⟨ok.ok, Nat.le_of_succ_le_succ ok.hd, ok.wd⟩
    exact (Fit.tup (FitL.cons (Fit.str (n := 16) (x := Str.ofString "put") (asc_gs (by decide))) f)).mono (by decide) (by decide)
theorem s8_ok (d : Dt rows c e ks) (h : Wd n R Q E rows c e st) : q_law_0l_3l_8 [x0, x1, some (.ref n), x3, x4, x5, some (.ref Q), some (.ref R), x8, x9, some (.ref E), x11, some (.lst (corrs c ks)), x13] st = some (.nx, [x0, x1, some (.ref n), x3, x4, x5, some (.ref Q), some (.ref R), x8, x9, some (.ref E), x11, some (.lst (corrs c ks)), x13], st ++ [.dead]) := by
  have f : Fit (.lst (corrs c ks)) 22 50000 := by
    have := FitL.all (ds := corrs c ks) (h := 21) (w := 5300) fun x hx => by
      obtain ⟨i, m, rfl⟩ := List.mem_map.mp hx
      exact corr_fit (d.aft m).2 (d.aft m).1
    exact (Fit.lst this).mono (by decide) (Nat.le_trans (Nat.mul_le_mul_right _ (show (corrs c ks).length ≤ 9 by rw [corrs, List.length_map]; exact d.kl)) (by decide))
  obtain ⟨x, hx⟩ := f.repr (by decide) (by decide)
  have lc := lcorrections_ok h.hQ d.cm d.hk d.km d.kl
  have ne : opNeS (.str x) (.str x) = some (.bl false) := opNeS_same x
  simp [hx, lc, ne]
theorem s9_ok (d : Dt rows c e ks) (h : Wd n R Q E rows c e st) : ∃ f, RM f ∧ (∀ j, gt f j = gt e j) ∧ q_law_0l_3l_9 [x0, x1, some (.ref n), x3, x4, x5, some (.ref Q), some (.ref R), x8, x9, some (.ref E), x11, some (.lst (corrs c ks)), x13] st = some (.nx, [x0, x1, some (.ref n), x3, x4, x5, some (.ref Q), some (.ref R), x8, x9, some (.ref E), x11, some (.lst (corrs c ks)), some (.ref st.length)], st ++ [.dct f]) := by
  obtain ⟨f, h1, h2⟩ := capply_ok (c := c) (l := ks) h.hR d.rm fun i m => d.aft m
  exact ⟨f, h2.rm, fun j => by rw [h2.ap d.km, d.ge], by simp [h1]⟩
theorem s10_ok (d : Dt rows c e ks) (h : Wd n R Q E rows c e st) {F : Nat} {f : KL} (hF : st[F]? = some (.dct f)) (fm : RM f) (fe : ∀ j, gt f j = gt e j) : ∃ o, q_law_0l_3l_10 [x0, x1, some (.ref n), x3, x4, x5, some (.ref Q), some (.ref R), x8, x9, some (.ref E), x11, some (.lst (corrs c ks)), some (.ref F)] st = some (.nx, [x0, x1, some (.ref n), x3, x4, x5, some (.ref Q), some (.ref R), x8, x9, some (.ref E), x11, some (.lst (corrs c ks)), some (.ref F)], st ++ [o]) := by
  have s1 := same_ok hF h.hE fm d.em fe
  obtain ⟨g, h1, h2⟩ := capply_ok (c := c) (l := ks) hF fm fun i m => d.aft m
  have hd := h.app (.dct g)
  have s2 := same_ok (a := st.length) (b := E) (st := st ++ [.dct g]) (by simp) hd.hE h2.rm d.em fun j => by
    rw [h2.ap d.km, d.ge]
    unfold LW.ap
    split
    · rfl
    · rename_i z
      rw [fe, d.ge]
      unfold LW.ap
      rw [if_neg z]
  exact ⟨.dct g, by simp [s1, h1, s2]⟩
theorem s11_ok (d : Dt rows c e ks) (h : Wd n R Q E rows c e st) : ∃ o, q_law_0l_3l_11 [x0, x1, some (.ref n), x3, x4, x5, some (.ref Q), some (.ref R), x8, x9, some (.ref E), x11, x12, x13] st = some (.nx, [x0, x1, some (.ref n), x3, x4, x5, some (.ref Q), some (.ref R), x8, x9, some (.ref E), x11, x12, x13], st ++ [o]) := by
  have cp := copyof_ok (st := st) d.em
  have hd := h.app (.dct e)
  have sm := same_ok (a := st.length) (b := E) (st := st ++ [.dct e]) (by simp) hd.hE d.em d.em fun _ => rfl
  exact ⟨.dct e, by simp [fLstV, dctS, dctIn, h.hE, cp, sm]⟩
theorem s12_ok {F : Nat} {f : KL} (hF : st[F]? = some (.dct f)) (fm : RM f) : q_law_0l_3l_12 [x0, x1, some (.ref n), x3, x4, x5, some (.ref Q), some (.ref R), x8, x9, some (.ref E), x11, x12, some (.ref F)] st = some (.nx, [x0, x1, some (.ref n), x3, x4, x5, some (.ref Q), some (.ref R), x8, x9, some (.ref E), x11, x12, some (.ref F)], st.set F (.dct (putD f (.inl 99) .non))) := by
  have z := z9 fm.len
  simp [sPut, hF, asKey, z]
theorem s13t_ok (d : Dt rows c e ks) (h : Wd n R Q E rows c e st) {F : Nat} {f : KL} (hF : st[F]? = some (.dct f)) (fm : RM f) (fe : ∀ j, gt f j = gt rows j) : (sSeq q_law_0l_3l_13l_0 q_law_0l_3l_13l_1) [x0, x1, some (.ref n), x3, x4, x5, some (.ref Q), some (.ref R), x8, x9, some (.ref E), x11, x12, some (.ref F)] st = some (.nx, [x0, x1, some (.ref n), x3, x4, x5, some (.ref Q), some (.ref R), x8, x9, some (.ref E), x11, x12, some (.ref F)], st.set F (.dct (putD f (.inl 99) .non))) := by
  have z := z9 fm.len
  have sm := same_ok hF h.hR fm d.rm fe
  have a1 : q_law_0l_3l_13l_0 [x0, x1, some (.ref n), x3, x4, x5, some (.ref Q), some (.ref R), x8, x9, some (.ref E), x11, x12, some (.ref F)] st = some (.nx, [x0, x1, some (.ref n), x3, x4, x5, some (.ref Q), some (.ref R), x8, x9, some (.ref E), x11, x12, some (.ref F)], st) := by simp [sm]
  rw [seq_step a1]
  simp [sPut, hF, asKey, z]
theorem s13_ok (d : Dt rows c e ks) (h : Wd n R Q E rows c e st) : ∃ y13 st', q_law_0l_3l_13 [x0, x1, some (.ref n), x3, x4, x5, some (.ref Q), some (.ref R), x8, x9, some (.ref E), x11, x12, x13] st = some (.nx, [x0, x1, some (.ref n), x3, x4, x5, some (.ref Q), some (.ref R), x8, x9, some (.ref E), x11, x12, y13], st') ∧ Wd n R Q E rows c e st' := by
  have a1 := apply0_ok h.hR d.rm
  have h1 := h.app (.dct rows)
  obtain ⟨g, b1, b2⟩ := capply_ok (c := c) (l := []) h1.hR d.rm (fun i m => by cases m)
  have b1' : m_apply_corrections [.ref R, .lst []] (st ++ [.dct rows]) = some (.ref (st.length + 1), st ++ [.dct rows] ++ [.dct g]) := by
    have : corrs c [] = [] := rfl
    rw [this] at b1
    rw [b1]; simp
  have h2 := h1.app (.dct g)
  have k1 : iOf asL (fMk mkLst (aCons (fCall m_apply_changes (aCons (fVar 7) (aCons (fC (.dct [])) aNil))) (aCons (fCall m_apply_corrections (aCons (fVar 7) (aCons (fMk mkLst aNil) aNil))) aNil))) [x0, x1, some (.ref n), x3, x4, x5, some (.ref Q), some (.ref R), x8, x9, some (.ref E), x11, x12, x13] st = some ([.ref st.length, .ref (st.length + 1)], st ++ [.dct rows] ++ [.dct g]) := by
    simp [a1, b1']
  have f1 : (st ++ [Ob.dct rows] ++ [Ob.dct g])[st.length]? = some (.dct rows) := by simp
  have f2 : (st ++ [Ob.dct rows] ++ [Ob.dct g])[st.length + 1]? = some (.dct g) := by
    have := get_app (st := st ++ [.dct rows]) (o := .dct g)
    simpa using this
  have t1 := s13t_ok (x0 := x0) (x1 := x1) (x3 := x3) (x4 := x4) (x5 := x5) (x8 := x8) (x9 := x9) (x11 := x11) (x12 := x12) d h2 f1 d.rm fun _ => rfl
  obtain ⟨w1, w2, w3, w4⟩ := h.new (m := st.length) (Nat.le_refl _)
  obtain ⟨v1, v2, v3, v4⟩ := h.new (m := st.length + 1) (Nat.le_succ _)
  have h3 := h2.set w1 w2 w3 w4 (.dct (putD rows (.inl 99) .non))
  have f3 : ((st ++ [Ob.dct rows] ++ [Ob.dct g]).set st.length (.dct (putD rows (.inl 99) .non)))[st.length + 1]? = some (.dct g) := by
    rw [List.getElem?_set_ne (by omega)]; exact f2
  have t2 := s13t_ok (x0 := x0) (x1 := x1) (x3 := x3) (x4 := x4) (x5 := x5) (x8 := x8) (x9 := x9) (x11 := x11) (x12 := x12) d h3 f3 b2.rm fun j => by
    rw [b2.g j, if_neg (by simp)]
  refine ⟨some (.ref (st.length + 1)), _, ?_, h3.set v1 v2 v3 v4 (.dct (putD g (.inl 99) .non))⟩
  rw [q_law_0l_3l_13, for_step k1]
  show loopS (gN 13) (sSeq q_law_0l_3l_13l_0 q_law_0l_3l_13l_1) [.ref st.length, .ref (st.length + 1)] _ _ = _
  rw [loopS]
  simp only [u_gN, List.set_cons_succ, List.set_cons_zero, Option.bind_some, t1]
  rw [loopS]
  simp only [u_gN, List.set_cons_succ, List.set_cons_zero, Option.bind_some, t2]
  rfl
theorem s14_ok {w : Int} {cc : C} {o : List (Nat × Bool)} {sh : List Nat} {x : Str} (d : Dt rows c e ks) (h : Wd n R Q E rows c e st) (h0 : 0 < w) (h1 : w ≤ 10) (vo : VOk w.toNat cc o sh) (hx : ∀ st', Wd n R Q E rows c e st' → bReprG [.tup [.ref R, .ref Q]] st' = some (.str x)) :
    ∃ st', q_law_0l_3l_14 [x0, x1, some (.ref n), some (.int w), some (vD cc o sh), x5, some (.ref Q), some (.ref R), x8, x9, some (.ref E), some (.str x), x12, x13] st = some (.nx, [x0, x1, some (.ref n), some (.int w), some (vD cc o sh), x5, some (.ref Q), some (.ref R), x8, x9, some (.ref E), some (.str x), x12, x13], st') ∧ Tp st' n := by
  obtain ⟨s1, g1, t1, f1⟩ := other_ok h.t h0 h1 vo h.Rn h.Qn h.hR h.hQ d.rm d.cm d.hk d.km d.ku
  have hw := h.fr t1 f1
  exact ⟨s1, by simp [g1, hx s1 hw, opNeS_same], t1⟩
end LW
namespace LW
open PySem PySem.Spec PyProof.Rows L2 DL TL
noncomputable abbrev bTn : FS := (sSeq q_law_0l_3l_0 (sSeq q_law_0l_3l_1 (sSeq q_law_0l_3l_2 (sSeq q_law_0l_3l_3 (sSeq q_law_0l_3l_4 (sSeq q_law_0l_3l_5 (sSeq q_law_0l_3l_6 (sSeq q_law_0l_3l_7 (sSeq q_law_0l_3l_8 (sSeq q_law_0l_3l_9 (sSeq q_law_0l_3l_10 (sSeq q_law_0l_3l_11 (sSeq q_law_0l_3l_12 (sSeq q_law_0l_3l_13 q_law_0l_3l_14))))))))))))))
theorem bef_eq {c d : KL} {i : Int} (e : gt d i = gt c i) : bef d i = bef c i := by unfold bef; rw [e]
theorem aft_eq {c d : KL} {i : Int} (e : gt d i = gt c i) : aft d i = aft c i := by unfold aft; rw [e]
theorem turn_ok {n : Nat} {w : Int} {c : C} {o : List (Nat × Bool)} {sh : List Nat} {x0 x1 x5 x6 x7 x8 x9 x10 x11 x12 x13 : Option D} {st : Store} (t : Tp st n) (h0 : 0 < w) (h1 : w ≤ 10) (vo : VOk w.toNat c o sh) :
    ∃ y6 y7 y8 y9 y10 y11 y12 y13 st', bTn [x0, x1, some (.ref n), some (.int w), some (vD c o sh), x5, x6, x7, x8, x9, x10, x11, x12, x13] st = some (.nx, [x0, x1, some (.ref n), some (.int w), some (vD c o sh), x5, y6, y7, y8, y9, y10, y11, y12, y13], st') ∧ Tp st' n := by
  obtain ⟨ch, s1, g1, hk1, cm, t1, f1, l1⟩ := set_ok t h0 h1 vo
  have tn : n < st.length := t.lt
  have c0 : q_law_0l_3l_0 [x0, x1, some (.ref n), some (.int w), some (vD c o sh), x5, x6, x7, x8, x9, x10, x11, x12, x13] st = some (.nx, [x0, x1, some (.ref n), some (.int w), some (vD c o sh), x5, some (.ref st.length), x7, x8, x9, x10, x11, x12, x13], s1) := by simp [g1]
  have c1 := rows_ok (n := n) (x0 := x0) (x1 := x1) (x3 := some (.int w)) (x4 := some (vD c o sh)) (x5 := x5) (x7 := x7) (x8 := x8) (x9 := x9) (x10 := x10) (x11 := x11) (x12 := x12) (x13 := x13) hk1 cm
  obtain ⟨y8, y9, s2, r, c2, t2, hR2, rm, rg7, l2, fr2⟩ := more_ok (k := s1.length) (x0 := x0) (x1 := x1) (x5 := x5) (x6 := some (.ref st.length)) (x8 := x8) (x9 := x9) (x10 := x10) (x11 := x11) (x12 := x12) (x13 := x13) (t1.app (.dct (rows0 ch))) (by omega) h0 h1 vo get_app (rows0_rm cm)
  have l2' : s2.length = st.length + 2 := by rw [l2]; simp; omega
  have hC2 : s2[st.length]? = some (.dct ch) := by rw [fr2 _ (by omega) (by omega) (by simp; omega)]; exact at_old hk1
  obtain ⟨ks, hk, km, ku, kl⟩ := cm.keys
  have rb : ∀ i, (gt ch i).isSome = true → gt r i = opt (bef ch i) := fun i hi => by
    obtain ⟨e, _, _, i7⟩ := cm.at hi
    rw [rg7 i i7, gt_rows0 cm.ok.nd, e]; rfl
  obtain ⟨e, a1, a2, em⟩ := applied_ok hR2 hC2 rm cm hk km ku
  have ms := mis_none cm km rb
  have o1 : out r ch ks s2.length = .ref s2.length := by unfold out; rw [ms]
  rw [o1] at a1
  have c3 : q_law_0l_3l_3 [x0, x1, some (.ref n), some (.int w), some (vD c o sh), x5, some (.ref st.length), some (.ref s1.length), y8, y9, x10, x11, x12, x13] s2 = some (.nx, [x0, x1, some (.ref n), some (.int w), some (vD c o sh), x5, some (.ref st.length), some (.ref s1.length), y8, y9, some (.ref s2.length), x11, x12, x13], s2 ++ [.dct e]) := by simp [a1]
  obtain ⟨d, s4, c4, dm, dg, t4, f4, l4⟩ := again_ok (k := st.length) (x0 := x0) (x1 := x1) (x3 := some (.int w)) (x4 := some (vD c o sh)) (x5 := x5) (x7 := some (.ref s1.length)) (x8 := y8) (x9 := y9) (x10 := some (.ref s2.length)) (x11 := x11) (x12 := x12) (x13 := x13) (t2.app (.dct e)) (by omega) (at_old hC2) cm
  have l4' : s4.length = st.length + 3 := by rw [l4]; simp; omega
  have wd : Wd n s1.length s4.length s2.length r d e (s4 ++ [.dct d]) := by
    refine ⟨t4.app _, by omega, by omega, by omega, at_old ?_, get_app, at_old ?_⟩
    · rw [f4.at_ _ (by omega) (by simp; omega)]; exact at_old hR2
    · rw [f4.at_ _ (by omega) (by simp)]; exact get_app
  obtain ⟨ks', hk', km', ku', kl'⟩ := dm.keys
  have dt : Dt r d e ks' := by
    refine ⟨rm, dm, em, hk', km', ku', kl', mis_none dm km' fun i hi => ?_, fun j => ?_⟩
    · rw [dg] at hi
      rw [bef_eq (dg i)]
      exact rb i hi
    · rw [a2 ms]
      unfold ap
      rw [dg, aft_eq (dg j)]
  obtain ⟨x, hx⟩ := kept_ok dt wd
  have c5 := s5_ok (n := n) (E := s2.length) (x0 := x0) (x1 := x1) (x3 := some (.int w)) (x4 := some (vD c o sh)) (x5 := x5) (x8 := y8) (x9 := y9) (x11 := x11) (x12 := x12) (x13 := x13) (hx _ wd)
  have c6 := s6_ok (x0 := x0) (x1 := x1) (x3 := some (.int w)) (x4 := some (vD c o sh)) (x5 := x5) (x8 := y8) (x9 := y9) (x11 := some (.str x)) (x12 := x12) (x13 := x13) dt wd
  obtain ⟨o7, c7⟩ := s7_ok (x0 := x0) (x1 := x1) (x3 := some (.int w)) (x4 := some (vD c o sh)) (x5 := x5) (x8 := y8) (x9 := y9) (x11 := some (.str x)) (x12 := some (.lst (corrs d ks'))) (x13 := x13) dt wd
  have w7 := wd.app o7
  have c8 := s8_ok (x0 := x0) (x1 := x1) (x3 := some (.int w)) (x4 := some (vD c o sh)) (x5 := x5) (x8 := y8) (x9 := y9) (x11 := some (.str x)) (x13 := x13) dt w7
  have w8 := w7.app .dead
  obtain ⟨f, fm, fe, c9⟩ := s9_ok (x0 := x0) (x1 := x1) (x3 := some (.int w)) (x4 := some (vD c o sh)) (x5 := x5) (x8 := y8) (x9 := y9) (x11 := some (.str x)) (x13 := x13) dt w8
  have w9 := w8.app (.dct f)
  generalize hF : (s4 ++ [Ob.dct d] ++ [o7] ++ [Ob.dead]).length = F at c9
  have hf9 : (s4 ++ [Ob.dct d] ++ [o7] ++ [Ob.dead] ++ [Ob.dct f])[F]? = some (.dct f) := by rw [← hF]; exact get_app
  obtain ⟨o10, c10⟩ := s10_ok (x0 := x0) (x1 := x1) (x3 := some (.int w)) (x4 := some (vD c o sh)) (x5 := x5) (x8 := y8) (x9 := y9) (x11 := some (.str x)) dt w9 hf9 fm fe
  have w10 := w9.app o10
  have hf10 := at_old (o' := o10) hf9
  obtain ⟨o11, c11⟩ := s11_ok (x0 := x0) (x1 := x1) (x3 := some (.int w)) (x4 := some (vD c o sh)) (x5 := x5) (x8 := y8) (x9 := y9) (x11 := some (.str x)) (x12 := some (.lst (corrs d ks'))) (x13 := some (.ref F)) dt w10
  have w11 := w10.app o11
  have hf11 := at_old (o' := o11) hf10
  have c12 := s12_ok (n := n) (R := s1.length) (Q := s4.length) (E := s2.length) (x0 := x0) (x1 := x1) (x3 := some (.int w)) (x4 := some (vD c o sh)) (x5 := x5) (x8 := y8) (x9 := y9) (x11 := some (.str x)) (x12 := some (.lst (corrs d ks'))) hf11 fm
  obtain ⟨v1, v2, v3, v4⟩ := w8.new (m := F) (by rw [hF]; exact Nat.le_refl _)
  have w12 := w11.set v1 v2 v3 v4 (.dct (putD f (.inl 99) .non))
  obtain ⟨y13, s13, c13, w13⟩ := s13_ok (x0 := x0) (x1 := x1) (x3 := some (.int w)) (x4 := some (vD c o sh)) (x5 := x5) (x8 := y8) (x9 := y9) (x11 := some (.str x)) (x12 := some (.lst (corrs d ks'))) (x13 := some (.ref F)) dt w12
  obtain ⟨s14, c14, t14⟩ := s14_ok (x0 := x0) (x1 := x1) (x5 := x5) (x8 := y8) (x9 := y9) (x12 := some (.lst (corrs d ks'))) (x13 := y13) dt w13 h0 h1 vo hx
  refine ⟨some (.ref s4.length), some (.ref s1.length), y8, y9, some (.ref s2.length), some (.str x), some (.lst (corrs d ks')), y13, s14, ?_, t14⟩
  rw [bTn, seq_step c0, seq_step c1, seq_step c2, seq_step c3, seq_step c4, seq_step c5, seq_step c6, seq_step c7, seq_step c8, seq_step c9, seq_step c10, seq_step c11, seq_step c12, seq_step c13]
  exact c14
theorem starts_rg {ns : List Int} {m k : Int} {env : Lo} (h0 : 0 ≤ m) (hm : m ≤ 100) (hk : k ≤ 100) (he : env[0]? = some (some (.scr ns))) (hl : ns.length ≤ 63) : ∃ j : Int, (iOfA asR1 (aCons (fMk bMax (aCons (fC (.int m)) (aCons (fMk bMin (aCons (fC (.int k)) (aCons (fMk bLen (aCons (fVar 0) aNil)) aNil))) aNil))) aNil)) env [] = some (rg 0 j, []) ∧ j ≤ 100 := by
  refine ⟨if (if (ns.length : Int) < k then (ns.length : Int) else k) > m then (if (ns.length : Int) < k then (ns.length : Int) else k) else m, ?_, by split <;> (try split) <;> omega⟩
  generalize hq : (if (if (ns.length : Int) < k then (ns.length : Int) else k) > m then (if (ns.length : Int) < k then (ns.length : Int) else k) else m) = q
  have q0 : 0 ≤ q ∧ q ≤ 100 := by
    subst hq
    split <;> (try split) <;> omega
  have := asR1_ok (n := q) q0.1 (by omega)
  simp [he, bMax, bMin, bLen, lenL]
  simp at hq
  rw [hq, this]
noncomputable abbrev bSt : FS := sSeq q_law_0l_0 (sSeq q_law_0l_1 (sSeq q_law_0l_2 q_law_0l_3))
theorem start_ok {ns : List Int} (hb : ∀ z ∈ ns, Builtin.Int.intBits z ≤ 1048576) {s : Int} (s0 : 0 ≤ s) (s1 : s < 1000) {x2 x3 x4 x5 x6 x7 x8 x9 x10 x11 x12 x13 : Option D} {st : Store} :
    ∃ y2 y3 y4 y5 y6 y7 y8 y9 y10 y11 y12 y13 st', bSt [some (.scr ns), some (.int s), x2, x3, x4, x5, x6, x7, x8, x9, x10, x11, x12, x13] st = some (.nx, [some (.scr ns), some (.int s), y2, y3, y4, y5, y6, y7, y8, y9, y10, y11, y12, y13], st') := by
  obtain ⟨sa, ha, _, ta, _⟩ := tape_ok (st := st) hb s0 s1
  generalize st.length = n at *
  obtain ⟨r, sb, g1, r0, r3, tb, _, _⟩ := pick_ok ta (s := 3) (by decide) (by decide)
  generalize hw : 1 + r = w
  obtain ⟨c, o, sh, sc, g3, vo, tc, _⟩ := view_ok tb (w := w) (by omega) (by omega)
  have c0 : q_law_0l_0 [some (.scr ns), some (.int s), x2, x3, x4, x5, x6, x7, x8, x9, x10, x11, x12, x13] st = some (.nx, [some (.scr ns), some (.int s), some (.ref n), x3, x4, x5, x6, x7, x8, x9, x10, x11, x12, x13], sa) := by simp [e_tape, ha]
  have c1 : q_law_0l_1 [some (.scr ns), some (.int s), some (.ref n), x3, x4, x5, x6, x7, x8, x9, x10, x11, x12, x13] sa = some (.nx, [some (.scr ns), some (.int s), some (.ref n), some (.int w), x4, x5, x6, x7, x8, x9, x10, x11, x12, x13], sb) := by simp [e_pick, g1, hw]
  have c2 : q_law_0l_2 [some (.scr ns), some (.int s), some (.ref n), some (.int w), x4, x5, x6, x7, x8, x9, x10, x11, x12, x13] sb = some (.nx, [some (.scr ns), some (.int s), some (.ref n), some (.int w), some (vD c o sh), x5, x6, x7, x8, x9, x10, x11, x12, x13], sc) := by simp [g3]
  obtain ⟨e4, s4, g4, ⟨y5, y6, y7, y8, y9, y10, y11, y12, y13, hy⟩, t4⟩ := loopS_inv (tg := gN 5) (body := bTn) (fun env st => (∃ y5 y6 y7 y8 y9 y10 y11 y12 y13, env = [some (.scr ns), some (.int s), some (.ref n), some (.int w), some (vD c o sh), y5, y6, y7, y8, y9, y10, y11, y12, y13]) ∧ Tp st n) (ds := rg 0 4) (fun d hd env st i => by
    obtain ⟨⟨y5, y6, y7, y8, y9, y10, y11, y12, y13, rfl⟩, t⟩ := i
    obtain ⟨z6, z7, z8, z9, z10, z11, z12, z13, st', e, t'⟩ := turn_ok (x0 := some (.scr ns)) (x1 := some (.int s)) (x5 := some d) (x6 := y6) (x7 := y7) (x8 := y8) (x9 := y9) (x10 := y10) (x11 := y11) (x12 := y12) (x13 := y13) t (by omega) (by omega) vo
    exact ⟨[some (.scr ns), some (.int s), some (.ref n), some (.int w), some (vD c o sh), some d, y6, y7, y8, y9, y10, y11, y12, y13], by simp, .nx, _, st', e, .inl rfl, ⟨_, _, _, _, _, _, _, _, _, rfl⟩, t'⟩) (env := [some (.scr ns), some (.int s), some (.ref n), some (.int w), some (vD c o sh), x5, x6, x7, x8, x9, x10, x11, x12, x13]) (st := sc) ⟨⟨_, _, _, _, _, _, _, _, _, rfl⟩, tc⟩
  subst hy
  have ra := asR1_ok (n := 4) (by decide) (by decide)
  refine ⟨some (.ref n), some (.int w), some (vD c o sh), y5, y6, y7, y8, y9, y10, y11, y12, y13, s4, ?_⟩
  rw [bSt, seq_step c0, seq_step c1, seq_step c2, q_law_0l_3, for_step (ds := rg 0 4) (s1 := sc) (by simp [ra])]
  exact g4
theorem law_true (ns : List Int) (h : ns.length ≤ 63) (hb : ∀ z ∈ ns, Builtin.Int.intBits z ≤ 1048576) : ∃ st', m_law [.scr ns] [] = some (.bl true, st') := by
  obtain ⟨j, hj, hj2⟩ := starts_rg (ns := ns) (m := 2) (k := 4) (env := [some (.scr ns), none, none, none, none, none, none, none, none, none, none, none, none, none]) (by decide) (by decide) (by decide) rfl h
  obtain ⟨e2, s2, h2, _⟩ := loopS_inv (tg := gN 1) (body := bSt) (fun env _ => ∃ y1 y2 y3 y4 y5 y6 y7 y8 y9 y10 y11 y12 y13, env = [some (.scr ns), y1, y2, y3, y4, y5, y6, y7, y8, y9, y10, y11, y12, y13]) (ds := rg 0 j) (fun d hd env st i => by
    obtain ⟨y1, y2, y3, y4, y5, y6, y7, y8, y9, y10, y11, y12, y13, rfl⟩ := i
    obtain ⟨s, rfl, s0, s1⟩ := rg_mem hd
    obtain ⟨z2, z3, z4, z5, z6, z7, z8, z9, z10, z11, z12, z13, st', e⟩ := start_ok hb s0 (by omega) (x2 := y2) (x3 := y3) (x4 := y4) (x5 := y5) (x6 := y6) (x7 := y7) (x8 := y8) (x9 := y9) (x10 := y10) (x11 := y11) (x12 := y12) (x13 := y13) (st := st)
    exact ⟨[some (.scr ns), some (.int s), y2, y3, y4, y5, y6, y7, y8, y9, y10, y11, y12, y13], by simp, .nx, _, st', e, .inl rfl, ⟨_, _, _, _, _, _, _, _, _, _, _, _, _, rfl⟩⟩) (env := [some (.scr ns), none, none, none, none, none, none, none, none, none, none, none, none, none]) (st := []) ⟨_, _, _, _, _, _, _, _, _, _, _, _, _, rfl⟩
  refine ⟨s2, ?_⟩
  rw [show m_law [.scr ns] [] = outM (g_law [some (.scr ns), none, none, none, none, none, none, none, none, none, none, none, none, none] []) from rfl, g_law, seq_step (show q_law_0 _ _ = _ from (for_step hj).trans h2)]
  rfl
end LW
namespace LW
open PySem PySem.Spec PyProof.Rows L2 DL
theorem all_mk {l : PySem.W.OpenLaw} {w : World} {K : PySem.W.Frag} {h : Heap} {mg : Str → Option Value} {fa : Addr} (X : K.In h) (G : h.Ns mainGlobals mg) (hfa : mg "law" = some (.ref fa))
    {p_copy_of : Addr} {od_copy_of an_copy_of : Option Addr} {sl_copy_of : Array (Option Value)} {oc_copy_of kV_copy_of dc_copy_of pm_copy_of cd_copy_of ct_copy_of : Value}
    (a_copy_of : PySem.W.nsIn K mainGlobals "copy_of" = some (some (.ref p_copy_of))) (l_copy_of : K.lookup p_copy_of = some ⟨oc_copy_of, od_copy_of, .func (PySem.W.fnOf "copy_of" "copy_of" (defArgs s_copy_of) (defBody s_copy_of) (defScope s_copy_of) .none kV_copy_of dc_copy_of pm_copy_of an_copy_of cd_copy_of ct_copy_of), sl_copy_of⟩) (c_copy_of : PySem.W.codeIn K cd_copy_of "copy_of" = true) (k_copy_of : PySem.W.keepIn K (.ref p_copy_of) = true)
    {p_set_row : Addr} {od_set_row an_set_row : Option Addr} {sl_set_row : Array (Option Value)} {oc_set_row kV_set_row dc_set_row pm_set_row cd_set_row ct_set_row : Value}
    (a_set_row : PySem.W.nsIn K mainGlobals "set_row" = some (some (.ref p_set_row))) (l_set_row : K.lookup p_set_row = some ⟨oc_set_row, od_set_row, .func (PySem.W.fnOf "set_row" "set_row" (defArgs s_set_row) (defBody s_set_row) (defScope s_set_row) .none kV_set_row dc_set_row pm_set_row an_set_row cd_set_row ct_set_row), sl_set_row⟩) (c_set_row : PySem.W.codeIn K cd_set_row "set_row" = true) (k_set_row : PySem.W.keepIn K (.ref p_set_row) = true)
    {p_apply_changes : Addr} {od_apply_changes an_apply_changes : Option Addr} {sl_apply_changes : Array (Option Value)} {oc_apply_changes kV_apply_changes dc_apply_changes pm_apply_changes cd_apply_changes ct_apply_changes : Value}
    (a_apply_changes : PySem.W.nsIn K mainGlobals "apply_changes" = some (some (.ref p_apply_changes))) (l_apply_changes : K.lookup p_apply_changes = some ⟨oc_apply_changes, od_apply_changes, .func (PySem.W.fnOf "apply_changes" "apply_changes" (defArgs s_apply_changes) (defBody s_apply_changes) (defScope s_apply_changes) .none kV_apply_changes dc_apply_changes pm_apply_changes an_apply_changes cd_apply_changes ct_apply_changes), sl_apply_changes⟩) (c_apply_changes : PySem.W.codeIn K cd_apply_changes "apply_changes" = true) (k_apply_changes : PySem.W.keepIn K (.ref p_apply_changes) = true)
    {p_correction_to : Addr} {od_correction_to an_correction_to : Option Addr} {sl_correction_to : Array (Option Value)} {oc_correction_to kV_correction_to dc_correction_to pm_correction_to cd_correction_to ct_correction_to : Value}
    (a_correction_to : PySem.W.nsIn K mainGlobals "correction_to" = some (some (.ref p_correction_to))) (l_correction_to : K.lookup p_correction_to = some ⟨oc_correction_to, od_correction_to, .func (PySem.W.fnOf "correction_to" "correction_to" (defArgs s_correction_to) (defBody s_correction_to) (defScope s_correction_to) .none kV_correction_to dc_correction_to pm_correction_to an_correction_to cd_correction_to ct_correction_to), sl_correction_to⟩) (c_correction_to : PySem.W.codeIn K cd_correction_to "correction_to" = true) (k_correction_to : PySem.W.keepIn K (.ref p_correction_to) = true)
    {p_corrections_of : Addr} {od_corrections_of an_corrections_of : Option Addr} {sl_corrections_of : Array (Option Value)} {oc_corrections_of kV_corrections_of dc_corrections_of pm_corrections_of cd_corrections_of ct_corrections_of : Value}
    (a_corrections_of : PySem.W.nsIn K mainGlobals "corrections_of" = some (some (.ref p_corrections_of))) (l_corrections_of : K.lookup p_corrections_of = some ⟨oc_corrections_of, od_corrections_of, .func (PySem.W.fnOf "corrections_of" "corrections_of" (defArgs s_corrections_of) (defBody s_corrections_of) (defScope s_corrections_of) .none kV_corrections_of dc_corrections_of pm_corrections_of an_corrections_of cd_corrections_of ct_corrections_of), sl_corrections_of⟩) (c_corrections_of : PySem.W.codeIn K cd_corrections_of "corrections_of" = true) (k_corrections_of : PySem.W.keepIn K (.ref p_corrections_of) = true)
    {p_corrected_id : Addr} {od_corrected_id an_corrected_id : Option Addr} {sl_corrected_id : Array (Option Value)} {oc_corrected_id kV_corrected_id dc_corrected_id pm_corrected_id cd_corrected_id ct_corrected_id : Value}
    (a_corrected_id : PySem.W.nsIn K mainGlobals "corrected_id" = some (some (.ref p_corrected_id))) (l_corrected_id : K.lookup p_corrected_id = some ⟨oc_corrected_id, od_corrected_id, .func (PySem.W.fnOf "corrected_id" "corrected_id" (defArgs s_corrected_id) (defBody s_corrected_id) (defScope s_corrected_id) .none kV_corrected_id dc_corrected_id pm_corrected_id an_corrected_id cd_corrected_id ct_corrected_id), sl_corrected_id⟩) (c_corrected_id : PySem.W.codeIn K cd_corrected_id "corrected_id" = true) (k_corrected_id : PySem.W.keepIn K (.ref p_corrected_id) = true)
    {p_apply_corrections : Addr} {od_apply_corrections an_apply_corrections : Option Addr} {sl_apply_corrections : Array (Option Value)} {oc_apply_corrections kV_apply_corrections dc_apply_corrections pm_apply_corrections cd_apply_corrections ct_apply_corrections : Value}
    (a_apply_corrections : PySem.W.nsIn K mainGlobals "apply_corrections" = some (some (.ref p_apply_corrections))) (l_apply_corrections : K.lookup p_apply_corrections = some ⟨oc_apply_corrections, od_apply_corrections, .func (PySem.W.fnOf "apply_corrections" "apply_corrections" (defArgs s_apply_corrections) (defBody s_apply_corrections) (defScope s_apply_corrections) .none kV_apply_corrections dc_apply_corrections pm_apply_corrections an_apply_corrections cd_apply_corrections ct_apply_corrections), sl_apply_corrections⟩) (c_apply_corrections : PySem.W.codeIn K cd_apply_corrections "apply_corrections" = true) (k_apply_corrections : PySem.W.keepIn K (.ref p_apply_corrections) = true)
    {p__law_tape : Addr} {od__law_tape an__law_tape : Option Addr} {sl__law_tape : Array (Option Value)} {oc__law_tape kV__law_tape dc__law_tape pm__law_tape cd__law_tape ct__law_tape : Value}
    (a__law_tape : PySem.W.nsIn K mainGlobals "_law_tape" = some (some (.ref p__law_tape))) (l__law_tape : K.lookup p__law_tape = some ⟨oc__law_tape, od__law_tape, .func (PySem.W.fnOf "_law_tape" "_law_tape" (defArgs s__law_tape) (defBody s__law_tape) (defScope s__law_tape) .none kV__law_tape dc__law_tape pm__law_tape an__law_tape cd__law_tape ct__law_tape), sl__law_tape⟩) (c__law_tape : PySem.W.codeIn K cd__law_tape "_law_tape" = true) (k__law_tape : PySem.W.keepIn K (.ref p__law_tape) = true)
    {p__law_pick : Addr} {od__law_pick an__law_pick : Option Addr} {sl__law_pick : Array (Option Value)} {oc__law_pick kV__law_pick dc__law_pick pm__law_pick cd__law_pick ct__law_pick : Value}
    (a__law_pick : PySem.W.nsIn K mainGlobals "_law_pick" = some (some (.ref p__law_pick))) (l__law_pick : K.lookup p__law_pick = some ⟨oc__law_pick, od__law_pick, .func (PySem.W.fnOf "_law_pick" "_law_pick" (defArgs s__law_pick) (defBody s__law_pick) (defScope s__law_pick) .none kV__law_pick dc__law_pick pm__law_pick an__law_pick cd__law_pick ct__law_pick), sl__law_pick⟩) (c__law_pick : PySem.W.codeIn K cd__law_pick "_law_pick" = true) (k__law_pick : PySem.W.keepIn K (.ref p__law_pick) = true)
    {p__law_one_of : Addr} {od__law_one_of an__law_one_of : Option Addr} {sl__law_one_of : Array (Option Value)} {oc__law_one_of kV__law_one_of dc__law_one_of pm__law_one_of cd__law_one_of ct__law_one_of : Value}
    (a__law_one_of : PySem.W.nsIn K mainGlobals "_law_one_of" = some (some (.ref p__law_one_of))) (l__law_one_of : K.lookup p__law_one_of = some ⟨oc__law_one_of, od__law_one_of, .func (PySem.W.fnOf "_law_one_of" "_law_one_of" (defArgs s__law_one_of) (defBody s__law_one_of) (defScope s__law_one_of) .none kV__law_one_of dc__law_one_of pm__law_one_of an__law_one_of cd__law_one_of ct__law_one_of), sl__law_one_of⟩) (c__law_one_of : PySem.W.codeIn K cd__law_one_of "_law_one_of" = true) (k__law_one_of : PySem.W.keepIn K (.ref p__law_one_of) = true)
    {p__law_value : Addr} {od__law_value an__law_value : Option Addr} {sl__law_value : Array (Option Value)} {oc__law_value kV__law_value dc__law_value pm__law_value cd__law_value ct__law_value : Value}
    (a__law_value : PySem.W.nsIn K mainGlobals "_law_value" = some (some (.ref p__law_value))) (l__law_value : K.lookup p__law_value = some ⟨oc__law_value, od__law_value, .func (PySem.W.fnOf "_law_value" "_law_value" (defArgs s__law_value) (defBody s__law_value) (defScope s__law_value) .none kV__law_value dc__law_value pm__law_value an__law_value cd__law_value ct__law_value), sl__law_value⟩) (c__law_value : PySem.W.codeIn K cd__law_value "_law_value" = true) (k__law_value : PySem.W.keepIn K (.ref p__law_value) = true)
    {p__law_values : Addr} {od__law_values an__law_values : Option Addr} {sl__law_values : Array (Option Value)} {oc__law_values kV__law_values dc__law_values pm__law_values cd__law_values ct__law_values : Value}
    (a__law_values : PySem.W.nsIn K mainGlobals "_law_values" = some (some (.ref p__law_values))) (l__law_values : K.lookup p__law_values = some ⟨oc__law_values, od__law_values, .func (PySem.W.fnOf "_law_values" "_law_values" (defArgs s__law_values) (defBody s__law_values) (defScope s__law_values) .none kV__law_values dc__law_values pm__law_values an__law_values cd__law_values ct__law_values), sl__law_values⟩) (c__law_values : PySem.W.codeIn K cd__law_values "_law_values" = true) (k__law_values : PySem.W.keepIn K (.ref p__law_values) = true)
    {p__law_test : Addr} {od__law_test an__law_test : Option Addr} {sl__law_test : Array (Option Value)} {oc__law_test kV__law_test dc__law_test pm__law_test cd__law_test ct__law_test : Value}
    (a__law_test : PySem.W.nsIn K mainGlobals "_law_test" = some (some (.ref p__law_test))) (l__law_test : K.lookup p__law_test = some ⟨oc__law_test, od__law_test, .func (PySem.W.fnOf "_law_test" "_law_test" (defArgs s__law_test) (defBody s__law_test) (defScope s__law_test) .none kV__law_test dc__law_test pm__law_test an__law_test cd__law_test ct__law_test), sl__law_test⟩) (c__law_test : PySem.W.codeIn K cd__law_test "_law_test" = true) (k__law_test : PySem.W.keepIn K (.ref p__law_test) = true)
    {p__law_condition : Addr} {od__law_condition an__law_condition : Option Addr} {sl__law_condition : Array (Option Value)} {oc__law_condition kV__law_condition dc__law_condition pm__law_condition cd__law_condition ct__law_condition : Value}
    (a__law_condition : PySem.W.nsIn K mainGlobals "_law_condition" = some (some (.ref p__law_condition))) (l__law_condition : K.lookup p__law_condition = some ⟨oc__law_condition, od__law_condition, .func (PySem.W.fnOf "_law_condition" "_law_condition" (defArgs s__law_condition) (defBody s__law_condition) (defScope s__law_condition) .none kV__law_condition dc__law_condition pm__law_condition an__law_condition cd__law_condition ct__law_condition), sl__law_condition⟩) (c__law_condition : PySem.W.codeIn K cd__law_condition "_law_condition" = true) (k__law_condition : PySem.W.keepIn K (.ref p__law_condition) = true)
    {p__law_view : Addr} {od__law_view an__law_view : Option Addr} {sl__law_view : Array (Option Value)} {oc__law_view kV__law_view dc__law_view pm__law_view cd__law_view ct__law_view : Value}
    (a__law_view : PySem.W.nsIn K mainGlobals "_law_view" = some (some (.ref p__law_view))) (l__law_view : K.lookup p__law_view = some ⟨oc__law_view, od__law_view, .func (PySem.W.fnOf "_law_view" "_law_view" (defArgs s__law_view) (defBody s__law_view) (defScope s__law_view) .none kV__law_view dc__law_view pm__law_view an__law_view cd__law_view ct__law_view), sl__law_view⟩) (c__law_view : PySem.W.codeIn K cd__law_view "_law_view" = true) (k__law_view : PySem.W.keepIn K (.ref p__law_view) = true)
    {p__law_key : Addr} {od__law_key an__law_key : Option Addr} {sl__law_key : Array (Option Value)} {oc__law_key kV__law_key dc__law_key pm__law_key cd__law_key ct__law_key : Value}
    (a__law_key : PySem.W.nsIn K mainGlobals "_law_key" = some (some (.ref p__law_key))) (l__law_key : K.lookup p__law_key = some ⟨oc__law_key, od__law_key, .func (PySem.W.fnOf "_law_key" "_law_key" (defArgs s__law_key) (defBody s__law_key) (defScope s__law_key) .none kV__law_key dc__law_key pm__law_key an__law_key cd__law_key ct__law_key), sl__law_key⟩) (c__law_key : PySem.W.codeIn K cd__law_key "_law_key" = true) (k__law_key : PySem.W.keepIn K (.ref p__law_key) = true)
    {p__law_row : Addr} {od__law_row an__law_row : Option Addr} {sl__law_row : Array (Option Value)} {oc__law_row kV__law_row dc__law_row pm__law_row cd__law_row ct__law_row : Value}
    (a__law_row : PySem.W.nsIn K mainGlobals "_law_row" = some (some (.ref p__law_row))) (l__law_row : K.lookup p__law_row = some ⟨oc__law_row, od__law_row, .func (PySem.W.fnOf "_law_row" "_law_row" (defArgs s__law_row) (defBody s__law_row) (defScope s__law_row) .none kV__law_row dc__law_row pm__law_row an__law_row cd__law_row ct__law_row), sl__law_row⟩) (c__law_row : PySem.W.codeIn K cd__law_row "_law_row" = true) (k__law_row : PySem.W.keepIn K (.ref p__law_row) = true)
    {p__law_set : Addr} {od__law_set an__law_set : Option Addr} {sl__law_set : Array (Option Value)} {oc__law_set kV__law_set dc__law_set pm__law_set cd__law_set ct__law_set : Value}
    (a__law_set : PySem.W.nsIn K mainGlobals "_law_set" = some (some (.ref p__law_set))) (l__law_set : K.lookup p__law_set = some ⟨oc__law_set, od__law_set, .func (PySem.W.fnOf "_law_set" "_law_set" (defArgs s__law_set) (defBody s__law_set) (defScope s__law_set) .none kV__law_set dc__law_set pm__law_set an__law_set cd__law_set ct__law_set), sl__law_set⟩) (c__law_set : PySem.W.codeIn K cd__law_set "_law_set" = true) (k__law_set : PySem.W.keepIn K (.ref p__law_set) = true)
    {p__law_same : Addr} {od__law_same an__law_same : Option Addr} {sl__law_same : Array (Option Value)} {oc__law_same kV__law_same dc__law_same pm__law_same cd__law_same ct__law_same : Value}
    (a__law_same : PySem.W.nsIn K mainGlobals "_law_same" = some (some (.ref p__law_same))) (l__law_same : K.lookup p__law_same = some ⟨oc__law_same, od__law_same, .func (PySem.W.fnOf "_law_same" "_law_same" (defArgs s__law_same) (defBody s__law_same) (defScope s__law_same) .none kV__law_same dc__law_same pm__law_same an__law_same cd__law_same ct__law_same), sl__law_same⟩) (c__law_same : PySem.W.codeIn K cd__law_same "_law_same" = true) (k__law_same : PySem.W.keepIn K (.ref p__law_same) = true)
    {p__law_applied : Addr} {od__law_applied an__law_applied : Option Addr} {sl__law_applied : Array (Option Value)} {oc__law_applied kV__law_applied dc__law_applied pm__law_applied cd__law_applied ct__law_applied : Value}
    (a__law_applied : PySem.W.nsIn K mainGlobals "_law_applied" = some (some (.ref p__law_applied))) (l__law_applied : K.lookup p__law_applied = some ⟨oc__law_applied, od__law_applied, .func (PySem.W.fnOf "_law_applied" "_law_applied" (defArgs s__law_applied) (defBody s__law_applied) (defScope s__law_applied) .none kV__law_applied dc__law_applied pm__law_applied an__law_applied cd__law_applied ct__law_applied), sl__law_applied⟩) (c__law_applied : PySem.W.codeIn K cd__law_applied "_law_applied" = true) (k__law_applied : PySem.W.keepIn K (.ref p__law_applied) = true)
    {p__law_told : Addr} {od__law_told an__law_told : Option Addr} {sl__law_told : Array (Option Value)} {oc__law_told kV__law_told dc__law_told pm__law_told cd__law_told ct__law_told : Value}
    (a__law_told : PySem.W.nsIn K mainGlobals "_law_told" = some (some (.ref p__law_told))) (l__law_told : K.lookup p__law_told = some ⟨oc__law_told, od__law_told, .func (PySem.W.fnOf "_law_told" "_law_told" (defArgs s__law_told) (defBody s__law_told) (defScope s__law_told) .none kV__law_told dc__law_told pm__law_told an__law_told cd__law_told ct__law_told), sl__law_told⟩) (c__law_told : PySem.W.codeIn K cd__law_told "_law_told" = true) (k__law_told : PySem.W.keepIn K (.ref p__law_told) = true)
    {p__law_other_right : Addr} {od__law_other_right an__law_other_right : Option Addr} {sl__law_other_right : Array (Option Value)} {oc__law_other_right kV__law_other_right dc__law_other_right pm__law_other_right cd__law_other_right ct__law_other_right : Value}
    (a__law_other_right : PySem.W.nsIn K mainGlobals "_law_other_right" = some (some (.ref p__law_other_right))) (l__law_other_right : K.lookup p__law_other_right = some ⟨oc__law_other_right, od__law_other_right, .func (PySem.W.fnOf "_law_other_right" "_law_other_right" (defArgs s__law_other_right) (defBody s__law_other_right) (defScope s__law_other_right) .none kV__law_other_right dc__law_other_right pm__law_other_right an__law_other_right cd__law_other_right ct__law_other_right), sl__law_other_right⟩) (c__law_other_right : PySem.W.codeIn K cd__law_other_right "_law_other_right" = true) (k__law_other_right : PySem.W.keepIn K (.ref p__law_other_right) = true)
    {p__law_corrections : Addr} {od__law_corrections an__law_corrections : Option Addr} {sl__law_corrections : Array (Option Value)} {oc__law_corrections kV__law_corrections dc__law_corrections pm__law_corrections cd__law_corrections ct__law_corrections : Value}
    (a__law_corrections : PySem.W.nsIn K mainGlobals "_law_corrections" = some (some (.ref p__law_corrections))) (l__law_corrections : K.lookup p__law_corrections = some ⟨oc__law_corrections, od__law_corrections, .func (PySem.W.fnOf "_law_corrections" "_law_corrections" (defArgs s__law_corrections) (defBody s__law_corrections) (defScope s__law_corrections) .none kV__law_corrections dc__law_corrections pm__law_corrections an__law_corrections cd__law_corrections ct__law_corrections), sl__law_corrections⟩) (c__law_corrections : PySem.W.codeIn K cd__law_corrections "_law_corrections" = true) (k__law_corrections : PySem.W.keepIn K (.ref p__law_corrections) = true)
    {p_law : Addr} {od_law an_law : Option Addr} {sl_law : Array (Option Value)} {oc_law kV_law dc_law pm_law cd_law ct_law : Value}
    (a_law : PySem.W.nsIn K mainGlobals "law" = some (some (.ref p_law))) (l_law : K.lookup p_law = some ⟨oc_law, od_law, .func (PySem.W.fnOf "law" "law" (defArgs s_law) (defBody s_law) (defScope s_law) .none kV_law dc_law pm_law an_law cd_law ct_law), sl_law⟩) (c_law : PySem.W.codeIn K cd_law "law" = true) (k_law : PySem.W.keepIn K (.ref p_law) = true)
    {X_Mismatch Q_Mismatch I_Mismatch : Addr} {xn_Mismatch xq_Mismatch : Str} {xN_Mismatch : Addr} {xb_Mismatch : List Value} {xs_Mismatch : List Str} {xu_Mismatch : List Value} {xa_Mismatch : Bool} {xc_Mismatch : Option Bool} {xd_Mismatch : Option Addr} {x0_Mismatch x1_Mismatch x2_Mismatch x3_Mismatch x5_Mismatch : Option Value} {iod_Mismatch ian_Mismatch : Option Addr} {isl_Mismatch : Array (Option Value)} {ioc_Mismatch idc_Mismatch ipm_Mismatch icd_Mismatch ict_Mismatch : Value}
    (aX_Mismatch : PySem.W.nsIn K mainGlobals "Mismatch" = some (some (.ref X_Mismatch))) (xL_Mismatch : K.lookup X_Mismatch = some (excClassObj xn_Mismatch xq_Mismatch X_Mismatch xN_Mismatch xb_Mismatch [.ref Q_Mismatch, .type "ValueError", .type "Exception", .type "BaseException", .type "object"] true xs_Mismatch xu_Mismatch xa_Mismatch xc_Mismatch xd_Mismatch x0_Mismatch x1_Mismatch x2_Mismatch x3_Mismatch x5_Mismatch "ValueError.__new__"))
    (sa_Mismatch : PySem.W.findIn K (.ref X_Mismatch) "__setattr__" = some (some (.builtin "object.__setattr__"))) (ga_Mismatch : PySem.W.findIn K (.ref X_Mismatch) "__getattribute__" = some (some (.builtin "BaseException.__getattribute__"))) (gg_Mismatch : PySem.W.findIn K (.ref X_Mismatch) "__getattr__" = some none) (nb_Mismatch : PySem.W.findIn K (.ref X_Mismatch) "row_id" = some none)
    (a1_Mismatch : PySem.W.findIn K (.ref X_Mismatch) "__init__" = some (some (.ref I_Mismatch))) (t1_Mismatch : PySem.W.typeIn K (.ref I_Mismatch) = some (.type "function"))
    (l1_Mismatch : K.lookup I_Mismatch = some ⟨ioc_Mismatch, iod_Mismatch, .func (PySem.W.fnOf "__init__" "Mismatch.__init__" (xA "row_id" ⟨6, 17, 6, 21⟩ ⟨6, 23, 6, 29⟩) (xB "row_id" ⟨7, 8, 7, 12⟩ ⟨7, 8, 7, 19⟩ ⟨7, 22, 7, 28⟩ ⟨7, 8, 7, 28⟩) (xS "row_id") .none .none idc_Mismatch ipm_Mismatch ian_Mismatch icd_Mismatch ict_Mismatch), isl_Mismatch⟩) (c1_Mismatch : PySem.W.codeIn K icd_Mismatch "Mismatch.__init__" = true)
    (kC_Mismatch : PySem.W.keepIn K (.ref X_Mismatch) = true) (eC_Mismatch : PySem.W.subIn K (.ref X_Mismatch) (.type "BaseException") = some true) (tC_Mismatch : PySem.W.typeIn K (.ref X_Mismatch) = some (.type "type")) (hC_Mismatch : PySem.W.hasDictIn K X_Mismatch = true) (iC_Mismatch : PySem.W.isClsIn K X_Mismatch = true) (sC_Mismatch : PySem.W.subIn K (.ref X_Mismatch) (.ref X_Mismatch) = some true)
    (n_dict : PySem.W.nsIn K mainGlobals "dict" = some none)
    (n_int : PySem.W.nsIn K mainGlobals "int" = some none)
    (n_isinstance : PySem.W.nsIn K mainGlobals "isinstance" = some none)
    (n_len : PySem.W.nsIn K mainGlobals "len" = some none)
    (n_list : PySem.W.nsIn K mainGlobals "list" = some none)
    (n_max : PySem.W.nsIn K mainGlobals "max" = some none)
    (n_min : PySem.W.nsIn K mainGlobals "min" = some none)
    (n_range : PySem.W.nsIn K mainGlobals "range" = some none)
    (n_repr : PySem.W.nsIn K mainGlobals "repr" = some none)
    (n_sorted : PySem.W.nsIn K mainGlobals "sorted" = some none)
    (n_tuple : PySem.W.nsIn K mainGlobals "tuple" = some none)
    : ∃ fd : FuncData, (∀ (s : Shared) (v : Value), BindsTo s fd ⟨[v], []⟩ [("script", v)]) ∧ ∀ base : Heap, K.In base → base.Ns mainGlobals mg → FnD l.prog w K mg base 11 fa fd ["script"] m_law := by
  have e := hfa.symm.trans (PySem.W.mg_of X G a_law)
  cases e
  let T : Txt K mg := { a_copy_of := p_copy_of, f_copy_of := _, F_copy_of := fun_mk (st := s_copy_of) l_copy_of c_copy_of k_copy_of, b_copy_of := (fun_mk (st := s_copy_of) l_copy_of c_copy_of k_copy_of).binds (ps := ["delivered"]) (fun _ _ _ _ _ _ us hl => (match us, hl with | [_], _ => rfl)), g_copy_of := PySem.W.mg_of X G a_copy_of, a_set_row := p_set_row, f_set_row := _, F_set_row := fun_mk (st := s_set_row) l_set_row c_set_row k_set_row, b_set_row := (fun_mk (st := s_set_row) l_set_row c_set_row k_set_row).binds (ps := ["rows", "row_id", "delivered"]) (fun _ _ _ _ _ _ us hl => (match us, hl with | [_, _, _], _ => rfl)), g_set_row := PySem.W.mg_of X G a_set_row, a_apply_changes := p_apply_changes, f_apply_changes := _, F_apply_changes := fun_mk (st := s_apply_changes) l_apply_changes c_apply_changes k_apply_changes, b_apply_changes := (fun_mk (st := s_apply_changes) l_apply_changes c_apply_changes k_apply_changes).binds (ps := ["rows", "changes"]) (fun _ _ _ _ _ _ us hl => (match us, hl with | [_, _], _ => rfl)), g_apply_changes := PySem.W.mg_of X G a_apply_changes, a_correction_to := p_correction_to, f_correction_to := _, F_correction_to := fun_mk (st := s_correction_to) l_correction_to c_correction_to k_correction_to, b_correction_to := (fun_mk (st := s_correction_to) l_correction_to c_correction_to k_correction_to).binds (ps := ["row_id", "delivered"]) (fun _ _ _ _ _ _ us hl => (match us, hl with | [_, _], _ => rfl)), g_correction_to := PySem.W.mg_of X G a_correction_to, a_corrections_of := p_corrections_of, f_corrections_of := _, F_corrections_of := fun_mk (st := s_corrections_of) l_corrections_of c_corrections_of k_corrections_of, b_corrections_of := (fun_mk (st := s_corrections_of) l_corrections_of c_corrections_of k_corrections_of).binds (ps := ["changes"]) (fun _ _ _ _ _ _ us hl => (match us, hl with | [_], _ => rfl)), g_corrections_of := PySem.W.mg_of X G a_corrections_of, a_corrected_id := p_corrected_id, f_corrected_id := _, F_corrected_id := fun_mk (st := s_corrected_id) l_corrected_id c_corrected_id k_corrected_id, b_corrected_id := (fun_mk (st := s_corrected_id) l_corrected_id c_corrected_id k_corrected_id).binds (ps := ["correction"]) (fun _ _ _ _ _ _ us hl => (match us, hl with | [_], _ => rfl)), g_corrected_id := PySem.W.mg_of X G a_corrected_id, a_apply_corrections := p_apply_corrections, f_apply_corrections := _, F_apply_corrections := fun_mk (st := s_apply_corrections) l_apply_corrections c_apply_corrections k_apply_corrections, b_apply_corrections := (fun_mk (st := s_apply_corrections) l_apply_corrections c_apply_corrections k_apply_corrections).binds (ps := ["rows", "corrections"]) (fun _ _ _ _ _ _ us hl => (match us, hl with | [_, _], _ => rfl)), g_apply_corrections := PySem.W.mg_of X G a_apply_corrections, a__law_tape := p__law_tape, f__law_tape := _, F__law_tape := fun_mk (st := s__law_tape) l__law_tape c__law_tape k__law_tape, b__law_tape := (fun_mk (st := s__law_tape) l__law_tape c__law_tape k__law_tape).binds (ps := ["script", "start"]) (fun _ _ _ _ _ _ us hl => (match us, hl with | [_, _], _ => rfl)), g__law_tape := PySem.W.mg_of X G a__law_tape, a__law_pick := p__law_pick, f__law_pick := _, F__law_pick := fun_mk (st := s__law_pick) l__law_pick c__law_pick k__law_pick, b__law_pick := (fun_mk (st := s__law_pick) l__law_pick c__law_pick k__law_pick).binds (ps := ["tape", "size"]) (fun _ _ _ _ _ _ us hl => (match us, hl with | [_, _], _ => rfl)), g__law_pick := PySem.W.mg_of X G a__law_pick, a__law_one_of := p__law_one_of, f__law_one_of := _, F__law_one_of := fun_mk (st := s__law_one_of) l__law_one_of c__law_one_of k__law_one_of, b__law_one_of := (fun_mk (st := s__law_one_of) l__law_one_of c__law_one_of k__law_one_of).binds (ps := ["tape", "items"]) (fun _ _ _ _ _ _ us hl => (match us, hl with | [_, _], _ => rfl)), g__law_one_of := PySem.W.mg_of X G a__law_one_of, a__law_value := p__law_value, f__law_value := _, F__law_value := fun_mk (st := s__law_value) l__law_value c__law_value k__law_value, b__law_value := (fun_mk (st := s__law_value) l__law_value c__law_value k__law_value).binds (ps := ["tape"]) (fun _ _ _ _ _ _ us hl => (match us, hl with | [_], _ => rfl)), g__law_value := PySem.W.mg_of X G a__law_value, a__law_values := p__law_values, f__law_values := _, F__law_values := fun_mk (st := s__law_values) l__law_values c__law_values k__law_values, b__law_values := (fun_mk (st := s__law_values) l__law_values c__law_values k__law_values).binds (ps := ["tape", "width"]) (fun _ _ _ _ _ _ us hl => (match us, hl with | [_, _], _ => rfl)), g__law_values := PySem.W.mg_of X G a__law_values, a__law_test := p__law_test, f__law_test := _, F__law_test := fun_mk (st := s__law_test) l__law_test c__law_test k__law_test, b__law_test := (fun_mk (st := s__law_test) l__law_test c__law_test k__law_test).binds (ps := ["tape", "width"]) (fun _ _ _ _ _ _ us hl => (match us, hl with | [_, _], _ => rfl)), g__law_test := PySem.W.mg_of X G a__law_test, a__law_condition := p__law_condition, f__law_condition := _, F__law_condition := fun_mk (st := s__law_condition) l__law_condition c__law_condition k__law_condition, b__law_condition := (fun_mk (st := s__law_condition) l__law_condition c__law_condition k__law_condition).binds (ps := ["tape", "width", "depth"]) (fun _ _ _ _ _ _ us hl => (match us, hl with | [_, _, _], _ => rfl)), g__law_condition := PySem.W.mg_of X G a__law_condition, a__law_view := p__law_view, f__law_view := _, F__law_view := fun_mk (st := s__law_view) l__law_view c__law_view k__law_view, b__law_view := (fun_mk (st := s__law_view) l__law_view c__law_view k__law_view).binds (ps := ["tape", "width"]) (fun _ _ _ _ _ _ us hl => (match us, hl with | [_, _], _ => rfl)), g__law_view := PySem.W.mg_of X G a__law_view, a__law_key := p__law_key, f__law_key := _, F__law_key := fun_mk (st := s__law_key) l__law_key c__law_key k__law_key, b__law_key := (fun_mk (st := s__law_key) l__law_key c__law_key k__law_key).binds (ps := ["view", "number", "values"]) (fun _ _ _ _ _ _ us hl => (match us, hl with | [_, _, _], _ => rfl)), g__law_key := PySem.W.mg_of X G a__law_key, a__law_row := p__law_row, f__law_row := _, F__law_row := fun_mk (st := s__law_row) l__law_row c__law_row k__law_row, b__law_row := (fun_mk (st := s__law_row) l__law_row c__law_row k__law_row).binds (ps := ["tape", "view", "row_id", "width"]) (fun _ _ _ _ _ _ us hl => (match us, hl with | [_, _, _, _], _ => rfl)), g__law_row := PySem.W.mg_of X G a__law_row, a__law_set := p__law_set, f__law_set := _, F__law_set := fun_mk (st := s__law_set) l__law_set c__law_set k__law_set, b__law_set := (fun_mk (st := s__law_set) l__law_set c__law_set k__law_set).binds (ps := ["tape", "view", "width", "firsts"]) (fun _ _ _ _ _ _ us hl => (match us, hl with | [_, _, _, _], _ => rfl)), g__law_set := PySem.W.mg_of X G a__law_set, a__law_same := p__law_same, f__law_same := _, F__law_same := fun_mk (st := s__law_same) l__law_same c__law_same k__law_same, b__law_same := (fun_mk (st := s__law_same) l__law_same c__law_same k__law_same).binds (ps := ["found", "expected"]) (fun _ _ _ _ _ _ us hl => (match us, hl with | [_, _], _ => rfl)), g__law_same := PySem.W.mg_of X G a__law_same, a__law_applied := p__law_applied, f__law_applied := _, F__law_applied := fun_mk (st := s__law_applied) l__law_applied c__law_applied k__law_applied, b__law_applied := (fun_mk (st := s__law_applied) l__law_applied c__law_applied k__law_applied).binds (ps := ["rows", "changes"]) (fun _ _ _ _ _ _ us hl => (match us, hl with | [_, _], _ => rfl)), g__law_applied := PySem.W.mg_of X G a__law_applied, a__law_told := p__law_told, f__law_told := _, F__law_told := fun_mk (st := s__law_told) l__law_told c__law_told k__law_told, b__law_told := (fun_mk (st := s__law_told) l__law_told c__law_told k__law_told).binds (ps := ["rows", "changes"]) (fun _ _ _ _ _ _ us hl => (match us, hl with | [_, _], _ => rfl)), g__law_told := PySem.W.mg_of X G a__law_told, a__law_other_right := p__law_other_right, f__law_other_right := _, F__law_other_right := fun_mk (st := s__law_other_right) l__law_other_right c__law_other_right k__law_other_right, b__law_other_right := (fun_mk (st := s__law_other_right) l__law_other_right c__law_other_right k__law_other_right).binds (ps := ["tape", "view", "width", "rows", "changes"]) (fun _ _ _ _ _ _ us hl => (match us, hl with | [_, _, _, _, _], _ => rfl)), g__law_other_right := PySem.W.mg_of X G a__law_other_right, a__law_corrections := p__law_corrections, f__law_corrections := _, F__law_corrections := fun_mk (st := s__law_corrections) l__law_corrections c__law_corrections k__law_corrections, b__law_corrections := (fun_mk (st := s__law_corrections) l__law_corrections c__law_corrections k__law_corrections).binds (ps := ["changes"]) (fun _ _ _ _ _ _ us hl => (match us, hl with | [_], _ => rfl)), g__law_corrections := PySem.W.mg_of X G a__law_corrections, a_law := fa, f_law := _, F_law := fun_mk (st := s_law) l_law c_law k_law, b_law := (fun_mk (st := s_law) l_law c_law k_law).binds (ps := ["script"]) (fun _ _ _ _ _ _ us hl => (match us, hl with | [_], _ => rfl)), g_law := PySem.W.mg_of X G a_law, X_Mismatch := X_Mismatch, I_Mismatch := I_Mismatch, E_Mismatch := { nf := by decide, nd := by decide, bd := fun _ _ _ _ _ _ _ _ _ _ _ _ _ _ => rfl, aC := aX_Mismatch, cls := ⟨_, _, _, _, _, _, _, _, _, _, _, _, _, _, _, xL_Mismatch, rfl⟩, sa := sa_Mismatch, ga := ga_Mismatch, gg := gg_Mismatch, noN := nb_Mismatch, iC := a1_Mismatch, tC := t1_Mismatch, kC := kC_Mismatch, exC := eC_Mismatch, tyC := tC_Mismatch, hdC := hC_Mismatch, te := exm_self eC_Mismatch iC_Mismatch tC_Mismatch sC_Mismatch, fn := ⟨_, _, _, _, _, _, _, _, _, _, _, _, _, _, l1_Mismatch, c1_Mismatch⟩ }, ge_Mismatch := PySem.W.mg_of X G aX_Mismatch, n_dict := PySem.W.mg_none_of X G n_dict, n_int := PySem.W.mg_none_of X G n_int, n_isinstance := PySem.W.mg_none_of X G n_isinstance, n_len := PySem.W.mg_none_of X G n_len, n_list := PySem.W.mg_none_of X G n_list, n_max := PySem.W.mg_none_of X G n_max, n_min := PySem.W.mg_none_of X G n_min, n_range := PySem.W.mg_none_of X G n_range, n_repr := PySem.W.mg_none_of X G n_repr, n_sorted := PySem.W.mg_none_of X G n_sorted, n_tuple := PySem.W.mg_none_of X G n_tuple }
  exact ⟨_, fun s v => .of_eq rfl, fun base _ _ => d_law T⟩
end LW
open PySem PySem.W PyProof.Rows
set_option maxHeartbeats 0 in
theorem PySem.Challenge.cw_steadypages_k34_corrections_holds : PySem.Challenge.rw_steadypages_k34_corrections.Holds := by
  w_on; o_law; k_head; (case hw => w_witness2)
  k_fill
  refine DL.walkD (l := PySem.Challenge.rw_steadypages_k34_corrections) (n := 63) (k := 11) (x := "script") (m := LW.m_law) rfl (by decide) rfl ⟨rfl, by decide, by decide⟩ (fun w h Y => PySem.W.kIn_of Y) ?F LW.law_true
  case F =>
    intro w mg fa h KX G hmg
    refine' LW.all_mk KX G hmg ?a_copy_of ?l_copy_of ?c_copy_of ?k_copy_of ?a_set_row ?l_set_row ?c_set_row ?k_set_row ?a_apply_changes ?l_apply_changes ?c_apply_changes ?k_apply_changes ?a_correction_to ?l_correction_to ?c_correction_to ?k_correction_to ?a_corrections_of ?l_corrections_of ?c_corrections_of ?k_corrections_of ?a_corrected_id ?l_corrected_id ?c_corrected_id ?k_corrected_id ?a_apply_corrections ?l_apply_corrections ?c_apply_corrections ?k_apply_corrections ?a__law_tape ?l__law_tape ?c__law_tape ?k__law_tape ?a__law_pick ?l__law_pick ?c__law_pick ?k__law_pick ?a__law_one_of ?l__law_one_of ?c__law_one_of ?k__law_one_of ?a__law_value ?l__law_value ?c__law_value ?k__law_value ?a__law_values ?l__law_values ?c__law_values ?k__law_values ?a__law_test ?l__law_test ?c__law_test ?k__law_test ?a__law_condition ?l__law_condition ?c__law_condition ?k__law_condition ?a__law_view ?l__law_view ?c__law_view ?k__law_view ?a__law_key ?l__law_key ?c__law_key ?k__law_key ?a__law_row ?l__law_row ?c__law_row ?k__law_row ?a__law_set ?l__law_set ?c__law_set ?k__law_set ?a__law_same ?l__law_same ?c__law_same ?k__law_same ?a__law_applied ?l__law_applied ?c__law_applied ?k__law_applied ?a__law_told ?l__law_told ?c__law_told ?k__law_told ?a__law_other_right ?l__law_other_right ?c__law_other_right ?k__law_other_right ?a__law_corrections ?l__law_corrections ?c__law_corrections ?k__law_corrections ?a_law ?l_law ?c_law ?k_law ?aX_Mismatch ?xL_Mismatch ?sa_Mismatch ?ga_Mismatch ?gg_Mismatch ?nb_Mismatch ?a1_Mismatch ?t1_Mismatch ?l1_Mismatch ?c1_Mismatch ?kC_Mismatch ?eC_Mismatch ?tC_Mismatch ?hC_Mismatch ?iC_Mismatch ?sC_Mismatch ?n_dict ?n_int ?n_isinstance ?n_len ?n_list ?n_max ?n_min ?n_range ?n_repr ?n_sorted ?n_tuple
    (case a_copy_of => k_is); (case l_copy_of => k_is); (case c_copy_of => k_is); (case k_copy_of => k_is); (case a_set_row => k_is); (case l_set_row => k_is); (case c_set_row => k_is); (case k_set_row => k_is); (case a_apply_changes => k_is); (case l_apply_changes => k_is); (case c_apply_changes => k_is); (case k_apply_changes => k_is); (case a_correction_to => k_is); (case l_correction_to => k_is); (case c_correction_to => k_is); (case k_correction_to => k_is); (case a_corrections_of => k_is); (case l_corrections_of => k_is); (case c_corrections_of => k_is); (case k_corrections_of => k_is); (case a_corrected_id => k_is); (case l_corrected_id => k_is); (case c_corrected_id => k_is); (case k_corrected_id => k_is); (case a_apply_corrections => k_is); (case l_apply_corrections => k_is); (case c_apply_corrections => k_is); (case k_apply_corrections => k_is); (case a__law_tape => k_is); (case l__law_tape => k_is); (case c__law_tape => k_is); (case k__law_tape => k_is); (case a__law_pick => k_is); (case l__law_pick => k_is); (case c__law_pick => k_is); (case k__law_pick => k_is); (case a__law_one_of => k_is); (case l__law_one_of => k_is); (case c__law_one_of => k_is); (case k__law_one_of => k_is); (case a__law_value => k_is); (case l__law_value => k_is); (case c__law_value => k_is); (case k__law_value => k_is); (case a__law_values => k_is); (case l__law_values => k_is); (case c__law_values => k_is); (case k__law_values => k_is); (case a__law_test => k_is); (case l__law_test => k_is); (case c__law_test => k_is); (case k__law_test => k_is); (case a__law_condition => k_is); (case l__law_condition => k_is); (case c__law_condition => k_is); (case k__law_condition => k_is); (case a__law_view => k_is); (case l__law_view => k_is); (case c__law_view => k_is); (case k__law_view => k_is); (case a__law_key => k_is); (case l__law_key => k_is); (case c__law_key => k_is); (case k__law_key => k_is); (case a__law_row => k_is); (case l__law_row => k_is); (case c__law_row => k_is); (case k__law_row => k_is); (case a__law_set => k_is); (case l__law_set => k_is); (case c__law_set => k_is); (case k__law_set => k_is); (case a__law_same => k_is); (case l__law_same => k_is); (case c__law_same => k_is); (case k__law_same => k_is); (case a__law_applied => k_is); (case l__law_applied => k_is); (case c__law_applied => k_is); (case k__law_applied => k_is); (case a__law_told => k_is); (case l__law_told => k_is); (case c__law_told => k_is); (case k__law_told => k_is); (case a__law_other_right => k_is); (case l__law_other_right => k_is); (case c__law_other_right => k_is); (case k__law_other_right => k_is); (case a__law_corrections => k_is); (case l__law_corrections => k_is); (case c__law_corrections => k_is); (case k__law_corrections => k_is); (case a_law => k_is); (case l_law => k_is); (case c_law => k_is); (case k_law => k_is); (case aX_Mismatch => k_is); (case xL_Mismatch => k_is); (case sa_Mismatch => k_is); (case ga_Mismatch => k_is); (case gg_Mismatch => k_is); (case nb_Mismatch => k_is); (case a1_Mismatch => k_is); (case t1_Mismatch => k_is); (case l1_Mismatch => k_is); (case c1_Mismatch => k_is); (case kC_Mismatch => k_is); (case eC_Mismatch => k_is); (case tC_Mismatch => k_is); (case hC_Mismatch => k_is); (case iC_Mismatch => k_is); (case sC_Mismatch => first | rfl | k_is); (case n_dict => k_is); (case n_int => k_is); (case n_isinstance => k_is); (case n_len => k_is); (case n_list => k_is); (case n_max => k_is); (case n_min => k_is); (case n_range => k_is); (case n_repr => k_is); (case n_sorted => k_is); (case n_tuple => k_is)
