import PyProof.Rows.All
import Wide.All
import OpenK.AllK
import Wide.FinOn
import HandS.ForMost
import HandS.IsInst
import HandS.Wide
import HandS.TupAny
import HandS.TupMul
import HandS.Style
import HandS.Flow
import HandS.Conv
import HandS.EndBits
import KE.IntBitsLaws
import KE.DataFind
import KE.LtSeq
import HandS.ForExc
import HandS.ExcOwn
import HandS.Zip
import HandS.Star
import HandS.DictComp
import KE.GoesEnum
import KE.GoesMore
import KE.LtData
import HandS.SetBool
import HandS.SetFor
import HandS.Strs
import PySem.Challenge.RW_steadypages_k01_values_columns_and_rows
set_option Elab.async false
set_option linter.all false
set_option maxRecDepth 100000
set_option maxHeartbeats 4000000
/-! New tuples whose object is known: it has no dict. -/
namespace DL
open PySem PySem.Spec PyProof.Rows L2
/-- what a new tuple brings -/
abbrev Fz (Q : VK) (H : Hp) (xs : List V) : Prop := ∀ (p : Addr) (o : Obj), H p = none → o.dict = none → Q (.ref p) (upd H p (.frz o (.tup xs)))
section
variable {X : Cx}
theorem laidF {pins : List (Addr × Obj)} {σ : L2.St} {H : Hp} {s : Shared} {Q : VK} {xs : List V} {us : List Value} {t' : Nat} (I : Inv X pins σ H s) (r : Vals xs us) (z : xs.length ≤ sizeLine) (q : Fz Q H xs) :
    EP X pins σ Q (.ref s.heap.objs.size) { s with heap := s.heap.push { cls := .type "tuple", data := .seq us.toArray }, toks := t' } :=
  ⟨.ref s.heap.objs.size, _, I.laid (t' := t') (o := .frz { cls := .type "tuple", data := .seq us.toArray } (.tup xs)) (fun _ _ e => Heap.get?_push_of_some _ e) (Nat.le_refl _) ⟨Heap.get?_push_size _ rfl, z, us, r, IsTup.new _ _⟩, rfl, q _ _ (I.hok.fresh (Nat.le_refl _)) rfl⟩
theorem pe_tupF {es : List Expr} {t : TA} {x1 : Nat} {pos : Pos} (h : PA X es t) : PE X (.Tuple es x1 pos) (fun σ H Q => t σ H fun xs H1 => xs.length ≤ sizeLine ∧ Fz Q H1 xs) :=
  ⟨fun pins s σ H Q I hq => wpAny_Tuple_spliced (thn (h.run pos pins s σ H _ I hq) fun us s1 ⟨xs, H1, I1, r, z, q⟩ => ⟨by rw [← r.length]; exact z, laidF (t' := s1.toks) I1 r z q⟩)⟩
theorem call_tupF : CallR X (.type "tuple") (fun xs H Q => ∃ p ys, xs = [.ref p] ∧ ((SqL X.K H p ys ∧ Fz Q H ys) ∨ (SqT X.K H p ys ∧ Q (.ref p) H))) := by
  intro pins s σ H xs us Q I r h
  obtain ⟨p, ys, rfl, h⟩ := h
  obtain ⟨u, rfl, rx⟩ := vals1 r
  cases rx
  rcases h with ⟨sq, q⟩ | ⟨sq, q⟩
  · obtain ⟨its, r2, pl, hz⟩ := I.list sq
    have hlen := r2.length
    exact call_tuple_list pl.isList (fun h' kp => laidF (t' := s.toks) (I.kept (t' := s.toks) kp) r2 hz q) (by simp only [List.size_toArray] <;> omega)
  · obtain ⟨its, r2, pl, hz⟩ := I.tuple sq
    exact call_tuple_same pl ⟨.ref p, H, I, rfl, q⟩
def rCatF (K : PySem.W.Frag) : R2 := fun x y H Q => ∃ a b xs ys, x = .ref a ∧ y = .ref b ∧ SqT K H a xs ∧ SqT K H b ys ∧ xs.length + ys.length ≤ sizeLine ∧ (xs = [] → Q (.ref b) H) ∧ (xs ≠ [] → ys = [] → Q (.ref a) H) ∧ Fz Q H (xs ++ ys)
theorem op_catF : OpR X (binaryOp .Add) (rCatF X.K) := by
  intro pins s σ H x y v u Q I rx ry h
  obtain ⟨a, b, xs, ys, rfl, rfl, ha, hb, hz, q0, q1, q2⟩ := h
  cases rx
  cases ry
  obtain ⟨its, r1, p1, _⟩ := I.tuple ha
  obtain ⟨its2, r2, p2, _⟩ := I.tuple hb
  by_cases hx : xs = []
  · subst hx
    cases r1
    exact cat_tup0 p1 p2 ⟨.ref b, H, I, rfl, q0 rfl⟩
  · exact HT.cat_tup p1 p2 (fun z => hx (r1.nil_iff.mp z)) (fun z => ⟨.ref a, H, I, rfl, q1 hx (r2.nil_iff.mp z)⟩) (fun _ => laidF (t' := s.toks) I (r1.append r2) (by rw [List.length_append]; exact hz) q2) (by rw [← r1.length, ← r2.length]; exact hz)
def rSlF (K : PySem.W.Frag) : V → Option Int → Option Int → Hp → VK → Prop := fun x lo hi H Q => ∃ a xs, x = .ref a ∧ SqT K H a xs ∧ (HT.sIx xs.length 0 lo = 0 ∧ HT.sIx xs.length xs.length hi = xs.length → Q (.ref a) H) ∧ Fz Q H (cutV xs lo hi)
theorem sl_tupF : SlR X (rSlF X.K) := by
  intro pins s σ H x v vl vu lo hi sl Q I rx hs pl pu h
  obtain ⟨a, xs, rfl, hx, q1, q2⟩ := h
  cases rx
  obtain ⟨its, r, ht, hz⟩ := I.tuple hx
  have hlen : its.toArray.size = xs.length := by rw [List.size_toArray]; exact r.length.symm
  refine ⟨"tuple", _, PyProof.Rows.slot_tuple_getitem.lookup, ht.typeIs, ?_⟩
  by_cases hw : HT.sIx xs.length 0 lo = 0 ∧ HT.sIx xs.length xs.length hi = xs.length
  · exact getItem_tuple_whole ht hs pl pu (by rw [hlen]; exact hw) ⟨.ref a, H, I, rfl, q1 hw⟩
  · refine HT.getItem_tuple_cut ht hs pl pu (by rw [hlen]; exact hw) ?_ (by rw [hlen]; exact hz)
    rw [hlen]
    exact laidF (t' := s.toks) I ((r.drop (HT.sIx xs.length 0 lo)).take (HT.sIx xs.length xs.length hi - HT.sIx xs.length 0 lo)) (Nat.le_trans (cutV_length xs lo hi) hz) q2
/-- t * n -/
def rRepF (K : PySem.W.Frag) : R2 := fun x y H Q => ∃ l k xs, x = .ref l ∧ y = .int k ∧ SqT K H l xs ∧ xs ≠ [] ∧ 2 ≤ k ∧ k ≤ 1000 ∧ xs.length ≤ 1000 ∧ Fz Q H (List.replicate k.toNat xs).flatten
theorem op_repF : OpR X (binaryOp .Mult) (rRepF X.K) := by
  intro pins s σ H x y v u Q I rx ry h
  obtain ⟨l, k, xs, rfl, rfl, sq, hne, k2, k1000, len, q⟩ := h
  cases rx
  obtain ⟨t, rfl⟩ := ry
  obtain ⟨its, r, ⟨⟨cls, dd, data, sl⟩, ho, hc, n, hd⟩, _⟩ := I.tuple sq
  simp only at hc hd
  subst hc hd
  have el : its.length = xs.length := r.length.symm
  have full : its.toArray.isEmpty = false := by
    cases its with
    | nil => exact absurd (List.eq_nil_of_length_eq_zero el.symm) hne
    | cons _ _ => rfl
  have sz : its.toArray.size = xs.length := by rw [List.size_toArray, el]
  have prod : ((its.toArray.size : Nat) : Int) * k ≤ 1000 * 1000 := by
    rw [sz]
    exact Int.mul_le_mul (by omega) k1000 (by omega) (by omega)
  have few : k.toNat * xs.length ≤ 1000 * 1000 := Nat.mul_le_mul (by omega) len
  have flat : (List.replicate k.toNat its).flatten.length ≤ sizeLine := by
    rw [PyProof.Rows.lm_len_rep_flat, el, sizeLine_eq]
    omega
  have b0 : (decide (k < -(2 ^ 63)) || decide (k ≥ 2 ^ 63)) = false := by simp; omega
  have b1 : (its.toArray.isEmpty || k == 1) = false := by rw [full]; simp; omega
  have b2 : (decide (k ≤ 0) || its.toArray.isEmpty) = false := by rw [full]; simp; omega
  have b3 : Builtin.Tuple.tupleTooMany (((its.toArray.size : Nat) : Int) * k) = false := by
    unfold Builtin.Tuple.tupleTooMany
    rw [sizeLine_eq]
    exact decide_eq_false (by omega)
  have last : EP X pins σ Q (.ref s.heap.objs.size) { s with heap := s.heap.push { cls := .type "tuple", data := .seq (List.replicate k.toNat its).flatten.toArray } } :=
    laidF (t' := s.toks) I (r.rep k.toNat) (by rw [PyProof.Rows.lm_len_rep_flat, sizeLine_eq]; omega) q
  rw [← size_rep] at last
  refine wpAny_binaryOp_repeat_ref (T := "tuple") (U := "int") (by decide) ⟨_, ho, rfl⟩ (fun z => typeIs_int z k t) noFill_tuple_mul PySem.F.fills_int_mul PySem.F.slot_int_rmul repeat_tuple PySem.F.slot_int_index.lookup (call_meets PySem.F.slot_int_rmul (typeIs_int s k t) PySem.F.entry_int_rmul (PySem.F.args_int_rmul_2 _ _) (int_rmul_tuple k t l its.toArray n dd sl) ⟨ho, rfl, ⟨_, ho, rfl⟩, ?_⟩)
  exact call_meets PySem.F.slot_tuple_mul ⟨_, ho, rfl⟩ PySem.F.entry_tuple_mul (PySem.F.args_tuple_mul_2 _ _) (tuple_mulW l its.toArray n dd sl k t b0 b1 b2 (by omega) b3 (by rw [size_rep, List.size_toArray]; exact flat)) ⟨ho, last⟩
/-- a tuple of which it is known that it has no dict -/
def Bare (K : PySem.W.Frag) (x : V) (H : Hp) : Prop := ∃ a, x = .ref a ∧ ((∃ o xs, H a = some (.frz o (.tup xs)) ∧ o.dict = none) ∨ ∃ o, K.lookup a = some o ∧ o.cls = .type "tuple" ∧ o.dict = none)
theorem bare_is {pins : List (Addr × Obj)} {σ : L2.St} {H : Hp} {s : Shared} {x : V} {v : Value} (I : Inv X pins σ H s) (r : RelV x v) (b : Bare X.K x H) : s.TypeIs v "tuple" ∧ ∀ a, v = .ref a → ∃ ob, s.heap.get? a = some ob ∧ ob.dict = none := by
  obtain ⟨a, rfl, h⟩ := b
  cases r
  rcases h with ⟨o, xs, hx, hz⟩ | ⟨o, ho, hc, hz⟩
  · obtain ⟨e, hl, its, _, ob, e2, c, _⟩ := (show ObjOk X.prog X.w H s.heap a (.frz o (.tup xs)) from I.hok a _ hx)
    exact ⟨⟨ob, e2, c⟩, fun b hb => by cases hb; exact ⟨o, e, hz⟩⟩
  · have e := I.kIn a o ho
    exact ⟨⟨o, e, hc⟩, fun b hb => by cases hb; exact ⟨o, e, hz⟩⟩
theorem pe_tm {o e : Expr} {es : List Expr} {to : TE} {t : TA} {name : Str} {apos cpos : Pos} {id : String} {r : V → List V → Hp → VK → Prop} (pa : PlainAttrs "tuple") (slot : Slot "tuple" name id) (hty : typeOf (.builtin id) = pure (.type "method_descriptor")) (hm : MtR X id r) (ho : PE X o to) (ha : PA X (e :: es) t)
    (hbase : attributeBase o name X.env (eval o X.env) = eval o X.env := by rfl)
    (hfew : ((backTo cpos (starEach (e :: es) X.env)).all (fun x => !x.1) && (backToKw cpos (keywordEach [] X.env)).all (fun x => x.1.isSome) && decide ((e :: es).length + ([] : List Keyword).length + (if ([] : List Keyword).isEmpty then 0 else 1) < 30)) = true := by rfl)
    (hline : (apos.endLine == cpos.line) = true := by rfl) (hs : starEach (e :: es) X.env = (false, eval e X.env) :: starEach es X.env := by rfl) (hplain : (backTo cpos (starEach es X.env)).any (·.1) = false := by rfl) :
    PE X (.Call (.Attribute o name apos) (e :: es) [] cpos) (fun σ H Q => to σ H fun x H1 => Bare X.K x H1 ∧ t σ H1 fun xs H2 => r x xs H2 Q) := by
  refine ⟨fun pins s σ H Q I h => wpAny_Call_method_late hbase hfew hline rfl (thn (ho.run pins s σ H _ I h) fun v s1 ⟨x, H1, I1, r1, ty, q1⟩ => ?_)⟩
  have hA := ha.run cpos pins s1 σ H1 _ I1 q1
  refine ⟨"tuple", id, pa, slot, hty, (bare_is I1 r1 ty).1, (bare_is I1 r1 ty).2, ?_⟩
  rw [hs] at hA ⊢
  exact Calls.callWith_builtin (by show (false || (backTo cpos (starEach es X.env)).any (·.1)) = false; rw [hplain] <;> rfl) (Calls.evalArgs_plain (thn hA fun us s2 ⟨vs, H2, I2, r2, q2⟩ => hm pins s2 σ H2 x vs v us Q I2 r1 r2 q2))
end
end DL
/-! Data level: values as trees, a store for what may be written, and judgements that say "this piece of text computes this function". -/
namespace DL
open PySem PySem.Spec PyProof.Rows L2

inductive D where
  | non | bl (b : Bool) | int (i : Int) | str (x : Str)
  | tup (ds : List D) | lst (ds : List D) | dct (kvs : List (Key × D))
  | scr (ns : List Int) | ref (n : Nat)

inductive Ob where
  | dead
  | dct (kvs : List (Key × D))
  | lst (ds : List D)
  | ins (c : Str) (fs : List (Str × D))
  | ldc (kvs : List (Key × D))
/-- where the store's objects stand; what no value may lean on -/
structure Rf where
  adr : List Addr
  av : Addr → Prop
  lk : Addr → Prop
abbrev Store := List Ob
abbrev Lo := List (Option D)

variable {K : PySem.W.Frag}

mutual
inductive Rep (K : PySem.W.Frag) (r : Rf) (H : Hp) : V → D → Prop
  | non : Rep K r H .non .non
  | bl (b : Bool) : Rep K r H (.bl b) (.bl b)
  | int (i : Int) : Rep K r H (.int i) (.int i)
  | str (x : Str) : Rep K r H (.str x) (.str x)
  | tup {a : Addr} {xs : List V} {ds : List D} {o : Obj} : H a = some (.frz o (.tup xs)) → o.dict = none → ¬ r.av a → RepL K r H xs ds → Rep K r H (.ref a) (.tup ds)
  | tupK {a : Addr} {o : Obj} {its : Array Value} {n : Nat} {xs : List V} {ds : List D} : K.lookup a = some o → o.cls = .type "tuple" → o.dict = none → o.data = .seq its n → its.size ≤ sizeLine → Vals xs its.toList → RepL K r H xs ds → Rep K r H (.ref a) (.tup ds)
  | lst {a : Addr} {xs : List V} {ds : List D} : H a = some (.lst xs) → ¬ r.av a → RepL K r H xs ds → Rep K r H (.ref a) (.lst ds)
  | dct {a : Addr} {o : Obj} {xs : List (Key × V)} {kvs : List (Key × D)} : H a = some (.frz o (.dK xs)) → ¬ r.av a → RepK K r H xs kvs → Rep K r H (.ref a) (.dct kvs)
  | scr {a : Addr} {ns : List Int} {o : Obj} : H a = some (.frz o (.lst (ns.map V.int))) → ¬ r.av a → Rep K r H (.ref a) (.scr ns)
  | scrK {a : Addr} {ns : List Int} {o : Obj} {its : Array Value} {n : Nat} : K.lookup a = some o → o.cls = .type "list" → o.dict = none → o.data = .seq its n → its.size ≤ sizeLine → Vals (ns.map V.int) its.toList → Rep K r H (.ref a) (.scr ns)
  | ref {n : Nat} {a : Addr} : r.adr[n]? = some a → Rep K r H (.ref a) (.ref n)
inductive RepL (K : PySem.W.Frag) (r : Rf) (H : Hp) : List V → List D → Prop
  | nil : RepL K r H [] []
  | cons {v : V} {vs : List V} {d : D} {ds : List D} : Rep K r H v d → RepL K r H vs ds → RepL K r H (v :: vs) (d :: ds)
inductive RepK (K : PySem.W.Frag) (r : Rf) (H : Hp) : List (Key × V) → List (Key × D) → Prop
  | nil : RepK K r H [] []
  | cons {k : Key} {v : V} {vs : List (Key × V)} {d : D} {ds : List (Key × D)} : Rep K r H v d → RepK K r H vs ds → RepK K r H ((k, v) :: vs) ((k, d) :: ds)
end

/-- what was known stays known -/
structure Ex (r : Rf) (H : Hp) (r' : Rf) (H' : Hp) : Prop where
  pre : ∃ l, r'.adr = r.adr ++ l
  keep : ∀ p o, H p = some o → ¬ r.av p → H' p = some o
  new : ∀ p, r'.av p → ¬ r.av p → H p = none
/-- .. and nothing is done to what is hidden -/
structure HidL (r : Rf) (H : Hp) (r' : Rf) (H' : Hp) : Prop where
  hid : ∀ p, r.av p → p ∉ r.adr → H' p = H p ∧ r'.av p ∧ p ∉ r'.adr
  lke : ∀ p, r'.lk p ↔ r.lk p
  lks : ∀ p, r.lk p → H' p = H p
structure Ext (r : Rf) (H : Hp) (r' : Rf) (H' : Hp) : Prop extends Ex r H r' H' where
  hd : HidL r H r' H'
theorem Ext.hid {r r' : Rf} {H H' : Hp} (e : Ext r H r' H') : ∀ p, r.av p → p ∉ r.adr → H' p = H p ∧ r'.av p ∧ p ∉ r'.adr := e.hd.hid
theorem HidL.refl (r : Rf) (H : Hp) : HidL r H r H := ⟨fun _ a b => ⟨rfl, a, b⟩, fun _ => Iff.rfl, fun _ _ => rfl⟩
theorem HidL.trans {r r1 r2 : Rf} {H H1 H2 : Hp} (a : HidL r H r1 H1) (b : HidL r1 H1 r2 H2) : HidL r H r2 H2 :=
  ⟨fun p x y => let ⟨h1, h2, h3⟩ := a.hid p x y; let ⟨h4, h5, h6⟩ := b.hid p h2 h3; ⟨h4.trans h1, h5, h6⟩, fun p => (b.lke p).trans (a.lke p), fun p x => (b.lks p ((a.lke p).mpr x)).trans (a.lks p x)⟩

theorem Ext.refl (r : Rf) (H : Hp) : Ext r H r H := ⟨⟨⟨[], by simp⟩, fun _ _ h _ => h, fun _ h n => absurd h n⟩, .refl r H⟩
theorem Ex.out {r r' : Rf} {H H' : Hp} (e : Ex r H r' H') {p : Addr} {o : HO} (h : H p = some o) (n : ¬ r.av p) : ¬ r'.av p := fun z => by
  rw [e.new p z n] at h; cases h
theorem Ex.get {r r' : Rf} {H H' : Hp} (e : Ex r H r' H') {n : Nat} {a : Addr} (h : r.adr[n]? = some a) : r'.adr[n]? = some a := by
  obtain ⟨l, hl⟩ := e.pre
  obtain ⟨q, _⟩ := List.getElem?_eq_some_iff.mp h
  rw [hl, List.getElem?_append_left q]; exact h
theorem Ex.trans {r r1 r2 : Rf} {H H1 H2 : Hp} (a : Ex r H r1 H1) (b : Ex r1 H1 r2 H2) : Ex r H r2 H2 := by
  refine ⟨?_, fun p o h n => b.keep p o (a.keep p o h n) (a.out h n), fun p h n => ?_⟩
  · obtain ⟨l, hl⟩ := a.pre
    obtain ⟨m, hm⟩ := b.pre
    exact ⟨l ++ m, by rw [hm, hl, List.append_assoc]⟩
  · by_cases q : r1.av p
    · exact a.new p q n
    · cases z : H p with
      | none => rfl
      | some o =>
        have := b.new p h q
        rw [a.keep p o z n] at this
        cases this
theorem Ext.trans {r r1 r2 : Rf} {H H1 H2 : Hp} (a : Ext r H r1 H1) (b : Ext r1 H1 r2 H2) : Ext r H r2 H2 :=
  ⟨a.toEx.trans b.toEx, a.hd.trans b.hd⟩
theorem Ext.same (r : Rf) {H H' : Hp} (s : Same H H') (there : ∀ p, r.av p → ∃ o, H p = some o) (lkd : ∀ p, r.lk p → ∃ o u, H p = some (.frz o u)) : Ext r H r H' :=
  ⟨⟨⟨[], by simp⟩, fun p o h _ => s p o h, fun p h n => absurd h n⟩, fun p a b => ⟨by obtain ⟨o, h⟩ := there p a; rw [h]; exact s p o h, a, b⟩, fun _ => Iff.rfl, fun p a => by obtain ⟨o, u, h⟩ := lkd p a; rw [h]; exact s p _ h⟩
theorem Ex.same (r : Rf) {H H' : Hp} (s : Same H H') : Ex r H r H' := ⟨⟨[], by simp⟩, fun p o h _ => s p o h, fun p h n => absurd h n⟩
theorem same_alloc {H : Hp} {p : Addr} {o : HO} (h : H p = none) : Same H (upd H p o) := fun b x e => by
  rw [upd_ne (ne_of_none e h)]; exact e

mutual
theorem Rep.ex {r r' : Rf} {H H' : Hp} (e : Ex r H r' H') : ∀ {v : V} {d : D}, Rep K r H v d → Rep K r' H' v d
  | _, _, .non => .non
  | _, _, .bl b => .bl b
  | _, _, .int i => .int i
  | _, _, .str x => .str x
  | _, _, .tup h z n l => .tup (e.keep _ _ h n) z (e.out h n) (RepL.ex e l)
  | _, _, .tupK a b z c d f l => .tupK a b z c d f (RepL.ex e l)
  | _, _, .lst h n l => .lst (e.keep _ _ h n) (e.out h n) (RepL.ex e l)
  | _, _, .dct h n l => .dct (e.keep _ _ h n) (e.out h n) (RepK.ex e l)
  | _, _, .scr h n => .scr (e.keep _ _ h n) (e.out h n)
  | _, _, .scrK a b c d f g => .scrK a b c d f g
  | _, _, .ref h => .ref (e.get h)
theorem RepL.ex {r r' : Rf} {H H' : Hp} (e : Ex r H r' H') : ∀ {v : List V} {d : List D}, RepL K r H v d → RepL K r' H' v d
  | _, _, .nil => .nil
  | _, _, .cons a b => .cons (Rep.ex e a) (RepL.ex e b)
theorem RepK.ex {r r' : Rf} {H H' : Hp} (e : Ex r H r' H') : ∀ {v : List (Key × V)} {d : List (Key × D)}, RepK K r H v d → RepK K r' H' v d
  | _, _, .nil => .nil
  | _, _, .cons a b => .cons (Rep.ex e a) (RepK.ex e b)
end
theorem Rep.ext {r r' : Rf} {H H' : Hp} {v : V} {d : D} (h : Rep K r H v d) (e : Ext r H r' H') : Rep K r' H' v d := h.ex e.toEx
theorem RepL.ext {r r' : Rf} {H H' : Hp} {v : List V} {d : List D} (h : RepL K r H v d) (e : Ext r H r' H') : RepL K r' H' v d := h.ex e.toEx
theorem RepK.ext {r r' : Rf} {H H' : Hp} {v : List (Key × V)} {d : List (Key × D)} (h : RepK K r H v d) (e : Ext r H r' H') : RepK K r' H' v d := h.ex e.toEx
theorem RepL.len {r : Rf} {H : Hp} : ∀ {v : List V} {d : List D}, RepL K r H v d → v.length = d.length
  | _, _, .nil => rfl
  | _, _, .cons _ b => by rw [List.length_cons, List.length_cons, RepL.len b]
theorem RepL.get {r : Rf} {H : Hp} : ∀ {vs : List V} {ds : List D}, RepL K r H vs ds → ∀ {i : Nat} {d : D}, ds[i]? = some d → ∃ v, vs[i]? = some v ∧ Rep K r H v d
  | _, _, .nil, i, d, h => by simp at h
  | _, _, .cons a b, 0, d, h => by
    have e := Option.some.inj h
    subst e
    exact ⟨_, rfl, a⟩
  | _, _, .cons a b, i + 1, d, h => RepL.get b (i := i) h
theorem RepL.getV {r : Rf} {H : Hp} : ∀ {vs : List V} {ds : List D}, RepL K r H vs ds → ∀ {i : Nat} {v : V}, vs[i]? = some v → ∃ d, ds[i]? = some d ∧ Rep K r H v d
  | _, _, .nil, i, d, h => by simp at h
  | _, _, .cons a b, 0, d, h => by
    have e := Option.some.inj h
    subst e
    exact ⟨_, rfl, a⟩
  | _, _, .cons a b, i + 1, d, h => RepL.getV b (i := i) h
theorem RepL.append {r : Rf} {H : Hp} : ∀ {vs us : List V} {ds es : List D}, RepL K r H vs ds → RepL K r H us es → RepL K r H (vs ++ us) (ds ++ es)
  | _, _, _, _, .nil, q => q
  | _, _, _, _, .cons a b, q => .cons a (RepL.append b q)
theorem RepL.take {r : Rf} {H : Hp} : ∀ (n : Nat) {vs : List V} {ds : List D}, RepL K r H vs ds → RepL K r H (vs.take n) (ds.take n)
  | 0, _, _, _ => .nil
  | _ + 1, _, _, .nil => .nil
  | n + 1, _, _, .cons a b => .cons a (RepL.take n b)
theorem RepL.drop {r : Rf} {H : Hp} : ∀ (n : Nat) {vs : List V} {ds : List D}, RepL K r H vs ds → RepL K r H (vs.drop n) (ds.drop n)
  | 0, _, _, q => q
  | _ + 1, _, _, .nil => .nil
  | n + 1, _, _, .cons a b => RepL.drop n b
theorem RepL.ints {r : Rf} {H : Hp} : ∀ {vs : List V} {ns : List Int}, RepL K r H vs (ns.map D.int) → vs = ns.map V.int
  | _, [], .nil => rfl
  | _, n :: r, .cons (.int _) b => by rw [List.map_cons, RepL.ints b]
theorem RepL.ofInts {r : Rf} {H : Hp} : ∀ (ns : List Int), RepL K r H (ns.map V.int) (ns.map D.int)
  | [] => .nil
  | n :: r => .cons (.int n) (RepL.ofInts r)

/-- the store is held -/
def ObR (K : PySem.W.Frag) (r : Rf) (H : Hp) (a : Addr) : Ob → Prop
  | .dead => True
  | .dct kvs => r.av a ∧ ∃ xs, H a = some (.dK xs) ∧ RepK K r H xs kvs
  | .lst ds => r.av a ∧ ∃ xs, H a = some (.lst xs) ∧ RepL K r H xs ds
  | .ldc kvs => r.av a ∧ r.lk a ∧ ∃ o xs, H a = some (.frz o (.dK xs)) ∧ RepK K r H xs kvs
  | .ins c fs => r.av a ∧ ∃ (C dx : Addr) (vs : List (Str × V)), PySem.W.nsIn K mainGlobals c = some (some (.ref C)) ∧ H a = some (.ins C dx vs) ∧ vs.map (·.1) = fs.map (·.1) ∧ RepL K r H (vs.map (·.2)) (fs.map (·.2))
theorem ObR.ex {r r' : Rf} {H H' : Hp} (e : Ex r H r' H') {a : Addr} (k : r.av a → H' a = H a ∧ r'.av a) (kl : r.lk a → r'.lk a := by exact fun z => z) : ∀ {o : Ob}, ObR K r H a o → ObR K r' H' a o
  | .dead, _ => trivial
  | .dct _, ⟨v, xs, h, l⟩ => ⟨(k v).2, xs, (k v).1.trans h, l.ex e⟩
  | .lst _, ⟨v, xs, h, l⟩ => ⟨(k v).2, xs, (k v).1.trans h, l.ex e⟩
  | .ldc _, ⟨v, w, o, xs, h, l⟩ => ⟨(k v).2, kl w, o, xs, (k v).1.trans h, l.ex e⟩
  | .ins _ _, ⟨v, C, dx, vs, g, h, n, l⟩ => ⟨(k v).2, C, dx, vs, g, (k v).1.trans h, n, l.ex e⟩
structure Sim (K : PySem.W.Frag) (r : Rf) (H : Hp) (st : Store) : Prop where
  len : r.adr.length = st.length
  nd : r.adr.Nodup
  ob : ∀ (n : Nat) (a : Addr) (o : Ob), r.adr[n]? = some a → st[n]? = some o → ObR K r H a o
  there : ∀ p, r.av p → ∃ o, H p = some o
  old : ∀ a ∈ r.adr, ∃ o, H a = some o
  lkd : ∀ p, r.lk p → ∃ o u, H p = some (.frz o u)
theorem Sim.same {r : Rf} {H H' : Hp} {st : Store} (s : Sim K r H st) (e : Same H H') : Sim K r H' st :=
  ⟨s.len, s.nd, fun n a o h1 h2 => (s.ob n a o h1 h2).ex (Ex.same r e) (fun v => by
    obtain ⟨h, z⟩ := s.there a v
    exact ⟨by rw [z]; exact e a h z, v⟩), fun p v => let ⟨o, h⟩ := s.there p v; ⟨o, e p o h⟩, fun p v => let ⟨o, h⟩ := s.old p v; ⟨o, e p o h⟩, fun p v => let ⟨o, u, h⟩ := s.lkd p v; ⟨o, u, e p _ h⟩⟩

theorem Sim.ext {r : Rf} {H H' : Hp} {st : Store} (s : Sim K r H st) (e : Same H H') : Ext r H r H' := Ext.same r e s.there s.lkd
/-- the locals -/
structure EnvR (K : PySem.W.Frag) (r : Rf) (H : Hp) (env : Lo) (σ : L2.St) : Prop where
  len : env.length = σ.length
  at_ : ∀ (i : Nat) (d : D), env[i]? = some (some d) → ∃ v, σ[i]? = some (some v) ∧ Rep K r H v d
theorem EnvR.ext {r r' : Rf} {H H' : Hp} {env : Lo} {σ : L2.St} (h : EnvR K r H env σ) (e : Ext r H r' H') : EnvR K r' H' env σ :=
  ⟨h.len, fun i d q => let ⟨v, a, b⟩ := h.at_ i d q; ⟨v, a, b.ext e⟩⟩
theorem EnvR.set {r : Rf} {H : Hp} {env : Lo} {σ : L2.St} (h : EnvR K r H env σ) {v : V} {d : D} (q : Rep K r H v d) (i : Nat) : EnvR K r H (env.set i (some d)) (σ.set i (some v)) := by
  refine ⟨by rw [List.length_set, List.length_set]; exact h.len, fun j c e => ?_⟩
  by_cases z : i = j
  · subst z
    by_cases hi : i < env.length
    · rw [List.getElem?_set_self hi] at e
      cases e
      exact ⟨v, by rw [List.getElem?_set_self (by rw [← h.len]; exact hi)], q⟩
    · rw [List.getElem?_eq_none (by rw [List.length_set]; omega)] at e
      cases e
  · rw [List.getElem?_set_ne z] at e
    obtain ⟨u, a, b⟩ := h.at_ j c e
    exact ⟨u, by rw [List.getElem?_set_ne z]; exact a, b⟩
/-- a slot forgotten on both sides -/
theorem EnvR.wipe {r : Rf} {H : Hp} {env : Lo} {σ : L2.St} (h : EnvR K r H env σ) (i : Nat) : EnvR K r H (env.set i none) (σ.set i none) := by
  refine ⟨by rw [List.length_set, List.length_set]; exact h.len, fun j c e => ?_⟩
  by_cases z : i = j
  · subst z
    by_cases hi : i < env.length
    · rw [List.getElem?_set_self hi] at e
      cases e
    · rw [List.getElem?_eq_none (by rw [List.length_set]; omega)] at e
      cases e
  · rw [List.getElem?_set_ne z] at e
    obtain ⟨u, a, b⟩ := h.at_ j c e
    exact ⟨u, by rw [List.getElem?_set_ne z]; exact a, b⟩

/-! ### judgements -/
abbrev F := Lo → Store → Option (D × Store)
abbrev FT := Lo → Store → Option (Bool × Store)
abbrev FA := Lo → Store → Option (List D × Store)
def tD (K : PySem.W.Frag) (f : F) : TE := fun σ H Q => ∃ r env st d st', EnvR K r H env σ ∧ Sim K r H st ∧ f env st = some (d, st') ∧ ∀ v r' H', Ext r H r' H' → Sim K r' H' st' → Rep K r' H' v d → Q v H'
def tT (K : PySem.W.Frag) (f : FT) : TT := fun σ H Q => ∃ r env st b st', EnvR K r H env σ ∧ Sim K r H st ∧ f env st = some (b, st') ∧ ∀ r' H', Ext r H r' H' → Sim K r' H' st' → Q b H'
def tA (K : PySem.W.Frag) (f : FA) : TA := fun σ H Q => ∃ r env st ds st', EnvR K r H env σ ∧ Sim K r H st ∧ f env st = some (ds, st') ∧ ∀ vs r' H', Ext r H r' H' → Sim K r' H' st' → RepL K r' H' vs ds → Q vs H'
abbrev DE (X : Cx) (e : Expr) (f : F) : Prop := PE X e (tD X.K f)
abbrev DT (X : Cx) (e : Expr) (f : FT) : Prop := PT X e (tT X.K f)
abbrev DA (X : Cx) (es : List Expr) (f : FA) : Prop := PA X es (tA X.K f)

section
variable {X : Cx}
theorem weakE {e : Expr} {t t' : TE} (h : PE X e t) (i : ∀ σ H Q, t' σ H Q → t σ H Q) : PE X e t' := ⟨fun pins s σ H Q I q => h.run pins s σ H Q I (i σ H Q q)⟩
theorem weakT {e : Expr} {t t' : TT} (h : PT X e t) (i : ∀ σ H Q, t' σ H Q → t σ H Q) : PT X e t' := ⟨fun pins s σ H Q I q => h.run pins s σ H Q I (i σ H Q q)⟩
theorem weakA {e : List Expr} {t t' : TA} (h : PA X e t) (i : ∀ σ H Q, t' σ H Q → t σ H Q) : PA X e t' := ⟨fun pos pins s σ H Q I q => h.run pos pins s σ H Q I (i σ H Q q)⟩
theorem weakS {e : Stmt} {t t' : TS} (h : PS X e t) (i : ∀ D σ H, t' D σ H → t D σ H) : PS X e t' := ⟨fun pins s σ H D I q => h.run pins s σ H D I (i D σ H q)⟩
theorem weakSs {e : List Stmt} {t t' : TS} (h : PSs X e t) (i : ∀ D σ H, t' D σ H → t D σ H) : PSs X e t' := ⟨fun pins s σ H D I q => h.run pins s σ H D I (i D σ H q)⟩

/-- an object is locked for good -/
theorem pe_frz {e : Expr} {t : TE} (h : PE X e t) : PE X e (fun σ H Q => t σ H fun v H1 => ∃ d u, v = .ref d ∧ H1 d = some u ∧ Mut (some u) ∧ ∀ o, Q v (upd H1 d (.frz o u))) := by
  refine ⟨fun pins s σ H Q I hw => thn (h.run pins s σ H _ I hw) fun v s1 ⟨x, H1, I1, r, d, u, e1, hd, mu, q⟩ => ?_⟩
  obtain ⟨od, I2⟩ := I1.lock hd mu
  exact ⟨x, _, I2, r, q od⟩
/-- what a context must bear -/
structure GX (X : Cx) (k : Nat) : Prop where
  calm : X.calm = true
  nd : X.N.Nodup
  room : Room k X.A
  gd : X.A.guards = some []

/-! ### names, constants -/
def fVar (i : Nat) : F := fun env st => match env[i]? with | some (some d) => some (d, st) | _ => none
def fC (d : D) : F := fun _ st => some (d, st)
theorem de_var (i : Nat) {x : Str} {pos : Pos} (hN : X.N[i]? = some x := by rfl) (hv : Vis X.env.scope x := by first | exact Or.inl rfl | exact Or.inr (Or.inl rfl) | exact Or.inr (Or.inr rfl)) (hd : (x == ("__debug__" : Str)) = false := by decide)
    (hcd : (x == ("__classdict__" : Str)) = false := by decide) : DE X (.Name x pos) (fVar i) := weakE (pe_var hN hv hd hcd) fun σ H Q h => by
  obtain ⟨r, env, st, d, st', he, hs, hf, q⟩ := h
  unfold fVar at hf
  split at hf
  · rename_i d' hd'
    cases hf
    obtain ⟨v, a, b⟩ := he.at_ i _ hd'
    exact ⟨v, a, q v r H (.refl r H) hs b⟩
  · cases hf
theorem de_c {e : Expr} {v : V} {d : D} (h : PE X e (tC v)) (q : ∀ r H, Rep X.K r H v d) : DE X e (fC d) := weakE h fun σ H Q hh => by
  obtain ⟨r, env, st, d', st', he, hs, hf, k⟩ := hh
  cases hf
  exact k v r H (.refl r H) hs (q r H)
theorem de_int {i j pos} : DE X (.Constant (.int i) j pos) (fC (.int i)) := de_c pe_int fun _ _ => .int i
theorem de_bl {i j pos} : DE X (.Constant (.bool i) j pos) (fC (.bl i)) := de_c pe_bl fun _ _ => .bl i
theorem de_non {j pos} : DE X (.Constant .none j pos) (fC .non) := de_c pe_non fun _ _ => .non
theorem de_str {i j pos} : DE X (.Constant (.str i) j pos) (fC (.str i)) := de_c pe_str fun _ _ => .str i
theorem de_gint {x : Str} {i : Int} {t : Tok} {pos : Pos} (hg : Gl X x) (hm : X.mg x = some (.int i t)) (hd : (x == ("__debug__" : Str)) = false := by decide) : DE X (.Name x pos) (fC (.int i)) :=
  de_c (pe_glob (v := .int i) hg hm ⟨t, rfl⟩ hd) fun _ _ => .int i
theorem de_gstr {x : Str} {i : Str} {t : Tok} {pos : Pos} (hg : Gl X x) (hm : X.mg x = some (.str i t)) (hd : (x == ("__debug__" : Str)) = false := by decide) : DE X (.Name x pos) (fC (.str i)) :=
  de_c (pe_glob (v := .str i) hg hm ⟨t, rfl⟩ hd) fun _ _ => .str i

/-! ### two values -/
def OpOk (X : Cx) (f : Value → Value → Sem Value) (g : D → D → Option D) : Prop :=
  ∃ r : R2, OpR X f r ∧ ∀ (rho : Rf) (H : Hp) (x y : V) (a b d : D) (st : Store) (Q : VK), Sim X.K rho H st → Rep X.K rho H x a → Rep X.K rho H y b → g a b = some d → (∀ v H', Same H H' → Rep X.K rho H' v d → Q v H') → r x y H Q
def fOp (g : D → D → Option D) (fa fb : F) : F := fun env st => (fa env st).bind fun p => (fb env p.2).bind fun q => (g p.1 q.1).map fun d => (d, q.2)
theorem fOp_some {g : D → D → Option D} {fa fb : F} {env : Lo} {st : Store} {z : D × Store} (h : fOp g fa fb env st = some z) : ∃ x s1 y s2 d, fa env st = some (x, s1) ∧ fb env s1 = some (y, s2) ∧ g x y = some d ∧ z = (d, s2) := by
  unfold fOp at h
  obtain ⟨⟨x, s1⟩, h1, h⟩ := Option.bind_eq_some_iff.mp h
  obtain ⟨⟨y, s2⟩, h2, h⟩ := Option.bind_eq_some_iff.mp h
  obtain ⟨d, h3, h⟩ := Option.map_eq_some_iff.mp h
  exact ⟨x, s1, y, s2, d, h1, h2, h3, h.symm⟩
/-- the reading of two data expressions in a row -/
theorem two {fa fb : F} {σ : L2.St} {H : Hp} {Q : V → V → Hp → Prop} {r : Rf} {env : Lo} {st s1 s2 : Store} {x y : D} (he : EnvR K r H env σ) (hs : Sim K r H st) (h1 : fa env st = some (x, s1)) (h2 : fb env s1 = some (y, s2))
    (k : ∀ u v r' H', Ext r H r' H' → Sim K r' H' s2 → Rep K r' H' u x → Rep K r' H' v y → Q u v H') : tD K fa σ H fun u H1 => tD K fb σ H1 fun v H2 => Q u v H2 :=
  ⟨r, env, st, x, s1, he, hs, h1, fun u r1 H1 e1 q1 p1 => ⟨r1, env, s1, y, s2, he.ext e1, q1, h2, fun v r2 H2 e2 q2 p2 => k u v r2 H2 (e1.trans e2) q2 (p1.ext e2) p2⟩⟩
theorem opReads {f : Value → Value → Sem Value} {g : D → D → Option D} {r : R2} (k : ∀ (rho : Rf) (H : Hp) (x y : V) (a b d : D) (st : Store) (Q : VK), Sim K rho H st → Rep K rho H x a → Rep K rho H y b → g a b = some d → (∀ v H', Same H H' → Rep K rho H' v d → Q v H') → r x y H Q)
    {fa fb : F} (σ : L2.St) (H : Hp) (Q : VK) (h : tD K (fOp g fa fb) σ H Q) : tOp r (tD K fa) (tD K fb) σ H Q := by
  obtain ⟨rho, env, st, d, st', he, hs, hf, q⟩ := h
  obtain ⟨x, s1, y, s2, d', h1, h2, h3, e⟩ := fOp_some hf
  cases e
  exact two he hs h1 h2 fun u v r' H' e1 q1 pu pv => k r' H' u v x y d _ Q q1 pu pv h3 fun w H2 sm pw => q w r' H2 (e1.trans (q1.ext sm)) (q1.same sm) pw
theorem de_op {op : Operator} {g : D → D → Option D} {a b : Expr} {fa fb : F} {pos : Pos} (ho : OpOk X (binaryOp op) g) (ha : DE X a fa) (hb : DE X b fb) : DE X (.BinOp a op b pos) (fOp g fa fb) := by
  obtain ⟨r, hr, k⟩ := ho
  exact weakE (pe_op hr ha hb) fun σ H Q h => opReads (f := binaryOp op) k σ H Q h
theorem de_cmp {op : CmpOp} {g : D → D → Option D} {a b : Expr} {fa fb : F} {pos : Pos} (ho : OpOk X (compareOp op) g) (ha : DE X a fa) (hb : DE X b fb) (hm : behindInMarks op b = false := by with_unfolding_all rfl) : DE X (.Compare a [op] [b] pos) (fOp g fa fb) := by
  obtain ⟨r, hr, k⟩ := ho
  exact weakE (pe_cmpR hr ha hb hm) fun σ H Q h => opReads (f := compareOp op) k σ H Q h
end
end DL
namespace DL
abbrev WXd := PySem.Value → Option PySem.Addr → L2.St → L2.Hp → Prop
open PySem PySem.Spec PyProof.Rows L2
variable {K : PySem.W.Frag}

/-! ### arguments, displays -/
def aNil : FA := fun _ st => some ([], st)
def aCons (f : F) (g : FA) : FA := fun env st => (f env st).bind fun p => (g env p.2).map fun q => (p.1 :: q.1, q.2)
theorem aCons_some {f : F} {g : FA} {env : Lo} {st : Store} {z : List D × Store} (h : aCons f g env st = some z) : ∃ x s1 ys s2, f env st = some (x, s1) ∧ g env s1 = some (ys, s2) ∧ z = (x :: ys, s2) := by
  unfold aCons at h
  obtain ⟨⟨x, s1⟩, h1, h⟩ := Option.bind_eq_some_iff.mp h
  obtain ⟨⟨y, s2⟩, h2, h⟩ := Option.map_eq_some_iff.mp h
  exact ⟨x, s1, y, s2, h1, h2, h.symm⟩
section
variable {X : Cx} {W : WXd}
theorem da_nil : DA X [] aNil := weakA pa_nil fun σ H Q h => by
  obtain ⟨r, env, st, ds, st', he, hs, hf, q⟩ := h
  cases hf
  exact q [] r H (.refl r H) hs .nil
theorem da_cons {e : Expr} {es : List Expr} {f : F} {g : FA} (h : DE X e f) (t : DA X es g) (hs : starEach (e :: es) X.env = (false, eval e X.env) :: starEach es X.env := by rfl) : DA X (e :: es) (aCons f g) :=
  weakA (pa_cons h t hs) fun σ H Q hh => by
  obtain ⟨r, env, st, ds, st', he, hs, hf, q⟩ := hh
  obtain ⟨x, s1, ys, s2, h1, h2, e⟩ := aCons_some hf
  cases e
  exact ⟨r, env, st, x, s1, he, hs, h1, fun u r1 H1 e1 q1 p1 => ⟨r1, env, s1, ys, _, he.ext e1, q1, h2, fun us r2 H2 e2 q2 p2 => q (u :: us) r2 H2 (e1.trans e2) q2 (.cons (p1.ext e2) p2)⟩⟩

/-- a value made of the values of several expressions -/
def fMk (g : List D → Store → Option D) (fa : FA) : F := fun env st => (fa env st).bind fun p => (g p.1 p.2).map fun d => (d, p.2)
theorem fMk_some {g : List D → Store → Option D} {fa : FA} {env : Lo} {st : Store} {z : D × Store} (h : fMk g fa env st = some z) : ∃ xs s1 d, fa env st = some (xs, s1) ∧ g xs s1 = some d ∧ z = (d, s1) := by
  unfold fMk at h
  obtain ⟨⟨x, s1⟩, h1, h⟩ := Option.bind_eq_some_iff.mp h
  obtain ⟨d, h2, h⟩ := Option.map_eq_some_iff.mp h
  exact ⟨x, s1, d, h1, h2, h.symm⟩
/-- values in, a value out, new objects at most -/
def ArgOk (K : PySem.W.Frag) (r : List V → Hp → VK → Prop) (g : List D → Store → Option D) : Prop :=
  ∀ (rho : Rf) (H : Hp) (xs : List V) (ds : List D) (d : D) (st : Store) (Q : VK), RepL K rho H xs ds → Sim K rho H st → g ds st = some d → (∀ v H', Same H H' → Rep K rho H' v d → Q v H') → r xs H Q
theorem argReads {r : List V → Hp → VK → Prop} {g : List D → Store → Option D} (k : ArgOk K r g) {fa : FA} (σ : L2.St) (H : Hp) (Q : VK) (h : tD K (fMk g fa) σ H Q) : tA K fa σ H fun vs H1 => r vs H1 Q := by
  obtain ⟨rho, env, st, d, st', he, hs, hf, q⟩ := h
  obtain ⟨xs, s1, d', h1, h2, e⟩ := fMk_some hf
  cases e
  exact ⟨rho, env, st, xs, _, he, hs, h1, fun us r1 H1 e1 q1 p1 => k r1 H1 us xs d _ Q p1 q1 h2 fun v H2 sm pv => q v r1 H2 (e1.trans (q1.ext sm)) (q1.same sm) pv⟩
/-- a new object that no value is -/
theorem Sim.free {r : Rf} {H : Hp} {st : Store} (s : Sim K r H st) {p : Addr} (h : H p = none) : ¬ r.av p := fun z => by
  obtain ⟨o, e⟩ := s.there p z
  rw [h] at e; cases e
def mkTup (ds : List D) (_ : Store) : Option D := if ds.length ≤ sizeLine then some (.tup ds) else none
def mkLst (ds : List D) (_ : Store) : Option D := if ds.length ≤ sizeLine then some (.lst ds) else none
theorem de_tup {es : List Expr} {fa : FA} {x1 : Nat} {pos : Pos} (h : DA X es fa) : DE X (.Tuple es x1 pos) (fMk mkTup fa) :=
  weakE (pe_tupF h) fun σ H Q hh => argReads (r := fun xs H1 Q => xs.length ≤ sizeLine ∧ Fz Q H1 xs) (fun rho H xs ds d st Q hr hs hg k => by
    unfold mkTup at hg
    split at hg
    · rename_i hl
      cases hg
      refine ⟨by rw [hr.len]; exact hl, fun p o hp hz => k _ _ (same_alloc hp) (.tup upd_same hz (hs.free hp) (hr.ex (Ex.same rho (same_alloc hp))))⟩
    · cases hg) σ H Q hh
theorem de_lst {es : List Expr} {fa : FA} {pos : Pos} (h : DA X es fa) : DE X (.List es pos) (fMk mkLst fa) :=
  weakE (pe_lst h) fun σ H Q hh => argReads (r := fun xs H1 Q => xs.length ≤ sizeLine ∧ ∀ p, H1 p = none → Q (.ref p) (upd H1 p (.lst xs))) (fun rho H xs ds d st Q hr hs hg k => by
    unfold mkLst at hg
    split at hg
    · rename_i hl
      cases hg
      refine ⟨by rw [hr.len]; exact hl, fun p hp => k _ _ (same_alloc hp) (.lst upd_same (hs.free hp) (hr.ex (Ex.same rho (same_alloc hp))))⟩
    · cases hg) σ H Q hh
/-- a call of a built-in -/
def CallOk (X : Cx) (f : Value) (g : List D → Store → Option D) : Prop := ∃ r, CallR X f r ∧ ArgOk X.K r g
theorem de_callB {id : String} {x : Str} {g : List D → Store → Option D} {fa : FA} {e : Expr} {es : List Expr} {p pos : Pos} (ho : CallOk X (.builtin id) g) (hg : Gl X x) (hm : X.mg x = none) (hv : bootBuiltins x = some (.builtin id)) (ha : DA X (e :: es) fa) (hn : x ≠ "__name__" := by decide) (hdb : (x == ("__debug__" : Str)) = false := by decide)
    (he : starEach (e :: es) X.env = (false, eval e X.env) :: starEach es X.env := by rfl) (hpl : (backTo pos (starEach es X.env)).any (·.1) = false := by rfl) : DE X (.Call (.Name x p) (e :: es) [] pos) (fMk g fa) := by
  obtain ⟨r, hr, k⟩ := ho
  exact weakE (pe_callB hr hg hm hv ha hn hdb he hpl) fun σ H Q h => argReads k σ H Q h
theorem de_callTy {T : String} {x : Str} {g : List D → Store → Option D} {fa : FA} {e : Expr} {es : List Expr} {p pos : Pos} (ho : CallOk X (.type T) g) (hg : Gl X x) (hm : X.mg x = none) (hv : bootBuiltins x = some (.type T)) (ha : DA X (e :: es) fa) (hn : x ≠ "__name__" := by decide) (hdb : (x == ("__debug__" : Str)) = false := by decide)
    (he : starEach (e :: es) X.env = (false, eval e X.env) :: starEach es X.env := by rfl) (hpl : (backTo pos (starEach es X.env)).any (·.1) = false := by rfl) : DE X (.Call (.Name x p) (e :: es) [] pos) (fMk g fa) := by
  obtain ⟨r, hr, k⟩ := ho
  exact weakE (pe_callTy hr hg hm hv ha hn hdb he hpl) fun σ H Q h => argReads k σ H Q h

/-! ### tests, and, or, not -/
def asB : D → Option Bool | .bl b => some b | _ => none
def fTest (f : F) : FT := fun env st => (f env st).bind fun p => (asB p.1).map fun b => (b, p.2)
theorem fTest_some {f : F} {env : Lo} {st : Store} {z : Bool × Store} (h : fTest f env st = some z) : f env st = some (.bl z.1, z.2) := by
  unfold fTest at h
  obtain ⟨⟨x, s1⟩, h1, h⟩ := Option.bind_eq_some_iff.mp h
  obtain ⟨b, h2, h⟩ := Option.map_eq_some_iff.mp h
  cases x with
  | bl c => cases h2; subst h; exact h1
  | _ => cases h2
theorem testReads {f : F} (σ : L2.St) (H : Hp) (Q : Bool → Hp → Prop) (h : tT K (fTest f) σ H Q) : tD K f σ H fun x H1 => ∃ c, x = .bl c ∧ Q c H1 := by
  obtain ⟨r, env, st, b, st', he, hs, hf, q⟩ := h
  exact ⟨r, env, st, _, _, he, hs, fTest_some hf, fun v r1 H1 e1 q1 p1 => by
    cases p1
    exact ⟨b, rfl, q r1 H1 e1 q1⟩⟩
theorem dt_val {e : Expr} {f : F} (h : DE X e f) (he : ∀ whole, isTrue e X.env whole = (do let v ← whole; standAt e.pos; holding [v] (truthy v)) := by intro _; rfl) : DT X e (fTest f) := weakT (pt_val h he) fun σ H Q hh => testReads σ H Q hh
theorem dt_cmp {op : CmpOp} {g : D → D → Option D} {a b : Expr} {fa fb : F} {pos : Pos} (ho : OpOk X (compareOp op) g) (ha : DE X a fa) (hb : DE X b fb) (hm : behindInMarks op b = false := by with_unfolding_all rfl) : DT X (.Compare a [op] [b] pos) (fTest (fOp g fa fb)) := by
  obtain ⟨r, hr, k⟩ := ho
  exact weakT (pt_cmpR hr ha hb hm) fun σ H Q h => opReads (f := compareOp op) k σ H (fun x H1 => ∃ c, x = .bl c ∧ Q c H1) (testReads σ H Q h)
def fNotT (f : FT) : FT := fun env st => (f env st).map fun p => (!p.1, p.2)
theorem dt_not {e : Expr} {f : FT} {pos : Pos} (h : DT X e f) : DT X (.UnaryOp .Not e pos) (fNotT f) := weakT (pt_not h) fun σ H Q hh => by
  obtain ⟨r, env, st, b, st', he, hs, hf, q⟩ := hh
  obtain ⟨⟨c, s1⟩, h1, h2⟩ := Option.map_eq_some_iff.mp hf
  cases h2
  exact ⟨r, env, st, c, _, he, hs, h1, q⟩
def fAndT (f g : FT) : FT := fun env st => (f env st).bind fun p => if p.1 = true then g env p.2 else some (false, p.2)
def fOrT (f g : FT) : FT := fun env st => (f env st).bind fun p => if p.1 = true then some (true, p.2) else g env p.2
/-- a test whatever the whole is -/
abbrev DW (X : Cx) (e : Expr) (f : FT) : Prop := PW X e (tT X.K f)
theorem weakW {e : Expr} {t t' : TT} (h : PW X e t) (i : ∀ σ H Q, t' σ H Q → t σ H Q) : PW X e t' := ⟨fun wh pins s σ H Q I q => h.run wh pins s σ H Q I (i σ H Q q)⟩
theorem dw_and1 {a : Expr} {f : FT} {pos : Pos} (h : DT X a f) : DW X (.BoolOp .And [a] pos) f := pw_and1 h
theorem dw_or1 {a : Expr} {f : FT} {pos : Pos} (h : DT X a f) : DW X (.BoolOp .Or [a] pos) f := pw_or1 h
theorem dw_and {a b : Expr} {rest : List Expr} {f g : FT} {pos : Pos} (ha : DT X a f) (hb : DW X (.BoolOp .And (b :: rest) pos) g) : DW X (.BoolOp .And (a :: b :: rest) pos) (fAndT f g) := weakW (pw_and ha hb) fun σ H Q hh => by
  obtain ⟨r, env, st, b, st', he, hs, hf, q⟩ := hh
  obtain ⟨⟨c, s1⟩, h1, h2⟩ := Option.bind_eq_some_iff.mp hf
  refine ⟨r, env, st, c, s1, he, hs, h1, fun r1 H1 e1 q1 => ?_⟩
  cases c with
  | true => exact ⟨r1, env, s1, b, st', he.ext e1, q1, h2, fun r2 H2 e2 q2 => q r2 H2 (e1.trans e2) q2⟩
  | false =>
    cases h2
    exact q r1 H1 e1 q1
theorem dw_or {a b : Expr} {rest : List Expr} {f g : FT} {pos : Pos} (ha : DT X a f) (hb : DW X (.BoolOp .Or (b :: rest) pos) g) : DW X (.BoolOp .Or (a :: b :: rest) pos) (fOrT f g) := weakW (pw_or ha hb) fun σ H Q hh => by
  obtain ⟨r, env, st, b, st', he, hs, hf, q⟩ := hh
  obtain ⟨⟨c, s1⟩, h1, h2⟩ := Option.bind_eq_some_iff.mp hf
  refine ⟨r, env, st, c, s1, he, hs, h1, fun r1 H1 e1 q1 => ?_⟩
  cases c with
  | false => exact ⟨r1, env, s1, b, st', he.ext e1, q1, h2, fun r2 H2 e2 q2 => q r2 H2 (e1.trans e2) q2⟩
  | true =>
    cases h2
    exact q r1 H1 e1 q1
theorem dt_w {e : Expr} {f : FT} (h : DW X e f) : DT X e f := h.pt
/-- as values: bools alone -/
def fAnd (f g : F) : F := fun env st => (f env st).bind fun p => (asB p.1).bind fun b => if b = true then g env p.2 else some (.bl false, p.2)
def fOr (f g : F) : F := fun env st => (f env st).bind fun p => (asB p.1).bind fun b => if b = true then some (.bl true, p.2) else g env p.2
def fNot (f : F) : F := fun env st => (f env st).bind fun p => (asB p.1).map fun b => (.bl (!b), p.2)
theorem asB_some {d : D} {b : Bool} (h : asB d = some b) : d = .bl b := by
  cases d with
  | bl c => cases h; rfl
  | _ => cases h
theorem de_one {a : Expr} {op} {f : F} {pos : Pos} (h : DE X a f) : DE X (.BoolOp op [a] pos) f := pe_one h
theorem de_and {a b : Expr} {rest : List Expr} {f g : F} {pos : Pos} (ha : DE X a f) (hb : DE X (.BoolOp .And (b :: rest) pos) g) : DE X (.BoolOp .And (a :: b :: rest) pos) (fAnd f g) := weakE (pe_and ha hb) fun σ H Q hh => by
  obtain ⟨r, env, st, d, st', he, hs, hf, q⟩ := hh
  obtain ⟨⟨x, s1⟩, h1, h2⟩ := Option.bind_eq_some_iff.mp hf
  obtain ⟨c, h3, h4⟩ := Option.bind_eq_some_iff.mp h2
  have e := asB_some h3
  subst e
  refine ⟨r, env, st, .bl c, s1, he, hs, h1, fun u r1 H1 e1 q1 p1 => ?_⟩
  cases p1
  refine ⟨c, rfl, ?_⟩
  cases c with
  | true => exact ⟨r1, env, s1, d, st', he.ext e1, q1, h4, fun v r2 H2 e2 q2 p2 => q v r2 H2 (e1.trans e2) q2 p2⟩
  | false =>
    cases h4
    exact q _ r1 H1 e1 q1 (.bl false)
theorem de_or {a b : Expr} {rest : List Expr} {f g : F} {pos : Pos} (ha : DE X a f) (hb : DE X (.BoolOp .Or (b :: rest) pos) g) : DE X (.BoolOp .Or (a :: b :: rest) pos) (fOr f g) := weakE (pe_or ha hb) fun σ H Q hh => by
  obtain ⟨r, env, st, d, st', he, hs, hf, q⟩ := hh
  obtain ⟨⟨x, s1⟩, h1, h2⟩ := Option.bind_eq_some_iff.mp hf
  obtain ⟨c, h3, h4⟩ := Option.bind_eq_some_iff.mp h2
  have e := asB_some h3
  subst e
  refine ⟨r, env, st, .bl c, s1, he, hs, h1, fun u r1 H1 e1 q1 p1 => ?_⟩
  cases p1
  refine ⟨c, rfl, ?_⟩
  cases c with
  | false => exact ⟨r1, env, s1, d, st', he.ext e1, q1, h4, fun v r2 H2 e2 q2 p2 => q v r2 H2 (e1.trans e2) q2 p2⟩
  | true =>
    cases h4
    exact q _ r1 H1 e1 q1 (.bl true)
theorem de_not {a : Expr} {f : F} {pos : Pos} (ha : DE X a f) : DE X (.UnaryOp .Not a pos) (fNot f) := weakE (pe_not ha) fun σ H Q hh => by
  obtain ⟨r, env, st, d, st', he, hs, hf, q⟩ := hh
  obtain ⟨⟨x, s1⟩, h1, h2⟩ := Option.bind_eq_some_iff.mp hf
  obtain ⟨c, h3, h4⟩ := Option.map_eq_some_iff.mp h2
  have e := asB_some h3
  subst e
  cases h4
  refine ⟨r, env, st, .bl c, _, he, hs, h1, fun u r1 H1 e1 q1 p1 => ?_⟩
  cases p1
  exact ⟨c, rfl, q _ r1 H1 e1 q1 (.bl (!c))⟩
def fIfE (t : FT) (f g : F) : F := fun env st => (t env st).bind fun p => if p.1 = true then f env p.2 else g env p.2
theorem de_if {c a b : Expr} {t : FT} {f g : F} {pos : Pos} (hc : DT X c t) (ha : DE X a f) (hb : DE X b g) : DE X (.IfExp c a b pos) (fIfE t f g) := weakE (pe_ifExp hc ha hb) fun σ H Q hh => by
  obtain ⟨r, env, st, d, st', he, hs, hf, q⟩ := hh
  obtain ⟨⟨c, s1⟩, h1, h2⟩ := Option.bind_eq_some_iff.mp hf
  refine ⟨r, env, st, c, s1, he, hs, h1, fun r1 H1 e1 q1 => ?_⟩
  cases c with
  | true => exact ⟨r1, env, s1, d, st', he.ext e1, q1, h2, fun v r2 H2 e2 q2 p2 => q v r2 H2 (e1.trans e2) q2 p2⟩
  | false => exact ⟨r1, env, s1, d, st', he.ext e1, q1, h2, fun v r2 H2 e2 q2 p2 => q v r2 H2 (e1.trans e2) q2 p2⟩
/-- a op b op' c -/
def fChain (g g' : D → D → Option D) (fa fb fc : F) : F := fun env st => (fa env st).bind fun p => (fb env p.2).bind fun q => (g p.1 q.1).bind fun z => (asB z).bind fun k =>
  if k = true then (fc env q.2).bind fun w => (g' q.1 w.1).map fun d => (d, w.2) else some (.bl false, q.2)
theorem chainReads {r r' : R2} {g g' : D → D → Option D}
    (k : ∀ (rho : Rf) (H : Hp) (x y : V) (a b d : D) (st : Store) (Q : VK), Sim K rho H st → Rep K rho H x a → Rep K rho H y b → g a b = some d → (∀ v H', Same H H' → Rep K rho H' v d → Q v H') → r x y H Q)
    (k' : ∀ (rho : Rf) (H : Hp) (x y : V) (a b d : D) (st : Store) (Q : VK), Sim K rho H st → Rep K rho H x a → Rep K rho H y b → g' a b = some d → (∀ v H', Same H H' → Rep K rho H' v d → Q v H') → r' x y H Q)
    {fa fb fc : F} (σ : L2.St) (H : Hp) (Q : VK) (h : tD K (fChain g g' fa fb fc) σ H Q) : tChain r r' (tD K fa) (tD K fb) (tD K fc) σ H Q := by
  obtain ⟨rho, env, st, d, st', he, hs, hf, q⟩ := h
  obtain ⟨⟨x, s1⟩, h1, hf1⟩ := Option.bind_eq_some_iff.mp hf
  obtain ⟨⟨y, s2⟩, h2, hf2⟩ := Option.bind_eq_some_iff.mp hf1
  obtain ⟨z, h3, hf3⟩ := Option.bind_eq_some_iff.mp hf2
  obtain ⟨c, h4, hf4⟩ := Option.bind_eq_some_iff.mp hf3
  have e := asB_some h4
  subst e
  refine two he hs h1 h2 fun u v r1 H1 e1 q1 pu pv => k r1 H1 u v x y _ _ _ q1 pu pv h3 fun w H2 sm pw => ?_
  cases pw
  refine ⟨c, rfl, ?_⟩
  cases c with
  | false =>
    cases hf4
    exact q _ r1 H2 (e1.trans (q1.ext sm)) (q1.same sm) (.bl false)
  | true =>
    rw [if_pos rfl] at hf4
    obtain ⟨⟨w, s3⟩, h5, hf5⟩ := Option.bind_eq_some_iff.mp hf4
    obtain ⟨d', h6, hf6⟩ := Option.map_eq_some_iff.mp hf5
    cases hf6
    rw [if_pos rfl]
    have e2 : Ext rho H r1 H2 := e1.trans (q1.ext sm)
    refine ⟨r1, env, s2, w, _, he.ext e2, q1.same sm, h5, fun w' r3 H3 e3 q3 pw' => ?_⟩
    exact k' r3 H3 v w' y w _ _ _ q3 (pv.ext ((q1.ext sm).trans e3)) pw' h6 fun v4 H4 sm4 p4 => q v4 r3 H4 ((e2.trans e3).trans (q3.ext sm4)) (q3.same sm4) p4
theorem de_chain {op op' : CmpOp} {g g' : D → D → Option D} {a b c : Expr} {fa fb fc : F} {pos : Pos} (ho : OpOk X (compareOp op) g) (ho' : OpOk X (compareOp op') g') (ha : DE X a fa) (hb : DE X b fb) (hc : DE X c fc)
    (hm : lastMarks [op, op'] [b, c] = false := by with_unfolding_all rfl) : DE X (.Compare a [op, op'] [b, c] pos) (fChain g g' fa fb fc) := by
  obtain ⟨r, hr, k⟩ := ho
  obtain ⟨r', hr', k'⟩ := ho'
  exact weakE (pe_chain hr hr' ha hb hc hm) fun σ H Q h => chainReads k k' σ H Q h
theorem dt_chain {op op' : CmpOp} {g g' : D → D → Option D} {a b c : Expr} {fa fb fc : F} {pos : Pos} (ho : OpOk X (compareOp op) g) (ho' : OpOk X (compareOp op') g') (ha : DE X a fa) (hb : DE X b fb) (hc : DE X c fc)
    (hm : lastMarks [op, op'] [b, c] = false := by with_unfolding_all rfl) : DT X (.Compare a [op, op'] [b, c] pos) (fTest (fChain g g' fa fb fc)) := by
  obtain ⟨r, hr, k⟩ := ho
  obtain ⟨r', hr', k'⟩ := ho'
  exact weakT (pt_chain hr hr' ha hb hc hm) fun σ H Q h => chainReads k k' σ H (fun x H1 => ∃ c, x = .bl c ∧ Q c H1) (testReads σ H Q h)

/-! ### statements -/
inductive Out | nx | bk | ct | rt (d : D) | er (c f : Str) (d : D)
/-- an error of class c, its one field f -/
def ErrAt (K : PySem.W.Frag) (r : Rf) (H : Hp) (c f : Str) (d : D) (C dd : Addr) : Prop := PySem.W.nsIn K mainGlobals c = some (some (.ref C)) ∧ ∃ v, H dd = some (.xd [(f, v)]) ∧ Rep K r H v d
abbrev FS := Lo → Store → Option (Out × Lo × Store)
def OutOk (K : PySem.W.Frag) (W : WXd) (r : Rf) (H : Hp) (D' : Ends) (env' : Lo) (st' : Store) : Out → Prop
  | .nx => ∀ σ' r' H', Ext r H r' H' → EnvR K r' H' env' σ' → Sim K r' H' st' → D'.nx σ' H'
  | .bk => ∀ σ' r' H', Ext r H r' H' → EnvR K r' H' env' σ' → Sim K r' H' st' → D'.bk σ' H'
  | .ct => ∀ σ' r' H', Ext r H r' H' → EnvR K r' H' env' σ' → Sim K r' H' st' → D'.ct σ' H'
  | .rt d => ∀ v r' H', Ext r H r' H' → Sim K r' H' st' → Rep K r' H' v d → D'.rt v H'
  | .er c f d => ∀ σ' r' H' C dd, Ext r H r' H' → EnvR K r' H' env' σ' → Sim K r' H' st' → ErrAt K r' H' c f d C dd → W (.ref C) (some dd) σ' H'
theorem OutOk.ext {W : WXd} {r r1 : Rf} {H H1 : Hp} {D' : Ends} {env' : Lo} {st' : Store} (e : Ext r H r1 H1) : ∀ {o : Out}, OutOk K W r H D' env' st' o → OutOk K W r1 H1 D' env' st' o
  | .nx, h => fun σ' r' H' e' a b => h σ' r' H' (e.trans e') a b
  | .bk, h => fun σ' r' H' e' a b => h σ' r' H' (e.trans e') a b
  | .ct, h => fun σ' r' H' e' a b => h σ' r' H' (e.trans e') a b
  | .rt _, h => fun v r' H' e' a b => h v r' H' (e.trans e') a b
  | .er _ _ _, h => fun σ' r' H' C dd e' a b c => h σ' r' H' C dd (e.trans e') a b c
def tS (K : PySem.W.Frag) (W : WXd) (g : FS) : TS := fun D' σ H => ∃ r env st o env' st', EnvR K r H env σ ∧ Sim K r H st ∧ g env st = some (o, env', st') ∧ OutOk K W r H D' env' st' o
abbrev DS (X : Cx) (W : WXd) (st : Stmt) (g : FS) : Prop := PS X st (tS X.K W g)
abbrev DSs (X : Cx) (W : WXd) (st : List Stmt) (g : FS) : Prop := PSs X st (tS X.K W g)
def sNil : FS := fun env st => some (.nx, env, st)
def sSeq (g h : FS) : FS := fun env st => (g env st).bind fun p => match p with | (.nx, e1, s1) => h e1 s1 | q => some q
theorem ds_nil : DSs X W [] sNil := weakSs pss_nil fun D' σ H hh => by
  obtain ⟨r, env, st, o, env', st', he, hs, hf, q⟩ := hh
  cases hf
  exact q σ r H (.refl r H) he hs
theorem ds_one {s : Stmt} {g : FS} (h : DS X W s g) : DSs X W [s] g := pss_one h
theorem ds_cons {s : Stmt} {rest : List Stmt} {g h : FS} (hg : DS X W s g) (hr : DSs X W rest h) : DSs X W (s :: rest) (sSeq g h) := weakSs (pss_cons hg hr) fun D' σ H hh => by
  obtain ⟨r, env, st, o, env', st', he, hs, hf, q⟩ := hh
  obtain ⟨⟨o1, e1, s1⟩, h1, h2⟩ := Option.bind_eq_some_iff.mp hf
  refine ⟨r, env, st, o1, e1, s1, he, hs, h1, ?_⟩
  cases o1 with
  | nx => exact fun σ' r' H' ex he' hs' => ⟨r', e1, s1, o, env', st', he', hs', h2, q.ext ex⟩
  | bk => cases h2; exact q
  | ct => cases h2; exact q
  | rt d => cases h2; exact q
  | er c f d => cases h2; exact q
def sRet (f : F) : FS := fun env st => (f env st).map fun p => (.rt p.1, env, p.2)
theorem ds_ret {e : Expr} {f : F} {pos : Pos} (h : DE X e f) : DS X W (.Return (some e) pos) (sRet f) := weakS (ps_ret h) fun D' σ H hh => by
  obtain ⟨r, env, st, o, env', st', he, hs, hf, q⟩ := hh
  obtain ⟨⟨d, s1⟩, h1, h2⟩ := Option.map_eq_some_iff.mp hf
  cases h2
  exact ⟨r, env, st, d, _, he, hs, h1, q⟩
def sRetN : FS := fun env st => some (.rt .non, env, st)
theorem ds_retN {pos : Pos} : DS X W (.Return none pos) sRetN := weakS ps_retN fun D' σ H hh => by
  obtain ⟨r, env, st, o, env', st', he, hs, hf, q⟩ := hh
  cases hf
  exact q _ r H (.refl r H) hs .non
def sBrk : FS := fun env st => some (.bk, env, st)
def sCnt : FS := fun env st => some (.ct, env, st)
theorem ds_pass {pos : Pos} : DS X W (.Pass pos) sNil := weakS ps_pass fun D' σ H hh => by
  obtain ⟨r, env, st, o, env', st', he, hs, hf, q⟩ := hh
  cases hf
  exact q σ r H (.refl r H) he hs
theorem ds_brk {pos : Pos} : DS X W (.Break pos) sBrk := weakS ps_break fun D' σ H hh => by
  obtain ⟨r, env, st, o, env', st', he, hs, hf, q⟩ := hh
  cases hf
  exact q σ r H (.refl r H) he hs
theorem ds_cnt {pos : Pos} : DS X W (.Continue pos) sCnt := weakS ps_continue fun D' σ H hh => by
  obtain ⟨r, env, st, o, env', st', he, hs, hf, q⟩ := hh
  cases hf
  exact q σ r H (.refl r H) he hs
def sDrop (f : F) : FS := fun env st => (f env st).map fun p => (.nx, env, p.2)
theorem ds_expr {e : Expr} {f : F} {pos : Pos} (h : DE X e f) (hs : swapsWith e none pos.line X.env = pure false := by rfl) : DS X W (.Expr e pos) (sDrop f) := weakS (ps_expr h hs) fun D' σ H hh => by
  obtain ⟨r, env, st, o, env', st', he, hs, hf, q⟩ := hh
  obtain ⟨⟨d, s1⟩, h1, h2⟩ := Option.map_eq_some_iff.mp hf
  cases h2
  exact ⟨r, env, st, d, _, he, hs, h1, fun v r1 H1 e1 q1 p1 => q σ r1 H1 e1 (he.ext e1) q1⟩
def sIf (t : FT) (g h : FS) : FS := fun env st => (t env st).bind fun p => if p.1 = true then g env p.2 else h env p.2
theorem ds_if {c : Expr} {a b : List Stmt} {t : FT} {g h : FS} {pos : Pos} (hc : DT X c t) (ha : DSs X W a g) (hb : DSs X W b h) : DS X W (.If c a b pos) (sIf t g h) := weakS (ps_if hc ha hb) fun D' σ H hh => by
  obtain ⟨r, env, st, o, env', st', he, hs, hf, q⟩ := hh
  obtain ⟨⟨k, s1⟩, h1, h2⟩ := Option.bind_eq_some_iff.mp hf
  refine ⟨r, env, st, k, s1, he, hs, h1, fun r1 H1 e1 q1 => ?_⟩
  cases k with
  | true => exact ⟨r1, env, s1, o, env', st', he.ext e1, q1, h2, q.ext e1⟩
  | false => exact ⟨r1, env, s1, o, env', st', he.ext e1, q1, h2, q.ext e1⟩

/-! ### targets -/
abbrev FG := D → Lo → Option Lo
abbrev FGs := List D → Lo → Option Lo
/-- how an item stands for its data -/
abbrev RD := Rf → Hp → V → D → Prop
/-- .. by Rep, or as a tuple of which no more is known -/
def RepI (K : PySem.W.Frag) : RD := fun r H v d => ∃ a xs ds, v = .ref a ∧ d = .tup ds ∧ SqT K H a xs ∧ RepL K r H xs ds
def tGR (K : PySem.W.Frag) (R : RD) (g : FG) : TG := fun v σ H Q => ∃ r env d env', EnvR K r H env σ ∧ R r H v d ∧ g d env = some env' ∧ ∀ σ', EnvR K r H env' σ' → Q σ' H
abbrev tG (K : PySem.W.Frag) (g : FG) : TG := tGR K (Rep K) g
abbrev DGR (X : Cx) (R : RD) (e : Expr) (g : FG) : Prop := PG X e (tGR X.K R g)
def tGs (K : PySem.W.Frag) (g : FGs) : TGs := fun vs σ H Q => ∃ r env ds env', EnvR K r H env σ ∧ RepL K r H vs ds ∧ g ds env = some env' ∧ ∀ σ', EnvR K r H env' σ' → Q σ' H
abbrev DG (X : Cx) (e : Expr) (g : FG) : Prop := PG X e (tG X.K g)
abbrev DGs (X : Cx) (e : List Expr) (g : FGs) : Prop := PGs X e (tGs X.K g)
theorem weakG {e : Expr} {t t' : TG} (h : PG X e t) (i : ∀ v σ H Q, t' v σ H Q → t v σ H Q) : PG X e t' := ⟨fun pins s σ H v u Q I r q => h.run pins s σ H v u Q I r (i v σ H Q q)⟩
theorem weakGs {e : List Expr} {t t' : TGs} (h : PGs X e t) (i : ∀ v σ H Q, t' v σ H Q → t v σ H Q) : PGs X e t' := ⟨fun pins s σ H v u Q I r q => h.run pins s σ H v u Q I r (i v σ H Q q)⟩
def gN (i : Nat) : FG := fun d env => some (env.set i (some d))
theorem dg_name (i : Nat) {x : Str} {pos : Pos} (hN : X.N.Nodup) (hi : X.N[i]? = some x := by rfl) (hx : Loc X.env.scope x := by first | exact Or.inl rfl | exact Or.inr rfl) (hf : X.fn x = true ∨ X.env.scope.names.lookup x = some .local := by first | exact .inl rfl | exact .inr rfl | assumption) : DG X (.Name x pos) (gN i) :=
  weakG (pg_name hN hi hx hf) fun v σ H Q hh => by
  obtain ⟨r, env, d, env', he, hr, hg, q⟩ := hh
  cases hg
  exact q _ (he.set hr i)
def gNil' : FGs := fun ds env => match ds with | [] => some env | _ => none
def gCons' (g : FG) (h : FGs) : FGs := fun ds env => match ds with | d :: r => (g d env).bind fun e1 => h r e1 | [] => none
theorem dgs_nil : DGs X [] gNil' := weakGs pgs_nil fun v σ H Q hh => by
  obtain ⟨r, env, ds, env', he, hr, hg, q⟩ := hh
  cases ds with
  | nil =>
    cases hg
    cases hr
    exact ⟨rfl, q _ he⟩
  | cons a b => cases hg
theorem dgs_cons {e : Expr} {es : List Expr} {g : FG} {h : FGs} (h1 : DG X e g) (h2 : DGs X es h) (hs : (assignEach (e :: es) X.env).map (·.2) = assign e X.env :: (assignEach es X.env).map (·.2) := by rfl) : DGs X (e :: es) (gCons' g h) := weakGs (pgs_cons h1 h2 hs) fun v σ H Q hh => by
  obtain ⟨r, env, ds, env', he, hr, hg, q⟩ := hh
  cases ds with
  | nil => cases hg
  | cons a b =>
    cases hr with
    | cons ra rb =>
      obtain ⟨e1, g1, g2⟩ := Option.bind_eq_some_iff.mp hg
      exact ⟨_, _, rfl, r, env, a, e1, he, ra, g1, fun σ' he' => ⟨r, e1, b, env', he', rb, g2, q⟩⟩
def gT (n : Nat) (h : FGs) : FG := fun d env => match d with | .tup ds => if ds.length = n then h ds env else none | _ => none
theorem Rep.sqT {r : Rf} {H : Hp} {v : V} {ds : List D} (h : Rep K r H v (.tup ds)) : ∃ a xs, v = .ref a ∧ SqT K H a xs ∧ RepL K r H xs ds := by
  cases h with
  | tup a z b c => exact ⟨_, _, rfl, .inl (.inr ⟨_, a⟩), c⟩
  | tupK a b z c d e f => exact ⟨_, _, rfl, .inr ⟨_, _, _, a, b, c, d, e⟩, f⟩
theorem dg_tup {es : List Expr} {k n : Nat} {h : FGs} {pos : Pos} (hc : X.calm = true) (hh : DGs X es h) (hn : (assignEach es X.env).length = n := by rfl) (hst : (assignEach es X.env).findIdx? (·.1) = none := by rfl) : DG X (.Tuple es k pos) (gT n h) :=
  weakG (pg_tup hc hh hn hst) fun v σ H Q hh => by
  obtain ⟨r, env, d, env', he, hr, hg, q⟩ := hh
  cases d with
  | tup ds =>
    obtain ⟨a, xs, e, s, l⟩ := hr.sqT
    have hg' : (if ds.length = n then h ds env else none) = some env' := hg
    by_cases hl : ds.length = n
    · rw [if_pos hl] at hg'
      exact ⟨a, xs, e, s, by rw [l.len]; exact hl, r, env, ds, env', he, l, hg', q⟩
    · rw [if_neg hl] at hg'
      cases hg'
  | _ => cases hg
/-- a tuple's target takes an item of either kind -/
theorem dg_tupI {es : List Expr} {k n : Nat} {h : FGs} {pos : Pos} (hc : X.calm = true) (hh : DGs X es h) (hn : (assignEach es X.env).length = n := by rfl) (hst : (assignEach es X.env).findIdx? (·.1) = none := by rfl) : DGR X (RepI X.K) (.Tuple es k pos) (gT n h) :=
  weakG (pg_tup hc hh hn hst) fun v σ H Q hh => by
  obtain ⟨r, env, d, env', he, hr, hg, q⟩ := hh
  obtain ⟨a, xs, ds, e, ed, s, l⟩ := hr
  subst ed
  have hg' : (if ds.length = n then h ds env else none) = some env' := hg
  by_cases hl : ds.length = n
  · rw [if_pos hl] at hg'
    exact ⟨a, xs, e, s, by rw [l.len]; exact hl, r, env, ds, env', he, l, hg', q⟩
  · rw [if_neg hl] at hg'
    cases hg'
def sAsg (f : F) (g : FG) : FS := fun env st => (f env st).bind fun p => (g p.1 env).map fun e1 => (.nx, e1, p.2)
theorem asgReads {W : WXd} {f : F} {g : FG} (D' : Ends) (σ : L2.St) (H : Hp) (hh : tS K W (sAsg f g) D' σ H) : tAsg (tD K f) (tG K g) D' σ H := by
  obtain ⟨r, env, st, o, env', st', he, hs, hf, q⟩ := hh
  obtain ⟨⟨d, s1⟩, h1, h2⟩ := Option.bind_eq_some_iff.mp hf
  obtain ⟨e1, h3, h4⟩ := Option.map_eq_some_iff.mp h2
  cases h4
  exact ⟨r, env, st, d, _, he, hs, h1, fun v r1 H1 x1 q1 p1 => ⟨r1, env, d, _, he.ext x1, p1, h3, fun σ' he' => q σ' r1 H1 x1 he' q1⟩⟩
theorem ds_asg {tg e : Expr} {f : F} {g : FG} {pos : Pos} (he : DE X e f) (hg : DG X tg g) (hs : swapsWithSole [tg] e pos.line X.env = pure false := by rfl) (hw : swappedStores [tg] e X.env = pure none := by rfl)
    (h1 : (assignEach [tg] X.env).map (·.2) = [assign tg X.env] := by rfl) : DS X W (.Assign [tg] e pos) (sAsg f g) := weakS (ps_asg he hg hs hw h1) fun D' σ H hh => asgReads D' σ H hh
end
end DL
namespace DL
open PySem PySem.Spec PyProof.Rows L2
variable {K : PySem.W.Frag}

/-! ### what is walked -/
abbrev FI := Lo → Store → Option (List D × Store)
/-- the iterator yields these data, whatever has become known since -/
def ItOkR (K : PySem.W.Frag) (R : RD) (J : It) (r : Rf) (H : Hp) (ds : List D) : Prop :=
  ∀ r1 H1 st1, Ext r H r1 H1 → Sim K r1 H1 st1 → (∀ i, ds.length ≤ i → J.stop i H1) ∧
    ∀ (i : Nat) d, ds[i]? = some d → J.go i H1 ∧ ∀ x H2, J.yld i H1 x H2 → ∃ r2, Ext r1 H1 r2 H2 ∧ Sim K r2 H2 st1 ∧ R r2 H2 x d
abbrev ItOk (K : PySem.W.Frag) (J : It) (r : Rf) (H : Hp) (ds : List D) : Prop := ItOkR K (Rep K) J r H ds
def tIR (K : PySem.W.Frag) (RR : RD) (f : FI) : TI := fun σ H R => ∃ r env st ds st', EnvR K r H env σ ∧ Sim K r H st ∧ f env st = some (ds, st') ∧ ∀ J r' H', Ext r H r' H' → Sim K r' H' st' → ItOkR K RR J r' H' ds → R J H'
abbrev tI (K : PySem.W.Frag) (f : FI) : TI := tIR K (Rep K) f
abbrev DIR (X : Cx) (RR : RD) (tg iter : Expr) (f : FI) : Prop := PI X tg iter (tIR X.K RR f)
abbrev DI (X : Cx) (tg iter : Expr) (f : FI) : Prop := DIR X (Rep X.K) tg iter f
theorem ItOk.ext {R : RD} {J : It} {r r' : Rf} {H H' : Hp} {ds : List D} (h : ItOkR K R J r H ds) (e : Ext r H r' H') : ItOkR K R J r' H' ds := fun r1 H1 st1 e1 s1 => h r1 H1 st1 (e.trans e1) s1

section
variable {X : Cx} {W : WXd} {tg iter : Expr}
theorem weakI {t t' : TI} (h : PI X tg iter t) (i : ∀ σ H Q, t' σ H Q → t σ H Q) : PI X tg iter t' := ⟨fun pins s σ H Q I q => h.run pins s σ H Q I (i σ H Q q)⟩

def asL : D → Option (List D) | .lst ds => some ds | _ => none
def asT : D → Option (List D) | .tup ds => some ds | _ => none
def asScr : D → Option (List D) | .scr ns => some (ns.map D.int) | _ => none
def asStr : D → Option (List D) | .str x => some (x.cps.toList.map fun c => .str ⟨#[c]⟩) | _ => none
def iOf (a : D → Option (List D)) (f : F) : FI := fun env st => (f env st).bind fun p => (a p.1).map fun ds => (ds, p.2)
theorem iOf_some {a : D → Option (List D)} {f : F} {env : Lo} {st : Store} {z : List D × Store} (h : iOf a f env st = some z) : ∃ d, f env st = some (d, z.2) ∧ a d = some z.1 := by
  obtain ⟨⟨x, s1⟩, h1, h2⟩ := Option.bind_eq_some_iff.mp h
  obtain ⟨ds, h3, h4⟩ := Option.map_eq_some_iff.mp h2
  cases h4
  exact ⟨x, h1, h3⟩
theorem sql_ok {J : It} {a : Addr} {r : Rf} {H : Hp} {xs : List V} {ds : List D} (hJ : J = Itl K a) (h : ∀ r1 H1, Ext r H r1 H1 → SqL K H1 a xs) (l : RepL K r H xs ds) : ItOk K J r H ds := fun r1 H1 st1 e1 s1 => by
  subst hJ
  have q := h r1 H1 e1
  have l1 := l.ext e1
  refine ⟨fun i hi => ⟨xs, q, by rw [l.len]; exact hi⟩, fun i d hd => ?_⟩
  obtain ⟨v, hv, rv⟩ := l1.get hd
  exact ⟨⟨xs, v, q, hv⟩, fun x H2 ⟨e, y⟩ => by
    subst e
    have := y xs q
    rw [hv] at this
    cases this
    exact ⟨r1, .refl _ _, s1, rv⟩⟩
theorem di_lst {f : F} (h : DE X iter f) : DI X tg iter (iOf asL f) := weakI (pi_list h) fun σ H R hh => by
  obtain ⟨r, env, st, ds, st', he, hs, hf, q⟩ := hh
  obtain ⟨d, h1, h2⟩ := iOf_some hf
  refine ⟨r, env, st, d, st', he, hs, h1, fun v r1 H1 e1 q1 p1 => ?_⟩
  cases d with
  | lst es =>
    cases h2
    cases p1 with
    | lst a b c => exact ⟨_, rfl, ⟨_, .of a⟩, q _ r1 H1 e1 q1 (sql_ok rfl (fun r2 H2 e2 => .of (e2.keep _ _ a b)) c)⟩
  | _ => cases h2
theorem di_scr {f : F} (h : DE X iter f) : DI X tg iter (iOf asScr f) := weakI (pi_list h) fun σ H R hh => by
  obtain ⟨r, env, st, ds, st', he, hs, hf, q⟩ := hh
  obtain ⟨d, h1, h2⟩ := iOf_some hf
  refine ⟨r, env, st, d, st', he, hs, h1, fun v r1 H1 e1 q1 p1 => ?_⟩
  cases d with
  | scr es =>
    cases h2
    cases p1 with
    | scr a b => exact ⟨_, rfl, ⟨_, .inl (.inr ⟨_, a⟩)⟩, q _ r1 H1 e1 q1 (sql_ok rfl (fun r2 H2 e2 => .inl (.inr ⟨_, e2.keep _ _ a b⟩)) (RepL.ofInts es))⟩
    | scrK a b c d e f => exact ⟨_, rfl, ⟨_, .inr ⟨_, _, _, a, b, c, d, e, f⟩⟩, q _ r1 H1 e1 q1 (sql_ok rfl (fun r2 H2 e2 => .inr ⟨_, _, _, a, b, c, d, e, f⟩) (RepL.ofInts es))⟩
  | _ => cases h2
theorem di_tup {f : F} (h : DE X iter f) : DI X tg iter (iOf asT f) := weakI (pi_tup h) fun σ H R hh => by
  obtain ⟨r, env, st, ds, st', he, hs, hf, q⟩ := hh
  obtain ⟨d, h1, h2⟩ := iOf_some hf
  refine ⟨r, env, st, d, st', he, hs, h1, fun v r1 H1 e1 q1 p1 => ?_⟩
  cases d with
  | tup es =>
    have ees : es = ds := Option.some.inj h2
    subst ees
    have key : ∀ {a : Addr} {xs : List V}, (∀ r2 H2, Ext r1 H1 r2 H2 → SqT X.K H2 a xs) → RepL X.K r1 H1 xs es → ItOk X.K (Itt X.K a) r1 H1 es := fun {a xs} hq l r2 H2 st2 e2 s2 => by
      have qq := hq r2 H2 e2
      have l1 := l.ext e2
      refine ⟨fun i hi => ⟨xs, qq, by rw [l.len]; exact hi⟩, fun i d hd => ?_⟩
      obtain ⟨v, hv, rv⟩ := l1.get hd
      exact ⟨⟨xs, v, qq, hv⟩, fun x H3 ⟨e, y⟩ => by
        subst e
        have := y xs qq
        rw [hv] at this
        cases this
        exact ⟨r2, .refl _ _, s2, rv⟩⟩
    cases p1 with
    | tup a z b c => exact ⟨_, rfl, ⟨_, .inl (.inr ⟨_, a⟩)⟩, q _ r1 H1 e1 q1 (key (fun r2 H2 e2 => .inl (.inr ⟨_, e2.keep _ _ a b⟩)) c)⟩
    | tupK a b z c d e f => exact ⟨_, rfl, ⟨_, .inr ⟨_, _, _, a, b, c, d, e⟩⟩, q _ r1 H1 e1 q1 (key (fun r2 H2 e2 => .inr ⟨_, _, _, a, b, c, d, e⟩) f)⟩
  | _ => cases h2
theorem di_str {f : F} (h : DE X iter f) : DI X tg iter (iOf asStr f) := weakI (pi_str h) fun σ H R hh => by
  obtain ⟨r, env, st, ds, st', he, hs, hf, q⟩ := hh
  obtain ⟨d, h1, h2⟩ := iOf_some hf
  refine ⟨r, env, st, d, st', he, hs, h1, fun v r1 H1 e1 q1 p1 => ?_⟩
  cases d with
  | str x =>
    cases h2
    cases p1
    refine ⟨x, rfl, q _ r1 H1 e1 q1 fun r2 H2 st2 e2 s2 => ⟨fun i hi => ?_, fun i d hd => ?_⟩⟩
    · show x.cps.size ≤ i
      simpa using hi
    · rw [List.getElem?_map] at hd
      obtain ⟨c, hc, e⟩ := Option.map_eq_some_iff.mp hd
      subst e
      have hc' : x.cps[i]? = some c := by simpa using hc
      refine ⟨(Array.getElem?_eq_some_iff.mp hc').1, fun y H3 ⟨e, c', hc2, ey⟩ => ?_⟩
      subst e
      rw [hc'] at hc2
      cases hc2
      subst ey
      exact ⟨r2, .refl _ _, s2, .str _⟩
  | _ => cases h2
/-- range(n) -/
def rg (lo hi : Int) : List D := (List.range (hi - lo).toNat).map fun k => .int (lo + (k : Nat))
def asR1 : List D → Option (List D) | [.int n] => if -(2 ^ 62) ≤ n ∧ n < 2 ^ 62 then some (rg 0 n) else none | _ => none
def asR2 : List D → Option (List D) | [.int i, .int n] => if (-(2 ^ 62) ≤ i ∧ i < 2 ^ 62) ∧ (-(2 ^ 62) ≤ n ∧ n < 2 ^ 62) then some (rg i n) else none | _ => none
def iOfA (a : List D → Option (List D)) (f : FA) : FI := fun env st => (f env st).bind fun p => (a p.1).map fun ds => (ds, p.2)
theorem iOfA_some {a : List D → Option (List D)} {f : FA} {env : Lo} {st : Store} {z : List D × Store} (h : iOfA a f env st = some z) : ∃ d, f env st = some (d, z.2) ∧ a d = some z.1 := by
  obtain ⟨⟨x, s1⟩, h1, h2⟩ := Option.bind_eq_some_iff.mp h
  obtain ⟨ds, h3, h4⟩ := Option.map_eq_some_iff.mp h2
  cases h4
  exact ⟨x, h1, h3⟩
theorem rng_ok {lo hi : Int} {r : Rf} {H : Hp} : ItOk K (Itr lo (hi - lo).toNat) r H (rg lo hi) := fun r1 H1 st1 e1 s1 => by
  refine ⟨fun i h => ?_, fun i d hd => ?_⟩
  · show (hi - lo).toNat ≤ i
    simpa [rg] using h
  · unfold rg at hd
    rw [List.getElem?_map] at hd
    obtain ⟨c, hc, e⟩ := Option.map_eq_some_iff.mp hd
    subst e
    obtain ⟨h1, h2⟩ := List.getElem?_eq_some_iff.mp hc
    rw [List.getElem_range] at h2
    subst h2
    refine ⟨by show i < (hi - lo).toNat; simpa using h1, fun x H2 ⟨e, y⟩ => ?_⟩
    subst e
    subst y
    exact ⟨r1, .refl _ _, s1, .int _⟩
theorem di_range1 {a : Expr} {fa : FA} {p pos : Pos} (hg : Gl X "range") (hm : X.mg "range" = none) (ha : DA X [a] fa) (hs : starEach [a] X.env = [(false, eval a X.env)] := by rfl) : DI X tg (.Call (.Name "range" p) [a] [] pos) (iOfA asR1 fa) := weakI (pi_range1 hg hm ha hs) fun σ H R hh => by
  obtain ⟨r, env, st, ds, st', he, hs, hf, q⟩ := hh
  obtain ⟨d, h1, h2⟩ := iOfA_some hf
  refine ⟨r, env, st, d, st', he, hs, h1, fun v r1 H1 e1 q1 p1 => ?_⟩
  unfold asR1 at h2
  split at h2
  · rename_i n
    split at h2
    · rename_i hn
      cases h2
      cases p1 with
      | cons pa pb =>
        cases pa
        cases pb
        refine ⟨n, rfl, hn.1, hn.2, q _ r1 H1 e1 q1 ?_⟩
        have z : (n - 0).toNat = n.toNat := by rw [Int.sub_zero]
        have := rng_ok (K := X.K) (lo := 0) (hi := n) (r := r1) (H := H1)
        rw [z] at this
        exact this
    · cases h2
  · cases h2
theorem di_range2 {a b : Expr} {fa : FA} {p pos : Pos} (hg : Gl X "range") (hm : X.mg "range" = none) (ha : DA X [a, b] fa) (hs : starEach [a, b] X.env = [(false, eval a X.env), (false, eval b X.env)] := by rfl) (hs2 : starEach [b] X.env = [(false, eval b X.env)] := by rfl) :
    DI X tg (.Call (.Name "range" p) [a, b] [] pos) (iOfA asR2 fa) := weakI (pi_range2 hg hm ha hs hs2) fun σ H R hh => by
  obtain ⟨r, env, st, ds, st', he, hs, hf, q⟩ := hh
  obtain ⟨d, h1, h2⟩ := iOfA_some hf
  refine ⟨r, env, st, d, st', he, hs, h1, fun v r1 H1 e1 q1 p1 => ?_⟩
  unfold asR2 at h2
  split at h2
  · rename_i i n
    split at h2
    · rename_i hn
      cases h2
      cases p1 with
      | cons pa pb =>
        cases pa
        cases pb with
        | cons pc pd =>
          cases pc
          cases pd
          exact ⟨i, n, rfl, ⟨hn.1.1, hn.1.2, hn.2.1, hn.2.2⟩, q _ r1 H1 e1 q1 rng_ok⟩
    · cases h2
  · cases h2
/-- for i, x in enumerate(xs) -/
def pairUp : Nat → List D → List D
  | _, [] => []
  | n, d :: ds => .tup [.int (n : Int), d] :: pairUp (n + 1) ds
def asEn : List D → Option (List D) | [.lst ds] => some (pairUp 0 ds) | _ => none
end

/-! ### for -/
def loopS (tg : FG) (body : FS) : List D → Lo → Store → Option (Out × Lo × Store)
  | [], env, st => some (.nx, env, st)
  | d :: ds, env, st => (tg d env).bind fun e1 => (body e1 st).bind fun p => match p with
    | (.nx, e2, s2) => loopS tg body ds e2 s2
    | (.ct, e2, s2) => loopS tg body ds e2 s2
    | (.bk, e2, s2) => some (.nx, e2, s2)
    | (.rt v, e2, s2) => some (.rt v, e2, s2)
    | (.er c f v, e2, s2) => some (.er c f v, e2, s2)
def sFor (fi : FI) (tg : FG) (body : FS) : FS := fun env st => (fi env st).bind fun p => loopS tg body p.1 env p.2
section
variable {X : Cx} {W : WXd} {tg iter : Expr}
theorem ds_forR {RR : RD} {body : List Stmt} {fi : FI} {g : FG} {b : FS} {pos : Pos} (hp : PassesOwn (model X.prog X.w) X.A X.env X.xe) (hc : X.calm = true) (hi : DIR X RR tg iter fi) (hg : DGR X RR tg g) (hb : DSs X W body b)
    (hs : ∀ x, foldedSetIterable iter X.env x = pure x := by intro _; rfl) : DS X W (.For tg iter body [] pos) (sFor fi g b) := weakS (ps_for hp hc hi hg hb hs) fun D' σ H hh => by
  obtain ⟨r, env, st, o, env', st', he, hs, hf, q⟩ := hh
  obtain ⟨⟨ds, s1⟩, h1, h2⟩ := Option.bind_eq_some_iff.mp hf
  refine ⟨r, env, st, ds, s1, he, hs, h1, fun J r1 H1 e1 q1 j1 => ?_⟩
  refine ⟨fun i m σ2 H2 => m = ds.length - i ∧ i ≤ ds.length ∧ ∃ r2 env2 st2, Ext r1 H1 r2 H2 ∧ EnvR X.K r2 H2 env2 σ2 ∧ Sim X.K r2 H2 st2 ∧ loopS g b (ds.drop i) env2 st2 = some (o, env', st'),
    ⟨_, rfl, Nat.zero_le _, r1, env, s1, .refl _ _, he.ext e1, q1, h2⟩, ?_⟩
  rintro i m σ2 H2 ⟨rfl, hi, r2, env2, st2, e2, he2, hs2, h3⟩
  obtain ⟨jst, jgo⟩ := j1 r2 H2 st2 e2 hs2
  by_cases hlt : i < ds.length
  · have hd : ds[i]? = some ds[i] := List.getElem?_eq_getElem hlt
    rw [List.drop_eq_getElem_cons hlt] at h3
    obtain ⟨env3, g1, h4⟩ := Option.bind_eq_some_iff.mp h3
    obtain ⟨⟨o4, env4, st4⟩, g2, h5⟩ := Option.bind_eq_some_iff.mp h4
    obtain ⟨j2, j3⟩ := jgo i _ hd
    refine .inr ⟨j2, fun σ' H' => i + 1 ≤ ds.length ∧ ∃ r2 env2 st2, Ext r1 H1 r2 H' ∧ EnvR X.K r2 H' env2 σ' ∧ Sim X.K r2 H' st2 ∧ loopS g b (ds.drop (i + 1)) env2 st2 = some (o, env', st'),
      fun σ' H' ⟨hi', w⟩ => ⟨ds.length - (i + 1), by omega, rfl, hi', w⟩, fun x H3 y => ?_⟩
    obtain ⟨r3, e3, hs3, rx⟩ := j3 x H3 y
    refine ⟨r3, env2, ds[i], env3, he2.ext e3, rx, g1, fun σ3 he3 => ⟨r3, env3, st2, o4, env4, st4, he3, hs3, g2, ?_⟩⟩
    cases o4 with
    | nx => exact fun σ' r' H' e' a c => ⟨by omega, r', env4, st4, (e2.trans e3).trans e', a, c, h5⟩
    | ct => exact fun σ' r' H' e' a c => ⟨by omega, r', env4, st4, (e2.trans e3).trans e', a, c, h5⟩
    | bk =>
      cases h5
      exact fun σ' r' H' e' a c => q σ' r' H' (((e1.trans e2).trans e3).trans e') a c
    | rt v =>
      cases h5
      exact fun v r' H' e' a c => q v r' H' (((e1.trans e2).trans e3).trans e') a c
    | er c' f' v =>
      cases h5
      exact fun σ' r' H' C dd e' a c z => q σ' r' H' C dd (((e1.trans e2).trans e3).trans e') a c z
  · have e : i = ds.length := by omega
    subst e
    rw [List.drop_length] at h3
    cases h3
    exact .inl ⟨jst _ (Nat.le_refl _), q σ2 r2 H2 (e1.trans e2) he2 hs2⟩
end

section
variable {X : Cx} {W : WXd} {tg iter : Expr}
theorem ds_for {body : List Stmt} {fi : FI} {g : FG} {b : FS} {pos : Pos} (hp : PassesOwn (model X.prog X.w) X.A X.env X.xe) (hc : X.calm = true) (hi : DI X tg iter fi) (hg : DG X tg g) (hb : DSs X W body b)
    (hs : ∀ x, foldedSetIterable iter X.env x = pure x := by intro _; rfl) : DS X W (.For tg iter body [] pos) (sFor fi g b) := ds_forR hp hc hi hg hb hs
end
/-! ### a new object that is being made: hidden, then shown as a value, or taken into the store -/
def Rf.hide (r : Rf) (p : Addr) : Rf := ⟨r.adr, fun a => r.av a ∨ a = p, r.lk⟩
def Rf.shown (r : Rf) (p : Addr) : Rf := ⟨r.adr, fun a => r.av a ∧ a ≠ p, r.lk⟩
def Rf.add (r : Rf) (p : Addr) : Rf := ⟨r.adr ++ [p], r.av, r.lk⟩
structure Hid (K : PySem.W.Frag) (r : Rf) (H : Hp) (st : Store) (p : Addr) : Prop where
  av : r.av p
  na : p ∉ r.adr
  nl : ¬ r.lk p
  sim : Sim K r H st
theorem hideNew {r : Rf} {H : Hp} {st : Store} {p : Addr} {o : HO} (q1 : Sim K r H st) (hD : H p = none) : Ext r H (r.hide p) (upd H p o) ∧ Hid K (r.hide p) (upd H p o) st p := by
  have e0 : Ext r H (r.hide p) (upd H p o) := ⟨⟨⟨[], by simp [Rf.hide]⟩, fun a x h _ => same_alloc hD a x h, fun a h n => by
    rcases h with h | h
    · exact absurd h n
    · rw [h]; exact hD⟩, fun a b c => ⟨by obtain ⟨o, h⟩ := q1.there a b; rw [h]; exact same_alloc hD a o h, .inl b, c⟩, fun _ => Iff.rfl, fun a b => by obtain ⟨o, u, h⟩ := q1.lkd a b; rw [h]; exact same_alloc hD a _ h⟩
  refine ⟨e0, .inr rfl, fun z => ?_, fun z => ?_, q1.len, q1.nd, fun n a x h1 h2 => (q1.ob n a x h1 h2).ex e0.toEx (fun v => ⟨?_, .inl v⟩), fun a v => ?_, fun a v => ?_, fun a v => ?_⟩
  · obtain ⟨x, y⟩ := q1.old p z
    rw [hD] at y; cases y
  · obtain ⟨o, u, y⟩ := q1.lkd p z
    rw [hD] at y; cases y
  · obtain ⟨x, z⟩ := q1.there a v
    rw [z]; exact same_alloc hD a x z
  · rcases v with v | v
    · obtain ⟨x, z⟩ := q1.there a v
      exact ⟨x, same_alloc hD a x z⟩
    · exact ⟨_, by rw [v]; exact upd_same⟩
  · obtain ⟨x, z⟩ := q1.old a v
    exact ⟨x, same_alloc hD a x z⟩
  · obtain ⟨o, u, z⟩ := q1.lkd a v
    exact ⟨o, u, same_alloc hD a _ z⟩
theorem Hid.ext {r r' : Rf} {H H' : Hp} {st st' : Store} {p : Addr} (h : Hid K r H st p) (e : Ext r H r' H') (s : Sim K r' H' st') : Hid K r' H' st' p ∧ H' p = H p :=
  let ⟨a, b, c⟩ := e.hid p h.av h.na; ⟨⟨b, c, fun z => h.nl ((e.hd.lke p).mp z), s⟩, a⟩
/-- the hidden object is taken into the store -/
theorem Hid.add {r r0 : Rf} {H H0 : Hp} {st st0 : Store} {p : Addr} {o : HO} {ob : Ob} (h : Hid K r H st p) (e : Ext r0 H0 r H) (q0 : Sim K r0 H0 st0) (hn : H0 p = none) (hob : ObR K (r.add p) (upd H p o) p ob) :
    Ext r0 H0 (r.add p) (upd H p o) ∧ Sim K (r.add p) (upd H p o) (st ++ [ob]) ∧ ∀ d, d = D.ref st.length → Rep K (r.add p) (upd H p o) (.ref p) d := by
  have ex : Ex r H (r.add p) (upd H p o) := ⟨⟨[p], rfl⟩, fun q x z n => by rw [upd_ne (fun y => n (by rw [y]; exact h.av))]; exact z, fun q z n => absurd z n⟩
  have nlk : ∀ q, r.lk q → q ≠ p := fun q z y => h.nl (by rw [← y]; exact z)
  refine ⟨⟨e.toEx.trans ex, fun q a b => ?_, e.hd.lke, fun q z => by rw [upd_ne (nlk q ((e.hd.lke q).mpr z))]; exact e.hd.lks q z⟩, ⟨?_, ?_, fun n a x h1 h2 => ?_, fun q v => ?_, fun q v => ?_, fun q v => ?_⟩, fun d hd => ?_⟩
  · obtain ⟨z1, z2, z3⟩ := e.hid q a b
    have nq : q ≠ p := fun y => by
      obtain ⟨x, z⟩ := q0.there q a
      rw [y, hn] at z; cases z
    exact ⟨by rw [upd_ne nq]; exact z1, z2, fun z => by
      rcases List.mem_append.mp z with z | z
      · exact z3 z
      · exact nq (List.mem_singleton.mp z)⟩
  · show (r.adr ++ [p]).length = (st ++ [ob]).length
    rw [List.length_append, List.length_append, h.sim.len]; rfl
  · exact List.nodup_append.mpr ⟨h.sim.nd, by simp, fun a ha b hb e => h.na (by rw [List.mem_singleton.mp hb] at e; rw [← e]; exact ha)⟩
  · by_cases hlt : n < r.adr.length
    · have h1' : r.adr[n]? = some a := by
        have : (r.adr ++ [p])[n]? = some a := h1
        rwa [List.getElem?_append_left hlt] at this
      have h2' : st[n]? = some x := by rwa [List.getElem?_append_left (by rw [← h.sim.len]; exact hlt)] at h2
      exact (h.sim.ob n a x h1' h2').ex ex fun v => ⟨by rw [upd_ne (fun y => h.na (by rw [← y]; exact List.mem_of_getElem? h1'))], v⟩
    · have hl : n = r.adr.length := by
        have : n < (r.adr ++ [p]).length := (List.getElem?_eq_some_iff.mp (show (r.adr ++ [p])[n]? = some a from h1)).1
        rw [List.length_append, List.length_singleton] at this
        omega
      have e1 : a = p := by
        have : (r.adr ++ [p])[n]? = some a := h1
        rw [hl, List.getElem?_append_right (Nat.le_refl _), Nat.sub_self] at this
        exact (Option.some.inj this).symm
      have e2 : x = ob := by
        rw [hl, h.sim.len, List.getElem?_append_right (Nat.le_refl _), Nat.sub_self] at h2
        exact (Option.some.inj h2).symm
      rw [e1, e2]; exact hob
  · by_cases z : q = p
    · exact ⟨_, by rw [z]; exact upd_same⟩
    · rw [upd_ne z]; exact h.sim.there q v
  · by_cases z : q = p
    · exact ⟨_, by rw [z]; exact upd_same⟩
    · rw [upd_ne z]
      rcases List.mem_append.mp v with v | v
      · exact h.sim.old q v
      · exact absurd (List.mem_singleton.mp v) z
  · rw [upd_ne (nlk q v)]; exact h.sim.lkd q v
  · subst hd
    refine .ref ?_
    show (r.adr ++ [p])[st.length]? = some p
    rw [← h.sim.len, List.getElem?_append_right (Nat.le_refl _), Nat.sub_self]; rfl
/-! ### list comprehensions of one clause, the target one name or several (slots is) -/
def setL {α : Type} : List Nat → List α → List (Option α) → List (Option α)
  | i :: is, v :: vs, σ => setL is vs (σ.set i (some v))
  | _, _, σ => σ
theorem setL_length {α : Type} : ∀ (is : List Nat) (vs : List α) (σ : List (Option α)), (setL is vs σ).length = σ.length
  | [], _, _ => rfl
  | _ :: _, [], _ => rfl
  | i :: is, v :: vs, σ => by unfold setL; rw [setL_length is vs, List.length_set]
theorem setL_out {α : Type} {j : Nat} : ∀ (is : List Nat) (vs : List α) (σ : List (Option α)), j ∉ is → (setL is vs σ)[j]? = σ[j]?
  | [], _, _, _ => rfl
  | _ :: _, [], _, _ => rfl
  | i :: is, v :: vs, σ, h => by
    unfold setL
    rw [setL_out is vs _ (fun z => h (List.mem_cons_of_mem _ z)), List.getElem?_set_ne (fun z => h (by rw [z]; exact List.mem_cons_self))]
theorem wipe_in {σ : L2.St} {j : Nat} : ∀ {is : List Nat}, j ∈ is → (wipe σ is)[j]? = σ[j]?.map fun _ => none
  | [], h => by cases h
  | i :: is, h => by
    unfold wipe
    by_cases z : i = j
    · subst z
      by_cases hi : i < σ.length
      · rw [List.getElem?_set_self (by rw [wipe_length]; exact hi), List.getElem?_eq_getElem hi]; rfl
      · rw [List.getElem?_eq_none (by rw [List.length_set, wipe_length]; omega), List.getElem?_eq_none (by omega)]; rfl
    · rw [List.getElem?_set_ne z]
      rcases List.mem_cons.mp h with e | e
      · exact absurd e.symm z
      · exact wipe_in e
theorem wipe_setL (σ : L2.St) (is : List Nat) (vs : List V) : wipe (setL is vs (wipe σ is)) is = wipe σ is := by
  refine List.ext_getElem? fun j => ?_
  by_cases h : j ∈ is
  · rw [wipe_in h]
    by_cases hj : j < σ.length
    · have h1 : j < (setL is vs (wipe σ is)).length := by rw [setL_length, wipe_length]; exact hj
      have h2 : j < (wipe σ is).length := by rw [wipe_length]; exact hj
      rw [List.getElem?_eq_getElem h1, wipe_in h, List.getElem?_eq_getElem hj]; rfl
    · rw [List.getElem?_eq_none (by rw [setL_length, wipe_length]; omega), List.getElem?_eq_none (by rw [wipe_length]; omega)]; rfl
  · rw [wipe_out h, setL_out is vs _ h]
/-- the slots of a block's own names, forgotten -/
def wipeL (env : Lo) : List Nat → Lo
  | [] => env
  | i :: is => (wipeL env is).set i none
theorem EnvR.wipeL {r : Rf} {H : Hp} {env : Lo} {σ : L2.St} (h : EnvR K r H env σ) : ∀ is : List Nat, EnvR K r H (DL.wipeL env is) (L2.wipe σ is)
  | [] => h
  | i :: is => EnvR.wipe (EnvR.wipeL h is) i
theorem EnvR.setL {r : Rf} {H : Hp} : ∀ {is : List Nat} {vs : List V} {ds : List D} {env : Lo} {σ : L2.St}, EnvR K r H env σ → RepL K r H vs ds → EnvR K r H (DL.setL is ds env) (DL.setL is vs σ)
  | [], _, _, _, _, h, _ => h
  | _ :: _, _, _, _, _, h, .nil => h
  | i :: is, _ :: _, _ :: _, env, σ, h, .cons a b => by
    have := EnvR.setL (is := is) (EnvR.set h a i) b
    exact this
/-- how a target takes an item -/
abbrev FB := D → Option (List D)
def b1 : FB := fun d => some [d]
def bT (n : Nat) : FB := fun d => match d with | .tup ds => if ds.length = n then some ds else none | _ => none
def loopC (is : List Nat) (bd : FB) (t : FT) (f : F) : List D → Lo → Store → Option (List D × Store)
  | [], _, st => some ([], st)
  | d :: ds, env, st => (bd d).bind fun vs => (t (setL is vs env) st).bind fun p => if p.1 = true then (f (setL is vs env) p.2).bind fun q => (loopC is bd t f ds env q.2).map fun z => (q.1 :: z.1, z.2) else loopC is bd t f ds env p.2
def fComp (fi : FI) (is : List Nat) (bd : FB) (t : FT) (f : F) : F := fun env st => (fi env st).bind fun p => (loopC is bd t f p.1 (wipeL env is) p.2).bind fun q => if q.1.length ≤ sizeLine then some (.lst q.1, q.2) else none
/-- a raw target -/
def TgOkR (K : PySem.W.Frag) (R : RD) (g : TG) (is : List Nat) (bd : FB) : Prop := ∀ r H x d σ (Q : L2.St → Hp → Prop) vals, R r H x d → bd d = some vals → (∀ vs, RepL K r H vs vals → Q (setL is vs σ) H) → g x σ H Q
abbrev TgOk (K : PySem.W.Frag) (g : TG) (is : List Nat) (bd : FB) : Prop := TgOkR K (Rep K) g is bd
theorem tg1 (i : Nat) : TgOk K (gName i) [i] b1 := fun r H x d σ Q vals hr hb q => by
  cases hb
  exact q [x] (.cons hr .nil)
def tTrue : FT := fun _ st => some (true, st)
abbrev DTs (X : Cx) (ifs : List Expr) (t : FT) : Prop := PTs X ifs (tT X.K t)
section
variable {X : Cx} {W : WXd} {tg iter : Expr}
theorem weakTs {ifs : List Expr} {t t' : TT} (h : PTs X ifs t) (i : ∀ σ H Q, t' σ H Q → t σ H Q) : PTs X ifs t' := ⟨fun pins s σ H Q I q => h.run pins s σ H Q I (i σ H Q q)⟩
theorem dts_nil : DTs X [] tTrue := weakTs pts_nil fun σ H Q hh => by
  obtain ⟨r, env, st, b, st', he, hs, hf, q⟩ := hh
  cases hf
  exact q r H (.refl r H) hs
theorem dts_one {c : Expr} {t : FT} (h : DT X c t) : DTs X [c] t := pts_one h
/-- the object p is being made since (r1, H1): nothing leans on it -/
structure Mkg (K : PySem.W.Frag) (r1 : Rf) (H1 : Hp) (p : Addr) (r : Rf) (H : Hp) (st : Store) : Prop where
  ex : Ext r1 H1 r H
  av : r.av p
  na : p ∉ r.adr
  nl : ¬ r.lk p
  sim : Sim K r H st
theorem EnvR.exx {r r' : Rf} {H H' : Hp} {env : Lo} {σ : L2.St} (h : EnvR K r H env σ) (e : Ex r H r' H') : EnvR K r' H' env σ := ⟨h.len, fun j dd z => let ⟨v, a, b⟩ := h.at_ j dd z; ⟨v, a, b.ex e⟩⟩
theorem Mkg.start {r1 : Rf} {H1 : Hp} {s1 : Store} {p : Addr} {o : HO} (q1 : Sim K r1 H1 s1) (hD : H1 p = none) : Mkg K r1 H1 p (r1.hide p) (upd H1 p o) s1 :=
  let ⟨e0, hd0⟩ := hideNew (o := o) q1 hD; ⟨e0, hd0.av, hd0.na, hd0.nl, hd0.sim⟩
theorem Mkg.step {r1 r r' : Rf} {H1 H H' : Hp} {st st' : Store} {p : Addr} (m : Mkg K r1 H1 p r H st) (e : Ext r H r' H') (s : Sim K r' H' st') : Mkg K r1 H1 p r' H' st' ∧ H' p = H p :=
  let ⟨a, b, c⟩ := e.hid p m.av m.na; ⟨⟨m.ex.trans e, b, c, fun z => m.nl ((e.hd.lke p).mp z), s⟩, a⟩
theorem Mkg.put {r1 r : Rf} {H1 H : Hp} {st s1 : Store} {p : Addr} (m : Mkg K r1 H1 p r H st) (q1 : Sim K r1 H1 s1) (hD : H1 p = none) (o : HO) : Mkg K r1 H1 p r (upd H p o) st ∧ Ex r H r (upd H p o) := by
  have e : Ex r H r (upd H p o) := ⟨⟨[], by simp⟩, fun a x h n => by rw [upd_ne (fun z => n (by rw [z]; exact m.av))]; exact h, fun a h n => absurd h n⟩
  have av0 : ∀ a, r1.av a → a ≠ p := fun a h z => by
    obtain ⟨x, y⟩ := q1.there a h
    rw [z, hD] at y; cases y
  have lk0 : ∀ a, r1.lk a → a ≠ p := fun a h z => by
    obtain ⟨x, u, y⟩ := q1.lkd a h
    rw [z, hD] at y; cases y
  refine ⟨⟨⟨m.ex.toEx.trans e, fun a h n => ?_, m.ex.hd.lke, fun a h => ?_⟩, m.av, m.na, m.nl, m.sim.len, m.sim.nd, fun n a x h1 h2 => (m.sim.ob n a x h1 h2).ex e fun v => ⟨?_, v⟩, fun a v => ?_, fun a v => ?_, fun a v => ?_⟩, e⟩
  · obtain ⟨z1, z2, z3⟩ := m.ex.hid a h n
    exact ⟨by rw [upd_ne (av0 a h)]; exact z1, z2, z3⟩
  · rw [upd_ne (lk0 a h)]; exact m.ex.hd.lks a h
  · rw [upd_ne (fun z => m.na (by rw [← z]; exact List.mem_of_getElem? h1))]
  · by_cases z : a = p
    · exact ⟨_, by rw [z]; exact upd_same⟩
    · rw [upd_ne z]; exact m.sim.there a v
  · by_cases z : a = p
    · exact ⟨_, by rw [z]; exact upd_same⟩
    · rw [upd_ne z]; exact m.sim.old a v
  · rw [upd_ne (fun z => m.nl (by rw [← z]; exact v))]; exact m.sim.lkd a v
theorem Mkg.show {r1 r : Rf} {H1 H : Hp} {st s1 : Store} {p : Addr} (m : Mkg K r1 H1 p r H st) (q1 : Sim K r1 H1 s1) (hD : H1 p = none) : Ext r1 H1 (r.shown p) H ∧ Sim K (r.shown p) H st ∧ Ex r H (r.shown p) H := by
  have es : Ex r H (r.shown p) H := ⟨⟨[], by simp [Rf.shown]⟩, fun p o h _ => h, fun p h n => absurd h.1 n⟩
  refine ⟨⟨⟨m.ex.pre, fun a o h n => m.ex.keep a o h n, fun a h n => m.ex.new a h.1 n⟩, fun a h n => ?_, m.ex.hd.lke, m.ex.hd.lks⟩, ⟨m.sim.len, m.sim.nd, fun n a o h1 h2 => (m.sim.ob n a o h1 h2).ex es fun v => ⟨rfl, v, fun z => m.na (by rw [← z]; exact List.mem_of_getElem? h1)⟩, fun a v => m.sim.there a v.1, m.sim.old, m.sim.lkd⟩, es⟩
  obtain ⟨z1, z2, z3⟩ := m.ex.hid a h n
  exact ⟨z1, ⟨z2, fun z => by
    obtain ⟨x, y⟩ := q1.there a h
    rw [z, hD] at y; cases y⟩, z3⟩
theorem compReads {RR : RD} {fi : FI} {is : List Nat} {bd : FB} {g : TG} {t : FT} {f : F} (hg : TgOkR K RR g is bd) (σ : L2.St) (H : Hp) (Q : VK) (hh : tD K (fComp fi is bd t f) σ H Q) : tLc (tIR K RR fi) g (tT K t) (tD K f) is σ H Q := by
  obtain ⟨r, env, st, d, st', he, hs, hf, q⟩ := hh
  obtain ⟨⟨ds, s1⟩, h1, h2⟩ := Option.bind_eq_some_iff.mp hf
  obtain ⟨⟨zs, s2⟩, h3, h4⟩ := Option.bind_eq_some_iff.mp h2
  by_cases hz : zs.length ≤ sizeLine
  case neg => rw [if_neg hz] at h4; cases h4
  rw [if_pos hz] at h4
  cases h4
  refine ⟨r, env, st, ds, s1, he, hs, h1, fun J r1 H1 e1 q1 j1 Dl hD => ?_⟩
  have m0 := Mkg.start (o := .lst []) q1 hD
  refine ⟨fun k m H2 => m = ds.length - k ∧ k ≤ ds.length ∧ ∃ r2 st2 acc us ys, Mkg K r1 H1 Dl r2 H2 st2 ∧ EnvR K r2 H2 (DL.wipeL env is) (wipe σ is) ∧ H2 Dl = some (.lst us) ∧ RepL K r2 H2 us acc ∧
    loopC is bd t f (ds.drop k) (DL.wipeL env is) st2 = some (ys, s2) ∧ acc ++ ys = zs, ⟨_, rfl, Nat.zero_le _, r1.hide Dl, s1, [], [], zs, m0, ((he.ext e1).ext m0.ex).wipeL is, upd_same, .nil, h3, rfl⟩, ?_⟩
  rintro k m H2 ⟨rfl, hk, r2, st2, acc, us, ys, mk, wp, hus, racc, hl, hcat⟩
  obtain ⟨jst, jgo⟩ := j1 r2 H2 st2 mk.ex mk.sim
  by_cases hlt : k < ds.length
  case neg =>
    have e : k = ds.length := by omega
    subst e
    rw [List.drop_length] at hl
    cases hl
    rw [List.append_nil] at hcat
    subst hcat
    obtain ⟨w1, w2, w3⟩ := mk.show q1 hD
    exact .inl ⟨jst _ (Nat.le_refl _), q (.ref Dl) (r2.shown Dl) H2 (e1.trans w1) w2 (.lst hus (fun z => z.2 rfl) (racc.ex w3))⟩
  case pos =>
    have hd : ds[k]? = some ds[k] := List.getElem?_eq_getElem hlt
    rw [List.drop_eq_getElem_cons hlt] at hl
    obtain ⟨vals, hv, hl1⟩ := Option.bind_eq_some_iff.mp hl
    obtain ⟨⟨b, st3⟩, hb, hl2⟩ := Option.bind_eq_some_iff.mp hl1
    obtain ⟨j2, j3⟩ := jgo k _ hd
    refine .inr ⟨j2, fun H' => k + 1 ≤ ds.length ∧ ∃ r2 st2 acc us ys, Mkg K r1 H1 Dl r2 H' st2 ∧ EnvR K r2 H' (DL.wipeL env is) (wipe σ is) ∧ H' Dl = some (.lst us) ∧ RepL K r2 H' us acc ∧
      loopC is bd t f (ds.drop (k + 1)) (DL.wipeL env is) st2 = some (ys, s2) ∧ acc ++ ys = zs, fun H' ⟨hk', w⟩ => ⟨ds.length - (k + 1), by omega, rfl, hk', w⟩, fun x H3 y => ?_⟩
    obtain ⟨r3, e3, s3, rx⟩ := j3 x H3 y
    have wp3 := wp.ext e3
    refine hg r3 H3 x _ _ _ vals rx hv fun vs rvs => ⟨wipe_setL σ is vs, ?_⟩
    · have he3 : EnvR K r3 H3 (DL.setL is vals (DL.wipeL env is)) (DL.setL is vs (wipe σ is)) := wp3.setL rvs
      refine ⟨r3, _, st2, b, st3, he3, s3, hb, fun r4 H4 e4 s4 => ?_⟩
      cases b with
      | false =>
        rw [if_neg Bool.false_ne_true] at hl2 ⊢
        obtain ⟨m4, k4⟩ := mk.step (e3.trans e4) s4
        exact ⟨hlt, r4, st3, acc, us, ys, m4, wp3.ext e4, k4.trans hus, racc.ext (e3.trans e4), hl2, hcat⟩
      | true =>
        rw [if_pos rfl] at hl2 ⊢
        obtain ⟨⟨yd, st4⟩, hy, hl3⟩ := Option.bind_eq_some_iff.mp hl2
        obtain ⟨⟨ys', st5⟩, hl4, hl5⟩ := Option.map_eq_some_iff.mp hl3
        cases hl5
        refine ⟨r4, _, st3, yd, st4, he3.ext e4, s4, hy, fun yv r5 H5 e5 s5 ry => ?_⟩
        have e25 : Ext r2 H2 r5 H5 := (e3.trans e4).trans e5
        obtain ⟨m5, k5⟩ := mk.step e25 s5
        obtain ⟨m6, g1⟩ := m5.put q1 hD (.lst (us ++ [yv]))
        refine ⟨us, k5.trans hus, ?_, hlt, r5, st4, acc ++ [yd], us ++ [yv], ys', m6, ((wp3.ext e4).ext e5).exx g1, upd_same, ((racc.ext e25).ex g1).append (.cons (ry.ex g1) .nil), hl4, by rw [← hcat, List.append_assoc]; rfl⟩
        rw [racc.len]
        have : (acc ++ yd :: ys').length ≤ sizeLine := by rw [hcat]; exact hz
        rw [List.length_append, List.length_cons] at this
        omega
/-- [elt for x in xs if ..] -/
theorem de_lc {RR : RD} {elt : Expr} {ifs : List Expr} {scope : Scope} {own : List (Str × Nat)} {pos : Pos} {fi : FI} {bd : FB} {g : TG} {t : FT} {f : F} (hc : X.calm = true) (hN : X.N.Nodup) (hi : DIR X RR tg iter fi) (ok : BlkOk X.N X.env.scope scope own)
    (tk : TgOkR X.K RR g (own.map (·.2)) bd)
    (hg : ∀ (s : Shared) (H : Hp) (C : Addr) (cl : List (Str × Addr)) (fp : List Addr), PG (X.blk s H scope (compEnvC scope cl C X.env) fp) tg g) (ht : ∀ (s : Shared) (H : Hp) (C : Addr) (cl : List (Str × Addr)) (fp : List Addr), DTs (X.blk s H scope (compEnvC scope cl C X.env) fp) ifs t)
    (he : ∀ (s : Shared) (H : Hp) (C : Addr) (cl : List (Str × Addr)) (fp : List Addr), DE (X.blk s H scope (compEnvC scope cl C X.env) fp) elt f) (hs : ∀ x, foldedSetIterable iter X.env x = pure x := by intro _; rfl) :
    DE X (.ListComp elt [⟨tg, iter, ifs, 0⟩] scope pos) (fComp fi (own.map (·.2)) bd t f) := weakE (pe_lc hc hN hi ok hg ht he hs) fun σ H Q hh => compReads tk σ H Q hh
/-- y = [elt for x in xs if ..] on one line -/
theorem ds_setLc {RR : RD} {i : Nat} {y : Str} {py : Pos} {elt : Expr} {ifs : List Expr} {scope : Scope} {own : List (Str × Nat)} {pos spos : Pos} {fi : FI} {bd : FB} {g : TG} {t : FT} {f : F} (hc : X.calm = true) (hN : X.N.Nodup) (hy : X.N[i]? = some y) (hyl : X.env.scope.names.lookup y = some .local)
    (hsw : swapsWith (.ListComp elt [⟨tg, iter, ifs, 0⟩] scope pos) (some (.Name y py)) spos.line X.env = pure true) (hi : DIR X RR tg iter fi) (ok : BlkOk X.N X.env.scope scope own)
    (tk : TgOkR X.K RR g (own.map (·.2)) bd)
    (hg : ∀ (s : Shared) (H : Hp) (C : Addr) (cl : List (Str × Addr)) (fp : List Addr), PG (X.blk s H scope (compEnvC scope cl C X.env) fp) tg g) (ht : ∀ (s : Shared) (H : Hp) (C : Addr) (cl : List (Str × Addr)) (fp : List Addr), DTs (X.blk s H scope (compEnvC scope cl C X.env) fp) ifs t)
    (he : ∀ (s : Shared) (H : Hp) (C : Addr) (cl : List (Str × Addr)) (fp : List Addr), DE (X.blk s H scope (compEnvC scope cl C X.env) fp) elt f) (hs : ∀ x, foldedSetIterable iter X.env x = pure x := by intro _; rfl) :
    DS X W (.Assign [.Name y py] (.ListComp elt [⟨tg, iter, ifs, 0⟩] scope pos) spos) (sAsg (fComp fi (own.map (·.2)) bd t f) (gN i)) := weakS (ps_setLc hc hN hy hyl hsw hi ok hg ht he hs) fun D' σ H hh => by
  obtain ⟨r, env, st, o, env', st', he, hs, hf, q⟩ := hh
  obtain ⟨⟨d, s1⟩, h1, h2⟩ := Option.bind_eq_some_iff.mp hf
  obtain ⟨e1, h3, h4⟩ := Option.map_eq_some_iff.mp h2
  cases h4
  cases h3
  exact compReads tk σ H _ ⟨r, env, st, d, _, he, hs, h1, fun v r1 H1 x1 q1 p1 => q _ r1 H1 x1 ((he.ext x1).set p1 i) q1⟩
end
end DL
namespace DL
open PySem PySem.Spec PyProof.Rows L2
open Builtin.Int (intBits)
variable {K : PySem.W.Frag}
/-- a rule by kinds: one of several -/
def R2Ok (K : PySem.W.Frag) (r : R2) (g : D → D → Option D) : Prop :=
  ∀ (rho : Rf) (H : Hp) (x y : V) (a b d : D) (st : Store) (Q : VK), Sim K rho H st → Rep K rho H x a → Rep K rho H y b → g a b = some d → (∀ v H', Same H H' → Rep K rho H' v d → Q v H') → r x y H Q
section
variable {X : Cx} {W : WXd}
/-- the first of two functions that answers -/
def orD (g g' : D → D → Option D) : D → D → Option D := fun a b => (g a b).or (g' a b)
theorem OpOk.or {f : Value → Value → Sem Value} {g g' : D → D → Option D} (h : OpOk X f g) (h' : OpOk X f g') : OpOk X f (orD g g') := by
  obtain ⟨r, hr, k⟩ := h
  obtain ⟨r', hr', k'⟩ := h'
  refine ⟨_, hr.or hr', fun rho H x y a b d st Q si ra rb e q => ?_⟩
  unfold orD at e
  cases z : g a b with
  | some c =>
    rw [z] at e
    cases e
    exact .inl (k rho H x y a b _ st Q si ra rb z q)
  | none =>
    rw [z] at e
    exact .inr (k' rho H x y a b d st Q si ra rb e q)
/-- two ints, under a condition -/
def onI (c : Int → Int → Prop) [∀ i j, Decidable (c i j)] (g : Int → Int → D) : D → D → Option D := fun a b => match a, b with
  | .int i, .int j => if c i j then some (g i j) else none
  | _, _ => none
theorem onI_some {c : Int → Int → Prop} [∀ i j, Decidable (c i j)] {g : Int → Int → D} {a b d : D} (h : onI c g a b = some d) : ∃ i j, a = .int i ∧ b = .int j ∧ c i j ∧ d = g i j := by
  cases a <;> cases b <;> first
    | cases h; done
    | skip
  rename_i i j
  have h' : (if c i j then some (g i j) else none) = some d := h
  by_cases z : c i j
  · rw [if_pos z] at h'
    cases h'
    exact ⟨i, j, rfl, rfl, z, rfl⟩
  · rw [if_neg z] at h'
    cases h'
theorem ok_int {f : Value → Value → Sem Value} {c C : Int → Int → Prop} [∀ i j, Decidable (c i j)] {g : Int → Int → Int} (h : OpR X f (rI C fun i j => .int (g i j))) (hc : ∀ i j, c i j → C i j) : OpOk X f (onI c fun i j => .int (g i j)) :=
  ⟨_, h, fun rho H x y a b d st Q si ra rb e q => by
    obtain ⟨i, j, rfl, rfl, z, rfl⟩ := onI_some e
    cases ra
    cases rb
    exact ⟨i, j, rfl, rfl, hc i j z, q _ H (fun _ _ h => h) (.int _)⟩⟩
theorem ok_int0 {f : Value → Value → Sem Value} {g : Int → Int → Int} (h : OpR X f (rI0 fun i j => .int (g i j))) : OpOk X f (onI (fun _ _ => True) fun i j => .int (g i j)) :=
  ⟨_, h, fun rho H x y a b d st Q si ra rb e q => by
    obtain ⟨i, j, rfl, rfl, z, rfl⟩ := onI_some e
    cases ra
    cases rb
    exact ⟨i, j, rfl, rfl, q _ H (fun _ _ h => h) (.int _)⟩⟩
theorem ok_intB {f : Value → Value → Sem Value} {g : Int → Int → Bool} (h : OpR X f (rI0 fun i j => .bl (g i j))) : OpOk X f (onI (fun _ _ => True) fun i j => .bl (g i j)) :=
  ⟨_, h, fun rho H x y a b d st Q si ra rb e q => by
    obtain ⟨i, j, rfl, rfl, z, rfl⟩ := onI_some e
    cases ra
    cases rb
    exact ⟨i, j, rfl, rfl, q _ H (fun _ _ h => h) (.bl _)⟩⟩
/-- two texts -/
def onS (c : Str → Str → Prop) [∀ i j, Decidable (c i j)] (g : Str → Str → D) : D → D → Option D := fun a b => match a, b with
  | .str i, .str j => if c i j then some (g i j) else none
  | _, _ => none
theorem onS_some {c : Str → Str → Prop} [∀ i j, Decidable (c i j)] {g : Str → Str → D} {a b d : D} (h : onS c g a b = some d) : ∃ i j, a = .str i ∧ b = .str j ∧ c i j ∧ d = g i j := by
  cases a <;> cases b <;> first
    | cases h; done
    | skip
  rename_i i j
  have h' : (if c i j then some (g i j) else none) = some d := h
  by_cases z : c i j
  · rw [if_pos z] at h'
    cases h'
    exact ⟨i, j, rfl, rfl, z, rfl⟩
  · rw [if_neg z] at h'
    cases h'

/-! ### + - * // % ** -/
def addI : D → D → Option D := onI (fun _ _ => True) fun i j => .int (i + j)
theorem ok_addI : OpOk X (binaryOp .Add) addI := ok_int0 op_add
def subI : D → D → Option D := onI (fun _ _ => True) fun i j => .int (i - j)
theorem ok_subI : OpOk X (binaryOp .Sub) subI := ok_int0 op_sub
def mulI : D → D → Option D := onI (fun i j => intBits i + intBits j ≤ 134217728) fun i j => .int (i * j)
theorem op_mulL : OpR X (binaryOp .Mult) (rI IntMulOk fun i j => .int (i * j)) := opI fun _ _ _ _ _ _ _ hc q => mul_int q hc
theorem ok_mulI : OpOk X (binaryOp .Mult) mulI := ok_int op_mulL fun i j h => IntMulOk.of_le (Nat.le_refl _) (Nat.le_refl _) h
def fdivI : D → D → Option D := onI (fun _ j => 0 < j ∧ j < 1073741824) fun i j => .int (i / j)
theorem ok_fdivI : OpOk X (binaryOp .FloorDiv) fdivI := ok_int op_fdiv fun i j h => h
def modI : D → D → Option D := onI (fun _ j => 0 < j) fun i j => .int (i % j)
theorem ok_modI : OpOk X (binaryOp .Mod) modI := ok_int op_mod fun i j h => h
def powI : D → D → Option D := onI (fun i j => 0 ≤ j ∧ (intBits i : Int) * j ≤ 2 ^ 27) fun i j => .int (i ^ j.toNat)
theorem op_powL : OpR X (binaryOp .Pow) (rI (fun i j => 0 ≤ j ∧ (intBits i : Int) * j ≤ 2 ^ 27) fun i j => .int (i ^ j.toNat)) := opI fun _ _ _ _ _ _ _ hc q => pow_int hc.1 hc.2 q
theorem ok_powI : OpOk X (binaryOp .Pow) powI := ok_int op_powL fun i j h => h
def addS : D → D → Option D := onS (fun i j => i.length + j.length ≤ sizeLine) fun i j => .str (i ++ j)
theorem ok_addS : OpOk X (binaryOp .Add) addS := ⟨_, op_add_str, fun rho H x y a b d st Q si ra rb e q => by
  obtain ⟨i, j, rfl, rfl, z, rfl⟩ := onS_some e
  cases ra
  cases rb
  exact ⟨i, j, rfl, rfl, z, q _ H (fun _ _ h => h) (.str _)⟩⟩
def addL : D → D → Option D := fun a b => match a, b with
  | .lst xs, .lst ys => if xs.length + ys.length ≤ sizeLine then some (.lst (xs ++ ys)) else none
  | _, _ => none
theorem ok_addL : OpOk X (binaryOp .Add) addL := ⟨_, op_cat, fun rho H x y a b d st Q si ra rb e q => by
  cases a <;> cases b <;> first
    | cases e; done
    | skip
  rename_i xs ys
  have e' : (if xs.length + ys.length ≤ sizeLine then some (D.lst (xs ++ ys)) else none) = some d := e
  by_cases z : xs.length + ys.length ≤ sizeLine
  · rw [if_pos z] at e'
    cases e'
    cases ra with
    | lst a1 a2 a3 =>
      cases rb with
      | lst b1 b2 b3 =>
        refine ⟨_, _, _, _, rfl, rfl, a1, b1, by rw [a3.len, b3.len]; exact z, fun p hp => ?_⟩
        exact q _ _ (same_alloc hp) (.lst upd_same (si.free hp) ((a3.append b3).ex (Ex.same rho (same_alloc hp))))
  · rw [if_neg z] at e'
    cases e'⟩
/-- t + u -/
def addT : D → D → Option D := fun a b => match a, b with
  | .tup xs, .tup ys => if xs.length + ys.length ≤ sizeLine then some (.tup (xs ++ ys)) else none
  | _, _ => none
theorem ok_addT : OpOk X (binaryOp .Add) addT := ⟨_, op_catF, fun rho H x y a b d st Q si ra rb e q => by
  cases a <;> cases b <;> first
    | cases e; done
    | skip
  rename_i xs ys
  have e' : (if xs.length + ys.length ≤ sizeLine then some (D.tup (xs ++ ys)) else none) = some d := e
  by_cases z : xs.length + ys.length ≤ sizeLine
  · rw [if_pos z] at e'
    cases e'
    obtain ⟨pa, us, rfl, sa, la⟩ := ra.sqT
    obtain ⟨pb, vs, rfl, sb, lb⟩ := rb.sqT
    refine ⟨pa, pb, us, vs, rfl, rfl, sa, sb, by rw [la.len, lb.len]; exact z, fun h => ?_, fun _ h2 => ?_, fun p o hp hz => ?_⟩
    · subst h
      cases la
      exact q _ H (fun _ _ h => h) rb
    · subst h2
      cases lb
      rw [List.append_nil] at q
      exact q _ H (fun _ _ h => h) ra
    · exact q _ _ (same_alloc hp) (.tup upd_same hz (si.free hp) ((la.append lb).ex (Ex.same rho (same_alloc hp))))
  · rw [if_neg z] at e'
    cases e'⟩
/-- x * n of a text -/
def mulS : D → D → Option D := fun a b => match a, b with
  | .str x, .int n => if 0 ≤ n ∧ n ≤ 1000 ∧ x.length ≤ 1000 then some (.str (Txt.mul x n)) else none
  | _, _ => none
theorem mulOk_small {x : Str} {n : Int} (h0 : 0 ≤ n) (h1 : n ≤ 1000) (h2 : x.length ≤ 1000) : MulOk x n := by
  refine ⟨?_, fun h _ => ?_, fun _ _ => ?_⟩
  · have a : ¬ n < -(2 ^ 63 : Int) := by omega
    have b : ¬ n ≥ 2 ^ 63 := by omega
    rw [decide_eq_false a, decide_eq_false b]; rfl
  · have hn : 0 < n := by omega
    intro z
    have : (2 ^ 63 - 1 : Int) / 1000 ≤ (2 ^ 63 - 1) / n := by
      refine Int.le_ediv_of_mul_le hn ?_
      omega
    omega
  · unfold Builtin.Str.tooLong
    have : x.length * n.toNat ≤ 1000 * 1000 := Nat.mul_le_mul h2 (by omega)
    have hs := sizeLine_eq
    rw [hs]
    exact decide_eq_false (by omega)
theorem op_mulS : OpR X (binaryOp .Mult) (fun x y H Q => ∃ i n, x = .str i ∧ y = .int n ∧ MulOk i n ∧ Q (.str (Txt.mul i n)) H) := by
  intro pins s σ H x y v u Q I rx ry h
  obtain ⟨i, n, rfl, rfl, hz, q⟩ := h
  obtain ⟨t, rfl⟩ := rx
  obtain ⟨t', rfl⟩ := ry
  exact SB.mul hz fun t' k => ⟨.str _, H, I.tok _, ⟨_, rfl⟩, q⟩
theorem ok_mulS : OpOk X (binaryOp .Mult) mulS := ⟨_, op_mulS, fun rho H x y a b d st Q si ra rb e q => by
  cases a <;> cases b <;> first
    | cases e; done
    | skip
  rename_i xs n
  have e' : (if 0 ≤ n ∧ n ≤ 1000 ∧ xs.length ≤ 1000 then some (D.str (Txt.mul xs n)) else none) = some d := e
  by_cases z : 0 ≤ n ∧ n ≤ 1000 ∧ xs.length ≤ 1000
  · rw [if_pos z] at e'
    cases e'
    cases ra
    cases rb
    exact ⟨xs, n, rfl, rfl, mulOk_small z.1 z.2.1 z.2.2, q _ H (fun _ _ h => h) (.str _)⟩
  · rw [if_neg z] at e'
    cases e'⟩
def opAdd : D → D → Option D := orD addI (orD addS (orD addL addT))
theorem ok_add : OpOk X (binaryOp .Add) opAdd := ok_addI.or (ok_addS.or (ok_addL.or ok_addT))
def opMul : D → D → Option D := orD mulI mulS
theorem ok_mul : OpOk X (binaryOp .Mult) opMul := ok_mulI.or ok_mulS

/-! ### comparisons -/
mutual
def toPy : D → Option PyData
  | .non => some .none
  | .bl b => some (.bool b)
  | .int i => some (.int i)
  | .str x => some (.str x)
  | .tup ds => (toPyL ds).map .tuple
  | .lst ds => (toPyL ds).map .list
  | .dct _ => none
  | .scr _ => none
  | .ref _ => none
def toPyL : List D → Option (List PyData)
  | [] => some []
  | d :: ds => (toPy d).bind fun p => (toPyL ds).map fun q => p :: q
end
mutual
theorem Rep.dp {r : Rf} {H : Hp} : ∀ {d : D} {v : V} {p : PyData}, Rep K r H v d → toPy d = some p → Dp K H v p
  | .non, _, _, .non, h => by cases h; exact .non
  | .bl _, _, _, .bl _, h => by cases h; exact .bl _
  | .int _, _, _, .int _, h => by cases h; exact .int _
  | .str _, _, _, .str _, h => by cases h; exact .str _
  | .tup ds, _, p, h, e => by
    obtain ⟨q, h1, h2⟩ := Option.map_eq_some_iff.mp (show (toPyL ds).map PyData.tuple = some p from e)
    subst h2
    obtain ⟨a, xs, rfl, s, l⟩ := h.sqT
    exact .tup s (RepL.dp l h1)
  | .lst ds, _, p, .lst a b c, e => by
    obtain ⟨q, h1, h2⟩ := Option.map_eq_some_iff.mp (show (toPyL ds).map PyData.list = some p from e)
    subst h2
    exact .lst (.of a) (RepL.dp c h1)
  | .dct _, _, _, _, e => by cases e
  | .scr _, _, _, _, e => by cases e
  | .ref _, _, _, _, e => by cases e
theorem RepL.dp {r : Rf} {H : Hp} : ∀ {ds : List D} {vs : List V} {ps : List PyData}, RepL K r H vs ds → toPyL ds = some ps → DpAll K H vs ps
  | [], _, _, .nil, h => by cases h; exact .nil
  | d :: ds, _, ps, .cons a b, h => by
    obtain ⟨p, h1, h2⟩ := Option.bind_eq_some_iff.mp (show ((toPy d).bind fun p => (toPyL ds).map fun q => p :: q) = some ps from h)
    obtain ⟨q, h3, h4⟩ := Option.map_eq_some_iff.mp h2
    subst h4
    exact .cons (Rep.dp a h1) (RepL.dp b h3)
end
def opEq : D → D → Option D := fun a b => (toPy a).bind fun p => (toPy b).bind fun q => if SeqAt.shaped p = true ∧ SeqAt.shaped q = true then some (.bl (PyData.eqv p q)) else none
def opNe : D → D → Option D := fun a b => (toPy a).bind fun p => (toPy b).bind fun q => if SeqAt.shaped p = true ∧ SeqAt.shaped q = true then some (.bl (!PyData.eqv p q)) else none
theorem ok_eq {k : Nat} (g : GX X k) : OpOk X (compareOp .Eq) opEq := ⟨_, op_eqD g.room.units, fun rho H x y a b d st Q si ra rb e q => by
  obtain ⟨p, h1, h2⟩ := Option.bind_eq_some_iff.mp e
  obtain ⟨p2, h3, h4⟩ := Option.bind_eq_some_iff.mp h2
  by_cases z : SeqAt.shaped p = true ∧ SeqAt.shaped p2 = true
  · rw [if_pos z] at h4
    cases h4
    exact ⟨p, p2, ra.dp h1, rb.dp h3, z.1, z.2, q _ H (fun _ _ h => h) (.bl _)⟩
  · rw [if_neg z] at h4
    cases h4⟩
theorem ok_ne {k : Nat} (g : GX X k) : OpOk X (compareOp .NotEq) opNe := ⟨_, op_neD g.room.units, fun rho H x y a b d st Q si ra rb e q => by
  obtain ⟨p, h1, h2⟩ := Option.bind_eq_some_iff.mp e
  obtain ⟨p2, h3, h4⟩ := Option.bind_eq_some_iff.mp h2
  by_cases z : SeqAt.shaped p = true ∧ SeqAt.shaped p2 = true
  · rw [if_pos z] at h4
    cases h4
    exact ⟨p, p2, ra.dp h1, rb.dp h3, z.1, z.2, q _ H (fun _ _ h => h) (.bl _)⟩
  · rw [if_neg z] at h4
    cases h4⟩
def ltI : D → D → Option D := onI (fun _ _ => True) fun i j => .bl (decide (i < j))
def leI : D → D → Option D := onI (fun _ _ => True) fun i j => .bl (decide (i ≤ j))
def gtI : D → D → Option D := onI (fun _ _ => True) fun i j => .bl (decide (j < i))
def geI : D → D → Option D := onI (fun _ _ => True) fun i j => .bl (decide (j ≤ i))
theorem op_gt_str : OpR X (compareOp .Gt) (fun x y H Q => ∃ i j, x = .str i ∧ y = .str j ∧ Q (.bl (decide (j.cps.toList < i.cps.toList))) H) := by
  intro pins s σ H x y v u Q I rx ry h
  obtain ⟨i, j, rfl, rfl, q⟩ := h
  obtain ⟨t, rfl⟩ := rx
  obtain ⟨t', rfl⟩ := ry
  exact PySem.P.gt_str (fin_bl I q rfl)
theorem op_ge_str : OpR X (compareOp .GtE) (fun x y H Q => ∃ i j, x = .str i ∧ y = .str j ∧ Q (.bl (!decide (i.cps.toList < j.cps.toList))) H) := by
  intro pins s σ H x y v u Q I rx ry h
  obtain ⟨i, j, rfl, rfl, q⟩ := h
  obtain ⟨t, rfl⟩ := rx
  obtain ⟨t', rfl⟩ := ry
  exact PySem.P.ge_str (fin_bl I q rfl)
def ltS : D → D → Option D := onS (fun _ _ => True) fun i j => .bl (decide (i.cps.toList < j.cps.toList))
def leS : D → D → Option D := onS (fun _ _ => True) fun i j => .bl (!decide (j.cps.toList < i.cps.toList))
def gtS : D → D → Option D := onS (fun _ _ => True) fun i j => .bl (decide (j.cps.toList < i.cps.toList))
def geS : D → D → Option D := onS (fun _ _ => True) fun i j => .bl (!decide (i.cps.toList < j.cps.toList))
theorem ok_strB {f : Value → Value → Sem Value} {g : Str → Str → Bool} (h : OpR X f (fun x y H Q => ∃ i j, x = .str i ∧ y = .str j ∧ Q (.bl (g i j)) H)) : OpOk X f (onS (fun _ _ => True) fun i j => .bl (g i j)) :=
  ⟨_, h, fun rho H x y a b d st Q si ra rb e q => by
    obtain ⟨i, j, rfl, rfl, z, rfl⟩ := onS_some e
    cases ra
    cases rb
    exact ⟨i, j, rfl, rfl, q _ H (fun _ _ h => h) (.bl _)⟩⟩
def opLt : D → D → Option D := orD ltI ltS
def opLe : D → D → Option D := orD leI leS
def opGt : D → D → Option D := orD gtI gtS
def opGe : D → D → Option D := orD geI geS
theorem ok_lt : OpOk X (compareOp .Lt) opLt := (ok_intB op_lt).or (ok_strB op_lt_str)
theorem ok_le : OpOk X (compareOp .LtE) opLe := (ok_intB op_le).or (ok_strB op_le_str)
theorem ok_gt : OpOk X (compareOp .Gt) opGt := (ok_intB op_gt).or (ok_strB op_gt_str)
theorem ok_ge : OpOk X (compareOp .GtE) opGe := (ok_intB op_ge).or (ok_strB op_ge_str)
/-- is None -/
def isNon : D → Bool | .non => true | _ => false
def isN : D → D → Option D := fun a b => match b with | .non => some (.bl (isNon a)) | _ => none
def isntN : D → D → Option D := fun a b => match b with | .non => some (.bl (!isNon a)) | _ => none
theorem rep_non {r : Rf} {H : Hp} {v : V} {a : D} (h : Rep K r H v a) : decide (v = .non) = isNon a := by cases h <;> rfl
theorem ok_isN : OpOk X (compareOp .Is) isN := ⟨_, op_isN, fun rho H x y a b d st Q si ra rb e q => by
  cases b with
  | non =>
    cases e
    cases rb
    exact ⟨rfl, by rw [rep_non ra]; exact q _ H (fun _ _ h => h) (.bl _)⟩
  | _ => cases e⟩
theorem ok_isntN : OpOk X (compareOp .IsNot) isntN := ⟨_, op_notN, fun rho H x y a b d st Q si ra rb e q => by
  cases b with
  | non =>
    cases e
    cases rb
    exact ⟨rfl, by rw [rep_non ra]; exact q _ H (fun _ _ h => h) (.bl _)⟩
  | _ => cases e⟩
def isB : D → D → Option D := fun a b => match a, b with | .bl x, .bl y => some (.bl (decide (x = y))) | _, _ => none
def isntB : D → D → Option D := fun a b => match a, b with | .bl x, .bl y => some (.bl (!decide (x = y))) | _, _ => none
theorem ok_isB : OpOk X (compareOp .Is) isB := ⟨_, op_isBl, fun rho H x y a b d st Q si ra rb e q => by
  cases a <;> cases b <;> first
    | cases e; done
    | skip
  cases ra
  cases rb
  cases e
  exact ⟨_, _, rfl, rfl, q _ H (fun _ _ h => h) (.bl _)⟩⟩
theorem ok_isntB : OpOk X (compareOp .IsNot) isntB := ⟨_, op_notBl, fun rho H x y a b d st Q si ra rb e q => by
  cases a <;> cases b <;> first
    | cases e; done
    | skip
  cases ra
  cases rb
  cases e
  exact ⟨_, _, rfl, rfl, q _ H (fun _ _ h => h) (.bl _)⟩⟩
def opIs : D → D → Option D := orD isN isB
def opIsnt : D → D → Option D := orD isntN isntB
theorem ok_is : OpOk X (compareOp .Is) opIs := ok_isN.or ok_isB
theorem ok_isnt : OpOk X (compareOp .IsNot) opIsnt := ok_isntN.or ok_isntB
end
end DL
namespace DL
open PySem PySem.Spec PyProof.Rows L2
variable {K : PySem.W.Frag}
theorem orE {X : Cx} {e : Expr} {t t' : TE} (h : PE X e t) (h' : PE X e t') : PE X e (fun σ H Q => t σ H Q ∨ t' σ H Q) := ⟨fun pins s σ H Q I q => q.elim (h.run pins s σ H Q I) (h'.run pins s σ H Q I)⟩

/-! ### a[b] -/
def asKey : D → Option Key | .int i => some (.inl i) | .str x => some (.inr x) | _ => none
def valD (kvs : List (Key × D)) (k : Key) : Option D := (kvs.find? fun kv => decide (kv.1 = k)).map (·.2)
def ixD : D → D → Store → Option D := fun a b st => match a, b with
  | .lst ds, .int i => atI ds i
  | .tup ds, .int i => atI ds i
  | .str x, .int i => if x.length ≤ sizeLine then (atI x.cps.toList i).map fun c => .str ⟨#[c]⟩ else none
  | .scr ns, .int i => (atI ns i).map .int
  | .dct kvs, k => (asKey k).bind fun k => valD kvs k
  | .ref n, k => match st[n]? with
    | some (.lst ds) => (match k with | .int i => atI ds i | _ => none)
    | some (.dct kvs) => (asKey k).bind fun k => valD kvs k
    | some (.ldc kvs) => (asKey k).bind fun k => valD kvs k
    | _ => none
  | _, _ => none
def fSub (fa fb : F) : F := fun env st => (fa env st).bind fun p => (fb env p.2).bind fun q => (ixD p.1 q.1 q.2).map fun d => (d, q.2)
theorem RepL.atI {r : Rf} {H : Hp} {vs : List V} {ds : List D} (l : RepL K r H vs ds) {i : Int} {d : D} (h : L2.atI ds i = some d) : ∃ v, L2.atI vs i = some v ∧ Rep K r H v d := by
  unfold L2.atI at h ⊢
  obtain ⟨j, h1, h2⟩ := Option.bind_eq_some_iff.mp h
  obtain ⟨v, h3, h4⟩ := l.get h2
  exact ⟨v, by rw [l.len, h1]; exact h3, h4⟩
theorem atI_map {α β : Type} (f : α → β) (xs : List α) (i : Int) : L2.atI (xs.map f) i = (L2.atI xs i).map f := by
  unfold L2.atI
  rw [List.length_map]
  cases ixN xs.length i with
  | none => rfl
  | some j => simp
theorem RepK.val {r : Rf} {H : Hp} {k : Key} : ∀ {vs : List (Key × V)} {ds : List (Key × D)}, RepK K r H vs ds → ∀ {d : D}, valD ds k = some d → ∃ v, valV vs k = some v ∧ Rep K r H v d
  | _, _, .nil, d, h => by cases h
  | _, _, .cons (k := k0) (vs := vs) (ds := ds) a b, d, h => by
    unfold valD at h
    unfold valV
    rw [List.find?_cons] at h ⊢
    by_cases z : k0 = k
    · simp only [z, decide_true] at h ⊢
      cases h
      exact ⟨_, rfl, a⟩
    · simp only [z, decide_false] at h ⊢
      exact RepK.val b h
theorem asKey_rep {r : Rf} {H : Hp} {v : V} {d : D} {k : Key} (h : Rep K r H v d) (e : asKey d = some k) : v = kV k := by
  cases d <;> first
    | cases e; done
    | skip
  · cases h; cases e; rfl
  · cases h; cases e; rfl
theorem Rep.scrL {r : Rf} {H : Hp} {v : V} {ns : List Int} (h : Rep K r H v (.scr ns)) : ∃ a, v = .ref a ∧ SqL K H a (ns.map V.int) := by
  cases h with
  | scr a b => exact ⟨_, rfl, .inl (.inr ⟨_, a⟩)⟩
  | scrK a b c d e f => exact ⟨_, rfl, .inr ⟨_, _, _, a, b, c, d, e, f⟩⟩
theorem Rep.refI {r : Rf} {H : Hp} {v : V} {n : Nat} (h : Rep K r H v (.ref n)) : ∃ a, v = .ref a ∧ r.adr[n]? = some a := by
  cases h with
  | ref h => exact ⟨_, rfl, h⟩
section
variable {X : Cx} {W : WXd}
def isD : D → Store → Bool := fun a st => match a with
  | .dct _ => true
  | .ref n => (match st[n]? with | some (.dct _) => true | some (.ldc _) => true | _ => false)
  | _ => false
theorem ixReadsS {rho : Rf} {H : Hp} {x y : V} {a b d : D} {st : Store} (si : Sim K rho H st) (ra : Rep K rho H x a) (rb : Rep K rho H y b) (e : ixD a b st = some d) (nd : isD a st = false) :
    ∃ v, Rep K rho H v d ∧ ∀ Q : VK, Q v H → rIx K x y H Q := by
  unfold ixD at e
  split at e
  · rename_i ds i
    cases rb
    cases ra with
    | lst h1 h2 h3 =>
      obtain ⟨v, hv, rv⟩ := h3.atI e
      exact ⟨v, rv, fun Q q => .inl ⟨_, _, i, v, rfl, rfl, .of h1, hv, q⟩⟩
  · rename_i ds i
    cases rb
    obtain ⟨p, us, rfl, s, l⟩ := ra.sqT
    obtain ⟨v, hv, rv⟩ := l.atI e
    exact ⟨v, rv, fun Q q => .inr (.inl ⟨_, _, i, v, rfl, rfl, s, hv, q⟩)⟩
  · rename_i z i
    cases rb
    cases ra
    split at e
    · rename_i hz
      obtain ⟨c, hc, e2⟩ := Option.map_eq_some_iff.mp e
      subst e2
      exact ⟨_, .str _, fun Q q => .inr (.inr ⟨z, i, c, rfl, rfl, hz, hc, q⟩)⟩
    · cases e
  · rename_i ns i
    cases rb
    obtain ⟨p, rfl, s⟩ := ra.scrL
    obtain ⟨c, hc, e2⟩ := Option.map_eq_some_iff.mp e
    subst e2
    refine ⟨_, .int c, fun Q q => .inl ⟨_, _, i, .int c, rfl, rfl, s, ?_, q⟩⟩
    rw [atI_map, hc]; rfl
  · cases nd
  · rename_i n
    obtain ⟨p, rfl, hp⟩ := ra.refI
    split at e
    · rename_i ds hst
      split at e
      · rename_i i
        cases rb
        obtain ⟨av, xs, hx, l⟩ := si.ob n p _ hp hst
        obtain ⟨v, hv, rv⟩ := l.atI e
        exact ⟨v, rv, fun Q q => .inl ⟨_, _, i, v, rfl, rfl, .of hx, hv, q⟩⟩
      · cases e
    · rename_i kvs hst
      unfold isD at nd
      simp only [hst] at nd
      cases nd
    · rename_i kvs hst
      unfold isD at nd
      simp only [hst] at nd
      cases nd
    · cases e
  · cases e
theorem dget_rd {H : Hp} {a : Addr} {kvs : List (Key × V)} {k : Key} (e : Rd H a (.dK kvs)) : DGet H a (kV k) (valV kvs k) := .inl ⟨kvs, k, e, rfl, rfl⟩
theorem ixReadsD {rho : Rf} {H : Hp} {x y : V} {a b d : D} {st : Store} (si : Sim K rho H st) (ra : Rep K rho H x a) (rb : Rep K rho H y b) (e : ixD a b st = some d) (nd : isD a st = true) :
    ∃ p v, x = .ref p ∧ DGet H p y (some v) ∧ Rep K rho H v d := by
  cases a with
  | dct kvs =>
    obtain ⟨k, hk, h2⟩ := Option.bind_eq_some_iff.mp (show ((asKey b).bind fun k => valD kvs k) = some d from e)
    have ey := asKey_rep rb hk
    subst ey
    cases ra with
    | dct h1 n1 l1 =>
      obtain ⟨v, hv, rv⟩ := l1.val h2
      exact ⟨_, v, rfl, by rw [← hv]; exact dget_rd (.inr ⟨_, h1⟩), rv⟩
  | ref n =>
    have nd' : (match st[n]? with | some (.dct _) => true | some (.ldc _) => true | _ => false) = true := nd
    · split at nd'
      · rename_i kvs hst
        have e' : ((asKey b).bind fun k => valD kvs k) = some d := by
          unfold ixD at e
          simp only [hst] at e
          exact e
        obtain ⟨k, hk, h2⟩ := Option.bind_eq_some_iff.mp e'
        have ey := asKey_rep rb hk
        subst ey
        obtain ⟨p, rfl, hp⟩ := ra.refI
        obtain ⟨av, xs, hx, l⟩ := si.ob _ p _ hp hst
        obtain ⟨v, hv, rv⟩ := l.val h2
        exact ⟨_, v, rfl, by rw [← hv]; exact .k hx, rv⟩
      · rename_i kvs hst
        have e' : ((asKey b).bind fun k => valD kvs k) = some d := by
          unfold ixD at e
          simp only [hst] at e
          exact e
        obtain ⟨k, hk, h2⟩ := Option.bind_eq_some_iff.mp e'
        have ey := asKey_rep rb hk
        subst ey
        obtain ⟨p, rfl, hp⟩ := ra.refI
        obtain ⟨av, lk, o, xs, hx, l⟩ := si.ob _ p _ hp hst
        obtain ⟨v, hv, rv⟩ := l.val h2
        exact ⟨_, v, rfl, by rw [← hv]; exact dget_rd (.inr ⟨_, hx⟩), rv⟩
      · cases nd'
  | _ => cases nd
theorem de_sub {a b : Expr} {fa fb : F} {pos : Pos} {k : Nat} (g : GX X k) (ha : DE X a fa) (hb : DE X b fb) (hs : PlainIx b := by intro _ _; rfl) : DE X (.Subscript a b pos) (fSub fa fb) :=
  weakE (orE (pe_ix ix_seq ha hb hs) (pe_dget (hu_of g.room) ha hb hs)) fun σ H Q hh => by
  obtain ⟨r, env, st, d, st', he, hs, hf, q⟩ := hh
  obtain ⟨⟨x, s1⟩, h1, hf1⟩ := Option.bind_eq_some_iff.mp hf
  obtain ⟨⟨y, s2⟩, h2, hf2⟩ := Option.bind_eq_some_iff.mp hf1
  obtain ⟨d', h3, hf3⟩ := Option.map_eq_some_iff.mp hf2
  cases hf3
  cases z : isD x s2 with
  | true =>
    refine .inr (two he hs h1 h2 fun u v r' H' e1 q1 pu pv => ?_)
    obtain ⟨p, w, ep, dg, rw'⟩ := ixReadsD q1 pu pv h3 z
    exact ⟨p, w, ep, dg, q w r' H' e1 q1 rw'⟩
  | false =>
    refine .inl (two he hs h1 h2 fun u v r' H' e1 q1 pu pv => ?_)
    obtain ⟨w, rw', k'⟩ := ixReadsS q1 pu pv h3 z
    exact k' Q (q w r' H' e1 q1 rw')

/-! ### a[lo:hi] -/
abbrev FO := Lo → Store → Option (Option Int × Store)
def oNone : FO := fun _ st => some (none, st)
def oSome (f : F) : FO := fun env st => (f env st).bind fun p => match p.1 with | .int i => some (some i, p.2) | _ => none
def tO (K : PySem.W.Frag) (f : FO) : TO := fun σ H Q => ∃ r env st o st', EnvR K r H env σ ∧ Sim K r H st ∧ f env st = some (o, st') ∧ ∀ r' H', Ext r H r' H' → Sim K r' H' st' → Q o H'
abbrev DO' (X : Cx) (e : Option Expr) (f : FO) : Prop := PO X e (tO X.K f)
theorem weakO {e : Option Expr} {t t' : TO} (h : PO X e t) (i : ∀ σ H Q, t' σ H Q → t σ H Q) : PO X e t' := ⟨fun pins s σ H Q I q => h.run pins s σ H Q I (i σ H Q q)⟩
theorem do_none : DO' X none oNone := weakO po_none fun σ H Q hh => by
  obtain ⟨r, env, st, o, st', he, hs, hf, q⟩ := hh
  cases hf
  exact q r H (.refl r H) hs
theorem do_some {e : Expr} {f : F} (h : DE X e f) : DO' X (some e) (oSome f) := weakO (po_some h) fun σ H Q hh => by
  obtain ⟨r, env, st, o, st', he, hs, hf, q⟩ := hh
  obtain ⟨⟨x, s1⟩, h1, hf1⟩ := Option.bind_eq_some_iff.mp hf
  cases x with
  | int i =>
    cases hf1
    exact ⟨r, env, st, _, _, he, hs, h1, fun v r1 H1 e1 q1 p1 => by
      cases p1
      exact ⟨i, rfl, q r1 H1 e1 q1⟩⟩
  | _ => cases hf1
def cutD {α : Type} (xs : List α) (lo hi : Option Int) : List α := (xs.drop (HT.sIx xs.length 0 lo)).take (HT.sIx xs.length xs.length hi - HT.sIx xs.length 0 lo)
def slD : D → Option Int → Option Int → Option D := fun a lo hi => match a with
  | .lst ds => some (.lst (cutD ds lo hi))
  | .tup ds => some (.tup (cutD ds lo hi))
  | _ => none
theorem RepL.cut {r : Rf} {H : Hp} {vs : List V} {ds : List D} (l : RepL K r H vs ds) (lo hi : Option Int) : RepL K r H (cutV vs lo hi) (cutD ds lo hi) := by
  unfold cutV cutD
  rw [l.len]
  exact (l.drop _).take _
def fSlice (fa : F) (lo hi : FO) : F := fun env st => (fa env st).bind fun p => (lo env p.2).bind fun q => (hi env q.2).bind fun w => (slD p.1 q.1 w.1).map fun d => (d, w.2)
theorem cut_all {α : Type} {xs : List α} {lo hi : Option Int} (h : HT.sIx xs.length 0 lo = 0 ∧ HT.sIx xs.length xs.length hi = xs.length) : cutD xs lo hi = xs := by
  unfold cutD
  rw [h.1, h.2]
  simp
theorem de_slice {a : Expr} {lo hi : Option Expr} {fa : F} {fl fh : FO} {p2 pos : Pos} (ha : DE X a fa) (hl : DO' X lo fl) (hh : DO' X hi fh) : DE X (.Subscript a (.Slice lo hi none p2) pos) (fSlice fa fl fh) :=
  weakE (pe_slice (sl_list.or sl_tupF) ha hl hh) fun σ H Q hh => by
  obtain ⟨r, env, st, d, st', he, hs, hf, q⟩ := hh
  obtain ⟨⟨x, s1⟩, h1, hf1⟩ := Option.bind_eq_some_iff.mp hf
  obtain ⟨⟨i, s2⟩, h2, hf2⟩ := Option.bind_eq_some_iff.mp hf1
  obtain ⟨⟨j, s3⟩, h3, hf3⟩ := Option.bind_eq_some_iff.mp hf2
  obtain ⟨d', h4, hf4⟩ := Option.map_eq_some_iff.mp hf3
  cases hf4
  refine ⟨r, env, st, x, s1, he, hs, h1, fun u r1 H1 e1 q1 p1 => ⟨r1, env, s1, i, s2, he.ext e1, q1, h2, fun r2 H2 e2 q2 => ⟨r2, env, s2, j, _, (he.ext e1).ext e2, q2, h3, fun r3 H3 e3 q3 => ?_⟩⟩⟩
  have p3 := (p1.ext e2).ext e3
  have e13 := (e1.trans e2).trans e3
  cases x with
  | lst ds =>
    cases h4
    cases p3 with
    | lst g1 g2 g3 => exact .inl ⟨_, _, rfl, .of g1, fun p hp => q _ _ _ (e13.trans (q3.ext (same_alloc hp))) (q3.same (same_alloc hp)) (.lst upd_same (q3.free hp) ((g3.cut i j).ex (Ex.same r3 (same_alloc hp))))⟩
  | tup ds =>
    cases h4
    obtain ⟨p, us, rfl, s, l⟩ := p3.sqT
    refine .inr ⟨p, us, rfl, s, fun w => ?_, fun p' o hp hz => ?_⟩
    · rw [l.len] at w
      rw [cut_all w] at q
      exact q _ r3 H3 e13 q3 p3
    · exact q _ _ _ (e13.trans (q3.ext (same_alloc hp))) (q3.same (same_alloc hp)) (.tup upd_same hz (q3.free hp) ((l.cut i j).ex (Ex.same r3 (same_alloc hp))))
  | _ => cases h4

/-! ### what is written: an object of the store -/
theorem Sim.set {r : Rf} {H : Hp} {st : Store} (s : Sim K r H st) {n : Nat} {a : Addr} {o : HO} {ob : Ob} (ha : r.adr[n]? = some a) (hav : r.av a) (hob : ObR K r (upd H a o) a ob) (nl : ∀ o u, H a ≠ some (.frz o u)) : Ext r H r (upd H a o) ∧ Sim K r (upd H a o) (st.set n ob) := by
  have hm : a ∈ r.adr := List.mem_of_getElem? ha
  have nlk : ∀ q, r.lk q → q ≠ a := fun q z y => by
    obtain ⟨o, u, h⟩ := s.lkd q z
    exact nl o u (by rw [← y]; exact h)
  have ex : Ext r H r (upd H a o) := ⟨⟨⟨[], by simp⟩, fun q x z m => by rw [upd_ne (fun y => m (by rw [y]; exact hav))]; exact z, fun q z m => absurd z m⟩,
    fun q v m => ⟨by rw [upd_ne (fun y => m (by rw [y]; exact hm))], v, m⟩, fun _ => Iff.rfl, fun q v => by rw [upd_ne (nlk q v)]⟩
  refine ⟨ex, by rw [List.length_set]; exact s.len, s.nd, fun m b x h1 h2 => ?_, fun q v => ?_, fun q v => ?_, fun q v => by rw [upd_ne (nlk q v)]; exact s.lkd q v⟩
  · by_cases z : n = m
    · subst z
      rw [ha] at h1
      cases h1
      by_cases hl : n < st.length
      · rw [List.getElem?_set_self hl] at h2
        cases h2
        exact hob
      · rw [List.getElem?_eq_none (by rw [List.length_set]; omega)] at h2
        cases h2
    · rw [List.getElem?_set_ne z] at h2
      have nb : b ≠ a := fun y => z (by
        subst y
        obtain ⟨l1, e1⟩ := List.getElem?_eq_some_iff.mp ha
        obtain ⟨l2, e2⟩ := List.getElem?_eq_some_iff.mp h1
        exact (List.getElem_inj s.nd).mp (e1.trans e2.symm))
      exact (s.ob m b x h1 h2).ex ex.toEx fun v => ⟨by rw [upd_ne nb], v⟩
  · by_cases z : q = a
    · exact ⟨_, by rw [z]; exact upd_same⟩
    · rw [upd_ne z]; exact s.there q v
  · by_cases z : q = a
    · exact ⟨_, by rw [z]; exact upd_same⟩
    · rw [upd_ne z]; exact s.old q v
def putD (kvs : List (Key × D)) (k : Key) (v : D) : List (Key × D) := if kvs.any (fun kv => decide (kv.1 = k)) then kvs.map fun kv => if kv.1 = k then (kv.1, v) else kv else kvs ++ [(k, v)]
theorem RepK.len {r : Rf} {H : Hp} : ∀ {vs : List (Key × V)} {ds : List (Key × D)}, RepK K r H vs ds → vs.length = ds.length
  | _, _, .nil => rfl
  | _, _, .cons _ b => by rw [List.length_cons, List.length_cons, RepK.len b]
theorem RepK.any {r : Rf} {H : Hp} {k : Key} : ∀ {vs : List (Key × V)} {ds : List (Key × D)}, RepK K r H vs ds → (vs.any fun kv => decide (kv.1 = k)) = ds.any fun kv => decide (kv.1 = k)
  | _, _, .nil => rfl
  | _, _, .cons _ b => by rw [List.any_cons, List.any_cons, RepK.any b]
theorem RepK.repl {r : Rf} {H : Hp} {k : Key} {v : V} {d : D} (q : Rep K r H v d) : ∀ {vs : List (Key × V)} {ds : List (Key × D)}, RepK K r H vs ds → RepK K r H (vs.map fun kv => if kv.1 = k then (kv.1, v) else kv) (ds.map fun kv => if kv.1 = k then (kv.1, d) else kv)
  | _, _, .nil => .nil
  | _, _, .cons (k := k0) a b => by
    rw [List.map_cons, List.map_cons]
    by_cases z : k0 = k
    · rw [if_pos z, if_pos z]
      exact .cons q (RepK.repl q b)
    · rw [if_neg z, if_neg z]
      exact .cons a (RepK.repl q b)
theorem RepK.snoc {r : Rf} {H : Hp} {k : Key} {v : V} {d : D} (q : Rep K r H v d) : ∀ {vs : List (Key × V)} {ds : List (Key × D)}, RepK K r H vs ds → RepK K r H (vs ++ [(k, v)]) (ds ++ [(k, d)])
  | _, _, .nil => .cons q .nil
  | _, _, .cons a b => .cons a (RepK.snoc q b)
theorem RepK.put {r : Rf} {H : Hp} {k : Key} {v : V} {d : D} (q : Rep K r H v d) {vs : List (Key × V)} {ds : List (Key × D)} (l : RepK K r H vs ds) : RepK K r H (putK vs k v) (putD ds k d) := by
  unfold putK putD
  rw [l.any]
  split
  · exact l.repl q
  · exact l.snoc q
/-- o[k] = v, o a dict of the store -/
def sPut (fo fk fv : F) : FS := fun env st => (fv env st).bind fun p => (fo env p.2).bind fun q => (fk env q.2).bind fun w => match q.1 with
  | .ref n => (match w.2[n]? with
    | some (.dct kvs) => (asKey w.1).bind fun k => if kvs.length < sizeLine then some (.nx, env, w.2.set n (.dct (putD kvs k p.1))) else none
    | _ => none)
  | _ => none
theorem ds_put {o i value : Expr} {fo fk fv : F} {pos pos' : Pos} {k : Nat} (g : GX X k) (ho : DE X o fo) (hi : DE X i fk) (hv : DE X value fv) (hs : swapsWith value (some (.Subscript o i pos')) pos.line X.env = pure false := by rfl) :
    DS X W (.Assign [.Subscript o i pos'] value pos) (sPut fo fk fv) := weakS (ps_dput (hu_of g.room) ho hi hv hs) fun D' σ H hh => by
  obtain ⟨r, env, st, out, env', st', he, hs, hf, q⟩ := hh
  obtain ⟨⟨x, s1⟩, h1, hf1⟩ := Option.bind_eq_some_iff.mp hf
  obtain ⟨⟨y, s2⟩, h2, hf2⟩ := Option.bind_eq_some_iff.mp hf1
  obtain ⟨⟨z, s3⟩, h3, hf3⟩ := Option.bind_eq_some_iff.mp hf2
  cases y with
  | ref n =>
    simp only at hf3
    split at hf3
    · rename_i kvs hst
      obtain ⟨kk, hk, hf4⟩ := Option.bind_eq_some_iff.mp hf3
      split at hf4
      · rename_i hl
        cases hf4
        refine ⟨r, env, st, x, s1, he, hs, h1, fun xv r1 H1 e1 q1 p1 => ⟨r1, env, s1, _, s2, he.ext e1, q1, h2, fun yv r2 H2 e2 q2 p2 => ⟨r2, env, s2, z, s3, (he.ext e1).ext e2, q2, h3, fun zv r3 H3 e3 q3 p3 => ?_⟩⟩⟩
        have ez := asKey_rep p3 hk
        subst ez
        obtain ⟨p, rfl, hp⟩ := (p2.ext e3).refI
        obtain ⟨av, xs, hx, l⟩ := q3.ob _ p _ hp hst
        have px : Rep X.K r3 H3 xv x := (p1.ext e2).ext e3
        refine ⟨p, _, rfl, .k hx (by rw [l.len]; exact hl), ?_⟩
        have ee : Ex r3 H3 r3 (upd H3 p (.dK (putK xs kk xv))) := ⟨⟨[], by simp⟩, fun a o w m => by rw [upd_ne (fun y => m (by rw [y]; exact av))]; exact w, fun a w m => absurd w m⟩
        obtain ⟨w1, w2⟩ := q3.set (o := .dK (putK xs kk xv)) (ob := .dct (putD kvs kk x)) hp av ⟨av, _, upd_same, (l.put px).ex ee⟩ (fun _ _ z => by rw [hx] at z; cases z)
        exact q σ r3 _ (((e1.trans e2).trans e3).trans w1) ((((he.ext e1).ext e2).ext e3).ext w1) w2
      · cases hf4
    · cases hf3
  | _ => cases hf3
/-- {k: v, ..}, into the store -/
def evP : List (F × F) → Lo → Store → Option (List (Key × D) × Store)
  | [], _, st => some ([], st)
  | (fk, fv) :: r, env, st => (fk env st).bind fun p => (asKey p.1).bind fun k => (fv env p.2).bind fun q => (evP r env q.2).map fun z => ((k, q.1) :: z.1, z.2)
def mergeD (kvs more : List (Key × D)) : List (Key × D) := more.foldl (fun acc kv => putD acc kv.1 kv.2) kvs
def fDict (ps : List (F × F)) : F := fun env st => (evP ps env st).bind fun q => if q.1.length ≤ 15 then some (.ref q.2.length, q.2 ++ [.dct (mergeD [] q.1)]) else none
inductive DPs (X : Cx) (pos : Pos) : List (Option Expr) → List Expr → List (F × F) → Prop
  | nil : DPs X pos [] [] []
  | cons {k v : Expr} {ks : List (Option Expr)} {vs : List Expr} {fk fv : F} {ps : List (F × F)} : DE X k fk → DE X v fv → DPs X pos ks vs ps → DPs X pos (some k :: ks) (v :: vs) ((fk, fv) :: ps)
theorem DPs.pps {pos : Pos} : ∀ {ks : List (Option Expr)} {vs : List Expr} {ps : List (F × F)}, DPs X pos ks vs ps → PPs X pos ks vs (ps.map fun p => (tD X.K p.1, tD X.K p.2))
  | _, _, _, .nil => pps_nil
  | _, _, _, .cons a b c => pps_cons a b (DPs.pps c)
theorem RepK.merge {r : Rf} {H : Hp} : ∀ {more : List (Key × V)} {md : List (Key × D)} {kvs : List (Key × V)} {ds : List (Key × D)}, RepK K r H more md → RepK K r H kvs ds → RepK K r H (mergeK kvs more) (mergeD ds md)
  | _, _, _, _, .nil, q => q
  | _, _, kvs, ds, .cons (k := k) (v := v) (vs := more) (d := d) (ds := md) a b, q => by
    have := RepK.merge b (q.put (k := k) a)
    exact this
theorem pairsRead : ∀ {ps : List (F × F)} {r : Rf} {env : Lo} {st st' : Store} {σ : L2.St} {H : Hp} {kds : List (Key × D)} {Q : List (V × V) → Hp → Prop}, EnvR K r H env σ → Sim K r H st → evP ps env st = some (kds, st') →
    (∀ r' H' (kvs : List (Key × V)), Ext r H r' H' → Sim K r' H' st' → RepK K r' H' kvs kds → Q (kvs.map fun kv => (kV kv.1, kv.2)) H') → tPairs (ps.map fun p => (tD K p.1, tD K p.2)) σ H Q
  | [], r, env, st, st', σ, H, kds, Q, he, hs, hf, q => by
    cases hf
    exact q r H [] (.refl r H) hs .nil
  | (fk, fv) :: ps, r, env, st, st', σ, H, kds, Q, he, hs, hf, q => by
    obtain ⟨⟨x, s1⟩, h1, hf1⟩ := Option.bind_eq_some_iff.mp hf
    obtain ⟨k, hk, hf2⟩ := Option.bind_eq_some_iff.mp hf1
    obtain ⟨⟨y, s2⟩, h2, hf3⟩ := Option.bind_eq_some_iff.mp hf2
    obtain ⟨⟨zs, s3⟩, h3, hf4⟩ := Option.map_eq_some_iff.mp hf3
    cases hf4
    refine ⟨r, env, st, x, s1, he, hs, h1, fun xv r1 H1 e1 q1 p1 => ⟨r1, env, s1, y, s2, he.ext e1, q1, h2, fun yv r2 H2 e2 q2 p2 => ?_⟩⟩
    have ex := asKey_rep p1 hk
    subst ex
    refine pairsRead (ps := ps) ((he.ext e1).ext e2) q2 h3 fun r3 H3 kvs e3 q3 l3 => ?_
    exact q r3 H3 ((k, yv) :: kvs) ((e1.trans e2).trans e3) q3 (.cons (p2.ext e3) l3)
theorem de_dict {pos : Pos} {keys : List (Option Expr)} {values : List Expr} {ps : List (F × F)} (h : DPs X pos keys values ps) (hall : keys.all (·.isSome) = true := by rfl) (hl : keys.length = values.length := by rfl) (h0 : keys ≠ [] := by (intro z; cases z)) (h15 : keys.length ≤ 15 := by decide) :
    DE X (.Dict keys values pos) (fDict ps) := weakE (pe_disp h.pps hall hl h0 h15) fun σ H Q hh => by
  obtain ⟨r, env, st, d, st', he, hs, hf, q⟩ := hh
  obtain ⟨⟨kds, s1⟩, h1, hf1⟩ := Option.bind_eq_some_iff.mp hf
  by_cases hz : kds.length ≤ 15
  case neg => rw [if_neg hz] at hf1; cases hf1
  rw [if_pos hz] at hf1
  cases hf1
  intro p hp
  obtain ⟨e0, hd0⟩ := hideNew (o := .dK []) hs hp
  refine pairsRead (he.ext e0) hd0.sim h1 fun r' H' kvs e1 q1 l1 => ?_
  obtain ⟨hd1, hk⟩ := hd0.ext e1 q1
  refine ⟨hk.trans upd_same, kvs, rfl, by rw [l1.len]; exact hz, ?_⟩
  have ee : Ex r' H' (r'.add p) (upd H' p (.dK (mergeK [] kvs))) := ⟨⟨[p], rfl⟩, fun a o w m => by rw [upd_ne (fun y => m (by rw [y]; exact hd1.av))]; exact w, fun a w m => absurd w m⟩
  obtain ⟨w1, w2, w3⟩ := hd1.add (o := .dK (mergeK [] kvs)) (ob := .dct (mergeD [] kds)) (e0.trans e1) hs hp ⟨hd1.av, _, upd_same, (RepK.merge l1 .nil).ex ee⟩
  exact q _ _ _ w1 w2 (w3 _ rfl)
/-- {} as a value -/
theorem de_dict0 {pos : Pos} : DE X (.Dict [] [] pos) (fC (.dct [])) := weakE (pe_frz pe_dnewK) fun σ H Q hh => by
  obtain ⟨r, env, st, d, st', he, hs, hf, q⟩ := hh
  cases hf
  refine fun p hp => ⟨p, _, rfl, upd_same, trivial, fun o => ?_⟩
  rw [upd_upd]
  exact q _ r _ (hs.ext (same_alloc hp)) (hs.same (same_alloc hp)) (.dct upd_same (hs.free hp) .nil)
/-- a list display, into the store -/
def fNewL (fa : FA) : F := fun env st => (fa env st).bind fun p => if p.1.length ≤ sizeLine then some (.ref p.2.length, p.2 ++ [.lst p.1]) else none
theorem de_newL {es : List Expr} {fa : FA} {pos : Pos} (h : DA X es fa) : DE X (.List es pos) (fNewL fa) := weakE (pe_lst h) fun σ H Q hh => by
  obtain ⟨r, env, st, d, st', he, hs, hf, q⟩ := hh
  obtain ⟨⟨ds, s1⟩, h1, hf1⟩ := Option.bind_eq_some_iff.mp hf
  by_cases hz : ds.length ≤ sizeLine
  case neg => rw [if_neg hz] at hf1; cases hf1
  rw [if_pos hz] at hf1
  cases hf1
  refine ⟨r, env, st, ds, s1, he, hs, h1, fun vs r1 H1 e1 q1 l1 => ⟨by rw [l1.len]; exact hz, fun p hp => ?_⟩⟩
  obtain ⟨e0, hd0⟩ := hideNew (o := .lst vs) q1 hp
  have ee : Ex r1 H1 ((r1.hide p).add p) (upd (upd H1 p (.lst vs)) p (.lst vs)) := by
    rw [upd_upd]
    refine ⟨⟨[p], rfl⟩, fun a o w m => same_alloc hp a o w, fun a w m => ?_⟩
    rcases w with w | w
    · exact absurd w m
    · rw [w]; exact hp
  obtain ⟨w1, w2, w3⟩ := hd0.add (o := .lst vs) (ob := .lst ds) e0 q1 hp ⟨hd0.av, _, upd_same, l1.ex ee⟩
  have key := q (.ref p) _ _ (e1.trans w1) w2 (w3 _ rfl)
  rw [upd_upd] at key
  exact key
/-- xs.append(e), xs of the store -/
def isLs : Option Ob → Bool | some (.lst _) => true | _ => false
def appAt (n : Nat) (d : D) (st : Store) : Option (D × Store) := match st[n]? with
  | some (.lst ds) => if ds.length < sizeLine then some (.non, st.set n (.lst (ds ++ [d]))) else none
  | _ => none
def fApp (fo fe : F) : F := fun env st => (fo env st).bind fun p => match p.1 with
  | .ref n => if isLs p.2[n]? = true then (fe env p.2).bind fun q => appAt n q.1 q.2 else none
  | _ => none
theorem de_append {o e : Expr} {fo fe : F} {apos cpos : Pos} (ho : DE X o fo) (hv : DE X e fe) (hbase : attributeBase o "append" X.env (eval o X.env) = eval o X.env := by rfl)
    (hfew : ((backTo cpos (starEach [e] X.env)).all (fun x => !x.1) && (backToKw cpos (keywordEach [] X.env)).all (fun x => x.1.isSome)
      && decide (([e] : List Expr).length + ([] : List Keyword).length + (if ([] : List Keyword).isEmpty then 0 else 1) < 30)) = true := by rfl)
    (hline : (apos.endLine == cpos.line) = true := by rfl) (hs : starEach [e] X.env = [(false, eval e X.env)] := by rfl) :
    DE X (.Call (.Attribute o "append" apos) [e] [] cpos) (fApp fo fe) :=
  weakE (pe_bm PySem.F.plainAttrs_list PySem.F.slot_list_append PySem.F.type_list_append mt_append ho (pa_cons hv pa_nil hs) hbase hfew hline hs rfl) fun σ H Q hh => by
  obtain ⟨r, env, st, d, st', he, hs, hf, q⟩ := hh
  obtain ⟨⟨x, s1⟩, h1, hf1⟩ := Option.bind_eq_some_iff.mp hf
  cases x with
  | ref n =>
    have hf1' : (if isLs s1[n]? = true then (fe env s1).bind fun q => appAt n q.1 q.2 else none) = some (d, st') := hf1
    by_cases hl1 : isLs s1[n]? = true
    case neg => rw [if_neg hl1] at hf1'; cases hf1'
    rw [if_pos hl1] at hf1'
    obtain ⟨⟨y, s2⟩, h2, hf2⟩ := Option.bind_eq_some_iff.mp hf1'
    have hf3 : appAt n y s2 = some (d, st') := hf2
    unfold appAt at hf3
    split at hf3
    · rename_i ds hst
      split at hf3
      · rename_i hl
        cases hf3
        refine ⟨r, env, st, _, s1, he, hs, h1, fun xv r1 H1 e1 q1 p1 => ?_⟩
        obtain ⟨p, rfl, hp⟩ := p1.refI
        refine ⟨.inl ⟨rfl, ?_⟩, r1, env, s1, y, s2, he.ext e1, q1, h2, fun yv r2 H2 e2 q2 p2 => ?_⟩
        · unfold isLs at hl1
          split at hl1
          · rename_i es hes
            obtain ⟨av, xs, hx, l⟩ := q1.ob n p _ hp hes
            exact ⟨xs, .of hx⟩
          · cases hl1
        · have hp2 := e2.get hp
          obtain ⟨av, xs, hx, l⟩ := q2.ob n p _ hp2 hst
          refine ⟨p, xs, yv, rfl, rfl, hx, by rw [l.len]; exact hl, ?_⟩
          have ee : Ex r2 H2 r2 (upd H2 p (.lst (xs ++ [yv]))) := ⟨⟨[], by simp⟩, fun a o w m => by rw [upd_ne (fun y => m (by rw [y]; exact av))]; exact w, fun a w m => absurd w m⟩
          obtain ⟨w1, w2⟩ := q2.set (o := .lst (xs ++ [yv])) (ob := .lst (ds ++ [y])) hp2 av ⟨av, _, upd_same, (l.append (.cons p2 .nil)).ex ee⟩ (fun _ _ z => by rw [hx] at z; cases z)
          exact q _ _ _ ((e1.trans e2).trans w1) w2 .non
      · cases hf3
    · cases hf3
  | _ => cases hf1
end
end DL
namespace DL
open PySem PySem.Spec PyProof.Rows L2
variable {K : PySem.W.Frag}

/-! ### a def -/
abbrev FM := List D → Store → Option (D × Store)
/-- a def computes m (nothing is raised) -/
structure FnD (P : Program) (w : World) (K : PySem.W.Frag) (mg : Str → Option Value) (base : Heap) (k : Nat) (f : Addr) (fd : FuncData) (ps : List Str) (m : FM) : Prop where
  run : ∀ (A : Around) (outer : List Env) (s : Shared) (H : Hp) (args : Args) (us : List Value) (vs : List V) (Q : VK) (rho : Rf) (ds : List D) (st st' : Store) (d : D),
    A.guards = some [] → Room k A → Env0 P w K mg base A outer s H → BindsTo s fd args (ps.zip us) → Vals vs us → vs.length = ps.length → RepL K rho H vs ds → Sim K rho H st → m ds st = some (d, st') →
    (∀ v rho' H', Ext rho H rho' H' → Sim K rho' H' st' → Rep K rho' H' v d → Q v H') → codeAny (model P w) A (.call (.ref f) args) (CR CX0 outer P w H s Q E0) s
theorem FnD.up {P : Program} {w : World} {mg : Str → Option Value} {base : Heap} {j k : Nat} {f : Addr} {fd : FuncData} {ps : List Str} {m : FM} (h : FnD P w K mg base j f fd ps m) (l : j ≤ k) : FnD P w K mg base k f fd ps m :=
  ⟨fun A outer s H args us vs Q rho ds st st' d hg hr => h.run A outer s H args us vs Q rho ds st st' d hg (hr.mono l)⟩
/-- a body's context -/
abbrev cxD (P : Program) (w : World) (K : PySem.W.Frag) (mg : Str → Option Value) (base : Heap) (N : List Str) (qual : Str) (sc : Scope) (f : Addr) (cd : Value) (A : Around) (outer : List Env) (s : Shared) (H : Hp) : Cx :=
  (cxOf CX0 P w K mg base N qual sc f cd A outer s H E0).nox
def startD (n : Nat) (ds : List D) : Lo := ds.map some ++ List.replicate (n - ds.length) none
def outM : Option (Out × Lo × Store) → Option (D × Store)
  | some (.rt d, _, s) => some (d, s)
  | some (.nx, _, s) => some (.non, s)
  | _ => none
def mOf (n : Nat) (g : FS) : FM := fun ds st => outM (g (startD n ds) st)
theorem start_env {r : Rf} {H : Hp} {vs : List V} {ds : List D} {N : List Str} (l : RepL K r H vs ds) (hn : vs.length ≤ N.length) : EnvR K r H (startD N.length ds) (L2.start N vs) := by
  refine ⟨?_, fun i d h => ?_⟩
  · unfold startD L2.start
    rw [List.length_append, List.length_append, List.length_map, List.length_map, List.length_replicate, List.length_replicate, l.len]
  · unfold startD at h
    unfold L2.start
    by_cases hi : i < ds.length
    · rw [List.getElem?_append_left (by rw [List.length_map]; exact hi), List.getElem?_map] at h
      obtain ⟨d', h1, h2⟩ := Option.map_eq_some_iff.mp h
      cases h2
      obtain ⟨v, h3, h4⟩ := l.get h1
      refine ⟨v, ?_, h4⟩
      rw [List.getElem?_append_left (by rw [List.length_map, l.len]; exact hi), List.getElem?_map, h3]; rfl
    · rw [List.getElem?_append_right (by rw [List.length_map]; omega), List.getElem?_replicate] at h
      split at h <;> cases h
theorem FnD.of {P : Program} {w : World} {mg : Str → Option Value} {base : Heap} {x qual : Str} {sd : Stmt} {f : Addr} {fd : FuncData} {N ps : List Str} {k : Nat} {g : FS} (F : Fun K x qual sd f fd) (S : FnScope N ps (defScope sd))
    (hb : ∀ (cd : Value) (A : Around) (outer : List Env) (s : Shared) (H : Hp), GX (cxD P w K mg base N qual (defScope sd) f cd A outer s H) k → DSs (cxD P w K mg base N qual (defScope sd) f cd A outer s H) (fun _ _ _ _ => False) (defBody sd) g) :
    FnD P w K mg base (k + 1) f fd ps (mOf N.length g) := by
  obtain ⟨oc, od, kV, doc, pm, an, cd, ct, osl, rfl, lk, hcd⟩ := F.ex
  refine ⟨fun A outer s H args us vs Q rho ds st st' d hgd hr e0 hbind rv hlen rds hs hm hq => ?_⟩
  have hps : ps.length ≤ N.length := by
    have := congrArg List.length S.pre
    rw [List.length_take] at this
    omega
  have KX : K.In s.heap := e0.mod.kin.keeps fun b o e => (e0.bs b o e).1
  have lim : s.heap.NoLimit := e0.mod.nolimit.keeps fun b o e => (e0.bs b o e).1
  have kinds : ∀ y ∈ ps.zip us, (defScope sd).names.lookup y.1 = some .local ∨ ((defScope sd).names.lookup y.1 = some .cell ∧ ((cellsFrom (s.heap.objs.size + 1) (defScope sd).names []).lookup y.1).isSome = true) := fun ⟨n, v⟩ hy =>
    (S.par n (List.of_mem_zip hy).1).elim .inl fun q => .inr ⟨q, PySem.W.cellsFrom_some _ _ _ (.inl q)⟩
  refine codeAny_call_function hr.depth (KX _ _ lk) rfl S.co S.gen rfl (PySem.W.codeRec_of KX hcd) (hbind _ _ _ _ (wpAny_newFunctionEnv_cells S.kind kinds fun env he s1 x => ?_))
  subst he
  refine ⟨lim.keeps x.toInCall.keep, codeAny_func ?_⟩
  have gx : GX (cxD P w K mg base N qual (defScope sd) f cd A outer s H) k := ⟨rfl, S.nd, hr.deeper _, hgd⟩
  have I0 : Inv (cxOf CX0 P w K mg base N qual (defScope sd) f cd A outer s H E0) [] (L2.start N vs) H s1 := inv_start S hr.hd e0 hlen rv x
  -- what the body does
  obtain ⟨o, env', h1, h2⟩ : ∃ o env', g (startD N.length ds) st = some (o, env', st') ∧ (o = .rt d ∨ (o = .nx ∧ d = .non)) := by
    unfold mOf at hm
    cases z : g (startD N.length ds) st with
    | none => rw [z] at hm; cases hm
    | some q =>
      obtain ⟨o, e, s2⟩ := q
      rw [z] at hm
      cases o with
      | rt d' => cases hm; exact ⟨_, _, rfl, .inl rfl⟩
      | nx => cases hm; exact ⟨_, _, rfl, .inr ⟨rfl, rfl⟩⟩
      | bk => cases hm
      | ct => cases hm
      | er _ _ _ => cases hm
  have run := (hb cd A outer s H gx).run [] s1 (L2.start N vs) H { nx := fun _ H' => Q .non H', rt := Q } (I0.wish _) ⟨rho, _, st, o, env', st', start_env rds (by omega), hs, h1, by
    rcases h2 with e | ⟨e, e2⟩
    · subst e
      exact hq
    · subst e e2
      exact fun σ' r' H' ex _ hs' => hq .non r' H' ex hs' .non⟩
  refine wpAny_mono run (fun fl s' q => ?_) fun _ _ z => False.elim z
  have back : ∀ {σ' : L2.St} {H' : Hp} {v : V} {u : Value}, Inv (cxD P w K mg base N qual (defScope sd) f cd A outer s H) [] σ' H' s' → RelV v u → Q v H' → CE outer P w H s Q u s' := fun {σ' H' v u} J r z => ⟨v, H', J.os, J.bare, J.base, J.hok, r, z⟩
  cases fl with
  | ret u =>
    obtain ⟨v, σ', H', J, r, z⟩ := q
    exact back J r z
  | next =>
    obtain ⟨σ', H', J, z⟩ := q
    exact back (v := V.non) (u := Value.none) J rfl z
  | brk => obtain ⟨_, _, _, z⟩ := q; exact z.elim
  | cont => obtain ⟨_, _, _, z⟩ := q; exact z.elim

/-! ### a call -/
def fCall (m : FM) (fa : FA) : F := fun env st => (fa env st).bind fun p => m p.1 p.2
section
variable {X : Cx} {W : WXd} {k : Nat} {f : Addr} {fd : FuncData} {ps : List Str} {m : FM} {x : Str} {p pos : Pos} {e : Expr} {es : List Expr}
theorem runD {pins : List (Addr × Obj)} {σ : L2.St} {H : Hp} {s : Shared} {Q : VK} {us : List Value} {vs : List V} {rho : Rf} {ds : List D} {st st' : Store} {d : D} (Fd : FnD X.prog X.w X.K X.mg X.base k f fd ps m) (gx : GX X k) (hb : Binds X.K fd ps [])
    (I : Inv X pins σ H s) (r : Vals vs us) (hl : vs.length = ps.length) (rd : RepL X.K rho H vs ds) (hs : Sim X.K rho H st) (hm : m ds st = some (d, st')) (hq : ∀ v rho' H', Ext rho H rho' H' → Sim X.K rho' H' st' → Rep X.K rho' H' v d → Q v H') :
    wpAny (model X.prog X.w) X.A (call (.ref f) us) (EP X pins σ Q) X.xe s := by
  have hu : us.length = ps.length := by rw [← r.length]; exact hl
  have hbt : BindsTo s fd ⟨us, []⟩ (ps.zip us) := by
    have := hb s us I.kIn (by rw [List.append_nil]; exact hu)
    rwa [List.append_nil] at this
  refine wpAny_call (codeAny_mono (Fd.run X.A X.stack s H ⟨us, []⟩ us vs Q rho ds st st' d gx.gd gx.room I.env0 hbt r hl rd hs hm hq) fun z s' hz => ?_)
  cases z with
  | error e => exact False.elim hz
  | ok fl =>
    cases fl with
    | ret u => exact I.after hz
    | next => exact False.elim hz
    | brk => exact False.elim hz
    | cont => exact False.elim hz
/-- f(e, ..), every parameter given by place -/
theorem de_call (Fd : FnD X.prog X.w X.K X.mg X.base k f fd ps m) (gx : GX X k) (hg : Gl X x) (hm : X.mg x = some (.ref f)) (hk : PySem.W.keepIn X.K (.ref f) = true) (hb : Binds X.K fd ps []) {fa : FA}
    (ha : DA X (e :: es) fa) (hl : (e :: es).length = ps.length := by rfl) (hdb : (x == ("__debug__" : Str)) = false := by decide) (he : starEach (e :: es) X.env = (false, eval e X.env) :: starEach es X.env := by rfl) (hpl : (backTo pos (starEach es X.env)).any (·.1) = false := by rfl)
    (hn : ∀ env st ds st', fa env st = some (ds, st') → ds.length = (e :: es).length) :
    DE X (.Call (.Name x p) (e :: es) [] pos) (fCall m fa) := by
  refine ⟨fun pins s σ H Q I h => wpAny_Call_Name_kw (ld_glob I hg hm ?_ hdb)⟩
  obtain ⟨r, env, st, d, st', he', hs, hf, q⟩ := h
  obtain ⟨⟨ds, s1⟩, h1, h2⟩ := Option.bind_eq_some_iff.mp hf
  refine PySem.W.callWith_K (h₀ := X.base) I.ok.mod.kin hk (thn (ha.run pos pins s σ H (fun vs H1 => ∃ r1, Ext r H r1 H1 ∧ Sim X.K r1 H1 s1 ∧ RepL X.K r1 H1 vs ds) I ⟨r, env, st, ds, s1, he', hs, h1, fun vs r1 H1 e1 q1 l1 => ⟨r1, e1, q1, l1⟩⟩) fun us sa hz => ?_) he hpl
  obtain ⟨vs, H1, I1, rv, r1, e1, q1, l1⟩ := hz
  exact ⟨I1.kIn, runD Fd gx hb I1 rv (by rw [l1.len, hn _ _ _ _ h1]; exact hl) l1 q1 h2 fun v r2 H2 e2 q2 p2 => q v r2 H2 (e1.trans e2) q2 p2⟩
end
theorem aNil_n : ∀ (env : Lo) (st : Store) (ds : List D) (st' : Store), aNil env st = some (ds, st') → ds.length = 0 := fun _ _ _ _ h => by cases h; rfl
theorem aCons_n {f : F} {g : FA} {n : Nat} (h : ∀ (env : Lo) (st : Store) (ds : List D) (st' : Store), g env st = some (ds, st') → ds.length = n) :
    ∀ (env : Lo) (st : Store) (ds : List D) (st' : Store), aCons f g env st = some (ds, st') → ds.length = n + 1 := fun env st ds st' hh => by
  obtain ⟨x, s1, ys, s2, h1, h2, e⟩ := aCons_some hh
  cases e
  rw [List.length_cons, h _ _ _ _ h2]

/-! ### the law's end -/
theorem law_end {P : Program} {w : World} {mg mb : Str → Option Value} {k : Nat} {fa a : Addr} {fd : FuncData} {x : Str} {m : FM} {s1 : Shared} {vs : List Value} {ns : List Int}
    (KX : K.In s1.heap) (hns : s1.heap.Ns mainGlobals mg) (hb : s1.heap.Ns builtinsNs mb) (hbb : ∀ x : Str, x ≠ "__name__" → mb x = bootBuiltins x) (hlim : s1.heap.NoLimit) (hg : s1.gens = #[])
    (ha : s1.heap.get? a = some { cls := .type "list", data := .seq vs.toArray }) (hi : IntsAre vs ns) (hl : ns.length ≤ sizeLine) (hr : Room k callerA)
    (Fd : ∀ base : Heap, K.In base → base.Ns mainGlobals mg → FnD P w K mg base k fa fd [x] m) (hbind : ∀ (s : Shared) (u : Value), BindsTo s fd ⟨[u], []⟩ [(x, u)])
    (hm : ∃ st', m [.scr ns] [] = some (.bl true, st')) :
    codeAny (model P w) callerA (.call (.ref fa) ⟨[.ref a], []⟩) (fun r s' => r = .ok (.ret (.bool true)) ∧ OldK s1.heap s'.heap ∧ s'.os = s1.os ∧ AllBare s'.gens) s1 := by
  obtain ⟨st', hm⟩ := hm
  have rv := vals_ints hi
  have lenV := hi.length
  let ob : Obj := { cls := .type "list", data := .seq vs.toArray }
  let emp : Rf := ⟨[], fun _ => False, fun _ => False⟩
  -- what is tracked: nothing, or the script alone
  have go : ∀ H : Hp, (∀ b u, H b = some u → b = a ∧ u = .frz ob (.lst (ns.map V.int))) → (H a ≠ none → K.lookup a = none) → Rep K emp H (.ref a) (.scr ns) →
      codeAny (model P w) callerA (.call (.ref fa) ⟨[.ref a], []⟩) (fun r s' => r = .ok (.ret (.bool true)) ∧ OldK s1.heap s'.heap ∧ s'.os = s1.os ∧ AllBare s'.gens) s1 := by
    intro H hH hK hrep
    have hok : HOk P w H s1.heap := fun b u e => by
      obtain ⟨rfl, rfl⟩ := hH b u e
      exact ⟨ha, by rw [List.length_map]; exact hl, vs, _, rv, ha⟩
    have keepNs : ∀ {b : Addr} {m : Str → Option Value}, s1.heap.Ns b m → (hidT s1.heap H).Ns b m := fun {b m} ⟨o, es, ep, e, d, r⟩ => by
      refine ⟨o, es, ep, hidT_get e ?_, d, r⟩
      cases q : H b with
      | none => rfl
      | some u =>
        obtain ⟨rfl, _⟩ := hH b u q
        rw [ha] at e
        cases e
        cases (show Data.seq vs.toArray _ = Data.dict es ep from d)
    have KB : K.In (hidT s1.heap H) := fun b o e => hidT_get (KX b o e) (by
      cases q : H b with
      | none => rfl
      | some u =>
        obtain ⟨rfl, _⟩ := hH b u q
        rw [hK (by rw [q]; simp)] at e
        cases e)
    have e0 : Env0 P w K mg (hidT s1.heap H) callerA [] s1 H :=
      ⟨rfl, ⟨KB, keepNs hns, ⟨mb, keepNs hb, hbb⟩, let ⟨mc, h1, h2⟩ := hlim; ⟨mc, keepNs h1, h2⟩⟩, fun b o e => of_hidT e, Nat.le_of_eq (hidT_size _ _), trivial, fun b hb => absurd (show b ∈ ([] : List Addr) from hb) (by simp), hok, .of_eq hg⟩
    have sim : Sim K emp H [] := ⟨rfl, List.nodup_nil, fun n a o h => by simp [emp] at h, fun p h => h.elim, fun p h => (by cases h), fun p h => h.elim⟩
    refine codeAny_mono ((Fd _ KB (keepNs hns)).run callerA [] s1 H ⟨[.ref a], []⟩ [.ref a] [.ref a] (fun v _ => v = .bl true) emp [.scr ns] [] st' (.bl true) rfl hr e0 (hbind s1 (.ref a)) (.cons rfl .nil) rfl (.cons hrep .nil) sim hm (fun v _ _ _ _ h => by cases h; rfl)) fun r s' h => ?_
    cases r with
    | error e => exact False.elim h
    | ok fl =>
      cases fl with
      | next => exact False.elim h
      | brk => exact False.elim h
      | cont => exact False.elim h
      | ret u =>
        obtain ⟨v, H', os, bare, un, hok', r', q⟩ := h
        subst q
        obtain rfl : u = Value.bool true := r'
        refine ⟨rfl, OldK.of_keep fun b o e => ?_, os, bare⟩
        cases q : H b with
        | none => exact un.keep b o e q (fun z => absurd (show b ∈ ([] : List Addr) from z) (by simp)) (by simp)
        | some u =>
          obtain ⟨rfl, rfl⟩ := hH b u q
          obtain ⟨e2, _⟩ := hok' b _ (un.frzs b _ _ q)
          rw [ha] at e
          cases e
          exact e2
  cases hk : K.lookup a with
  | some o =>
    have e := KX a o hk
    rw [ha] at e
    cases e
    exact go (fun _ => none) (fun _ _ h => by cases h) (fun h => absurd rfl h) (.scrK hk rfl rfl rfl (by rw [List.size_toArray, lenV]; exact hl) (by simpa using rv))
  | none =>
    refine go (fun b => if b = a then some (.frz ob (.lst (ns.map V.int))) else none) (fun b u h => ?_) (fun _ => hk) (.scr (if_pos rfl) fun h => h)
    by_cases z : b = a
    · have := (if_pos z).symm.trans h
      cases this
      exact ⟨z, rfl⟩
    · have := (if_neg z).symm.trans h
      cases this
/-- the goal that k_head leaves -/
theorem walkD {l : PySem.W.OpenLaw} {n k : Nat} {q : Program} {loose : List Str} {XP : (Str → Option Value) → Heap → Prop} {YP : World → Heap → Prop} {d : DefRec} {KK : Params → PySem.W.Frag} {x : Str} {m : FM}
    (hn : l.most = some n) (hn2 : n ≤ sizeLine) (hdf : d.params.defaults = []) (hr : Room k callerA) (hY : ∀ (w : World) (h : Heap), YP w h → (KK w.params).In h)
    (Fd : ∀ (w : World) (mg : Str → Option Value) (fa : Addr) (h : Heap), (KK w.params).In h → h.Ns mainGlobals mg → mg d.name = some (.ref fa) →
      ∃ fd : FuncData, (∀ (s : Shared) (u : Value), BindsTo s fd ⟨[u], []⟩ [(x, u)]) ∧ ∀ base : Heap, (KK w.params).In base → base.Ns mainGlobals mg → FnD l.prog w (KK w.params) mg base k fa fd [x] m)
    (hm : ∀ ns : List Int, ns.length ≤ n → (∀ z ∈ ns, Builtin.Int.intBits z ≤ 1048576) → ∃ st', m [.scr ns] [] = some (.bl true, st')) :
    PySem.W.WalkO q loose XP YP l.row.toRowW d [] (fun f vs => PySem.call f vs) := by
  refine Att.attach_callB hn hdf fun w s0 s1 mg mb fa o pm cd doc a vs ns G Y ho hd hcd hmg hobj hints hlen hbits hg => ?_
  obtain ⟨fd, hb, hF⟩ := Fd w mg fa _ (hY w _ Y) G.T.g hmg
  exact law_end (hY w _ Y) G.T.g G.T.b G.T.builtins G.T.nolimit hg hobj hints (Nat.le_trans hlen hn2) hr hF hb (hm ns hlen hbits)
end DL
namespace DL
open PySem PySem.Spec PyProof.Rows L2
variable {K : PySem.W.Frag}
/-! ### built-ins -/
section
variable {X : Cx} {W : WXd}
theorem CallOk.or {f : Value} {g g' : List D → Store → Option D} (h : CallOk X f g) (h' : CallOk X f g') : CallOk X f (fun ds st => (g ds st).or (g' ds st)) := by
  obtain ⟨r, hr, k⟩ := h
  obtain ⟨r', hr', k'⟩ := h'
  refine ⟨_, hr.or hr', fun rho H xs ds d st Q rl si e q => ?_⟩
  cases z : g ds st with
  | some c =>
    simp only [z, Option.some_or] at e
    cases e
    exact .inl (k rho H xs ds _ st Q rl si z q)
  | none =>
    simp only [z, Option.none_or] at e
    exact .inr (k' rho H xs ds d st Q rl si e q)
/-- len -/
def lenL : List D → Store → Option D := fun ds st => match ds with
  | [.str x] => if x.length ≤ sizeLine then some (.int x.length) else none
  | [.lst xs] => some (.int xs.length)
  | [.tup xs] => some (.int xs.length)
  | [.scr ns] => some (.int ns.length)
  | [.ref n] => (match st[n]? with | some (.lst xs) => some (.int xs.length) | _ => none)
  | _ => none
theorem lst1 {r : Rf} {H : Hp} {vs : List V} {d : D} (l : RepL K r H vs [d]) : ∃ v, vs = [v] ∧ Rep K r H v d := by
  cases l with
  | cons a b => cases b; exact ⟨_, rfl, a⟩
theorem lst2 {r : Rf} {H : Hp} {vs : List V} {d e : D} (l : RepL K r H vs [d, e]) : ∃ v u, vs = [v, u] ∧ Rep K r H v d ∧ Rep K r H u e := by
  cases l with
  | cons a b =>
    obtain ⟨u, rfl, c⟩ := lst1 b
    exact ⟨_, u, rfl, a, c⟩
theorem ok_lenL : CallOk X (.builtin "len") lenL := ⟨_, call_len, fun rho H xs ds d st Q rl si e q => by
  unfold lenL at e
  split at e
  · obtain ⟨v, rfl, p⟩ := lst1 rl
    cases p
    split at e
    · rename_i hl
      cases e
      exact ⟨_, _, rfl, ⟨hl, rfl⟩, q _ H (fun _ _ h => h) (.int _)⟩
    · cases e
  · obtain ⟨v, rfl, p⟩ := lst1 rl
    cases e
    cases p with
    | lst a b c => exact ⟨_, _, rfl, .inl ⟨_, .of a, rfl⟩, by rw [c.len]; exact q _ H (fun _ _ h => h) (.int _)⟩
  · obtain ⟨v, rfl, p⟩ := lst1 rl
    cases e
    obtain ⟨a, us, rfl, s, l⟩ := p.sqT
    exact ⟨_, _, rfl, .inr ⟨_, s, rfl⟩, by rw [l.len]; exact q _ H (fun _ _ h => h) (.int _)⟩
  · rename_i ns
    obtain ⟨v, rfl, p⟩ := lst1 rl
    cases e
    obtain ⟨a, rfl, s⟩ := p.scrL
    exact ⟨_, _, rfl, .inl ⟨_, s, rfl⟩, by rw [List.length_map]; exact q _ H (fun _ _ h => h) (.int _)⟩
  · obtain ⟨v, rfl, p⟩ := lst1 rl
    obtain ⟨a, rfl, hp⟩ := p.refI
    split at e
    · rename_i xs hst
      cases e
      obtain ⟨av, us, hx, l⟩ := si.ob _ a _ hp hst
      exact ⟨_, _, rfl, .inl ⟨_, .of hx, rfl⟩, by rw [l.len]; exact q _ H (fun _ _ h => h) (.int _)⟩
    · cases e
  · cases e⟩
theorem call_lenK : CallR X (.builtin "len") (fun xs H Q => ∃ p kvs, xs = [.ref p] ∧ Rd H p (.dK kvs) ∧ Q (.int kvs.length) H) := by
  intro pins s σ H xs us Q I r h
  obtain ⟨p, kvs, rfl, hp, q⟩ := h
  obtain ⟨u, rfl, rx⟩ := vals1 r
  cases rx
  exact d_len I hp fun t s' I' => ⟨.int kvs.length, H, I', ⟨t, rfl⟩, q⟩
def lenK : List D → Store → Option D := fun ds st => match ds with
  | [.dct kvs] => some (.int kvs.length)
  | [.ref n] => (match st[n]? with | some (.dct kvs) => some (.int kvs.length) | some (.ldc kvs) => some (.int kvs.length) | _ => none)
  | _ => none
theorem ok_lenK : CallOk X (.builtin "len") lenK := ⟨_, call_lenK, fun rho H xs ds d st Q rl si e q => by
  unfold lenK at e
  split at e
  · obtain ⟨v, rfl, p⟩ := lst1 rl
    cases e
    cases p with
    | dct a b c => exact ⟨_, _, rfl, .inr ⟨_, a⟩, by rw [c.len]; exact q _ H (fun _ _ h => h) (.int _)⟩
  · obtain ⟨v, rfl, p⟩ := lst1 rl
    obtain ⟨a, rfl, hp⟩ := p.refI
    split at e
    · rename_i xs hst
      cases e
      obtain ⟨av, us, hx, l⟩ := si.ob _ a _ hp hst
      exact ⟨_, _, rfl, .inl hx, by rw [l.len]; exact q _ H (fun _ _ h => h) (.int _)⟩
    · rename_i xs hst
      cases e
      obtain ⟨av, lk, o, us, hx, l⟩ := si.ob _ a _ hp hst
      exact ⟨_, _, rfl, .inr ⟨_, hx⟩, by rw [l.len]; exact q _ H (fun _ _ h => h) (.int _)⟩
    · cases e
  · cases e⟩
def bLen : List D → Store → Option D := fun ds st => (lenL ds st).or (lenK ds st)
theorem ok_len : CallOk X (.builtin "len") bLen := ok_lenL.or ok_lenK
/-- list(x) -/
def listSeq : List D → Store → Option D := fun ds st => match ds with
  | [.lst xs] => some (.lst xs)
  | [.tup xs] => some (.lst xs)
  | [.scr ns] => some (.lst (ns.map .int))
  | [.ref n] => (match st[n]? with | some (.lst xs) => some (.lst xs) | _ => none)
  | _ => none
theorem fresh_lst {r : Rf} {H : Hp} {st : Store} {p : Addr} {vs : List V} {ds : List D} (si : Sim K r H st) (hp : H p = none) (l : RepL K r H vs ds) : Rep K r (upd H p (.lst vs)) (.ref p) (.lst ds) := .lst upd_same (si.free hp) (l.ex (Ex.same r (same_alloc hp)))
theorem fresh_tup {r : Rf} {H : Hp} {st : Store} {p : Addr} {o : Obj} {vs : List V} {ds : List D} (si : Sim K r H st) (hp : H p = none) (hz : o.dict = none) (l : RepL K r H vs ds) : Rep K r (upd H p (.frz o (.tup vs))) (.ref p) (.tup ds) := .tup upd_same hz (si.free hp) (l.ex (Ex.same r (same_alloc hp)))
theorem ok_listSeq : CallOk X (.type "list") listSeq := ⟨_, call_list_of, fun rho H xs ds d st Q rl si e q => by
  unfold listSeq at e
  split at e
  · obtain ⟨v, rfl, p⟩ := lst1 rl
    cases e
    cases p with
    | lst a b c => exact ⟨_, _, rfl, .inl (.of a), fun l hl => q _ _ (same_alloc hl) (fresh_lst si hl c)⟩
  · obtain ⟨v, rfl, p⟩ := lst1 rl
    cases e
    obtain ⟨a, us, rfl, s, l⟩ := p.sqT
    exact ⟨_, _, rfl, .inr s, fun p hl => q _ _ (same_alloc hl) (fresh_lst si hl l)⟩
  · obtain ⟨v, rfl, p⟩ := lst1 rl
    cases e
    obtain ⟨a, rfl, s⟩ := p.scrL
    exact ⟨_, _, rfl, .inl s, fun p hl => q _ _ (same_alloc hl) (fresh_lst si hl (RepL.ofInts _))⟩
  · obtain ⟨v, rfl, p⟩ := lst1 rl
    obtain ⟨a, rfl, hp⟩ := p.refI
    split at e
    · rename_i xs hst
      cases e
      obtain ⟨av, us, hx, l⟩ := si.ob _ a _ hp hst
      exact ⟨_, _, rfl, .inl (.of hx), fun p hl => q _ _ (same_alloc hl) (fresh_lst si hl l)⟩
    · cases e
  · cases e⟩
theorem call_list_txt (hc : X.calm = true) : CallR X (.type "list") (fun xs H Q => ∃ x, xs = [.str x] ∧ x.length ≤ sizeLine ∧ ∀ p, H p = none → Q (.ref p) (upd H p (.lst (x.cps.toList.map fun c => V.str ⟨#[c]⟩)))) := by
  intro pins s σ H xs us Q I r h
  obtain ⟨x, rfl, hz, q⟩ := h
  obtain ⟨u, rfl, t, rfl⟩ := vals1 r
  refine call_list_str (I.ok.hd hc) x t (fun h' tk acc c' hk hS hacc => ?_) hz
  refine ⟨.ref s.heap.objs.size, _, I.laid (t' := tk) hk (Nat.le_refl _) ?_, rfl, q _ (I.hok.fresh (Nat.le_refl _))⟩
  refine ⟨by rw [List.length_map, Array.length_toList]; exact hz, acc.toList, c', ?_, by simpa using hS⟩
  refine vals_of_at ?_ fun j v w hv hw => ?_
  · rw [List.length_map, Array.length_toList, Array.length_toList, hacc.1]
  · obtain ⟨c, t2, h1, h2⟩ := hacc.2 j w (by simpa using hw)
    rw [List.getElem?_map] at hv
    have : x.cps.toList[j]? = some c := by simpa using h1
    rw [this] at hv
    cases hv
    exact ⟨t2, h2⟩
def listTxt : List D → Store → Option D := fun ds _ => match ds with
  | [.str x] => if x.length ≤ sizeLine then some (.lst (x.cps.toList.map fun c => .str ⟨#[c]⟩)) else none
  | _ => none
theorem RepL.signs {r : Rf} {H : Hp} : ∀ l : List Nat, RepL K r H (l.map fun c => V.str ⟨#[c]⟩) (l.map fun c => D.str ⟨#[c]⟩)
  | [] => .nil
  | c :: l => .cons (.str _) (RepL.signs l)
theorem ok_listTxt {k : Nat} (g : GX X k) : CallOk X (.type "list") listTxt := ⟨_, call_list_txt g.calm, fun rho H xs ds d st Q rl si e q => by
  unfold listTxt at e
  split at e
  · obtain ⟨v, rfl, p⟩ := lst1 rl
    cases p
    split at e
    · rename_i hl
      cases e
      exact ⟨_, rfl, hl, fun p hp => q _ _ (same_alloc hp) (fresh_lst si hp (RepL.signs _))⟩
    · cases e
  · cases e⟩
def bList : List D → Store → Option D := fun ds st => (listSeq ds st).or (listTxt ds st)
theorem ok_list {k : Nat} (g : GX X k) : CallOk X (.type "list") bList := ok_listSeq.or (ok_listTxt g)
/-- tuple(x) -/
def bTuple : List D → Store → Option D := fun ds st => match ds with
  | [.lst xs] => some (.tup xs)
  | [.tup xs] => some (.tup xs)
  | [.ref n] => (match st[n]? with | some (.lst xs) => some (.tup xs) | _ => none)
  | _ => none
theorem ok_tuple : CallOk X (.type "tuple") bTuple := ⟨_, call_tupF, fun rho H xs ds d st Q rl si e q => by
  unfold bTuple at e
  split at e
  · obtain ⟨v, rfl, p⟩ := lst1 rl
    cases e
    cases p with
    | lst a b c => exact ⟨_, _, rfl, .inl ⟨.of a, fun l o hl hz => q _ _ (same_alloc hl) (fresh_tup si hl hz c)⟩⟩
  · obtain ⟨v, rfl, p⟩ := lst1 rl
    cases e
    obtain ⟨a, us, rfl, s, l⟩ := p.sqT
    exact ⟨_, _, rfl, .inr ⟨s, q _ H (fun _ _ h => h) p⟩⟩
  · obtain ⟨v, rfl, p⟩ := lst1 rl
    obtain ⟨a, rfl, hp⟩ := p.refI
    split at e
    · rename_i xs hst
      cases e
      obtain ⟨av, us, hx, l⟩ := si.ob _ a _ hp hst
      exact ⟨_, _, rfl, .inl ⟨.of hx, fun p o hl hz => q _ _ (same_alloc hl) (fresh_tup si hl hz l)⟩⟩
    · cases e
  · cases e⟩
/-- int(x) of an int, a bool -/
def bInt : List D → Store → Option D := fun ds _ => match ds with
  | [.int i] => some (.int i)
  | [.bl b] => some (.int (if b then 1 else 0))
  | _ => none
theorem ok_intT : CallOk X (.type "int") bInt := ⟨_, call_int1, fun rho H xs ds d st Q rl si e q => by
  unfold bInt at e
  split at e
  · obtain ⟨v, rfl, p⟩ := lst1 rl
    cases p
    cases e
    exact .inl ⟨_, rfl, q _ H (fun _ _ h => h) (.int _)⟩
  · obtain ⟨v, rfl, p⟩ := lst1 rl
    cases p
    cases e
    exact .inr ⟨_, rfl, q _ H (fun _ _ h => h) (.int _)⟩
  · cases e⟩
def bMax : List D → Store → Option D := fun ds _ => match ds with | [.int i, .int j] => some (.int (if j > i then j else i)) | _ => none
def bMin : List D → Store → Option D := fun ds _ => match ds with | [.int i, .int j] => some (.int (if j < i then j else i)) | _ => none
theorem ok_max {k : Nat} (g : GX X k) : CallOk X (.builtin "max") bMax := ⟨_, call_max2 g.calm, fun rho H xs ds d st Q rl si e q => by
  unfold bMax at e
  split at e
  · obtain ⟨v, u, rfl, p1, p2⟩ := lst2 rl
    cases p1
    cases p2
    cases e
    exact ⟨_, _, rfl, q _ H (fun _ _ h => h) (.int _)⟩
  · cases e⟩
theorem ok_min {k : Nat} (g : GX X k) : CallOk X (.builtin "min") bMin := ⟨_, call_min2 g.calm, fun rho H xs ds d st Q rl si e q => by
  unfold bMin at e
  split at e
  · obtain ⟨v, u, rfl, p1, p2⟩ := lst2 rl
    cases p1
    cases p2
    cases e
    exact ⟨_, _, rfl, q _ H (fun _ _ h => h) (.int _)⟩
  · cases e⟩
/-- all, any of bools -/
def bools : List D → Option (List Bool)
  | [] => some []
  | .bl b :: ds => (bools ds).map (b :: ·)
  | _ :: _ => none
theorem RepL.bools {r : Rf} {H : Hp} : ∀ {ds : List D} {vs : List V} {bs : List Bool}, RepL K r H vs ds → DL.bools ds = some bs → vs = bs.map V.bl
  | [], _, _, .nil, h => by cases h; rfl
  | .bl b :: ds, _, _, .cons (.bl _) l, h => by
    obtain ⟨c, h1, h2⟩ := Option.map_eq_some_iff.mp (show (DL.bools ds).map (b :: ·) = _ from h)
    subst h2
    rw [List.map_cons, RepL.bools l h1]
  | .non :: _, _, _, _, h => by cases h
  | .int _ :: _, _, _, _, h => by cases h
  | .str _ :: _, _, _, _, h => by cases h
  | .tup _ :: _, _, _, _, h => by cases h
  | .lst _ :: _, _, _, _, h => by cases h
  | .dct _ :: _, _, _, _, h => by cases h
  | .scr _ :: _, _, _, _, h => by cases h
  | .ref _ :: _, _, _, _, h => by cases h
def bAll : List D → Store → Option D := fun ds _ => match ds with | [.lst xs] => (bools xs).map fun bs => .bl (bs.all id) | _ => none
def bAny : List D → Store → Option D := fun ds _ => match ds with | [.lst xs] => (bools xs).map fun bs => .bl (bs.any id) | _ => none
theorem ok_all {k : Nat} (g : GX X k) : CallOk X (.builtin "all") bAll := ⟨_, cr_all g.calm, fun rho H xs ds d st Q rl si e q => by
  unfold bAll at e
  split at e
  · obtain ⟨v, rfl, p⟩ := lst1 rl
    obtain ⟨bs, h1, h2⟩ := Option.map_eq_some_iff.mp e
    subst h2
    cases p with
    | lst a b c =>
      have := c.bools h1
      subst this
      exact ⟨_, bs, rfl, .of a, q _ H (fun _ _ h => h) (.bl _)⟩
  · cases e⟩
theorem ok_any {k : Nat} (g : GX X k) : CallOk X (.builtin "any") bAny := ⟨_, cr_any g.calm, fun rho H xs ds d st Q rl si e q => by
  unfold bAny at e
  split at e
  · obtain ⟨v, rfl, p⟩ := lst1 rl
    obtain ⟨bs, h1, h2⟩ := Option.map_eq_some_iff.mp e
    subst h2
    cases p with
    | lst a b c =>
      have := c.bools h1
      subst this
      exact ⟨_, bs, rfl, .of a, q _ H (fun _ _ h => h) (.bl _)⟩
  · cases e⟩
/-- sep.join(texts) -/
def strsD : List D → Option (List Str)
  | [] => some []
  | .str x :: ds => (strsD ds).map (x :: ·)
  | _ :: _ => none
theorem RepL.strs' {r : Rf} {H : Hp} : ∀ {ds : List D} {vs : List V} {ys : List Str}, RepL K r H vs ds → strsD ds = some ys → vs = ys.map V.str
  | [], _, _, .nil, h => by cases h; rfl
  | .str b :: ds, _, _, .cons (.str _) l, h => by
    obtain ⟨c, h1, h2⟩ := Option.map_eq_some_iff.mp (show (strsD ds).map (b :: ·) = _ from h)
    subst h2
    rw [List.map_cons, RepL.strs' l h1]
  | .non :: _, _, _, _, h => by cases h
  | .int _ :: _, _, _, _, h => by cases h
  | .bl _ :: _, _, _, _, h => by cases h
  | .tup _ :: _, _, _, _, h => by cases h
  | .lst _ :: _, _, _, _, h => by cases h
  | .dct _ :: _, _, _, _, h => by cases h
  | .scr _ :: _, _, _, _, h => by cases h
  | .ref _ :: _, _, _, _, h => by cases h
/-- a method of a built-in type: the receiver, the arguments -/
def MtOk (X : Cx) (T id : String) (g : D → List D → Option D) : Prop :=
  ∃ r, MtR X id r ∧ ∀ (rho : Rf) (H : Hp) (x : V) (a : D) (Q : VK) , Rep X.K rho H x a → (∃ ds d, g a ds = some d) → tyV X.K T x H
def fMt (g : D → List D → Option D) (fo : F) (fa : FA) : F := fun env st => (fo env st).bind fun p => (fa env p.2).bind fun q => (g p.1 q.1).map fun d => (d, q.2)
/-- one argument; the receiver keeps its type -/
theorem de_mt {T id : String} {name : Str} {g : D → List D → Option D} {r : V → List V → Hp → VK → Prop} {o e : Expr} {es : List Expr} {fo : F} {fa : FA} {apos cpos : Pos}
    (hm : MtR X id r) (ty : ∀ (rho : Rf) (H : Hp) (x : V) (a : D) ds d, Rep X.K rho H x a → g a ds = some d → tyV X.K T x H)
    (ok : ∀ (rho : Rf) (H : Hp) (x : V) (xs : List V) (a : D) (ds : List D) (d : D) (st : Store) (Q : VK), Rep X.K rho H x a → RepL X.K rho H xs ds → Sim X.K rho H st → g a ds = some d → (∀ v H', Same H H' → Rep X.K rho H' v d → Q v H') → r x xs H Q)
    (pa : PlainAttrs T) (slot : Slot T name id) (hty : typeOf (.builtin id) = pure (.type "method_descriptor")) (ho : DE X o fo) (ha : DA X (e :: es) fa)
    (hbase : attributeBase o name X.env (eval o X.env) = eval o X.env := by rfl)
    (hfew : ((backTo cpos (starEach (e :: es) X.env)).all (fun x => !x.1) && (backToKw cpos (keywordEach [] X.env)).all (fun x => x.1.isSome)
      && decide ((e :: es).length + ([] : List Keyword).length + (if ([] : List Keyword).isEmpty then 0 else 1) < 30)) = true := by rfl)
    (hline : (apos.endLine == cpos.line) = true := by rfl) (hs : starEach (e :: es) X.env = (false, eval e X.env) :: starEach es X.env := by rfl) (hplain : (backTo cpos (starEach es X.env)).any (·.1) = false := by rfl) :
    DE X (.Call (.Attribute o name apos) (e :: es) [] cpos) (fMt g fo fa) :=
  weakE (pe_bm pa slot hty hm ho ha hbase hfew hline hs hplain) fun σ H Q hh => by
  obtain ⟨r', env, st, d, st', he, hs, hf, q⟩ := hh
  obtain ⟨⟨x, s1⟩, h1, hf1⟩ := Option.bind_eq_some_iff.mp hf
  obtain ⟨⟨ys, s2⟩, h2, hf2⟩ := Option.bind_eq_some_iff.mp hf1
  obtain ⟨d', h3, hf3⟩ := Option.map_eq_some_iff.mp hf2
  cases hf3
  exact ⟨r', env, st, x, s1, he, hs, h1, fun u r1 H1 e1 q1 p1 => ⟨ty r1 H1 u x ys d p1 h3, r1, env, s1, ys, _, he.ext e1, q1, h2, fun us r2 H2 e2 q2 l2 =>
    ok r2 H2 u us x ys d _ Q (p1.ext e2) l2 q2 h3 fun w H3 sm pw => q w r2 H3 ((e1.trans e2).trans (q2.ext sm)) (q2.same sm) pw⟩⟩
def joinD : D → List D → Option D := fun a ds => match a, ds with
  | .str x, [.lst xs] => (strsD xs).bind fun ys => if (ys.map (·.length)).sum + ys.length * x.length ≤ 16777216 then some (.str (Txt.join x ys)) else none
  | _, _ => none
theorem strTy {g : D → List D → Option D} (h : ∀ a ds d, g a ds = some d → ∃ x, a = .str x) : ∀ (rho : Rf) (H : Hp) (x : V) (a : D) ds d, Rep X.K rho H x a → g a ds = some d → tyV X.K "str" x H := fun rho H x a ds d ra e => by
  obtain ⟨z, rfl⟩ := h a ds d e
  cases ra
  exact rfl
theorem joinOk : ∀ (rho : Rf) (H : Hp) (x : V) (xs : List V) (a : D) (ds : List D) (d : D) (st : Store) (Q : VK), Rep X.K rho H x a → RepL X.K rho H xs ds → Sim X.K rho H st → joinD a ds = some d → (∀ v H', Same H H' → Rep X.K rho H' v d → Q v H') →
    ∃ a p, ∃ ys : List Str, x = .str a ∧ xs = [.ref p] ∧ (SqL X.K H p (ys.map V.str) ∨ SqT X.K H p (ys.map V.str)) ∧ (ys.map (·.length)).sum + ys.length * a.length ≤ 16777216 ∧ Q (.str (Txt.join a ys)) H := by
  intro rho H x xs a ds d st Q ra rl si e q
  unfold joinD at e
  split at e
  · rename_i z zs
    obtain ⟨ys, h1, h2⟩ := Option.bind_eq_some_iff.mp e
    split at h2
    · rename_i hl
      cases h2
      cases ra
      obtain ⟨v, rfl, p⟩ := lst1 rl
      cases p with
      | lst g1 g2 g3 =>
        have := g3.strs' h1
        subst this
        exact ⟨z, _, ys, rfl, rfl, .inl (.of g1), hl, q _ H (fun _ _ h => h) (.str _)⟩
    · cases h2
  · cases e
theorem joinTy : ∀ (rho : Rf) (H : Hp) (x : V) (a : D) ds d, Rep X.K rho H x a → joinD a ds = some d → tyV X.K "str" x H := strTy fun a ds d e => by
  unfold joinD at e
  split at e
  · exact ⟨_, rfl⟩
  · cases e
def startsD : D → List D → Option D := fun a ds => match a, ds with
  | .str x, [.str y] => some (.bl (Txt.startswith x y))
  | _, _ => none
theorem startsOk : ∀ (rho : Rf) (H : Hp) (x : V) (xs : List V) (a : D) (ds : List D) (d : D) (st : Store) (Q : VK), Rep X.K rho H x a → RepL X.K rho H xs ds → Sim X.K rho H st → startsD a ds = some d → (∀ v H', Same H H' → Rep X.K rho H' v d → Q v H') →
    ∃ a b, x = .str a ∧ xs = [.str b] ∧ Q (.bl (Txt.startswith a b)) H := by
  intro rho H x xs a ds d st Q ra rl si e q
  unfold startsD at e
  split at e
  · cases ra
    obtain ⟨v, rfl, p⟩ := lst1 rl
    cases p
    cases e
    exact ⟨_, _, rfl, rfl, q _ H (fun _ _ h => h) (.bl _)⟩
  · cases e
theorem startsTy : ∀ (rho : Rf) (H : Hp) (x : V) (a : D) ds d, Rep X.K rho H x a → startsD a ds = some d → tyV X.K "str" x H := strTy fun a ds d e => by
  unfold startsD at e
  split at e
  · exact ⟨_, rfl⟩
  · cases e

/-! ### one value -/
def fUn (g : D → Option D) (fa : F) : F := fun env st => (fa env st).bind fun p => (g p.1).map fun d => (d, p.2)
def negI : D → Option D | .int i => some (.int (-i)) | _ => none
theorem de_neg {a : Expr} {fa : F} {pos : Pos} (ha : DE X a fa) : DE X (.UnaryOp .USub a pos) (fUn negI fa) := weakE (pe_un un_neg ha) fun σ H Q hh => by
  obtain ⟨r', env, st, d, st', he, hs, hf, q⟩ := hh
  obtain ⟨⟨x, s1⟩, h1, hf1⟩ := Option.bind_eq_some_iff.mp hf
  obtain ⟨d', h2, hf2⟩ := Option.map_eq_some_iff.mp hf1
  cases hf2
  refine ⟨r', env, st, x, _, he, hs, h1, fun u r1 H1 e1 q1 p1 => ?_⟩
  cases x with
  | int i =>
    cases h2
    cases p1
    exact ⟨i, rfl, q _ r1 H1 e1 q1 (.int _)⟩
  | _ => cases h2
/-- isinstance(x, T), T a built-in type -/
def tyOb : Option Ob → Option String | some (.lst _) => some "list" | some (.dct _) => some "dict" | some (.ldc _) => some "dict" | _ => none
def tyD : D → Store → Option String := fun d st => match d with
  | .non => some "NoneType" | .bl _ => some "bool" | .int _ => some "int" | .str _ => some "str" | .tup _ => some "tuple" | .lst _ => some "list" | .dct _ => some "dict" | .scr _ => some "list"
  | .ref n => tyOb st[n]?
def isiB (a T : String) : Bool := a == T || (a == "bool" && T == "int")
def fIsi (T : String) (f : F) : F := fun env st => (f env st).bind fun p => (tyD p.1 p.2).map fun a => (.bl (isiB a T), p.2)
theorem tyX_of {r : Rf} {H : Hp} {v : V} {d : D} {st : Store} {t : String} (h : Rep K r H v d) (si : Sim K r H st) (e : tyD d st = some t) : TyX K H v (.type t) := by
  cases d with
  | non => cases h; cases e; exact .base .non
  | bl b => cases h; cases e; exact .base (.bl b)
  | int b => cases h; cases e; exact .base (.int b)
  | str b => cases h; cases e; exact .base (.str b)
  | tup ds =>
    cases e
    cases h with
    | tup a z b c => exact .fTuple a
    | tupK a b z c d f l => exact .kTuple a b
  | lst ds =>
    cases e
    cases h with
    | lst a b c => exact .base (.lst a)
  | dct ds =>
    cases e
    cases h with
    | dct a b c => exact .fDict a
  | scr ns =>
    cases e
    cases h with
    | scr a b => exact .base (.frz a)
    | scrK a b c d e f => exact .kList a b
  | ref n =>
    obtain ⟨a, rfl, hp⟩ := h.refI
    have e' : tyOb st[n]? = some t := e
    unfold tyOb at e'
    split at e'
    · rename_i xs hst
      cases e'
      obtain ⟨av, us, hx, l⟩ := si.ob n a _ hp hst
      exact .base (.lst hx)
    · rename_i xs hst
      cases e'
      obtain ⟨av, us, hx, l⟩ := si.ob n a _ hp hst
      exact .base (.dK hx)
    · rename_i xs hst
      cases e'
      obtain ⟨av, lk, o, us, hx, l⟩ := si.ob n a _ hp hst
      exact .fDict hx
    · cases e'
def tyNames : List String := ["NoneType", "bool", "int", "str", "tuple", "list", "dict"]
theorem kit_all : ∀ a ∈ tyNames, ∀ T ∈ tyNames, kitB a T = some (isiB a T) := by decide +kernel
theorem tyD_mem {d : D} {st : Store} {t : String} (e : tyD d st = some t) : t ∈ tyNames := by
  cases d with
  | ref n =>
    have e' : tyOb st[n]? = some t := e
    unfold tyOb at e'
    split at e' <;> cases e' <;> decide
  | _ => cases e; decide
theorem de_isi {a : Expr} {fa : F} {T : String} {x : Str} {p p2 pos : Pos} (ha : DE X a fa) (hT : T ∈ tyNames) (hg : Gl X "isinstance") (hm : X.mg "isinstance" = none) (hg2 : Gl X x) (hm2 : X.mg x = none) (hv : bootBuiltins x = some (.type T)) (hn : x ≠ "__name__" := by decide) (hdb : (x == ("__debug__" : Str)) = false := by decide)
    (hs : starEach [a, .Name x p2] X.env = (false, eval a X.env) :: starEach [.Name x p2] X.env := by rfl) (hs2 : starEach [.Name x p2] X.env = [(false, eval (.Name x p2) X.env)] := by rfl) (hpl : (backTo pos (starEach [.Name x p2] X.env)).any (·.1) = false := by rfl) :
    DE X (.Call (.Name "isinstance" p) [a, .Name x p2] [] pos) (fIsi T fa) :=
  weakE (pe_callB call_isi hg hm PyProof.Rows.boot_isinstance (pa_cons ha (pa_cons (pe_bltn (v := .ty T) hg2 hm2 hv rfl hn hdb) pa_nil hs2) hs) (by decide) (by decide) hs hpl) fun σ H Q hh => by
  obtain ⟨r', env, st, d, st', he, hs, hf, q⟩ := hh
  obtain ⟨⟨y, s1⟩, h1, hf1⟩ := Option.bind_eq_some_iff.mp hf
  obtain ⟨t, h2, hf2⟩ := Option.map_eq_some_iff.mp hf1
  cases hf2
  refine ⟨r', env, st, y, _, he, hs, h1, fun u r1 H1 e1 q1 p1 => ?_⟩
  exact ⟨u, .ty T, .type t, .type T, isiB t T, rfl, .ty T, tyX_of p1 q1 h2, kit_ty (kit_all t (tyD_mem h2) T hT), q _ r1 H1 e1 q1 (.bl _)⟩

/-! ### in, not in: flat items -/
def eqF : D → D → Option Bool
  | .non, .non => some true | .non, .bl _ => some false | .non, .int _ => some false | .non, .str _ => some false
  | .bl _, .non => some false | .bl a, .bl b => some (a == b) | .bl a, .int b => some ((if a then 1 else 0) == b) | .bl _, .str _ => some false
  | .int _, .non => some false | .int a, .bl b => some (a == (if b then 1 else 0)) | .int a, .int b => some (a == b) | .int _, .str _ => some false
  | .str _, .non => some false | .str _, .bl _ => some false | .str _, .int _ => some false | .str a, .str b => some (a == b)
  | _, _ => none
/-- is x among the items -/
def anyF (x : D) : List D → Option Bool
  | [] => some false
  | y :: ys => (eqF y x).bind fun b => (anyF x ys).map fun c => b || c
def flatD : D → Bool | .non => true | .bl _ => true | .int _ => true | .str _ => true | _ => false
def inSeq (neg : Bool) : D → D → Option D := fun x y => match y with
  | .lst ds => if flatD x then (anyF x ds).map fun b => .bl (if neg then !b else b) else none
  | .tup ds => if flatD x then (anyF x ds).map fun b => .bl (if neg then !b else b) else none
  | _ => none
theorem eqF_rep {r : Rf} {H : Hp} {v u : V} {a b : D} {k : Bool} (ra : Rep K r H v a) (rb : Rep K r H u b) (e : eqF a b = some k) : eqV v u = k ∧ flatV v = true ∧ flatV u = true := by
  cases a <;> cases b <;> first
    | cases e; done
    | (cases ra; cases rb; cases e; exact ⟨rfl, rfl, rfl⟩)
theorem anyF_rep {r : Rf} {H : Hp} {x : V} {a : D} (ra : Rep K r H x a) : ∀ {ds : List D} {vs : List V} {k : Bool}, RepL K r H vs ds → anyF a ds = some k → inV x vs = k ∧ vs.all flatV = true
  | [], _, _, .nil, e => by cases e; exact ⟨rfl, rfl⟩
  | d :: ds, _, k, .cons p l, e => by
    obtain ⟨b, h1, h2⟩ := Option.bind_eq_some_iff.mp (show ((eqF d a).bind fun b => (anyF a ds).map fun c => b || c) = some k from e)
    obtain ⟨c, h3, h4⟩ := Option.map_eq_some_iff.mp h2
    obtain ⟨g1, g2⟩ := anyF_rep ra l h3
    obtain ⟨g3, g4, _⟩ := eqF_rep p ra h1
    refine ⟨?_, by rw [List.all_cons, g4, g2]; rfl⟩
    unfold inV at g1 ⊢
    rw [List.any_cons, g3, g1]; exact h4
theorem flat_rep {r : Rf} {H : Hp} {x : V} {a : D} (ra : Rep K r H x a) (h : flatD a = true) : flatV x = true := by
  cases a <;> first
    | cases h; done
    | (cases ra; rfl)
theorem inSeq_ok (neg : Bool) {rho : Rf} {H : Hp} {x y : V} {a b d : D} {Q : VK} (ra : Rep K rho H x a) (rb : Rep K rho H y b) (e : inSeq neg a b = some d) (q : ∀ v H', Same H H' → Rep K rho H' v d → Q v H') : rIn K neg x y H Q := by
  cases b with
  | lst ds =>
    have e' : (if flatD a then (anyF a ds).map fun b => D.bl (if neg then !b else b) else none) = some d := e
    by_cases fl : flatD a = true
    case neg => rw [if_neg fl] at e'; cases e'
    rw [if_pos fl] at e'
    obtain ⟨k, h1, h2⟩ := Option.map_eq_some_iff.mp e'
    subst h2
    cases rb with
    | lst g1 g2 g3 =>
      obtain ⟨z1, z2⟩ := anyF_rep ra g3 h1
      refine ⟨_, _, rfl, .inl (.of g1), flat_rep ra fl, z2, ?_⟩
      rw [z1]; exact q _ H (fun _ _ h => h) (.bl _)
  | tup ds =>
    have e' : (if flatD a then (anyF a ds).map fun b => D.bl (if neg then !b else b) else none) = some d := e
    by_cases fl : flatD a = true
    case neg => rw [if_neg fl] at e'; cases e'
    rw [if_pos fl] at e'
    obtain ⟨k, h1, h2⟩ := Option.map_eq_some_iff.mp e'
    subst h2
    obtain ⟨p, us, rfl, s, l⟩ := rb.sqT
    obtain ⟨z1, z2⟩ := anyF_rep ra l h1
    refine ⟨_, _, rfl, .inr s, flat_rep ra fl, z2, ?_⟩
    rw [z1]; exact q _ H (fun _ _ h => h) (.bl _)
  | _ => cases e
theorem ok_in : OpOk X (compareOp .In) (inSeq false) := ⟨_, op_in_seq, fun rho H x y a b d st Q si ra rb e q => inSeq_ok false ra rb e q⟩
theorem ok_notin : OpOk X (compareOp .NotIn) (inSeq true) := ⟨_, op_notIn_seq, fun rho H x y a b d st Q si ra rb e q => inSeq_ok true ra rb e q⟩
end
end DL
namespace DL
open PySem PySem.Spec PyProof.Rows L2
variable {K : PySem.W.Frag}
section
variable {X : Cx} {W : WXd}
theorem GX.blk {k : Nat} (g : GX X k) {s : Shared} {H : Hp} {sc : Scope} {ce : Env} {fp : List Addr} : GX (X.blk s H sc ce fp) k := ⟨g.calm, g.nd, g.room, g.gd⟩
/-- a, b = x, y -/
def par2 (i j : Nat) (ds : List D) (env : Lo) : Option Lo := match ds with | [x, y] => some ((env.set i (some x)).set j (some y)) | _ => none
def par3 (i j l : Nat) (ds : List D) (env : Lo) : Option Lo := match ds with | [x, y, z] => some (((env.set i (some x)).set j (some y)).set l (some z)) | _ => none
theorem par2_some {i j : Nat} {ds : List D} {env e : Lo} (h : par2 i j ds env = some e) : ∃ x y, ds = [x, y] ∧ e = (env.set i (some x)).set j (some y) := by
  unfold par2 at h
  split at h
  · cases h; exact ⟨_, _, rfl, rfl⟩
  · cases h
theorem par3_some {i j l : Nat} {ds : List D} {env e : Lo} (h : par3 i j l ds env = some e) : ∃ x y z, ds = [x, y, z] ∧ e = ((env.set i (some x)).set j (some y)).set l (some z) := by
  unfold par3 at h
  split at h
  · cases h; exact ⟨_, _, _, rfl, rfl⟩
  · cases h
def sPar (f : List D → Lo → Option Lo) (fa : FA) : FS := fun env st => (fa env st).bind fun p => (f p.1 env).map fun e => (.nx, e, p.2)
theorem ds_par2 (i j : Nat) {x y : Str} {a b : Expr} {fa : FA} {px py pt pos : Pos} {kt k2 : Nat} {pt2 : Pos} {k : Nat} (g : GX X k) (hi : X.N[i]? = some x) (hj : X.N[j]? = some y) (hij : i ≠ j)
    (hx : X.env.scope.names.lookup x = some .local) (hy : X.env.scope.names.lookup y = some .local) (ha : DA X [a, b] fa)
    (hw : swappedStores [.Tuple [.Name x px, .Name y py] kt pt] (.Tuple [a, b] k2 pt2) X.env = pure (some [x, y]) := by rfl)
    (hs : swapsWithSole [.Tuple [.Name x px, .Name y py] kt pt] (.Tuple [a, b] k2 pt2) pos.line X.env = pure false := by rfl) :
    DS X W (.Assign [.Tuple [.Name x px, .Name y py] kt pt] (.Tuple [a, b] k2 pt2) pos) (sPar (par2 i j) fa) := weakS (ps_par g.calm g.nd hi hj hij hx hy ha hw hs) fun D' σ H hh => by
  obtain ⟨r, env, st, o, env', st', he, hs, hf, q⟩ := hh
  obtain ⟨⟨ds, s1⟩, h1, h2⟩ := Option.bind_eq_some_iff.mp hf
  obtain ⟨e1, h3, h4⟩ := Option.map_eq_some_iff.mp h2
  cases h4
  obtain ⟨a, b, rfl, rfl⟩ := par2_some h3
  refine ⟨r, env, st, _, _, he, hs, h1, fun vs r1 H1 x1 q1 l1 => ?_⟩
  obtain ⟨v, u, rfl, p1, p2⟩ := lst2 l1
  exact ⟨v, u, rfl, q _ r1 H1 x1 (((he.ext x1).set p1 i).set p2 j) q1⟩
theorem lst3 {r : Rf} {H : Hp} {vs : List V} {d e f : D} (l : RepL K r H vs [d, e, f]) : ∃ v u w, vs = [v, u, w] ∧ Rep K r H v d ∧ Rep K r H u e ∧ Rep K r H w f := by
  cases l with
  | cons a b =>
    obtain ⟨u, w, rfl, c, d⟩ := lst2 b
    exact ⟨_, u, w, rfl, a, c, d⟩
theorem ds_par3 (i j l : Nat) {x y z : Str} {a b c : Expr} {fa : FA} {px py pz pt pos : Pos} {kt k2 : Nat} {pt2 : Pos} {k : Nat} (g : GX X k) (hi : X.N[i]? = some x) (hj : X.N[j]? = some y) (hl : X.N[l]? = some z) (hij : i ≠ j) (hil : i ≠ l) (hjl : j ≠ l)
    (hx : X.env.scope.names.lookup x = some .local) (hy : X.env.scope.names.lookup y = some .local) (hz : X.env.scope.names.lookup z = some .local) (ha : DA X [a, b, c] fa)
    (hw : swappedStores [.Tuple [.Name x px, .Name y py, .Name z pz] kt pt] (.Tuple [a, b, c] k2 pt2) X.env = pure (some [x, y, z]) := by rfl)
    (hs : swapsWithSole [.Tuple [.Name x px, .Name y py, .Name z pz] kt pt] (.Tuple [a, b, c] k2 pt2) pos.line X.env = pure false := by rfl) :
    DS X W (.Assign [.Tuple [.Name x px, .Name y py, .Name z pz] kt pt] (.Tuple [a, b, c] k2 pt2) pos) (sPar (par3 i j l) fa) := weakS (ps_par3 g.calm g.nd hi hj hl hij hil hjl hx hy hz ha hw hs) fun D' σ H hh => by
  obtain ⟨r, env, st, o, env', st', he, hs, hf, q⟩ := hh
  obtain ⟨⟨ds, s1⟩, h1, h2⟩ := Option.bind_eq_some_iff.mp hf
  obtain ⟨e1, h3, h4⟩ := Option.map_eq_some_iff.mp h2
  cases h4
  obtain ⟨a, b, c, rfl, rfl⟩ := par3_some h3
  refine ⟨r, env, st, _, _, he, hs, h1, fun vs r1 H1 x1 q1 l1 => ?_⟩
  obtain ⟨v, u, w, rfl, p1, p2, p3⟩ := lst3 l1
  exact ⟨v, u, w, rfl, q _ r1 H1 x1 ((((he.ext x1).set p1 i).set p2 j).set p3 l) q1⟩
theorem RepL.ofStrs {r : Rf} {H : Hp} : ∀ ys : List Str, RepL K r H (ys.map V.str) (ys.map D.str)
  | [] => .nil
  | y :: ys => .cons (.str y) (RepL.ofStrs ys)
/-- a constant of the module: a tuple of texts -/
theorem de_gtupS {x : Str} {a : Addr} {o : Obj} {its : Array Value} {n : Nat} {ys : List Str} {pos : Pos} (hg : Gl X x) (hm : X.mg x = some (.ref a)) (hl : X.K.lookup a = some o) (hc : o.cls = .type "tuple") (hx : o.dict = none) (hd : o.data = .seq its n) (hz : its.size ≤ sizeLine) (hv : Vals (ys.map V.str) its.toList)
    (hdb : (x == ("__debug__" : Str)) = false := by decide) : DE X (.Name x pos) (fC (.tup (ys.map .str))) :=
  de_c (pe_glob (v := .ref a) hg hm rfl hdb) fun r H => .tupK hl hc hx hd hz hv (RepL.ofStrs ys)
end
end DL
/-! The laws' tape of draws, once for all laws. -/
namespace DL
open PySem PySem.Spec PyProof.Rows L2
open Builtin.Int (intBits)
def gTape : FS := (sSeq (sAsg (fOp opAdd (fC (.int 97)) (fOp opMul (fVar 1) (fC (.int 31)))) (gN 2)) (sSeq (sFor (iOf asScr (fVar 0)) (gN 3) (sAsg (fOp opAdd (fOp modI (fOp powI (fOp opAdd (fOp opAdd (fOp opMul (fVar 2) (fC (.int 30011))) (fOp opMul (fVar 3) (fVar 3))) (fC (.int 7))) (fC (.int 2))) (fC (.int 2147483563))) (fC (.int 2))) (gN 2))) (sSeq (sAsg (fIfE (fAndT (fTest (fOp opLt (fVar 1) (fMk bLen (aCons (fVar 0) aNil)))) (fTest (fOp opGe (fSub (fVar 0) (fVar 1)) (fOp powI (fC (.int 10)) (fC (.int 18)))))) (fOp subI (fSub (fVar 0) (fVar 1)) (fOp powI (fC (.int 10)) (fC (.int 18)))) (fC (.int 0))) (gN 4)) (sRet (fDict (((fC (.str (Str.ofString "digits"))), (fVar 4)) :: (((fC (.str (Str.ofString "mixed"))), (fVar 2)) :: [])))))))
def gPick : FS := (sSeq (sIf (fTest (fOp opGe (fSub (fVar 0) (fC (.str (Str.ofString "digits")))) (fVar 1))) (sSeq (sAsg (fOp modI (fSub (fVar 0) (fC (.str (Str.ofString "digits")))) (fVar 1)) (gN 2)) (sSeq (sPut (fVar 0) (fC (.str (Str.ofString "digits"))) (fOp fdivI (fSub (fVar 0) (fC (.str (Str.ofString "digits")))) (fVar 1))) (sRet (fVar 2)))) sNil) (sSeq (sPut (fVar 0) (fC (.str (Str.ofString "mixed"))) (fOp modI (fOp opAdd (fOp opMul (fSub (fVar 0) (fC (.str (Str.ofString "mixed")))) (fC (.int 40014))) (fC (.int 1013))) (fC (.int 2147483563)))) (sRet (fOp modI (fOp fdivI (fOp modI (fOp powI (fOp modI (fOp powI (fSub (fVar 0) (fC (.str (Str.ofString "mixed")))) (fC (.int 2))) (fC (.int 2147483399))) (fC (.int 3))) (fC (.int 998244353))) (fC (.int 5))) (fVar 1)))))
def mTape : FM := mOf 5 gTape
def mPick : FM := mOf 3 gPick
def gOne : FS := (sRet (fSub (fVar 1) (fCall mPick (aCons (fVar 0) (aCons (fMk bLen (aCons (fVar 1) aNil)) aNil)))))
def mOne : FM := mOf 2 gOne
abbrev kD : Key := .inr (Str.ofString "digits")
abbrev kM : Key := .inr (Str.ofString "mixed")
theorem kDM : ¬ Str.ofString "digits" = Str.ofString "mixed" := by decide
theorem kMD : ¬ Str.ofString "mixed" = Str.ofString "digits" := by decide
/-- the tape's pairs -/
def tapeKV (a b : Int) : List (Key × D) := [(kD, .int a), (kM, .int b)]
theorem tape_valD (a b : Int) : valD (tapeKV a b) kD = some (.int a) := by simp [valD, tapeKV]
theorem tape_valM (a b : Int) : valD (tapeKV a b) kM = some (.int b) := by simp [valD, tapeKV, kDM]
theorem tape_putD (a b c : Int) : putD (tapeKV a b) kD (.int c) = tapeKV c b := by simp [putD, tapeKV, kDM, kMD]
theorem tape_putM (a b c : Int) : putD (tapeKV a b) kM (.int c) = tapeKV a c := by simp [putD, tapeKV, kDM, kMD]
/-- the tape at n -/
structure Tp (st : Store) (n : Nat) : Prop where
  at_ : ∃ a b : Int, st[n]? = some (.dct (tapeKV a b)) ∧ 0 ≤ a ∧ 0 ≤ b ∧ b < 4294967296
/-- nothing else has changed -/
structure Fr (n : Nat) (st st' : Store) : Prop where
  len : st.length ≤ st'.length
  at_ : ∀ m, m ≠ n → m < st.length → st'[m]? = st[m]?
theorem Fr.refl (n : Nat) (st : Store) : Fr n st st := ⟨Nat.le_refl _, fun _ _ _ => rfl⟩
theorem Fr.trans {n : Nat} {a b c : Store} (x : Fr n a b) (y : Fr n b c) : Fr n a c := ⟨Nat.le_trans x.len y.len, fun m h1 h2 => (y.at_ m h1 (Nat.lt_of_lt_of_le h2 x.len)).trans (x.at_ m h1 h2)⟩
theorem Fr.set {n : Nat} {st : Store} (o : Ob) : Fr n st (st.set n o) := ⟨by rw [List.length_set]; exact Nat.le_refl _, fun m h _ => by rw [List.getElem?_set_ne (Ne.symm h)]⟩
theorem Tp.lt {st : Store} {n : Nat} (h : Tp st n) : n < st.length := let ⟨_, _, e, _⟩ := h.at_; (List.getElem?_eq_some_iff.mp e).1
theorem bits32 {x : Int} (h0 : 0 ≤ x) (h1 : x < 4294967296) : intBits x ≤ 32 := intBits_le_iff.mpr (by omega)
theorem opAdd_int (a b : Int) : opAdd (.int a) (.int b) = some (.int (a + b)) := by simp [opAdd, orD, addI, onI]
theorem opMul_int {a b : Int} {m n : Nat} (ha : intBits a ≤ m) (hb : intBits b ≤ n) (h : m + n ≤ 134217728) : opMul (.int a) (.int b) = some (.int (a * b)) := by
  have : intBits a + intBits b ≤ 134217728 := by omega
  simp [opMul, orD, mulI, onI, this]
theorem modI_int {a b : Int} (h : 0 < b) : modI (.int a) (.int b) = some (.int (a % b)) := by simp [modI, onI, h]
theorem fdivI_int {a b : Int} (h : 0 < b) (h2 : b < 1073741824) : fdivI (.int a) (.int b) = some (.int (a / b)) := by simp [fdivI, onI, h, h2]
theorem powI_int {a b : Int} {m : Nat} (h0 : 0 ≤ b) (ha : intBits a ≤ m) (h : (m : Int) * b ≤ 134217728) : powI (.int a) (.int b) = some (.int (a ^ b.toNat)) := by
  have : (intBits a : Int) * b ≤ 134217728 := Int.le_trans (Int.mul_le_mul_of_nonneg_right (Int.ofNat_le.mpr ha) h0) h
  simp [powI, onI, h0, this]
theorem opGe_int (a b : Int) : opGe (.int a) (.int b) = some (.bl (decide (b ≤ a))) := by simp [opGe, orD, geI, onI]
theorem opLt_int (a b : Int) : opLt (.int a) (.int b) = some (.bl (decide (a < b))) := by simp [opLt, orD, ltI, onI]
theorem opLe_int (a b : Int) : opLe (.int a) (.int b) = some (.bl (decide (a ≤ b))) := by simp [opLe, orD, leI, onI]
theorem opGt_int (a b : Int) : opGt (.int a) (.int b) = some (.bl (decide (b < a))) := by simp [opGt, orD, gtI, onI]
theorem subI_int (a b : Int) : subI (.int a) (.int b) = some (.int (a - b)) := by simp [subI, onI]
theorem subTape {st : Store} {n : Nat} {a b : Int} (h : st[n]? = some (.dct (tapeKV a b))) : ixD (.ref n) (.str (Str.ofString "digits")) st = some (.int a) ∧ ixD (.ref n) (.str (Str.ofString "mixed")) st = some (.int b) := by
  constructor
  · unfold ixD
    simp only [h, asKey, Option.bind_some]
    exact tape_valD a b
  · unfold ixD
    simp only [h, asKey, Option.bind_some]
    exact tape_valM a b
theorem put_ref {env : Lo} {st s1 s2 s3 : Store} {fo fk fv : F} {d : D} {n : Nat} {kd : D} {k : Key} {kvs : List (Key × D)} (h1 : fv env st = some (d, s1)) (h2 : fo env s1 = some (.ref n, s2)) (h3 : fk env s2 = some (kd, s3)) (hk : asKey kd = some k)
    (hs : s3[n]? = some (.dct kvs)) (hl : kvs.length < 1000) : sPut fo fk fv env st = some (.nx, env, s3.set n (.dct (putD kvs k d))) := by
  have : kvs.length < sizeLine := Nat.lt_of_lt_of_le hl (by decide)
  simp [sPut, h1, h2, h3, hs, hk, this]
theorem pick_ok {st : Store} {n : Nat} {s : Int} (t : Tp st n) (h0 : 0 < s) (h1 : s < 1073741824) : ∃ r st', mPick [.ref n, .int s] st = some (.int r, st') ∧ 0 ≤ r ∧ r < s ∧ Tp st' n ∧ Fr n st st' ∧ st'.length = st.length := by
  obtain ⟨a, b, e, ha, hb, hb2⟩ := t.at_
  have hn := t.lt
  obtain ⟨g1, g2⟩ := subTape e
  by_cases c : s ≤ a
  · refine ⟨a % s, st.set n (.dct (tapeKV (a / s) b)), ?_, Int.emod_nonneg _ (by omega), Int.emod_lt_of_pos _ h0, ⟨a / s, b, by rw [List.getElem?_set_self hn], Int.ediv_nonneg ha (by omega), hb, hb2⟩, .set _, by rw [List.length_set]⟩
    have p : ∀ env : Lo, env[0]? = some (some (.ref n)) → env[1]? = some (some (.int s)) → sPut (fVar 0) (fC (.str (Str.ofString "digits"))) (fOp fdivI (fSub (fVar 0) (fC (.str (Str.ofString "digits")))) (fVar 1)) env st = some (.nx, env, st.set n (.dct (tapeKV (a / s) b))) := fun env x y => by
      rw [← tape_putD a b]
      refine put_ref (s1 := st) (s2 := st) (s3 := st) (kd := .str (Str.ofString "digits")) ?_ ?_ rfl rfl e (by simp [tapeKV])
      · simp [fOp, fSub, fVar, fC, x, y, g1, fdivI_int h0 h1]
      · simp [fVar, x]
    simp [mPick, mOf, gPick, outM, startD, sSeq, sIf, fTest, asB, fOp, fSub, fVar, fC, g1, opGe_int, c, sAsg, modI_int h0, gN]
    rw [p _ rfl rfl]
    simp [sRet, fVar]
  · have hm : 0 ≤ (b * 40014 + 1013) % 2147483563 := Int.emod_nonneg _ (by decide)
    have hm2 : (b * 40014 + 1013) % 2147483563 < 2147483563 := Int.emod_lt_of_pos _ (by decide)
    have gset : (st.set n (.dct (tapeKV a ((b * 40014 + 1013) % 2147483563))))[n]? = some (.dct (tapeKV a ((b * 40014 + 1013) % 2147483563))) := by rw [List.getElem?_set_self hn]
    obtain ⟨_, g3⟩ := subTape gset
    have p : ∀ env : Lo, env[0]? = some (some (.ref n)) → sPut (fVar 0) (fC (.str (Str.ofString "mixed"))) (fOp modI (fOp opAdd (fOp opMul (fSub (fVar 0) (fC (.str (Str.ofString "mixed")))) (fC (.int 40014))) (fC (.int 1013))) (fC (.int 2147483563))) env st = some (.nx, env, st.set n (.dct (tapeKV a ((b * 40014 + 1013) % 2147483563)))) := fun env x => by
      rw [← tape_putM a b]
      refine put_ref (s1 := st) (s2 := st) (s3 := st) (kd := .str (Str.ofString "mixed")) ?_ ?_ rfl rfl e (by simp [tapeKV])
      · simp [fOp, fSub, fVar, fC, x, g2, opMul_int (bits32 hb hb2) (bits32 (x := 40014) (by decide) (by decide)) (by decide), opAdd_int, modI_int (b := 2147483563) (by decide)]
      · simp [fVar, x]
    generalize hw : (b * 40014 + 1013) % 2147483563 = w at *
    have b1 : intBits w ≤ 32 := bits32 hm (by omega)
    have h5 : 0 ≤ w ^ 2 % 2147483399 := Int.emod_nonneg _ (by decide)
    have h6 : w ^ 2 % 2147483399 < 2147483399 := Int.emod_lt_of_pos _ (by decide)
    have b2 : intBits (w ^ 2 % 2147483399) ≤ 32 := bits32 h5 (by omega)
    refine ⟨(w ^ 2 % 2147483399) ^ 3 % 998244353 / 5 % s, st.set n (.dct (tapeKV a w)), ?_, Int.emod_nonneg _ (by omega), Int.emod_lt_of_pos _ h0, ⟨a, w, gset, ha, hm, by omega⟩, .set _, by rw [List.length_set]⟩
    simp [mPick, mOf, gPick, outM, startD, sSeq, sIf, fTest, asB, fOp, fSub, fVar, fC, g1, opGe_int, c, sNil]
    rw [p _ rfl]
    have q1 := powI_int (a := w) (b := 2) (by decide) b1 (by decide)
    have q2 := powI_int (a := w ^ 2 % 2147483399) (b := 3) (by decide) b2 (by decide)
    simp only [show (2 : Int).toNat = 2 from rfl, show (3 : Int).toNat = 3 from rfl] at q1 q2
    simp [sRet, fOp, fSub, fVar, fC, g3, q1, modI_int (b := 2147483399) (by decide), q2, modI_int (b := 998244353) (by decide), fdivI_int (b := 5) (by decide) (by decide), modI_int h0]
theorem atI_lt {α : Type} {xs : List α} {i : Int} (h0 : 0 ≤ i) (h1 : i < xs.length) : ∃ d, L2.atI xs i = some d ∧ d ∈ xs := by
  have hi : i.toNat < xs.length := by omega
  refine ⟨xs[i.toNat], ?_, List.getElem_mem hi⟩
  have := atI_nat (xs := xs) (j := i.toNat) (List.getElem?_eq_getElem hi)
  rwa [Int.toNat_of_nonneg h0] at this
theorem one_ok {st : Store} {n : Nat} {xs : List D} (t : Tp st n) (h0 : 0 < xs.length) (h1 : xs.length < 1073741824) : ∃ d st', mOne [.ref n, .lst xs] st = some (d, st') ∧ d ∈ xs ∧ Tp st' n ∧ Fr n st st' ∧ st'.length = st.length := by
  obtain ⟨r, st', h, hr0, hr1, t', f, l⟩ := pick_ok t (s := (xs.length : Int)) (by omega) (by omega)
  obtain ⟨d, hd, hm⟩ := atI_lt hr0 hr1
  refine ⟨d, st', ?_, hm, t', f, l⟩
  simp [mOne, mOf, gOne, outM, startD, sRet, fSub, fVar, fCall, aCons, aNil, fMk, bLen, lenL, h, ixD, hd]
theorem one_okT {st : Store} {n : Nat} {xs : List D} (t : Tp st n) (h0 : 0 < xs.length) (h1 : xs.length < 1073741824) : ∃ d st', mOne [.ref n, .tup xs] st = some (d, st') ∧ d ∈ xs ∧ Tp st' n ∧ Fr n st st' ∧ st'.length = st.length := by
  obtain ⟨r, st', h, hr0, hr1, t', f, l⟩ := pick_ok t (s := (xs.length : Int)) (by omega) (by omega)
  obtain ⟨d, hd, hm⟩ := atI_lt hr0 hr1
  refine ⟨d, st', ?_, hm, t', f, l⟩
  simp [mOne, mOf, gOne, outM, startD, sRet, fSub, fVar, fCall, aCons, aNil, fMk, bLen, lenL, h, ixD, hd]
abbrev bTape : FS := (sAsg (fOp opAdd (fOp modI (fOp powI (fOp opAdd (fOp opAdd (fOp opMul (fVar 2) (fC (.int 30011))) (fOp opMul (fVar 3) (fVar 3))) (fC (.int 7))) (fC (.int 2))) (fC (.int 2147483563))) (fC (.int 2))) (gN 2))
theorem tape_loop {s t y : Option D} {st : Store} : ∀ (ns : List Int), (∀ z ∈ ns, intBits z ≤ 1048576) → ∀ (m : Int) (x : Option D), 0 ≤ m → m < 4294967296 →
    ∃ m' x', loopS (gN 3) bTape (ns.map .int) [s, t, some (.int m), x, y] st = some (.nx, [s, t, some (.int m'), x', y], st) ∧ 0 ≤ m' ∧ m' < 4294967296
  | [], _, m, x, h0, h1 => ⟨m, x, rfl, h0, h1⟩
  | z :: ns, hb, m, x, h0, h1 => by
    have hz := hb z List.mem_cons_self
    have b1 : intBits (m * 30011) ≤ 32 + 32 := intBits_mul_le (bits32 h0 h1) (bits32 (x := 30011) (by decide) (by decide))
    have b2 : intBits (z * z) ≤ 1048576 + 1048576 := intBits_mul_le hz hz
    have b3 : intBits (m * 30011 + z * z) ≤ 2097152 + 1 := Nat.le_trans (intBits_add_le b1 b2) (by decide)
    have b4 : intBits (m * 30011 + z * z + 7) ≤ 2097153 + 1 := Nat.le_trans (intBits_add_le b3 (bits32 (x := 7) (by decide) (by decide))) (by decide)
    have q := powI_int (a := m * 30011 + z * z + 7) (b := 2) (by decide) b4 (by decide)
    have h2 : 0 ≤ (m * 30011 + z * z + 7) ^ (2 : Int).toNat % 2147483563 := Int.emod_nonneg _ (by decide)
    have h3 : (m * 30011 + z * z + 7) ^ (2 : Int).toNat % 2147483563 < 2147483563 := Int.emod_lt_of_pos _ (by decide)
    obtain ⟨m', x', e, g0, g1⟩ := tape_loop (s := s) (t := t) (y := y) (st := st) ns (fun w hw => hb w (List.mem_cons_of_mem _ hw)) ((m * 30011 + z * z + 7) ^ (2 : Int).toNat % 2147483563 + 2) (some (.int z)) (by omega) (by omega)
    refine ⟨m', x', ?_, g0, g1⟩
    rw [← e, List.map_cons]
    generalize (m * 30011 + z * z + 7) ^ (2 : Int).toNat = w at *
    simp [loopS, gN, bTape, sAsg, fOp, fVar, fC, opMul_int (bits32 h0 h1) (bits32 (x := 30011) (by decide) (by decide)) (by decide), opMul_int hz hz (by decide), opAdd_int, q, modI_int (b := 2147483563) (by decide)]
theorem tape_ok {st : Store} {ns : List Int} {s : Int} (hb : ∀ z ∈ ns, intBits z ≤ 1048576) (h0 : 0 ≤ s) (h1 : s < 1000) : ∃ st', mTape [.scr ns, .int s] st = some (.ref st.length, st') ∧ st'.length = st.length + 1 ∧ Tp st' st.length ∧ ∀ m, m < st.length → st'[m]? = st[m]? := by
  obtain ⟨m', x', e, g0, g1⟩ := tape_loop (s := some (.scr ns)) (t := some (.int s)) (y := none) (st := st) ns hb (97 + s * 31) none (by omega) (by omega)
  have q := powI_int (a := 10) (b := 18) (by decide) (bits32 (by decide) (by decide)) (by decide)
  have b1 : intBits s ≤ 32 := bits32 h0 (by omega)
  -- the digits
  obtain ⟨d, hd, hd0⟩ : ∃ d : Int, (fIfE (fAndT (fTest (fOp opLt (fVar 1) (fMk bLen (aCons (fVar 0) aNil)))) (fTest (fOp opGe (fSub (fVar 0) (fVar 1)) (fOp powI (fC (.int 10)) (fC (.int 18)))))) (fOp subI (fSub (fVar 0) (fVar 1)) (fOp powI (fC (.int 10)) (fC (.int 18)))) (fC (.int 0)))
      [some (.scr ns), some (.int s), some (.int m'), x', none] st = some (.int d, st) ∧ 0 ≤ d := by
    by_cases c : s < ns.length
    · obtain ⟨z, hz, _⟩ := atI_lt h0 c
      by_cases c2 : (1000000000000000000 : Int) ≤ z
      · exact ⟨z - 1000000000000000000, by simp [fIfE, fAndT, fTest, fOp, fVar, fMk, aCons, aNil, bLen, lenL, opLt_int, asB, c, fSub, ixD, hz, fC, q, opGe_int, c2, subI_int], by omega⟩
      · exact ⟨0, by simp [fIfE, fAndT, fTest, fOp, fVar, fMk, aCons, aNil, bLen, lenL, opLt_int, asB, c, fSub, ixD, hz, fC, q, opGe_int, c2], by omega⟩
    · exact ⟨0, by simp [fIfE, fAndT, fTest, fOp, fVar, fMk, aCons, aNil, bLen, lenL, opLt_int, asB, c, fC], by omega⟩
  refine ⟨st ++ [.dct (tapeKV d m')], ?_, by simp, ⟨d, m', by simp, hd0, g0, g1⟩, fun m hm => by rw [List.getElem?_append_left hm]⟩
  have e' : loopS (gN 3) bTape (ns.map D.int) [some (.scr ns), some (.int s), some (.int (97 + s * 31)), none, none] st = some (.nx, [some (.scr ns), some (.int s), some (.int m'), x', none], st) := e
  simp only [bTape] at e'
  simp [mTape, mOf, gTape, outM, startD, sSeq, sAsg, fOp, fVar, fC, opMul_int b1 (bits32 (x := 31) (by decide) (by decide)) (by decide), opAdd_int, gN, sFor, iOf, asScr, e', hd]
  simp [sRet, fDict, evP, fC, fVar, asKey, mergeD, putD, kDM, tapeKV]
end DL
/-! Plain texts, flat values, loops with an invariant. -/
namespace DL
open PySem PySem.Spec PyProof.Rows L2 TL
open Builtin.Int (intBits)
/-- at most n signs, all of ASCII -/
def GS (n : Nat) (x : Str) : Prop := x.length ≤ n ∧ ∀ c ∈ tl x, c < 128
theorem GS.mono {m n : Nat} {x : Str} (h : GS m x) (l : m ≤ n) : GS n x := ⟨Nat.le_trans h.1 l, h.2⟩
theorem GS.append {m n : Nat} {x y : Str} (a : GS m x) (b : GS n y) : GS (m + n) (x ++ y) := by
  refine ⟨?_, fun c hc => ?_⟩
  · rw [len_tl, tl_append, List.length_append, ← len_tl, ← len_tl]
    have := a.1
    have := b.1
    omega
  · rw [tl_append] at hc
    rcases List.mem_append.mp hc with h | h
    · exact a.2 c h
    · exact b.2 c h
theorem joinL_nil : ∀ ps : List (List Nat), joinL [] ps = ps.flatten
  | [] => rfl
  | [p] => by simp [joinL]
  | p :: q :: r => by
    have := joinL_nil (q :: r)
    simp only [joinL] at this ⊢
    rw [this]
    simp
theorem tl_join0 (ps : List Str) : tl (Txt.join (Str.ofString "") ps) = (ps.map tl).flatten := by
  rw [join_eq, tl_join, show tl (Str.ofString "") = [] from rfl, joinL_nil]
theorem GS.join {m : Nat} : ∀ {ps : List Str}, (∀ p ∈ ps, GS m p) → GS (ps.length * m) (Txt.join (Str.ofString "") ps) := fun {ps} h => by
  unfold GS
  rw [len_tl, tl_join0]
  induction ps with
  | nil => exact ⟨Nat.zero_le _, fun c hc => by cases hc⟩
  | cons p ps ih =>
    obtain ⟨i1, i2⟩ := ih fun q hq => h q (List.mem_cons_of_mem _ hq)
    obtain ⟨j1, j2⟩ := h p List.mem_cons_self
    rw [len_tl] at j1
    refine ⟨?_, fun c hc => ?_⟩
    · rw [List.map_cons, List.flatten_cons, List.length_append, List.length_cons, Nat.succ_mul]
      omega
    · rw [List.map_cons, List.flatten_cons] at hc
      rcases List.mem_append.mp hc with z | z
      · exact j2 c z
      · exact i2 c z
theorem GS.ok {n : Nat} {x : Str} (h : GS n x) : SeqAt.shaped (.str x) = true := by
  have : PyData.canLay0 (.str x) = true := by
    unfold PyData.canLay0
    unfold PyData.strOk
    rw [Array.all_eq_true]
    intro i hi
    have := h.2 x.cps[i] (by unfold tl; simp)
    exact decide_eq_true (by omega)
  unfold SeqAt.shaped
  rw [this]
  simp [PyData.depth]
/-- a flat value: None, an int, a text of at most n signs -/
def FV (n : Nat) : D → Prop | .non => True | .int _ => True | .str x => GS n x | _ => False
theorem FV.mono {m n : Nat} (l : m ≤ n) : ∀ {d : D}, FV m d → FV n d
  | .non, _ => trivial
  | .int _, _ => trivial
  | .str _, h => GS.mono h l
  | .bl _, h => h.elim
  | .tup _, h => h.elim
  | .lst _, h => h.elim
  | .dct _, h => h.elim
  | .scr _, h => h.elim
  | .ref _, h => h.elim
def vEq : D → D → Bool | .non, .non => true | .int a, .int b => a == b | .str a, .str b => a == b | _, _ => false
theorem opEq_fv {m n : Nat} {a b : D} (ha : FV m a) (hb : FV n b) : opEq a b = some (.bl (vEq a b)) := by
  cases a <;> cases b <;> first
    | exact ha.elim
    | exact hb.elim
    | skip
  all_goals simp only [opEq, toPy, Option.bind_some]
  all_goals first
    | rfl
    | (rw [if_pos ⟨rfl, GS.ok hb⟩]; rfl)
    | (rw [if_pos ⟨GS.ok ha, rfl⟩]; rfl)
    | (rw [if_pos ⟨GS.ok ha, GS.ok hb⟩]; rfl)
theorem opNe_fv {m n : Nat} {a b : D} (ha : FV m a) (hb : FV n b) : opNe a b = some (.bl (!vEq a b)) := by
  cases a <;> cases b <;> first
    | exact ha.elim
    | exact hb.elim
    | skip
  all_goals simp only [opNe, toPy, Option.bind_some]
  all_goals first
    | rfl
    | (rw [if_pos ⟨rfl, GS.ok hb⟩]; rfl)
    | (rw [if_pos ⟨GS.ok ha, rfl⟩]; rfl)
    | (rw [if_pos ⟨GS.ok ha, GS.ok hb⟩]; rfl)
theorem opEq_int (a b : Int) : opEq (.int a) (.int b) = some (.bl (a == b)) := opEq_fv (m := 0) (n := 0) (a := .int a) (b := .int b) trivial trivial
theorem opNe_int (a b : Int) : opNe (.int a) (.int b) = some (.bl (!(a == b))) := opNe_fv (m := 0) (n := 0) (a := .int a) (b := .int b) trivial trivial
theorem opLt_str (a b : Str) : opLt (.str a) (.str b) = some (.bl (decide (tl a < tl b))) := by simp [opLt, orD, ltI, ltS, onI, onS]
theorem opGt_str (a b : Str) : opGt (.str a) (.str b) = some (.bl (decide (tl b < tl a))) := by simp [opGt, orD, gtI, gtS, onI, onS]
theorem opAdd_str {a b : Str} (h : a.length + b.length ≤ 16777216) : opAdd (.str a) (.str b) = some (.str (a ++ b)) := by
  have : a.length + b.length ≤ sizeLine := by rw [sizeLine_eq]; exact h
  simp [opAdd, orD, addI, addS, onI, onS, this]

/-! ### loops -/
/-- a for that runs through, by what holds between the turns -/
theorem loopS_inv {tg : FG} {body : FS} (I : Lo → Store → Prop) : ∀ {ds : List D}, (∀ d ∈ ds, ∀ env st, I env st → ∃ e1, tg d env = some e1 ∧ ∃ o e2 s2, body e1 st = some (o, e2, s2) ∧ (o = .nx ∨ o = .ct) ∧ I e2 s2) →
    ∀ {env : Lo} {st : Store}, I env st → ∃ e2 s2, loopS tg body ds env st = some (.nx, e2, s2) ∧ I e2 s2
  | [], _, env, st, i => ⟨env, st, rfl, i⟩
  | d :: ds, h, env, st, i => by
    obtain ⟨e1, h1, o, e2, s2, h2, ho, i2⟩ := h d List.mem_cons_self env st i
    obtain ⟨e3, s3, h3, i3⟩ := loopS_inv I (fun d hd => h d (List.mem_cons_of_mem _ hd)) i2
    refine ⟨e3, s3, ?_, i3⟩
    rcases ho with rfl | rfl
    · simp [loopS, h1, h2, h3]
    · simp [loopS, h1, h2, h3]
/-- a comprehension of draws -/
theorem loopC_draw {is : List Nat} {bd : FB} {f : F} {n : Nat} {P : D → Prop} {env : Lo} : ∀ {ds : List D}, (∀ d ∈ ds, ∃ vs, bd d = some vs ∧ ∀ st, Tp st n → ∃ v st', f (setL is vs env) st = some (v, st') ∧ P v ∧ Tp st' n ∧ Fr n st st') →
    ∀ {st : Store}, Tp st n → ∃ vs st', loopC is bd tTrue f ds env st = some (vs, st') ∧ vs.length = ds.length ∧ (∀ v ∈ vs, P v) ∧ Tp st' n ∧ Fr n st st'
  | [], _, st, t => ⟨[], st, rfl, rfl, fun _ h => (by cases h), t, .refl _ _⟩
  | d :: ds, h, st, t => by
    obtain ⟨ws, hb, hf⟩ := h d List.mem_cons_self
    obtain ⟨v, s1, h1, pv, t1, f1⟩ := hf st t
    obtain ⟨vs, s2, h2, l2, p2, t2, f2⟩ := loopC_draw (fun d hd => h d (List.mem_cons_of_mem _ hd)) t1
    refine ⟨v :: vs, s2, by simp [loopC, hb, tTrue, h1, h2], by simp [l2], fun w hw => ?_, t2, f1.trans f2⟩
    rcases List.mem_cons.mp hw with rfl | hw
    · exact pv
    · exact p2 w hw
theorem rg_len (lo hi : Int) : (rg lo hi).length = (hi - lo).toNat := by simp [rg]
theorem rg_mem {lo hi : Int} {d : D} (h : d ∈ rg lo hi) : ∃ i : Int, d = .int i ∧ lo ≤ i ∧ i < hi := by
  unfold rg at h
  obtain ⟨k, hk, e⟩ := List.mem_map.mp h
  subst e
  have := List.mem_range.mp hk
  exact ⟨_, rfl, by omega, by omega⟩
theorem asR1_ok {n : Int} (h0 : 0 ≤ n) (h1 : n < 1000000) : asR1 [.int n] = some (rg 0 n) := by
  have : -(2 ^ 62) ≤ n ∧ n < 2 ^ 62 := by omega
  simp only [asR1, if_pos this]
end DL
namespace DL
open PySem PySem.Spec PyProof.Rows L2 TL
/-- .. that lay nothing -/
theorem loopC_draw2 {is : List Nat} {bd : FB} {f : F} {n : Nat} {P : D → Prop} {env : Lo} : ∀ {ds : List D}, (∀ d ∈ ds, ∃ vs, bd d = some vs ∧ ∀ st, Tp st n → ∃ v st', f (setL is vs env) st = some (v, st') ∧ P v ∧ Tp st' n ∧ Fr n st st' ∧ st'.length = st.length) →
    ∀ {st : Store}, Tp st n → ∃ vs st', loopC is bd tTrue f ds env st = some (vs, st') ∧ vs.length = ds.length ∧ (∀ v ∈ vs, P v) ∧ Tp st' n ∧ Fr n st st' ∧ st'.length = st.length
  | [], _, st, t => ⟨[], st, rfl, rfl, fun _ h => (by cases h), t, .refl _ _, rfl⟩
  | d :: ds, h, st, t => by
    obtain ⟨ws, hb, hf⟩ := h d List.mem_cons_self
    obtain ⟨v, s1, h1, pv, t1, f1, l1⟩ := hf st t
    obtain ⟨vs, s2, h2, l2, p2, t2, f2, g2⟩ := loopC_draw2 (fun d hd => h d (List.mem_cons_of_mem _ hd)) t1
    refine ⟨v :: vs, s2, by simp [loopC, hb, tTrue, h1, h2], by simp [l2], fun w hw => ?_, t2, f1.trans f2, by rw [g2, l1]⟩
    rcases List.mem_cons.mp hw with rfl | hw
    · exact pv
    · exact p2 w hw
/-- a comprehension that changes nothing -/
theorem loopC_map {is : List Nat} {bd : FB} {f : F} {g : D → D} {env : Lo} {st : Store} : ∀ {ds : List D}, (∀ d ∈ ds, ∃ vs, bd d = some vs ∧ f (setL is vs env) st = some (g d, st)) → loopC is bd tTrue f ds env st = some (ds.map g, st)
  | [], _ => rfl
  | d :: ds, h => by
    obtain ⟨ws, hb, hf⟩ := h d List.mem_cons_self
    have := loopC_map (ds := ds) fun d hd => h d (List.mem_cons_of_mem _ hd)
    simp [loopC, hb, tTrue, hf, this]
end DL
/-! More operations: nested data in a list or tuple, pairs in order, slices of texts, repr, a def that answers nothing. -/
namespace DL
open PySem PySem.Spec PyProof.Rows L2 TL
variable {K : PySem.W.Frag}
/-- at fuel 0 -/
theorem FnD.nil {P : Program} {w : World} {mg : Str → Option Value} {base : Heap} {k : Nat} {f : Addr} {fd : FuncData} {ps : List Str} : FnD P w K mg base k f fd ps (fun _ _ => none) :=
  ⟨fun _ _ _ _ _ _ _ _ _ _ _ _ _ _ _ _ _ _ _ _ _ h => by cases h⟩
section
variable {X : Cx} {W : WXd}
/-! ### in, nested data -/
def inPy (neg : Bool) : D → D → Option D := fun x y => (toPy x).bind fun p => match y with
  | .lst ds => (toPyL ds).bind fun qs => if SeqAt.shaped p = true ∧ SeqAt.shaped (.list qs) = true then some (.bl (if neg then !(qs.any fun z => PyData.eqv z p) else qs.any fun z => PyData.eqv z p)) else none
  | .tup ds => (toPyL ds).bind fun qs => if SeqAt.shaped p = true ∧ SeqAt.shaped (.tuple qs) = true then some (.bl (if neg then !(qs.any fun z => PyData.eqv z p) else qs.any fun z => PyData.eqv z p)) else none
  | _ => none
def rInPy (K : PySem.W.Frag) (neg : Bool) : R2 := fun x y H Q => ∃ d ds, Dp K H x d ∧ ((Dp K H y (.list ds) ∧ SeqAt.shaped (.list ds) = true) ∨ (Dp K H y (.tuple ds) ∧ SeqAt.shaped (.tuple ds) = true)) ∧ SeqAt.shaped d = true ∧
  Q (.bl (if neg then !(ds.any fun z => PyData.eqv z d) else ds.any fun z => PyData.eqv z d)) H
theorem op_inPy (hu : X.A.units + 65 < cLine) : OpR X (compareOp .In) (rInPy X.K false) := by
  intro pins s σ H x y v u Q I rx ry h
  obtain ⟨d, ds, hd, he, sd, q⟩ := h
  obtain ⟨as, r1⟩ := Dp.reads I d x v hd rx
  rcases he with ⟨he, se⟩ | ⟨he, se⟩
  · obtain ⟨bs, r2⟩ := Dp.reads I (.list ds) y u he ry
    exact SeqAt.in_list_reads r2 r1 (SeqAt.canLay_of_shaped se) (SeqAt.canLay_of_shaped sd) (room_in_shaped sd hu) ⟨.bl _, H, I, rfl, q⟩
  · obtain ⟨bs, r2⟩ := Dp.reads I (.tuple ds) y u he ry
    exact SeqAt.in_tuple_reads r2 r1 (SeqAt.canLay_of_shaped se) (SeqAt.canLay_of_shaped sd) (room_in_shaped sd hu) ⟨.bl _, H, I, rfl, q⟩
theorem op_notInPy (hu : X.A.units + 65 < cLine) : OpR X (compareOp .NotIn) (rInPy X.K true) := by
  intro pins s σ H x y v u Q I rx ry h
  obtain ⟨d, ds, hd, he, sd, q⟩ := h
  obtain ⟨as, r1⟩ := Dp.reads I d x v hd rx
  rcases he with ⟨he, se⟩ | ⟨he, se⟩
  · obtain ⟨bs, r2⟩ := Dp.reads I (.list ds) y u he ry
    exact SeqAt.notIn_list_reads r2 r1 (SeqAt.canLay_of_shaped se) (SeqAt.canLay_of_shaped sd) (room_in_shaped sd hu) ⟨.bl _, H, I, rfl, q⟩
  · obtain ⟨bs, r2⟩ := Dp.reads I (.tuple ds) y u he ry
    exact SeqAt.notIn_tuple_reads r2 r1 (SeqAt.canLay_of_shaped se) (SeqAt.canLay_of_shaped sd) (room_in_shaped sd hu) ⟨.bl _, H, I, rfl, q⟩
theorem inPy_ok (neg : Bool) {rho : Rf} {H : Hp} {x y : V} {a b d : D} {Q : VK} (ra : Rep K rho H x a) (rb : Rep K rho H y b) (e : inPy neg a b = some d) (q : ∀ v H', Same H H' → Rep K rho H' v d → Q v H') : rInPy K neg x y H Q := by
  obtain ⟨p, h1, h2⟩ := Option.bind_eq_some_iff.mp e
  split at h2
  · rename_i ds
    obtain ⟨qs, h3, h4⟩ := Option.bind_eq_some_iff.mp h2
    split at h4
    · rename_i sh
      cases h4
      exact ⟨p, qs, ra.dp h1, .inl ⟨rb.dp (show (toPyL ds).map PyData.list = some (.list qs) by rw [h3]; rfl), sh.2⟩, sh.1, q _ H (fun _ _ h => h) (.bl _)⟩
    · cases h4
  · rename_i ds
    obtain ⟨qs, h3, h4⟩ := Option.bind_eq_some_iff.mp h2
    split at h4
    · rename_i sh
      cases h4
      exact ⟨p, qs, ra.dp h1, .inr ⟨rb.dp (show (toPyL ds).map PyData.tuple = some (.tuple qs) by rw [h3]; rfl), sh.2⟩, sh.1, q _ H (fun _ _ h => h) (.bl _)⟩
    · cases h4
  · cases h2
def opIn : D → D → Option D := orD (inSeq false) (inPy false)
def opNotIn : D → D → Option D := orD (inSeq true) (inPy true)
theorem ok_inD {k : Nat} (g : GX X k) : OpOk X (compareOp .In) opIn := ok_in.or ⟨_, op_inPy (by have := g.room.un; omega), fun rho H x y a b d st Q si ra rb e q => inPy_ok false ra rb e q⟩
theorem ok_notinD {k : Nat} (g : GX X k) : OpOk X (compareOp .NotIn) opNotIn := ok_notin.or ⟨_, op_notInPy (by have := g.room.un; omega), fun rho H x y a b d st Q si ra rb e q => inPy_ok true ra rb e q⟩

/-! ### (a, b) < (c, d), flat -/
section
open PySem.AutoSeq1 (wpAny_loadPart')
open PySem.MeetsSeq PySem.MeetsSeq2 PySem.MeetsSeq3 PySem.SeqAt
/-- two pairs whose first items differ: these alone are asked -/
theorem pair_first {p q : Addr} {x0 x1 y0 y1 : Value} {i1 i2 : Nat} {d1 d2 : Option Addr} {t1 t2 : Array (Option Value)} {k : Bool} : Meets (Builtin.«tuple.__lt__» ⟨[.ref p, .ref q], []⟩) (fun A R s =>
    s.heap.get? p = some ⟨.type "tuple", d1, .seq #[x0, x1] i1, t1⟩ ∧ s.heap.get? q = some ⟨.type "tuple", d2, .seq #[y0, y1] i2, t2⟩ ∧ EqAt A.in1 s x0 y0 false ∧ RcLt A.in1 s x0 y0 k ∧ R (.ok (.ret (.bool k))) s) := .of_wp fun P w A R s hh => by
  obtain ⟨hp, g, d, tk, os⟩ := s
  obtain ⟨g1, g2, differ, less, done⟩ := hh
  have sub := AutoSeq1.sub_tuple_tuple
  wp_walk using wpAny_loadPart' g1, wpAny_loadPart' g2, wpAny_forIn_list _ (fun todo acc now => acc.1 = none ∧ now = ⟨hp, g, d, tk, os⟩ ∧ todo = [(x0, y0), (x1, y1)]) _
  case turn =>
    rintro ⟨u, v⟩ todo acc now ⟨e1, rfl, e2⟩
    injection e2 with e3 _
    injection e3 with eu ev
    subst eu ev
    refine wpAny_bind (differ P w _ _ ?_)
    have ask := less P w
    wp_walk using ask
    exact ⟨_, rfl, done⟩
  case fin =>
    rintro ⟨_, _⟩ now ⟨_, _, e2⟩
    cases e2
  case h =>
    exact ⟨rfl, rfl, rfl⟩
end
/-- a < b of two of one kind -/
def ltF : V → V → Option Bool
  | .int a, .int b => some (decide (a < b))
  | .str a, .str b => some (decide (a.cps.toList < b.cps.toList))
  | _, _ => none
theorem rcLt_V {A : Around} {s : Shared} {x y : V} {v u : Value} {k : Bool} (rx : RelV x v) (ry : RelV y u) (e : ltF x y = some k) : SeqAt.RcLt A s v u k := by
  unfold ltF at e
  split at e
  · cases e
    obtain ⟨t, rfl⟩ := rx
    obtain ⟨t', rfl⟩ := ry
    exact fun _ _ _ _ h => PyProof.Rows.lt_int h
  · cases e
    obtain ⟨t, rfl⟩ := rx
    obtain ⟨t', rfl⟩ := ry
    exact fun _ _ _ _ h => PySem.P.lt_str h
  · cases e
/-- the order of two pairs -/
def lt2V (a b c d : V) : Option Bool := if eqV a c = true then (if eqV b d = true then some false else ltF b d) else ltF a c
def rLt2 (K : PySem.W.Frag) : R2 := fun x y H Q => ∃ p q a b c d k, x = .ref p ∧ y = .ref q ∧ SqT K H p [a, b] ∧ SqT K H q [c, d] ∧ flatV a = true ∧ flatV b = true ∧ flatV c = true ∧ flatV d = true ∧ lt2V a b c d = some k ∧ Q (.bl k) H
theorem op_lt2 (hu : X.A.units < cLine) : OpR X (compareOp .Lt) (rLt2 X.K) := by
  intro pins s σ H x y v u Q I rx ry h
  obtain ⟨p, q, a, b, c, d, k, rfl, rfl, hp, hq, fa, fb, fc, fd, hk, hQ⟩ := h
  cases rx
  cases ry
  obtain ⟨its, r1, p1, _⟩ := I.tuple hp
  obtain ⟨its2, r2, p2, _⟩ := I.tuple hq
  cases r1 with
  | @cons _ ua _ us1 ra t1 =>
  cases t1 with
  | @cons _ ub _ us2 rb t2 =>
  cases t2
  cases r2 with
  | @cons _ uc _ us3 rc t3 =>
  cases t3 with
  | @cons _ ud _ us4 rd t4 =>
  cases t4
  obtain ⟨⟨cls, dd, data, sl⟩, ho, hc, n, hd⟩ := id p1
  obtain ⟨⟨cls2, dd2, data2, sl2⟩, ho2, hc2, n2, hd2⟩ := id p2
  simp only at hc hd hc2 hd2
  subst hc hd hc2 hd2
  let e : Nat → Bool := fun j => match j with | 0 => eqV a c | _ => eqV b d
  let r : Nat → Bool := fun j => match j with | 0 => (ltF a c).getD false | _ => (ltF b d).getD false
  by_cases ac : eqV a c = true
  · by_cases bd : eqV b d = true
    · have hk' : k = false := by unfold lt2V at hk; rw [if_pos ac, if_pos bd] at hk; cases hk; rfl
      subst hk'
      refine richCompare_meets_room (op := .Lt) ⟨_, ho, rfl⟩ ⟨_, ho2, rfl⟩ PySem.F.slot_tuple_lt PySem.F.entry_tuple_lt (PySem.F.args_tuple_lt_2 _ _) (SeqAt.tuple_ltAt p q #[ua, ub] #[uc, ud] n n2 dd dd2 sl sl2 (fun _ => true) (fun _ => false))
        ⟨ho, ho2, fun j h1 h2 => ?_, fun j h1 h2 z => (by cases z), ⟨(fun x => nomatch x), ⟨.bl false, H, I, rfl, hQ⟩⟩⟩ hu
      match j, h1, h2 with
      | 0, _, _ =>
        rw [← ac]
        exact eqAt_V ra rc fa fc
      | 1, _, _ =>
        rw [← bd]
        exact eqAt_V rb rd fb fd
    · have bd' : eqV b d = false := by simpa using bd
      have hk' : ltF b d = some k := by unfold lt2V at hk; rw [if_pos ac, if_neg bd] at hk; exact hk
      refine richCompare_meets_room (op := .Lt) ⟨_, ho, rfl⟩ ⟨_, ho2, rfl⟩ PySem.F.slot_tuple_lt PySem.F.entry_tuple_lt (PySem.F.args_tuple_lt_2 _ _) (SeqAt.tuple_ltAt p q #[ua, ub] #[uc, ud] n n2 dd dd2 sl sl2 (fun j => j == 0) (fun _ => k))
        ⟨ho, ho2, fun j h1 h2 => ?_, fun j h1 h2 z => ?_, ⟨(fun x => nomatch x), ⟨.bl k, H, I, rfl, hQ⟩⟩⟩ hu
      · match j, h1, h2 with
        | 0, _, _ =>
          show SeqAt.EqAt X.A.in1 s ua uc true
          rw [← ac]
          exact eqAt_V ra rc fa fc
        | 1, _, _ =>
          show SeqAt.EqAt X.A.in1 s ub ud false
          rw [← bd']
          exact eqAt_V rb rd fb fd
      · match j, h1, h2, z with
        | 1, _, _, _ => exact rcLt_V rb rd hk'
  · have ac' : eqV a c = false := by simpa using ac
    have hk' : ltF a c = some k := by unfold lt2V at hk; rw [if_neg ac] at hk; exact hk
    exact richCompare_meets_room (op := .Lt) ⟨_, ho, rfl⟩ ⟨_, ho2, rfl⟩ PySem.F.slot_tuple_lt PySem.F.entry_tuple_lt (PySem.F.args_tuple_lt_2 _ _) pair_first
      ⟨ho, ho2, by rw [← ac']; exact eqAt_V ra rc fa fc, rcLt_V ra rc hk', ⟨(fun x => nomatch x), ⟨.bl k, H, I, rfl, hQ⟩⟩⟩ hu
def lt2 : D → D → Option D := fun x y => match x, y with
  | .tup [a, b], .tup [c, d] => (eqF a c).bind fun e => (eqF b d).bind fun e2 => if e = true then (if e2 = true then some (.bl false) else (orD ltI ltS) b d) else (orD ltI ltS) a c
  | _, _ => none
theorem ltF_of {r : Rf} {H : Hp} {x y : V} {a b d : D} (ra : Rep K r H x a) (rb : Rep K r H y b) (e : (orD ltI ltS) a b = some d) : ∃ k, d = .bl k ∧ ltF x y = some k ∧ flatV x = true ∧ flatV y = true := by
  cases a <;> cases b <;> first
    | cases e; done
    | (cases ra; cases rb; cases e; exact ⟨_, rfl, rfl, rfl, rfl⟩)
theorem ok_lt2 {k : Nat} (g : GX X k) : OpOk X (compareOp .Lt) lt2 := ⟨_, op_lt2 g.room.units0, fun rho H x y m n d st Q si rm rn e q => by
  unfold lt2 at e
  split at e
  · rename_i a b c d'
    obtain ⟨p, us, rfl, s1, l1⟩ := rm.sqT
    obtain ⟨p', us', rfl, s2, l2⟩ := rn.sqT
    obtain ⟨va, vb, rfl, ra, rb⟩ := lst2 l1
    obtain ⟨vc, vd, rfl, rc, rd⟩ := lst2 l2
    obtain ⟨e1, h1, h2⟩ := Option.bind_eq_some_iff.mp e
    obtain ⟨e2, h3, h4⟩ := Option.bind_eq_some_iff.mp h2
    obtain ⟨g1, f1, f2⟩ := eqF_rep ra rc h1
    obtain ⟨g2, f3, f4⟩ := eqF_rep rb rd h3
    have mk : ∀ j, lt2V va vb vc vd = some j → Q (.bl j) H → rLt2 X.K (.ref p) (.ref p') H Q := fun j hj hq => ⟨p, p', va, vb, vc, vd, j, rfl, rfl, s1, s2, f1, f3, f2, f4, hj, hq⟩
    cases e1 with
    | false =>
      rw [if_neg Bool.false_ne_true] at h4
      obtain ⟨j, rfl, lj, _, _⟩ := ltF_of ra rc h4
      exact mk j (by unfold lt2V; rw [if_neg (by rw [g1]; exact Bool.false_ne_true)]; exact lj) (q _ H (fun _ _ h => h) (.bl _))
    | true =>
      rw [if_pos rfl] at h4
      cases e2 with
      | true =>
        rw [if_pos rfl] at h4
        cases h4
        exact mk false (by unfold lt2V; rw [if_pos g1, if_pos g2]) (q _ H (fun _ _ h => h) (.bl _))
      | false =>
        rw [if_neg Bool.false_ne_true] at h4
        obtain ⟨j, rfl, lj, _, _⟩ := ltF_of rb rd h4
        exact mk j (by unfold lt2V; rw [if_pos g1, if_neg (by rw [g2]; exact Bool.false_ne_true)]; exact lj) (q _ H (fun _ _ h => h) (.bl _))
  · cases e⟩
def opLtD : D → D → Option D := orD opLt lt2
theorem ok_ltD {k : Nat} (g : GX X k) : OpOk X (compareOp .Lt) opLtD := ok_lt.or (ok_lt2 g)

/-! ### z[lo:hi] of a text -/
def slS : D → Option Int → Option Int → Option D := fun a lo hi => match a with
  | .str z => if z.length ≤ sizeLine then some (.str (cutS z lo hi)) else none
  | _ => none
def fSliceS (fa : F) (lo hi : FO) : F := fun env st => (fa env st).bind fun p => (lo env p.2).bind fun q => (hi env q.2).bind fun w => (slS p.1 q.1 w.1).map fun d => (d, w.2)
theorem de_sliceS {a : Expr} {lo hi : Option Expr} {fa : F} {fl fh : FO} {p2 pos : Pos} (ha : DE X a fa) (hl : DO' X lo fl) (hh : DO' X hi fh) : DE X (.Subscript a (.Slice lo hi none p2) pos) (fSliceS fa fl fh) :=
  weakE (pe_slice sl_str ha hl hh) fun σ H Q hh => by
  obtain ⟨r, env, st, d, st', he, hs, hf, q⟩ := hh
  obtain ⟨⟨x, s1⟩, h1, hf1⟩ := Option.bind_eq_some_iff.mp hf
  obtain ⟨⟨i, s2⟩, h2, hf2⟩ := Option.bind_eq_some_iff.mp hf1
  obtain ⟨⟨j, s3⟩, h3, hf3⟩ := Option.bind_eq_some_iff.mp hf2
  obtain ⟨d', h4, hf4⟩ := Option.map_eq_some_iff.mp hf3
  cases hf4
  refine ⟨r, env, st, x, s1, he, hs, h1, fun u r1 H1 e1 q1 p1 => ⟨r1, env, s1, i, s2, he.ext e1, q1, h2, fun r2 H2 e2 q2 => ⟨r2, env, s2, j, _, (he.ext e1).ext e2, q2, h3, fun r3 H3 e3 q3 => ?_⟩⟩⟩
  have p3 := (p1.ext e2).ext e3
  cases x with
  | str z =>
    have h4' : (if z.length ≤ sizeLine then some (D.str (cutS z i j)) else none) = some _ := h4
    by_cases hz : z.length ≤ sizeLine
    · rw [if_pos hz] at h4'
      cases h4'
      cases p3
      exact ⟨z, rfl, hz, q _ r3 H3 ((e1.trans e2).trans e3) q3 (.str _)⟩
    · rw [if_neg hz] at h4'
      cases h4'
  | _ => cases h4

/-! ### repr -/
/-- what repr shows of x, if it is no more than may be shown -/
def shownD (d : PyData) : Option D := if d.hasDict = false ∧ d.showable = true ∧ d.depth ≤ 64 ∧ d.shown.length ≤ sizeLine then some (.str d.shown) else none
def bRepr : List D → Store → Option D := fun ds _ => match ds with
  | [.tup xs] => (toPy (.tup xs)).bind shownD
  | [.lst xs] => (toPy (.lst xs)).bind shownD
  | _ => none
theorem call_reprD {k : Nat} (g : GX X k) : CallR X (.builtin "repr") (fun xs H Q => ∃ a d, xs = [.ref a] ∧ Dp X.K H (.ref a) d ∧ d.hasDict = false ∧ d.showable = true ∧ d.depth ≤ 64 ∧ d.shown.length ≤ sizeLine ∧ Q (.str d.shown) H) := by
  intro pins s σ H xs us Q I r h
  obtain ⟨a, d, rfl, hd, h1, h2, h3, h4, q⟩ := h
  obtain ⟨u, rfl, ru⟩ := vals1 r
  cases ru
  obtain ⟨as, rd⟩ := Dp.reads I d (.ref a) (.ref a) hd rfl
  exact repr_of_reads' rd h2 (PyData.noDict_hsm h1) g.gd (by have := g.room.un; omega) (fun _ _ e => e) (fun h' u tk hk => ⟨.str d.shown, H, I.kept hk, ⟨_, rfl⟩, q⟩) h4
theorem shownD_some {d : PyData} {z : D} (h : shownD d = some z) : d.hasDict = false ∧ d.showable = true ∧ d.depth ≤ 64 ∧ d.shown.length ≤ sizeLine ∧ z = .str d.shown := by
  unfold shownD at h
  split at h
  · rename_i c
    cases h
    exact ⟨c.1, c.2.1, c.2.2.1, c.2.2.2, rfl⟩
  · cases h
theorem ok_repr {k : Nat} (g : GX X k) : CallOk X (.builtin "repr") bRepr := ⟨_, call_reprD g, fun rho H xs ds d st Q rl si e q => by
  unfold bRepr at e
  split at e
  · obtain ⟨v, rfl, p⟩ := lst1 rl
    obtain ⟨y, h1, h2⟩ := Option.bind_eq_some_iff.mp e
    obtain ⟨c1, c2, c3, c4, rfl⟩ := shownD_some h2
    have pd := p.dp h1
    obtain ⟨a, us, rfl, s, l⟩ := p.sqT
    exact ⟨a, y, rfl, pd, c1, c2, c3, c4, q _ H (fun _ _ h => h) (.str _)⟩
  · obtain ⟨v, rfl, p⟩ := lst1 rl
    obtain ⟨y, h1, h2⟩ := Option.bind_eq_some_iff.mp e
    obtain ⟨c1, c2, c3, c4, rfl⟩ := shownD_some h2
    have pd := p.dp h1
    cases p with
    | lst a b c => exact ⟨_, y, rfl, pd, c1, c2, c3, c4, q _ H (fun _ _ h => h) (.str _)⟩
  · cases e⟩
end
end DL
/-! Small data: what may be compared and shown. -/
namespace DL
open PySem PySem.Spec PyProof.Rows L2 TL
variable {K : PySem.W.Frag}
section
variable {X : Cx} {W : WXd}
/-- two texts, equal or not -/
def opEqS : D → D → Option D := onS (fun _ _ => True) fun i j => .bl (decide (i = j))
def opNeS : D → D → Option D := onS (fun _ _ => True) fun i j => .bl (!decide (i = j))
theorem ok_eqS : OpOk X (compareOp .Eq) opEqS := ⟨_, op_eq, fun rho H x y a b d st Q si ra rb e q => by
  obtain ⟨i, j, rfl, rfl, z, rfl⟩ := onS_some e
  cases ra
  cases rb
  refine ⟨rfl, ?_⟩
  have : decide (V.str i = V.str j) = decide (i = j) := by by_cases h : i = j <;> simp [h]
  rw [this]
  exact q _ H (fun _ _ h => h) (.bl _)⟩
theorem ok_neS : OpOk X (compareOp .NotEq) opNeS := ⟨_, op_ne, fun rho H x y a b d st Q si ra rb e q => by
  obtain ⟨i, j, rfl, rfl, z, rfl⟩ := onS_some e
  cases ra
  cases rb
  refine ⟨rfl, ?_⟩
  have : decide (V.str i = V.str j) = decide (i = j) := by by_cases h : i = j <;> simp [h]
  rw [this]
  exact q _ H (fun _ _ h => h) (.bl _)⟩
theorem opNeS_same (x : Str) : opNeS (.str x) (.str x) = some (.bl false) := by simp [opNeS, onS]
end
/-- small data: of depth dp at most, of weight wt at most -/
def Sm (dp wt : Nat) (d : D) : Prop := ∃ p, toPy d = some p ∧ p.canLay0 = true ∧ p.depth ≤ dp ∧ p.weight ≤ wt ∧ p.intsShort 13 = true ∧ p.showable = true
def SmL (dp wt : Nat) (ds : List D) : Prop := ∃ ps, toPyL ds = some ps ∧ PyData.canLayAll0 ps = true ∧ PyData.depthAll ps ≤ dp ∧ PyData.weightAll ps ≤ wt ∧ PyData.intsShortAll 13 ps = true ∧ PyData.showableAll ps = true
theorem Sm.mono {dp wt dp' wt' : Nat} {d : D} (h : Sm dp wt d) (a : dp ≤ dp') (b : wt ≤ wt') : Sm dp' wt' d := let ⟨p, h1, h2, h3, h4, h5⟩ := h; ⟨p, h1, h2, Nat.le_trans h3 a, Nat.le_trans h4 b, h5⟩
theorem SmL.mono {dp wt dp' wt' : Nat} {d : List D} (h : SmL dp wt d) (a : dp ≤ dp') (b : wt ≤ wt') : SmL dp' wt' d := let ⟨p, h1, h2, h3, h4, h5⟩ := h; ⟨p, h1, h2, Nat.le_trans h3 a, Nat.le_trans h4 b, h5⟩
theorem SmL.nil : SmL 0 0 [] := ⟨[], rfl, rfl, Nat.le_refl _, Nat.le_refl _, rfl, rfl⟩
theorem SmL.cons {dp wt wt' : Nat} {d : D} {ds : List D} (h : Sm dp wt d) (t : SmL dp wt' ds) : SmL dp (wt + 1 + wt') (d :: ds) := by
  obtain ⟨p, h1, h2, h3, h4, h5, h6⟩ := h
  obtain ⟨ps, t1, t2, t3, t4, t5, t6⟩ := t
  refine ⟨p :: ps, by simp [toPyL, h1, t1], by simp [PyData.canLayAll0, h2, t2], ?_, ?_, by simp [PyData.intsShortAll, h5, t5], by simp [PyData.showableAll, h6, t6]⟩
  · rw [PyData.depthAll]
    exact Nat.max_le.mpr ⟨h3, t3⟩
  · rw [PyData.weightAll]
    omega
theorem SmL.all {dp wt : Nat} : ∀ {ds : List D}, (∀ d ∈ ds, Sm dp wt d) → SmL dp (ds.length * (wt + 1)) ds
  | [], _ => SmL.nil.mono (Nat.zero_le _) (Nat.zero_le _)
  | d :: ds, h => (SmL.cons (h d List.mem_cons_self) (SmL.all fun x hx => h x (List.mem_cons_of_mem _ hx))).mono (Nat.le_refl _) (by rw [List.length_cons, Nat.succ_mul]; omega)
theorem Sm.tup {dp wt : Nat} {ds : List D} (h : SmL dp wt ds) : Sm (dp + 1) wt (.tup ds) := by
  obtain ⟨ps, t1, t2, t3, t4, t5, t6⟩ := h
  exact ⟨.tuple ps, by simp [toPy, t1], by simpa [PyData.canLay0] using t2, by simpa [PyData.depth] using t3, by simpa [PyData.weight] using t4, by simpa [PyData.intsShort] using t5, by simpa [PyData.showable] using t6⟩
theorem Sm.lst {dp wt : Nat} {ds : List D} (h : SmL dp wt ds) : Sm (dp + 1) wt (.lst ds) := by
  obtain ⟨ps, t1, t2, t3, t4, t5, t6⟩ := h
  exact ⟨.list ps, by simp [toPy, t1], by simpa [PyData.canLay0] using t2, by simpa [PyData.depth] using t3, by simpa [PyData.weight] using t4, by simpa [PyData.intsShort] using t5, by simpa [PyData.showable] using t6⟩
theorem Sm.non : Sm 0 0 .non := ⟨.none, rfl, rfl, Nat.le_refl _, Nat.le_refl _, rfl, rfl⟩
theorem Sm.bl (b : Bool) : Sm 0 0 (.bl b) := ⟨.bool b, rfl, rfl, Nat.le_refl _, Nat.le_refl _, rfl, rfl⟩
theorem Sm.int {i : Int} (h : -1000000000000 < i ∧ i < 1000000000000) : Sm 0 40 (.int i) := by
  have hn : i.natAbs < 10 ^ 12 := by omega
  have hl : i.natAbs.log2 < 40 := by
    by_cases z : i.natAbs = 0
    · rw [z]; decide
    · exact (Nat.log2_lt z).mpr (by omega)
  refine ⟨.int i, rfl, rfl, Nat.le_refl _, ?_, ?_, ?_⟩
  · rw [PyData.weight]
    split
    · exact Nat.zero_le _
    · omega
  · rw [PyData.intsShort, PyData.shown]
    have h0 := int_text_length_le10 (a := i) (k := 12) (by decide) hn
    refine decide_eq_true ?_
    rw [PySem.ofString_length]
    exact h0
  · rw [PyData.showable]
    exact decide_eq_true (by omega)
theorem Sm.str {n : Nat} {x : Str} (h : GS n x) : Sm 0 n (.str x) := by
  refine ⟨.str x, rfl, ?_, Nat.le_refl _, ?_, rfl, rfl⟩
  · have := h.ok
    unfold SeqAt.shaped at this
    exact (Bool.and_eq_true_iff.mp this).1
  · rw [PyData.weight]
    exact h.1
theorem Sm.shaped {dp wt : Nat} {d : D} (h : Sm dp wt d) (l : dp ≤ 64) : ∃ p, toPy d = some p ∧ SeqAt.shaped p = true := by
  obtain ⟨p, h1, h2, h3, h4, h5, h6⟩ := h
  refine ⟨p, h1, ?_⟩
  unfold SeqAt.shaped
  rw [h2, decide_eq_true (Nat.le_trans h3 l)]
  rfl
theorem Sm.shown {dp wt : Nat} {d : D} (h : Sm dp wt d) (l : dp ≤ 64) (m : wt ≤ 1048576) : ∃ x, (toPy d).bind shownD = some (.str x) := by
  obtain ⟨p, h1, h2, h3, h4, h5, h6⟩ := h
  have hl : PyData.layable0 p = true := by
    unfold PyData.layable0
    rw [h2, decide_eq_true (Nat.le_trans h3 l), decide_eq_true (show p.weight ≤ 2 ^ 20 from Nat.le_trans h4 m)]
    rfl
  have hs : p.shown.length ≤ sizeLine := Nat.le_trans (shown_le13 hl h5) (by rw [sizeLine_eq]; decide)
  have hd := PyData.hasDict_of_layable hl
  exact ⟨p.shown, by rw [h1, Option.bind_some]; unfold shownD; rw [if_pos ⟨hd, h6, Nat.le_trans h3 l, hs⟩]⟩
theorem repr_tup {dp wt : Nat} {ds : List D} (h : Sm dp wt (.tup ds)) (l : dp ≤ 64) (m : wt ≤ 1048576) : ∃ x, ∀ st, bRepr [.tup ds] st = some (.str x) := let ⟨x, e⟩ := h.shown l m; ⟨x, fun st => e⟩
theorem repr_lst {dp wt : Nat} {ds : List D} (h : Sm dp wt (.lst ds)) (l : dp ≤ 64) (m : wt ≤ 1048576) : ∃ x, ∀ st, bRepr [.lst ds] st = some (.str x) := let ⟨x, e⟩ := h.shown l m; ⟨x, fun st => e⟩
end DL
/-! == of anything and a text; a tuple and (). -/
namespace DL
open PySem PySem.Spec PyProof.Rows L2 TL
variable {K : PySem.W.Frag}
section
open PySem.MeetsSeq PySem.MeetsSeq2 PySem.MeetsSeq3 PySem.SeqAt
variable {A : Around} {s : Shared}
theorem str_not_dict (x : Str) (t : Tok) (a : Addr) (es : Array DictEntry) (n : Nat) (dd : Option Addr) (sl : Array (Option Value)) :
    Meets (Builtin.«str.__eq__» ⟨[.str x t, .ref a], []⟩) (fun _ R s => s.heap.get? a = some ⟨.type "dict", dd, .dict es n, sl⟩ ∧ R (.ok (.ret .notImplemented)) s) := .of_wp fun P w A R s hh => by
  obtain ⟨hp, g, d, tk, os⟩ := s
  obtain ⟨got, done⟩ := hh
  wp_walk using wpAny_load got
  exact ⟨_, rfl, done⟩
/-- dict's own answer to a text -/
theorem call_dict_str {P : Program} {w : World} {E Q' : Value → Shared → Prop} {a : Addr} (x : Str) (t : Tok) {id : Str} (slot : Slot "dict" id "dict.__eq__") (hT : s.TypeIs (.ref a) "dict") (hq : Q' .notImplemented s) : wpAny (model P w) A (call (.builtin "dict.__eq__") [.ref a, .str x t]) Q' E s := by
  refine wpAny_call_entry slot hT PySem.F.entry_dict_eq ?_ (PySem.F.args_dict_eq_2 _ _)
  show wpAny _ _ (Builtin.Dict.dictSlotArgs "__eq__" ⟨[.ref a, .str x t], []⟩ >>= _) _ _ s
  refine wpAny_bind ?_
  unfold Builtin.Dict.dictSlotArgs
  refine wpAny_bind (wpAny_notOrdered_dict hT ?_)
  show wpAny _ _ (pure (Value.ref a, Value.str x t)) _ _ s
  refine wpAny_pure ?_
  refine wpAny_bind (wpAny_isInstance (T := "str") (typeIs_str _ _ _) PySem.F.sub_str_dict ?_)
  simp only [Bool.not_false, if_true]
  wp_walk
  exact ⟨_, rfl, hq⟩
/-- a dict == a text -/
theorem rc_dict_str {a : Addr} {es : Array DictEntry} {n : Nat} {dd : Option Addr} {sl : Array (Option Value)} (x : Str) (t : Tok) (got : s.heap.get? a = some ⟨.type "dict", dd, .dict es n, sl⟩) (hu : A.units < cLine) : RcAt A s (.ref a) (.str x t) false := fun P w E Q h =>
  have hT : s.TypeIs (.ref a) "dict" := ⟨_, got, rfl⟩
  rc_eq_decline_or (k := false) hT (typeIs_str s x t) (by decide) PySem.F.sub_str_dict PySem.F.slot_dict_eq PySem.F.slot_str_eq_refl (fun Q' hq => call_dict_str x t PySem.F.slot_dict_eq hT hq)
    (fun Q' hq => call_meets PySem.F.slot_str_eq_refl (typeIs_str s x t) PySem.F.entry_str_eq (PySem.F.args_str_eq_2 _ _) (str_not_dict x t a es n dd sl) ⟨got, hq⟩)
    (fun Q' hq => wpAny_of_eq (rfl : isSame (.ref a) (.str x t) = pure false) hq) (.inr hu) h
theorem rc_str_dict {a : Addr} {es : Array DictEntry} {n : Nat} {dd : Option Addr} {sl : Array (Option Value)} (x : Str) (t : Tok) (got : s.heap.get? a = some ⟨.type "dict", dd, .dict es n, sl⟩) (hu : A.units < cLine) : RcAt A s (.str x t) (.ref a) false := fun P w E Q h =>
  have hT : s.TypeIs (.ref a) "dict" := ⟨_, got, rfl⟩
  rc_eq_decline_or (k := false) (typeIs_str s x t) hT (by decide) PySem.F.sub_dict_str PySem.F.slot_str_eq PySem.F.slot_dict_eq_refl
    (fun Q' hq => call_meets PySem.F.slot_str_eq (typeIs_str s x t) PySem.F.entry_str_eq (PySem.F.args_str_eq_2 _ _) (str_not_dict x t a es n dd sl) ⟨got, hq⟩) (fun Q' hq => call_dict_str x t PySem.F.slot_dict_eq_refl hT hq)
    (fun Q' hq => wpAny_of_eq (rfl : isSame (.str x t) (.ref a) = pure false) hq) (.inr hu) h
/-- as an item is compared -/
theorem eq_str_dict {a : Addr} {es : Array DictEntry} {n : Nat} {dd : Option Addr} {sl : Array (Option Value)} (x : Str) (t : Tok) (got : s.heap.get? a = some ⟨.type "dict", dd, .dict es n, sl⟩) (hu : A.units < cLine) : EqAt A s (.str x t) (.ref a) false := fun P w E Q q => by
  unfold eqBool
  refine wpAny_holding (wpAny_ite_split (fun z => absurd (eq_of_beq z) nofun) fun _ => ?_)
  exact wpAny_bind (rc_str_dict x t got hu P w E _ (wpAny_truthy_bool q))
end
section
variable {X : Cx} {W : WXd}
/-- is it this text -/
def eqS (x : Str) : D → Option Bool
  | .non => some false | .bl _ => some false | .int _ => some false | .str y => some (y == x) | .tup _ => some false | .lst _ => some false | .dct _ => some false | .scr _ => none | .ref _ => none
/-- both ways, behind whatever is read -/
theorem any_str {rho : Rf} {pins : List (Addr × Obj)} {σ : L2.St} {H : Hp} {s : Shared} {v : V} {u : Value} {d : D} {x : Str} {t : Tok} {k : Bool} {A : Around} (I : Inv X pins σ H s) (r : Rep X.K rho H v d) (rv : RelV v u) (e : eqS x d = some k) (hu : A.units < cLine) :
    SeqAt.RcAt A s u (.str x t) k ∧ SeqAt.EqAt A s (.str x t) u k := by
  cases d with
  | non => cases r; cases e; cases rv; exact ⟨.none_str _ _, .str_none _ _⟩
  | bl b => cases r; cases e; cases rv; exact ⟨.bool_str _ _ _, .str_bool _ _ _⟩
  | int i =>
    cases r
    cases e
    obtain ⟨t', rfl⟩ := rv
    exact ⟨.int_str _ _ _ _, .str_int _ _ _ _⟩
  | str y =>
    cases r
    cases e
    obtain ⟨t', rfl⟩ := rv
    refine ⟨.str_str _ _ _ _, ?_⟩
    have := SeqAt.EqAt.str_str (A := A) (s := s) x t y t'
    rwa [show (x == y) = (y == x) from Bool.beq_comm] at this
  | tup ds =>
    cases e
    obtain ⟨a, us, rfl, sq, l⟩ := r.sqT
    cases rv
    obtain ⟨its, r1, p1, _⟩ := I.tuple sq
    exact ⟨.tuple_str _ _ p1 hu, .str_tuple _ _ p1 hu⟩
  | lst ds =>
    cases e
    cases r with
    | lst g1 g2 g3 =>
      cases rv
      obtain ⟨its, r1, p1, _⟩ := I.list (.of g1)
      exact ⟨.list_str _ _ p1.isList hu, .str_list _ _ p1.isList hu⟩
  | dct kvs =>
    cases e
    cases r with
    | dct g1 g2 g3 =>
      cases rv
      obtain ⟨_, ns, vs, _, ⟨⟨cls, dd, data, sl⟩, es, ep, ho, ⟨hc, _, _⟩, hd, _⟩⟩ := (show ObjOk X.prog X.w H s.heap _ (.dK _) from (I.hok _ _ g1).2)
      simp only at hc hd
      subst hc hd
      exact ⟨rc_dict_str x t ho hu, eq_str_dict x t ho hu⟩
  | scr ns => cases e
  | ref n => cases e
/-- d == "text" -/
def eqT : D → D → Option D := fun a b => match b with | .str x => (eqS x a).map .bl | _ => none
def rEqT (K : PySem.W.Frag) : R2 := fun x y H Q => ∃ (rho : Rf) (d : D) (z : Str) (k : Bool), Rep K rho H x d ∧ y = .str z ∧ eqS z d = some k ∧ Q (.bl k) H
theorem op_eqT (hu : X.A.units < cLine) : OpR X (compareOp .Eq) (rEqT X.K) := by
  intro pins s σ H x y v u Q I rx ry h
  obtain ⟨rho, d, z, k, r, rfl, e, q⟩ := h
  obtain ⟨t, rfl⟩ := ry
  exact (any_str (A := X.A) I r rx e hu).1 X.prog X.w _ _ ⟨.bl k, H, I, rfl, q⟩
theorem ok_eqT {k : Nat} (g : GX X k) : OpOk X (compareOp .Eq) eqT := ⟨_, op_eqT g.room.units0, fun rho H x y a b d st Q si ra rb e q => by
  unfold eqT at e
  split at e
  · obtain ⟨c, h1, h2⟩ := Option.map_eq_some_iff.mp e
    subst h2
    cases rb
    exact ⟨rho, a, _, c, ra, rfl, h1, q _ H (fun _ _ h => h) (.bl _)⟩
  · cases e⟩
/-- t == () -/
def eqNil : D → D → Option D := fun a b => match a, b with | .tup xs, .tup [] => some (.bl (xs.length == 0)) | _, _ => none
def rEqNil (K : PySem.W.Frag) : R2 := fun x y H Q => ∃ a b xs, x = .ref a ∧ y = .ref b ∧ SqT K H a xs ∧ SqT K H b [] ∧ Q (.bl (xs.length == 0)) H
theorem op_eqNil (hu : X.A.units < cLine) : OpR X (compareOp .Eq) (rEqNil X.K) := by
  intro pins s σ H x y v u Q I rx ry h
  obtain ⟨a, b, xs, rfl, rfl, h1, h2, q⟩ := h
  cases rx
  cases ry
  obtain ⟨its, r1, p1, _⟩ := I.tuple h1
  obtain ⟨its2, r2, p2, _⟩ := I.tuple h2
  cases r2
  refine SeqAt.eq_tupleAt (e := fun _ => true) p1 p2 hu (fun j h1 h2 => absurd h2 (Nat.not_lt_zero j)) ?_
  have : (((List.range (min its.toArray.size (#[] : Array Value).size)).all fun _ => true) && its.toArray.size == (#[] : Array Value).size) = (xs.length == 0) := by
    rw [r1.length]
    simp
  rw [this]
  exact ⟨.bl _, H, I, rfl, q⟩
theorem ok_eqNil {k : Nat} (g : GX X k) : OpOk X (compareOp .Eq) eqNil := ⟨_, op_eqNil g.room.units0, fun rho H x y a b d st Q si ra rb e q => by
  unfold eqNil at e
  split at e
  · cases e
    obtain ⟨p, us, rfl, s1, l1⟩ := ra.sqT
    obtain ⟨p2, us2, rfl, s2, l2⟩ := rb.sqT
    cases l2
    exact ⟨p, p2, us, rfl, rfl, s1, s2, by rw [l1.len]; exact q _ H (fun _ _ h => h) (.bl _)⟩
  · cases e⟩
/-- == where one side may be anything -/
def opEqA : D → D → Option D := orD eqT (orD eqNil opEq)
theorem ok_eqA {k : Nat} (g : GX X k) : OpOk X (compareOp .Eq) opEqA := (ok_eqT g).or ((ok_eqNil g).or (ok_eq g))
/-- d in ("text", ..) -/
def anyS (a : D) : List Str → Option Bool
  | [] => some false
  | z :: zs => (eqS z a).bind fun b => (anyS a zs).map fun c => b || c
def inStr (neg : Bool) : D → D → Option D := fun a b => match b with | .tup ds => (strsD ds).bind fun zs => (anyS a zs).map fun b => .bl (if neg then !b else b) | _ => none
def rInStr (K : PySem.W.Frag) (neg : Bool) : R2 := fun x y H Q => ∃ (rho : Rf) (d : D) (p : Addr) (zs : List Str) (k : Bool), Rep K rho H x d ∧ y = .ref p ∧ SqT K H p (zs.map V.str) ∧ anyS d zs = some k ∧ Q (.bl (if neg then !k else k)) H
/-- an item's answer -/
def itemS (d : D) : Value → Bool | .str z _ => (eqS z d).getD false | _ => false
theorem any_items {rho : Rf} {pins : List (Addr × Obj)} {σ : L2.St} {H : Hp} {s : Shared} {v : V} {u : Value} {d : D} {A : Around} (I : Inv X pins σ H s) (r : Rep X.K rho H v d) (rv : RelV v u) (hu : A.units < cLine) :
    ∀ {zs : List Str} {its : List Value} {k : Bool}, Vals (zs.map V.str) its → anyS d zs = some k → its.any (itemS d) = k ∧ ∀ y ∈ its, SeqAt.EqAt A s y u (itemS d y)
  | [], _, k, .nil, e => by
    cases e
    exact ⟨rfl, fun y hy => by cases hy⟩
  | z :: zs, _, k, .cons (b := w) (l₂ := ws) hw t, e => by
    obtain ⟨b, h1, h2⟩ := Option.bind_eq_some_iff.mp (show ((eqS z d).bind fun b => (anyS d zs).map fun c => b || c) = some k from e)
    obtain ⟨c, h3, h4⟩ := Option.map_eq_some_iff.mp h2
    obtain ⟨g1, g2⟩ := any_items I r rv hu t h3
    obtain ⟨tk, rfl⟩ := hw
    have e1 : itemS d (.str z tk) = b := by
      show (eqS z d).getD false = b
      rw [h1]; rfl
    refine ⟨by rw [List.any_cons, g1, e1]; exact h4, fun y hy => ?_⟩
    rcases List.mem_cons.mp hy with rfl | hy
    · rw [e1]
      exact (any_str (A := A) I r rv h1 hu).2
    · exact g2 y hy
theorem op_inStr (hu : X.A.units + 1 < cLine) : OpR X (compareOp .In) (rInStr X.K false) := by
  intro pins s σ H x y v u Q I rx ry h
  obtain ⟨rho, d, p, zs, k, r, rfl, sq, e, q⟩ := h
  cases ry
  obtain ⟨its, r1, p1, _⟩ := I.tuple sq
  obtain ⟨g1, g2⟩ := any_items (A := X.A.in1) I r rx hu r1 e
  refine SeqAt.in_tupleAt (itemS d) p1 (fun y hy => g2 y (by simpa using hy)) ?_
  rw [show its.toArray.any (itemS d) = its.any (itemS d) by simp, g1]
  exact ⟨.bl k, H, I, rfl, q⟩
theorem op_notInStr (hu : X.A.units + 1 < cLine) : OpR X (compareOp .NotIn) (rInStr X.K true) := by
  intro pins s σ H x y v u Q I rx ry h
  obtain ⟨rho, d, p, zs, k, r, rfl, sq, e, q⟩ := h
  cases ry
  obtain ⟨its, r1, p1, _⟩ := I.tuple sq
  obtain ⟨g1, g2⟩ := any_items (A := X.A.in1) I r rx hu r1 e
  refine SeqAt.notIn_tupleAt (itemS d) p1 (fun y hy => g2 y (by simpa using hy)) ?_
  rw [show its.toArray.any (itemS d) = its.any (itemS d) by simp, g1]
  exact ⟨.bl (!k), H, I, rfl, q⟩
theorem inStr_ok (neg : Bool) {rho : Rf} {H : Hp} {x y : V} {a b d : D} {Q : VK} (ra : Rep K rho H x a) (rb : Rep K rho H y b) (e : inStr neg a b = some d) (q : ∀ v H', Same H H' → Rep K rho H' v d → Q v H') : rInStr K neg x y H Q := by
  unfold inStr at e
  split at e
  · obtain ⟨zs, h1, h2⟩ := Option.bind_eq_some_iff.mp e
    obtain ⟨c, h3, h4⟩ := Option.map_eq_some_iff.mp h2
    subst h4
    obtain ⟨p, us, rfl, s1, l1⟩ := rb.sqT
    have := l1.strs' h1
    subst this
    exact ⟨rho, a, p, zs, c, ra, rfl, s1, h3, q _ H (fun _ _ h => h) (.bl _)⟩
  · cases e
def opInA : D → D → Option D := orD (inStr false) (inSeq false)
def opNotInA : D → D → Option D := orD (inStr true) (inSeq true)
theorem ok_inA {k : Nat} (g : GX X k) : OpOk X (compareOp .In) opInA := OpOk.or ⟨_, op_inStr (by have := g.room.un; omega), fun rho H x y a b d st Q si ra rb e q => inStr_ok false ra rb e q⟩ ok_in
theorem ok_notinA {k : Nat} (g : GX X k) : OpOk X (compareOp .NotIn) opNotInA := OpOk.or ⟨_, op_notInStr (by have := g.room.un; omega), fun rho H x y a b d st Q si ra rb e q => inStr_ok true ra rb e q⟩ ok_notin
end
end DL
/-! repr of anything. -/
namespace DL
open PySem PySem.Spec PyProof.Rows L2 TL
variable {K : PySem.W.Frag}
mutual
def toPyR : D → Option PyData
  | .non => some .none
  | .bl b => some (.bool b)
  | .int i => some (.int i)
  | .str x => some (.str x)
  | .tup ds => (toPyRL ds).map .tuple
  | .lst ds => (toPyRL ds).map .list
  | .dct [] => some (.dict [])
  | .dct (_ :: _) => none
  | .scr _ => none
  | .ref _ => none
def toPyRL : List D → Option (List PyData)
  | [] => some []
  | d :: ds => (toPyR d).bind fun p => (toPyRL ds).map fun q => p :: q
end
section
variable {X : Cx} {W : WXd} {pins : List (Addr × Obj)} {σ : L2.St} {H : Hp} {s : Shared} {rho : Rf}
theorem dict_nil (I : Inv X pins σ H s) {a : Addr} {xs : List (Key × V)} (h : Rd H a (.dK xs)) (e : xs = []) : ∃ o es ep, s.heap.get? a = some o ∧ o.cls = .type "dict" ∧ o.data = .dict es ep ∧ es.toList = [] ∧ (a == sysModules) = false := by
  subst e
  obtain ⟨_, ns, vs, kv, ⟨o, es, ep, ho, ⟨hc, _, _⟩, hd, _, hp, _⟩⟩ := (show ObjOk X.prog X.w H s.heap a (.dK []) from h.ok I.hok)
  unfold KV at kv
  cases kv
  refine ⟨o, es, ep, ho, hc, hd, ?_, ns⟩
  generalize es.toList = l at *
  cases hp
  rfl
/-- what can be read back, with what shows it -/
def Shows (X : Cx) (s : Shared) (u : Value) (p : PyData) : Prop := (∃ as, Reads s.heap u p as) ∧ ∃ bs, ReadAtMost s.heap p.depth bs ∧ ReprK X.prog X.w bs s.heap p.depth u p.shown
def ShowsL (X : Cx) (s : Shared) (us : List Value) (ps : List PyData) : Prop := (∃ as, ReadsAll s.heap us ps as) ∧ ∃ bs, ReadAtMost s.heap (PyData.depthAll ps) bs ∧ ReprAllK X.prog X.w bs s.heap (PyData.depthAll ps) us (PyData.shownAll ps)
theorem shows_flat {u : Value} {p : PyData} (r : Reads s.heap u p []) (h : ReprIs X.prog X.w u p.shown) : Shows X s u p := ⟨⟨[], r⟩, [], (fun _ z => nomatch z), .of_is h _ _ _⟩
mutual
theorem shows_of (I : Inv X pins σ H s) : ∀ (d : D) {v : V} {u : Value} {p : PyData}, Rep X.K rho H v d → RelV v u → toPyR d = some p → p.showable = true → p.shown.length ≤ sizeLine → Shows X s u p
  | .non, _, _, _, r, rv, e, _, _ => by
    cases r
    cases rv
    cases e
    exact shows_flat .none .none
  | .bl b, _, _, _, r, rv, e, _, _ => by
    cases r
    cases rv
    cases e
    exact shows_flat (.bool b) (.bool b)
  | .int i, _, _, _, r, rv, e, sh, _ => by
    cases r
    obtain ⟨t, rfl⟩ := rv
    cases e
    exact shows_flat (.int i t) (.int t (of_decide_eq_true (show decide (i.natAbs.log2 < 1920) = true from sh)))
  | .str x, _, _, _, r, rv, e, _, z => by
    cases r
    obtain ⟨t, rfl⟩ := rv
    cases e
    exact shows_flat (.str x t) (.str x t z)
  | .scr _, _, _, _, _, _, e, _, _ => by cases e
  | .ref _, _, _, _, _, _, e, _, _ => by cases e
  | .dct (_ :: _), _, _, _, _, _, e, _, _ => by cases e
  | .dct [], _, _, _, r, rv, e, _, _ => by
    cases e
    cases r with
    | dct g1 g2 g3 =>
      cases g3
      cases rv
      obtain ⟨o, es, ep, ho, hc, hd, hn, hs⟩ := dict_nil I (.inr ⟨_, g1⟩) rfl
      have rd : Reads s.heap (.ref _) (.dict []) _ := .dict (as := []) (bs := []) ho hc hd (by rw [hn]; exact .nil) (by rw [hn]; exact .nil)
      exact ⟨⟨_, rd⟩, [_], fun b hb => by
        rw [List.mem_singleton.mp hb]
        exact ⟨_, _, rd, Nat.le_refl _⟩, ReprK.dict (d := 0) ho hc hd hs (by simp) (by rw [hn]; exact .nil)⟩
  | .tup ds, _, _, _, r, rv, e, sh, z => by
    obtain ⟨ps, e1, e2⟩ := Option.map_eq_some_iff.mp (show (toPyRL ds).map PyData.tuple = some _ from e)
    subst e2
    obtain ⟨a, us, rfl, sq, l⟩ := r.sqT
    cases rv
    obtain ⟨its, r1, ⟨o, ho, hc, n, hd⟩, _⟩ := I.tuple sq
    obtain ⟨⟨as, ra⟩, bs, hb, hk⟩ := showsL_of I ds l r1 e1 sh fun t ht => Nat.le_trans (tupleText_mem_le ht) z
    have rd : Reads s.heap (.ref a) (.tuple ps) as := .tuple ho hc hd ra
    have na : a ∉ bs := not_mem_of_deeper rd (Nat.lt_succ_self _) hb
    exact ⟨⟨as, rd⟩, a :: bs, ReadAtMost.cons rd (Nat.le_succ _) hb, ReprK.tuple ho hc hd na hk⟩
  | .lst ds, _, _, _, r, rv, e, sh, z => by
    obtain ⟨ps, e1, e2⟩ := Option.map_eq_some_iff.mp (show (toPyRL ds).map PyData.list = some _ from e)
    subst e2
    cases r with
    | lst g1 g2 g3 =>
      rename_i a us
      cases rv
      obtain ⟨its, r1, ⟨⟨o, n, ho, hc, hx, hd⟩, hz⟩⟩ := I.list (.of g1)
      obtain ⟨⟨as, ra⟩, bs, hb, hk⟩ := showsL_of I ds g3 r1 e1 sh fun t ht => Nat.le_trans (listText_mem_le ht) z
      have rd : Reads s.heap (.ref a) (.list ps) (a :: as) := .list ho hc hd ra
      have na : a ∉ bs := not_mem_of_deeper rd (Nat.lt_succ_self _) hb
      refine ⟨⟨_, rd⟩, a :: bs, ReadAtMost.cons rd (Nat.le_succ _) hb, ?_⟩
      cases its with
      | nil =>
        cases ra
        exact ReprK.listEmpty ho hc hd
      | cons w ws => exact ReprK.list ho hc hd na (by simpa using hk.length_eq) fun i y q => hk.item i y (by simpa using q)
theorem showsL_of (I : Inv X pins σ H s) : ∀ (ds : List D) {vs : List V} {us : List Value} {ps : List PyData}, RepL X.K rho H vs ds → Vals vs us → toPyRL ds = some ps → PyData.showableAll ps = true → (∀ t ∈ PyData.shownAll ps, t.length ≤ sizeLine) → ShowsL X s us ps
  | [], _, _, _, .nil, .nil, e, _, _ => by
    cases e
    exact ⟨⟨[], .nil⟩, [], (fun _ z => nomatch z), .nil⟩
  | d :: ds, _, _, ps, .cons r l, .cons rv rt, e, sh, z => by
    obtain ⟨p, e1, e2⟩ := Option.bind_eq_some_iff.mp (show ((toPyR d).bind fun p => (toPyRL ds).map fun q => p :: q) = some ps from e)
    obtain ⟨qs, e3, e4⟩ := Option.map_eq_some_iff.mp e2
    subst e4
    have sh2 : p.showable = true ∧ PyData.showableAll qs = true := Bool.and_eq_true_iff.mp (show (p.showable && PyData.showableAll qs) = true from sh)
    obtain ⟨⟨as, ra⟩, b1, hb1, k1⟩ := shows_of I d r rv e1 sh2.1 (z _ (List.mem_cons_self (a := p.shown) (l := PyData.shownAll qs)))
    obtain ⟨⟨as2, ra2⟩, b2, hb2, k2⟩ := showsL_of I ds l rt e3 sh2.2 fun t ht => z t (List.mem_cons_of_mem _ ht)
    refine ⟨⟨as ++ as2, .cons ra ra2⟩, b1 ++ b2, ReadAtMost.append (hb1.mono (Nat.le_max_left _ _)) (hb2.mono (Nat.le_max_right _ _)), ?_⟩
    exact .cons ((k1.more fun b h => List.mem_append_left _ h).level_le (Nat.le_max_left _ _)) (k2.more_le (fun b h => List.mem_append_right _ h) (Nat.le_max_right _ _))
end
end
section
variable {X : Cx} {W : WXd}
def rRepr (K : PySem.W.Frag) : List V → Hp → VK → Prop := fun xs H Q => ∃ rho v d p, xs = [v] ∧ Rep K rho H v d ∧ toPyR d = some p ∧ p.showable = true ∧ p.depth ≤ 64 ∧ p.shown.length ≤ sizeLine ∧ Q (.str p.shown) H
theorem call_reprA {k : Nat} (g : GX X k) : CallR X (.builtin "repr") (rRepr X.K) := by
  intro pins s σ H xs us Q I r h
  obtain ⟨rho, v, d, p, rfl, rp, e, sh, dp, z, q⟩ := h
  obtain ⟨u, rfl, rv⟩ := vals1 r
  have hu := g.room.un
  have fin : ∀ h' (w : Tok) (tk : Nat), (∀ b o, s.heap.get? b = some o → h'.get? b = some o) → EP X pins σ Q (.str p.shown w) { s with heap := h', toks := tk } := fun h' w tk hk => ⟨.str p.shown, H, I.kept hk, ⟨_, rfl⟩, q⟩
  cases d with
  | non =>
    cases rp
    cases rv
    cases e
    exact PySem.P.repr_of_none ⟨.str _, H, I.tok _, ⟨_, rfl⟩, q⟩
  | bl b =>
    cases rp
    cases rv
    cases e
    exact PySem.P.repr_of_bool ⟨.str _, H, I.tok _, ⟨_, rfl⟩, q⟩
  | int i =>
    cases rp
    obtain ⟨t, rfl⟩ := rv
    cases e
    exact PySem.P.repr_of_int (of_decide_eq_true (show decide (i.natAbs.log2 < 1920) = true from sh)) ⟨.str _, H, I.tok _, ⟨_, rfl⟩, q⟩
  | str x =>
    cases rp
    obtain ⟨t, rfl⟩ := rv
    cases e
    exact PySem.P.repr_of_str ⟨.str _, H, I.tok _, ⟨_, rfl⟩, q⟩ z
  | scr ns => cases e
  | ref n => cases e
  | dct kvs =>
    cases kvs with
    | cons _ _ => cases e
    | nil =>
      cases e
      cases rp with
      | dct g1 g2 g3 =>
        cases g3
        cases rv
        obtain ⟨o, es, ep, ho, hc, hd, hn, hs⟩ := dict_nil I (.inr ⟨_, g1⟩) rfl
        exact call_repr_slot (by omega) ⟨o, ho, hc⟩ PySem.F.slot_dict_repr (call_dict_reprK (as := []) (d := 0) (ps := []) ho hc hd hs (by simp) (by rw [hn]; exact .nil) g.gd (fun b _ => Clear.nil b) (by show X.A.units + 1 + 1 < cLine; omega) (fun _ _ e => e) (fun h' u tk hk => ⟨_, _, rfl, fin h' u tk hk⟩) z)
  | tup ds =>
    obtain ⟨ps, e1, e2⟩ := Option.map_eq_some_iff.mp (show (toPyRL ds).map PyData.tuple = some _ from e)
    subst e2
    obtain ⟨a, us, rfl, sq, l⟩ := rp.sqT
    cases rv
    obtain ⟨its, r1, ⟨o, ho, hc, n, hd⟩, _⟩ := I.tuple sq
    obtain ⟨⟨as, ra⟩, bs, hb, hk⟩ := showsL_of I ds l r1 e1 sh fun t ht => Nat.le_trans (tupleText_mem_le ht) z
    have rd : Reads s.heap (.ref a) (.tuple ps) as := .tuple ho hc hd ra
    have na : a ∉ bs := not_mem_of_deeper rd (Nat.lt_succ_self _) hb
    have dd : PyData.depthAll ps + 1 ≤ 64 := dp
    exact call_repr_slot (by omega) ⟨o, ho, hc⟩ PySem.F.slot_tuple_repr (call_tuple_reprK ho hc hd na hk g.gd (fun b _ => Clear.nil b) (by show X.A.units + 1 + (PyData.depthAll ps + 1) < cLine; omega) (fun _ _ e => e) (fun h' u tk hk => ⟨_, _, rfl, fin h' u tk hk⟩) z)
  | lst ds =>
    obtain ⟨ps, e1, e2⟩ := Option.map_eq_some_iff.mp (show (toPyRL ds).map PyData.list = some _ from e)
    subst e2
    cases rp with
    | lst g1 g2 g3 =>
      rename_i a us
      cases rv
      obtain ⟨its, r1, ⟨⟨o, n, ho, hc, hx, hd⟩, hz⟩⟩ := I.list (.of g1)
      obtain ⟨⟨as, ra⟩, bs, hb, hk⟩ := showsL_of I ds g3 r1 e1 sh fun t ht => Nat.le_trans (listText_mem_le ht) z
      have rd : Reads s.heap (.ref a) (.list ps) (a :: as) := .list ho hc hd ra
      have na : a ∉ bs := not_mem_of_deeper rd (Nat.lt_succ_self _) hb
      have dd : PyData.depthAll ps + 1 ≤ 64 := dp
      refine call_repr_slot (by omega) ⟨o, ho, hc⟩ PySem.F.slot_list_repr.toG ?_
      cases its with
      | nil =>
        cases ra
        exact call_list_repr_empty ⟨o, ho, hc⟩ ho hd ⟨_, _, rfl, fin s.heap _ _ fun _ _ e => e⟩
      | cons w ws => exact call_list_reprK ho hc hd na (by simpa using hk.length_eq) (fun i y q => hk.item i y (by simpa using q)) g.gd (fun b _ => Clear.nil b) (by show X.A.units + 1 + (PyData.depthAll ps + 1) < cLine; omega) (fun _ _ e => e) (fun h' u tk hk => ⟨_, _, rfl, fin h' u tk hk⟩) z
/-- repr(d), of anything -/
def bReprA : List D → Store → Option D := fun ds _ => match ds with
  | [d] => (toPyR d).bind fun p => if p.showable = true ∧ p.depth ≤ 64 ∧ p.shown.length ≤ sizeLine then some (.str p.shown) else none
  | _ => none
theorem ok_reprA {k : Nat} (g : GX X k) : CallOk X (.builtin "repr") bReprA := ⟨_, call_reprA g, fun rho H xs ds d st Q rl si e q => by
  unfold bReprA at e
  split at e
  · rename_i y
    obtain ⟨v, rfl, p⟩ := lst1 rl
    obtain ⟨z, h1, h2⟩ := Option.bind_eq_some_iff.mp e
    by_cases c : z.showable = true ∧ z.depth ≤ 64 ∧ z.shown.length ≤ sizeLine
    · rw [if_pos c] at h2
      cases h2
      exact ⟨rho, v, y, z, rfl, p, h1, c.1, c.2.1, c.2.2, q _ H (fun _ _ h => h) (.str _)⟩
    · rw [if_neg c] at h2
      cases h2
  · cases e⟩
end
/-! ### measures -/
mutual
/-- what may be shown: no great ints, texts of ASCII -/
def okD : D → Bool
  | .non => true
  | .bl _ => true
  | .int i => decide (i.natAbs < 10 ^ 62)
  | .str x => (tl x).all fun c => decide (c < 128)
  | .tup ds => okL ds
  | .lst ds => okL ds
  | .dct [] => true
  | .dct (_ :: _) => false
  | .scr _ => false
  | .ref _ => false
def okL : List D → Bool
  | [] => true
  | d :: ds => okD d && okL ds
end
mutual
def wD : D → Nat
  | .int _ => 210
  | .str x => x.length
  | .tup ds => wL ds
  | .lst ds => wL ds
  | _ => 0
def wL : List D → Nat
  | [] => 0
  | d :: ds => wD d + 1 + wL ds
end
mutual
def hD : D → Nat
  | .tup ds => hL ds + 1
  | .lst ds => hL ds + 1
  | .dct _ => 1
  | _ => 0
def hL : List D → Nat
  | [] => 0
  | d :: ds => max (hD d) (hL ds)
end
mutual
theorem ok_pyR : ∀ (d : D), okD d = true → ∃ p, toPyR d = some p ∧ p.showable = true ∧ p.leavesShort 70 = true ∧ p.depth ≤ hD d ∧ p.weight ≤ wD d
  | .non, _ => ⟨_, rfl, rfl, rfl, Nat.le_refl _, Nat.le_refl _⟩
  | .bl b, _ => ⟨_, rfl, rfl, rfl, Nat.le_refl _, Nat.le_refl _⟩
  | .int i, h => by
    have hn : i.natAbs < 10 ^ 62 := of_decide_eq_true h
    have hl : i.natAbs.log2 < 207 := by
      by_cases z : i.natAbs = 0
      · rw [z]; decide
      · exact (Nat.log2_lt z).mpr (Nat.lt_trans hn (by decide))
    refine ⟨.int i, rfl, ?_, ?_, Nat.le_refl _, ?_⟩
    · rw [PyData.showable]
      exact decide_eq_true (by omega)
    · rw [PyData.leavesShort, PyData.shown]
      have h0 := int_text_length_le10 (a := i) (k := 62) (by decide) hn
      refine decide_eq_true ?_
      rw [PySem.ofString_length]
      omega
    · rw [PyData.weight, wD]
      split
      · exact Nat.zero_le _
      · omega
  | .str x, h => by
    refine ⟨.str x, rfl, rfl, ?_, Nat.le_refl _, ?_⟩
    · rw [PyData.leavesShort]
      exact List.all_eq_true.mpr fun c hc => decide_eq_true (Nat.lt_trans (of_decide_eq_true (List.all_eq_true.mp h c hc)) (by decide))
    · rw [PyData.weight, wD]
      exact Nat.le_refl _
  | .dct [], _ => ⟨.dict [], rfl, rfl, rfl, Nat.le_refl _, Nat.le_refl _⟩
  | .dct (_ :: _), h => by cases h
  | .scr _, h => by cases h
  | .ref _, h => by cases h
  | .tup ds, h => by
    obtain ⟨ps, h1, h2, h3, h4, h5⟩ := ok_pyRL ds h
    exact ⟨.tuple ps, by show (toPyRL ds).map _ = _; rw [h1]; rfl, h2, h3, Nat.succ_le_succ h4, h5⟩
  | .lst ds, h => by
    obtain ⟨ps, h1, h2, h3, h4, h5⟩ := ok_pyRL ds h
    exact ⟨.list ps, by show (toPyRL ds).map _ = _; rw [h1]; rfl, h2, h3, Nat.succ_le_succ h4, h5⟩
theorem ok_pyRL : ∀ (ds : List D), okL ds = true → ∃ ps, toPyRL ds = some ps ∧ PyData.showableAll ps = true ∧ PyData.leavesShortAll 70 ps = true ∧ PyData.depthAll ps ≤ hL ds ∧ PyData.weightAll ps ≤ wL ds
  | [], _ => ⟨[], rfl, rfl, rfl, Nat.le_refl _, Nat.le_refl _⟩
  | d :: ds, h => by
    obtain ⟨a, b⟩ := Bool.and_eq_true_iff.mp (show (okD d && okL ds) = true from h)
    obtain ⟨p, h1, h2, h3, h4, h5⟩ := ok_pyR d a
    obtain ⟨ps, g1, g2, g3, g4, g5⟩ := ok_pyRL ds b
    refine ⟨p :: ps, by show (toPyR d).bind _ = _; rw [h1, g1]; rfl, by rw [PyData.showableAll, h2, g2]; rfl, by rw [PyData.leavesShortAll, h3, g3]; rfl, ?_, ?_⟩
    · rw [PyData.depthAll, hL]
      exact Nat.max_le.mpr ⟨Nat.le_trans h4 (Nat.le_max_left _ _), Nat.le_trans g4 (Nat.le_max_right _ _)⟩
    · rw [PyData.weightAll, wL]
      omega
end
theorem repr_any {d : D} (h : okD d = true) (l : hD d ≤ 64) (m : wD d ≤ 200000) : ∃ x, ∀ st, bReprA [d] st = some (.str x) := by
  obtain ⟨p, h1, h2, h3, h4, h5⟩ := ok_pyR d h
  have hs : p.shown.length ≤ sizeLine := by
    have := PyData.shown_le 70 (by decide) p h3
    have h6 : (70 + 2) * p.weight ≤ 72 * 200000 := Nat.mul_le_mul_left 72 (Nat.le_trans h5 m)
    rw [sizeLine_eq]
    omega
  exact ⟨p.shown, fun st => by show (toPyR d).bind _ = _; rw [h1, Option.bind_some, if_pos ⟨h2, Nat.le_trans h4 l, hs⟩]⟩
theorem okL_mem {ds : List D} : okL ds = true ↔ ∀ d ∈ ds, okD d = true := by
  induction ds with
  | nil => exact ⟨fun _ _ h => (by cases h), fun _ => rfl⟩
  | cons d ds ih =>
    show (okD d && okL ds) = true ↔ _
    rw [Bool.and_eq_true, ih]
    simp
theorem wL_append : ∀ (xs ys : List D), wL (xs ++ ys) = wL xs + wL ys
  | [], ys => by rw [List.nil_append, wL, Nat.zero_add]
  | x :: xs, ys => by rw [List.cons_append, wL, wL, wL_append xs ys]; omega
theorem wL_mem {ds : List D} {d : D} (h : d ∈ ds) : wD d + 1 ≤ wL ds := by
  induction ds with
  | nil => cases h
  | cons e es ih =>
    rw [wL]
    rcases List.mem_cons.mp h with rfl | h
    · omega
    · have := ih h
      omega
theorem hL_le {n : Nat} {ds : List D} : hL ds ≤ n ↔ ∀ d ∈ ds, hD d ≤ n := by
  induction ds with
  | nil => exact ⟨fun _ _ h => (by cases h), fun _ => Nat.zero_le _⟩
  | cons d ds ih =>
    rw [hL, Nat.max_le, ih]
    simp
end DL
/-! A list of the store: an item replaced; walked for good; tuples times an int. -/
namespace DL
open PySem PySem.Spec PyProof.Rows L2 TL
variable {K : PySem.W.Frag}
section
variable {X : Cx} {W : WXd} {tg iter : Expr}
/-- a list of the store is walked, and written no more -/
def iOfZ (f : F) : FI := fun env st => (f env st).bind fun p => match p.1 with
  | .ref n => (match p.2[n]? with | some (.lst ds) => some (ds, p.2.set n .dead) | _ => none)
  | _ => none
def Rf.drop (r : Rf) (a : Addr) : Rf := ⟨r.adr, fun p => r.av p ∧ p ≠ a, r.lk⟩
theorem drop_ext {r : Rf} {H : Hp} {a : Addr} (h : a ∈ r.adr) : Ext r H (r.drop a) H :=
  ⟨⟨⟨[], by simp [Rf.drop]⟩, fun _ _ z _ => z, fun _ z n => absurd z.1 n⟩, fun p v n => ⟨rfl, ⟨v, fun e => n (e ▸ h)⟩, n⟩, fun _ => Iff.rfl, fun _ _ => rfl⟩
theorem drop_sim {r : Rf} {H : Hp} {st : Store} (s : Sim K r H st) {n : Nat} {a : Addr} (h : r.adr[n]? = some a) : Sim K (r.drop a) H (st.set n .dead) := by
  refine ⟨by rw [List.length_set]; exact s.len, s.nd, fun m b o h1 h2 => ?_, fun p v => s.there p v.1, s.old, s.lkd⟩
  by_cases z : n = m
  · subst z
    by_cases hl : n < st.length
    · rw [List.getElem?_set_self hl] at h2
      cases h2
      trivial
    · rw [List.getElem?_eq_none (by rw [List.length_set]; omega)] at h2
      cases h2
  · rw [List.getElem?_set_ne z] at h2
    have nb : b ≠ a := fun y => z (by
      subst y
      obtain ⟨l1, e1⟩ := List.getElem?_eq_some_iff.mp h
      obtain ⟨l2, e2⟩ := List.getElem?_eq_some_iff.mp h1
      exact (List.getElem_inj s.nd).mp (e1.trans e2.symm))
    exact (s.ob m b o h1 h2).ex (drop_ext (List.mem_of_getElem? h)).toEx fun v => ⟨rfl, v, nb⟩
theorem di_frz {f : F} (h : DE X iter f) : DI X tg iter (iOfZ f) := weakI (pi_list h) fun σ H R hh => by
  obtain ⟨r, env, st, ds, st', he, hs, hf, q⟩ := hh
  obtain ⟨⟨d, s1⟩, h1, h2⟩ := Option.bind_eq_some_iff.mp hf
  cases d with
  | ref n =>
    have h2' : (match s1[n]? with | some (.lst ds) => some (ds, s1.set n .dead) | _ => none) = some (ds, st') := h2
    split at h2'
    · rename_i es hst
      cases h2'
      refine ⟨r, env, st, _, s1, he, hs, h1, fun v r1 H1 e1 q1 p1 => ?_⟩
      obtain ⟨a, rfl, ha⟩ := p1.refI
      obtain ⟨av, xs, hx, l⟩ := q1.ob _ a _ ha hst
      have ex := drop_ext (H := H1) (List.mem_of_getElem? ha)
      have na : ¬ (r1.drop a).av a := fun z => z.2 rfl
      exact ⟨a, rfl, ⟨xs, .of hx⟩, q _ _ H1 (e1.trans ex) (drop_sim q1 ha) (sql_ok rfl (fun r2 H2 e2 => .of (e2.keep _ _ hx na)) (l.ext ex))⟩
    · cases h2'
  | _ => cases h2
theorem RepL.set {r : Rf} {H : Hp} {v : V} {d : D} (q : Rep K r H v d) : ∀ {vs : List V} {ds : List D} (j : Nat), RepL K r H vs ds → RepL K r H (vs.set j v) (ds.set j d)
  | _, _, _, .nil => .nil
  | _, _, 0, .cons a b => .cons q b
  | _, _, j + 1, .cons a b => .cons a (RepL.set q j b)
/-- o[i] = v, o a list of the store -/
def sPutL (fo fk fv : F) : FS := fun env st => (fv env st).bind fun p => (fo env p.2).bind fun q => (fk env q.2).bind fun w => match q.1, w.1 with
  | .ref n, .int i => (match w.2[n]? with
    | some (.lst ds) => (ixN ds.length i).bind fun j => some (.nx, env, w.2.set n (.lst (ds.set j p.1)))
    | _ => none)
  | _, _ => none
theorem ds_putL {o i value : Expr} {fo fk fv : F} {pos pos' : Pos} (ho : DE X o fo) (hi : DE X i fk) (hv : DE X value fv) (hs : swapsWithSole [.Subscript o i pos'] value pos.line X.env = pure false := by rfl) (hw : swappedStores [.Subscript o i pos'] value X.env = pure none := by rfl)
    (h1 : (assignEach [.Subscript o i pos'] X.env).map (·.2) = [assign (.Subscript o i pos') X.env] := by rfl)
    (ha : ∀ v, assign (.Subscript o i pos') X.env v = (do let ov ← holding [v] (eval o X.env); let iv ← holding [v, ov] (eval i X.env); standAt pos'; holding [v, ov, iv] (setItem ov iv v); release [v, ov, iv] []) := by intro _; rfl) :
    DS X W (.Assign [.Subscript o i pos'] value pos) (sPutL fo fk fv) := weakS (ps_asg hv (pg_sub ho hi set_list ha) hs hw h1) fun D' σ H hh => by
  obtain ⟨r, env, st, out, env', st', he, hs, hf, q⟩ := hh
  obtain ⟨⟨x, s1⟩, h1, hf1⟩ := Option.bind_eq_some_iff.mp hf
  obtain ⟨⟨y, s2⟩, h2, hf2⟩ := Option.bind_eq_some_iff.mp hf1
  obtain ⟨⟨z, s3⟩, h3, hf3⟩ := Option.bind_eq_some_iff.mp hf2
  cases y with
  | ref n =>
    cases z with
    | int k =>
      simp only at hf3
      split at hf3
      · rename_i ds hst
        obtain ⟨j, hj, hf4⟩ := Option.bind_eq_some_iff.mp hf3
        cases hf4
        refine ⟨r, env, st, x, s1, he, hs, h1, fun xv r1 H1 e1 q1 p1 => ⟨r1, env, s1, _, s2, he.ext e1, q1, h2, fun yv r2 H2 e2 q2 p2 => ⟨r2, env, s2, _, s3, (he.ext e1).ext e2, q2, h3, fun zv r3 H3 e3 q3 p3 => ?_⟩⟩⟩
        cases p3
        obtain ⟨p, rfl, hp⟩ := (p2.ext e3).refI
        obtain ⟨av, xs, hx, l⟩ := q3.ob _ p _ hp hst
        have px : Rep X.K r3 H3 xv x := (p1.ext e2).ext e3
        refine ⟨p, xs, k, j, rfl, rfl, hx, by rw [l.len]; exact hj, ?_⟩
        have ee : Ex r3 H3 r3 (upd H3 p (.lst (xs.set j xv))) := ⟨⟨[], by simp⟩, fun a o w m => by rw [upd_ne (fun y => m (by rw [y]; exact av))]; exact w, fun a w m => absurd w m⟩
        obtain ⟨w1, w2⟩ := q3.set (o := .lst (xs.set j xv)) (ob := .lst (ds.set j x)) hp av ⟨av, _, upd_same, (RepL.set px j l).ex ee⟩ (fun _ _ z => by rw [hx] at z; cases z)
        exact q σ r3 _ (((e1.trans e2).trans e3).trans w1) ((((he.ext e1).ext e2).ext e3).ext w1) w2
      · cases hf3
    | _ => cases hf3
  | _ => cases hf3
/-- (x, ..) * n -/
def mulT : D → D → Option D := fun a b => match a, b with
  | .tup xs, .int n => if xs ≠ [] ∧ 2 ≤ n ∧ n ≤ 1000 ∧ xs.length ≤ 1000 then some (.tup (List.replicate n.toNat xs).flatten) else none
  | _, _ => none
theorem RepL.rep {r : Rf} {H : Hp} {vs : List V} {ds : List D} (l : RepL K r H vs ds) : ∀ n : Nat, RepL K r H (List.replicate n vs).flatten (List.replicate n ds).flatten
  | 0 => .nil
  | n + 1 => by
    rw [List.replicate_succ, List.replicate_succ, List.flatten_cons, List.flatten_cons]
    exact l.append (RepL.rep l n)
theorem ok_mulT : OpOk X (binaryOp .Mult) mulT := ⟨_, op_repF, fun rho H x y a b d st Q si ra rb e q => by
  unfold mulT at e
  split at e
  · rename_i xs n
    by_cases c : xs ≠ [] ∧ 2 ≤ n ∧ n ≤ 1000 ∧ xs.length ≤ 1000
    · rw [if_pos c] at e
      cases e
      cases rb
      obtain ⟨p, us, rfl, s1, l1⟩ := ra.sqT
      refine ⟨p, n, us, rfl, rfl, s1, fun z => c.1 ?_, c.2.1, c.2.2.1, by rw [l1.len]; exact c.2.2.2, fun p' o hp hz => q _ _ (same_alloc hp) (fresh_tup si hp hz (l1.rep n.toNat))⟩
      subst z
      cases l1
      rfl
    · rw [if_neg c] at e
      cases e
  · cases e⟩
def opMulA : D → D → Option D := orD opMul mulT
theorem ok_mulA : OpOk X (binaryOp .Mult) opMulA := ok_mul.or ok_mulT
end
end DL
/-! Instances of own classes: objects of the store. -/
namespace DL
open PySem PySem.Spec PyProof.Rows L2 TL
variable {K : PySem.W.Frag}
/-- the class c, at C -/
structure ClsAt (K : PySem.W.Frag) (c : Str) (C : Addr) : Prop where
  at_ : PySem.W.nsIn K mainGlobals c = some (some (.ref C))
  cls : Cls K C
/-- the instance at n, of class c -/
def insAt (c : Str) (n : Nat) (st : Store) : Option (List (Str × D)) := match st[n]? with
  | some (.ins c' fs) => if c' = c then some fs else none
  | _ => none
theorem insAt_some {c : Str} {n : Nat} {st : Store} {fs : List (Str × D)} (h : insAt c n st = some fs) : st[n]? = some (.ins c fs) := by
  unfold insAt at h
  split at h
  · rename_i c' gs e
    by_cases z : c' = c
    · rw [if_pos z] at h
      cases h
      rw [← z]
      exact e
    · rw [if_neg z] at h
      cases h
  · cases h
theorem fields_get {r : Rf} {H : Hp} {f : Str} : ∀ {vs : List (Str × V)} {fs : List (Str × D)} {d : D}, vs.map (·.1) = fs.map (·.1) → RepL K r H (vs.map (·.2)) (fs.map (·.2)) → fs.lookup f = some d → ∃ v, vs.lookup f = some v ∧ Rep K r H v d
  | [], [], d, _, _, h => by cases h
  | (g, v) :: vs, (g', e) :: fs, d, n, l, h => by
    injection n with n1 n2
    have n1' : g = g' := n1
    subst n1'
    cases l with
    | cons a b =>
      rw [List.lookup_cons] at h ⊢
      cases z : f == g with
      | true =>
        rw [z] at h
        cases h
        exact ⟨v, rfl, a⟩
      | false =>
        rw [z] at h
        exact fields_get n2 b h
theorem fields_none {f : Str} : ∀ {vs : List (Str × V)} {fs : List (Str × D)}, vs.map (·.1) = fs.map (·.1) → fs.lookup f = none → vs.lookup f = none
  | [], [], _, _ => rfl
  | (g, v) :: vs, (g', e) :: fs, n, h => by
    injection n with n1 n2
    have n1' : g = g' := n1
    subst n1'
    rw [List.lookup_cons] at h ⊢
    cases z : f == g with
    | true =>
      rw [z] at h
      cases h
    | false =>
      rw [z] at h
      exact fields_none n2 h
/-- a field set -/
def putFD (f : Str) (d : D) : List (Str × D) → List (Str × D)
  | [] => [(f, d)]
  | (g, x) :: r => if g = f then (g, d) :: r else (g, x) :: putFD f d r
theorem fields_put {r : Rf} {H : Hp} {f : Str} {v : V} {d : D} (q : Rep K r H v d) : ∀ {vs : List (Str × V)} {fs : List (Str × D)}, vs.map (·.1) = fs.map (·.1) → RepL K r H (vs.map (·.2)) (fs.map (·.2)) →
    (putF f v vs).map (·.1) = (putFD f d fs).map (·.1) ∧ RepL K r H ((putF f v vs).map (·.2)) ((putFD f d fs).map (·.2))
  | [], [], _, _ => ⟨rfl, .cons q .nil⟩
  | (g, x) :: vs, (g', e) :: fs, n, l => by
    injection n with n1 n2
    have n1' : g = g' := n1
    subst n1'
    cases l with
    | cons a b =>
      unfold putF putFD
      by_cases z : g = f
      · rw [if_pos z, if_pos z]
        exact ⟨by rw [List.map_cons, List.map_cons, n2], .cons q b⟩
      · rw [if_neg z, if_neg z]
        obtain ⟨h1, h2⟩ := fields_put q n2 b
        exact ⟨by rw [List.map_cons, List.map_cons, h1], .cons a h2⟩
section
variable {X : Cx} {W : WXd}
/-- o.f -/
def fFld (c f : Str) (fo : F) : F := fun env st => (fo env st).bind fun p => match p.1 with
  | .ref n => (insAt c n p.2).bind fun fs => (fs.lookup f).map fun d => (d, p.2)
  | _ => none
theorem de_fld {c f : Str} {C : Addr} {e : Expr} {fo : F} {pos : Pos} (hc : ClsAt X.K c C) (na : NoAttr X.K C f) (he : DE X e fo) (hb : attributeBase e f X.env (eval e X.env) = eval e X.env := by rfl) : DE X (.Attribute e f pos) (fFld c f fo) :=
  weakE (pe_fld he hb) fun σ H Q hh => by
  obtain ⟨r, env, st, d, st', he, hs, hf, q⟩ := hh
  obtain ⟨⟨x, s1⟩, h1, h2⟩ := Option.bind_eq_some_iff.mp hf
  cases x with
  | ref n =>
    obtain ⟨fs, h3, h4⟩ := Option.bind_eq_some_iff.mp (show ((insAt c n s1).bind fun fs => (fs.lookup f).map fun d => (d, s1)) = some (d, st') from h2)
    obtain ⟨d', h5, h6⟩ := Option.map_eq_some_iff.mp h4
    cases h6
    refine ⟨r, env, st, _, _, he, hs, h1, fun v r1 H1 e1 q1 p1 => ?_⟩
    obtain ⟨a, rfl, ha⟩ := p1.refI
    obtain ⟨av, C', dx, vs, hn, hx, nm, l⟩ := q1.ob _ a _ ha (insAt_some h3)
    rw [hc.at_] at hn
    cases hn
    obtain ⟨w, hw, rw'⟩ := fields_get nm l h5
    exact ⟨a, C, dx, vs, w, rfl, hx, hc.cls, na, hw, q w r1 H1 e1 q1 rw'⟩
  | _ => cases h2
/-- o.f = e -/
def sFldD (c f : Str) (fo fv : F) : FS := fun env st => (fv env st).bind fun p => (fo env p.2).bind fun q => match q.1 with
  | .ref n => (insAt c n q.2).bind fun fs => if fs.length < 1000 then some (.nx, env, q.2.set n (.ins c (putFD f p.1 fs))) else none
  | _ => none
theorem ds_fld {c f : Str} {C : Addr} {o value : Expr} {fo fv : F} {pos pos' : Pos} (hc : ClsAt X.K c C) (na : NoAttr X.K C f) (ho : DE X o fo) (hv : DE X value fv) (hs : swapsWith value (some (.Attribute o f pos')) pos.line X.env = pure false := by rfl) :
    DS X W (.Assign [.Attribute o f pos'] value pos) (sFldD c f fo fv) := weakS (ps_fld ho hv hs) fun D' σ H hh => by
  obtain ⟨r, env, st, out, env', st', he, hs, hf, q⟩ := hh
  obtain ⟨⟨x, s1⟩, h1, hf1⟩ := Option.bind_eq_some_iff.mp hf
  obtain ⟨⟨y, s2⟩, h2, hf2⟩ := Option.bind_eq_some_iff.mp hf1
  cases y with
  | ref n =>
    obtain ⟨fs, h3, h4⟩ := Option.bind_eq_some_iff.mp (show ((insAt c n s2).bind fun fs => if fs.length < 1000 then some (Out.nx, env, s2.set n (.ins c (putFD f x fs))) else none) = some (out, env', st') from hf2)
    by_cases hl : fs.length < 1000
    case neg => rw [if_neg hl] at h4; cases h4
    rw [if_pos hl] at h4
    cases h4
    refine ⟨r, env, st, x, s1, he, hs, h1, fun xv r1 H1 e1 q1 p1 => ⟨r1, env, s1, _, s2, he.ext e1, q1, h2, fun yv r2 H2 e2 q2 p2 => ?_⟩⟩
    obtain ⟨a, rfl, ha⟩ := p2.refI
    obtain ⟨av, C', dx, vs, hn, hx, nm, l⟩ := q2.ob _ a _ ha (insAt_some h3)
    have hn0 := hn
    rw [hc.at_] at hn
    cases hn
    have px : Rep X.K r2 H2 xv x := p1.ext e2
    have lv : vs.length = fs.length := by
      have := congrArg List.length nm
      rwa [List.length_map, List.length_map] at this
    obtain ⟨g1, g2⟩ := fields_put (f := f) px nm l
    refine ⟨a, C, dx, vs, rfl, hx, hc.cls, na, by rw [lv]; exact hl, ?_⟩
    have ee : Ex r2 H2 r2 (upd H2 a (.ins C dx (putF f xv vs))) := ⟨⟨[], by simp⟩, fun b o w m => by rw [upd_ne (fun y => m (by rw [y]; exact av))]; exact w, fun b w m => absurd w m⟩
    obtain ⟨w1, w2⟩ := q2.set (o := .ins C dx (putF f xv vs)) (ob := .ins c (putFD f x fs)) ha av ⟨av, C, dx, _, hn0, upd_same, g1, g2.ex ee⟩ (fun _ _ z => by rw [hx] at z; cases z)
    exact q σ r2 _ ((e1.trans e2).trans w1) (((he.ext e1).ext e2).ext w1) w2
  | _ => cases hf2
/-- o.m(e, ..) -/
def noF (m : Str) (o : Option (List (Str × D))) : Bool := match o with | some fs => (fs.lookup m).isNone | none => false
def fMeth (c m : Str) (mm : FM) (fo : F) (fa : FA) : F := fun env st => (fo env st).bind fun p => match p.1 with
  | .ref n => if noF m (insAt c n p.2) = true then (fa env p.2).bind fun q => mm (.ref n :: q.1) q.2 else none
  | _ => none
variable {k : Nat} {f C : Addr} {fd : FuncData} {ps : List Str} {mm : FM} {c m : Str} {apos pos : Pos} {o e : Expr} {es : List Expr}
theorem de_meth {pl : Sem Bool} (hc : ClsAt X.K c C) (hm : Meth X.K C m f) (Fd : FnD X.prog X.w X.K X.mg X.base k f fd ps mm) (gx : GX X k) (hb : Binds X.K fd ps []) {fo : F} {fa : FA} (ho : DE X o fo) (ha : DA X (e :: es) fa) (hl : (e :: es).length + 1 = ps.length := by rfl)
    (hst : starEach (e :: es) X.env = (false, eval e X.env) :: starEach es X.env := by rfl) (hpl : (backTo pos (starEach es X.env)).any (·.1) = false := by rfl)
    (ht : eval (.Call (.Attribute o m apos) (e :: es) [] pos) X.env = (do let ov ← eval o X.env; standAt apos.atName; let (f, first) ← holding [ov] (getMethod ov m pl); callWith pos f first (backTo pos (starEach (e :: es) X.env)) (backToKw pos (keywordEach [] X.env))) := by rfl)
    (hn : ∀ env st ds st', fa env st = some (ds, st') → ds.length = (e :: es).length) :
    DE X (.Call (.Attribute o m apos) (e :: es) [] pos) (fMeth c m mm fo fa) := by
  refine ⟨fun pins s σ H Q I h => ?_⟩
  obtain ⟨r, env, st, d, st', he', hs, hf, q⟩ := h
  obtain ⟨⟨x, s1⟩, h1, h2⟩ := Option.bind_eq_some_iff.mp hf
  cases x with
  | ref n =>
    have h2' : (if noF m (insAt c n s1) = true then (fa env s1).bind fun q => mm (.ref n :: q.1) q.2 else none) = some (d, st') := h2
    by_cases hz : noF m (insAt c n s1) = true
    case neg => rw [if_neg hz] at h2'; cases h2'
    rw [if_pos hz] at h2'
    obtain ⟨⟨ds, s2⟩, h3, h4⟩ := Option.bind_eq_some_iff.mp h2'
    refine PySem.W.methodCall_KW (pl := pl) (thn (ho.run pins s σ H (fun v H1 => ∃ a r1 C' dx vs, v = .ref a ∧ r1.adr[n]? = some a ∧ H1 a = some (.ins C' dx vs) ∧ C' = C ∧ vs.lookup m = none ∧ Ext r H r1 H1 ∧ Sim X.K r1 H1 s1) I ⟨r, env, st, _, s1, he', hs, h1, fun v r1 H1 e1 q1 p1 => ?_⟩) fun u sa hq => ?_) ht
    · obtain ⟨a, rfl, hadr⟩ := p1.refI
      cases hi : insAt c n s1 with
      | none => rw [hi] at hz; cases hz
      | some fs =>
        rw [hi] at hz
        obtain ⟨av, C', dx, vs, hn', hx, nm, l⟩ := q1.ob _ a _ hadr (insAt_some hi)
        rw [hc.at_] at hn'
        cases hn'
        exact ⟨a, r1, C, dx, vs, rfl, hadr, hx, rfl, fields_none nm (Option.isNone_iff_eq_none.mp hz), e1, q1⟩
    · obtain ⟨x, H1, I1, rx, a, r1, C', dx, vs, rfl, hadr, hx, rfl, hno, e1, q1⟩ := hq
      cases rx
      refine getmeth_ok I1 hx hc.cls hm hno ?_
      refine PySem.W.callWith_K (first := [.ref a]) (h₀ := X.base) I.ok.mod.kin hm.kp (thn (ha.run pos pins sa σ H1 (fun vs H2 => ∃ r2, Ext r1 H1 r2 H2 ∧ Sim X.K r2 H2 s2 ∧ RepL X.K r2 H2 vs ds) I1 ⟨r1, env, s1, ds, s2, he'.ext e1, q1, h3, fun vs r2 H2 e2 q2 l2 => ⟨r2, e2, q2, l2⟩⟩) fun us sb hz => ?_) hst hpl
      obtain ⟨vs2, H2, I2, rv, r2, e2, q2, l2⟩ := hz
      exact ⟨I2.kIn, runD (us := .ref a :: us) (vs := .ref a :: vs2) Fd gx hb I2 (.cons rfl rv) (by rw [List.length_cons, l2.len, hn _ _ _ _ h3]; exact hl) (.cons (.ref (e2.get hadr)) l2) q2 h4 fun v r3 H3 e3 q3 p3 => q v r3 H3 ((e1.trans e2).trans e3) q3 p3⟩
  | _ => cases h2
/-- C(e, ..) -/
theorem make_guards {A : Around} {C : Addr} {us : List Value} {kw : List (Str × Value)} : (A.under (.builtin "type.__call__" ⟨.ref C :: us, kw⟩)).guards = A.guards := by
  first
    | rfl
    | simp [Around.under, Code.weight, Code.isCreation, Code.isGuard, Code.isCaller, Code.frames, Code.isFrame, guardIds]
/-- the new instance, on both levels -/
theorem made_sim {r : Rf} {H : Hp} {st : Store} {x dx : Addr} (hs : Sim X.K r H st) (hc : PySem.W.nsIn X.K mainGlobals c = some (some (.ref C))) (nx : H x = none) (nd : H dx = none) (ne : dx ≠ x) :
    ∃ r1, Ext r H r1 (upd (upd H dx (.own x)) x (.ins C dx [])) ∧ Sim X.K r1 (upd (upd H dx (.own x)) x (.ins C dx [])) (st ++ [.ins c []]) ∧ Rep X.K r1 (upd (upd H dx (.own x)) x (.ins C dx [])) (.ref x) (.ref st.length) := by
  have a1 : Same H (upd H dx (.own x)) := same_alloc nd
  have nx1 : upd H dx (.own x) x = none := by rw [upd_ne (Ne.symm ne)]; exact nx
  have q1 := hs.same a1
  obtain ⟨e0, hd0⟩ := hideNew (o := .ins C dx []) q1 nx1
  obtain ⟨w1, w2, w3⟩ := hd0.add (o := .ins C dx []) (ob := .ins c []) e0 q1 nx1 ⟨hd0.av, C, dx, [], hc, upd_same, rfl, .nil⟩
  rw [upd_upd] at w1 w2 w3
  exact ⟨_, (hs.ext a1).trans w1, w2, w3 _ rfl⟩
theorem runMake {pins : List (Addr × Obj)} {σ : L2.St} {H : Hp} {s : Shared} {Q : VK} {us : List Value} {vs : List V} {rho : Rf} {ds : List D} {st st' : Store} (M : Mk X.K C f) (hc : PySem.W.nsIn X.K mainGlobals c = some (some (.ref C)))
    (Fd : FnD X.prog X.w X.K X.mg X.base k f fd ps mm) (gx : GX X (k + 1)) (hb : Binds X.K fd ps []) (I : Inv X pins σ H s) (r : Vals vs us) (hl : vs.length + 1 = ps.length) (rd : RepL X.K rho H vs ds) (hs : Sim X.K rho H st)
    (hm : mm (.ref st.length :: ds) (st ++ [.ins c []]) = some (.non, st')) (hq : ∀ v rho' H', Ext rho H rho' H' → Sim X.K rho' H' st' → Rep X.K rho' H' v (.ref st.length) → Q v H') :
    wpAny (model X.prog X.w) X.A (call (.ref C) us) (EP X pins σ Q) X.xe s := by
  obtain ⟨r1, e1, s1, p1⟩ := made_sim (c := c) (C := C) hs hc (I.hok.fresh (Nat.le_succ s.heap.objs.size)) (I.hok.fresh (Nat.le_refl s.heap.objs.size)) (Nat.ne_of_lt (Nat.lt_succ_self s.heap.objs.size))
  have I2 := Inv.made (C := C) I
  have r2 : Vals (V.ref (s.heap.objs.size + 1) :: vs) (Value.ref (s.heap.objs.size + 1) :: us) := .cons rfl r
  have hu : (Value.ref (s.heap.objs.size + 1) :: us).length = ps.length := by rw [List.length_cons, ← r.length]; exact hl
  have hbt := hb { s with heap := (s.heap.push PySem.W.emptyDict).push (PySem.W.instObj C s.heap.objs.size) } (Value.ref (s.heap.objs.size + 1) :: us) I2.kIn (by rw [List.append_nil]; exact hu)
  rw [List.append_nil] at hbt
  refine wpAny_call (make_map (f := f) I.kIn M.makes M.init (beq_iff_eq.mp M.fn) (codeAny_mono (Fd.run _ X.stack _ _ ⟨Value.ref (s.heap.objs.size + 1) :: us, []⟩ (Value.ref (s.heap.objs.size + 1) :: us) _ (fun v H2 => v = .non ∧ Q (.ref (s.heap.objs.size + 1)) H2) r1 (.ref st.length :: ds) _ st' .non (make_guards.trans gx.gd) (gx.room.make C us [])
    (I2.env0.make C us []) hbt r2 (by rw [List.length_cons]; exact hl) (.cons p1 (rd.ext e1)) s1 hm fun v r3 H3 e3 q3 p3 => ?_) fun z s' hz => ?_))
  · cases p3
    exact ⟨rfl, hq _ r3 H3 (e1.trans e3) q3 (p1.ext e3)⟩
  · cases z with
    | error e => exact False.elim hz
    | ok fl =>
      cases fl with
      | ret u =>
        obtain ⟨v, H', I3, rv, ev, q3⟩ := I2.after hz
        subst ev
        exact ⟨rv, ⟨V.ref (s.heap.objs.size + 1), H', I3, rfl, q3⟩⟩
      | next => exact False.elim hz
      | brk => exact False.elim hz
      | cont => exact False.elim hz
def fMake (c : Str) (mi : FM) (fa : FA) : F := fun env st => (fa env st).bind fun q => (mi (.ref q.2.length :: q.1) (q.2 ++ [.ins c []])).bind fun z => match z.1 with | .non => some (.ref q.2.length, z.2) | _ => none
theorem de_make {x : Str} {p : Pos} (M : Mk X.K C f) (hc : PySem.W.nsIn X.K mainGlobals c = some (some (.ref C))) (Fd : FnD X.prog X.w X.K X.mg X.base k f fd ps mm) (gx : GX X (k + 1)) (hg : Gl X x) (hm : X.mg x = some (.ref C)) (hb : Binds X.K fd ps []) {fa : FA} (ha : DA X (e :: es) fa) (hl : (e :: es).length + 1 = ps.length := by rfl)
    (hdb : (x == ("__debug__" : Str)) = false := by decide) (he : starEach (e :: es) X.env = (false, eval e X.env) :: starEach es X.env := by rfl) (hpl : (backTo pos (starEach es X.env)).any (·.1) = false := by rfl)
    (hn : ∀ env st ds st', fa env st = some (ds, st') → ds.length = (e :: es).length) :
    DE X (.Call (.Name x p) (e :: es) [] pos) (fMake c mm fa) := by
  refine ⟨fun pins s σ H Q I h => wpAny_Call_Name_kw (ld_glob I hg hm ?_ hdb)⟩
  obtain ⟨r, env, st, d, st', he', hs, hf, q⟩ := h
  obtain ⟨⟨ds, s1⟩, h1, h2⟩ := Option.bind_eq_some_iff.mp hf
  obtain ⟨⟨z, s2⟩, h3, h4⟩ := Option.bind_eq_some_iff.mp h2
  have ez : z = .non ∧ d = .ref s1.length ∧ st' = s2 := by
    cases z with
    | non => cases h4; exact ⟨rfl, rfl, rfl⟩
    | _ => cases h4
  obtain ⟨rfl, rfl, rfl⟩ := ez
  refine PySem.W.callWith_K (h₀ := X.base) I.ok.mod.kin M.kp (thn (ha.run pos pins s σ H (fun vs H1 => ∃ r1, Ext r H r1 H1 ∧ Sim X.K r1 H1 s1 ∧ RepL X.K r1 H1 vs ds) I ⟨r, env, st, ds, s1, he', hs, h1, fun vs r1 H1 e1 q1 l1 => ⟨r1, e1, q1, l1⟩⟩) fun us sa hz => ?_) he hpl
  obtain ⟨vs, H1, I1, rv, r1, e1, q1, l1⟩ := hz
  exact ⟨I1.kIn, runMake M hc Fd gx hb I1 rv (by rw [l1.len, hn _ _ _ _ h1]; exact hl) l1 q1 h3 fun v r2 H2 e2 q2 p2 => q v r2 H2 (e1.trans e2) q2 p2⟩
end
end DL
/-! Defs that may raise an own error with one field. -/
namespace DL
open PySem PySem.Spec PyProof.Rows L2 TL
variable {K : PySem.W.Frag}
inductive Rs | val (d : D) | er (c f : Str) (d : D)
abbrev FMX := List D → Store → Option (Rs × Store)
def outX : Option (Out × Lo × Store) → Option (Rs × Store)
  | some (.rt d, _, s) => some (.val d, s)
  | some (.nx, _, s) => some (.val .non, s)
  | some (.er c f d, _, s) => some (.er c f d, s)
  | _ => none
def mOfX (n : Nat) (g : FS) : FMX := fun ds st => outX (g (startD n ds) st)
/-- both ways out -/
def RsOk (K : PySem.W.Frag) (rho : Rf) (H : Hp) (st' : Store) (Q : VK) (E : XK) : Rs → Prop
  | .val d => ∀ v rho' H', Ext rho H rho' H' → Sim K rho' H' st' → Rep K rho' H' v d → Q v H'
  | .er c f d => ∀ rho' H' C dd, Ext rho H rho' H' → Sim K rho' H' st' → ErrAt K rho' H' c f d C dd → E (.ref C) (some dd) H'
structure FnX (P : Program) (w : World) (K : PySem.W.Frag) (mg : Str → Option Value) (base : Heap) (k : Nat) (f : Addr) (fd : FuncData) (ps : List Str) (m : FMX) : Prop where
  run : ∀ (A : Around) (outer : List Env) (s : Shared) (H : Hp) (args : Args) (us : List Value) (vs : List V) (Q : VK) (E : XK) (rho : Rf) (ds : List D) (st st' : Store) (z : Rs),
    A.guards = some [] → Room k A → Env0 P w K mg base A outer s H → BindsTo s fd args (ps.zip us) → Vals vs us → vs.length = ps.length → RepL K rho H vs ds → Sim K rho H st → m ds st = some (z, st') →
    RsOk K rho H st' Q E z → codeAny (model P w) A (.call (.ref f) args) (CR (L2.CX P w) outer P w H s Q E) s
theorem FnX.up {P : Program} {w : World} {mg : Str → Option Value} {base : Heap} {j k : Nat} {f : Addr} {fd : FuncData} {ps : List Str} {m : FMX} (h : FnX P w K mg base j f fd ps m) (l : j ≤ k) : FnX P w K mg base k f fd ps m :=
  ⟨fun A outer s H args us vs Q E rho ds st st' z hg hr => h.run A outer s H args us vs Q E rho ds st st' z hg (hr.mono l)⟩
abbrev cxX (P : Program) (w : World) (K : PySem.W.Frag) (mg : Str → Option Value) (base : Heap) (N : List Str) (qual : Str) (sc : Scope) (f : Addr) (cd : Value) (A : Around) (outer : List Env) (s : Shared) (H : Hp) (E : XK) : Cx :=
  cxOf (L2.CX P w) P w K mg base N qual sc f cd A outer s H E
/-- where the errors of a body go -/
abbrev wE (E : XK) : WXd := fun cls d _ H => E cls d H
theorem FnX.of {P : Program} {w : World} {mg : Str → Option Value} {base : Heap} {x qual : Str} {sd : Stmt} {f : Addr} {fd : FuncData} {N ps : List Str} {k : Nat} {g : FS} (F : Fun K x qual sd f fd) (S : FnScope N ps (defScope sd))
    (hb : ∀ (cd : Value) (A : Around) (outer : List Env) (s : Shared) (H : Hp) (E : XK), GX (cxX P w K mg base N qual (defScope sd) f cd A outer s H E) k → DSs (cxX P w K mg base N qual (defScope sd) f cd A outer s H E) (wE E) (defBody sd) g) :
    FnX P w K mg base (k + 1) f fd ps (mOfX N.length g) := by
  obtain ⟨oc, od, kV, doc, pm, an, cd, ct, osl, rfl, lk, hcd⟩ := F.ex
  refine ⟨fun A outer s H args us vs Q E rho ds st st' z hgd hr e0 hbind rv hlen rds hs hm hq => ?_⟩
  have hps : ps.length ≤ N.length := by
    have := congrArg List.length S.pre
    rw [List.length_take] at this
    omega
  have KX : K.In s.heap := e0.mod.kin.keeps fun b o e => (e0.bs b o e).1
  have lim : s.heap.NoLimit := e0.mod.nolimit.keeps fun b o e => (e0.bs b o e).1
  have kinds : ∀ y ∈ ps.zip us, (defScope sd).names.lookup y.1 = some .local ∨ ((defScope sd).names.lookup y.1 = some .cell ∧ ((cellsFrom (s.heap.objs.size + 1) (defScope sd).names []).lookup y.1).isSome = true) := fun ⟨n, v⟩ hy =>
    (S.par n (List.of_mem_zip hy).1).elim .inl fun q => .inr ⟨q, PySem.W.cellsFrom_some _ _ _ (.inl q)⟩
  refine codeAny_call_function hr.depth (KX _ _ lk) rfl S.co S.gen rfl (PySem.W.codeRec_of KX hcd) (hbind _ _ _ _ (wpAny_newFunctionEnv_cells S.kind kinds fun env he s1 x => ?_))
  subst he
  refine ⟨lim.keeps x.toInCall.keep, codeAny_func ?_⟩
  have gx : GX (cxX P w K mg base N qual (defScope sd) f cd A outer s H E) k := ⟨rfl, S.nd, hr.deeper _, hgd⟩
  have I0 : Inv (cxX P w K mg base N qual (defScope sd) f cd A outer s H E) [] (L2.start N vs) H s1 := inv_start S hr.hd e0 hlen rv x
  obtain ⟨o, env', h1, h2⟩ : ∃ o env', g (startD N.length ds) st = some (o, env', st') ∧ OutOk K (wE E) rho H { nx := fun _ H' => Q .non H', rt := Q } env' st' o := by
    unfold mOfX at hm
    cases q0 : g (startD N.length ds) st with
    | none => rw [q0] at hm; cases hm
    | some q =>
      obtain ⟨o, e, s2⟩ := q
      rw [q0] at hm
      cases o with
      | rt d' => cases hm; exact ⟨_, _, rfl, hq⟩
      | nx => cases hm; exact ⟨_, _, rfl, fun σ' r' H' ex _ hs' => hq .non r' H' ex hs' .non⟩
      | er c f d => cases hm; exact ⟨_, _, rfl, fun σ' r' H' C dd ex _ hs' er => hq r' H' C dd ex hs' er⟩
      | bk => cases hm
      | ct => cases hm
  have run := (hb cd A outer s H E gx).run [] s1 (L2.start N vs) H { nx := fun _ H' => Q .non H', rt := Q } I0 ⟨rho, _, st, o, env', st', start_env rds (by omega), hs, h1, h2⟩
  have back : ∀ {σ' : L2.St} {H' : Hp} {v : V} {u : Value} {s' : Shared}, Inv (cxX P w K mg base N qual (defScope sd) f cd A outer s H E) [] σ' H' s' → RelV v u → Q v H' → CE outer P w H s Q u s' := fun {σ' H' v u s'} J r z => ⟨v, H', J.os, J.bare, J.base, J.hok, r, z⟩
  refine wpAny_mono run (fun fl s' q => ?_) fun _ _ z => z
  cases fl with
  | ret u =>
    obtain ⟨v, σ', H', J, r, z⟩ := q
    exact back J r z
  | next =>
    obtain ⟨σ', H', J, z⟩ := q
    exact back (v := V.non) (u := Value.none) J rfl z
  | brk => obtain ⟨_, _, _, z⟩ := q; exact z.elim
  | cont => obtain ⟨_, _, _, z⟩ := q; exact z.elim
/-! ### what is called may raise -/
def fCallX (m : FMX) (fa : FA) : Lo → Store → Option (Rs × Store) := fun env st => (fa env st).bind fun p => m p.1 p.2
/-- an expression that may raise -/
abbrev FX := Lo → Store → Option (Rs × Store)
def tX (K : PySem.W.Frag) (W : WXd) (f : FX) : TE := fun σ H Q => ∃ r env st z st', EnvR K r H env σ ∧ Sim K r H st ∧ f env st = some (z, st') ∧ RsOk K r H st' Q (fun cls d H' => W cls d σ H') z
abbrev DX (X : Cx) (W : WXd) (e : Expr) (f : FX) : Prop := PE X e (tX X.K W f)
section
variable {X : Cx} {W : WXd} {k : Nat} {f : Addr} {fd : FuncData} {ps : List Str} {m : FMX} {x : Str} {p pos : Pos} {e : Expr} {es : List Expr}
theorem runX {pins : List (Addr × Obj)} {σ : L2.St} {H : Hp} {s : Shared} {Q : VK} {us : List Value} {vs : List V} {rho : Rf} {ds : List D} {st st' : Store} {z : Rs} (Fd : FnX X.prog X.w X.K X.mg X.base k f fd ps m) (gx : GX X k) (hb : Binds X.K fd ps []) (tk : L2.Takes X W)
    (I : Inv X pins σ H s) (r : Vals vs us) (hl : vs.length = ps.length) (rd : RepL X.K rho H vs ds) (hs : Sim X.K rho H st) (hm : m ds st = some (z, st')) (hq : RsOk X.K rho H st' Q (fun cls d H' => W cls d σ H') z) :
    wpAny (model X.prog X.w) X.A (call (.ref f) us) (EP X pins σ Q) X.xe s := by
  have hu : us.length = ps.length := by rw [← r.length]; exact hl
  have hbt : BindsTo s fd ⟨us, []⟩ (ps.zip us) := by
    have := hb s us I.kIn (by rw [List.append_nil]; exact hu)
    rwa [List.append_nil] at this
  refine wpAny_call (codeAny_mono (Fd.run X.A X.stack s H ⟨us, []⟩ us vs Q (fun cls d H' => W cls d σ H') rho ds st st' z gx.gd gx.room I.env0 hbt r hl rd hs hm hq) fun y s' hz => ?_)
  cases y with
  | error e => exact L2.passAt tk σ pins H s e s' I hz
  | ok fl =>
    cases fl with
    | ret u => exact I.after hz
    | next => exact False.elim hz
    | brk => exact False.elim hz
    | cont => exact False.elim hz
theorem RsOk.ext {rho rho1 : Rf} {H H1 : Hp} {st' : Store} {Q : VK} {E : XK} (e : Ext rho H rho1 H1) : ∀ {z : Rs}, RsOk K rho H st' Q E z → RsOk K rho1 H1 st' Q E z
  | .val _, h => fun v r' H' e' a b => h v r' H' (e.trans e') a b
  | .er _ _ _, h => fun r' H' C dd e' a b => h r' H' C dd (e.trans e') a b
/-- f(e, ..) -/
theorem dx_call (Fd : FnX X.prog X.w X.K X.mg X.base k f fd ps m) (gx : GX X k) (tk : L2.Takes X W) (hg : Gl X x) (hm : X.mg x = some (.ref f)) (hk : PySem.W.keepIn X.K (.ref f) = true) (hb : Binds X.K fd ps []) {fa : FA}
    (ha : DA X (e :: es) fa) (hl : (e :: es).length = ps.length := by rfl) (hdb : (x == ("__debug__" : Str)) = false := by decide) (he : starEach (e :: es) X.env = (false, eval e X.env) :: starEach es X.env := by rfl) (hpl : (backTo pos (starEach es X.env)).any (·.1) = false := by rfl)
    (hn : ∀ env st ds st', fa env st = some (ds, st') → ds.length = (e :: es).length) :
    DX X W (.Call (.Name x p) (e :: es) [] pos) (fCallX m fa) := by
  refine ⟨fun pins s σ H Q I h => wpAny_Call_Name_kw (ld_glob I hg hm ?_ hdb)⟩
  obtain ⟨r, env, st, z, st', he', hs, hf, q⟩ := h
  obtain ⟨⟨ds, s1⟩, h1, h2⟩ := Option.bind_eq_some_iff.mp hf
  refine PySem.W.callWith_K (h₀ := X.base) I.ok.mod.kin hk (thn (ha.run pos pins s σ H (fun vs H1 => ∃ r1, Ext r H r1 H1 ∧ Sim X.K r1 H1 s1 ∧ RepL X.K r1 H1 vs ds) I ⟨r, env, st, ds, s1, he', hs, h1, fun vs r1 H1 e1 q1 l1 => ⟨r1, e1, q1, l1⟩⟩) fun us sa hz => ?_) he hpl
  obtain ⟨vs, H1, I1, rv, r1, e1, q1, l1⟩ := hz
  exact ⟨I1.kIn, runX Fd gx hb tk I1 rv (by rw [l1.len, hn _ _ _ _ h1]; exact hl) l1 q1 h2 (q.ext e1)⟩
/-- return f(e, ..); f(e, ..); x = f(e, ..) -/
def sRetX (f : FX) : FS := fun env st => (f env st).map fun p => match p.1 with | .val d => (.rt d, env, p.2) | .er c fl d => (.er c fl d, env, p.2)
theorem ds_retX {e : Expr} {f : FX} {pos : Pos} (h : DX X W e f) : DS X W (.Return (some e) pos) (sRetX f) := weakS (ps_ret h) fun D' σ H hh => by
  obtain ⟨r, env, st, o, env', st', he, hs, hf, q⟩ := hh
  obtain ⟨⟨z, s1⟩, h1, h2⟩ := Option.map_eq_some_iff.mp hf
  cases z with
  | val d =>
    cases h2
    exact ⟨r, env, st, _, _, he, hs, h1, q⟩
  | er c fl d =>
    cases h2
    exact ⟨r, env, st, _, _, he, hs, h1, fun r' H' C dd ex hs' er => q σ r' H' C dd ex (he.ext ex) hs' er⟩
def sDropX (f : FX) : FS := fun env st => (f env st).map fun p => match p.1 with | .val _ => (.nx, env, p.2) | .er c fl d => (.er c fl d, env, p.2)
theorem ds_exprX {e : Expr} {f : FX} {pos : Pos} (h : DX X W e f) (hs : swapsWith e none pos.line X.env = pure false := by rfl) : DS X W (.Expr e pos) (sDropX f) := weakS (ps_expr h hs) fun D' σ H hh => by
  obtain ⟨r, env, st, o, env', st', he, hs, hf, q⟩ := hh
  obtain ⟨⟨z, s1⟩, h1, h2⟩ := Option.map_eq_some_iff.mp hf
  cases z with
  | val d =>
    cases h2
    exact ⟨r, env, st, _, _, he, hs, h1, fun v r1 H1 e1 q1 _ => q σ r1 H1 e1 (he.ext e1) q1⟩
  | er c fl d =>
    cases h2
    exact ⟨r, env, st, _, _, he, hs, h1, fun r' H' C dd ex hs' er => q σ r' H' C dd ex (he.ext ex) hs' er⟩
def sAsgX (f : FX) (g : FG) : FS := fun env st => (f env st).bind fun p => match p.1 with | .val d => (g d env).map fun e1 => (.nx, e1, p.2) | .er c fl d => some (.er c fl d, env, p.2)
theorem ds_asgX {tg e : Expr} {f : FX} {g : FG} {pos : Pos} (he : DX X W e f) (hg : DG X tg g) (hs : swapsWithSole [tg] e pos.line X.env = pure false := by rfl) (hw : swappedStores [tg] e X.env = pure none := by rfl)
    (h1 : (assignEach [tg] X.env).map (·.2) = [assign tg X.env] := by rfl) : DS X W (.Assign [tg] e pos) (sAsgX f g) := weakS (ps_asg he hg hs hw h1) fun D' σ H hh => by
  obtain ⟨r, env, st, o, env', st', he, hs, hf, q⟩ := hh
  obtain ⟨⟨z, s1⟩, h1, h2⟩ := Option.bind_eq_some_iff.mp hf
  cases z with
  | val d =>
    obtain ⟨e1, h3, h4⟩ := Option.map_eq_some_iff.mp (show ((g d env).map fun e1 => (Out.nx, e1, s1)) = some (o, env', st') from h2)
    cases h4
    exact ⟨r, env, st, _, _, he, hs, h1, fun v r1 H1 x1 q1 p1 => ⟨r1, env, d, _, he.ext x1, p1, h3, fun σ' he' => q σ' r1 H1 x1 he' q1⟩⟩
  | er c fl d =>
    cases h2
    exact ⟨r, env, st, _, _, he, hs, h1, fun r' H' C dd ex hs' er => q σ r' H' C dd ex (he.ext ex) hs' er⟩
end
end DL
/-! Targets that are tuples, zip, starred displays, ord, what is never run. -/
namespace DL
open PySem PySem.Spec PyProof.Rows L2 TL
variable {K : PySem.W.Frag}
/-! ### targets -/
def TgsOk (K : PySem.W.Frag) (g : TGs) (is : List Nat) (bd : List D → Option (List D)) : Prop := ∀ r H xs ds σ (Q : L2.St → Hp → Prop) vals, RepL K r H xs ds → bd ds = some vals → (∀ vs, RepL K r H vs vals → Q (setL is vs σ) H) → g xs σ H Q
def bNil : List D → Option (List D) := fun ds => match ds with | [] => some [] | _ => none
def bCons (b : FB) (c : List D → Option (List D)) : List D → Option (List D) := fun ds => match ds with | d :: r => (b d).bind fun x => (c r).map fun y => x ++ y | [] => none
def bTup (n : Nat) (c : List D → Option (List D)) : FB := fun d => match d with | .tup ds => if ds.length = n then c ds else none | _ => none
theorem tgs_nil : TgsOk K gNil [] bNil := fun r H xs ds σ Q vals hr hb q => by
  cases ds with
  | nil =>
    cases hr
    cases hb
    exact ⟨rfl, q [] .nil⟩
  | cons _ _ => cases hb
/-- as many slots as values -/
def BdN (n : Nat) (b : FB) : Prop := ∀ d v, b d = some v → v.length = n
theorem b1_n : BdN 1 b1 := fun d v h => by cases h; rfl
theorem setL_app {α : Type} : ∀ (is js : List Nat) (vs us : List α) (σ : List (Option α)), is.length = vs.length → setL (is ++ js) (vs ++ us) σ = setL js us (setL is vs σ)
  | [], js, [], us, σ, _ => rfl
  | i :: is, js, v :: vs, us, σ, h => by
    show setL (is ++ js) (vs ++ us) (σ.set i (some v)) = setL js us (setL is vs (σ.set i (some v)))
    exact setL_app is js vs us _ (Nat.succ.inj h)
  | [], js, v :: vs, us, σ, h => by cases h
  | i :: is, js, [], us, σ, h => by cases h
theorem repL_split {r : Rf} {H : Hp} : ∀ {vs : List V} {as bs : List D}, RepL K r H vs (as ++ bs) → ∃ us ws, vs = us ++ ws ∧ RepL K r H us as ∧ RepL K r H ws bs
  | vs, [], bs, h => ⟨[], vs, rfl, .nil, h⟩
  | _, a :: as, bs, .cons x y => by
    obtain ⟨us, ws, e, h1, h2⟩ := repL_split y
    exact ⟨_ :: us, ws, by rw [e]; rfl, .cons x h1, h2⟩
theorem tgs_cons {g : TG} {gs : TGs} {is js : List Nat} {b : FB} {c : List D → Option (List D)} (h1 : TgOk K g is b) (hn : BdN is.length b) (h2 : TgsOk K gs js c) : TgsOk K (gCons g gs) (is ++ js) (bCons b c) := fun r H xs ds σ Q vals hr hb q => by
  cases ds with
  | nil => cases hb
  | cons d ds =>
    cases hr with
    | cons ra rb =>
      obtain ⟨x, hx, hb2⟩ := Option.bind_eq_some_iff.mp (show ((b d).bind fun x => (c ds).map fun y => x ++ y) = some vals from hb)
      obtain ⟨y, hy, e⟩ := Option.map_eq_some_iff.mp hb2
      subst e
      refine ⟨_, _, rfl, h1 r H _ d σ _ x ra hx fun vs rv => h2 r H _ ds _ Q y rb hy fun us ru => ?_⟩
      have hl : is.length = vs.length := by rw [rv.len, hn d x hx]
      rw [← setL_app is js vs us σ hl]
      exact q _ (rv.append ru)
theorem tg_tup {gs : TGs} {is : List Nat} {n : Nat} {c : List D → Option (List D)} (h : TgsOk K gs is c) : TgOkR K (RepI K) (gTup K n gs) is (bTup n c) := fun r H x d σ Q vals hr hb q => by
  obtain ⟨a, xs, ds, e, ed, s, l⟩ := hr
  subst ed
  have hb' : (if ds.length = n then c ds else none) = some vals := hb
  by_cases hl : ds.length = n
  · rw [if_pos hl] at hb'
    exact ⟨a, xs, e, s, by rw [l.len]; exact hl, h r H xs ds σ Q vals l hb' q⟩
  · rw [if_neg hl] at hb'
    cases hb'
theorem Rep.repI {r : Rf} {H : Hp} {v : V} {ds : List D} (h : Rep K r H v (.tup ds)) : RepI K r H v (.tup ds) := by
  obtain ⟨a, xs, e, s, l⟩ := h.sqT
  exact ⟨a, xs, ds, e, rfl, s, l⟩
theorem tg_tupR {gs : TGs} {is : List Nat} {n : Nat} {c : List D → Option (List D)} (h : TgsOk K gs is c) : TgOk K (gTup K n gs) is (bTup n c) := fun r H x d σ Q vals hr hb q => by
  cases d with
  | tup ds => exact tg_tup h r H x _ σ Q vals hr.repI hb q
  | _ => cases hb
theorem bTup_n {n m : Nat} {c : List D → Option (List D)} (h : ∀ ds v, c ds = some v → v.length = m) : BdN m (bTup n c) := fun d v e => by
  cases d with
  | tup ds =>
    have e' : (if ds.length = n then c ds else none) = some v := e
    by_cases hl : ds.length = n
    · rw [if_pos hl] at e'
      exact h ds v e'
    · rw [if_neg hl] at e'
      cases e'
  | _ => cases e
theorem bNil_n : ∀ ds v, bNil ds = some v → v.length = 0 := fun ds v e => by
  cases ds with
  | nil => cases e; rfl
  | cons _ _ => cases e
theorem bCons_n {k m : Nat} {b : FB} {c : List D → Option (List D)} (h1 : BdN k b) (h : ∀ ds v, c ds = some v → v.length = m) : ∀ ds v, bCons b c ds = some v → v.length = k + m := fun ds v e => by
  cases ds with
  | nil => cases e
  | cons d ds =>
    obtain ⟨x, hx, hb2⟩ := Option.bind_eq_some_iff.mp (show ((b d).bind fun x => (c ds).map fun y => x ++ y) = some v from e)
    obtain ⟨y, hy, e⟩ := Option.map_eq_some_iff.mp hb2
    subst e
    rw [List.length_append, h1 d x hx, h ds y hy]
section
variable {X : Cx} {W : WXd} {tg iter : Expr}
/-- a tuple's target takes tuples -/
theorem DIR.weak {R R' : RD} {f : FI} (h : DIR X R tg iter f) (i : ∀ r H v d, R r H v d → R' r H v d) : DIR X R' tg iter f := weakI h fun σ H Q hh => by
  obtain ⟨r, env, st, ds, st', he, hs, hf, q⟩ := hh
  exact ⟨r, env, st, ds, st', he, hs, hf, fun J r' H' e' s' j => q J r' H' e' s' fun r1 H1 st1 e1 s1 => ⟨(j r1 H1 st1 e1 s1).1, fun k d hd => ⟨((j r1 H1 st1 e1 s1).2 k d hd).1, fun x H2 y => let ⟨r2, a, b, c⟩ := ((j r1 H1 st1 e1 s1).2 k d hd).2 x H2 y; ⟨r2, a, b, i _ _ _ _ c⟩⟩⟩⟩
/-! ### zip -/
def pairs2 : List D → List D → List D
  | a :: as, b :: bs => .tup [a, b] :: pairs2 as bs
  | _, _ => []
theorem pairs2_len : ∀ as bs : List D, (pairs2 as bs).length = min as.length bs.length
  | [], _ => by simp [pairs2]
  | _ :: _, [] => by simp [pairs2]
  | a :: as, b :: bs => by
    show (pairs2 as bs).length + 1 = _
    rw [pairs2_len as bs, List.length_cons, List.length_cons]
    omega
theorem pairs2_get : ∀ {as bs : List D} {i : Nat} {d : D}, (pairs2 as bs)[i]? = some d → ∃ a b, as[i]? = some a ∧ bs[i]? = some b ∧ d = .tup [a, b]
  | [], _, i, d, h => by simp [pairs2] at h
  | _ :: _, [], i, d, h => by simp [pairs2] at h
  | a :: as, b :: bs, 0, d, h => by
    have e := Option.some.inj (show some (D.tup [a, b]) = some d from h)
    exact ⟨a, b, rfl, rfl, e.symm⟩
  | a :: as, b :: bs, i + 1, d, h => pairs2_get (as := as) (bs := bs) (i := i) (show (pairs2 as bs)[i]? = some d from h)
def asZip : List D → Option (List D) | [.tup as, .tup bs] => some (pairs2 as bs) | _ => none
theorem di_zip {a b : Expr} {fa : FA} {elts : List Expr} {kk : Nat} {tpos p pos : Pos} (hg : Gl X "zip") (hm : X.mg "zip" = none) (ha : DA X [a, b] fa)
    (hs : starEach [a, b] X.env = (false, eval a X.env) :: starEach [b] X.env := by rfl) (hpl : (backTo pos (starEach [b] X.env)).any (·.1) = false := by rfl) :
    DIR X (RepI X.K) (.Tuple elts kk tpos) (.Call (.Name "zip" p) [a, b] [] pos) (iOfA asZip fa) := weakI (RZ.pi_zipA hg hm ha hs hpl) fun σ H R hh => by
  obtain ⟨r, env, st, ds, st', he, hs, hf, q⟩ := hh
  obtain ⟨xs, h1, h2⟩ := iOfA_some hf
  refine ⟨r, env, st, xs, st', he, hs, h1, fun v r1 H1 e1 q1 p1 => ?_⟩
  unfold asZip at h2
  split at h2
  · rename_i as bs
    cases h2
    obtain ⟨u, w, rfl, pa, pb⟩ := lst2 p1
    obtain ⟨a', us, rfl, sa, la⟩ := pa.sqT
    obtain ⟨b', ws, rfl, sb, lb⟩ := pb.sqT
    have pa1 := pa
    have pb1 := pb
    refine ⟨a', b', us, ws, rfl, .inr ⟨sa, sb, q _ r1 H1 e1 q1 fun r2 H2 st2 e2 s2 => ?_⟩⟩
    -- the tuples stand as they stood
    have hk : ∀ {c : Addr} {ys : List V} {es : List D}, SqT X.K H1 c ys → RepL X.K r1 H1 ys es → Rep X.K r1 H1 (.ref c) (.tup es) → ∃ zs, SqT X.K H2 c zs ∧ RepL X.K r2 H2 zs es := fun {c ys es} _ _ p => by
      obtain ⟨c', zs, e', s', l'⟩ := (p.ext e2).sqT
      cases e'
      exact ⟨zs, s', l'⟩
    obtain ⟨us2, sa2, la2⟩ := hk sa la pa1
    obtain ⟨ws2, sb2, lb2⟩ := hk sb lb pb1
    refine ⟨fun i hi => ⟨us2, ws2, sa2, sb2, ?_⟩, fun i d hd => ?_⟩
    · rw [pairs2_len] at hi
      rw [la2.len, lb2.len]
      omega
    · obtain ⟨x, y, hx, hy, ed⟩ := pairs2_get hd
      obtain ⟨vx, hvx, rx⟩ := la2.get hx
      obtain ⟨vy, hvy, ry⟩ := lb2.get hy
      refine ⟨⟨us2, ws2, vx, vy, sa2, sb2, hvx, hvy⟩, fun v H3 ⟨T, x', y', ev, hT, eH, w1, w2⟩ => ?_⟩
      subst ev
      subst eH
      have ex : x' = vx := by
        have := w1 us2 sa2
        rw [hvx] at this
        exact (Option.some.inj this).symm
      have ey : y' = vy := by
        have := w2 ws2 sb2
        rw [hvy] at this
        exact (Option.some.inj this).symm
      subst ex ey
      have sm : Same H2 (upd H2 T (.tup [x', y'])) := same_alloc hT
      exact ⟨r2, s2.ext sm, s2.same sm, T, [x', y'], [x, y], rfl, ed, .inl (.inl upd_same), .cons (rx.ext (s2.ext sm)) (.cons (ry.ext (s2.ext sm)) .nil)⟩
  · cases h2
/-! ### (*xs, a) -/
def asSeq : D → Store → Option (List D) := fun d st => match d with
  | .lst ds => some ds
  | .tup ds => some ds
  | .ref n => (match st[n]? with | some (.lst ds) => some ds | _ => none)
  | _ => none
def aStar (f : F) (g : FA) : FA := fun env st => (f env st).bind fun p => (asSeq p.1 p.2).bind fun ds => (g env p.2).map fun q => (ds ++ q.1, q.2)
theorem asSeq_rep {r : Rf} {H : Hp} {v : V} {d : D} {st : Store} {ds : List D} (h : Rep K r H v d) (si : Sim K r H st) (e : asSeq d st = some ds) : ∃ p xs, v = .ref p ∧ (SqT K H p xs ∨ SqL K H p xs) ∧ RepL K r H xs ds := by
  unfold asSeq at e
  split at e
  · cases e
    cases h with
    | lst a b c => exact ⟨_, _, rfl, .inr (.of a), c⟩
  · cases e
    obtain ⟨a, xs, e, s, l⟩ := h.sqT
    exact ⟨a, xs, e, .inl s, l⟩
  · rename_i n
    obtain ⟨a, rfl, ha⟩ := h.refI
    split at e
    · rename_i es hst
      cases e
      obtain ⟨av, xs, hx, l⟩ := si.ob _ a _ ha hst
      exact ⟨a, xs, rfl, .inr (.of hx), l⟩
    · cases e
  · cases e
theorem da_star {e : Expr} {p : Pos} {es : List Expr} {f : F} {g : FA} (h : DE X e f) (t : DA X es g) (hs : starEach (.Starred e p :: es) X.env = (true, eval e X.env) :: starEach es X.env := by rfl) : DA X (.Starred e p :: es) (aStar f g) :=
  weakA (StX.pa_star h t hs) fun σ H Q hh => by
  obtain ⟨r, env, st, ds, st', he, hs, hf, q⟩ := hh
  obtain ⟨⟨x, s1⟩, h1, hf1⟩ := Option.bind_eq_some_iff.mp hf
  obtain ⟨xs, h2, hf2⟩ := Option.bind_eq_some_iff.mp hf1
  obtain ⟨⟨ys, s2⟩, h3, hf3⟩ := Option.map_eq_some_iff.mp hf2
  cases hf3
  refine ⟨r, env, st, x, s1, he, hs, h1, fun u r1 H1 e1 q1 p1 => ?_⟩
  obtain ⟨p, us, eu, sq, l⟩ := asSeq_rep p1 q1 h2
  exact ⟨p, us, eu, sq, r1, env, s1, ys, _, he.ext e1, q1, h3, fun ws r2 H2 e2 q2 l2 => q (us ++ ws) r2 H2 (e1.trans e2) q2 ((l.ext e2).append l2)⟩
/-! ### ord -/
def bOrd : List D → Store → Option D := fun ds _ => match ds with | [.str x] => if x.length = 1 then some (.int (x.cps.getD 0 0 : Nat)) else none | _ => none
theorem ok_ord : CallOk X (.builtin "ord") bOrd := ⟨_, call_ord, fun rho H xs ds d st Q rl si e q => by
  unfold bOrd at e
  split at e
  · split at e
    · rename_i z hz
      cases e
      obtain ⟨v, rfl, p⟩ := lst1 rl
      cases p
      exact ⟨_, rfl, hz, q _ H (fun _ _ h => h) (.int _)⟩
    · cases e
  · cases e⟩
/-! ### what is never run -/
def sNever : FS := fun _ _ => none
theorem ds_never {s : Stmt} : DS X W s sNever := ⟨fun pins s σ H D I h => by
  obtain ⟨r, env, st, o, env', st', _, _, hf, _⟩ := h
  cases hf⟩
end
end DL
/-! A list of the store is walked (as long as it stands as it stood); a dict is locked and walked. -/
namespace DL
open PySem PySem.Spec PyProof.Rows L2 TL
/-- the walk goes on while the store is as P says -/
noncomputable def okP (P : Store → Prop) (st : Store) : Bool := @decide (P st) (Classical.propDecidable _)
theorem okP_t {P : Store → Prop} {st : Store} (h : P st) : okP P st = true := @decide_eq_true _ (Classical.propDecidable _) h
theorem okP_p {P : Store → Prop} {st : Store} (h : okP P st = true) : P st := @of_decide_eq_true _ (Classical.propDecidable _) h
variable {K : PySem.W.Frag}
abbrev FIg := Lo → Store → Option (List D × (Store → Prop) × Store)
def ItOkG (K : PySem.W.Frag) (R : RD) (P : Store → Prop) (J : It) (r : Rf) (H : Hp) (ds : List D) : Prop :=
  ∀ r1 H1 st1, Ext r H r1 H1 → Sim K r1 H1 st1 → P st1 → (∀ i, ds.length ≤ i → J.stop i H1) ∧
    ∀ (i : Nat) d, ds[i]? = some d → J.go i H1 ∧ ∀ x H2, J.yld i H1 x H2 → ∃ r2, Ext r1 H1 r2 H2 ∧ Sim K r2 H2 st1 ∧ R r2 H2 x d
def tIG (K : PySem.W.Frag) (RR : RD) (f : FIg) : TI := fun σ H R => ∃ r env st ds P st', EnvR K r H env σ ∧ Sim K r H st ∧ f env st = some (ds, P, st') ∧ ∀ J r' H', Ext r H r' H' → Sim K r' H' st' → ItOkG K RR P J r' H' ds → R J H'
abbrev DIG (X : Cx) (RR : RD) (tg iter : Expr) (f : FIg) : Prop := PI X tg iter (tIG X.K RR f)
noncomputable def loopSG (P : Store → Prop) (tg : FG) (body : FS) : List D → Lo → Store → Option (Out × Lo × Store)
  | [], env, st => if okP P st = true then some (.nx, env, st) else none
  | d :: ds, env, st => if okP P st = true then (tg d env).bind fun e1 => (body e1 st).bind fun p => match p with
    | (.nx, e2, s2) => loopSG P tg body ds e2 s2
    | (.ct, e2, s2) => loopSG P tg body ds e2 s2
    | (.bk, e2, s2) => some (.nx, e2, s2)
    | (.rt v, e2, s2) => some (.rt v, e2, s2)
    | (.er c f v, e2, s2) => some (.er c f v, e2, s2) else none
noncomputable def sForG (fi : FIg) (tg : FG) (body : FS) : FS := fun env st => (fi env st).bind fun p => loopSG p.2.1 tg body p.1 env p.2.2
section
variable {X : Cx} {W : WXd} {tg iter : Expr}
theorem ds_forG {RR : RD} {body : List Stmt} {fi : FIg} {g : FG} {b : FS} {pos : Pos} (hp : PassesOwn (model X.prog X.w) X.A X.env X.xe) (hc : X.calm = true) (hi : DIG X RR tg iter fi) (hg : DGR X RR tg g) (hb : DSs X W body b)
    (hs : ∀ x, foldedSetIterable iter X.env x = pure x := by intro _; rfl) : DS X W (.For tg iter body [] pos) (sForG fi g b) := weakS (ps_for hp hc hi hg hb hs) fun D' σ H hh => by
  obtain ⟨r, env, st, o, env', st', he, hs, hf, q⟩ := hh
  obtain ⟨⟨ds, P, s1⟩, h1, h2⟩ := Option.bind_eq_some_iff.mp hf
  refine ⟨r, env, st, ds, P, s1, he, hs, h1, fun J r1 H1 e1 q1 j1 => ?_⟩
  refine ⟨fun i m σ2 H2 => m = ds.length - i ∧ i ≤ ds.length ∧ ∃ r2 env2 st2, Ext r1 H1 r2 H2 ∧ EnvR X.K r2 H2 env2 σ2 ∧ Sim X.K r2 H2 st2 ∧ loopSG P g b (ds.drop i) env2 st2 = some (o, env', st'),
    ⟨_, rfl, Nat.zero_le _, r1, env, s1, .refl _ _, he.ext e1, q1, h2⟩, ?_⟩
  rintro i m σ2 H2 ⟨rfl, hi, r2, env2, st2, e2, he2, hs2, h3⟩
  by_cases hlt : i < ds.length
  · have hd : ds[i]? = some ds[i] := List.getElem?_eq_getElem hlt
    rw [List.drop_eq_getElem_cons hlt] at h3
    unfold loopSG at h3
    by_cases hP : okP P st2 = true
    case neg => rw [if_neg hP] at h3; cases h3
    rw [if_pos hP] at h3
    obtain ⟨jst, jgo⟩ := j1 r2 H2 st2 e2 hs2 (okP_p hP)
    obtain ⟨env3, g1, h4⟩ := Option.bind_eq_some_iff.mp h3
    obtain ⟨⟨o4, env4, st4⟩, g2, h5⟩ := Option.bind_eq_some_iff.mp h4
    obtain ⟨j2, j3⟩ := jgo i _ hd
    refine .inr ⟨j2, fun σ' H' => i + 1 ≤ ds.length ∧ ∃ r2 env2 st2, Ext r1 H1 r2 H' ∧ EnvR X.K r2 H' env2 σ' ∧ Sim X.K r2 H' st2 ∧ loopSG P g b (ds.drop (i + 1)) env2 st2 = some (o, env', st'),
      fun σ' H' ⟨hi', w⟩ => ⟨ds.length - (i + 1), by omega, rfl, hi', w⟩, fun x H3 y => ?_⟩
    obtain ⟨r3, e3, hs3, rx⟩ := j3 x H3 y
    refine ⟨r3, env2, ds[i], env3, he2.ext e3, rx, g1, fun σ3 he3 => ⟨r3, env3, st2, o4, env4, st4, he3, hs3, g2, ?_⟩⟩
    cases o4 with
    | nx => exact fun σ' r' H' e' a c => ⟨by omega, r', env4, st4, (e2.trans e3).trans e', a, c, h5⟩
    | ct => exact fun σ' r' H' e' a c => ⟨by omega, r', env4, st4, (e2.trans e3).trans e', a, c, h5⟩
    | bk =>
      cases h5
      exact fun σ' r' H' e' a c => q σ' r' H' (((e1.trans e2).trans e3).trans e') a c
    | rt v =>
      cases h5
      exact fun v r' H' e' a c => q v r' H' (((e1.trans e2).trans e3).trans e') a c
    | er c' f' v =>
      cases h5
      exact fun σ' r' H' C dd e' a c z => q σ' r' H' C dd (((e1.trans e2).trans e3).trans e') a c z
  · have e : i = ds.length := by omega
    subst e
    rw [List.drop_length] at h3
    unfold loopSG at h3
    by_cases hP : okP P st2 = true
    case neg => rw [if_neg hP] at h3; cases h3
    rw [if_pos hP] at h3
    obtain ⟨jst, jgo⟩ := j1 r2 H2 st2 e2 hs2 (okP_p hP)
    cases h3
    exact .inl ⟨jst _ (Nat.le_refl _), q σ2 r2 H2 (e1.trans e2) he2 hs2⟩
end
noncomputable def loopCG (P : Store → Prop) (is : List Nat) (bd : FB) (t : FT) (f : F) : List D → Lo → Store → Option (List D × Store)
  | [], _, st => if okP P st = true then some ([], st) else none
  | d :: ds, env, st => if okP P st = true then (bd d).bind fun vs => (t (setL is vs env) st).bind fun p => if p.1 = true then (f (setL is vs env) p.2).bind fun q => (loopCG P is bd t f ds env q.2).map fun z => (q.1 :: z.1, z.2) else loopCG P is bd t f ds env p.2 else none
noncomputable def fCompG (fi : FIg) (is : List Nat) (bd : FB) (t : FT) (f : F) : F := fun env st => (fi env st).bind fun p => (loopCG p.2.1 is bd t f p.1 (wipeL env is) p.2.2).bind fun q => if q.1.length ≤ sizeLine then some (.lst q.1, q.2) else none
theorem compReadsG {RR : RD} {fi : FIg} {is : List Nat} {bd : FB} {g : TG} {t : FT} {f : F} (hg : TgOkR K RR g is bd) (σ : L2.St) (H : Hp) (Q : VK) (hh : tD K (fCompG fi is bd t f) σ H Q) : tLc (tIG K RR fi) g (tT K t) (tD K f) is σ H Q := by
  obtain ⟨r, env, st, d, st', he, hs, hf, q⟩ := hh
  obtain ⟨⟨ds, P, s1⟩, h1, h2⟩ := Option.bind_eq_some_iff.mp hf
  obtain ⟨⟨zs, s2⟩, h3, h4⟩ := Option.bind_eq_some_iff.mp h2
  by_cases hz : zs.length ≤ sizeLine
  case neg => rw [if_neg hz] at h4; cases h4
  rw [if_pos hz] at h4
  cases h4
  refine ⟨r, env, st, ds, P, s1, he, hs, h1, fun J r1 H1 e1 q1 j1 Dl hD => ?_⟩
  have m0 := Mkg.start (o := .lst []) q1 hD
  refine ⟨fun k m H2 => m = ds.length - k ∧ k ≤ ds.length ∧ ∃ r2 st2 acc us ys, Mkg K r1 H1 Dl r2 H2 st2 ∧ EnvR K r2 H2 (DL.wipeL env is) (wipe σ is) ∧ H2 Dl = some (.lst us) ∧ RepL K r2 H2 us acc ∧
    loopCG P is bd t f (ds.drop k) (DL.wipeL env is) st2 = some (ys, s2) ∧ acc ++ ys = zs, ⟨_, rfl, Nat.zero_le _, r1.hide Dl, s1, [], [], zs, m0, ((he.ext e1).ext m0.ex).wipeL is, upd_same, .nil, h3, rfl⟩, ?_⟩
  rintro k m H2 ⟨rfl, hk, r2, st2, acc, us, ys, mk, wp, hus, racc, hl, hcat⟩
  by_cases hlt : k < ds.length
  case neg =>
    have e : k = ds.length := by omega
    subst e
    rw [List.drop_length] at hl
    unfold loopCG at hl
    by_cases hP : okP P st2 = true
    case neg => rw [if_neg hP] at hl; cases hl
    rw [if_pos hP] at hl
    obtain ⟨jst, jgo⟩ := j1 r2 H2 st2 mk.ex mk.sim (okP_p hP)
    cases hl
    rw [List.append_nil] at hcat
    subst hcat
    obtain ⟨w1, w2, w3⟩ := mk.show q1 hD
    exact .inl ⟨jst _ (Nat.le_refl _), q (.ref Dl) (r2.shown Dl) H2 (e1.trans w1) w2 (.lst hus (fun z => z.2 rfl) (racc.ex w3))⟩
  case pos =>
    have hd : ds[k]? = some ds[k] := List.getElem?_eq_getElem hlt
    rw [List.drop_eq_getElem_cons hlt] at hl
    unfold loopCG at hl
    by_cases hP : okP P st2 = true
    case neg => rw [if_neg hP] at hl; cases hl
    rw [if_pos hP] at hl
    obtain ⟨jst, jgo⟩ := j1 r2 H2 st2 mk.ex mk.sim (okP_p hP)
    obtain ⟨vals, hv, hl1⟩ := Option.bind_eq_some_iff.mp hl
    obtain ⟨⟨b, st3⟩, hb, hl2⟩ := Option.bind_eq_some_iff.mp hl1
    obtain ⟨j2, j3⟩ := jgo k _ hd
    refine .inr ⟨j2, fun H' => k + 1 ≤ ds.length ∧ ∃ r2 st2 acc us ys, Mkg K r1 H1 Dl r2 H' st2 ∧ EnvR K r2 H' (DL.wipeL env is) (wipe σ is) ∧ H' Dl = some (.lst us) ∧ RepL K r2 H' us acc ∧
      loopCG P is bd t f (ds.drop (k + 1)) (DL.wipeL env is) st2 = some (ys, s2) ∧ acc ++ ys = zs, fun H' ⟨hk', w⟩ => ⟨ds.length - (k + 1), by omega, rfl, hk', w⟩, fun x H3 y => ?_⟩
    obtain ⟨r3, e3, s3, rx⟩ := j3 x H3 y
    have wp3 := wp.ext e3
    refine hg r3 H3 x _ _ _ vals rx hv fun vs rvs => ⟨wipe_setL σ is vs, ?_⟩
    · have he3 : EnvR K r3 H3 (DL.setL is vals (DL.wipeL env is)) (DL.setL is vs (wipe σ is)) := wp3.setL rvs
      refine ⟨r3, _, st2, b, st3, he3, s3, hb, fun r4 H4 e4 s4 => ?_⟩
      cases b with
      | false =>
        rw [if_neg Bool.false_ne_true] at hl2 ⊢
        obtain ⟨m4, k4⟩ := mk.step (e3.trans e4) s4
        exact ⟨hlt, r4, st3, acc, us, ys, m4, wp3.ext e4, k4.trans hus, racc.ext (e3.trans e4), hl2, hcat⟩
      | true =>
        rw [if_pos rfl] at hl2 ⊢
        obtain ⟨⟨yd, st4⟩, hy, hl3⟩ := Option.bind_eq_some_iff.mp hl2
        obtain ⟨⟨ys', st5⟩, hl4, hl5⟩ := Option.map_eq_some_iff.mp hl3
        cases hl5
        refine ⟨r4, _, st3, yd, st4, he3.ext e4, s4, hy, fun yv r5 H5 e5 s5 ry => ?_⟩
        have e25 : Ext r2 H2 r5 H5 := (e3.trans e4).trans e5
        obtain ⟨m5, k5⟩ := mk.step e25 s5
        obtain ⟨m6, g1⟩ := m5.put q1 hD (.lst (us ++ [yv]))
        refine ⟨us, k5.trans hus, ?_, hlt, r5, st4, acc ++ [yd], us ++ [yv], ys', m6, ((wp3.ext e4).ext e5).exx g1, upd_same, ((racc.ext e25).ex g1).append (.cons (ry.ex g1) .nil), hl4, by rw [← hcat, List.append_assoc]; rfl⟩
        rw [racc.len]
        have : (acc ++ yd :: ys').length ≤ sizeLine := by rw [hcat]; exact hz
        rw [List.length_append, List.length_cons] at this
        omega
section
variable {X : Cx} {W : WXd} {tg iter : Expr}
theorem de_lcG {RR : RD} {elt : Expr} {ifs : List Expr} {scope : Scope} {own : List (Str × Nat)} {pos : Pos} {fi : FIg} {bd : FB} {g : TG} {t : FT} {f : F} (hc : X.calm = true) (hN : X.N.Nodup) (hi : DIG X RR tg iter fi) (ok : BlkOk X.N X.env.scope scope own)
    (tk : TgOkR X.K RR g (own.map (·.2)) bd)
    (hg : ∀ (s : Shared) (H : Hp) (C : Addr) (cl : List (Str × Addr)) (fp : List Addr), PG (X.blk s H scope (compEnvC scope cl C X.env) fp) tg g) (ht : ∀ (s : Shared) (H : Hp) (C : Addr) (cl : List (Str × Addr)) (fp : List Addr), DTs (X.blk s H scope (compEnvC scope cl C X.env) fp) ifs t)
    (he : ∀ (s : Shared) (H : Hp) (C : Addr) (cl : List (Str × Addr)) (fp : List Addr), DE (X.blk s H scope (compEnvC scope cl C X.env) fp) elt f) (hs : ∀ x, foldedSetIterable iter X.env x = pure x := by intro _; rfl) :
    DE X (.ListComp elt [⟨tg, iter, ifs, 0⟩] scope pos) (fCompG fi (own.map (·.2)) bd t f) := weakE (pe_lc hc hN hi ok hg ht he hs) fun σ H Q hh => compReadsG tk σ H Q hh
theorem ds_setLcG {RR : RD} {i : Nat} {y : Str} {py : Pos} {elt : Expr} {ifs : List Expr} {scope : Scope} {own : List (Str × Nat)} {pos spos : Pos} {fi : FIg} {bd : FB} {g : TG} {t : FT} {f : F} (hc : X.calm = true) (hN : X.N.Nodup) (hy : X.N[i]? = some y) (hyl : X.env.scope.names.lookup y = some .local)
    (hsw : swapsWith (.ListComp elt [⟨tg, iter, ifs, 0⟩] scope pos) (some (.Name y py)) spos.line X.env = pure true) (hi : DIG X RR tg iter fi) (ok : BlkOk X.N X.env.scope scope own)
    (tk : TgOkR X.K RR g (own.map (·.2)) bd)
    (hg : ∀ (s : Shared) (H : Hp) (C : Addr) (cl : List (Str × Addr)) (fp : List Addr), PG (X.blk s H scope (compEnvC scope cl C X.env) fp) tg g) (ht : ∀ (s : Shared) (H : Hp) (C : Addr) (cl : List (Str × Addr)) (fp : List Addr), DTs (X.blk s H scope (compEnvC scope cl C X.env) fp) ifs t)
    (he : ∀ (s : Shared) (H : Hp) (C : Addr) (cl : List (Str × Addr)) (fp : List Addr), DE (X.blk s H scope (compEnvC scope cl C X.env) fp) elt f) (hs : ∀ x, foldedSetIterable iter X.env x = pure x := by intro _; rfl) :
    DS X W (.Assign [.Name y py] (.ListComp elt [⟨tg, iter, ifs, 0⟩] scope pos) spos) (sAsg (fCompG fi (own.map (·.2)) bd t f) (gN i)) := weakS (ps_setLc hc hN hy hyl hsw hi ok hg ht he hs) fun D' σ H hh => by
  obtain ⟨r, env, st, o, env', st', he, hs, hf, q⟩ := hh
  obtain ⟨⟨d, s1⟩, h1, h2⟩ := Option.bind_eq_some_iff.mp hf
  obtain ⟨e1, h3, h4⟩ := Option.map_eq_some_iff.mp h2
  cases h4
  cases h3
  exact compReadsG tk σ H _ ⟨r, env, st, d, _, he, hs, h1, fun v r1 H1 x1 q1 p1 => q _ r1 H1 x1 ((he.ext x1).set p1 i) q1⟩
/-- a list of the store, as long as it stands as it stood -/
def iRefL (f : F) : FIg := fun env st => (f env st).bind fun p => match p.1 with
  | .ref n => (match p.2[n]? with | some (.lst ds) => some (ds, (fun s => s[n]? = some (.lst ds)), p.2) | _ => none)
  | _ => none
theorem di_refL {f : F} (h : DE X iter f) : DIG X (Rep X.K) tg iter (iRefL f) := weakI (pi_list h) fun σ H R hh => by
  obtain ⟨r, env, st, ds, P, st', he, hs, hf, q⟩ := hh
  obtain ⟨⟨d, s1⟩, h1, h2⟩ := Option.bind_eq_some_iff.mp hf
  cases d with
  | ref n =>
    have h2' : (match s1[n]? with | some (.lst ds) => some (ds, (fun s : Store => s[n]? = some (.lst ds)), s1) | _ => none) = some (ds, P, st') := h2
    split at h2'
    · rename_i es hst
      cases h2'
      refine ⟨r, env, st, _, _, he, hs, h1, fun v r1 H1 e1 q1 p1 => ?_⟩
      obtain ⟨a, rfl, ha⟩ := p1.refI
      obtain ⟨av, xs, hx, l⟩ := q1.ob _ a _ ha hst
      refine ⟨a, rfl, ⟨xs, .of hx⟩, q _ r1 H1 e1 q1 fun r2 H2 st2 e2 s2 hP => ?_⟩
      obtain ⟨av2, ys, hy, l2⟩ := s2.ob _ a _ (e2.get ha) hP
      have sq : SqL X.K H2 a ys := .of hy
      refine ⟨fun i hi => ⟨ys, sq, by rw [l2.len]; exact hi⟩, fun i d hd => ?_⟩
      obtain ⟨v, hv, rv⟩ := l2.get hd
      exact ⟨⟨ys, v, sq, hv⟩, fun x H3 ⟨e, y⟩ => by
        subst e
        have := y ys sq
        rw [hv] at this
        cases this
        exact ⟨r2, .refl _ _, s2, rv⟩⟩
    · cases h2'
  | _ => cases h2
end
/-! the walk of a list that stands: as of any other -/
theorem loopCG_map {P : Store → Prop} {is : List Nat} {bd : FB} {f : F} {g : D → D} {env : Lo} {st : Store} (hP : P st) : ∀ {ds : List D}, (∀ d ∈ ds, ∃ vs, bd d = some vs ∧ f (setL is vs env) st = some (g d, st)) → loopCG P is bd tTrue f ds env st = some (ds.map g, st)
  | [], _ => by unfold loopCG; rw [if_pos (okP_t hP)]; rfl
  | d :: ds, h => by
    obtain ⟨ws, hb, hf⟩ := h d List.mem_cons_self
    have := loopCG_map hP (ds := ds) fun d hd => h d (List.mem_cons_of_mem _ hd)
    simp [loopCG, hb, tTrue, hf, this, okP_t hP]
end DL
/-! enumerate over a tuple, over a list. -/
namespace DL
open PySem PySem.Spec PyProof.Rows L2 TL
theorem enum_new1 {v : Value} {o : Obj} {HH : Heap → Prop} (B : Begins v o HH) : Meets (Builtin.«enumerate.__new__» ⟨[.type "enumerate", v], []⟩) (fun _ R s => HH s.heap ∧ R (.ok (.ret (.ref (s.heap.push o).objs.size))) { s with heap := (s.heap.push o).push { cls := .type "enumerate", data := .fields #[.none, .bool false, .ref s.heap.objs.size, rawInt 0, .none, .none] } }) :=
  .of_wp fun prog w A R s h => by
  obtain ⟨hp, g, d, tk, os⟩ := s
  obtain ⟨hH, hR⟩ := h
  have sb := sub_enumerate
  have it1 : ∀ {A' : Around} {E' : Value → Shared → Prop} {Q' : Value → Shared → Prop}, Q' (.ref hp.objs.size) ⟨hp.push o, g, d, tk, os⟩ → wpAny (model prog w) A' (pyIter v) Q' E' ⟨hp, g, d, tk, os⟩ := fun z => B.iter prog w _ _ ⟨hp, g, d, tk, os⟩ _ hH z
  wp_walk using it1
  refine wpAny_stack_any fun stk => wpAny_pure ?_
  split
  · rename_i c _ _ _ _ _
    cases (c == Value.type "enumerate") <;> (wp_walk using it1; exact ⟨_, rfl, hR⟩)
  · wp_walk using it1
    exact ⟨_, rfl, hR⟩
theorem call_enum1 {prog : Program} {w : World} {A : Around} {E : Value → Shared → Prop} {s : Shared} {v : Value} {o : Obj} {HH : Heap → Prop} {Q : Value → Shared → Prop} (B : Begins v o HH) (hH : HH s.heap)
    (hQ : ∀ h', IsEnum h' (s.heap.objs.size + 1) s.heap.objs.size 0 .none → h'.get? s.heap.objs.size = some o → (∀ b ob, s.heap.get? b = some ob → h'.get? b = some ob) → Q (.ref (s.heap.objs.size + 1)) { s with heap := h' }) : wpAny (model prog w) A (call (.type "enumerate") [v]) Q E s := by
  have sz : (s.heap.push o).objs.size = s.heap.objs.size + 1 := Heap.size_push ..
  have en : IsEnum ((s.heap.push o).push { cls := .type "enumerate", data := .fields #[.none, .bool false, .ref s.heap.objs.size, rawInt 0, .none, .none] }) (s.heap.objs.size + 1) s.heap.objs.size 0 .none := by
    have z := Heap.get?_push_size (s.heap.push o) (o := { cls := .type "enumerate", data := .fields #[.none, .bool false, .ref s.heap.objs.size, rawInt 0, .none, .none] }) rfl
    rw [sz] at z
    exact z
  refine callType_new F.called_enumerate (by decide) (F.typeCall_enumerate_1 _) (F.newCall_enumerate_1 _) (fun ob => F.args_object_init_2 ob _) F.entry_enumerate_new (enum_new1 B) ⟨hH, ?_⟩
  show _ ∧ _
  rw [sz]
  exact ⟨⟨_, en, rfl⟩, hQ _ en (Heap.get?_push_of_some _ (Heap.get?_push_size _ B.free)) fun b ob z => Heap.get?_push_of_some _ (Heap.get?_push_of_some _ z)⟩
/-- the tuple at a, its items behind their numbers -/
def IteT (K : PySem.W.Frag) (a : Addr) : It :=
  ⟨fun k H => ∃ (xs : List V) (x : V), SqT K H a xs ∧ xs[k]? = some x, fun k H v H' => ∃ T x, v = .ref T ∧ H T = none ∧ H' = upd H T (.tup [.int (k : Nat), x]) ∧ ∀ xs, SqT K H a xs → xs[k]? = some x, fun k H => ∃ xs : List V, SqT K H a xs ∧ xs.length ≤ k⟩
theorem apart_ti {h : Heap} {a it : Addr} {its : Array Value} {i : Nat} (p : h.IsTuple a its) (q : h.IsTupleIter it a i) : a ≠ it := fun z => by
  obtain ⟨o, e1, c1, n, d1⟩ := p
  obtain ⟨o2, e2, c2, d2⟩ := q
  rw [z, e2] at e1
  cases e1
  rw [d1] at d2
  cases d2
theorem apart_en {h : Heap} {a e it : Addr} {its : Array Value} {i : Int} {old : Value} (p : h.IsTuple a its) (q : IsEnum h e it i old) : e ≠ a := fun z => by
  obtain ⟨o, e1, c1, n, d1⟩ := p
  have q' : h.get? e = _ := q
  rw [z, e1] at q'
  cases q'
  cases d1
theorem turn_enumT {P : Program} {w : World} {K : PySem.W.Frag} {elts : List Expr} {kk : Nat} {tpos : Pos} (a e it : Addr) :
    Turn P w K (.Tuple elts kk tpos) (IteT K a) [e, it] e (fun i h => (∃ old, IsEnum h e it ((i : Nat) : Int) old) ∧ h.IsTupleIter it a i ∧ e ≠ it) where
  mem := List.mem_cons_self
  obj := fun i h ⟨⟨old, en⟩, ⟨o, ho, hc, hd⟩, _⟩ b hb => by
    rcases List.mem_cons.mp hb with z | z
    · exact ⟨_, by rw [z]; exact en, fun v q => by cases (show Data.fields _ = Data.cell v from q)⟩
    · exact ⟨o, by rw [List.mem_singleton.mp z]; exact ho, fun v q => by rw [hd] at q; cases q⟩
  keep := fun i h h' ⟨⟨old, en⟩, ti, ne⟩ k => ⟨⟨old, k e List.mem_cons_self _ en⟩, ti.at fun o q => k it (List.mem_cons_of_mem _ List.mem_cons_self) o q, ne⟩
  item := by
    intro X hP hw hK hc i pins s σ H E I hf ⟨⟨old, en⟩, ti, ne⟩ ⟨xs, x, sq, hx⟩
    subst hP hw hK
    obtain ⟨its, rv, p, hz⟩ := I.tuple sq
    have p' : s.heap.IsTuple a its.toArray := p
    obtain ⟨u, hu, ru⟩ := rv.get hx
    have le : e < s.heap.objs.size := Heap.lt_size en
    have li : it < s.heap.objs.size := by
      obtain ⟨_, q, _⟩ := ti
      exact Heap.lt_size q
    have hlt : i < its.toArray.size := by
      have := (List.getElem?_eq_some_iff.mp hu).1
      simpa using this
    refine wpAny_pyNext_enum_itemD (Draws.tuple (A := X.A.in1) (I.ok.hd hc) it a (apart_ti p' ti) its.toArray) en ⟨ti, p'⟩ hlt ne (fun hm => ?_) fun y h' tk hy ho st' hT hsz hk => ?_
    · rcases List.mem_cons.mp hm with z | z
      · exact ne z
      · exact apart_en p' en (List.mem_singleton.mp z)
    · have ey : y = u := by
        have h2 : its[i]? = some y := by simpa using hy
        rw [hu] at h2
        exact (Option.some.inj h2).symm
      subst ey
      refine ⟨_, rfl, wpAny_letOwnedTupleGo_enum (s := { s with heap := h', toks := tk + 1 }) ho fun h'' en' sb => ?_⟩
      have tup : h''.get? s.heap.objs.size = some { cls := .type "tuple", data := .seq #[.int i tk, y] } := (sb.2 _ (Nat.ne_of_gt le)).trans hT
      have ok2 : ObjOk X.prog X.w (upd H s.heap.objs.size (.tup [.int (i : Nat), x])) h'' s.heap.objs.size (.tup [.int (i : Nat), x]) :=
        ⟨by show 2 ≤ sizeLine; decide, [.int i tk, y], .cons ⟨tk, rfl⟩ (.cons ru .nil), ⟨_, tup, rfl, _, rfl⟩⟩
      have I1 : Inv X pins σ (upd H s.heap.objs.size (.tup [.int (i : Nat), x])) { s with heap := h'', toks := tk + 1 } :=
        I.turnedNew (ch := [e, it]) (fun b ob hb q => (sb.2 b (fun z => hb (by rw [z]; exact List.mem_cons_self))).trans (hk b ob (fun z => hb (by rw [z]; exact List.mem_cons_self)) (fun z => hb (by rw [z]; exact List.mem_cons_of_mem _ List.mem_cons_self)) q)) hf (Nat.le_refl _) ok2
      have en2 : IsEnum h'' e it (((i + 1 : Nat) : Int)) y := by
        rw [show ((i + 1 : Nat) : Int) = (i : Int) + 1 by omega]
        exact en'
      refine ⟨.ref s.heap.objs.size, _, I1, rfl, ⟨_, x, rfl, I.hok.fresh (Nat.le_refl _), rfl, fun ys hys => by rw [I.tuple_inj hys sq]; exact hx⟩, ⟨⟨y, en2⟩, st'.1.at fun o q => (sb.2 it (Ne.symm ne)).trans q, ne⟩, fun b hb => ?_⟩
      have lb : b < s.heap.objs.size := by
        rcases List.mem_cons.mp hb with z | z
        · rw [z]; exact le
        · rw [List.mem_singleton.mp z]; exact li
      rw [upd_ne (Nat.ne_of_lt lb)]
      exact (hf b hb).1
  done := by
    intro X hP hw hK hc i pins s σ H E I hf ⟨⟨old, en⟩, ti, ne⟩ ⟨xs, sq, hx⟩
    subst hP hw hK
    obtain ⟨its, rv, p, hz⟩ := I.tuple sq
    have p' : s.heap.IsTuple a its.toArray := p
    obtain ⟨f0, f1, f2, f3, f4, f5⟩ := hf it (List.mem_cons_of_mem _ List.mem_cons_self)
    have hl := rv.length
    unfold pyNext
    refine wpAny_bind (wpAny_attempt (wpAny_callSpecial?_slot (name := Str.ofString "__next__") ⟨_, en, rfl⟩ F.slot_enumerate_next (wpAny_call_entry F.slot_enumerate_next ⟨_, en, rfl⟩ F.entry_enumerate_next ?_ (F.args_enumerate_next_1 _))))
    show wpAny _ _ (field (.ref e) 2 >>= _) _ _ _
    refine wpAny_bind (wpAny_field en rfl (x := .ref it) rfl ?_)
    refine wpAny_bind (wpAny_nextOf_tuple_end (I.ok.hd hc) ti p' (by simp; omega) fun h' x eb ⟨o, ho, hcl⟩ => ?_)
    refine wpAny_bind (wpAny_isInstance (T := "StopIteration") (b := true) ⟨o, ho, hcl⟩ isSubtype_stop ?_)
    exact wpAny_pure ⟨rfl, I.turned (t' := s.toks) (fun b ob hb q => eb b ob hb q) f0 f1 f3 f4 f5⟩
  self := fun A i s Q E ⟨⟨_, en⟩, _⟩ h => wpAny_pyIter_enum en h
section
variable {X : Cx}
theorem pi_enumT {e : Expr} {ta : TA} {p pos tpos : Pos} {elts : List Expr} {kk : Nat} (hg : Gl X "enumerate") (hm : X.mg "enumerate" = none) (ha : PA X [e] ta) (hs : starEach [e] X.env = [(false, eval e X.env)] := by rfl) :
    PI X (.Tuple elts kk tpos) (.Call (.Name "enumerate" p) [e] [] pos) (fun σ H R => ta σ H fun vs H1 => ∃ a xs, vs = [.ref a] ∧ SqT X.K H1 a xs ∧ R (IteT X.K a) H1) := by
  refine ⟨fun pins s σ H R I h => Call_ (ld_blt I hg hm boot_enumerate (PyProof.Rows.callWith_type1 (thn (ha.run pos pins s σ H _ I h) fun us s1 ⟨vs, H1, I1, r1, a, xs, ex, sq, q⟩ => ?_) hs rfl))⟩
  subst ex
  obtain ⟨u, rfl, ru⟩ := vals1 r1
  cases ru
  obtain ⟨its, rv, pt, hz⟩ := I1.tuple sq
  refine call_enum1 (begins_tuple a its.toArray) (show s1.heap.IsTuple a its.toArray from pt) fun h' en hti hk => wpAny_pyIter_enum en ?_
  have I2 : Inv X pins σ H1 { s1 with heap := h' } := I1.kept (t' := s1.toks) hk
  refine ⟨s1.heap.objs.size + 1, [s1.heap.objs.size + 1, s1.heap.objs.size], _, _, H1, rfl, I2, turn_enumT a (s1.heap.objs.size + 1) s1.heap.objs.size, ⟨⟨.none, en⟩, ⟨_, hti, rfl, rfl⟩, Nat.succ_ne_self _⟩, fun b hb => ?_, q⟩
  have lb : s1.heap.objs.size ≤ b := by
    rcases List.mem_cons.mp hb with z | z
    · rw [z]; exact Nat.le_add_right _ _
    · rw [List.mem_singleton.mp z]; exact Nat.le_refl _
  exact I1.fpOk lb (I1.hok.fresh lb)
/-- i, x of enumerate(t) -/
theorem pairUp_get : ∀ {ds : List D} {n i : Nat} {d : D}, (pairUp n ds)[i]? = some d → ∃ x, ds[i]? = some x ∧ d = .tup [.int ((n + i : Nat) : Int), x]
  | [], n, i, d, h => by simp [pairUp] at h
  | a :: as, n, 0, d, h => ⟨a, rfl, (Option.some.inj (show some (D.tup [.int (n : Int), a]) = some d from h)).symm⟩
  | a :: as, n, i + 1, d, h => by
    obtain ⟨x, h1, h2⟩ := pairUp_get (ds := as) (n := n + 1) (i := i) (show (pairUp (n + 1) as)[i]? = some d from h)
    exact ⟨x, h1, by rw [h2]; congr 4; omega⟩
theorem pairUp_len : ∀ (ds : List D) (n : Nat), (pairUp n ds).length = ds.length
  | [], _ => rfl
  | _ :: ds, n => congrArg Nat.succ (pairUp_len ds (n + 1))
def asEnT : List D → Option (List D) | [.tup ds] => some (pairUp 0 ds) | _ => none
theorem di_enumT {e : Expr} {fa : FA} {p pos tpos : Pos} {elts : List Expr} {kk : Nat} (hg : Gl X "enumerate") (hm : X.mg "enumerate" = none) (ha : DA X [e] fa) (hs : starEach [e] X.env = [(false, eval e X.env)] := by rfl) :
    DIR X (RepI X.K) (.Tuple elts kk tpos) (.Call (.Name "enumerate" p) [e] [] pos) (iOfA asEnT fa) := weakI (pi_enumT hg hm ha hs) fun σ H R hh => by
  obtain ⟨r, env, st, ds, st', he, hs, hf, q⟩ := hh
  obtain ⟨xs, h1, h2⟩ := iOfA_some hf
  refine ⟨r, env, st, xs, st', he, hs, h1, fun v r1 H1 e1 q1 p1 => ?_⟩
  unfold asEnT at h2
  split at h2
  · rename_i as
    cases h2
    obtain ⟨u, rfl, pa⟩ := lst1 p1
    obtain ⟨a', us, rfl, sa, la⟩ := pa.sqT
    refine ⟨a', us, rfl, sa, q _ r1 H1 e1 q1 fun r2 H2 st2 e2 s2 => ?_⟩
    obtain ⟨c, us2, ec, sa2, la2⟩ := (pa.ext e2).sqT
    cases ec
    refine ⟨fun i hi => ⟨us2, sa2, by rw [pairUp_len] at hi; rw [la2.len]; exact hi⟩, fun i d hd => ?_⟩
    obtain ⟨x, hx, ed⟩ := pairUp_get hd
    obtain ⟨vx, hvx, rx⟩ := la2.get hx
    refine ⟨⟨us2, vx, sa2, hvx⟩, fun v H3 ⟨T, x', ev, hT, eH, w1⟩ => ?_⟩
    subst ev
    subst eH
    have ex : x' = vx := by
      have := w1 us2 sa2
      rw [hvx] at this
      exact (Option.some.inj this).symm
    subst ex
    have sm : Same H2 (upd H2 T (.tup [.int (i : Nat), x'])) := same_alloc hT
    exact ⟨r2, s2.ext sm, s2.same sm, T, [.int (i : Nat), x'], [.int (i : Nat), x], rfl, by rw [ed, Nat.zero_add], .inl (.inl upd_same), .cons (.int _) (.cons (rx.ext (s2.ext sm)) .nil)⟩
  · cases h2
end
end DL
/-! The order of nested tuples: the first place that differs decides, none behind it is asked. -/
namespace DL
open PySem PySem.Spec PyProof.Rows L2 TL
section
open PySem.AutoSeq1 (wpAny_loadPart')
open PySem.MeetsSeq PySem.MeetsSeq2 PySem.MeetsSeq3 PySem.SeqAt
/-- two rows in order, place by place -/
inductive LexAt (A : Around) (s : Shared) : List Value → List Value → Bool → Prop
  | nil2 : LexAt A s [] [] false
  | nilL {u : Value} {us : List Value} : LexAt A s [] (u :: us) true
  | nilR {v : Value} {vs : List Value} : LexAt A s (v :: vs) [] false
  | diff {v u : Value} {vs us : List Value} {k : Bool} : EqAt A s v u false → RcLt A s v u k → LexAt A s (v :: vs) (u :: us) k
  | same {v u : Value} {vs us : List Value} {k : Bool} : EqAt A s v u true → LexAt A s vs us k → LexAt A s (v :: vs) (u :: us) k
theorem tup_lex {p q : Addr} {xs ys : Array Value} {n1 n2 : Nat} {d1 d2 : Option Addr} {t1 t2 : Array (Option Value)} {k : Bool} : Meets (Builtin.«tuple.__lt__» ⟨[.ref p, .ref q], []⟩) (fun A R s =>
    s.heap.get? p = some ⟨.type "tuple", d1, .seq xs n1, t1⟩ ∧ s.heap.get? q = some ⟨.type "tuple", d2, .seq ys n2, t2⟩ ∧ LexAt A.in1 s xs.toList ys.toList k ∧ R (.ok (.ret (.bool k))) s) := .of_wp fun P w A R s hh => by
  obtain ⟨hp, g, d, tk, os⟩ := s
  obtain ⟨g1, g2, lex, done⟩ := hh
  have sub := AutoSeq1.sub_tuple_tuple
  wp_walk using wpAny_loadPart' g1, wpAny_loadPart' g2, wpAny_forIn_list _ (fun todo acc now => acc.1 = none ∧ now = ⟨hp, g, d, tk, os⟩ ∧ ∃ (i : Nat) (vs us : List Value), todo = vs.zip us ∧ xs.size = i + vs.length ∧ ys.size = i + us.length ∧ LexAt A.in1 ⟨hp, g, d, tk, os⟩ vs us k) _
  case turn =>
    rintro ⟨y, x⟩ todo acc now ⟨e1, rfl, i, vs, us, hz, l1, l2, lx⟩
    cases lx with
    | nil2 => cases hz
    | nilL => cases hz
    | nilR => cases hz
    | diff de dr =>
      injection hz with h1 h2
      injection h1 with h3 h4
      subst h3 h4
      refine wpAny_bind (de P w _ _ ?_)
      have ask := dr P w
      wp_walk using ask
      exact ⟨_, rfl, done⟩
    | same se lr =>
      injection hz with h1 h2
      injection h1 with h3 h4
      subst h3 h4
      refine wpAny_bind (se P w _ _ ?_)
      wp_walk
      exact ⟨rfl, rfl, i + 1, _, _, h2, by rw [l1, List.length_cons]; omega, by rw [l2, List.length_cons]; omega, lr⟩
  case fin =>
    rintro ⟨b1, b2⟩ now ⟨e1, rfl, i, vs, us, hz, l1, l2, lx⟩
    simp only at e1
    subst e1
    have hk : k = decide (xs.size < ys.size) := by
      cases lx with
      | nil2 => simp only [List.length_nil] at l1 l2; rw [l1, l2]; simp
      | nilL => simp only [List.length_nil, List.length_cons] at l1 l2; rw [l1, l2]; simp
      | nilR => simp only [List.length_nil, List.length_cons] at l1 l2; rw [l1, l2]; simp
      | diff de dr => cases hz
      | same se lr => cases hz
    wp_walk
    exact ⟨_, rfl, by simpa [Builtin.Tuple.tupleCompareSizes, ← hk] using done⟩
  case h =>
    exact ⟨rfl, rfl, 0, xs.toList, ys.toList, rfl, by simp, by simp, lex⟩
end
/-! the order of data -/
mutual
def pyLt : PyData → PyData → Option Bool
  | .int a, .int b => some (decide (a < b))
  | .str a, .str b => some (decide (a.cps.toList < b.cps.toList))
  | .tuple xs, .tuple ys => pyLtL xs ys
  | _, _ => none
def pyLtL : List PyData → List PyData → Option Bool
  | [], [] => some false
  | [], _ :: _ => some true
  | _ :: _, [] => some false
  | x :: xs, y :: ys => if PyData.eqv x y = true then pyLtL xs ys else pyLt x y
end
theorem pyLt_tup (xs ys : List PyData) : pyLt (.tuple xs) (.tuple ys) = pyLtL xs ys := by rw [pyLt]
theorem pyLtL_cons (x y : PyData) (xs ys : List PyData) : pyLtL (x :: xs) (y :: ys) = if PyData.eqv x y = true then pyLtL xs ys else pyLt x y := by rw [pyLtL]
/-- what may be compared -/
inductive PyLt : PyData → PyData → Bool → Prop
  | int (a b : Int) : PyLt (.int a) (.int b) (decide (a < b))
  | str (a b : Str) : PyLt (.str a) (.str b) (decide (a.cps.toList < b.cps.toList))
  | tup {xs ys : List PyData} {k : Bool} : pyLtL xs ys = some k → PyLt (.tuple xs) (.tuple ys) k
theorem pyLt_inv {dx dy : PyData} {k : Bool} (e : pyLt dx dy = some k) : PyLt dx dy k := by
  unfold pyLt at e
  split at e
  · cases e; exact .int _ _
  · cases e; exact .str _ _
  · exact .tup e
  · cases e
theorem lex_of (A : Around) (s : Shared) (ok : PyData → PyData → Prop) (hlt : ∀ (x y : PyData) (v u : Value) (as bs : List Addr) (k : Bool), ok x y → Reads s.heap v x as → Reads s.heap u y bs → pyLt x y = some k → SeqAt.RcLt A s v u k)
    (heq : ∀ (x y : PyData) (v u : Value) (as bs : List Addr), ok x y → Reads s.heap v x as → Reads s.heap u y bs → SeqAt.EqAt A s v u (PyData.eqv x y)) :
    ∀ (xs ys : List PyData) (vs us : List Value) (as bs : List Addr) (k : Bool), (∀ x ∈ xs, ∀ y ∈ ys, ok x y) → ReadsAll s.heap vs xs as → ReadsAll s.heap us ys bs → pyLtL xs ys = some k → LexAt A s vs us k := by
  intro xs
  induction xs with
  | nil =>
    intro ys vs us as bs k _ r1 r2 e
    cases r1
    cases ys with
    | nil =>
      cases r2
      rw [pyLtL] at e
      cases e
      exact .nil2
    | cons y ys =>
      cases r2
      rw [pyLtL] at e
      cases e
      exact .nilL
  | cons x xs ih =>
    intro ys vs us as bs k o r1 r2 e
    cases r1 with
    | cons a1 b1 =>
    cases ys with
    | nil =>
      cases r2
      rw [pyLtL] at e
      cases e
      exact .nilR
    | cons y ys =>
      cases r2 with
      | cons a2 b2 =>
      rw [pyLtL_cons] at e
      have oxy := o x List.mem_cons_self y List.mem_cons_self
      have eq := heq x y _ _ _ _ oxy a1 a2
      by_cases z : PyData.eqv x y = true
      · rw [if_pos z] at e
        rw [z] at eq
        exact .same eq (ih ys _ _ _ _ k (fun x hx y hy => o x (List.mem_cons_of_mem _ hx) y (List.mem_cons_of_mem _ hy)) b1 b2 e)
      · rw [if_neg z] at e
        simp only [Bool.not_eq_true] at z
        rw [z] at eq
        exact .diff eq (hlt x y _ _ _ _ k oxy a1 a2 e)
theorem canLay_mem : ∀ {xs : List PyData}, PyData.canLayAll0 xs = true → ∀ x ∈ xs, x.canLay0 = true
  | [], _, x, h => by cases h
  | y :: ys, c, x, h => by
    rw [PyData.canLayAll0] at c
    obtain ⟨c1, c2⟩ := Bool.and_eq_true_iff.mp c
    rcases List.mem_cons.mp h with e | h
    · rw [e]; exact c1
    · exact canLay_mem c2 x h
theorem depth_mem : ∀ {xs : List PyData}, ∀ x ∈ xs, x.depth ≤ PyData.depthAll xs
  | [], x, h => by cases h
  | y :: ys, x, h => by
    rw [PyData.depthAll]
    rcases List.mem_cons.mp h with e | h
    · rw [e]; exact Nat.le_max_left _ _
    · exact Nat.le_trans (depth_mem x h) (Nat.le_max_right _ _)
theorem rcLt_n : ∀ (n : Nat) (dx dy : PyData) (A : Around) (s : Shared) (v u : Value) (as bs : List Addr) (k : Bool), dx.depth ≤ n → Reads s.heap v dx as → Reads s.heap u dy bs → dx.canLay0 = true → dy.canLay0 = true → A.units + n < cLine → pyLt dx dy = some k → SeqAt.RcLt A s v u k := by
  intro n
  induction n with
  | zero =>
    intro dx dy A s v u as bs k hd r1 r2 c1 c2 hu e
    cases pyLt_inv e with
    | int a b =>
      cases r1
      cases r2
      exact fun _ _ _ _ h => PyProof.Rows.lt_int h
    | str a b =>
      cases r1
      cases r2
      exact fun _ _ _ _ h => PySem.P.lt_str h
    | tup e2 =>
      rw [PyData.depth] at hd
      exact absurd hd (by omega)
  | succ n ih =>
    intro dx dy A s v u as bs k hd r1 r2 c1 c2 hu e
    cases pyLt_inv e with
    | int a b =>
      cases r1
      cases r2
      exact fun _ _ _ _ h => PyProof.Rows.lt_int h
    | str a b =>
      cases r1
      cases r2
      exact fun _ _ _ _ h => PySem.P.lt_str h
    | tup e2 =>
      rename_i xs ys
      rw [PyData.depth] at hd
      rw [PyData.canLay0] at c1 c2
      cases r1 with
      | tuple ho hc hdd ra =>
      cases r2 with
      | tuple ho2 hc2 hd2 rb =>
      rename_i p o vv n1 q o2 vv2 n2
      obtain ⟨cls, dd, data, sl⟩ := o
      obtain ⟨cls2, dd2, data2, sl2⟩ := o2
      simp only at hc hdd hc2 hd2
      subst hc hdd hc2 hd2
      have hu' : A.in1.units + n < cLine := by
        show A.units + 1 + n < cLine
        omega
      have lx := lex_of A.in1 s (fun x y => x ∈ xs ∧ y ∈ ys) (fun x y v u as bs k o a1 a2 e => ih x y A.in1 s v u as bs k (Nat.le_trans (depth_mem x o.1) (by omega)) a1 a2 (canLay_mem c1 x o.1) (canLay_mem c2 y o.2) hu' e)
        (fun x y v u as bs o a1 a2 => SeqAt.eqAt_reads x y A.in1 s v u as bs a1 a2 (canLay_mem c1 x o.1) (canLay_mem c2 y o.2) (by
          have h1 := depth_mem x o.1
          have h2 := Nat.min_le_left x.depth y.depth
          omega)) xs ys _ _ _ _ k (fun x hx y hy => ⟨hx, hy⟩) ra rb e2
      exact fun P w E Q h => richCompare_meets_room (op := .Lt) ⟨_, ho, rfl⟩ ⟨_, ho2, rfl⟩ PySem.F.slot_tuple_lt PySem.F.entry_tuple_lt (PySem.F.args_tuple_lt_2 _ _) tup_lex ⟨ho, ho2, lx, ⟨(fun x => nomatch x), h⟩⟩ (by omega)
theorem rcLt_py (dx dy : PyData) (A : Around) (s : Shared) (v u : Value) (as bs : List Addr) (k : Bool) (r1 : Reads s.heap v dx as) (r2 : Reads s.heap u dy bs) (c1 : dx.canLay0 = true) (c2 : dy.canLay0 = true) (hu : A.units + dx.depth < cLine) (e : pyLt dx dy = some k) : SeqAt.RcLt A s v u k :=
  rcLt_n dx.depth dx dy A s v u as bs k (Nat.le_refl _) r1 r2 c1 c2 hu e
section
variable {X : Cx}
/-- a < b of nested data -/
def ltN : D → D → Option D := fun a b => (toPy a).bind fun p => (toPy b).bind fun q => if SeqAt.shaped p = true ∧ SeqAt.shaped q = true then (pyLt p q).map .bl else none
theorem op_ltN (hu : X.A.units + 64 < cLine) : OpR X (compareOp .Lt) (fun x y H Q => ∃ p q k, Dp X.K H x p ∧ Dp X.K H y q ∧ SeqAt.shaped p = true ∧ SeqAt.shaped q = true ∧ pyLt p q = some k ∧ Q (.bl k) H) := by
  intro pins s σ H x y v u Q I rx ry h
  obtain ⟨p, q, k, hp, hq, sp, sq, hk, hQ⟩ := h
  obtain ⟨as, r1⟩ := Dp.reads I p x v hp rx
  obtain ⟨bs, r2⟩ := Dp.reads I q y u hq ry
  have dp := SeqAt.depth_of_shaped sp
  exact rcLt_py p q X.A s v u as bs k r1 r2 (SeqAt.canLay_of_shaped sp) (SeqAt.canLay_of_shaped sq) (by omega) hk X.prog X.w _ _ ⟨.bl k, H, I, rfl, hQ⟩
theorem ok_ltN {k : Nat} (g : GX X k) : OpOk X (compareOp .Lt) ltN := ⟨_, op_ltN (by have := g.room.un; omega), fun rho H x y a b d st Q si ra rb e q => by
  obtain ⟨p, h1, h2⟩ := Option.bind_eq_some_iff.mp e
  obtain ⟨p2, h3, h4⟩ := Option.bind_eq_some_iff.mp h2
  by_cases z : SeqAt.shaped p = true ∧ SeqAt.shaped p2 = true
  · rw [if_pos z] at h4
    obtain ⟨k, h5, h6⟩ := Option.map_eq_some_iff.mp h4
    subst h6
    exact ⟨p, p2, k, ra.dp h1, rb.dp h3, z.1, z.2, h5, q _ H (fun _ _ h => h) (.bl k)⟩
  · rw [if_neg z] at h4
    cases h4⟩
/-! bool - bool -/
theorem sub_bb (a b : Bool) : Gives (Builtin.«int.__sub__» ⟨[.bool a, .bool b], []⟩) (.int ((if a = true then (1 : Int) else 0) - if b = true then (1 : Int) else 0)) :=
  .of_wp fun M A E s Q h => by
  obtain ⟨hp, g, d, tk, os⟩ := s
  wp_walk
  exact ⟨_, rfl, h⟩
def subB : D → D → Option D := fun a b => match a, b with | .bl x, .bl y => some (.int ((if x = true then (1 : Int) else 0) - if y = true then (1 : Int) else 0)) | _, _ => none
theorem op_subB : OpR X (binaryOp .Sub) (fun x y H Q => ∃ a b, x = .bl a ∧ y = .bl b ∧ Q (.int ((if a = true then (1 : Int) else 0) - if b = true then (1 : Int) else 0)) H) := by
  intro pins s σ H x y v u Q I rx ry h
  obtain ⟨a, b, rfl, rfl, q⟩ := h
  cases rx
  cases ry
  exact binaryOp_gives (op := .Sub) (T := "bool") rfl rfl F.fills_bool_sub F.slot_bool_sub F.entry_int_sub (F.args_int_sub_2 _ _) (sub_bb a b) trivial ⟨.int _, H, I.tok _, ⟨_, rfl⟩, q⟩
theorem ok_subB : OpOk X (binaryOp .Sub) subB := ⟨_, op_subB, fun rho H x y a b d st Q si ra rb e q => by
  unfold subB at e
  split at e
  · cases e
    cases ra
    cases rb
    exact ⟨_, _, rfl, rfl, q _ H (fun _ _ h => h) (.int _)⟩
  · cases e⟩
/-! ==, != where a list of the store stands on a side -/
def pyOf (d : D) (st : Store) : Option PyData := match d with
  | .ref n => (match st[n]? with | some (.lst ds) => (toPyL ds).map .list | _ => none)
  | d => toPy d
theorem pyOf_dp {r : Rf} {H : Hp} {v : V} {d : D} {st : Store} {p : PyData} (h : Rep X.K r H v d) (si : Sim X.K r H st) (e : pyOf d st = some p) : Dp X.K H v p := by
  cases d with
  | ref n =>
    have e' : (match st[n]? with | some (.lst ds) => (toPyL ds).map PyData.list | _ => none) = some p := e
    split at e'
    · rename_i ds hst
      obtain ⟨a, rfl, ha⟩ := h.refI
      obtain ⟨ps, h1, h2⟩ := Option.map_eq_some_iff.mp e'
      subst h2
      obtain ⟨av, xs, hx, l⟩ := si.ob _ a _ ha hst
      exact .lst (.of hx) (RepL.dp l h1)
    · cases e'
  | _ => exact h.dp e
def fEqR (neg : Bool) (fa fb : F) : F := fun env st => (fa env st).bind fun p => (fb env p.2).bind fun q => (pyOf p.1 q.2).bind fun x => (pyOf q.1 q.2).bind fun y => if SeqAt.shaped x = true ∧ SeqAt.shaped y = true then some (.bl (if neg = true then !PyData.eqv x y else PyData.eqv x y), q.2) else none
theorem eqR_reads {neg : Bool} {fa fb : F} {R : V → V → Hp → VK → Prop} (hR : ∀ u v H Q p q, Dp X.K H u p → Dp X.K H v q → SeqAt.shaped p = true → SeqAt.shaped q = true → Q (.bl (if neg = true then !PyData.eqv p q else PyData.eqv p q)) H → R u v H Q)
    (σ : L2.St) (H : Hp) (Q : VK) (h : tD X.K (fEqR neg fa fb) σ H Q) : tOp R (tD X.K fa) (tD X.K fb) σ H Q := by
  obtain ⟨r, env, st, d, st', he, hs, hf, q⟩ := h
  obtain ⟨⟨x, s1⟩, h1, hf1⟩ := Option.bind_eq_some_iff.mp hf
  obtain ⟨⟨y, s2⟩, h2, hf2⟩ := Option.bind_eq_some_iff.mp hf1
  obtain ⟨px, h3, hf3⟩ := Option.bind_eq_some_iff.mp hf2
  obtain ⟨py, h4, hf4⟩ := Option.bind_eq_some_iff.mp hf3
  by_cases z : SeqAt.shaped px = true ∧ SeqAt.shaped py = true
  · rw [if_pos z] at hf4
    cases hf4
    exact two he hs h1 h2 fun u v r' H' e1 q1 pu pv => hR u v H' Q px py (pyOf_dp pu q1 h3) (pyOf_dp pv q1 h4) z.1 z.2 (q _ r' H' e1 q1 (.bl _))
  · rw [if_neg z] at hf4
    cases hf4
theorem de_eqR {a b : Expr} {fa fb : F} {pos : Pos} {k : Nat} (g : GX X k) (ha : DE X a fa) (hb : DE X b fb) (hm : behindInMarks .Eq b = false := by with_unfolding_all rfl) : DE X (.Compare a [.Eq] [b] pos) (fEqR false fa fb) :=
  weakE (pe_cmpR (op_eqD g.room.units) ha hb hm) fun σ H Q h => eqR_reads (fun u v H Q p q hp hq sp sq hQ => ⟨p, q, hp, hq, sp, sq, hQ⟩) σ H Q h
theorem de_neR {a b : Expr} {fa fb : F} {pos : Pos} {k : Nat} (g : GX X k) (ha : DE X a fa) (hb : DE X b fb) (hm : behindInMarks .NotEq b = false := by with_unfolding_all rfl) : DE X (.Compare a [.NotEq] [b] pos) (fEqR true fa fb) :=
  weakE (pe_cmpR (op_neD g.room.units) ha hb hm) fun σ H Q h => eqR_reads (fun u v H Q p q hp hq sp sq hQ => ⟨p, q, hp, hq, sp, sq, hQ⟩) σ H Q h
theorem dt_eqR {a b : Expr} {fa fb : F} {pos : Pos} {k : Nat} (g : GX X k) (ha : DE X a fa) (hb : DE X b fb) (hm : behindInMarks .Eq b = false := by with_unfolding_all rfl) : DT X (.Compare a [.Eq] [b] pos) (fTest (fEqR false fa fb)) :=
  weakT (pt_cmpR (op_eqD g.room.units) ha hb hm) fun σ H Q h => eqR_reads (fun u v H Q p q hp hq sp sq hQ => ⟨p, q, hp, hq, sp, sq, hQ⟩) σ H (fun x H1 => ∃ c, x = .bl c ∧ Q c H1) (testReads σ H Q h)
theorem dt_neR {a b : Expr} {fa fb : F} {pos : Pos} {k : Nat} (g : GX X k) (ha : DE X a fa) (hb : DE X b fb) (hm : behindInMarks .NotEq b = false := by with_unfolding_all rfl) : DT X (.Compare a [.NotEq] [b] pos) (fTest (fEqR true fa fb)) :=
  weakT (pt_cmpR (op_neD g.room.units) ha hb hm) fun σ H Q h => eqR_reads (fun u v H Q p q hp hq sp sq hQ => ⟨p, q, hp, hq, sp, sq, hQ⟩) σ H (fun x H1 => ∃ c, x = .bl c ∧ Q c H1) (testReads σ H Q h)
end
end DL
/-! Lists that are written no more become values; zip of such lists. -/
namespace DL
open PySem PySem.Spec PyProof.Rows L2
section
variable {X : Cx} {W : WXd} {tg iter : Expr}
theorem Rep.sqLv {K : PySem.W.Frag} {r : Rf} {H : Hp} {v : V} {ds : List D} (h : Rep K r H v (.lst ds)) : ∃ a xs, v = .ref a ∧ SqL K H a xs ∧ RepL K r H xs ds := by
  cases h with
  | lst a b c => exact ⟨_, _, rfl, .of a, c⟩
def asZipL : List D → Option (List D) | [.lst as, .lst bs] => some (pairs2 as bs) | _ => none
theorem di_zipL {a b : Expr} {fa : FA} {elts : List Expr} {kk : Nat} {tpos p pos : Pos} (hg : Gl X "zip") (hm : X.mg "zip" = none) (ha : DA X [a, b] fa)
    (hs : starEach [a, b] X.env = (false, eval a X.env) :: starEach [b] X.env := by rfl) (hpl : (backTo pos (starEach [b] X.env)).any (·.1) = false := by rfl) :
    DIR X (RepI X.K) (.Tuple elts kk tpos) (.Call (.Name "zip" p) [a, b] [] pos) (iOfA asZipL fa) := weakI (RZ.pi_zipA hg hm ha hs hpl) fun σ H R hh => by
  obtain ⟨r, env, st, xs, st', he, hs, hf, q⟩ := hh
  obtain ⟨xs, h1, h2⟩ := iOfA_some hf
  refine ⟨r, env, st, xs, st', he, hs, h1, fun v r1 H1 e1 q1 p1 => ?_⟩
  unfold asZipL at h2
  split at h2
  · rename_i as bs
    cases h2
    obtain ⟨u, w, rfl, pa, pb⟩ := lst2 p1
    obtain ⟨a', us, rfl, sa, la⟩ := pa.sqLv
    obtain ⟨b', ws, rfl, sb, lb⟩ := pb.sqLv
    have pa1 := pa
    have pb1 := pb
    refine ⟨a', b', us, ws, rfl, .inl ⟨sa, sb, q _ r1 H1 e1 q1 fun r2 H2 st2 e2 s2 => ?_⟩⟩
    have hk : ∀ {c : Addr} {ys : List V} {es : List D}, SqL X.K H1 c ys → RepL X.K r1 H1 ys es → Rep X.K r1 H1 (.ref c) (.lst es) → ∃ zs, SqL X.K H2 c zs ∧ RepL X.K r2 H2 zs es := fun {c ys es} _ _ p => by
      obtain ⟨c', zs, e', s', l'⟩ := (p.ext e2).sqLv
      cases e'
      exact ⟨zs, s', l'⟩
    obtain ⟨us2, sa2, la2⟩ := hk sa la pa1
    obtain ⟨ws2, sb2, lb2⟩ := hk sb lb pb1
    refine ⟨fun i hi => ⟨us2, ws2, sa2, sb2, ?_⟩, fun i d hd => ?_⟩
    · rw [pairs2_len] at hi
      rw [la2.len, lb2.len]
      omega
    · obtain ⟨x, y, hx, hy, ed⟩ := pairs2_get hd
      obtain ⟨vx, hvx, rx⟩ := la2.get hx
      obtain ⟨vy, hvy, ry⟩ := lb2.get hy
      refine ⟨⟨us2, ws2, vx, vy, sa2, sb2, hvx, hvy⟩, fun v H3 ⟨T, x', y', ev, hT, eH, w1, w2⟩ => ?_⟩
      subst ev
      subst eH
      have ex : x' = vx := by
        have := w1 us2 sa2
        rw [hvx] at this
        exact (Option.some.inj this).symm
      have ey : y' = vy := by
        have := w2 ws2 sb2
        rw [hvy] at this
        exact (Option.some.inj this).symm
      subst ex ey
      have sm : Same H2 (upd H2 T (.tup [x', y'])) := same_alloc hT
      exact ⟨r2, s2.ext sm, s2.same sm, T, [x', y'], [x, y], rfl, ed, .inl (.inl upd_same), .cons (rx.ext (s2.ext sm)) (.cons (ry.ext (s2.ext sm)) .nil)⟩
  · cases h2
/-- local i's list is a value from here on -/
def sFrzL (i : Nat) : FS := fun env st => match env[i]? with
  | some (some (.ref n)) => (match st[n]? with | some (.lst ds) => some (.nx, env.set i (some (.lst ds)), st.set n .dead) | _ => none)
  | _ => none
theorem ds_frzL (i : Nat) {s : Stmt} {g : FS} (h : DS X W s g) : DS X W s (sSeq (sFrzL i) g) := weakS h fun D' σ H hh => by
  obtain ⟨r, env, st, o, env', st', he, hs, hf, q⟩ := hh
  obtain ⟨⟨o1, e1, s1⟩, h1, h2⟩ := Option.bind_eq_some_iff.mp hf
  unfold sFrzL at h1
  split at h1
  · rename_i n hn
    split at h1
    · rename_i ds hst
      cases h1
      obtain ⟨v, hv, rv⟩ := he.at_ i _ hn
      obtain ⟨a, rfl, ha⟩ := rv.refI
      obtain ⟨av, xs, hx, l⟩ := hs.ob _ a _ ha hst
      have ex := drop_ext (H := H) (List.mem_of_getElem? ha)
      have na : ¬ (r.drop a).av a := fun z => z.2 rfl
      have he2 := (he.ext ex).set (Rep.lst hx na (l.ext ex)) i
      have es : σ.set i (some (V.ref a)) = σ := by
        refine List.ext_getElem? fun j => ?_
        by_cases z : i = j
        · subst z
          rw [List.getElem?_set_self (List.getElem?_eq_some_iff.mp hv).1, hv]
        · rw [List.getElem?_set_ne z]
      rw [es] at he2
      exact ⟨_, _, _, o, env', st', he2, drop_sim hs ha, h2, q.ext ex⟩
    · cases h1
  · cases h1
end
end DL
/-! t.count(text), t of anything. -/
namespace DL
open PySem PySem.Spec PyProof.Rows L2 TL
variable {K : PySem.W.Frag}
section
open PySem.SeqAt
variable {A : Around} {s : Shared}
theorem eq_dict_str {a : Addr} {es : Array DictEntry} {n : Nat} {dd : Option Addr} {sl : Array (Option Value)} (x : Str) (t : Tok) (got : s.heap.get? a = some ⟨.type "dict", dd, .dict es n, sl⟩) (hu : A.units < cLine) : EqAt A s (.ref a) (.str x t) false := fun P w E Q q => by
  unfold eqBool
  refine wpAny_holding (wpAny_ite_split (fun z => absurd (eq_of_beq z) nofun) fun _ => ?_)
  exact wpAny_bind (rc_dict_str x t got hu P w E _ (wpAny_truthy_bool q))
end
/-- is this value the text -/
def isV (x : Str) : Value → Bool | .str y _ => y == x | _ => false
section
variable {X : Cx} {W : WXd}
theorem item_str {rho : Rf} {pins : List (Addr × Obj)} {σ : L2.St} {H : Hp} {s : Shared} {v : V} {u : Value} {d : D} {x : Str} {t : Tok} {k : Bool} {A : Around} (I : Inv X pins σ H s) (r : Rep X.K rho H v d) (rv : RelV v u) (e : eqS x d = some k) (hu : A.units < cLine) :
    SeqAt.EqAt A s u (.str x t) (isV x u) ∧ isV x u = k := by
  cases d with
  | non => cases r; cases e; cases rv; exact ⟨.none_str _ _, rfl⟩
  | bl b => cases r; cases e; cases rv; exact ⟨.bool_str _ _ _, rfl⟩
  | int i =>
    cases r
    cases e
    obtain ⟨t', rfl⟩ := rv
    exact ⟨.int_str _ _ _ _, rfl⟩
  | str y =>
    cases r
    cases e
    obtain ⟨t', rfl⟩ := rv
    exact ⟨.str_str _ _ _ _, rfl⟩
  | tup ds =>
    cases e
    obtain ⟨a, us, rfl, sq, l⟩ := r.sqT
    cases rv
    obtain ⟨its, r1, p1, _⟩ := I.tuple sq
    exact ⟨.tuple_str _ _ p1 hu, rfl⟩
  | lst ds =>
    cases e
    cases r with
    | lst g1 g2 g3 =>
      cases rv
      obtain ⟨its, r1, p1, _⟩ := I.list (.of g1)
      exact ⟨.list_str _ _ p1.isList hu, rfl⟩
  | dct kvs =>
    cases e
    cases r with
    | dct g1 g2 g3 =>
      cases rv
      obtain ⟨_, ns, vs, _, ⟨⟨cls, dd, data, sl⟩, es, ep, ho, ⟨hc, _, _⟩, hd, _⟩⟩ := (show ObjOk X.prog X.w H s.heap _ (.dK _) from (I.hok _ _ g1).2)
      simp only at hc hd
      subst hc hd
      exact ⟨eq_dict_str x t ho hu, rfl⟩
  | scr ns => cases e
  | ref n => cases e
/-- how many are this text -/
def countS (x : Str) : List D → Option Nat
  | [] => some 0
  | d :: ds => (eqS x d).bind fun b => (countS x ds).map fun n => n + if b = true then 1 else 0
theorem count_items {rho : Rf} {pins : List (Addr × Obj)} {σ : L2.St} {H : Hp} {s : Shared} {x : Str} {t : Tok} {A : Around} (I : Inv X pins σ H s) (hu : A.units < cLine) :
    ∀ {ds : List D} {vs : List V} {us : List Value} {k : Nat}, RepL X.K rho H vs ds → Vals vs us → countS x ds = some k → us.countP (isV x) = k ∧ ∀ y ∈ us, SeqAt.EqAt A s y (.str x t) (isV x y)
  | [], _, _, _, .nil, .nil, e => by
    cases e
    exact ⟨rfl, fun y hy => by cases hy⟩
  | d :: ds, _, _, k, .cons p l, .cons rv rt, e => by
    obtain ⟨b, h1, h2⟩ := Option.bind_eq_some_iff.mp (show ((eqS x d).bind fun b => (countS x ds).map fun n => n + if b = true then 1 else 0) = some k from e)
    obtain ⟨n, h3, h4⟩ := Option.map_eq_some_iff.mp h2
    obtain ⟨g1, g2⟩ := count_items I hu l rt h3
    obtain ⟨q1, q2⟩ := item_str (t := t) (A := A) I p rv h1 hu
    refine ⟨by rw [List.countP_cons, g1, q2]; exact h4, fun y hy => ?_⟩
    rcases List.mem_cons.mp hy with rfl | hy
    · exact q1
    · exact g2 y hy
def rTCount (K : PySem.W.Frag) : V → List V → Hp → VK → Prop := fun x xs H Q => ∃ (rho : Rf) (a : Addr) (vs : List V) (ds : List D) (z : Str) (k : Nat), x = .ref a ∧ xs = [.str z] ∧ SqT K H a vs ∧ RepL K rho H vs ds ∧ countS z ds = some k ∧ Q (.int k) H
theorem mt_tcount {k : Nat} (g : GX X k) : MtR X "tuple.count" (rTCount X.K) := by
  intro pins s σ H x xs v us Q I rx rs h
  obtain ⟨rho, a, vs, ds, z, n, rfl, rfl, sq, l, e, q⟩ := h
  cases rx
  obtain ⟨u, rfl, t, rfl⟩ := vals1 rs
  obtain ⟨its, r1, ⟨⟨cls, dd, data, sl⟩, ho, hc, m, hd⟩, _⟩ := I.tuple sq
  simp only at hc hd
  subst hc hd
  obtain ⟨g1, g2⟩ := count_items (t := t) (A := X.A.in1) I (by have := g.room.un; show X.A.units + 1 < cLine; omega) l r1 e
  refine call_meets PySem.F.slot_tuple_count ⟨_, ho, rfl⟩ PySem.F.entry_tuple_count (PySem.F.args_tuple_count_2 _ _) (SeqAt.tuple_countAt a its.toArray m dd sl (.str z t) (isV z)) ⟨ho, fun y hy => g2 y (by simpa using hy), ?_⟩
  rw [show its.toArray.toList.countP (isV z) = n from g1]
  exact ⟨.int n, H, I.tok _, ⟨_, rfl⟩, q⟩
def tcountD : D → List D → Option D := fun a ds => match a, ds with
  | .tup xs, [.str z] => (countS z xs).map fun (n : Nat) => D.int ((n : Nat) : Int)
  | _, _ => none
theorem tcountOk : ∀ (rho : Rf) (H : Hp) (x : V) (xs : List V) (a : D) (ds : List D) (d : D) (st : Store) (Q : VK), Rep X.K rho H x a → RepL X.K rho H xs ds → Sim X.K rho H st → tcountD a ds = some d → (∀ v H', Same H H' → Rep X.K rho H' v d → Q v H') → rTCount X.K x xs H Q := by
  intro rho H x xs a ds d st Q ra rl si e q
  unfold tcountD at e
  split at e
  · obtain ⟨n, h1, h2⟩ := Option.map_eq_some_iff.mp e
    subst h2
    obtain ⟨p, us, rfl, s1, l1⟩ := ra.sqT
    obtain ⟨v, rfl, pv⟩ := lst1 rl
    cases pv
    exact ⟨rho, p, us, _, _, n, rfl, rfl, s1, l1, h1, q _ H (fun _ _ h => h) (.int _)⟩
  · cases e
theorem tupBare {rho : Rf} {H : Hp} {x : V} {ds : List D} (r : Rep K rho H x (.tup ds)) : Bare K x H := by
  cases r with
  | tup a z b c => exact ⟨_, rfl, .inl ⟨_, _, a, z⟩⟩
  | tupK a b z c d e f => exact ⟨_, rfl, .inr ⟨_, a, b, z⟩⟩
/-- t.m(e) of a tuple -/
theorem de_tm {id : String} {name : Str} {g : D → List D → Option D} {r : V → List V → Hp → VK → Prop} {o e : Expr} {es : List Expr} {fo : F} {fa : FA} {apos cpos : Pos}
    (hm : MtR X id r) (ty : ∀ (a : D) ds d, g a ds = some d → ∃ xs, a = .tup xs)
    (ok : ∀ (rho : Rf) (H : Hp) (x : V) (xs : List V) (a : D) (ds : List D) (d : D) (st : Store) (Q : VK), Rep X.K rho H x a → RepL X.K rho H xs ds → Sim X.K rho H st → g a ds = some d → (∀ v H', Same H H' → Rep X.K rho H' v d → Q v H') → r x xs H Q)
    (pa : PlainAttrs "tuple") (slot : Slot "tuple" name id) (hty : typeOf (.builtin id) = pure (.type "method_descriptor")) (ho : DE X o fo) (ha : DA X (e :: es) fa)
    (hbase : attributeBase o name X.env (eval o X.env) = eval o X.env := by rfl)
    (hfew : ((backTo cpos (starEach (e :: es) X.env)).all (fun x => !x.1) && (backToKw cpos (keywordEach [] X.env)).all (fun x => x.1.isSome) && decide ((e :: es).length + ([] : List Keyword).length + (if ([] : List Keyword).isEmpty then 0 else 1) < 30)) = true := by rfl)
    (hline : (apos.endLine == cpos.line) = true := by rfl) (hs : starEach (e :: es) X.env = (false, eval e X.env) :: starEach es X.env := by rfl) (hplain : (backTo cpos (starEach es X.env)).any (·.1) = false := by rfl) :
    DE X (.Call (.Attribute o name apos) (e :: es) [] cpos) (fMt g fo fa) :=
  weakE (pe_tm pa slot hty hm ho ha hbase hfew hline hs hplain) fun σ H Q hh => by
  obtain ⟨r', env, st, d, st', he, hs, hf, q⟩ := hh
  obtain ⟨⟨x, s1⟩, h1, hf1⟩ := Option.bind_eq_some_iff.mp hf
  obtain ⟨⟨ys, s2⟩, h2, hf2⟩ := Option.bind_eq_some_iff.mp hf1
  obtain ⟨d', h3, hf3⟩ := Option.map_eq_some_iff.mp hf2
  cases hf3
  refine ⟨r', env, st, x, s1, he, hs, h1, fun u r1 H1 e1 q1 p1 => ⟨?_, r1, env, s1, ys, _, he.ext e1, q1, h2, fun us r2 H2 e2 q2 l2 =>
    ok r2 H2 u us x ys d _ Q (p1.ext e2) l2 q2 h3 fun w H3 sm pw => q w r2 H3 ((e1.trans e2).trans (q2.ext sm)) (q2.same sm) pw⟩⟩
  obtain ⟨xs, rfl⟩ := ty x ys d h3
  exact tupBare p1
theorem tcountTy : ∀ (a : D) ds d, tcountD a ds = some d → ∃ xs, a = .tup xs := fun a ds d e => by
  unfold tcountD at e
  split at e
  · exact ⟨_, rfl⟩
  · cases e
end
end DL
/-! len(set(t)) of a tuple of texts. -/
namespace DL
open PySem PySem.Spec PyProof.Rows L2
/-- how many different ones stand before place i -/
def cntS (xs : List Str) : Nat → Nat
  | 0 => 0
  | i + 1 => if xs.getD i Str.empty ∈ xs.take i then cntS xs i else cntS xs i + 1
theorem cntS_le (xs : List Str) : ∀ i, cntS xs i ≤ i
  | 0 => Nat.le_refl _
  | i + 1 => by
    have := cntS_le xs i
    unfold cntS
    split <;> omega
theorem cntS_all {xs : List Str} : ∀ {i : Nat}, i ≤ xs.length → (cntS xs i = i ↔ (xs.take i).Nodup)
  | 0, _ => by simp [cntS]
  | i + 1, h => by
    have hi : i < xs.length := h
    have ih := cntS_all (xs := xs) (i := i) (Nat.le_of_lt hi)
    have le := cntS_le xs i
    have e : xs.getD i Str.empty = xs[i] := by rw [List.getD_eq_getElem?_getD, List.getElem?_eq_getElem hi]; rfl
    rw [List.take_add_one, List.getElem?_eq_getElem hi]
    unfold cntS
    rw [e]
    by_cases m : xs[i] ∈ xs.take i
    · rw [if_pos m]
      refine ⟨fun h => by omega, fun h => ?_⟩
      exact absurd rfl ((List.nodup_append.mp h).2.2 _ m _ (by simp))
    · rw [if_neg m]
      refine ⟨fun h => ?_, fun h => ?_⟩
      · refine List.nodup_append.mpr ⟨ih.mp (by omega), by simp, fun a ha b hb => ?_⟩
        simp at hb
        subst hb
        exact fun e => m (e ▸ ha)
      · have := ih.mpr (List.nodup_append.mp h).1
        omega
theorem cntS_nodup (xs : List Str) : cntS xs xs.length = xs.length ↔ xs.Nodup := by
  have := cntS_all (xs := xs) (Nat.le_refl _)
  rwa [List.take_length] at this
section
variable {prog : Program} {w : World} {A : Around} {R : Result → Shared → Prop} {I : Addr} {fp wr : List Addr} {G : Array GenState → Array GenState → Prop} {n : Nat} {P : Nat → Value → Prop} {St : Nat → Shared → Prop}
theorem loopSt (W : WalksS prog w A.in1 I fp wr G n P St) (S : Addr) (hSf : S ∉ fp) (xs : List Str) (hsz : xs.length = n) (hb : xs.length + 1 < scanBound)
    (hval : ∀ i v, P i v → ∃ t, v = .str (xs.getD i Str.empty) t) :
    ∀ (k i : Nat) (s : Shared), n - i = k → i ≤ n → St i s →
      s.heap.SetOf (PySem.strKind prog w) S (fun j => decide (j ∈ xs.take i)) (cntS xs i) →
      (∀ s', Moved (S :: wr) G s s' → s'.heap.SetOf (PySem.strKind prog w) S (fun j => decide (j ∈ xs)) (cntS xs n) → R (.ok (.ret .none)) s') →
      codeAny (model prog w) A (.builtin "set.update.loop" ⟨[.ref S, .ref I], []⟩) R s := by
  have hSw : S ∉ wr := fun h => hSf (W.sub _ h)
  have hsub : ∀ b ∈ wr, b ∈ S :: wr := fun b hb => List.mem_cons_of_mem _ hb
  intro k
  induction k with
  | zero =>
    intro i s hk hi hst hS hR
    have hin : i = n := by omega
    subst hin
    refine codeAny_builtin PyProof.Rows.F.entry_set_update_loop ?_
    rw [Around.under_plainId PyProof.Rows.F.plain_set_update_loop _]
    show wpAny _ A.in1 (pyNext (.ref I) >>= _) _ _ s
    refine wpAny_bind (W.done s _ _ hst fun s' hm => ?_)
    show wpAny _ A.in1 (ret Value.none) _ _ s'
    have e : xs.take i = xs := List.take_of_length_le (by omega)
    rw [e] at hS
    exact wpAny_pure (hR s' (hm.mono hsub) (by
      obtain ⟨o, es, ep, t, ho, rest⟩ := hS
      exact ⟨o, es, ep, t, hm.heap S _ hSw ho, rest⟩))
  | succ k ih =>
    intro i s hk hi hst hS hR
    have hlt : i < n := by omega
    refine codeAny_builtin PyProof.Rows.F.entry_set_update_loop ?_
    rw [Around.under_plainId PyProof.Rows.F.plain_set_update_loop _]
    show wpAny _ A.in1 (pyNext (.ref I) >>= _) _ _ s
    refine wpAny_bind (W.item i s _ _ hlt hst fun v s' hP hst' hm => ?_)
    obtain ⟨t, rfl⟩ := hval i v hP
    have hS' : s'.heap.SetOf (PySem.strKind prog w) S (fun j => decide (j ∈ xs.take i)) (cntS xs i) := by
      obtain ⟨o, es, ep, tb, ho, rest⟩ := hS
      exact ⟨o, es, ep, tb, hm.heap S _ hSw ho, rest⟩
    show wpAny _ A.in1 (holding [Value.str (xs.getD i Str.empty) t] (setAdd S (.str (xs.getD i Str.empty) t)) >>= _) _ _ s'
    refine wpAny_bind (wpAny_holding ?_)
    unfold setAdd
    refine wpAny_holding ?_
    have hle := cntS_le xs i
    refine wpAny_bind ((PySem.strKind prog w).pyHash (k := xs.getD i Str.empty) (strKind_is _ _ _ _) ?_)
    refine wpAny_setAddHashed_of (knd := PySem.strKind prog w) (s := { s' with toks := s'.toks + 1 }) (strKind_is _ _ _ _) rfl hS' (by omega) fun h' hsb hS2 => ?_
    have hSi : h'.SetOf (PySem.strKind prog w) S (fun j => decide (j ∈ xs.take (i + 1))) (cntS xs (i + 1)) := by
      refine SetOf_congr hS2 (fun j => ?_) ?_
      · have hil : i < xs.length := by omega
        have e : xs.getD i Str.empty = xs[i] := by rw [List.getD_eq_getElem?_getD, List.getElem?_eq_getElem hil]; rfl
        have m : j ∈ xs.take (i + 1) ↔ (j ∈ xs.take i ∨ j = xs[i]) := by
          rw [List.take_add_one, List.getElem?_eq_getElem hil, List.mem_append]
          simp
        rw [e, decide_eq_decide.mpr m, Bool.decide_or]
      · show (if decide (xs.getD i Str.empty ∈ xs.take i) = true then cntS xs i else cntS xs i + 1) = cntS xs (i + 1)
        simp [cntS]
    refine wpAny_pure ⟨plainId_quiet PyProof.Rows.F.plain_set_update_loop _, ih (i + 1) _ (by omega) hlt (W.frame _ s' _ _ hst' (Nat.le_succ _) fun b hb o e => ?_) hSi fun s'' hm'' hS'' => ?_⟩
    · rw [hsb.2 b (fun h : b = S => hSf (by rw [← h]; exact hb))]; exact e
    · refine hR s'' (Moved.trans W.gtrans ((hm.mono hsub).then_heap (Nat.le_succ _) fun b o hb e => ?_) hm'') hS''
      rw [hsb.2 b (fun h : b = S => hb (by rw [h]; exact List.mem_cons_self))]; exact e
end
section
variable {prog : Program} {w : World} {A : Around} {E : Value → Shared → Prop} {s : Shared}
set_option maxHeartbeats 3200000 in
theorem call_set_tupSt {l : Addr} {items : Array Value} {xs : List Str} {Q : Value → Shared → Prop}
    (hh : A.handled = none) (hl : s.heap.IsTuple l items) (hi : PyProof.Rows.StrsAre items.toList xs) (hn1 : xs.length + 1 < scanBound)
    (h : ∀ (h' : Heap) (tk : Nat), h'.SetOf (PySem.strKind prog w) s.heap.objs.size (fun j => decide (j ∈ xs)) (cntS xs xs.length) →
      (∀ b o, b < s.heap.objs.size → s.heap.get? b = some o → h'.get? b = some o) → Q (.ref s.heap.objs.size) { s with heap := h', toks := tk }) :
    wpAny (model prog w) A (call (.type "set") [.ref l]) Q E s := by
  obtain ⟨c, tl, hmro⟩ := PySem.F.called_set.mro
  have hmade := PySem.F.called_set.made
  have hsub := PySem.F.called_set.sub
  refine wpAny_call (codeAny_of_tree ?_)
  show wpAny _ _ (callAny (.type "set") _) _ _ _
  refine wpAny_pure ⟨Code.quiet_builtin _ (by decide +kernel), codeAny_builtin PySem.F.entry_type_call ?_⟩
  rw [Around.under_plain (weight_type_call_type "set" [.ref l] []) rfl]
  have h1 := PySem.F.called_set.notType
  have h2 := PySem.F.called_set.canCreate
  have hct := PySem.F.typeCall_set_1 (.ref l)
  repeat (any_goals (first | assumption | wp_step))

  refine codeAny_mono (code_set_new_1 (.ref l) (E := E) (Q₁ := fun obj s₁ => ∃ led : Bool, obj = .ref s.heap.objs.size ∧ s₁ = { s with heap := s.heap.push { cls := .type "set", dict := none, data := .set #[] 0 (.fresh 0 0 led) } }) fun led => ⟨led, rfl, rfl⟩) fun r s₁ hr => ?_
  cases r with
  | error e => exact hr
  | ok fl =>
    cases fl with
    | ret obj =>
      obtain ⟨led, rfl, rfl⟩ := hr
      have hS : (s.heap.push { cls := .type "set", dict := none, data := .set #[] 0 (.fresh 0 0 led) }).get? s.heap.objs.size = some { cls := .type "set", dict := none, data := .set #[] 0 (.fresh 0 0 led) } := Heap.get?_push_size _ rfl
      have hT : Shared.TypeIs { s with heap := s.heap.push { cls := .type "set", dict := none, data := .set #[] 0 (.fresh 0 0 led) } } (.ref s.heap.objs.size) "set" := ⟨_, hS, rfl⟩
      have hli := PySem.F.called_set.init.lookup
      have hbi := PySem.F.called_set.init.bind (.ref s.heap.objs.size)
      repeat (any_goals (first | assumption | wp_step))

      refine codeAny_mono (codeAny_call_builtin (R := wants (fun r s₂ => r = .none ∧ ∃ h' tk, s₂ = { s with heap := h', toks := tk } ∧
          h'.SetOf (PySem.strKind prog w) s.heap.objs.size (fun j => decide (j ∈ xs)) (cntS xs xs.length) ∧
          (∀ b o, b < s.heap.objs.size → s.heap.get? b = some o → h'.get? b = some o)) E) PySem.F.called_set.init.plain PySem.F.entry_set_init (check_set_init_1 hT ?_)) fun r₂ s₂ hr₂ => ?_
      · obtain ⟨ol, hol, hcl, nl, hdl⟩ := hl
        obtain ⟨ocls, odict, odata, oslots⟩ := ol
        simp only at hcl hdl
        subst hcl; subst hdl
        have hol' : (s.heap.push { cls := .type "set", dict := none, data := .set #[] 0 (.fresh 0 0 led) }).get? l = some { cls := .type "tuple", dict := odict, data := .seq items nl, slots := oslots } := Heap.get?_push_of_some _ hol
        have hsls := PySem.F.sub_tuple_set
        have hslf := PySem.F.sub_tuple_frozenset
        have hne : (Value.type "tuple" == Value.type "dict") = false := by decide
        have hl1 : (s.heap.push { cls := .type "set", dict := none, data := .set #[] 0 (.fresh 0 0 led) }).IsTuple l items := ⟨_, hol', rfl, nl, rfl⟩
        unfold Builtin.«set.__init__» noKeywords Builtin.Frozenset.updateFrom
        generalize hPI : pyIter = PI
        wp_walk
        subst hPI

        refine wpAny_pyIter_tuple hl1 ?_
        refine wpAny_bind (wpAny_runValue ?_)
        have hlS : l < s.heap.objs.size := Heap.lt_size hol
        have hh3 : A.in1.in1.in1.handled = none := by simp [hh]
        have hneI : l ≠ (s.heap.push { cls := .type "set", dict := none, data := .set #[] 0 (.fresh 0 0 led) }).objs.size := by
          rw [Heap.size_push]; exact Nat.ne_of_lt (Nat.lt_succ_of_lt hlS)
        have hSf : s.heap.objs.size ∉ [(s.heap.push { cls := .type "set", dict := none, data := .set #[] 0 (.fresh 0 0 led) }).objs.size, l] := by
          rw [Heap.size_push]; simp only [List.mem_cons, List.mem_singleton, List.not_mem_nil, or_false, not_or]
          exact ⟨Nat.ne_of_lt (Nat.lt_succ_self _), Nat.ne_of_gt hlS⟩
        have hsz : xs.length = items.size := by rw [← StrsAre.len_eq hi, Array.length_toList]
        have hval : ∀ (i : Nat) (v : Value), items[i]? = some v → ∃ t, v = .str (xs.getD i Str.empty) t := fun i v hv => SS.strs_at hi i v (by rw [Array.getElem?_toList]; exact hv)
        refine loopSt ((Walks.tuple hh3 _ l hneI items).toS) s.heap.objs.size
          hSf xs hsz hn1 hval (items.size - 0) 0 _ (by omega) (Nat.zero_le _)
          ⟨⟨_, Heap.get?_push_size _ rfl, rfl, rfl⟩, (hl1.push _)⟩ ?hS0 ?hR
        case hS0 =>
          have hget : ((s.heap.push { cls := .type "set", dict := none, data := .set #[] 0 (.fresh 0 0 led) }).push { cls := .type "tuple_iterator", data := .fields #[.ref l, .int 0 0] }).get? s.heap.objs.size
              = some { cls := .type "set", dict := none, data := .set #[] 0 (.fresh 0 0 led) } := Heap.get?_push_of_some _ hS
          exact PyProof.Rows.SetOf_congr ((PyProof.Rows.setObjOf_fresh (knd := PySem.strKind prog w) led).setOf hget (by unfold scanBound; omega)) (fun _ => by simp) rfl
        case hR =>
          intro s' hm hS'
          rw [← hsz] at hS'
          obtain ⟨h', g', d', tk', os'⟩ := s'
          have eg : g' = s.gens := hm.gens
          have ed : d' = s.drawn := hm.drawn
          have eo : os' = s.os := hm.os
          subst eg; subst ed; subst eo
          show wpAny _ _ _ _ _ _
          refine wpAny_pure ?_
          show wpAny _ _ (ret Value.none) _ _ _
          refine wpAny_pure ⟨rfl, h', tk', rfl, hS', fun b o hb e => ?_⟩
          have hb1 : b ≠ s.heap.objs.size := Nat.ne_of_lt hb
          have hb2 : b ≠ (s.heap.push { cls := .type "set", dict := none, data := .set #[] 0 (.fresh 0 0 led) }).objs.size := by
            rw [Heap.size_push]; exact Nat.ne_of_lt (Nat.lt_succ_of_lt hb)
          exact hm.heap b o (by simp only [List.mem_cons, List.mem_singleton, List.not_mem_nil, or_false, not_or]; exact ⟨hb1, hb2⟩) (Heap.get?_push_of_some _ (Heap.get?_push_of_some _ e))

      · cases r₂ with
        | error e => exact hr₂
        | ok fl₂ =>
          cases fl₂ with
          | ret r =>
            obtain ⟨rfl, h', tk, rfl, hS', hk'⟩ := hr₂
            repeat (any_goals (first | assumption | wp_step))
            exact h _ _ hS' hk'
          | _ => exact hr₂.elim
    | _ => exact hr.elim
end
section
variable {X : Cx}
def tLenSt (K : PySem.W.Frag) (ta : TE) : TE := fun σ H Q => ta σ H fun x H1 => ∃ l, ∃ xs : List Str, x = .ref l ∧ SqT K H1 l (xs.map V.str) ∧ xs.length < 1000 ∧ Q (.int (cntS xs xs.length)) H1
theorem pe_lenSt {a : Expr} {ta : TE} {p p2 q pos : Pos} (hc : X.calm = true) (hg : Gl X "len") (hm : X.mg "len" = none) (hg2 : Gl X "set") (hm2 : X.mg "set" = none) (ha : PE X a ta)
    (na : starEach [a] X.env = (false, eval a X.env) :: starEach [] X.env := by rfl) : PE X (.Call (.Name "len" p) [.Call (.Name "set" p2) [a] [] q] [] pos) (tLenSt X.K ta) := by
  refine ⟨fun pins s σ H Q I h => ?_⟩
  refine Call_ (ld_blt I hg hm boot_len ?_)
  refine PyProof.Rows.callWith_builtin1 (PyProof.Rows.args_cons ?_ rfl) rfl rfl
  refine Call_ (ld_blt I hg2 hm2 boot_set ?_)
  refine PyProof.Rows.callWith_type1 (PyProof.Rows.args_cons (thn (ha.run pins s σ H _ I h) fun v s1 ⟨x, H1, I1, r1, q1⟩ => PyProof.Rows.args_nil ?_) na) na rfl
  obtain ⟨l, xs, rfl, hq, h1, q1⟩ := q1
  cases r1
  obtain ⟨its, r, pl, hz⟩ := I1.tuple hq
  have hl : its.toArray.size = xs.length := by rw [List.size_toArray, ← r.length, List.length_map]
  have hle := cntS_le xs xs.length
  refine call_set_tupSt (I1.ok.hd hc) pl (xs := xs) (by simpa using strsAre_of r) (by unfold scanBound; omega) fun h' tk hS hk => ?_
  refine PyProof.Rows.args_nil ?_
  obtain ⟨o, es, ep, t, ho, hex, hd, _, _, _, hf, hn⟩ := hS
  have I2 : Inv X pins σ H1 { s1 with heap := h', toks := tk } := I1.kept fun b o e => hk b o (Heap.lt_size e) e
  refine call_len_set ho hex hd hf (by rw [hn]; omega) ⟨.int (cntS xs xs.length), H1, I2.tok _, ⟨_, by rw [hn]⟩, q1⟩
theorem strsD_eq' : ∀ {ds : List D} {ks : List Str}, strsD ds = some ks → ds = ks.map D.str
  | [], _, h => by cases h; rfl
  | .str k :: ds, _, h => by
    obtain ⟨l, h1, h2⟩ := Option.map_eq_some_iff.mp h
    subst h2
    rw [List.map_cons, ← strsD_eq' h1]
  | .non :: _, _, h => by cases h
  | .bl _ :: _, _, h => by cases h
  | .int _ :: _, _, h => by cases h
  | .tup _ :: _, _, h => by cases h
  | .lst _ :: _, _, h => by cases h
  | .dct _ :: _, _, h => by cases h
  | .scr _ :: _, _, h => by cases h
  | .ref _ :: _, _, h => by cases h
theorem RepL.strsV {r : Rf} {H : Hp} : ∀ {vs : List V} {ks : List Str}, RepL X.K r H vs (ks.map D.str) → vs = ks.map V.str
  | _, [], h => by cases h; rfl
  | _, k :: ks, h => by
    cases h with
    | cons a b =>
      cases a
      rw [RepL.strsV b]; rfl
def fLenSt (f : F) : F := fun env st => (f env st).bind fun p => match p.1 with
  | .tup ds => (strsD ds).bind fun xs => if xs.length < 1000 then some (.int (cntS xs xs.length), p.2) else none
  | _ => none
theorem de_lenSt {e : Expr} {f : F} {p p2 q pos : Pos} (hc : X.calm = true) (h : DE X e f) (hg : Gl X "len") (hm : X.mg "len" = none) (hg2 : Gl X "set") (hm2 : X.mg "set" = none)
    (na : starEach [e] X.env = (false, eval e X.env) :: starEach [] X.env := by rfl) : DE X (.Call (.Name "len" p) [.Call (.Name "set" p2) [e] [] q] [] pos) (fLenSt f) :=
  weakE (pe_lenSt hc hg hm hg2 hm2 h na) fun σ H Q hh => by
    obtain ⟨r, env, st, d, st', he, hs, hf, q⟩ := hh
    obtain ⟨⟨x, s1⟩, e1, e2⟩ := Option.bind_eq_some_iff.mp hf
    cases x with
    | tup ds =>
      obtain ⟨ks, e3, e4⟩ := Option.bind_eq_some_iff.mp (show ((strsD ds).bind fun xs => if xs.length < 1000 then some (D.int (cntS xs xs.length), s1) else none) = some (d, st') from e2)
      by_cases hz : ks.length < 1000
      case neg => rw [if_neg hz] at e4; cases e4
      rw [if_pos hz] at e4
      cases e4
      have ed := strsD_eq' e3
      subst ed
      refine ⟨r, env, st, .tup (ks.map .str), st', he, hs, e1, fun v r1 H1 x1 q1 p1 => ?_⟩
      obtain ⟨a, xs, rfl, sq, rl⟩ := p1.sqT
      rw [RepL.strsV rl] at sq
      exact ⟨a, ks, rfl, sq, hz, q _ r1 _ x1 q1 (.int _)⟩
    | _ => cases e2
end
end DL
namespace LW
open PySem PySem.Spec PyProof.Rows L2 DL
def topS (i : Nat) : Stmt := PySem.Challenge.pw_steadypages_k01_values_columns_and_rows.main.body.getD i (.Pass ⟨0, 0, 0, 0⟩)
abbrev s_is_integer : Stmt := topS 7
abbrev N_is_integer : List Str := ["value"]
theorem sc_is_integer : FnScope N_is_integer ["value"] (defScope s_is_integer) := ⟨rfl, rfl, rfl, by decide +kernel, rfl, by decide +kernel, by decide +kernel⟩
abbrev s_is_string : Stmt := topS 8
abbrev N_is_string : List Str := ["value", "sign"]
theorem sc_is_string : FnScope N_is_string ["value"] (defScope s_is_string) := ⟨rfl, rfl, rfl, by decide +kernel, rfl, by decide +kernel, by decide +kernel⟩
abbrev s_is_value : Stmt := topS 9
abbrev N_is_value : List Str := ["value"]
theorem sc_is_value : FnScope N_is_value ["value"] (defScope s_is_value) := ⟨rfl, rfl, rfl, by decide +kernel, rfl, by decide +kernel, by decide +kernel⟩
abbrev s_is_name : Stmt := topS 10
abbrev N_is_name : List Str := ["value", "sign"]
theorem sc_is_name : FnScope N_is_name ["value"] (defScope s_is_name) := ⟨rfl, rfl, rfl, by decide +kernel, rfl, by decide +kernel, by decide +kernel⟩
abbrev s_is_column_name : Stmt := topS 11
abbrev N_is_column_name : List Str := ["value"]
theorem sc_is_column_name : FnScope N_is_column_name ["value"] (defScope s_is_column_name) := ⟨rfl, rfl, rfl, by decide +kernel, rfl, by decide +kernel, by decide +kernel⟩
abbrev s_is_columns : Stmt := topS 12
abbrev N_is_columns : List Str := ["value", "name"]
theorem sc_is_columns : FnScope N_is_columns ["value"] (defScope s_is_columns) := ⟨rfl, rfl, rfl, by decide +kernel, rfl, by decide +kernel, by decide +kernel⟩
abbrev s_is_row_id : Stmt := topS 13
abbrev N_is_row_id : List Str := ["value"]
theorem sc_is_row_id : FnScope N_is_row_id ["value"] (defScope s_is_row_id) := ⟨rfl, rfl, rfl, by decide +kernel, rfl, by decide +kernel, by decide +kernel⟩
abbrev s_is_row : Stmt := topS 14
abbrev N_is_row : List Str := ["columns", "value", "row_id", "values", "item"]
theorem sc_is_row : FnScope N_is_row ["columns", "value"] (defScope s_is_row) := ⟨rfl, rfl, rfl, by decide +kernel, rfl, by decide +kernel, by decide +kernel⟩
abbrev s__law_tape : Stmt := topS 16
abbrev N__law_tape : List Str := ["script", "start", "mixed", "cell", "digits"]
theorem sc__law_tape : FnScope N__law_tape ["script", "start"] (defScope s__law_tape) := ⟨rfl, rfl, rfl, by decide +kernel, rfl, by decide +kernel, by decide +kernel⟩
abbrev s__law_pick : Stmt := topS 17
abbrev N__law_pick : List Str := ["tape", "size", "found"]
theorem sc__law_pick : FnScope N__law_pick ["tape", "size"] (defScope s__law_pick) := ⟨rfl, rfl, rfl, by decide +kernel, rfl, by decide +kernel, by decide +kernel⟩
abbrev s__law_one_of : Stmt := topS 18
abbrev N__law_one_of : List Str := ["tape", "items"]
theorem sc__law_one_of : FnScope N__law_one_of ["tape", "items"] (defScope s__law_one_of) := ⟨rfl, rfl, rfl, by decide +kernel, rfl, by decide +kernel, by decide +kernel⟩
abbrev s__law_integer : Stmt := topS 19
abbrev N__law_integer : List Str := ["thing", "least", "most"]
theorem sc__law_integer : FnScope N__law_integer ["thing", "least", "most"] (defScope s__law_integer) := ⟨rfl, rfl, rfl, by decide +kernel, rfl, by decide +kernel, by decide +kernel⟩
abbrev s__law_value_due : Stmt := topS 20
abbrev N__law_value_due : List Str := ["thing", "sign"]
theorem sc__law_value_due : FnScope N__law_value_due ["thing"] (defScope s__law_value_due) := ⟨rfl, rfl, rfl, by decide +kernel, rfl, by decide +kernel, by decide +kernel⟩
abbrev s__law_columns_due : Stmt := topS 21
abbrev N__law_columns_due : List Str := ["thing", "name", "sign"]
theorem sc__law_columns_due : FnScope N__law_columns_due ["thing"] (defScope s__law_columns_due) := ⟨rfl, rfl, rfl, by decide +kernel, rfl, by decide +kernel, by decide +kernel⟩
abbrev s__law_row_due : Stmt := topS 22
abbrev N__law_row_due : List Str := ["columns", "thing", "part"]
theorem sc__law_row_due : FnScope N__law_row_due ["columns", "thing"] (defScope s__law_row_due) := ⟨rfl, rfl, rfl, by decide +kernel, rfl, by decide +kernel, by decide +kernel⟩
abbrev s__law_thing : Stmt := topS 23
abbrev N__law_thing : List Str := ["tape", "some"]
theorem sc__law_thing : FnScope N__law_thing ["tape"] (defScope s__law_thing) := ⟨rfl, rfl, rfl, by decide +kernel, rfl, by decide +kernel, by decide +kernel⟩
abbrev s__law_bent : Stmt := topS 24
abbrev N__law_bent : List Str := ["tape", "thing", "at", "way"]
theorem sc__law_bent : FnScope N__law_bent ["tape", "thing"] (defScope s__law_bent) := ⟨rfl, rfl, rfl, by decide +kernel, rfl, by decide +kernel, by decide +kernel⟩
abbrev s__law_told : Stmt := topS 25
abbrev N__law_told : List Str := ["tape", "columns", "thing", "kept", "told", "due"]
theorem sc__law_told : FnScope N__law_told ["tape", "columns", "thing"] (defScope s__law_told) := ⟨rfl, rfl, rfl, by decide +kernel, rfl, by decide +kernel, by decide +kernel⟩
abbrev s_law : Stmt := topS 26
abbrev N_law : List Str := ["script", "start", "tape", "names", "columns", "row", "thing", "turn", "bent", "word", "name"]
theorem sc_law : FnScope N_law ["script"] (defScope s_law) := ⟨rfl, rfl, rfl, by decide +kernel, rfl, by decide +kernel, by decide +kernel⟩
/-- what the top has left -/
structure Txt (K : PySem.W.Frag) (mg : Str → Option Value) where
  a_is_integer : Addr
  f_is_integer : FuncData
  F_is_integer : Fun K "is_integer" "is_integer" s_is_integer a_is_integer f_is_integer
  b_is_integer : Binds K f_is_integer ["value"] []
  g_is_integer : mg "is_integer" = some (.ref a_is_integer)
  a_is_string : Addr
  f_is_string : FuncData
  F_is_string : Fun K "is_string" "is_string" s_is_string a_is_string f_is_string
  b_is_string : Binds K f_is_string ["value"] []
  g_is_string : mg "is_string" = some (.ref a_is_string)
  a_is_value : Addr
  f_is_value : FuncData
  F_is_value : Fun K "is_value" "is_value" s_is_value a_is_value f_is_value
  b_is_value : Binds K f_is_value ["value"] []
  g_is_value : mg "is_value" = some (.ref a_is_value)
  a_is_name : Addr
  f_is_name : FuncData
  F_is_name : Fun K "is_name" "is_name" s_is_name a_is_name f_is_name
  b_is_name : Binds K f_is_name ["value"] []
  g_is_name : mg "is_name" = some (.ref a_is_name)
  a_is_column_name : Addr
  f_is_column_name : FuncData
  F_is_column_name : Fun K "is_column_name" "is_column_name" s_is_column_name a_is_column_name f_is_column_name
  b_is_column_name : Binds K f_is_column_name ["value"] []
  g_is_column_name : mg "is_column_name" = some (.ref a_is_column_name)
  a_is_columns : Addr
  f_is_columns : FuncData
  F_is_columns : Fun K "is_columns" "is_columns" s_is_columns a_is_columns f_is_columns
  b_is_columns : Binds K f_is_columns ["value"] []
  g_is_columns : mg "is_columns" = some (.ref a_is_columns)
  a_is_row_id : Addr
  f_is_row_id : FuncData
  F_is_row_id : Fun K "is_row_id" "is_row_id" s_is_row_id a_is_row_id f_is_row_id
  b_is_row_id : Binds K f_is_row_id ["value"] []
  g_is_row_id : mg "is_row_id" = some (.ref a_is_row_id)
  a_is_row : Addr
  f_is_row : FuncData
  F_is_row : Fun K "is_row" "is_row" s_is_row a_is_row f_is_row
  b_is_row : Binds K f_is_row ["columns", "value"] []
  g_is_row : mg "is_row" = some (.ref a_is_row)
  a__law_tape : Addr
  f__law_tape : FuncData
  F__law_tape : Fun K "_law_tape" "_law_tape" s__law_tape a__law_tape f__law_tape
  b__law_tape : Binds K f__law_tape ["script", "start"] []
  g__law_tape : mg "_law_tape" = some (.ref a__law_tape)
  a__law_pick : Addr
  f__law_pick : FuncData
  F__law_pick : Fun K "_law_pick" "_law_pick" s__law_pick a__law_pick f__law_pick
  b__law_pick : Binds K f__law_pick ["tape", "size"] []
  g__law_pick : mg "_law_pick" = some (.ref a__law_pick)
  a__law_one_of : Addr
  f__law_one_of : FuncData
  F__law_one_of : Fun K "_law_one_of" "_law_one_of" s__law_one_of a__law_one_of f__law_one_of
  b__law_one_of : Binds K f__law_one_of ["tape", "items"] []
  g__law_one_of : mg "_law_one_of" = some (.ref a__law_one_of)
  a__law_integer : Addr
  f__law_integer : FuncData
  F__law_integer : Fun K "_law_integer" "_law_integer" s__law_integer a__law_integer f__law_integer
  b__law_integer : Binds K f__law_integer ["thing", "least", "most"] []
  g__law_integer : mg "_law_integer" = some (.ref a__law_integer)
  a__law_value_due : Addr
  f__law_value_due : FuncData
  F__law_value_due : Fun K "_law_value_due" "_law_value_due" s__law_value_due a__law_value_due f__law_value_due
  b__law_value_due : Binds K f__law_value_due ["thing"] []
  g__law_value_due : mg "_law_value_due" = some (.ref a__law_value_due)
  a__law_columns_due : Addr
  f__law_columns_due : FuncData
  F__law_columns_due : Fun K "_law_columns_due" "_law_columns_due" s__law_columns_due a__law_columns_due f__law_columns_due
  b__law_columns_due : Binds K f__law_columns_due ["thing"] []
  g__law_columns_due : mg "_law_columns_due" = some (.ref a__law_columns_due)
  a__law_row_due : Addr
  f__law_row_due : FuncData
  F__law_row_due : Fun K "_law_row_due" "_law_row_due" s__law_row_due a__law_row_due f__law_row_due
  b__law_row_due : Binds K f__law_row_due ["columns", "thing"] []
  g__law_row_due : mg "_law_row_due" = some (.ref a__law_row_due)
  a__law_thing : Addr
  f__law_thing : FuncData
  F__law_thing : Fun K "_law_thing" "_law_thing" s__law_thing a__law_thing f__law_thing
  b__law_thing : Binds K f__law_thing ["tape"] []
  g__law_thing : mg "_law_thing" = some (.ref a__law_thing)
  a__law_bent : Addr
  f__law_bent : FuncData
  F__law_bent : Fun K "_law_bent" "_law_bent" s__law_bent a__law_bent f__law_bent
  b__law_bent : Binds K f__law_bent ["tape", "thing"] []
  g__law_bent : mg "_law_bent" = some (.ref a__law_bent)
  a__law_told : Addr
  f__law_told : FuncData
  F__law_told : Fun K "_law_told" "_law_told" s__law_told a__law_told f__law_told
  b__law_told : Binds K f__law_told ["tape", "columns", "thing"] []
  g__law_told : mg "_law_told" = some (.ref a__law_told)
  a_law : Addr
  f_law : FuncData
  F_law : Fun K "law" "law" s_law a_law f_law
  b_law : Binds K f_law ["script"] []
  g_law : mg "law" = some (.ref a_law)
  n_all : mg "all" = none
  n_bool : mg "bool" = none
  n_int : mg "int" = none
  n_isinstance : mg "isinstance" = none
  n_len : mg "len" = none
  n_list : mg "list" = none
  n_max : mg "max" = none
  n_min : mg "min" = none
  n_range : mg "range" = none
  n_repr : mg "repr" = none
  n_set : mg "set" = none
  n_str : mg "str" = none
  n_tuple : mg "tuple" = none
  a_BARRED_NAMES : Addr
  o_BARRED_NAMES : Obj
  i_BARRED_NAMES : Array Value
  z_BARRED_NAMES : Nat
  c_BARRED_NAMES : mg "BARRED_NAMES" = some (.ref a_BARRED_NAMES)
  l_BARRED_NAMES : K.lookup a_BARRED_NAMES = some o_BARRED_NAMES
  h_BARRED_NAMES : o_BARRED_NAMES.cls = .type "tuple"
  x_BARRED_NAMES : o_BARRED_NAMES.dict = none
  d_BARRED_NAMES : o_BARRED_NAMES.data = .seq i_BARRED_NAMES z_BARRED_NAMES
  y_BARRED_NAMES : i_BARRED_NAMES.size ≤ sizeLine
  v_BARRED_NAMES : Vals (([Str.ofString "all", Str.ofString "and", Str.ofString "in", Str.ofString "none", Str.ofString "not", Str.ofString "or", Str.ofString "starts"] : List Str).map V.str) i_BARRED_NAMES.toList
  t_GREATEST_ID : Tok
  c_GREATEST_ID : mg "GREATEST_ID" = some (.int 1000000 t_GREATEST_ID)
  t_GREATEST_INTEGER : Tok
  c_GREATEST_INTEGER : mg "GREATEST_INTEGER" = some (.int 1000000000 t_GREATEST_INTEGER)
  t_LONGEST_NAME : Tok
  c_LONGEST_NAME : mg "LONGEST_NAME" = some (.int 8 t_LONGEST_NAME)
  t_LONGEST_STRING : Tok
  c_LONGEST_STRING : mg "LONGEST_STRING" = some (.int 20 t_LONGEST_STRING)
  t_MOST_COLUMNS : Tok
  c_MOST_COLUMNS : mg "MOST_COLUMNS" = some (.int 6 t_MOST_COLUMNS)
variable {P : Program} {w : World} {K : PySem.W.Frag} {mg : Str → Option Value} {base : Heap}
noncomputable def g_is_integer : FS := (sRet (fAnd (fIsi "int" (fVar 0)) (fNot (fIsi "bool" (fVar 0)))))
noncomputable def m_is_integer : FM := mOf N_is_integer.length g_is_integer
theorem d_is_integer (T : Txt K mg) : FnD P w K mg base 1 T.a_is_integer T.f_is_integer ["value"] m_is_integer := FnD.of T.F_is_integer sc_is_integer fun cd A outer s H gx => (ds_one (ds_ret (de_and (de_isi (T := "int") (de_var 0) (by decide) (by rfl) T.n_isinstance (by rfl) T.n_int (by decide +kernel)) (de_one (de_not (de_isi (T := "bool") (de_var 0) (by decide) (by rfl) T.n_isinstance (by rfl) T.n_bool (by decide +kernel)))))))
noncomputable def g_is_string : FS := (sSeq (sIf (fOrT (fNotT (fTest (fIsi "str" (fVar 0)))) (fTest (fOp opGt (fMk bLen (aCons (fVar 0) aNil)) (fC (.int 20))))) (sRet (fC (.bl false))) sNil) (sRet (fMk bAll (aCons (fComp (iOf asStr (fVar 0)) [1] b1 tTrue (fChain opLe opLe (fC (.str (Str.ofString " "))) (fVar 1) (fC (.str (Str.ofString "~"))))) aNil))))
noncomputable def m_is_string : FM := mOf N_is_string.length g_is_string
theorem d_is_string (T : Txt K mg) : FnD P w K mg base 1 T.a_is_string T.f_is_string ["value"] m_is_string := FnD.of T.F_is_string sc_is_string fun cd A outer s H gx => (ds_cons (ds_if (dt_w (dw_or (dt_not (dt_val (de_isi (T := "str") (de_var 0) (by decide) (by rfl) T.n_isinstance (by rfl) T.n_str (by decide +kernel)))) (dw_or1 (dt_cmp ok_gt (de_callB (id := "len") ok_len (by rfl) T.n_len (by decide +kernel) (da_cons (de_var 0) da_nil)) (de_gint (by rfl) T.c_LONGEST_STRING))))) (ds_one (ds_ret de_bl)) ds_nil) (ds_one (ds_ret (de_callB (id := "all") (ok_all gx) (by rfl) T.n_all (by decide +kernel) (da_cons (de_lc (own := [("sign", 1)]) gx.calm gx.nd (di_str (de_var 0)) (blkOk_by (N := N_is_string) (sc := defScope s_is_string) (by decide +kernel)) (tg1 1) (fun _ _ _ _ _ => (pg_name (i := 1) gx.nd rfl (.inl rfl))) (fun _ _ _ _ _ => dts_nil) (fun _ _ _ _ _ => (de_chain ok_le ok_le de_str (de_var 1) de_str))) da_nil)))))
noncomputable def g_is_value : FS := (sSeq (sIf (fTest (fCall m_is_integer (aCons (fVar 0) aNil))) (sRet (fChain opLe opLe (fUn negI (fC (.int 1000000000))) (fVar 0) (fC (.int 1000000000)))) sNil) (sRet (fOr (fOp opIs (fVar 0) (fC .non)) (fCall m_is_string (aCons (fVar 0) aNil)))))
noncomputable def m_is_value : FM := mOf N_is_value.length g_is_value
theorem d_is_value (T : Txt K mg) : FnD P w K mg base 2 T.a_is_value T.f_is_value ["value"] m_is_value := FnD.of T.F_is_value sc_is_value fun cd A outer s H gx => (ds_cons (ds_if (dt_val (de_call ((d_is_integer T).up (by decide)) gx (by rfl) T.g_is_integer T.F_is_integer.kp T.b_is_integer (da_cons (de_var 0) da_nil) (hn := (aCons_n aNil_n)))) (ds_one (ds_ret (de_chain ok_le ok_le (de_neg (de_gint (by rfl) T.c_GREATEST_INTEGER)) (de_var 0) (de_gint (by rfl) T.c_GREATEST_INTEGER)))) ds_nil) (ds_one (ds_ret (de_or (de_cmp ok_is (de_var 0) de_non) (de_one (de_call ((d_is_string T).up (by decide)) gx (by rfl) T.g_is_string T.F_is_string.kp T.b_is_string (da_cons (de_var 0) da_nil) (hn := (aCons_n aNil_n))))))))
noncomputable def g_is_name : FS := (sSeq (sIf (fOrT (fNotT (fTest (fIsi "str" (fVar 0)))) (fNotT (fTest (fChain opLe opLe (fC (.int 1)) (fMk bLen (aCons (fVar 0) aNil)) (fC (.int 8)))))) (sRet (fC (.bl false))) sNil) (sRet (fMk bAll (aCons (fComp (iOf asStr (fVar 0)) [1] b1 tTrue (fChain opLe opLe (fC (.str (Str.ofString "a"))) (fVar 1) (fC (.str (Str.ofString "z"))))) aNil))))
noncomputable def m_is_name : FM := mOf N_is_name.length g_is_name
theorem d_is_name (T : Txt K mg) : FnD P w K mg base 1 T.a_is_name T.f_is_name ["value"] m_is_name := FnD.of T.F_is_name sc_is_name fun cd A outer s H gx => (ds_cons (ds_if (dt_w (dw_or (dt_not (dt_val (de_isi (T := "str") (de_var 0) (by decide) (by rfl) T.n_isinstance (by rfl) T.n_str (by decide +kernel)))) (dw_or1 (dt_not (dt_chain ok_le ok_le de_int (de_callB (id := "len") ok_len (by rfl) T.n_len (by decide +kernel) (da_cons (de_var 0) da_nil)) (de_gint (by rfl) T.c_LONGEST_NAME)))))) (ds_one (ds_ret de_bl)) ds_nil) (ds_one (ds_ret (de_callB (id := "all") (ok_all gx) (by rfl) T.n_all (by decide +kernel) (da_cons (de_lc (own := [("sign", 1)]) gx.calm gx.nd (di_str (de_var 0)) (blkOk_by (N := N_is_name) (sc := defScope s_is_name) (by decide +kernel)) (tg1 1) (fun _ _ _ _ _ => (pg_name (i := 1) gx.nd rfl (.inl rfl))) (fun _ _ _ _ _ => dts_nil) (fun _ _ _ _ _ => (de_chain ok_le ok_le de_str (de_var 1) de_str))) da_nil)))))
noncomputable def g_is_column_name : FS := (sRet (fAnd (fCall m_is_name (aCons (fVar 0) aNil)) (fOp (inSeq true) (fVar 0) (fC (.tup (([Str.ofString "all", Str.ofString "and", Str.ofString "in", Str.ofString "none", Str.ofString "not", Str.ofString "or", Str.ofString "starts"] : List Str).map .str))))))
noncomputable def m_is_column_name : FM := mOf N_is_column_name.length g_is_column_name
theorem d_is_column_name (T : Txt K mg) : FnD P w K mg base 2 T.a_is_column_name T.f_is_column_name ["value"] m_is_column_name := FnD.of T.F_is_column_name sc_is_column_name fun cd A outer s H gx => (ds_one (ds_ret (de_and (de_call ((d_is_name T).up (by decide)) gx (by rfl) T.g_is_name T.F_is_name.kp T.b_is_name (da_cons (de_var 0) da_nil) (hn := (aCons_n aNil_n))) (de_one (de_cmp ok_notin (de_var 0) (de_gtupS (by rfl) T.c_BARRED_NAMES T.l_BARRED_NAMES T.h_BARRED_NAMES T.x_BARRED_NAMES T.d_BARRED_NAMES T.y_BARRED_NAMES T.v_BARRED_NAMES))))))
noncomputable def g_is_columns : FS := (sSeq (sIf (fOrT (fNotT (fTest (fIsi "tuple" (fVar 0)))) (fNotT (fTest (fChain opLe opLe (fC (.int 1)) (fMk bLen (aCons (fVar 0) aNil)) (fC (.int 6)))))) (sRet (fC (.bl false))) sNil) (sSeq (sIf (fNotT (fTest (fMk bAll (aCons (fComp (iOf asT (fVar 0)) [1] b1 tTrue (fCall m_is_column_name (aCons (fVar 1) aNil))) aNil)))) (sRet (fC (.bl false))) sNil) (sRet (fOp opEq (fLenSt (fVar 0)) (fMk bLen (aCons (fVar 0) aNil))))))
noncomputable def m_is_columns : FM := mOf N_is_columns.length g_is_columns
theorem d_is_columns (T : Txt K mg) : FnD P w K mg base 3 T.a_is_columns T.f_is_columns ["value"] m_is_columns := FnD.of T.F_is_columns sc_is_columns fun cd A outer s H gx => (ds_cons (ds_if (dt_w (dw_or (dt_not (dt_val (de_isi (T := "tuple") (de_var 0) (by decide) (by rfl) T.n_isinstance (by rfl) T.n_tuple (by decide +kernel)))) (dw_or1 (dt_not (dt_chain ok_le ok_le de_int (de_callB (id := "len") ok_len (by rfl) T.n_len (by decide +kernel) (da_cons (de_var 0) da_nil)) (de_gint (by rfl) T.c_MOST_COLUMNS)))))) (ds_one (ds_ret de_bl)) ds_nil) (ds_cons (ds_if (dt_not (dt_val (de_callB (id := "all") (ok_all gx) (by rfl) T.n_all (by decide +kernel) (da_cons (de_lc (own := [("name", 1)]) gx.calm gx.nd (di_tup (de_var 0)) (blkOk_by (N := N_is_columns) (sc := defScope s_is_columns) (by decide +kernel)) (tg1 1) (fun _ _ _ _ _ => (pg_name (i := 1) gx.nd rfl (.inl rfl))) (fun _ _ _ _ _ => dts_nil) (fun _ _ _ _ _ => (de_call ((d_is_column_name T).up (by decide)) gx.blk (by rfl) T.g_is_column_name T.F_is_column_name.kp T.b_is_column_name (da_cons (de_var 1) da_nil) (hn := (aCons_n aNil_n))))) da_nil)))) (ds_one (ds_ret de_bl)) ds_nil) (ds_one (ds_ret (de_cmp (ok_eq gx) (de_lenSt gx.calm (de_var 0) (by rfl) T.n_len (by rfl) T.n_set) (de_callB (id := "len") ok_len (by rfl) T.n_len (by decide +kernel) (da_cons (de_var 0) da_nil)))))))
noncomputable def g_is_row_id : FS := (sRet (fAnd (fCall m_is_integer (aCons (fVar 0) aNil)) (fChain opLe opLe (fC (.int 1)) (fVar 0) (fC (.int 1000000)))))
noncomputable def m_is_row_id : FM := mOf N_is_row_id.length g_is_row_id
theorem d_is_row_id (T : Txt K mg) : FnD P w K mg base 2 T.a_is_row_id T.f_is_row_id ["value"] m_is_row_id := FnD.of T.F_is_row_id sc_is_row_id fun cd A outer s H gx => (ds_one (ds_ret (de_and (de_call ((d_is_integer T).up (by decide)) gx (by rfl) T.g_is_integer T.F_is_integer.kp T.b_is_integer (da_cons (de_var 0) da_nil) (hn := (aCons_n aNil_n))) (de_one (de_chain ok_le ok_le de_int (de_var 0) (de_gint (by rfl) T.c_GREATEST_ID))))))
noncomputable def g_is_row : FS := (sSeq (sIf (fOrT (fNotT (fTest (fIsi "tuple" (fVar 1)))) (fTest (fOp opNe (fMk bLen (aCons (fVar 1) aNil)) (fC (.int 2))))) (sRet (fC (.bl false))) sNil) (sSeq (sAsg (fVar 1) (gT 2 (gCons' (gN 2) (gCons' (gN 3) gNil')))) (sSeq (sIf (fOrT (fNotT (fTest (fCall m_is_row_id (aCons (fVar 2) aNil)))) (fNotT (fTest (fIsi "tuple" (fVar 3))))) (sRet (fC (.bl false))) sNil) (sRet (fAnd (fOp opEq (fMk bLen (aCons (fVar 3) aNil)) (fMk bLen (aCons (fVar 0) aNil))) (fMk bAll (aCons (fComp (iOf asT (fVar 3)) [4] b1 tTrue (fCall m_is_value (aCons (fVar 4) aNil))) aNil)))))))
noncomputable def m_is_row : FM := mOf N_is_row.length g_is_row
theorem d_is_row (T : Txt K mg) : FnD P w K mg base 3 T.a_is_row T.f_is_row ["columns", "value"] m_is_row := FnD.of T.F_is_row sc_is_row fun cd A outer s H gx => (ds_cons (ds_if (dt_w (dw_or (dt_not (dt_val (de_isi (T := "tuple") (de_var 1) (by decide) (by rfl) T.n_isinstance (by rfl) T.n_tuple (by decide +kernel)))) (dw_or1 (dt_cmp (ok_ne gx) (de_callB (id := "len") ok_len (by rfl) T.n_len (by decide +kernel) (da_cons (de_var 1) da_nil)) de_int)))) (ds_one (ds_ret de_bl)) ds_nil) (ds_cons (ds_asg (de_var 1) (dg_tup gx.calm (dgs_cons (dg_name 2 gx.nd) (dgs_cons (dg_name 3 gx.nd) dgs_nil)))) (ds_cons (ds_if (dt_w (dw_or (dt_not (dt_val (de_call ((d_is_row_id T).up (by decide)) gx (by rfl) T.g_is_row_id T.F_is_row_id.kp T.b_is_row_id (da_cons (de_var 2) da_nil) (hn := (aCons_n aNil_n))))) (dw_or1 (dt_not (dt_val (de_isi (T := "tuple") (de_var 3) (by decide) (by rfl) T.n_isinstance (by rfl) T.n_tuple (by decide +kernel))))))) (ds_one (ds_ret de_bl)) ds_nil) (ds_one (ds_ret (de_and (de_cmp (ok_eq gx) (de_callB (id := "len") ok_len (by rfl) T.n_len (by decide +kernel) (da_cons (de_var 3) da_nil)) (de_callB (id := "len") ok_len (by rfl) T.n_len (by decide +kernel) (da_cons (de_var 0) da_nil))) (de_one (de_callB (id := "all") (ok_all gx) (by rfl) T.n_all (by decide +kernel) (da_cons (de_lc (own := [("item", 4)]) gx.calm gx.nd (di_tup (de_var 3)) (blkOk_by (N := N_is_row) (sc := defScope s_is_row) (by decide +kernel)) (tg1 4) (fun _ _ _ _ _ => (pg_name (i := 4) gx.nd rfl (.inl rfl))) (fun _ _ _ _ _ => dts_nil) (fun _ _ _ _ _ => (de_call ((d_is_value T).up (by decide)) gx.blk (by rfl) T.g_is_value T.F_is_value.kp T.b_is_value (da_cons (de_var 4) da_nil) (hn := (aCons_n aNil_n))))) da_nil)))))))))
noncomputable def g__law_tape : FS := (sSeq (sAsg (fOp opAdd (fC (.int 97)) (fOp opMul (fVar 1) (fC (.int 31)))) (gN 2)) (sSeq (sFor (iOf asScr (fVar 0)) (gN 3) (sAsg (fOp opAdd (fOp modI (fOp powI (fOp opAdd (fOp opAdd (fOp opMul (fVar 2) (fC (.int 30011))) (fOp opMul (fVar 3) (fVar 3))) (fC (.int 7))) (fC (.int 2))) (fC (.int 2147483563))) (fC (.int 2))) (gN 2))) (sSeq (sAsg (fIfE (fAndT (fTest (fOp opLt (fVar 1) (fMk bLen (aCons (fVar 0) aNil)))) (fTest (fOp opGe (fSub (fVar 0) (fVar 1)) (fOp powI (fC (.int 10)) (fC (.int 18)))))) (fOp subI (fSub (fVar 0) (fVar 1)) (fOp powI (fC (.int 10)) (fC (.int 18)))) (fC (.int 0))) (gN 4)) (sRet (fDict (((fC (.str (Str.ofString "digits"))), (fVar 4)) :: (((fC (.str (Str.ofString "mixed"))), (fVar 2)) :: [])))))))
noncomputable def m__law_tape : FM := mOf N__law_tape.length g__law_tape
theorem d__law_tape (T : Txt K mg) : FnD P w K mg base 1 T.a__law_tape T.f__law_tape ["script", "start"] m__law_tape := FnD.of T.F__law_tape sc__law_tape fun cd A outer s H gx => (ds_cons (ds_asg (de_op ok_add de_int (de_op ok_mul (de_var 1) de_int)) (dg_name 2 gx.nd)) (ds_cons (ds_forR PassesOwn.never gx.calm (di_scr (de_var 0)) (dg_name 3 gx.nd) (ds_one (ds_asg (de_op ok_add (de_op ok_modI (de_op ok_powI (de_op ok_add (de_op ok_add (de_op ok_mul (de_var 2) de_int) (de_op ok_mul (de_var 3) (de_var 3))) de_int) de_int) de_int) de_int) (dg_name 2 gx.nd)))) (ds_cons (ds_asg (de_if (dt_w (dw_and (dt_cmp ok_lt (de_var 1) (de_callB (id := "len") ok_len (by rfl) T.n_len (by decide +kernel) (da_cons (de_var 0) da_nil))) (dw_and1 (dt_cmp ok_ge (de_sub gx (de_var 0) (de_var 1)) (de_op ok_powI de_int de_int))))) (de_op ok_subI (de_sub gx (de_var 0) (de_var 1)) (de_op ok_powI de_int de_int)) de_int) (dg_name 4 gx.nd)) (ds_one (ds_ret (de_dict (.cons de_str (de_var 4) (.cons de_str (de_var 2) .nil))))))))
noncomputable def g__law_pick : FS := (sSeq (sIf (fTest (fOp opGe (fSub (fVar 0) (fC (.str (Str.ofString "digits")))) (fVar 1))) (sSeq (sAsg (fOp modI (fSub (fVar 0) (fC (.str (Str.ofString "digits")))) (fVar 1)) (gN 2)) (sSeq (sPut (fVar 0) (fC (.str (Str.ofString "digits"))) (fOp fdivI (fSub (fVar 0) (fC (.str (Str.ofString "digits")))) (fVar 1))) (sRet (fVar 2)))) sNil) (sSeq (sPut (fVar 0) (fC (.str (Str.ofString "mixed"))) (fOp modI (fOp opAdd (fOp opMul (fSub (fVar 0) (fC (.str (Str.ofString "mixed")))) (fC (.int 40014))) (fC (.int 1013))) (fC (.int 2147483563)))) (sRet (fOp modI (fOp fdivI (fOp modI (fOp powI (fOp modI (fOp powI (fSub (fVar 0) (fC (.str (Str.ofString "mixed")))) (fC (.int 2))) (fC (.int 2147483399))) (fC (.int 3))) (fC (.int 998244353))) (fC (.int 5))) (fVar 1)))))
noncomputable def m__law_pick : FM := mOf N__law_pick.length g__law_pick
theorem d__law_pick (T : Txt K mg) : FnD P w K mg base 1 T.a__law_pick T.f__law_pick ["tape", "size"] m__law_pick := FnD.of T.F__law_pick sc__law_pick fun cd A outer s H gx => (ds_cons (ds_if (dt_cmp ok_ge (de_sub gx (de_var 0) de_str) (de_var 1)) (ds_cons (ds_asg (de_op ok_modI (de_sub gx (de_var 0) de_str) (de_var 1)) (dg_name 2 gx.nd)) (ds_cons (ds_put gx (de_var 0) de_str (de_op ok_fdivI (de_sub gx (de_var 0) de_str) (de_var 1))) (ds_one (ds_ret (de_var 2))))) ds_nil) (ds_cons (ds_put gx (de_var 0) de_str (de_op ok_modI (de_op ok_add (de_op ok_mul (de_sub gx (de_var 0) de_str) de_int) de_int) de_int)) (ds_one (ds_ret (de_op ok_modI (de_op ok_fdivI (de_op ok_modI (de_op ok_powI (de_op ok_modI (de_op ok_powI (de_sub gx (de_var 0) de_str) de_int) de_int) de_int) de_int) de_int) (de_var 1))))))
noncomputable def g__law_one_of : FS := (sRet (fSub (fVar 1) (fCall m__law_pick (aCons (fVar 0) (aCons (fMk bLen (aCons (fVar 1) aNil)) aNil)))))
noncomputable def m__law_one_of : FM := mOf N__law_one_of.length g__law_one_of
theorem d__law_one_of (T : Txt K mg) : FnD P w K mg base 2 T.a__law_one_of T.f__law_one_of ["tape", "items"] m__law_one_of := FnD.of T.F__law_one_of sc__law_one_of fun cd A outer s H gx => (ds_one (ds_ret (de_sub gx (de_var 1) (de_call ((d__law_pick T).up (by decide)) gx (by rfl) T.g__law_pick T.F__law_pick.kp T.b__law_pick (da_cons (de_var 0) (da_cons (de_callB (id := "len") ok_len (by rfl) T.n_len (by decide +kernel) (da_cons (de_var 1) da_nil)) da_nil)) (hn := (aCons_n (aCons_n aNil_n)))))))
noncomputable def g__law_integer : FS := (sRet (fAnd (fIsi "int" (fVar 0)) (fAnd (fNot (fIsi "bool" (fVar 0))) (fChain opLe opLe (fVar 1) (fVar 0) (fVar 2)))))
noncomputable def m__law_integer : FM := mOf N__law_integer.length g__law_integer
theorem d__law_integer (T : Txt K mg) : FnD P w K mg base 1 T.a__law_integer T.f__law_integer ["thing", "least", "most"] m__law_integer := FnD.of T.F__law_integer sc__law_integer fun cd A outer s H gx => (ds_one (ds_ret (de_and (de_isi (T := "int") (de_var 0) (by decide) (by rfl) T.n_isinstance (by rfl) T.n_int (by decide +kernel)) (de_and (de_not (de_isi (T := "bool") (de_var 0) (by decide) (by rfl) T.n_isinstance (by rfl) T.n_bool (by decide +kernel))) (de_one (de_chain ok_le ok_le (de_var 1) (de_var 0) (de_var 2)))))))
noncomputable def g__law_value_due : FS := (sSeq (sIf (fTest (fIsi "str" (fVar 0))) (sRet (fAnd (fOp opLe (fMk bLen (aCons (fVar 0) aNil)) (fC (.int 20))) (fOp opEq (fComp (iOf asStr (fVar 0)) [1] b1 (fNotT (fTest (fChain opLe opLe (fC (.str (Str.ofString " "))) (fVar 1) (fC (.str (Str.ofString "~")))))) (fVar 1)) (fMk mkLst aNil)))) sNil) (sRet (fOr (fOp opIs (fVar 0) (fC .non)) (fCall m__law_integer (aCons (fVar 0) (aCons (fOp subI (fC (.int 0)) (fOp powI (fC (.int 10)) (fC (.int 9)))) (aCons (fOp powI (fC (.int 10)) (fC (.int 9))) aNil)))))))
noncomputable def m__law_value_due : FM := mOf N__law_value_due.length g__law_value_due
theorem d__law_value_due (T : Txt K mg) : FnD P w K mg base 2 T.a__law_value_due T.f__law_value_due ["thing"] m__law_value_due := FnD.of T.F__law_value_due sc__law_value_due fun cd A outer s H gx => (ds_cons (ds_if (dt_val (de_isi (T := "str") (de_var 0) (by decide) (by rfl) T.n_isinstance (by rfl) T.n_str (by decide +kernel))) (ds_one (ds_ret (de_and (de_cmp ok_le (de_callB (id := "len") ok_len (by rfl) T.n_len (by decide +kernel) (da_cons (de_var 0) da_nil)) de_int) (de_one (de_cmp (ok_eq gx) (de_lc (own := [("sign", 1)]) gx.calm gx.nd (di_str (de_var 0)) (blkOk_by (N := N__law_value_due) (sc := defScope s__law_value_due) (by decide +kernel)) (tg1 1) (fun _ _ _ _ _ => (pg_name (i := 1) gx.nd rfl (.inl rfl))) (fun _ _ _ _ _ => (dts_one (dt_not (dt_chain ok_le ok_le de_str (de_var 1) de_str)))) (fun _ _ _ _ _ => (de_var 1))) (de_lst da_nil)))))) ds_nil) (ds_one (ds_ret (de_or (de_cmp ok_is (de_var 0) de_non) (de_one (de_call ((d__law_integer T).up (by decide)) gx (by rfl) T.g__law_integer T.F__law_integer.kp T.b__law_integer (da_cons (de_var 0) (da_cons (de_op ok_subI de_int (de_op ok_powI de_int de_int)) (da_cons (de_op ok_powI de_int de_int) da_nil))) (hn := (aCons_n (aCons_n (aCons_n aNil_n))))))))))
noncomputable def g__law_columns_due : FS := (sSeq (sIf (fOrT (fNotT (fTest (fIsi "tuple" (fVar 0)))) (fNotT (fTest (fChain opLe opLe (fC (.int 1)) (fMk bLen (aCons (fVar 0) aNil)) (fC (.int 6)))))) (sRet (fC (.bl false))) sNil) (sSeq (sFor (iOf asT (fVar 0)) (gN 1) (sSeq (sIf (fOrT (fNotT (fTest (fIsi "str" (fVar 1)))) (fOrT (fNotT (fTest (fChain opLe opLe (fC (.int 1)) (fMk bLen (aCons (fVar 1) aNil)) (fC (.int 8))))) (fTest (fOp opGt (fMt tcountD (fVar 0) (aCons (fVar 1) aNil)) (fC (.int 1)))))) (sRet (fC (.bl false))) sNil) (sSeq (sIf (fTest (fOp (inSeq false) (fVar 1) (fMk mkTup (aCons (fC (.str (Str.ofString "all"))) (aCons (fC (.str (Str.ofString "and"))) (aCons (fC (.str (Str.ofString "in"))) (aCons (fC (.str (Str.ofString "none"))) (aCons (fC (.str (Str.ofString "not"))) (aCons (fC (.str (Str.ofString "or"))) (aCons (fC (.str (Str.ofString "starts"))) aNil)))))))))) (sRet (fC (.bl false))) sNil) (sIf (fTest (fOp opNe (fComp (iOf asStr (fVar 1)) [2] b1 (fNotT (fTest (fChain opLe opLe (fC (.str (Str.ofString "a"))) (fVar 2) (fC (.str (Str.ofString "z")))))) (fVar 2)) (fMk mkLst aNil))) (sRet (fC (.bl false))) sNil)))) (sRet (fC (.bl true)))))
noncomputable def m__law_columns_due : FM := mOf N__law_columns_due.length g__law_columns_due
theorem d__law_columns_due (T : Txt K mg) : FnD P w K mg base 1 T.a__law_columns_due T.f__law_columns_due ["thing"] m__law_columns_due := FnD.of T.F__law_columns_due sc__law_columns_due fun cd A outer s H gx => (ds_cons (ds_if (dt_w (dw_or (dt_not (dt_val (de_isi (T := "tuple") (de_var 0) (by decide) (by rfl) T.n_isinstance (by rfl) T.n_tuple (by decide +kernel)))) (dw_or1 (dt_not (dt_chain ok_le ok_le de_int (de_callB (id := "len") ok_len (by rfl) T.n_len (by decide +kernel) (da_cons (de_var 0) da_nil)) de_int))))) (ds_one (ds_ret de_bl)) ds_nil) (ds_cons (ds_forR PassesOwn.never gx.calm (di_tup (de_var 0)) (dg_name 1 gx.nd) (ds_cons (ds_if (dt_w (dw_or (dt_not (dt_val (de_isi (T := "str") (de_var 1) (by decide) (by rfl) T.n_isinstance (by rfl) T.n_str (by decide +kernel)))) (dw_or (dt_not (dt_chain ok_le ok_le de_int (de_callB (id := "len") ok_len (by rfl) T.n_len (by decide +kernel) (da_cons (de_var 1) da_nil)) de_int)) (dw_or1 (dt_cmp ok_gt (de_tm (mt_tcount gx) tcountTy tcountOk PySem.F.plainAttrs_tuple PySem.F.slot_tuple_count PySem.F.type_tuple_count (de_var 0) (da_cons (de_var 1) da_nil)) de_int))))) (ds_one (ds_ret de_bl)) ds_nil) (ds_cons (ds_if (dt_cmp ok_in (de_var 1) (de_tup (da_cons de_str (da_cons de_str (da_cons de_str (da_cons de_str (da_cons de_str (da_cons de_str (da_cons de_str da_nil))))))))) (ds_one (ds_ret de_bl)) ds_nil) (ds_one (ds_if (dt_cmp (ok_ne gx) (de_lc (own := [("sign", 2)]) gx.calm gx.nd (di_str (de_var 1)) (blkOk_by (N := N__law_columns_due) (sc := defScope s__law_columns_due) (by decide +kernel)) (tg1 2) (fun _ _ _ _ _ => (pg_name (i := 2) gx.nd rfl (.inl rfl))) (fun _ _ _ _ _ => (dts_one (dt_not (dt_chain ok_le ok_le de_str (de_var 2) de_str)))) (fun _ _ _ _ _ => (de_var 2))) (de_lst da_nil)) (ds_one (ds_ret de_bl)) ds_nil))))) (ds_one (ds_ret de_bl))))
noncomputable def g__law_row_due : FS := (sSeq (sIf (fOrT (fNotT (fTest (fIsi "tuple" (fVar 1)))) (fOrT (fTest (fOp opNe (fMk bLen (aCons (fVar 1) aNil)) (fC (.int 2)))) (fNotT (fTest (fCall m__law_integer (aCons (fSub (fVar 1) (fC (.int 0))) (aCons (fC (.int 1)) (aCons (fOp powI (fC (.int 10)) (fC (.int 6))) aNil)))))))) (sRet (fC (.bl false))) sNil) (sSeq (sIf (fOrT (fNotT (fTest (fIsi "tuple" (fSub (fVar 1) (fC (.int 1)))))) (fTest (fOp opNe (fMk bLen (aCons (fSub (fVar 1) (fC (.int 1))) aNil)) (fMk bLen (aCons (fVar 0) aNil))))) (sRet (fC (.bl false))) sNil) (sRet (fOp (inSeq true) (fC (.bl false)) (fComp (iOf asT (fSub (fVar 1) (fC (.int 1)))) [2] b1 tTrue (fCall m__law_value_due (aCons (fVar 2) aNil)))))))
noncomputable def m__law_row_due : FM := mOf N__law_row_due.length g__law_row_due
theorem d__law_row_due (T : Txt K mg) : FnD P w K mg base 3 T.a__law_row_due T.f__law_row_due ["columns", "thing"] m__law_row_due := FnD.of T.F__law_row_due sc__law_row_due fun cd A outer s H gx => (ds_cons (ds_if (dt_w (dw_or (dt_not (dt_val (de_isi (T := "tuple") (de_var 1) (by decide) (by rfl) T.n_isinstance (by rfl) T.n_tuple (by decide +kernel)))) (dw_or (dt_cmp (ok_ne gx) (de_callB (id := "len") ok_len (by rfl) T.n_len (by decide +kernel) (da_cons (de_var 1) da_nil)) de_int) (dw_or1 (dt_not (dt_val (de_call ((d__law_integer T).up (by decide)) gx (by rfl) T.g__law_integer T.F__law_integer.kp T.b__law_integer (da_cons (de_sub gx (de_var 1) de_int) (da_cons de_int (da_cons (de_op ok_powI de_int de_int) da_nil))) (hn := (aCons_n (aCons_n (aCons_n aNil_n))))))))))) (ds_one (ds_ret de_bl)) ds_nil) (ds_cons (ds_if (dt_w (dw_or (dt_not (dt_val (de_isi (T := "tuple") (de_sub gx (de_var 1) de_int) (by decide) (by rfl) T.n_isinstance (by rfl) T.n_tuple (by decide +kernel)))) (dw_or1 (dt_cmp (ok_ne gx) (de_callB (id := "len") ok_len (by rfl) T.n_len (by decide +kernel) (da_cons (de_sub gx (de_var 1) de_int) da_nil)) (de_callB (id := "len") ok_len (by rfl) T.n_len (by decide +kernel) (da_cons (de_var 0) da_nil)))))) (ds_one (ds_ret de_bl)) ds_nil) (ds_one (ds_ret (de_cmp ok_notin de_bl (de_lc (own := [("part", 2)]) gx.calm gx.nd (di_tup (de_sub gx (de_var 1) de_int)) (blkOk_by (N := N__law_row_due) (sc := defScope s__law_row_due) (by decide +kernel)) (tg1 2) (fun _ _ _ _ _ => (pg_name (i := 2) gx.nd rfl (.inl rfl))) (fun _ _ _ _ _ => dts_nil) (fun _ _ _ _ _ => (de_call ((d__law_value_due T).up (by decide)) gx.blk (by rfl) T.g__law_value_due T.F__law_value_due.kp T.b__law_value_due (da_cons (de_var 2) da_nil) (hn := (aCons_n aNil_n))))))))))
noncomputable def g__law_thing : FS := (sSeq (sAsg (fMk mkLst (aCons (fC .non) (aCons (fC (.int 0)) (aCons (fC (.int 1)) (aCons (fUn negI (fC (.int 1))) (aCons (fC (.bl true)) (aCons (fC (.bl false)) (aCons (fOp powI (fC (.int 10)) (fC (.int 9))) (aCons (fOp opAdd (fOp powI (fC (.int 10)) (fC (.int 9))) (fC (.int 1))) (aCons (fOp subI (fC (.int 0)) (fOp powI (fC (.int 10)) (fC (.int 9)))) (aCons (fOp subI (fOp subI (fC (.int 0)) (fOp powI (fC (.int 10)) (fC (.int 9)))) (fC (.int 1))) (aCons (fOp powI (fC (.int 10)) (fC (.int 6))) (aCons (fOp opAdd (fOp powI (fC (.int 10)) (fC (.int 6))) (fC (.int 1))) aNil))))))))))))) (gN 1)) (sSeq (sAsg (fOp opAdd (fVar 1) (fMk mkLst (aCons (fC (.str (Str.ofString ""))) (aCons (fC (.str (Str.ofString "a"))) (aCons (fC (.str (Str.ofString "ab"))) (aCons (fC (.str (Str.ofString "A"))) (aCons (fC (.str (Str.ofString "a1"))) (aCons (fC (.str (Str.ofString "all"))) (aCons (fC (.str (Str.ofString "starts"))) (aCons (fC (.str (Str.ofString "order"))) (aCons (fC (.str (Str.ofString "abcdefgh"))) (aCons (fC (.str (Str.ofString "abcdefghi"))) (aCons (fC (.str (Str.ofString " "))) (aCons (fC (.str (Str.ofString "~"))) (aCons (fC (.str (Str.ofString "\n"))) (aCons (fC (.str (Str.ofString "a\n"))) aNil)))))))))))))))) (gN 1)) (sSeq (sAsg (fOp opAdd (fVar 1) (fMk mkLst (aCons (fC (.str (Str.ofString "and"))) (aCons (fC (.str (Str.ofString "in"))) (aCons (fC (.str (Str.ofString "none"))) (aCons (fC (.str (Str.ofString "not"))) (aCons (fC (.str (Str.ofString "or"))) aNil))))))) (gN 1)) (sSeq (sAsg (fOp opAdd (fVar 1) (fMk mkLst (aCons (fOp opMul (fC (.str (Str.ofString "x"))) (fC (.int 20))) (aCons (fOp opMul (fC (.str (Str.ofString "x"))) (fC (.int 21))) (aCons (fMk mkTup aNil) (aCons (fMk mkLst aNil) (aCons (fC (.dct [])) (aCons (fMk mkTup (aCons (fC (.str (Str.ofString "a"))) aNil)) (aCons (fMk mkLst (aCons (fC (.str (Str.ofString "a"))) aNil)) (aCons (fMk mkTup (aCons (fC (.int 1)) (aCons (fMk mkTup (aCons (fC (.int 2)) aNil)) aNil))) (aCons (fMk mkTup (aCons (fC (.int 1)) aNil)) (aCons (fOp powI (fC (.int 10)) (fC (.int 59))) aNil)))))))))))) (gN 1)) (sRet (fCall m__law_one_of (aCons (fVar 0) (aCons (fVar 1) aNil))))))))
noncomputable def m__law_thing : FM := mOf N__law_thing.length g__law_thing
theorem d__law_thing (T : Txt K mg) : FnD P w K mg base 3 T.a__law_thing T.f__law_thing ["tape"] m__law_thing := FnD.of T.F__law_thing sc__law_thing fun cd A outer s H gx => (ds_cons (ds_asg (de_lst (da_cons de_non (da_cons de_int (da_cons de_int (da_cons (de_neg de_int) (da_cons de_bl (da_cons de_bl (da_cons (de_op ok_powI de_int de_int) (da_cons (de_op ok_add (de_op ok_powI de_int de_int) de_int) (da_cons (de_op ok_subI de_int (de_op ok_powI de_int de_int)) (da_cons (de_op ok_subI (de_op ok_subI de_int (de_op ok_powI de_int de_int)) de_int) (da_cons (de_op ok_powI de_int de_int) (da_cons (de_op ok_add (de_op ok_powI de_int de_int) de_int) da_nil))))))))))))) (dg_name 1 gx.nd)) (ds_cons (ds_asg (de_op ok_add (de_var 1) (de_lst (da_cons de_str (da_cons de_str (da_cons de_str (da_cons de_str (da_cons de_str (da_cons de_str (da_cons de_str (da_cons de_str (da_cons de_str (da_cons de_str (da_cons de_str (da_cons de_str (da_cons de_str (da_cons de_str da_nil)))))))))))))))) (dg_name 1 gx.nd)) (ds_cons (ds_asg (de_op ok_add (de_var 1) (de_lst (da_cons de_str (da_cons de_str (da_cons de_str (da_cons de_str (da_cons de_str da_nil))))))) (dg_name 1 gx.nd)) (ds_cons (ds_asg (de_op ok_add (de_var 1) (de_lst (da_cons (de_op ok_mul de_str de_int) (da_cons (de_op ok_mul de_str de_int) (da_cons (de_tup da_nil) (da_cons (de_lst da_nil) (da_cons de_dict0 (da_cons (de_tup (da_cons de_str da_nil)) (da_cons (de_lst (da_cons de_str da_nil)) (da_cons (de_tup (da_cons de_int (da_cons (de_tup (da_cons de_int da_nil)) da_nil))) (da_cons (de_tup (da_cons de_int da_nil)) (da_cons (de_op ok_powI de_int de_int) da_nil)))))))))))) (dg_name 1 gx.nd)) (ds_one (ds_ret (de_call ((d__law_one_of T).up (by decide)) gx (by rfl) T.g__law_one_of T.F__law_one_of.kp T.b__law_one_of (da_cons (de_var 0) (da_cons (de_var 1) da_nil)) (hn := (aCons_n (aCons_n aNil_n))))))))))
noncomputable def g__law_bent (rec_ : FM) : FS := (sSeq (sIf (fOrT (fNotT (fTest (fIsi "tuple" (fVar 1)))) (fOrT (fTest (fOp opEqA (fVar 1) (fMk mkTup aNil))) (fTest (fOp opEq (fCall m__law_pick (aCons (fVar 0) (aCons (fC (.int 7)) aNil))) (fC (.int 0)))))) (sRet (fCall m__law_thing (aCons (fVar 0) aNil))) sNil) (sSeq (sPar (par2 2 3) (aCons (fCall m__law_pick (aCons (fVar 0) (aCons (fMk bLen (aCons (fVar 1) aNil)) aNil))) (aCons (fCall m__law_pick (aCons (fVar 0) (aCons (fC (.int 9)) aNil))) aNil))) (sSeq (sIf (fTest (fOp opEq (fVar 3) (fC (.int 0)))) (sRet (fOp opAdd (fSlice (fVar 1) oNone (oSome (fVar 2))) (fSlice (fVar 1) (oSome (fOp opAdd (fVar 2) (fC (.int 1)))) oNone))) sNil) (sSeq (sIf (fTest (fOp opEq (fVar 3) (fC (.int 1)))) (sRet (fOp opAdd (fSlice (fVar 1) oNone (oSome (fOp opAdd (fVar 2) (fC (.int 1))))) (fSlice (fVar 1) (oSome (fVar 2)) oNone))) sNil) (sSeq (sIf (fTest (fOp opEq (fVar 3) (fC (.int 2)))) (sRet (fOp opAdd (fOp opAdd (fSlice (fVar 1) oNone (oSome (fVar 2))) (fMk mkTup (aCons (fCall m__law_thing (aCons (fVar 0) aNil)) aNil))) (fSlice (fVar 1) (oSome (fVar 2)) oNone))) sNil) (sSeq (sIf (fTest (fOp opEq (fVar 3) (fC (.int 3)))) (sRet (fMk bList (aCons (fVar 1) aNil))) sNil) (sRet (fOp opAdd (fOp opAdd (fSlice (fVar 1) oNone (oSome (fVar 2))) (fMk mkTup (aCons (fCall rec_ (aCons (fVar 0) (aCons (fSub (fVar 1) (fVar 2)) aNil))) aNil))) (fSlice (fVar 1) (oSome (fOp opAdd (fVar 2) (fC (.int 1)))) oNone)))))))))
noncomputable def m__law_bent : Nat → FM
  | 0 => fun _ _ => none
  | n + 1 => mOf N__law_bent.length (g__law_bent (m__law_bent n))
theorem d__law_bent (T : Txt K mg) : ∀ n : Nat, FnD P w K mg base (3 + n) T.a__law_bent T.f__law_bent ["tape", "thing"] (m__law_bent n)
  | 0 => FnD.nil
  | n + 1 => by
    have ih : FnD P w K mg base (3 + n) T.a__law_bent T.f__law_bent ["tape", "thing"] (m__law_bent n) := d__law_bent T n
    exact FnD.of (k := 3 + n) T.F__law_bent sc__law_bent fun cd A outer s H gx => (ds_cons (ds_if (dt_w (dw_or (dt_not (dt_val (de_isi (T := "tuple") (de_var 1) (by decide) (by rfl) T.n_isinstance (by rfl) T.n_tuple (by decide +kernel)))) (dw_or (dt_cmp (ok_eqA gx) (de_var 1) (de_tup da_nil)) (dw_or1 (dt_cmp (ok_eq gx) (de_call ((d__law_pick T).up (by omega)) gx (by rfl) T.g__law_pick T.F__law_pick.kp T.b__law_pick (da_cons (de_var 0) (da_cons de_int da_nil)) (hn := (aCons_n (aCons_n aNil_n)))) de_int))))) (ds_one (ds_ret (de_call ((d__law_thing T).up (by omega)) gx (by rfl) T.g__law_thing T.F__law_thing.kp T.b__law_thing (da_cons (de_var 0) da_nil) (hn := (aCons_n aNil_n))))) ds_nil) (ds_cons (ds_par2 2 3 gx rfl rfl (by decide) rfl rfl (da_cons (de_call ((d__law_pick T).up (by omega)) gx (by rfl) T.g__law_pick T.F__law_pick.kp T.b__law_pick (da_cons (de_var 0) (da_cons (de_callB (id := "len") ok_len (by rfl) T.n_len (by decide +kernel) (da_cons (de_var 1) da_nil)) da_nil)) (hn := (aCons_n (aCons_n aNil_n)))) (da_cons (de_call ((d__law_pick T).up (by omega)) gx (by rfl) T.g__law_pick T.F__law_pick.kp T.b__law_pick (da_cons (de_var 0) (da_cons de_int da_nil)) (hn := (aCons_n (aCons_n aNil_n)))) da_nil))) (ds_cons (ds_if (dt_cmp (ok_eq gx) (de_var 3) de_int) (ds_one (ds_ret (de_op ok_add (de_slice (de_var 1) do_none (do_some (de_var 2))) (de_slice (de_var 1) (do_some (de_op ok_add (de_var 2) de_int)) do_none)))) ds_nil) (ds_cons (ds_if (dt_cmp (ok_eq gx) (de_var 3) de_int) (ds_one (ds_ret (de_op ok_add (de_slice (de_var 1) do_none (do_some (de_op ok_add (de_var 2) de_int))) (de_slice (de_var 1) (do_some (de_var 2)) do_none)))) ds_nil) (ds_cons (ds_if (dt_cmp (ok_eq gx) (de_var 3) de_int) (ds_one (ds_ret (de_op ok_add (de_op ok_add (de_slice (de_var 1) do_none (do_some (de_var 2))) (de_tup (da_cons (de_call ((d__law_thing T).up (by omega)) gx (by rfl) T.g__law_thing T.F__law_thing.kp T.b__law_thing (da_cons (de_var 0) da_nil) (hn := (aCons_n aNil_n))) da_nil))) (de_slice (de_var 1) (do_some (de_var 2)) do_none)))) ds_nil) (ds_cons (ds_if (dt_cmp (ok_eq gx) (de_var 3) de_int) (ds_one (ds_ret (de_callTy (T := "list") (ok_list gx) (by rfl) T.n_list (by decide +kernel) (da_cons (de_var 1) da_nil)))) ds_nil) (ds_one (ds_ret (de_op ok_add (de_op ok_add (de_slice (de_var 1) do_none (do_some (de_var 2))) (de_tup (da_cons (de_call ih gx (by rfl) T.g__law_bent T.F__law_bent.kp T.b__law_bent (da_cons (de_var 0) (da_cons (de_sub gx (de_var 1) (de_var 2)) da_nil)) (hn := (aCons_n (aCons_n aNil_n)))) da_nil))) (de_slice (de_var 1) (do_some (de_op ok_add (de_var 2) de_int)) do_none))))))))))
noncomputable def g__law_told : FS := (sSeq (sAsg (fMk bReprA (aCons (fVar 2) aNil)) (gN 3)) (sSeq (sFor (iOf asL (fMk mkLst (aCons (fMk mkTup (aCons (fCall m_is_value (aCons (fVar 2) aNil)) (aCons (fCall m__law_value_due (aCons (fVar 2) aNil)) aNil))) (aCons (fMk mkTup (aCons (fCall m_is_columns (aCons (fVar 2) aNil)) (aCons (fCall m__law_columns_due (aCons (fVar 2) aNil)) aNil))) (aCons (fMk mkTup (aCons (fCall m_is_row (aCons (fVar 1) (aCons (fVar 2) aNil))) (aCons (fCall m__law_row_due (aCons (fVar 1) (aCons (fVar 2) aNil))) aNil))) aNil))))) (gT 2 (gCons' (gN 4) (gCons' (gN 5) gNil'))) (sIf (fOrT (fNotT (fTest (fIsi "bool" (fVar 4)))) (fTest (fOp opNe (fVar 4) (fVar 5)))) (sRet (fC (.bl false))) sNil)) (sRet (fOp opEqS (fMk bReprA (aCons (fVar 2) aNil)) (fVar 3)))))
noncomputable def m__law_told : FM := mOf N__law_told.length g__law_told
theorem d__law_told (T : Txt K mg) : FnD P w K mg base 4 T.a__law_told T.f__law_told ["tape", "columns", "thing"] m__law_told := FnD.of T.F__law_told sc__law_told fun cd A outer s H gx => (ds_cons (ds_asg (de_callB (id := "repr") (ok_reprA gx) (by rfl) T.n_repr (by decide +kernel) (da_cons (de_var 2) da_nil)) (dg_name 3 gx.nd)) (ds_cons (ds_forR PassesOwn.never gx.calm (di_lst (de_lst (da_cons (de_tup (da_cons (de_call ((d_is_value T).up (by decide)) gx (by rfl) T.g_is_value T.F_is_value.kp T.b_is_value (da_cons (de_var 2) da_nil) (hn := (aCons_n aNil_n))) (da_cons (de_call ((d__law_value_due T).up (by decide)) gx (by rfl) T.g__law_value_due T.F__law_value_due.kp T.b__law_value_due (da_cons (de_var 2) da_nil) (hn := (aCons_n aNil_n))) da_nil))) (da_cons (de_tup (da_cons (de_call ((d_is_columns T).up (by decide)) gx (by rfl) T.g_is_columns T.F_is_columns.kp T.b_is_columns (da_cons (de_var 2) da_nil) (hn := (aCons_n aNil_n))) (da_cons (de_call ((d__law_columns_due T).up (by decide)) gx (by rfl) T.g__law_columns_due T.F__law_columns_due.kp T.b__law_columns_due (da_cons (de_var 2) da_nil) (hn := (aCons_n aNil_n))) da_nil))) (da_cons (de_tup (da_cons (de_call ((d_is_row T).up (by decide)) gx (by rfl) T.g_is_row T.F_is_row.kp T.b_is_row (da_cons (de_var 1) (da_cons (de_var 2) da_nil)) (hn := (aCons_n (aCons_n aNil_n)))) (da_cons (de_call ((d__law_row_due T).up (by decide)) gx (by rfl) T.g__law_row_due T.F__law_row_due.kp T.b__law_row_due (da_cons (de_var 1) (da_cons (de_var 2) da_nil)) (hn := (aCons_n (aCons_n aNil_n)))) da_nil))) da_nil))))) (dg_tup gx.calm (dgs_cons (dg_name 4 gx.nd) (dgs_cons (dg_name 5 gx.nd) dgs_nil))) (ds_one (ds_if (dt_w (dw_or (dt_not (dt_val (de_isi (T := "bool") (de_var 4) (by decide) (by rfl) T.n_isinstance (by rfl) T.n_bool (by decide +kernel)))) (dw_or1 (dt_cmp (ok_ne gx) (de_var 4) (de_var 5))))) (ds_one (ds_ret de_bl)) ds_nil))) (ds_one (ds_ret (de_cmp ok_eqS (de_callB (id := "repr") (ok_reprA gx) (by rfl) T.n_repr (by decide +kernel) (da_cons (de_var 2) da_nil)) (de_var 3))))))
noncomputable def g_law : FS := (sSeq (sFor (iOfA asR1 (aCons (fMk bMax (aCons (fC (.int 2)) (aCons (fMk bMin (aCons (fC (.int 5)) (aCons (fMk bLen (aCons (fVar 0) aNil)) aNil))) aNil))) aNil)) (gN 1) (sSeq (sAsg (fCall m__law_tape (aCons (fVar 0) (aCons (fVar 1) aNil))) (gN 2)) (sSeq (sAsg (fMk mkLst (aCons (fC (.str (Str.ofString "size"))) (aCons (fC (.str (Str.ofString "name"))) (aCons (fC (.str (Str.ofString "kind"))) (aCons (fC (.str (Str.ofString "x"))) (aCons (fC (.str (Str.ofString "abcdefgh"))) (aCons (fC (.str (Str.ofString "oral"))) aNil))))))) (gN 3)) (sSeq (sAsg (fMk bTuple (aCons (fSlice (fVar 3) oNone (oSome (fOp opAdd (fC (.int 1)) (fCall m__law_pick (aCons (fVar 2) (aCons (fC (.int 6)) aNil)))))) aNil)) (gN 4)) (sSeq (sAsg (fMk mkTup (aCons (fOp opAdd (fC (.int 1)) (fCall m__law_pick (aCons (fVar 2) (aCons (fOp powI (fC (.int 10)) (fC (.int 6))) aNil)))) (aCons (fMk bTuple (aCons (fComp (iOf asT (fVar 4)) [10] b1 tTrue (fCall m__law_one_of (aCons (fVar 2) (aCons (fMk mkLst (aCons (fC .non) (aCons (fC (.int 0)) (aCons (fC (.int 7)) (aCons (fC (.str (Str.ofString ""))) (aCons (fC (.str (Str.ofString "a b"))) aNil)))))) aNil)))) aNil)) aNil))) (gN 5)) (sFor (iOf asL (fMk mkLst (aCons (fVar 4) (aCons (fVar 5) (aCons (fSub (fVar 4) (fC (.int 0))) (aCons (fSub (fSub (fVar 5) (fC (.int 1))) (fC (.int 0))) (aCons (fCall m__law_thing (aCons (fVar 2) aNil)) aNil))))))) (gN 6) (sSeq (sIf (fNotT (fTest (fCall m__law_told (aCons (fVar 2) (aCons (fVar 4) (aCons (fVar 6) aNil)))))) (sRet (fC (.bl false))) sNil) (sFor (iOfA asR1 (aCons (fC (.int 6)) aNil)) (gN 7) (sSeq (sAsg (fCall (m__law_bent 12) (aCons (fVar 2) (aCons (fVar 6) aNil))) (gN 8)) (sSeq (sIf (fTest (fOp opGt (fVar 7) (fC (.int 3)))) (sAsg (fCall (m__law_bent 12) (aCons (fVar 2) (aCons (fVar 8) aNil))) (gN 8)) sNil) (sIf (fNotT (fTest (fCall m__law_told (aCons (fVar 2) (aCons (fVar 4) (aCons (fVar 8) aNil)))))) (sRet (fC (.bl false))) sNil))))))))))) (sSeq (sFor (iOf asL (fMk mkLst (aCons (fC (.str (Str.ofString "all"))) (aCons (fC (.str (Str.ofString "and"))) (aCons (fC (.str (Str.ofString "in"))) (aCons (fC (.str (Str.ofString "none"))) (aCons (fC (.str (Str.ofString "not"))) (aCons (fC (.str (Str.ofString "or"))) (aCons (fC (.str (Str.ofString "starts"))) aNil))))))))) (gN 9) (sIf (fOrT (fTest (fOp opIsnt (fCall m_is_columns (aCons (fMk mkTup (aCons (fC (.str (Str.ofString "x"))) (aCons (fVar 9) aNil))) aNil)) (fC (.bl false)))) (fTest (fOp opIsnt (fCall m_is_columns (aCons (fMk mkTup (aCons (fOp opAdd (fVar 9) (fC (.str (Str.ofString "x")))) (aCons (fC (.str (Str.ofString "x"))) aNil))) aNil)) (fC (.bl true))))) (sRet (fC (.bl false))) sNil)) (sRet (fC (.bl true)))))
noncomputable def m_law : FM := mOf N_law.length g_law
theorem d_law (T : Txt K mg) : FnD P w K mg base 16 T.a_law T.f_law ["script"] m_law := FnD.of T.F_law sc_law fun cd A outer s H gx => (ds_cons (ds_forR PassesOwn.never gx.calm (di_range1 (by rfl) T.n_range (da_cons (de_callB (id := "max") (ok_max gx) (by rfl) T.n_max (by decide +kernel) (da_cons de_int (da_cons (de_callB (id := "min") (ok_min gx) (by rfl) T.n_min (by decide +kernel) (da_cons de_int (da_cons (de_callB (id := "len") ok_len (by rfl) T.n_len (by decide +kernel) (da_cons (de_var 0) da_nil)) da_nil))) da_nil))) da_nil)) (dg_name 1 gx.nd) (ds_cons (ds_asg (de_call ((d__law_tape T).up (by decide)) gx (by rfl) T.g__law_tape T.F__law_tape.kp T.b__law_tape (da_cons (de_var 0) (da_cons (de_var 1) da_nil)) (hn := (aCons_n (aCons_n aNil_n)))) (dg_name 2 gx.nd)) (ds_cons (ds_asg (de_lst (da_cons de_str (da_cons de_str (da_cons de_str (da_cons de_str (da_cons de_str (da_cons de_str da_nil))))))) (dg_name 3 gx.nd)) (ds_cons (ds_asg (de_callTy (T := "tuple") ok_tuple (by rfl) T.n_tuple (by decide +kernel) (da_cons (de_slice (de_var 3) do_none (do_some (de_op ok_add de_int (de_call ((d__law_pick T).up (by decide)) gx (by rfl) T.g__law_pick T.F__law_pick.kp T.b__law_pick (da_cons (de_var 2) (da_cons de_int da_nil)) (hn := (aCons_n (aCons_n aNil_n))))))) da_nil)) (dg_name 4 gx.nd)) (ds_cons (ds_asg (de_tup (da_cons (de_op ok_add de_int (de_call ((d__law_pick T).up (by decide)) gx (by rfl) T.g__law_pick T.F__law_pick.kp T.b__law_pick (da_cons (de_var 2) (da_cons (de_op ok_powI de_int de_int) da_nil)) (hn := (aCons_n (aCons_n aNil_n))))) (da_cons (de_callTy (T := "tuple") ok_tuple (by rfl) T.n_tuple (by decide +kernel) (da_cons (de_lc (own := [("name", 10)]) gx.calm gx.nd (di_tup (de_var 4)) (blkOk_by (N := N_law) (sc := defScope s_law) (by decide +kernel)) (tg1 10) (fun _ _ _ _ _ => (pg_name (i := 10) gx.nd rfl (.inl rfl))) (fun _ _ _ _ _ => dts_nil) (fun _ _ _ _ _ => (de_call ((d__law_one_of T).up (by decide)) gx.blk (by rfl) T.g__law_one_of T.F__law_one_of.kp T.b__law_one_of (da_cons (de_var 2) (da_cons (de_lst (da_cons de_non (da_cons de_int (da_cons de_int (da_cons de_str (da_cons de_str da_nil)))))) da_nil)) (hn := (aCons_n (aCons_n aNil_n)))))) da_nil)) da_nil))) (dg_name 5 gx.nd)) (ds_one (ds_forR PassesOwn.never gx.calm (di_lst (de_lst (da_cons (de_var 4) (da_cons (de_var 5) (da_cons (de_sub gx (de_var 4) de_int) (da_cons (de_sub gx (de_sub gx (de_var 5) de_int) de_int) (da_cons (de_call ((d__law_thing T).up (by decide)) gx (by rfl) T.g__law_thing T.F__law_thing.kp T.b__law_thing (da_cons (de_var 2) da_nil) (hn := (aCons_n aNil_n))) da_nil))))))) (dg_name 6 gx.nd) (ds_cons (ds_if (dt_not (dt_val (de_call ((d__law_told T).up (by decide)) gx (by rfl) T.g__law_told T.F__law_told.kp T.b__law_told (da_cons (de_var 2) (da_cons (de_var 4) (da_cons (de_var 6) da_nil))) (hn := (aCons_n (aCons_n (aCons_n aNil_n))))))) (ds_one (ds_ret de_bl)) ds_nil) (ds_one (ds_forR PassesOwn.never gx.calm (di_range1 (by rfl) T.n_range (da_cons de_int da_nil)) (dg_name 7 gx.nd) (ds_cons (ds_asg (de_call ((d__law_bent T 12).up (by decide)) gx (by rfl) T.g__law_bent T.F__law_bent.kp T.b__law_bent (da_cons (de_var 2) (da_cons (de_var 6) da_nil)) (hn := (aCons_n (aCons_n aNil_n)))) (dg_name 8 gx.nd)) (ds_cons (ds_if (dt_cmp ok_gt (de_var 7) de_int) (ds_one (ds_asg (de_call ((d__law_bent T 12).up (by decide)) gx (by rfl) T.g__law_bent T.F__law_bent.kp T.b__law_bent (da_cons (de_var 2) (da_cons (de_var 8) da_nil)) (hn := (aCons_n (aCons_n aNil_n)))) (dg_name 8 gx.nd))) ds_nil) (ds_one (ds_if (dt_not (dt_val (de_call ((d__law_told T).up (by decide)) gx (by rfl) T.g__law_told T.F__law_told.kp T.b__law_told (da_cons (de_var 2) (da_cons (de_var 4) (da_cons (de_var 8) da_nil))) (hn := (aCons_n (aCons_n (aCons_n aNil_n))))))) (ds_one (ds_ret de_bl)) ds_nil)))))))))))))) (ds_cons (ds_forR PassesOwn.never gx.calm (di_lst (de_lst (da_cons de_str (da_cons de_str (da_cons de_str (da_cons de_str (da_cons de_str (da_cons de_str (da_cons de_str da_nil))))))))) (dg_name 9 gx.nd) (ds_one (ds_if (dt_w (dw_or (dt_cmp ok_isnt (de_call ((d_is_columns T).up (by decide)) gx (by rfl) T.g_is_columns T.F_is_columns.kp T.b_is_columns (da_cons (de_tup (da_cons de_str (da_cons (de_var 9) da_nil))) da_nil) (hn := (aCons_n aNil_n))) de_bl) (dw_or1 (dt_cmp ok_isnt (de_call ((d_is_columns T).up (by decide)) gx (by rfl) T.g_is_columns T.F_is_columns.kp T.b_is_columns (da_cons (de_tup (da_cons (de_op ok_add (de_var 9) de_str) (da_cons de_str da_nil))) da_nil) (hn := (aCons_n aNil_n))) de_bl)))) (ds_one (ds_ret de_bl)) ds_nil))) (ds_one (ds_ret de_bl))))
end LW
namespace LW
open PySem PySem.Spec PyProof.Rows L2 DL TL
theorem e_tape : m__law_tape = mTape := rfl
theorem e_pick : m__law_pick = mPick := rfl
theorem e_one : m__law_one_of = mOne := rfl
def asc (n : Nat) (x : Str) : Bool := decide (x.length ≤ n) && (tl x).all fun c => decide (c < 128)
theorem asc_gs {n : Nat} {x : Str} (h : asc n x = true) : GS n x := by
  unfold asc at h
  rw [Bool.and_eq_true] at h
  exact ⟨of_decide_eq_true h.1, fun c hc => of_decide_eq_true (List.all_eq_true.mp h.2 c hc)⟩
theorem gs_asc {n : Nat} {x : Str} (h : GS n x) : asc n x = true := by
  unfold asc
  rw [Bool.and_eq_true]
  exact ⟨decide_eq_true h.1, List.all_eq_true.mpr fun c hc => decide_eq_true (h.2 c hc)⟩
theorem eqL {a b : Str} {c : Bool} (ha : asc 16 a = true) (hb : asc 16 b = true) (h : (a == b) = c) : opEq (.str a) (.str b) = some (.bl c) := by
  rw [← h]
  exact opEq_fv (m := 16) (n := 16) (a := .str a) (b := .str b) (asc_gs ha) (asc_gs hb)
theorem qs : opEq (.str (Str.ofString "all")) (.str (Str.ofString "all")) = some (.bl true) ∧
  opEq (.str (Str.ofString "all")) (.str (Str.ofString "not")) = some (.bl false) ∧
  opEq (.str (Str.ofString "all")) (.str (Str.ofString "and")) = some (.bl false) ∧
  opEq (.str (Str.ofString "all")) (.str (Str.ofString "or")) = some (.bl false) ∧
  opEq (.str (Str.ofString "all")) (.str (Str.ofString "equal")) = some (.bl false) ∧
  opEq (.str (Str.ofString "all")) (.str (Str.ofString "less")) = some (.bl false) ∧
  opEq (.str (Str.ofString "all")) (.str (Str.ofString "starts")) = some (.bl false) ∧
  opEq (.str (Str.ofString "equal")) (.str (Str.ofString "all")) = some (.bl false) ∧
  opEq (.str (Str.ofString "equal")) (.str (Str.ofString "not")) = some (.bl false) ∧
  opEq (.str (Str.ofString "equal")) (.str (Str.ofString "and")) = some (.bl false) ∧
  opEq (.str (Str.ofString "equal")) (.str (Str.ofString "or")) = some (.bl false) ∧
  opEq (.str (Str.ofString "equal")) (.str (Str.ofString "equal")) = some (.bl true) ∧
  opEq (.str (Str.ofString "equal")) (.str (Str.ofString "less")) = some (.bl false) ∧
  opEq (.str (Str.ofString "equal")) (.str (Str.ofString "starts")) = some (.bl false) ∧
  opEq (.str (Str.ofString "less")) (.str (Str.ofString "all")) = some (.bl false) ∧
  opEq (.str (Str.ofString "less")) (.str (Str.ofString "not")) = some (.bl false) ∧
  opEq (.str (Str.ofString "less")) (.str (Str.ofString "and")) = some (.bl false) ∧
  opEq (.str (Str.ofString "less")) (.str (Str.ofString "or")) = some (.bl false) ∧
  opEq (.str (Str.ofString "less")) (.str (Str.ofString "equal")) = some (.bl false) ∧
  opEq (.str (Str.ofString "less")) (.str (Str.ofString "less")) = some (.bl true) ∧
  opEq (.str (Str.ofString "less")) (.str (Str.ofString "starts")) = some (.bl false) ∧
  opEq (.str (Str.ofString "starts")) (.str (Str.ofString "all")) = some (.bl false) ∧
  opEq (.str (Str.ofString "starts")) (.str (Str.ofString "not")) = some (.bl false) ∧
  opEq (.str (Str.ofString "starts")) (.str (Str.ofString "and")) = some (.bl false) ∧
  opEq (.str (Str.ofString "starts")) (.str (Str.ofString "or")) = some (.bl false) ∧
  opEq (.str (Str.ofString "starts")) (.str (Str.ofString "equal")) = some (.bl false) ∧
  opEq (.str (Str.ofString "starts")) (.str (Str.ofString "less")) = some (.bl false) ∧
  opEq (.str (Str.ofString "starts")) (.str (Str.ofString "starts")) = some (.bl true) ∧
  opEq (.str (Str.ofString "one_of")) (.str (Str.ofString "all")) = some (.bl false) ∧
  opEq (.str (Str.ofString "one_of")) (.str (Str.ofString "not")) = some (.bl false) ∧
  opEq (.str (Str.ofString "one_of")) (.str (Str.ofString "and")) = some (.bl false) ∧
  opEq (.str (Str.ofString "one_of")) (.str (Str.ofString "or")) = some (.bl false) ∧
  opEq (.str (Str.ofString "one_of")) (.str (Str.ofString "equal")) = some (.bl false) ∧
  opEq (.str (Str.ofString "one_of")) (.str (Str.ofString "less")) = some (.bl false) ∧
  opEq (.str (Str.ofString "one_of")) (.str (Str.ofString "starts")) = some (.bl false) ∧
  opEq (.str (Str.ofString "not")) (.str (Str.ofString "all")) = some (.bl false) ∧
  opEq (.str (Str.ofString "not")) (.str (Str.ofString "not")) = some (.bl true) ∧
  opEq (.str (Str.ofString "not")) (.str (Str.ofString "and")) = some (.bl false) ∧
  opEq (.str (Str.ofString "not")) (.str (Str.ofString "or")) = some (.bl false) ∧
  opEq (.str (Str.ofString "not")) (.str (Str.ofString "equal")) = some (.bl false) ∧
  opEq (.str (Str.ofString "not")) (.str (Str.ofString "less")) = some (.bl false) ∧
  opEq (.str (Str.ofString "not")) (.str (Str.ofString "starts")) = some (.bl false) ∧
  opEq (.str (Str.ofString "and")) (.str (Str.ofString "all")) = some (.bl false) ∧
  opEq (.str (Str.ofString "and")) (.str (Str.ofString "not")) = some (.bl false) ∧
  opEq (.str (Str.ofString "and")) (.str (Str.ofString "and")) = some (.bl true) ∧
  opEq (.str (Str.ofString "and")) (.str (Str.ofString "or")) = some (.bl false) ∧
  opEq (.str (Str.ofString "and")) (.str (Str.ofString "equal")) = some (.bl false) ∧
  opEq (.str (Str.ofString "and")) (.str (Str.ofString "less")) = some (.bl false) ∧
  opEq (.str (Str.ofString "and")) (.str (Str.ofString "starts")) = some (.bl false) ∧
  opEq (.str (Str.ofString "or")) (.str (Str.ofString "all")) = some (.bl false) ∧
  opEq (.str (Str.ofString "or")) (.str (Str.ofString "not")) = some (.bl false) ∧
  opEq (.str (Str.ofString "or")) (.str (Str.ofString "and")) = some (.bl false) ∧
  opEq (.str (Str.ofString "or")) (.str (Str.ofString "or")) = some (.bl true) ∧
  opEq (.str (Str.ofString "or")) (.str (Str.ofString "equal")) = some (.bl false) ∧
  opEq (.str (Str.ofString "or")) (.str (Str.ofString "less")) = some (.bl false) ∧
  opEq (.str (Str.ofString "or")) (.str (Str.ofString "starts")) = some (.bl false) :=
  ⟨eqL (by decide +kernel) (by decide +kernel) (by decide +kernel), eqL (by decide +kernel) (by decide +kernel) (by decide +kernel), eqL (by decide +kernel) (by decide +kernel) (by decide +kernel), eqL (by decide +kernel) (by decide +kernel) (by decide +kernel), eqL (by decide +kernel) (by decide +kernel) (by decide +kernel), eqL (by decide +kernel) (by decide +kernel) (by decide +kernel), eqL (by decide +kernel) (by decide +kernel) (by decide +kernel), eqL (by decide +kernel) (by decide +kernel) (by decide +kernel), eqL (by decide +kernel) (by decide +kernel) (by decide +kernel), eqL (by decide +kernel) (by decide +kernel) (by decide +kernel), eqL (by decide +kernel) (by decide +kernel) (by decide +kernel), eqL (by decide +kernel) (by decide +kernel) (by decide +kernel), eqL (by decide +kernel) (by decide +kernel) (by decide +kernel), eqL (by decide +kernel) (by decide +kernel) (by decide +kernel), eqL (by decide +kernel) (by decide +kernel) (by decide +kernel), eqL (by decide +kernel) (by decide +kernel) (by decide +kernel), eqL (by decide +kernel) (by decide +kernel) (by decide +kernel), eqL (by decide +kernel) (by decide +kernel) (by decide +kernel), eqL (by decide +kernel) (by decide +kernel) (by decide +kernel), eqL (by decide +kernel) (by decide +kernel) (by decide +kernel), eqL (by decide +kernel) (by decide +kernel) (by decide +kernel), eqL (by decide +kernel) (by decide +kernel) (by decide +kernel), eqL (by decide +kernel) (by decide +kernel) (by decide +kernel), eqL (by decide +kernel) (by decide +kernel) (by decide +kernel), eqL (by decide +kernel) (by decide +kernel) (by decide +kernel), eqL (by decide +kernel) (by decide +kernel) (by decide +kernel), eqL (by decide +kernel) (by decide +kernel) (by decide +kernel), eqL (by decide +kernel) (by decide +kernel) (by decide +kernel), eqL (by decide +kernel) (by decide +kernel) (by decide +kernel), eqL (by decide +kernel) (by decide +kernel) (by decide +kernel), eqL (by decide +kernel) (by decide +kernel) (by decide +kernel), eqL (by decide +kernel) (by decide +kernel) (by decide +kernel), eqL (by decide +kernel) (by decide +kernel) (by decide +kernel), eqL (by decide +kernel) (by decide +kernel) (by decide +kernel), eqL (by decide +kernel) (by decide +kernel) (by decide +kernel), eqL (by decide +kernel) (by decide +kernel) (by decide +kernel), eqL (by decide +kernel) (by decide +kernel) (by decide +kernel), eqL (by decide +kernel) (by decide +kernel) (by decide +kernel), eqL (by decide +kernel) (by decide +kernel) (by decide +kernel), eqL (by decide +kernel) (by decide +kernel) (by decide +kernel), eqL (by decide +kernel) (by decide +kernel) (by decide +kernel), eqL (by decide +kernel) (by decide +kernel) (by decide +kernel), eqL (by decide +kernel) (by decide +kernel) (by decide +kernel), eqL (by decide +kernel) (by decide +kernel) (by decide +kernel), eqL (by decide +kernel) (by decide +kernel) (by decide +kernel), eqL (by decide +kernel) (by decide +kernel) (by decide +kernel), eqL (by decide +kernel) (by decide +kernel) (by decide +kernel), eqL (by decide +kernel) (by decide +kernel) (by decide +kernel), eqL (by decide +kernel) (by decide +kernel) (by decide +kernel), eqL (by decide +kernel) (by decide +kernel) (by decide +kernel), eqL (by decide +kernel) (by decide +kernel) (by decide +kernel), eqL (by decide +kernel) (by decide +kernel) (by decide +kernel), eqL (by decide +kernel) (by decide +kernel) (by decide +kernel), eqL (by decide +kernel) (by decide +kernel) (by decide +kernel), eqL (by decide +kernel) (by decide +kernel) (by decide +kernel), eqL (by decide +kernel) (by decide +kernel) (by decide +kernel)⟩
/-- plain values -/
def pvB : D → Bool | .non => true | .int i => decide (-1000000000 ≤ i ∧ i ≤ 1000000000) | .str x => asc 40 x | _ => false
theorem pv_fv : ∀ {d : D}, pvB d = true → FV 40 d
  | .non, _ => trivial
  | .int _, _ => trivial
  | .str x, h => asc_gs h
  | .bl _, h => by cases h
  | .tup _, h => by cases h
  | .lst _, h => by cases h
  | .dct _, h => by cases h
  | .scr _, h => by cases h
  | .ref _, h => by cases h
theorem pv_sm : ∀ {d : D}, pvB d = true → Sm 0 40 d
  | .non, _ => Sm.non.mono (Nat.le_refl _) (Nat.zero_le _)
  | .int i, h => Sm.int (by have := of_decide_eq_true (show decide (-1000000000 ≤ i ∧ i ≤ 1000000000) = true from h); omega)
  | .str x, h => Sm.str (asc_gs h)
  | .bl _, h => by cases h
  | .tup _, h => by cases h
  | .lst _, h => by cases h
  | .dct _, h => by cases h
  | .scr _, h => by cases h
  | .ref _, h => by cases h
theorem strsD_of : ∀ {vs : List D}, (∀ v ∈ vs, ∃ x, v = .str x ∧ GS 1 x) → ∃ ys, strsD vs = some ys ∧ ys.length = vs.length ∧ ∀ y ∈ ys, GS 1 y
  | [], _ => ⟨[], rfl, rfl, fun _ h => by cases h⟩
  | v :: vs, h => by
    obtain ⟨x, rfl, g⟩ := h v List.mem_cons_self
    obtain ⟨ys, h1, h2, h3⟩ := strsD_of fun w hw => h w (List.mem_cons_of_mem _ hw)
    refine ⟨x :: ys, by simp [strsD, h1], by simp [h2], fun y hy => ?_⟩
    rcases List.mem_cons.mp hy with rfl | hy
    · exact g
    · exact h3 y hy
theorem sum_le {m : Nat} : ∀ {ys : List Str}, (∀ y ∈ ys, GS m y) → (ys.map (·.length)).sum ≤ ys.length * m
  | [], _ => Nat.zero_le _
  | y :: ys, h => by
    have h1 := sum_le fun z hz => h z (List.mem_cons_of_mem _ hz)
    have h2 := (h y List.mem_cons_self).1
    rw [List.map_cons, List.sum_cons, List.length_cons, Nat.succ_mul]
    omega
theorem join_ok {m k : Nat} {vs : List D} (h : ∀ v ∈ vs, ∃ x, v = .str x ∧ GS 1 x) (hl : vs.length ≤ k) (hk : k ≤ 1000) : ∃ z, joinD (.str (Str.ofString "")) [.lst vs] = some (.str z) ∧ GS k z := by
  obtain ⟨ys, h1, h2, h3⟩ := strsD_of h
  have hs := sum_le h3
  have : (ys.map (·.length)).sum + ys.length * (Str.ofString "").length ≤ 16777216 := by
    rw [show (Str.ofString "").length = 0 from rfl]
    omega
  refine ⟨_, by simp only [joinD, h1, Option.bind_some]; rw [if_pos this], ?_⟩
  exact (GS.join h3).mono (by omega)
end LW
namespace LW
open PySem PySem.Spec PyProof.Rows L2 DL TL
theorem pv_str {x : Str} (h : GS 40 x) : pvB (.str x) = true := gs_asc h
theorem bits10 : Builtin.Int.intBits 10 ≤ 32 := bits32 (by decide) (by decide)
theorem pow109 : powI (.int 10) (.int 9) = some (.int 1000000000) := by
  have p := powI_int (a := 10) (b := 9) (by decide) bits10 (by decide)
  simpa using p
theorem mulz (k : Int) (h : 0 ≤ k ∧ k ≤ 1000) : opMul (.str (Str.ofString "z")) (.int k) = some (.str (Txt.mul (Str.ofString "z") k)) := by
  have : (Str.ofString "z").length ≤ 1000 := by decide
  simp [opMul, orD, mulI, onI, mulS, this, h.1, h.2]
theorem addL_ok {xs ys : List D} (h : xs.length + ys.length ≤ 1000) : opAdd (.lst xs) (.lst ys) = some (.lst (xs ++ ys)) := by
  have : xs.length + ys.length ≤ sizeLine := Nat.le_trans h (by decide)
  simp [opAdd, orD, addI, addS, addL, onI, onS, this]
theorem addT_ok {xs ys : List D} (h : xs.length + ys.length ≤ 1000) : opAdd (.tup xs) (.tup ys) = some (.tup (xs ++ ys)) := by
  have : xs.length + ys.length ≤ sizeLine := Nat.le_trans h (by decide)
  simp [opAdd, orD, addI, addS, addL, addT, onI, onS, this]
def someV : List D := [.non, .int 0, .int 1, .int 2, .int (-1), .int 1, .int 2, .int 1000000000, .int (-1000000000), .str (Str.ofString ""), .str (Str.ofString "a"), .str (Str.ofString "ab"), .str (Str.ofString "b"), .str (Str.ofString "a b"), .str (Str.ofString "A"), .str (Str.ofString "~"), .str (Txt.mul (Str.ofString "z") 20)]
def moreV : List D := [.str (Txt.mul (Str.ofString "z") 19), .str (Str.ofString "customer one"), .str (Str.ofString "customer two"), .str (Str.ofString "1"), .str (Str.ofString "-1"), .int 2, .str (Str.ofString "abc"), .str (Str.ofString "abd")]
theorem allV : (someV ++ moreV).all pvB = true := by decide +kernel
abbrev sgn1 : String := " !#$&'()*+,-./0123456789:;<=>?@ABCDEFGHIJKLMNOPQRSTUVWXYZ[]^_{|}~"
abbrev sgn2 : String := "abcdefghijklmnopqrstuvwxyz"
end LW
namespace LW
open PySem PySem.Spec PyProof.Rows L2 DL TL
/-! what the document says of values and conditions -/
def signB (c : Nat) : Bool := decide (32 ≤ c ∧ c ≤ 126)
def isInt : D → Bool | .int _ => true | _ => false
def strB : D → Bool | .str x => decide (x.length ≤ 20) && (tl x).all signB | _ => false
def valB : D → Bool | .non => true | .int i => decide (-1000000000 ≤ i ∧ i ≤ 1000000000) | .str x => decide (x.length ≤ 20) && (tl x).all signB | _ => false
def choiceB : D → Bool | .tup us => decide (1 ≤ us.length ∧ us.length ≤ 8) && us.all valB | _ => false
def colB (w : Int) : D → Bool | .int i => decide (0 ≤ i ∧ i < w) | _ => false
def okw (d : D) : Prop := okD d = true ∧ wD d ≤ 200000
theorem okw.mem {ds : List D} (h : okw (.tup ds)) {d : D} (m : d ∈ ds) : okw d := ⟨okL_mem.mp h.1 d m, by have := wL_mem m; have h2 : wL ds ≤ 200000 := h.2; omega⟩
theorem len_wL : ∀ ds : List D, ds.length ≤ wL ds
  | [] => Nat.le_refl _
  | d :: ds => by have := len_wL ds; rw [wL, List.length_cons]; omega
theorem okw.len {ds : List D} (h : okw (.tup ds)) : ds.length ≤ sizeLine := Nat.le_trans (len_wL ds) (Nat.le_trans h.2 (by rw [sizeLine_eq]; decide))
theorem okw.strlen {x : Str} (h : okw (.str x)) : x.length ≤ sizeLine := Nat.le_trans (show x.length ≤ 200000 from h.2) (by rw [sizeLine_eq]; decide)
theorem int_ok {d : D} (h : okw d) (st : Store) : m_is_integer [d] st = some (.bl (isInt d), st) := by
  cases d <;> first
    | (cases h.1; done)
    | (simp [m_is_integer, g_is_integer, mOf, outM, startD, sRet, fAnd, fNot, fIsi, fVar, tyD, isiB, asB, isInt]; done)
theorem lt1 {a b : Nat} (h : a < b) : ([a] : List Nat) < [b] := by simp [List.cons_lt_cons_iff, h]
theorem le1 {a b : Nat} (h : a ≤ b) : ([a] : List Nat) ≤ [b] := List.not_lt.mp (by simp [List.cons_lt_cons_iff]; omega)
theorem chain_sign (c : Nat) (env : Lo) (st : Store) (h : env[1]? = some (some (.str ⟨#[c]⟩))) : fChain opLe opLe (fC (.str (Str.ofString " "))) (fVar 1) (fC (.str (Str.ofString "~"))) env st = some (.bl (signB c), st) := by
  have e1 : (Str.ofString " ").cps.toList = [32] := by decide +kernel
  have e2 : (Str.ofString "~").cps.toList = [126] := by decide +kernel
  have l1 : opLe (.str (Str.ofString " ")) (.str ⟨#[c]⟩) = some (.bl (decide (32 ≤ c))) := by
    by_cases q : 32 ≤ c
    · simp [opLe, orD, leI, leS, onI, onS, e1, q, le1 q]
    · simp [opLe, orD, leI, leS, onI, onS, e1, q, lt1 (show c < 32 by omega)]
  have l2 : opLe (.str ⟨#[c]⟩) (.str (Str.ofString "~")) = some (.bl (decide (c ≤ 126))) := by
    by_cases q : c ≤ 126
    · simp [opLe, orD, leI, leS, onI, onS, e2, q, le1 q]
    · simp [opLe, orD, leI, leS, onI, onS, e2, q, lt1 (show 126 < c by omega)]
  by_cases h1 : 32 ≤ c
  · simp [fChain, fC, fVar, h, l1, l2, asB, h1, signB]
  · simp [fChain, fC, fVar, h, l1, asB, h1, signB]
theorem bools_map : ∀ l : List Bool, bools (l.map .bl) = some l
  | [] => rfl
  | b :: l => by simp [bools, bools_map l]
def signD (c : Nat) : D := .str ⟨#[c]⟩
theorem signs_loop (x : Str) (st : Store) : loopC [1] b1 tTrue (fChain opLe opLe (fC (.str (Str.ofString " "))) (fVar 1) (fC (.str (Str.ofString "~")))) (x.cps.toList.map fun c => .str ⟨#[c]⟩) [some (.str x), none] st = some (((tl x).map signB).map .bl, st) := by
  have key : ∀ l : List Nat, loopC [1] b1 tTrue (fChain opLe opLe (fC (.str (Str.ofString " "))) (fVar 1) (fC (.str (Str.ofString "~")))) (l.map fun c => .str ⟨#[c]⟩) [some (.str x), none] st = some ((l.map signB).map .bl, st) := by
    intro l
    induction l with
    | nil => rfl
    | cons c l ih => simp only [List.map_cons, loopC, b1, Option.bind_some, tTrue, if_true, setL, chain_sign c [some (.str x), some (.str ⟨#[c]⟩)] st rfl, List.set_cons_succ, List.set_cons_zero, ih, Option.map_some]
  exact key (tl x)
theorem tl_len (x : Str) : (tl x).length = x.length := (len_tl x).symm
theorem string_ok {d : D} (h : okw d) (st : Store) : m_is_string [d] st = some (.bl (strB d), st) := by
  cases d with
  | str x =>
    have z := h.strlen
    by_cases c : x.length ≤ 20
    · have c2 : ¬ (20 : Int) < (x.length : Int) := by omega
      have zz : ((tl x).map signB).length ≤ sizeLine := by rw [List.length_map, tl_len]; exact z
      simp only [m_is_string, g_is_string, mOf, outM, startD, sSeq, sIf, sRet, sNil, fOrT, fNotT, fTest, fIsi, fVar, tyD, isiB, asB, fOp, fMk, bLen, lenL, aCons, aNil, fC]
      simp [z, opGt_int, c2, fComp, iOf, fVar, asStr, wipeL]
      rw [signs_loop x st]
      have ba := bools_map ((tl x).map signB)
      simp at ba zz
      simp [zz, ba, bAll, strB, c]
    · have c2 : (20 : Int) < (x.length : Int) := by omega
      simp [m_is_string, g_is_string, mOf, outM, startD, sSeq, sIf, sRet, sNil, fOrT, fNotT, fTest, fIsi, fVar, tyD, isiB, asB, fOp, fMk, bLen, lenL, aCons, aNil, fC, z, opGt_int, c2, strB, c]
  | scr _ => cases h.1
  | ref _ => cases h.1
  | _ => simp [m_is_string, g_is_string, mOf, outM, startD, sSeq, sIf, sRet, fOrT, fNotT, fTest, fIsi, fVar, tyD, isiB, asB, fC, strB]
end LW
namespace LW
open PySem PySem.Spec PyProof.Rows L2 DL TL
theorem opLe_int (a b : Int) : opLe (.int a) (.int b) = some (.bl (decide (a ≤ b))) := by simp [opLe, orD, leI, onI]
theorem chain_int {a b c : Int} {fa fb fc : F} {env : Lo} {st : Store} (h1 : fa env st = some (.int a, st)) (h2 : fb env st = some (.int b, st)) (h3 : fc env st = some (.int c, st)) : fChain opLe opLe fa fb fc env st = some (.bl (decide (a ≤ b ∧ b ≤ c)), st) := by
  by_cases q : a ≤ b
  · simp [fChain, h1, h2, h3, opLe_int, asB, q]
  · simp [fChain, h1, h2, opLe_int, asB, q]
theorem isval_ok {d : D} (h : okw d) (st : Store) : m_is_value [d] st = some (.bl (valB d), st) := by
  have k := string_ok h st
  have k2 := int_ok h st
  cases d with
  | int i =>
    have c := chain_int (a := -1000000000) (b := i) (c := 1000000000) (fa := fUn negI (fC (.int 1000000000))) (fb := fVar 0) (fc := fC (.int 1000000000)) (env := [some (.int i)]) (st := st) (by simp [fUn, negI, fC]) (by simp [fVar]) (by simp [fC])
    simp only [m_is_value, g_is_value, mOf, outM, startD, sSeq, sIf, sRet, sNil, fTest, fCall, aCons, aNil, List.map_cons, List.map_nil, List.singleton_append, show N_is_value.length = 1 from rfl, List.length_cons, List.length_nil, show List.replicate (1 - (0 + 1)) (none : Option D) = [] from rfl]
    simp [fVar, k2, isInt, asB]
    rw [show ([some (D.int i)] : Lo) = [some (.int i)] from rfl, c]
    simp [valB]
  | scr _ => cases h.1
  | ref _ => cases h.1
  | _ => simp [m_is_value, g_is_value, mOf, outM, startD, sSeq, sIf, sRet, sNil, fTest, fCall, aCons, aNil, fVar, k2, isInt, asB, fOr, fOp, fC, opIs, orD, isN, isB, DL.isNon, k, strB, valB]
theorem map_loop {is : List Nat} {f : F} {env : Lo} {st : Store} {g : D → Bool} {us : List D} (h : ∀ u ∈ us, f (setL is [u] env) st = some (.bl (g u), st)) : loopC is b1 tTrue f us env st = some ((us.map g).map .bl, st) := by
  have := loopC_map (is := is) (bd := b1) (f := f) (g := fun u => .bl (g u)) (env := env) (st := st) (ds := us) fun d hd => ⟨[d], rfl, h d hd⟩
  rw [this, List.map_map]
  rfl
theorem all_id (g : D → Bool) (us : List D) : (us.map g).all id = us.all g := by
  induction us with
  | nil => rfl
  | cons u us ih => rw [List.map_cons, List.all_cons, List.all_cons, ih]; rfl
/-- the text of a kind -/
def isK (s : String) : D → Bool | .str x => x == Str.ofString s | _ => false
theorem isK_str (s : String) (x : Str) : isK s (.str x) = (x == Str.ofString s) := rfl
theorem eqS_ok {d : D} (h : okD d = true) (s : String) : eqS (Str.ofString s) d = some (isK s d) := by
  cases d <;> first
    | rfl
    | (cases h; done)
theorem eqA_k {d : D} (h : okD d = true) (s : String) : opEqA d (.str (Str.ofString s)) = some (.bl (isK s d)) := by
  simp [opEqA, orD, DL.eqT, eqS_ok h s]
theorem inA_k {d : D} (h : okD d = true) (a b : String) : opInA d (.tup [.str (Str.ofString a), .str (Str.ofString b)]) = some (.bl (isK a d || isK b d)) := by
  simp [opInA, orD, inStr, strsD, anyS, eqS_ok h]
def operB (k : D) (d : D) : Bool := if isK "equal" k || isK "less" k then valB d else if isK "starts" k then (strB d && !isK "" d) else isK "one_of" k && choiceB d
end LW
namespace LW
open PySem PySem.Spec PyProof.Rows L2 DL TL
/-- a condition of depth k at most -/
def cw (w : Int) : Nat → D → Bool
  | k + 1, .tup (h :: r) => if isK "all" h then r.isEmpty else if isK "not" h then (match r with | [p] => cw w k p | _ => false) else (match r with | [p, q] => if isK "and" h || isK "or" h then cw w k p && cw w k q else colB w p && operB h q | _ => false)
  | _, _ => false
theorem ix0 {a : D} {r : List D} : L2.atI (a :: r) 0 = some a := atI_nat (j := 0) rfl
theorem ix1 {a b : D} {r : List D} : L2.atI (a :: b :: r) 1 = some b := atI_nat (j := 1) rfl
theorem ix2 {a b c : D} {r : List D} : L2.atI (a :: b :: c :: r) 2 = some c := atI_nat (j := 2) rfl
theorem cut1 {a : D} {r : List D} : DL.cutD (a :: r) (some 1) none = r := by
  unfold DL.cutD
  rw [show (1 : Int) = ((1 : Nat) : Int) from rfl, HT.sIx_nat, HT.sIx_none]
  simp
/-! the law's own reading -/
def rngB (a b : Int) : D → Bool | .int i => decide (a ≤ i ∧ i ≤ b) | _ => false
theorem linteger_ok {d : D} (h : okw d) (a b : Int) (st : Store) : m__law_integer [d, .int a, .int b] st = some (.bl (rngB a b d), st) := by
  cases d with
  | int i =>
    have c := chain_int (a := a) (b := i) (c := b) (fa := fVar 1) (fb := fVar 0) (fc := fVar 2) (env := [some (.int i), some (.int a), some (.int b)]) (st := st) (by simp [fVar]) (by simp [fVar]) (by simp [fVar])
    simp [m__law_integer, g__law_integer, mOf, outM, startD, sRet, fAnd, fNot, fIsi, tyD, isiB, asB, fVar]
    rw [c]
    simp [rngB]
  | scr _ => cases h.1
  | ref _ => cases h.1
  | _ => simp [m__law_integer, g__law_integer, mOf, outM, startD, sRet, fAnd, fNot, fIsi, tyD, isiB, asB, fVar, rngB]
theorem bad_loop (x : Str) (st : Store) : loopC [1] b1 (fNotT (fTest (fChain opLe opLe (fC (.str (Str.ofString " "))) (fVar 1) (fC (.str (Str.ofString "~")))))) (fVar 1) (x.cps.toList.map fun c => .str ⟨#[c]⟩) [some (.str x), none] st = some (((tl x).filter fun c => !signB c).map fun c => .str ⟨#[c]⟩, st) := by
  have key : ∀ l : List Nat, loopC [1] b1 (fNotT (fTest (fChain opLe opLe (fC (.str (Str.ofString " "))) (fVar 1) (fC (.str (Str.ofString "~")))))) (fVar 1) (l.map fun c => .str ⟨#[c]⟩) [some (.str x), none] st = some ((l.filter fun c => !signB c).map fun c => .str ⟨#[c]⟩, st) := by
    intro l
    induction l with
    | nil => rfl
    | cons c l ih =>
      have e := chain_sign c [some (.str x), some (.str ⟨#[c]⟩)] st rfl
      rw [List.map_cons, List.filter_cons]
      cases q : signB c with
      | true =>
        rw [q] at e
        simp only [loopC, b1, Option.bind_some, setL, List.set_cons_succ, List.set_cons_zero, fNotT, fTest, e, asB, Option.map_some, Bool.not_true, Bool.false_eq_true, if_false]
        exact ih
      | false =>
        rw [q] at e
        simp only [loopC, b1, Option.bind_some, setL, List.set_cons_succ, List.set_cons_zero, fNotT, fTest, e, asB, Option.map_some, Bool.not_false, if_true]
        rw [show fVar 1 [some (D.str x), some (D.str ⟨#[c]⟩)] st = some (.str ⟨#[c]⟩, st) from rfl]
        simp only [Option.bind_some]
        rw [show loopC [1] b1 (fNotT (fTest (fChain opLe opLe (fC (.str (Str.ofString " "))) (fVar 1) (fC (.str (Str.ofString "~")))))) (fVar 1) (l.map fun c => .str ⟨#[c]⟩) [some (.str x), none] st = _ from ih]
        rfl
  exact key (tl x)
theorem signs_nil {l : List Nat} (h : ∀ c ∈ l, c < 128) : opEq (.lst (l.map fun c => .str ⟨#[c]⟩)) (.lst []) = some (.bl l.isEmpty) := by
  have s1 : SmL 0 ((l.map fun c => D.str ⟨#[c]⟩).length * 2) (l.map fun c => D.str ⟨#[c]⟩) := SmL.all fun d hd => by
    obtain ⟨c, hc, rfl⟩ := List.mem_map.mp hd
    exact Sm.str ⟨Nat.le_refl _, fun y hy => by
      have : y = c := by simpa using hy
      subst this
      exact h y hc⟩
  obtain ⟨p, h1, h2⟩ := (Sm.lst s1).shaped (by decide)
  obtain ⟨ps, h3, h4⟩ := Option.map_eq_some_iff.mp (show (toPyL _).map PyData.list = some p from h1)
  subst h4
  have e : PyData.eqv (.list ps) (.list []) = l.isEmpty := by
    cases l with
    | nil => cases h3; rfl
    | cons c l =>
      obtain ⟨q, g1, g2⟩ := Option.bind_eq_some_iff.mp (show ((toPy _).bind fun p => (toPyL _).map fun q => p :: q) = some ps from h3)
      obtain ⟨qs, g3, g4⟩ := Option.map_eq_some_iff.mp g2
      subst g4
      rfl
  have e2 : toPy (.lst []) = some (.list []) := rfl
  have e3 : SeqAt.shaped (.list []) = true := by decide
  simp only [opEq, h1, e2, Option.bind_some, h2, e3, and_self, if_true, e]
theorem filter_nil (l : List Nat) : (l.filter fun c => !signB c).isEmpty = l.all signB := by
  induction l with
  | nil => rfl
  | cons c l ih => cases q : signB c <;> simp [List.filter_cons, q, ih]
theorem vdue_ok {d : D} (h : okw d) (st : Store) : m__law_value_due [d] st = some (.bl (valB d), st) := by
  have li := linteger_ok h (-1000000000) 1000000000 st
  cases d with
  | str x =>
    have z := h.strlen
    have hx : ∀ c ∈ tl x, c < 128 := fun c hc => of_decide_eq_true (List.all_eq_true.mp h.1 c hc)
    have sn := signs_nil (l := (tl x).filter fun c => !signB c) fun c hc => hx c (List.mem_filter.mp hc).1
    rw [filter_nil] at sn
    have zz : (((tl x).filter fun c => !signB c).map fun c => D.str ⟨#[c]⟩).length ≤ sizeLine := by
      rw [List.length_map]
      exact Nat.le_trans (List.length_filter_le _ _) (by rw [tl_len]; exact z)
    by_cases c : x.length ≤ 20
    · have c2 : (x.length : Int) ≤ 20 := by omega
      simp [m__law_value_due, g__law_value_due, mOf, outM, startD, sSeq, sIf, sRet, sNil, fTest, fIsi, fVar, tyD, isiB, asB, fAnd, fOp, fMk, bLen, lenL, aCons, aNil, z, fC, opLe_int, c2, fComp, iOf, asStr, wipeL]
      rw [bad_loop x st]
      simp at zz sn
      simp [zz, mkLst, sn, valB, c]
    · have c2 : ¬ (x.length : Int) ≤ 20 := by omega
      simp [m__law_value_due, g__law_value_due, mOf, outM, startD, sSeq, sIf, sRet, sNil, fTest, fIsi, fVar, tyD, isiB, asB, fAnd, fOp, fMk, bLen, lenL, aCons, aNil, z, fC, opLe_int, c2, valB, c]
  | scr _ => cases h.1
  | ref _ => cases h.1
  | int i => simp [m__law_value_due, g__law_value_due, mOf, outM, startD, sSeq, sIf, sRet, sNil, fTest, fIsi, fVar, tyD, isiB, asB, fOr, fOp, opIs, orD, isN, isB, DL.isNon, fC, fCall, aCons, aNil, subI_int, pow109, li, valB, rngB]
  | non => simp [m__law_value_due, g__law_value_due, mOf, outM, startD, sSeq, sIf, sRet, sNil, fTest, fIsi, fVar, tyD, isiB, asB, fOr, fOp, opIs, orD, isN, isB, DL.isNon, fC, valB]
  | _ => simp [m__law_value_due, g__law_value_due, mOf, outM, startD, sSeq, sIf, sRet, sNil, fTest, fIsi, fVar, tyD, isiB, asB, fOr, fOp, opIs, orD, isN, isB, DL.isNon, fC, fCall, aCons, aNil, subI_int, pow109, li, valB, rngB]
end LW
namespace LW
open PySem PySem.Spec PyProof.Rows L2 DL TL
def lowB (c : Nat) : Bool := decide (97 ≤ c ∧ c ≤ 122)
def nameB : D → Bool | .str x => decide (1 ≤ x.length ∧ x.length ≤ 8) && (tl x).all lowB | _ => false
def barL : List Str := [Str.ofString "all", Str.ofString "and", Str.ofString "in", Str.ofString "none", Str.ofString "not", Str.ofString "or", Str.ofString "starts"]
def barB (s : Str) : Bool := barL.any (· == s)
def colNameB (d : D) : Bool := nameB d && match d with | .str x => !barB x | _ => true
def strsB (ds : List D) : Bool := match strsD ds with | some xs => decide xs.Nodup | none => false
def colsB : D → Bool | .tup ds => decide (1 ≤ ds.length ∧ ds.length ≤ 6) && ds.all colNameB && strsB ds | _ => false
def rowB (n : Nat) : D → Bool | .tup [a, .tup vs] => rngB 1 1000000 a && (decide (vs.length = n) && vs.all valB) | _ => false
theorem chain_c {a b : Str} {lo hi c i : Nat} {env : Lo} {st : Store} (ea : a.cps.toList = [lo]) (eb : b.cps.toList = [hi]) (h : env[i]? = some (some (.str ⟨#[c]⟩))) : fChain opLe opLe (fC (.str a)) (fVar i) (fC (.str b)) env st = some (.bl (decide (lo ≤ c ∧ c ≤ hi)), st) := by
  have l1 : opLe (.str a) (.str ⟨#[c]⟩) = some (.bl (decide (lo ≤ c))) := by
    by_cases q : lo ≤ c
    · simp [opLe, orD, leI, leS, onI, onS, ea, q, le1 q]
    · simp [opLe, orD, leI, leS, onI, onS, ea, q, lt1 (show c < lo by omega)]
  have l2 : opLe (.str ⟨#[c]⟩) (.str b) = some (.bl (decide (c ≤ hi))) := by
    by_cases q : c ≤ hi
    · simp [opLe, orD, leI, leS, onI, onS, eb, q, le1 q]
    · simp [opLe, orD, leI, leS, onI, onS, eb, q, lt1 (show hi < c by omega)]
  by_cases h1 : lo ≤ c
  · simp [fChain, fC, fVar, h, l1, l2, asB, h1]
  · simp [fChain, fC, fVar, h, l1, asB, h1]
theorem chain_low {c i : Nat} {env : Lo} {st : Store} (h : env[i]? = some (some (.str ⟨#[c]⟩))) : fChain opLe opLe (fC (.str (Str.ofString "a"))) (fVar i) (fC (.str (Str.ofString "z"))) env st = some (.bl (lowB c), st) :=
  chain_c (by decide +kernel) (by decide +kernel) h
theorem lows_loop (l : List Nat) (x : D) (st : Store) : loopC [1] b1 tTrue (fChain opLe opLe (fC (.str (Str.ofString "a"))) (fVar 1) (fC (.str (Str.ofString "z")))) (l.map fun c => .str ⟨#[c]⟩) [some x, none] st = some ((l.map lowB).map .bl, st) := by
  induction l with
  | nil => rfl
  | cons c l ih => simp only [List.map_cons, loopC, b1, Option.bind_some, tTrue, if_true, setL, chain_low (c := c) (i := 1) (env := [some x, some (.str ⟨#[c]⟩)]) (st := st) rfl, List.set_cons_succ, List.set_cons_zero, ih, Option.map_some]
theorem lowbad_loop (l : List Nat) (x y : D) (st : Store) : loopC [2] b1 (fNotT (fTest (fChain opLe opLe (fC (.str (Str.ofString "a"))) (fVar 2) (fC (.str (Str.ofString "z")))))) (fVar 2) (l.map fun c => .str ⟨#[c]⟩) [some x, some y, none] st = some ((l.filter fun c => !lowB c).map fun c => .str ⟨#[c]⟩, st) := by
  induction l with
  | nil => rfl
  | cons c l ih =>
    have e := chain_low (c := c) (i := 2) (env := [some x, some y, some (.str ⟨#[c]⟩)]) (st := st) rfl
    rw [List.map_cons, List.filter_cons]
    cases q : lowB c with
    | true =>
      rw [q] at e
      simp only [loopC, b1, Option.bind_some, setL, List.set_cons_succ, List.set_cons_zero, fNotT, fTest, e, asB, Option.map_some, Bool.not_true, Bool.false_eq_true, if_false]
      exact ih
    | false =>
      rw [q] at e
      simp only [loopC, b1, Option.bind_some, setL, List.set_cons_succ, List.set_cons_zero, fNotT, fTest, e, asB, Option.map_some, Bool.not_false, if_true]
      rw [show fVar 2 [some x, some y, some (D.str ⟨#[c]⟩)] st = some (.str ⟨#[c]⟩, st) from rfl]
      simp only [Option.bind_some]
      rw [show loopC [2] b1 (fNotT (fTest (fChain opLe opLe (fC (.str (Str.ofString "a"))) (fVar 2) (fC (.str (Str.ofString "z")))))) (fVar 2) (l.map fun c => .str ⟨#[c]⟩) [some x, some y, none] st = _ from ih]
      rfl
theorem filter_nil' {p : Nat → Bool} (l : List Nat) : (l.filter fun c => !p c).isEmpty = l.all p := by
  induction l with
  | nil => rfl
  | cons c l ih => cases q : p c <;> simp [List.filter_cons, q, ih]
theorem name_ok {d : D} (h : okw d) (st : Store) : m_is_name [d] st = some (.bl (nameB d), st) := by
  cases d with
  | str x =>
    have z := h.strlen
    have c := chain_int (a := 1) (b := x.length) (c := 8) (fa := fC (.int 1)) (fb := fMk bLen (aCons (fVar 0) aNil)) (fc := fC (.int 8)) (env := [some (.str x), none]) (st := st) (by simp [fC]) (by simp [fMk, bLen, lenL, aCons, aNil, fVar, z]) (by simp [fC])
    by_cases q : 1 ≤ x.length ∧ x.length ≤ 8
    · have q2 : (1 : Int) ≤ x.length ∧ (x.length : Int) ≤ 8 := by omega
      have zz : ((tl x).map lowB).length ≤ sizeLine := by rw [List.length_map, tl_len]; exact z
      simp only [m_is_name, g_is_name, mOf, outM, startD, sSeq, sIf, sRet, sNil, fOrT, fNotT, fTest, fIsi, tyD, isiB, asB]
      simp [fVar, c, q2, asB, fMk, aCons, aNil, fComp, iOf, asStr, wipeL]
      have lp := lows_loop (tl x) (.str x) st
      rw [show (x.cps.toList.map fun c => D.str ⟨#[c]⟩) = (tl x).map fun c => D.str ⟨#[c]⟩ from rfl, lp]
      have ba := bools_map ((tl x).map lowB)
      simp at ba zz
      simp [zz, ba, bAll, nameB, q]
    · have q2 : ¬ ((1 : Int) ≤ x.length ∧ (x.length : Int) ≤ 8) := by omega
      simp only [q2, decide_false] at c
      simp only [m_is_name, g_is_name, mOf, outM, startD, sSeq, sIf, sRet, sNil, fOrT, fNotT, fTest, fIsi, tyD, isiB, asB, nameB]
      simp [fVar, c, fC, q, asB]
  | scr _ => cases h.1
  | ref _ => cases h.1
  | _ => simp [m_is_name, g_is_name, mOf, outM, startD, sSeq, sIf, sRet, sNil, fOrT, fNotT, fTest, fIsi, tyD, isiB, asB, fVar, fC, nameB]
theorem inBar (neg : Bool) (s : Str) : inSeq neg (.str s) (.tup (barL.map .str)) = some (.bl (if neg then !barB s else barB s)) := by
  have key : ∀ l : List Str, anyF (.str s) (l.map .str) = some (l.any (· == s)) := by
    intro l
    induction l with
    | nil => rfl
    | cons a l ih => simp [anyF, eqF, ih]
  show (if flatD (.str s) then (anyF (.str s) (barL.map .str)).map fun b => D.bl (if neg then !b else b) else none) = _
  rw [key]
  rfl
theorem colname_ok {d : D} (h : okw d) (st : Store) : m_is_column_name [d] st = some (.bl (colNameB d), st) := by
  have k := name_ok h st
  have ib : ∀ s, inSeq true (.str s) (.tup (([Str.ofString "all", Str.ofString "and", Str.ofString "in", Str.ofString "none", Str.ofString "not", Str.ofString "or", Str.ofString "starts"] : List Str).map .str)) = some (.bl (!barB s)) := fun s => inBar true s
  cases d with
  | str x =>
    cases q : nameB (.str x) with
    | true =>
      rw [q] at k
      simp only [m_is_column_name, g_is_column_name, mOf, outM, startD, sRet, fAnd, fCall, aCons, aNil, fOp, fC, show N_is_column_name.length = 1 from rfl]
      simp [fVar, k, asB, ib, colNameB, q]
      simp at ib
      simp [ib]
    | false =>
      rw [q] at k
      simp [m_is_column_name, g_is_column_name, mOf, outM, startD, sRet, fAnd, fCall, aCons, aNil, fVar, k, asB, colNameB, q]
  | scr _ => cases h.1
  | ref _ => cases h.1
  | _ => simp [m_is_column_name, g_is_column_name, mOf, outM, startD, sRet, fAnd, fCall, aCons, aNil, fVar, k, asB, colNameB, nameB]
theorem names_strs : ∀ {ds : List D}, ds.all colNameB = true → ∃ xs : List Str, strsD ds = some xs ∧ ds = xs.map .str
  | [], _ => ⟨[], rfl, rfl⟩
  | d :: ds, h => by
    rw [List.all_cons, Bool.and_eq_true] at h
    obtain ⟨xs, h1, h2⟩ := names_strs h.2
    cases d with
    | str x => exact ⟨x :: xs, by simp [strsD, h1], by rw [h2]; rfl⟩
    | _ => simp [colNameB, nameB] at h
theorem cols_ok {d : D} (h : okw d) (st : Store) : m_is_columns [d] st = some (.bl (colsB d), st) := by
  cases d with
  | tup us =>
    have z := h.len
    have c := chain_int (a := 1) (b := us.length) (c := 6) (fa := fC (.int 1)) (fb := fMk bLen (aCons (fVar 0) aNil)) (fc := fC (.int 6)) (env := [some (.tup us), none]) (st := st) (by simp [fC]) (by simp [fMk, bLen, lenL, aCons, aNil, fVar, z]) (by simp [fC])
    have lp := map_loop (is := [1]) (f := fCall m_is_column_name (aCons (fVar 1) aNil)) (env := [some (.tup us), none]) (st := st) (g := colNameB) (us := us) (fun u hu => by simp [fCall, aCons, aNil, fVar, setL, colname_ok (h.mem hu)])
    by_cases q : 1 ≤ us.length ∧ us.length ≤ 6
    · have q2 : (1 : Int) ≤ us.length ∧ (us.length : Int) ≤ 6 := by omega
      have ba := bools_map (us.map colNameB)
      have al := all_id colNameB us
      cases qa : us.all colNameB with
      | true =>
        obtain ⟨xs, h1, h2⟩ := names_strs qa
        have hl : xs.length = us.length := by rw [h2, List.length_map]
        have hx : xs.length < 1000 := by omega
        have nd := cntS_nodup xs
        have el : opEq (.int (cntS xs xs.length : Nat)) (.int us.length) = some (.bl (decide xs.Nodup)) := by
          rw [opEq_int, ← hl]
          by_cases hn : xs.Nodup
          · rw [nd.mpr hn]; simp [hn]
          · have hne : (cntS xs xs.length : Int) ≠ xs.length := fun e => hn (nd.mp (by omega))
            simp [hn, hne]
        rw [qa] at al
        simp at ba al
        simp only [m_is_columns, g_is_columns, mOf, outM, startD, sSeq, sIf, sRet, sNil, fOrT, fNotT, fTest, fIsi, tyD, isiB, asB]
        simp [fVar, c, q2, asB, fMk, aCons, aNil, fComp, iOf, asT, wipeL, lp, z, bAll, ba, fLenSt, h1, hx, fOp, bLen, lenL, el, colsB, q, strsB, qa]
      | false =>
        rw [qa] at al
        simp at ba al
        simp only [m_is_columns, g_is_columns, mOf, outM, startD, sSeq, sIf, sRet, sNil, fOrT, fNotT, fTest, fIsi, tyD, isiB, asB]
        simp [fVar, c, q2, asB, fMk, aCons, aNil, fComp, iOf, asT, wipeL, lp, z, bAll, ba, colsB, q, qa, fC, al]
    · have q2 : ¬ ((1 : Int) ≤ us.length ∧ (us.length : Int) ≤ 6) := by omega
      simp only [q2, decide_false] at c
      simp only [m_is_columns, g_is_columns, mOf, outM, startD, sSeq, sIf, sRet, sNil, fOrT, fNotT, fTest, fIsi, tyD, isiB, asB, colsB]
      simp [fVar, c, fC, q, asB]
  | scr _ => cases h.1
  | ref _ => cases h.1
  | _ => simp [m_is_columns, g_is_columns, mOf, outM, startD, sSeq, sIf, sRet, sNil, fOrT, fNotT, fTest, fIsi, tyD, isiB, asB, fVar, fC, colsB]
theorem rowid_ok {d : D} (h : okw d) (st : Store) : m_is_row_id [d] st = some (.bl (rngB 1 1000000 d), st) := by
  have k := int_ok h st
  cases d with
  | int i =>
    have c := chain_int (a := 1) (b := i) (c := 1000000) (fa := fC (.int 1)) (fb := fVar 0) (fc := fC (.int 1000000)) (env := [some (.int i)]) (st := st) (by simp [fC]) (by simp [fVar]) (by simp [fC])
    simp only [m_is_row_id, g_is_row_id, mOf, outM, startD, sRet, fAnd, fCall, aCons, aNil, show N_is_row_id.length = 1 from rfl]
    simp [fVar, k, isInt, asB]
    rw [c]
    simp [rngB]
  | scr _ => cases h.1
  | ref _ => cases h.1
  | _ => simp [m_is_row_id, g_is_row_id, mOf, outM, startD, sRet, fAnd, fCall, aCons, aNil, fVar, k, isInt, asB, rngB]
end LW
namespace LW
open PySem PySem.Spec PyProof.Rows L2 DL TL
theorem opNe_of {a b : D} {k : Bool} (h : opEq a b = some (.bl k)) : opNe a b = some (.bl (!k)) := by
  obtain ⟨p, h1, h2⟩ := Option.bind_eq_some_iff.mp (show (toPy a).bind (fun p => (toPy b).bind fun q => if SeqAt.shaped p = true ∧ SeqAt.shaped q = true then some (D.bl (PyData.eqv p q)) else none) = some (.bl k) from h)
  obtain ⟨q, h3, h4⟩ := Option.bind_eq_some_iff.mp h2
  by_cases z : SeqAt.shaped p = true ∧ SeqAt.shaped q = true
  · rw [if_pos z] at h4
    cases h4
    simp [opNe, h1, h3, z]
  · rw [if_neg z] at h4; cases h4
theorem loopS_all {tg : FG} {body : FS} {g : D → Bool} {I : Lo → Prop} {st : Store} : ∀ {us : List D}, (∀ u ∈ us, ∀ env, I env → ∃ e1, tg u env = some e1 ∧ ∃ e2, I e2 ∧ body e1 st = some (if g u = true then (.nx, e2, st) else (.rt (.bl false), e2, st))) →
    ∀ env, I env → ∃ e2, I e2 ∧ loopS tg body us env st = some (if us.all g = true then .nx else .rt (.bl false), e2, st)
  | [], _, env, i => ⟨env, i, rfl⟩
  | u :: us, h, env, i => by
    obtain ⟨e1, h1, e2, i2, h2⟩ := h u List.mem_cons_self env i
    cases q : g u with
    | true =>
      obtain ⟨e3, i3, h3⟩ := loopS_all (fun v hv => h v (List.mem_cons_of_mem _ hv)) e2 i2
      refine ⟨e3, i3, ?_⟩
      rw [q] at h2
      simp [loopS, h1, h2, h3, q]
    | false =>
      refine ⟨e2, i2, ?_⟩
      rw [q] at h2
      simp [loopS, h1, h2, q]
def isD (x : Str) : D → Bool | .str y => y == x | _ => false
theorem countS_ok (z : Str) : ∀ {ds : List D}, okL ds = true → countS z ds = some (ds.countP (isD z))
  | [], _ => rfl
  | d :: ds, h => by
    obtain ⟨h1, h2⟩ := Bool.and_eq_true_iff.mp (show (okD d && okL ds) = true from h)
    have e : eqS z d = some (isD z d) := by
      cases d <;> first
        | rfl
        | (cases h1; done)
    simp [countS, e, countS_ok z h2, List.countP_cons]
def goodB (ds : List D) (u : D) : Bool := colNameB u && match u with | .str x => decide (ds.countP (isD x) ≤ 1) | _ => true
theorem countP_isD (x : Str) : ∀ xs : List Str, (xs.map D.str).countP (isD x) = xs.count x
  | [] => rfl
  | y :: ys => by rw [List.map_cons, List.countP_cons, List.count_cons, countP_isD x ys]; rfl
theorem good_all {ds : List D} : ds.all (goodB ds) = (ds.all colNameB && strsB ds) := by
  cases q : ds.all colNameB with
  | true =>
    obtain ⟨xs, h1, h2⟩ := names_strs q
    rw [Bool.true_and, strsB, h1]
    have h3 : ds.all (goodB ds) = true ↔ xs.Nodup := by
      rw [List.all_eq_true, List.nodup_iff_count]
      have q2 := List.all_eq_true.mp q
      refine ⟨fun h a => ?_, fun h d hd => ?_⟩
      · by_cases m : a ∈ xs
        · have := h (.str a) (by rw [h2]; exact List.mem_map_of_mem m)
          unfold goodB at this
          rw [Bool.and_eq_true] at this
          have := of_decide_eq_true this.2
          rwa [h2, countP_isD] at this
        · rw [List.count_eq_zero_of_not_mem m]; omega
      · have hc := q2 d hd
        rw [h2] at hd
        obtain ⟨x, hx, rfl⟩ := List.mem_map.mp hd
        unfold goodB
        rw [hc, Bool.true_and]
        refine decide_eq_true ?_
        rw [h2, countP_isD]
        exact h x
    by_cases n : xs.Nodup
    · rw [h3.mpr n]; simp [n]
    · have : ds.all (goodB ds) = false := by
        cases h : ds.all (goodB ds) with
        | false => rfl
        | true => exact absurd (h3.mp h) n
      rw [this]; simp [n]
  | false =>
    rw [Bool.false_and]
    cases h : ds.all (goodB ds) with
    | false => rfl
    | true =>
      have : ds.all colNameB = true := List.all_eq_true.mpr fun d hd => by
        have := List.all_eq_true.mp h d hd
        unfold goodB at this
        rw [Bool.and_eq_true] at this
        exact this.1
      rw [q] at this; cases this
theorem lows_ne (x : Str) (h : okD (.str x) = true) : opNe (.lst (((tl x).filter fun c => !lowB c).map fun c => .str ⟨#[c]⟩)) (.lst []) = some (.bl (!(tl x).all lowB)) := by
  have hx : ∀ c ∈ tl x, c < 128 := fun c hc => of_decide_eq_true (List.all_eq_true.mp h c hc)
  have sn := signs_nil (l := (tl x).filter fun c => !lowB c) fun c hc => hx c (List.mem_filter.mp hc).1
  rw [filter_nil'] at sn
  exact opNe_of sn
theorem cdue_ok {d : D} (h : okw d) (st : Store) : m__law_columns_due [d] st = some (.bl (colsB d), st) := by
  cases d with
  | tup us =>
    have z := h.len
    have c := chain_int (a := 1) (b := us.length) (c := 6) (fa := fC (.int 1)) (fb := fMk bLen (aCons (fVar 0) aNil)) (fc := fC (.int 6)) (env := [some (.tup us), none, none]) (st := st) (by simp [fC]) (by simp [fMk, bLen, lenL, aCons, aNil, fVar, z]) (by simp [fC])
    by_cases q : 1 ≤ us.length ∧ us.length ≤ 6
    · have q2 : (1 : Int) ≤ us.length ∧ (us.length : Int) ≤ 6 := by omega
      simp only [m__law_columns_due, g__law_columns_due]
      generalize hB : (sSeq (sIf (fOrT (fNotT (fTest (fIsi "str" (fVar 1)))) _) _ _) _ : FS) = B
      obtain ⟨e2, ⟨x2, rfl⟩, lp⟩ := loopS_all (tg := gN 1) (body := B) (g := goodB us) (I := fun env => ∃ x, env = [some (.tup us), x, none]) (st := st) (us := us) (fun u hu env i => by
        obtain ⟨x1, rfl⟩ := i
        refine ⟨[some (.tup us), some u, none], rfl, [some (.tup us), some u, none], ⟨_, rfl⟩, ?_⟩
        subst hB
        have hw := h.mem hu
        cases u with
        | str x =>
          have zx := hw.strlen
          have cx := chain_int (a := 1) (b := x.length) (c := 8) (fa := fC (.int 1)) (fb := fMk bLen (aCons (fVar 1) aNil)) (fc := fC (.int 8)) (env := [some (.tup us), some (.str x), none]) (st := st) (by simp [fC]) (by simp [fMk, bLen, lenL, aCons, aNil, fVar, zx]) (by simp [fC])
          have ct := countS_ok x (ds := us) h.1
          have ib := inBar false x
          simp only [barL, List.map_cons, List.map_nil, Bool.false_eq_true, if_false] at ib
          have ne := lows_ne x hw.1
          have lb := lowbad_loop (tl x) (.tup us) (.str x) st
          have zz : (((tl x).filter fun c => !lowB c).map fun c => D.str ⟨#[c]⟩).length ≤ sizeLine := by
            rw [List.length_map]
            exact Nat.le_trans (List.length_filter_le _ _) (by rw [tl_len]; exact zx)
          have z7 : 7 ≤ sizeLine := by decide
          by_cases q1 : 1 ≤ x.length ∧ x.length ≤ 8
          case neg =>
            have q2 : ¬ ((1 : Int) ≤ x.length ∧ (x.length : Int) ≤ 8) := by omega
            simp only [q2, decide_false] at cx
            simp [sSeq, sIf, sRet, sNil, fOrT, fNotT, fTest, fIsi, tyD, isiB, asB, fVar, cx, fC, goodB, colNameB, nameB, q1]
          have q2 : (1 : Int) ≤ x.length ∧ (x.length : Int) ≤ 8 := by omega
          simp only [q2, and_self, decide_true] at cx
          by_cases c1 : us.countP (isD x) ≤ 1
          case neg =>
            have c2 : (1 : Int) < (us.countP (isD x) : Nat) := by omega
            simp [sSeq, sIf, sRet, sNil, fOrT, fNotT, fTest, fIsi, tyD, isiB, asB, fVar, cx, fC, fOp, fMt, aCons, aNil, tcountD, ct, opGt_int, c2, goodB, c1]
          have c2 : ¬ (1 : Int) < (us.countP (isD x) : Nat) := by omega
          cases hb : barB x with
          | true =>
            rw [hb] at ib
            simp [sSeq, sIf, sRet, sNil, fOrT, fNotT, fTest, fIsi, tyD, isiB, asB, fVar, cx, fC, fOp, fMt, fMk, mkTup, z7, aCons, aNil, tcountD, ct, opGt_int, c2, goodB, c1, ib, colNameB, hb]
          | false =>
            rw [hb] at ib
            have lc : ∀ env, env = [some (.tup us), some (.str x), none] → fOp opNe (fComp (iOf asStr (fVar 1)) [2] b1 (fNotT (fTest (fChain opLe opLe (fC (.str (Str.ofString "a"))) (fVar 2) (fC (.str (Str.ofString "z")))))) (fVar 2)) (fMk mkLst aNil) env st = some (.bl (!(tl x).all lowB), st) := by
              rintro env rfl
              simp [fOp, fComp, iOf, fVar, asStr, wipeL]
              rw [show (x.cps.toList.map fun c => D.str ⟨#[c]⟩) = (tl x).map fun c => D.str ⟨#[c]⟩ from rfl, lb]
              simp at zz ne
              simp [zz, fMk, aNil, mkLst, ne]
            have li : ∀ env, env = [some (.tup us), some (.str x), none] → fOp (inSeq false) (fVar 1) (fMk mkTup (aCons (fC (.str (Str.ofString "all"))) (aCons (fC (.str (Str.ofString "and"))) (aCons (fC (.str (Str.ofString "in"))) (aCons (fC (.str (Str.ofString "none"))) (aCons (fC (.str (Str.ofString "not"))) (aCons (fC (.str (Str.ofString "or"))) (aCons (fC (.str (Str.ofString "starts"))) aNil)))))))) env st = some (.bl false, st) := by
              rintro env rfl
              simp [fOp, fVar, fMk, aCons, aNil, fC, mkTup, z7, ib]
            have lt : fOp opGt (fMt tcountD (fVar 0) (aCons (fVar 1) aNil)) (fC (.int 1)) [some (.tup us), some (.str x), none] st = some (.bl false, st) := by
              simp [fOp, fMt, fVar, aCons, aNil, tcountD, ct, fC, opGt_int, c2]
            simp only [sSeq, sIf, sRet, sNil, fOrT, fNotT, fTest, fIsi, tyD, isiB, asB]
            have li2 := li _ rfl
            have lc2 := lc _ rfl
            have e : goodB us (.str x) = (tl x).all lowB := by
              simp only [goodB, colNameB, nameB]
              rw [hb, decide_eq_true q1, decide_eq_true c1, Bool.true_and, Bool.not_false, Bool.and_true, Bool.and_true]
            rw [e]
            generalize (tl x).all lowB = kk at lc2
            cases kk <;> simp [fVar, cx, lt, asB, li2, lc2, fC]
        | scr _ => cases hw.1
        | ref _ => cases hw.1
        | _ => simp [sSeq, sIf, sRet, sNil, fOrT, fNotT, fTest, fIsi, tyD, isiB, asB, fVar, fC, goodB, colNameB, nameB]) [some (.tup us), none, none] ⟨_, rfl⟩
      rw [good_all] at lp
      simp only [mOf, outM, startD, sSeq, sIf, sRet, sNil, fOrT, fNotT, fTest, fIsi, tyD, isiB, asB]
      have e : colsB (.tup us) = (us.all colNameB && strsB us) := by
        simp only [colsB]
        rw [decide_eq_true q, Bool.true_and]
      rw [e]
      generalize (us.all colNameB && strsB us) = kk at lp
      cases kk <;> simp at lp <;> simp [fVar, c, q2, asB, sFor, iOf, asT, lp, fC]
    · have q2 : ¬ ((1 : Int) ≤ us.length ∧ (us.length : Int) ≤ 6) := by omega
      simp only [q2, decide_false] at c
      simp only [m__law_columns_due, g__law_columns_due, mOf, outM, startD, sSeq, sIf, sRet, sNil, fOrT, fNotT, fTest, fIsi, tyD, isiB, asB, colsB]
      simp [fVar, c, fC, q, asB]
  | scr _ => cases h.1
  | ref _ => cases h.1
  | _ => simp [m__law_columns_due, g__law_columns_due, mOf, outM, startD, sSeq, sIf, sRet, sNil, fOrT, fNotT, fTest, fIsi, tyD, isiB, asB, fVar, fC, colsB]
end LW
namespace LW
open PySem PySem.Spec PyProof.Rows L2 DL TL
theorem ix0' {a : D} {r : List D} : L2.atI (a :: r) 0 = some a := atI_nat (j := 0) rfl
theorem ix1' {a b : D} {r : List D} : L2.atI (a :: b :: r) 1 = some b := atI_nat (j := 1) rfl
theorem len2 {us : List D} (h : us.length = 2) : ∃ a b, us = [a, b] := by
  match us, h with
  | [a, b], _ => exact ⟨a, b, rfl⟩
theorem rowB_no {n : Nat} {us : List D} (h : ¬ us.length = 2) : rowB n (.tup us) = false := by
  match us, h with
  | [], _ => rfl
  | [_], _ => rfl
  | [_, _], h => exact absurd rfl h
  | a :: b :: c :: r, _ => cases b <;> rfl
theorem noFalse (l : List Bool) : inSeq true (.bl false) (.lst (l.map .bl)) = some (.bl (l.all id)) := by
  have key : ∀ l : List Bool, anyF (.bl false) (l.map .bl) = some (!(l.all id)) := by
    intro l
    induction l with
    | nil => rfl
    | cons b l ih => cases b <;> simp [anyF, eqF, ih]
  have := key l
  simp only [inSeq, flatD, if_true, this, Option.map_some, Bool.not_not]
theorem row_ok {cs : List D} {d : D} (hc : cs.length ≤ sizeLine) (h : okw d) (st : Store) : m_is_row [.tup cs, d] st = some (.bl (rowB cs.length d), st) := by
  cases d with
  | tup us =>
    have z := h.len
    by_cases q : us.length = 2
    · obtain ⟨a, b, rfl⟩ := len2 q
      have ha := h.mem (d := a) (by simp)
      have hb := h.mem (d := b) (by simp)
      have k1 := rowid_ok ha st
      have z2 : 2 ≤ sizeLine := by decide
      have nq : opNe (.int 2) (.int 2) = some (.bl false) := by rw [opNe_int]; rfl
      have pre : ∀ k, (k = false → rngB 1 1000000 a = false) → True := fun _ _ => trivial
      cases qa : rngB 1 1000000 a with
      | false =>
        rw [qa] at k1
        have e : rowB cs.length (.tup [a, b]) = false := by cases b <;> simp [rowB, qa]
        rw [e]
        simp [m_is_row, g_is_row, mOf, outM, startD, sSeq, sIf, sRet, sNil, sAsg, gT, gCons', gNil', gN, fOrT, fNotT, fTest, fIsi, tyD, isiB, asB, fVar, fOp, fMk, bLen, lenL, aCons, aNil, z2, fC, nq, fCall, k1]
      | true =>
        rw [qa] at k1
        cases b with
        | tup vs =>
          have zv := hb.len
          have lp := map_loop (is := [4]) (f := fCall m_is_value (aCons (fVar 4) aNil)) (env := [some (.tup cs), some (.tup [a, .tup vs]), some a, some (.tup vs), none]) (st := st) (g := valB) (us := vs) (fun u hu => by simp [fCall, aCons, aNil, fVar, setL, isval_ok (hb.mem hu)])
          have ba := bools_map (vs.map valB)
          have al := all_id valB vs
          have e : rowB cs.length (.tup [a, .tup vs]) = (decide (vs.length = cs.length) && vs.all valB) := by simp only [rowB]; rw [qa, Bool.true_and]
          rw [e]
          by_cases ql : vs.length = cs.length
          · have qe : opEq (.int vs.length) (.int cs.length) = some (.bl true) := by rw [opEq_int, ql]; simp
            rw [decide_eq_true ql, Bool.true_and]
            generalize vs.all valB = kk at al
            simp only [m_is_row, g_is_row, mOf, outM, startD, sSeq, sIf, sRet, sNil, sAsg, gT, gCons', gNil', gN, fOrT, fNotT, fTest, fIsi, tyD, isiB, asB, fAnd]
            simp at ba al zv
            simp [fVar, fOp, fMk, bLen, lenL, aCons, aNil, z2, fC, nq, fCall, k1, asB, isiB, tyD, zv, hc, qe, fComp, iOf, asT, wipeL, lp, bAll, ba, al]
          · have qe : opEq (.int vs.length) (.int cs.length) = some (.bl false) := by
              rw [opEq_int]
              have : (vs.length : Int) ≠ cs.length := by omega
              simp [this]
            rw [decide_eq_false ql, Bool.false_and]
            simp only [m_is_row, g_is_row, mOf, outM, startD, sSeq, sIf, sRet, sNil, sAsg, gT, gCons', gNil', gN, fOrT, fNotT, fTest, fIsi, tyD, isiB, asB, fAnd]
            simp [fVar, fOp, fMk, bLen, lenL, aCons, aNil, z2, fC, nq, fCall, k1, asB, isiB, tyD, zv, hc, qe]
        | scr _ => cases hb.1
        | ref _ => cases hb.1
        | _ => simp [m_is_row, g_is_row, mOf, outM, startD, sSeq, sIf, sRet, sNil, sAsg, gT, gCons', gNil', gN, fOrT, fNotT, fTest, fIsi, tyD, isiB, asB, fVar, fOp, fMk, bLen, lenL, aCons, aNil, z2, fC, nq, fCall, k1, rowB]
    · have nq : opNe (.int us.length) (.int 2) = some (.bl true) := by
        rw [opNe_int]
        have : (us.length : Int) ≠ 2 := by omega
        simp [this]
      rw [rowB_no q]
      simp [m_is_row, g_is_row, mOf, outM, startD, sSeq, sIf, sRet, sNil, fOrT, fNotT, fTest, fIsi, tyD, isiB, asB, fVar, fOp, fMk, bLen, lenL, aCons, aNil, z, fC, nq]
  | scr _ => cases h.1
  | ref _ => cases h.1
  | _ => simp [m_is_row, g_is_row, mOf, outM, startD, sSeq, sIf, sRet, sNil, fOrT, fNotT, fTest, fIsi, tyD, isiB, asB, fVar, fC, rowB]
theorem pow106 : powI (.int 10) (.int 6) = some (.int 1000000) := by
  have := bits10
  simp [powI, onI, this]
  omega
theorem rdue_ok {cs : List D} {d : D} (hc : cs.length ≤ sizeLine) (h : okw d) (st : Store) : m__law_row_due [.tup cs, d] st = some (.bl (rowB cs.length d), st) := by
  cases d with
  | tup us =>
    have z := h.len
    by_cases q : us.length = 2
    · obtain ⟨a, b, rfl⟩ := len2 q
      have ha := h.mem (d := a) (by simp)
      have hb := h.mem (d := b) (by simp)
      have k1 := linteger_ok ha 1 1000000 st
      have z2 : 2 ≤ sizeLine := by decide
      have nq : opNe (.int 2) (.int 2) = some (.bl false) := by rw [opNe_int]; rfl
      have i0 : L2.atI [a, b] 0 = some a := ix0'
      have i1 : L2.atI [a, b] 1 = some b := ix1'
      cases qa : rngB 1 1000000 a with
      | false =>
        rw [qa] at k1
        have e : rowB cs.length (.tup [a, b]) = false := by cases b <;> simp [rowB, qa]
        rw [e]
        simp [m__law_row_due, g__law_row_due, mOf, outM, startD, sSeq, sIf, sRet, sNil, fOrT, fNotT, fTest, fIsi, tyD, isiB, asB, fVar, fOp, fMk, bLen, lenL, aCons, aNil, z2, fC, nq, fCall, pow106, fSub, ixD, i0, k1]
      | true =>
        rw [qa] at k1
        cases b with
        | tup vs =>
          have zv := hb.len
          have lp := map_loop (is := [2]) (f := fCall m__law_value_due (aCons (fVar 2) aNil)) (env := [some (.tup cs), some (.tup [a, .tup vs]), none]) (st := st) (g := valB) (us := vs) (fun u hu => by simp [fCall, aCons, aNil, fVar, setL, vdue_ok (hb.mem hu)])
          have nf := noFalse (vs.map valB)
          have al := all_id valB vs
          rw [al] at nf
          have e : rowB cs.length (.tup [a, .tup vs]) = (decide (vs.length = cs.length) && vs.all valB) := by simp only [rowB]; rw [qa, Bool.true_and]
          rw [e]
          by_cases ql : vs.length = cs.length
          · have qe : opNe (.int vs.length) (.int cs.length) = some (.bl false) := by rw [opNe_int, ql]; simp
            rw [decide_eq_true ql, Bool.true_and]
            generalize vs.all valB = kk at nf
            simp only [m__law_row_due, g__law_row_due, mOf, outM, startD, sSeq, sIf, sRet, sNil, fOrT, fNotT, fTest, fIsi, tyD, isiB, asB]
            simp at nf zv
            simp [fVar, fOp, fMk, bLen, lenL, aCons, aNil, z2, fC, nq, fCall, pow106, fSub, ixD, i0, i1, k1, asB, isiB, tyD, zv, hc, qe, fComp, iOf, asT, wipeL, lp, nf]
          · have qe : opNe (.int vs.length) (.int cs.length) = some (.bl true) := by
              rw [opNe_int]
              have : (vs.length : Int) ≠ cs.length := by omega
              simp [this]
            rw [decide_eq_false ql, Bool.false_and]
            simp only [m__law_row_due, g__law_row_due, mOf, outM, startD, sSeq, sIf, sRet, sNil, fOrT, fNotT, fTest, fIsi, tyD, isiB, asB]
            simp [fVar, fOp, fMk, bLen, lenL, aCons, aNil, z2, fC, nq, fCall, pow106, fSub, ixD, i0, i1, k1, asB, isiB, tyD, zv, hc, qe]
        | scr _ => cases hb.1
        | ref _ => cases hb.1
        | _ => simp [m__law_row_due, g__law_row_due, mOf, outM, startD, sSeq, sIf, sRet, sNil, fOrT, fNotT, fTest, fIsi, tyD, isiB, asB, fVar, fOp, fMk, bLen, lenL, aCons, aNil, z2, fC, nq, fCall, pow106, fSub, ixD, i0, i1, k1, rowB]
    · have nq : opNe (.int us.length) (.int 2) = some (.bl true) := by
        rw [opNe_int]
        have : (us.length : Int) ≠ 2 := by omega
        simp [this]
      rw [rowB_no q]
      simp [m__law_row_due, g__law_row_due, mOf, outM, startD, sSeq, sIf, sRet, sNil, fOrT, fNotT, fTest, fIsi, tyD, isiB, asB, fVar, fOp, fMk, bLen, lenL, aCons, aNil, z, fC, nq]
  | scr _ => cases h.1
  | ref _ => cases h.1
  | _ => simp [m__law_row_due, g__law_row_due, mOf, outM, startD, sSeq, sIf, sRet, sNil, fOrT, fNotT, fTest, fIsi, tyD, isiB, asB, fVar, fC, rowB]
theorem told_ok {cs : List D} {d : D} (n : Nat) (hc : cs.length ≤ sizeLine) (h : okw d) (l : hD d ≤ 64) (st : Store) : m__law_told [.ref n, .tup cs, d] st = some (.bl true, st) := by
  obtain ⟨x, hx⟩ := repr_any h.1 l h.2
  have k1 := isval_ok h st
  have k2 := vdue_ok h st
  have k3 := cols_ok h st
  have k4 := cdue_ok h st
  have k5 := row_ok hc h st
  have k6 := rdue_ok hc h st
  have e : ∀ b : Bool, opNe (.bl b) (.bl b) = some (.bl false) := fun b => by cases b <;> rfl
  have e2 : opEqS (.str x) (.str x) = some (.bl true) := by simp [opEqS, onS]
  have z2 : 2 ≤ sizeLine := by decide
  have z3 : 3 ≤ sizeLine := by decide
  simp only [m__law_told, g__law_told, mOf, outM, startD, sSeq, sAsg, gN, sRet, fOrT, fNotT, fTest]
  simp [fMk, aCons, aNil, fVar, hx, fCall, k1, k2, k3, k4, k5, k6, mkTup, mkLst, z2, z3, sFor, iOf, asL, loopS, gT, gCons', gNil', gN, sIf, sNil, sSeq, fOrT, fNotT, fTest, fIsi, tyD, isiB, asB, fOp, e, e2]
end LW
namespace LW
open PySem PySem.Spec PyProof.Rows L2 DL TL
def thB (d : D) : Bool := okD d && (decide (wD d ≤ 2500) && decide (hD d ≤ 3))
def S (s : String) : D := .str (Str.ofString s)
def t1 : List D := [.non, .int 0, .int 1, .int (-1), .bl true, .bl false, .int 1000000000, .int 1000000001, .int (-1000000000), .int (-1000000001), .int 1000000, .int 1000001]
def t2 : List D := [.str (Str.ofString ""), .str (Str.ofString "a"), .str (Str.ofString "ab"), .str (Str.ofString "A"), .str (Str.ofString "a1"), .str (Str.ofString "all"), .str (Str.ofString "starts"), .str (Str.ofString "order"), .str (Str.ofString "abcdefgh"), .str (Str.ofString "abcdefghi"), .str (Str.ofString " "), .str (Str.ofString "~"), .str (Str.ofString "\n"), .str (Str.ofString "a\n")]
def t3 : List D := [.str (Str.ofString "and"), .str (Str.ofString "in"), .str (Str.ofString "none"), .str (Str.ofString "not"), .str (Str.ofString "or")]
def t4 : List D := [.str (Txt.mul (Str.ofString "x") 20), .str (Txt.mul (Str.ofString "x") 21), .tup [], .lst [], .dct [], .tup [.str (Str.ofString "a")], .lst [.str (Str.ofString "a")], .tup [.int 1, .tup [.int 2]], .tup [.int 1], .int (10 ^ 59)]
theorem allT : (t1 ++ t2 ++ t3 ++ t4).all thB = true := by decide +kernel
theorem mulx (k : Int) (h : 0 ≤ k ∧ k ≤ 1000) : opMul (.str (Str.ofString "x")) (.int k) = some (.str (Txt.mul (Str.ofString "x") k)) := by
  have : (Str.ofString "x").length ≤ 1000 := by decide
  simp [opMul, orD, mulI, onI, mulS, this, h]
theorem pow1059 : powI (.int 10) (.int 59) = some (.int (10 ^ 59)) := by
  have := bits10
  simp [powI, onI, this]
  omega
theorem thing_ok {st : Store} {n : Nat} (t : Tp st n) : ∃ d st', m__law_thing [.ref n] st = some (d, st') ∧ okD d = true ∧ wD d ≤ 2500 ∧ hD d ≤ 3 ∧ Tp st' n ∧ Fr n st st' ∧ st'.length = st.length := by
  obtain ⟨d, s1, h1, m1, tt, f1, l1⟩ := one_ok (xs := t1 ++ t2 ++ t3 ++ t4) t (by decide) (by decide)
  have hb := List.all_eq_true.mp allT d m1
  unfold thB at hb
  rw [Bool.and_eq_true, Bool.and_eq_true] at hb
  refine ⟨d, s1, ?_, hb.1, of_decide_eq_true hb.2.1, of_decide_eq_true hb.2.2, tt, f1, l1⟩
  have a1 : opAdd (.lst t1) (.lst t2) = some (.lst (t1 ++ t2)) := addL_ok (by decide)
  have a2 : opAdd (.lst (t1 ++ t2)) (.lst t3) = some (.lst (t1 ++ t2 ++ t3)) := addL_ok (by decide)
  have a3 : opAdd (.lst (t1 ++ t2 ++ t3)) (.lst t4) = some (.lst (t1 ++ t2 ++ t3 ++ t4)) := addL_ok (by decide)
  have z : ∀ k : Nat, k ≤ 20 → k ≤ sizeLine := fun k hk => Nat.le_trans hk (by decide)
  have e1 : (fMk mkLst (aCons (fC .non) (aCons (fC (.int 0)) (aCons (fC (.int 1)) (aCons (fUn negI (fC (.int 1))) (aCons (fC (.bl true)) (aCons (fC (.bl false)) (aCons (fOp powI (fC (.int 10)) (fC (.int 9))) (aCons (fOp opAdd (fOp powI (fC (.int 10)) (fC (.int 9))) (fC (.int 1))) (aCons (fOp subI (fC (.int 0)) (fOp powI (fC (.int 10)) (fC (.int 9)))) (aCons (fOp subI (fOp subI (fC (.int 0)) (fOp powI (fC (.int 10)) (fC (.int 9)))) (fC (.int 1))) (aCons (fOp powI (fC (.int 10)) (fC (.int 6))) (aCons (fOp opAdd (fOp powI (fC (.int 10)) (fC (.int 6))) (fC (.int 1))) aNil))))))))))))) = fC (.lst t1) := by
    funext env st
    simp [fMk, mkLst, mkTup, aCons, aNil, fC, fUn, negI, fOp, pow109, pow106, pow1059, mulx, subI_int, opAdd_int, z, t1]
  have e2 : (fMk mkLst (aCons (fC (.str (Str.ofString ""))) (aCons (fC (.str (Str.ofString "a"))) (aCons (fC (.str (Str.ofString "ab"))) (aCons (fC (.str (Str.ofString "A"))) (aCons (fC (.str (Str.ofString "a1"))) (aCons (fC (.str (Str.ofString "all"))) (aCons (fC (.str (Str.ofString "starts"))) (aCons (fC (.str (Str.ofString "order"))) (aCons (fC (.str (Str.ofString "abcdefgh"))) (aCons (fC (.str (Str.ofString "abcdefghi"))) (aCons (fC (.str (Str.ofString " "))) (aCons (fC (.str (Str.ofString "~"))) (aCons (fC (.str (Str.ofString "\n"))) (aCons (fC (.str (Str.ofString "a\n"))) aNil))))))))))))))) = fC (.lst t2) := by
    funext env st
    simp [fMk, mkLst, mkTup, aCons, aNil, fC, fUn, negI, fOp, pow109, pow106, pow1059, mulx, subI_int, opAdd_int, z, t2]
  have e3 : (fMk mkLst (aCons (fC (.str (Str.ofString "and"))) (aCons (fC (.str (Str.ofString "in"))) (aCons (fC (.str (Str.ofString "none"))) (aCons (fC (.str (Str.ofString "not"))) (aCons (fC (.str (Str.ofString "or"))) aNil)))))) = fC (.lst t3) := by
    funext env st
    simp [fMk, mkLst, mkTup, aCons, aNil, fC, fUn, negI, fOp, pow109, pow106, pow1059, mulx, subI_int, opAdd_int, z, t3]
  have e4 : (fMk mkLst (aCons (fOp opMul (fC (.str (Str.ofString "x"))) (fC (.int 20))) (aCons (fOp opMul (fC (.str (Str.ofString "x"))) (fC (.int 21))) (aCons (fMk mkTup aNil) (aCons (fMk mkLst aNil) (aCons (fC (.dct [])) (aCons (fMk mkTup (aCons (fC (.str (Str.ofString "a"))) aNil)) (aCons (fMk mkLst (aCons (fC (.str (Str.ofString "a"))) aNil)) (aCons (fMk mkTup (aCons (fC (.int 1)) (aCons (fMk mkTup (aCons (fC (.int 2)) aNil)) aNil))) (aCons (fMk mkTup (aCons (fC (.int 1)) aNil)) (aCons (fOp powI (fC (.int 10)) (fC (.int 59))) aNil))))))))))) = fC (.lst t4) := by
    funext env st
    simp [fMk, mkLst, mkTup, aCons, aNil, fC, fUn, negI, fOp, pow109, pow106, pow1059, mulx, subI_int, opAdd_int, z, t4]
  simp only [m__law_thing, g__law_thing, e1, e2, e3, e4]
  generalize ht : t1 ++ t2 = x2 at *
  generalize ht3 : x2 ++ t3 = x3 at *
  generalize ht4 : x3 ++ t4 = x4 at *
  simp [mOf, outM, startD, sSeq, sAsg, gN, sRet, fC, fOp, fVar, a1, a2, a3, fCall, aCons, aNil, e_one, h1]
theorem opEqA_nil (r : List D) : opEqA (.tup r) (.tup []) = some (.bl r.isEmpty) := by
  have e : (r.length == 0) = r.isEmpty := by cases r <;> rfl
  simp [opEqA, orD, DL.eqT, eqNil, e]
theorem cutTo {xs : List D} {i : Int} (h0 : 0 ≤ i) (h1 : i ≤ xs.length) : DL.cutD xs none (some i) = xs.take i.toNat := by
  unfold DL.cutD
  rw [show i = ((i.toNat : Nat) : Int) from (Int.toNat_of_nonneg h0).symm, HT.sIx_nat, HT.sIx_none, Int.toNat_natCast]
  simp
theorem cutFrom {xs : List D} {i : Int} (h0 : 0 ≤ i) (h1 : i ≤ xs.length) : DL.cutD xs (some i) none = xs.drop i.toNat := by
  unfold DL.cutD
  rw [show i = ((i.toNat : Nat) : Int) from (Int.toNat_of_nonneg h0).symm, HT.sIx_nat, HT.sIx_none, Int.toNat_natCast]
  rw [Nat.min_eq_left (by omega), List.take_of_length_le (by rw [List.length_drop]; exact Nat.le_refl _)]
theorem addT_any {xs ys : List D} (h : xs.length + ys.length ≤ 1000000) : opAdd (.tup xs) (.tup ys) = some (.tup (xs ++ ys)) := by
  have : xs.length + ys.length ≤ sizeLine := Nat.le_trans h (by rw [sizeLine_eq]; decide)
  simp [opAdd, orD, addI, addS, addL, addT, onI, onS, this]
theorem wL_cut (xs : List D) (i : Nat) : wL (xs.take i) + wL (xs.drop i) = wL xs := by rw [← wL_append, List.take_append_drop]
theorem wL_drop (xs : List D) (i : Nat) : wL (xs.drop (i + 1)) ≤ wL (xs.drop i) := by
  have := wL_cut (xs.drop i) 1
  rw [List.drop_drop] at this
  omega
theorem wL_at {xs : List D} {i : Nat} {x : D} (h : xs[i]? = some x) : wL (xs.take i) + (wD x + 1) + wL (xs.drop (i + 1)) = wL xs := by
  obtain ⟨hi, e⟩ := List.getElem?_eq_some_iff.mp h
  have := wL_cut xs i
  rw [List.drop_eq_getElem_cons hi, e, wL] at this
  omega
/-- what a bent thing may be -/
structure Bent (d e : D) : Prop where
  ok : okD e = true
  w : wD e ≤ 2 * wD d + 2600
  h : hD e ≤ hD d + 4
/-- parts of xs, and one more -/
theorem mixT {xs ys : List D} (hx : okD (.tup xs) = true) (hm : ∀ y ∈ ys, y ∈ xs ∨ (okD y = true ∧ hD y ≤ hL xs + 4)) (hw : wL ys ≤ 2 * wL xs + 2600) : Bent (.tup xs) (.tup ys) := by
  have ok := okL_mem.mp (show okL xs = true from hx)
  refine ⟨okL_mem.mpr fun y hy => (hm y hy).elim (ok y) fun z => z.1, hw, ?_⟩
  show hL ys + 1 ≤ hL xs + 1 + 4
  have : hL ys ≤ hL xs + 4 := hL_le.mpr fun y hy => (hm y hy).elim (fun z => Nat.le_trans (hL_le.mp (Nat.le_refl _) y z) (Nat.le_add_right _ _)) fun z => z.2
  omega
theorem bent_ok : ∀ (k : Nat) {st : Store} {n : Nat} {d : D}, Tp st n → okD d = true → wD d ≤ 200000 → hD d < k → ∃ e st', m__law_bent k [.ref n, d] st = some (e, st') ∧ Bent d e ∧ Tp st' n ∧ Fr n st st' ∧ st'.length = st.length
  | 0, _, _, _, _, _, _, h => by omega
  | k + 1, st, n, d, t, hok, hw, hk => by
    have small : ∀ {e : D}, okD e = true → wD e ≤ 2500 → hD e ≤ 3 → Bent d e := fun a b c => ⟨a, by omega, by omega⟩
    by_cases ht : ∃ xs, d = .tup xs ∧ xs ≠ []
    case neg =>
      obtain ⟨e, s1, g1, o1, w1, h1, t1, f1, l1⟩ := thing_ok t
      refine ⟨e, s1, ?_, small o1 w1 h1, t1, f1, l1⟩
      cases d with
      | tup xs =>
        cases xs with
        | nil => simp [m__law_bent, g__law_bent, mOf, outM, startD, sSeq, sIf, sRet, fOrT, fNotT, fTest, fIsi, fVar, tyD, isiB, asB, fOp, fMk, mkTup, aCons, aNil, opEqA_nil, fCall, g1]
        | cons a r => exact absurd ⟨_, rfl, by simp⟩ ht
      | scr _ => cases hok
      | ref _ => cases hok
      | _ => simp [m__law_bent, g__law_bent, mOf, outM, startD, sSeq, sIf, sRet, fOrT, fNotT, fTest, fIsi, fVar, tyD, isiB, asB, fCall, aCons, aNil, g1]
    obtain ⟨xs, rfl, hne⟩ := ht
    have hpos : 0 < xs.length := List.length_pos_iff.mpr hne
    have hlen : xs.length ≤ 200000 := Nat.le_trans (len_wL xs) hw
    have hemp : xs.isEmpty = false := by cases xs with | nil => exact absurd rfl hne | cons _ _ => rfl
    obtain ⟨r, s1, g1, r0, r8, t1, f1, l1⟩ := pick_ok t (s := 7) (by decide) (by decide)
    by_cases c0 : r = 0
    · subst c0
      obtain ⟨e, s2, g2, o1, w1, h1, t2, f2, l2⟩ := thing_ok t1
      exact ⟨e, s2, by simp [m__law_bent, g__law_bent, mOf, outM, startD, sSeq, sIf, sRet, fOrT, fNotT, fTest, fIsi, fVar, tyD, isiB, asB, fOp, fMk, mkTup, aCons, aNil, opEqA_nil, hemp, fCall, e_pick, fC, g1, opEq_int, g2], small o1 w1 h1, t2, f1.trans f2, by rw [l2, l1]⟩
    have q0 : (r == 0) = false := by simp [c0]
    obtain ⟨a, s2, g2, a0, a1, t2, f2, l2⟩ := pick_ok t1 (s := (xs.length : Int)) (by omega) (by omega)
    obtain ⟨y, s3, g3, y0, y1, t3, f3, l3⟩ := pick_ok t2 (s := 9) (by decide) (by decide)
    have f13 := (f1.trans f2).trans f3
    have l13 : s3.length = st.length := by rw [l3, l2, l1]
    have ca := cutTo (xs := xs) (i := a) a0 (by omega)
    have cb := cutFrom (xs := xs) (i := a) a0 (by omega)
    have cc := cutTo (xs := xs) (i := a + 1) (by omega) (by omega)
    have cd := cutFrom (xs := xs) (i := a + 1) (by omega) (by omega)
    have ea : (a + 1).toNat = a.toNat + 1 := by omega
    rw [ea] at cc cd
    have mt : ∀ i, ∀ z ∈ xs.take i, z ∈ xs := fun i z => List.mem_of_mem_take
    have md : ∀ i, ∀ z ∈ xs.drop i, z ∈ xs := fun i z => List.mem_of_mem_drop
    have lt : ∀ i, (xs.take i).length ≤ 200000 := fun i => by rw [List.length_take]; omega
    have ld : ∀ i, (xs.drop i).length ≤ 200000 := fun i => by rw [List.length_drop]; omega
    have w0 := wL_cut xs a.toNat
    have w1 := wL_cut xs (a.toNat + 1)
    have wd := wL_drop xs a.toNat
    by_cases k0 : y = 0
    · subst k0
      refine ⟨.tup (xs.take a.toNat ++ xs.drop (a.toNat + 1)), s3, ?_, mixT hok (fun z hz => .inl ((List.mem_append.mp hz).elim (mt _ z) (md _ z))) (by rw [wL_append]; omega), t3, f13, l13⟩
      have ad := addT_any (xs := xs.take a.toNat) (ys := xs.drop (a.toNat + 1)) (by have := lt a.toNat; have := ld (a.toNat + 1); omega)
      simp [m__law_bent, g__law_bent, mOf, outM, startD, sSeq, sIf, sRet, sNil, sPar, par2, fOrT, fNotT, fTest, fIsi, fVar, tyD, isiB, asB, fOp, fMk, mkTup, aCons, aNil, opEqA_nil, hemp, fCall, e_pick, fC, g1, opEq_int, q0, bLen, lenL, g2, g3, fSlice, oNone, oSome, slD, ca, opAdd_int, cd, ad]
    have q1 : (y == 0) = false := by simp [k0]
    by_cases k1 : y = 1
    · subst k1
      refine ⟨.tup (xs.take (a.toNat + 1) ++ xs.drop a.toNat), s3, ?_, mixT hok (fun z hz => .inl ((List.mem_append.mp hz).elim (mt _ z) (md _ z))) (by rw [wL_append]; omega), t3, f13, l13⟩
      have ad := addT_any (xs := xs.take (a.toNat + 1)) (ys := xs.drop a.toNat) (by have := lt (a.toNat + 1); have := ld a.toNat; omega)
      simp [m__law_bent, g__law_bent, mOf, outM, startD, sSeq, sIf, sRet, sNil, sPar, par2, fOrT, fNotT, fTest, fIsi, fVar, tyD, isiB, asB, fOp, fMk, mkTup, aCons, aNil, opEqA_nil, hemp, fCall, e_pick, fC, g1, opEq_int, q0, bLen, lenL, g2, g3, fSlice, oNone, oSome, slD, cb, opAdd_int, cc, ad]
    have q2 : (y == 1) = false := by simp [k1]
    have z1 : 1 ≤ sizeLine := by decide
    by_cases k2 : y = 2
    · subst k2
      obtain ⟨e, s4, g4, o4, w4, h4, t4, f4, l4⟩ := thing_ok t3
      refine ⟨.tup (xs.take a.toNat ++ [e] ++ xs.drop a.toNat), s4, ?_, mixT hok (fun z hz => ?_) (by rw [wL_append, wL_append, wL, wL]; omega), t4, f13.trans f4, by rw [l4, l13]⟩
      · have ad := addT_any (xs := xs.take a.toNat) (ys := [e]) (by have := lt a.toNat; simp; omega)
        have ad2 := addT_any (xs := xs.take a.toNat ++ [e]) (ys := xs.drop a.toNat) (by have := lt a.toNat; have := ld a.toNat; simp at *; omega)
        simp [m__law_bent, g__law_bent, mOf, outM, startD, sSeq, sIf, sRet, sNil, sPar, par2, fOrT, fNotT, fTest, fIsi, fVar, tyD, isiB, asB, fOp, fMk, mkTup, z1, aCons, aNil, opEqA_nil, hemp, fCall, e_pick, fC, g1, opEq_int, q0, q1, q2, bLen, lenL, g2, g3, fSlice, oNone, oSome, slD, ca, cb, opAdd_int, g4, ad]
        simp at ad2
        simp [ad2]
      · rcases List.mem_append.mp hz with hz | hz
        · rcases List.mem_append.mp hz with hz | hz
          · exact .inl (mt _ z hz)
          · rw [List.mem_singleton.mp hz]
            exact .inr ⟨o4, by omega⟩
        · exact .inl (md _ z hz)
    have q3 : (y == 2) = false := by simp [k2]
    by_cases k4 : y = 3
    · subst k4
      refine ⟨.lst xs, s3, ?_, ⟨hok, by show wL xs ≤ 2 * wL xs + 2600; omega, by show hL xs + 1 ≤ hL xs + 1 + 4; omega⟩, t3, f13, l13⟩
      simp [m__law_bent, g__law_bent, mOf, outM, startD, sSeq, sIf, sRet, sNil, sPar, par2, fOrT, fNotT, fTest, fIsi, fVar, tyD, isiB, asB, fOp, fMk, mkTup, aCons, aNil, opEqA_nil, hemp, fCall, e_pick, fC, g1, opEq_int, q0, q1, q2, q3, bLen, lenL, g2, g3, bList, listSeq]
    have q5 : (y == 3) = false := by simp [k4]
    obtain ⟨x, hx⟩ : ∃ x, xs[a.toNat]? = some x := ⟨xs[a.toNat]'(by omega), List.getElem?_eq_getElem (by omega)⟩
    have hat : L2.atI xs a = some x := by
      have := atI_nat hx
      rwa [Int.toNat_of_nonneg a0] at this
    have mx : x ∈ xs := List.mem_of_getElem? hx
    have hh : hD x ≤ hL xs := hL_le.mp (Nat.le_refl _) x mx
    have wx := wL_mem mx
    have hwx : wL xs ≤ 200000 := hw
    have hkx : hL xs + 1 < k + 1 := hk
    obtain ⟨e, s4, g4, b4, t4, f4, l4⟩ := bent_ok k t3 (okL_mem.mp (show okL xs = true from hok) x mx) (by omega) (by omega)
    have wa := wL_at hx
    have hb := b4.w
    have hc := b4.h
    refine ⟨.tup (xs.take a.toNat ++ [e] ++ xs.drop (a.toNat + 1)), s4, ?_, mixT hok (fun z hz => ?_) (by rw [wL_append, wL_append, wL, wL]; omega), t4, f13.trans f4, by rw [l4, l13]⟩
    · have ad := addT_any (xs := xs.take a.toNat) (ys := [e]) (by have := lt a.toNat; simp; omega)
      have ad2 := addT_any (xs := xs.take a.toNat ++ [e]) (ys := xs.drop (a.toNat + 1)) (by have := lt a.toNat; have := ld (a.toNat + 1); simp at *; omega)
      simp [m__law_bent, g__law_bent, mOf, outM, startD, sSeq, sIf, sRet, sNil, sPar, par2, fOrT, fNotT, fTest, fIsi, fVar, tyD, isiB, asB, fOp, fMk, mkTup, z1, aCons, aNil, opEqA_nil, hemp, fCall, e_pick, fC, g1, opEq_int, q0, q1, q2, q3, q5, bLen, lenL, g2, g3, fSlice, oNone, oSome, slD, ca, cd, opAdd_int, fSub, ixD, hat, g4, ad]
      simp at ad2
      simp [ad2]
    · rcases List.mem_append.mp hz with hz | hz
      · rcases List.mem_append.mp hz with hz | hz
        · exact .inl (mt _ z hz)
        · rw [List.mem_singleton.mp hz]
          exact .inr ⟨b4.ok, by omega⟩
      · exact .inl (md _ z hz)
end LW
namespace LW
open PySem PySem.Spec PyProof.Rows L2 DL TL
noncomputable abbrev bBend : FS := (sSeq (sAsg (fCall (m__law_bent 12) (aCons (fVar 2) (aCons (fVar 6) aNil))) (gN 8)) (sSeq (sIf (fTest (fOp opGt (fVar 7) (fC (.int 3)))) (sAsg (fCall (m__law_bent 12) (aCons (fVar 2) (aCons (fVar 8) aNil))) (gN 8)) sNil) (sIf (fNotT (fTest (fCall m__law_told (aCons (fVar 2) (aCons (fVar 4) (aCons (fVar 8) aNil)))))) (sRet (fC (.bl false))) sNil)))
noncomputable abbrev bThing : FS := (sSeq (sIf (fNotT (fTest (fCall m__law_told (aCons (fVar 2) (aCons (fVar 4) (aCons (fVar 6) aNil)))))) (sRet (fC (.bl false))) sNil) (sFor (iOfA asR1 (aCons (fC (.int 6)) aNil)) (gN 7) (sSeq (sAsg (fCall (m__law_bent 12) (aCons (fVar 2) (aCons (fVar 6) aNil))) (gN 8)) (sSeq (sIf (fTest (fOp opGt (fVar 7) (fC (.int 3)))) (sAsg (fCall (m__law_bent 12) (aCons (fVar 2) (aCons (fVar 8) aNil))) (gN 8)) sNil) (sIf (fNotT (fTest (fCall m__law_told (aCons (fVar 2) (aCons (fVar 4) (aCons (fVar 8) aNil)))))) (sRet (fC (.bl false))) sNil)))))
noncomputable abbrev bStart : FS := (sSeq (sAsg (fCall m__law_tape (aCons (fVar 0) (aCons (fVar 1) aNil))) (gN 2)) (sSeq (sAsg (fMk mkLst (aCons (fC (.str (Str.ofString "size"))) (aCons (fC (.str (Str.ofString "name"))) (aCons (fC (.str (Str.ofString "kind"))) (aCons (fC (.str (Str.ofString "x"))) (aCons (fC (.str (Str.ofString "abcdefgh"))) (aCons (fC (.str (Str.ofString "oral"))) aNil))))))) (gN 3)) (sSeq (sAsg (fMk bTuple (aCons (fSlice (fVar 3) oNone (oSome (fOp opAdd (fC (.int 1)) (fCall m__law_pick (aCons (fVar 2) (aCons (fC (.int 6)) aNil)))))) aNil)) (gN 4)) (sSeq (sAsg (fMk mkTup (aCons (fOp opAdd (fC (.int 1)) (fCall m__law_pick (aCons (fVar 2) (aCons (fOp powI (fC (.int 10)) (fC (.int 6))) aNil)))) (aCons (fMk bTuple (aCons (fComp (iOf asT (fVar 4)) [10] b1 tTrue (fCall m__law_one_of (aCons (fVar 2) (aCons (fMk mkLst (aCons (fC .non) (aCons (fC (.int 0)) (aCons (fC (.int 7)) (aCons (fC (.str (Str.ofString ""))) (aCons (fC (.str (Str.ofString "a b"))) aNil)))))) aNil)))) aNil)) aNil))) (gN 5)) (sFor (iOf asL (fMk mkLst (aCons (fVar 4) (aCons (fVar 5) (aCons (fSub (fVar 4) (fC (.int 0))) (aCons (fSub (fSub (fVar 5) (fC (.int 1))) (fC (.int 0))) (aCons (fCall m__law_thing (aCons (fVar 2) aNil)) aNil))))))) (gN 6) (sSeq (sIf (fNotT (fTest (fCall m__law_told (aCons (fVar 2) (aCons (fVar 4) (aCons (fVar 6) aNil)))))) (sRet (fC (.bl false))) sNil) (sFor (iOfA asR1 (aCons (fC (.int 6)) aNil)) (gN 7) (sSeq (sAsg (fCall (m__law_bent 12) (aCons (fVar 2) (aCons (fVar 6) aNil))) (gN 8)) (sSeq (sIf (fTest (fOp opGt (fVar 7) (fC (.int 3)))) (sAsg (fCall (m__law_bent 12) (aCons (fVar 2) (aCons (fVar 8) aNil))) (gN 8)) sNil) (sIf (fNotT (fTest (fCall m__law_told (aCons (fVar 2) (aCons (fVar 4) (aCons (fVar 8) aNil)))))) (sRet (fC (.bl false))) sNil))))))))))
noncomputable abbrev bWord : FS := (sIf (fOrT (fTest (fOp opIsnt (fCall m_is_columns (aCons (fMk mkTup (aCons (fC (.str (Str.ofString "x"))) (aCons (fVar 9) aNil))) aNil)) (fC (.bl false)))) (fTest (fOp opIsnt (fCall m_is_columns (aCons (fMk mkTup (aCons (fOp opAdd (fVar 9) (fC (.str (Str.ofString "x")))) (aCons (fC (.str (Str.ofString "x"))) aNil))) aNil)) (fC (.bl true))))) (sRet (fC (.bl false))) sNil)
/-- small enough to bend and to tell -/
def Ts (d : D) : Prop := okD d = true ∧ wD d ≤ 6000 ∧ hD d ≤ 4
theorem bend_ok {a b x3 x5 x8 x9 x10 : Option D} {n : Nat} {cs : List D} {d : D} {i : Int} (hc : cs.length ≤ 6) (md : Ts d) {st : Store} (t : Tp st n) :
    ∃ st' y8, bBend [a, b, some (.ref n), x3, some (.tup cs), x5, some d, some (.int i), x8, x9, x10] st = some (.nx, [a, b, some (.ref n), x3, some (.tup cs), x5, some d, some (.int i), y8, x9, x10], st') ∧ Tp st' n := by
  have hz : cs.length ≤ sizeLine := Nat.le_trans hc (by decide)
  obtain ⟨m1, m2, m3⟩ := md
  obtain ⟨e, s1, g1, b1, t1, f1, l1⟩ := bent_ok 12 t m1 (by omega) (by omega)
  have w1 := b1.w
  have h1 := b1.h
  by_cases c : 3 < i
  · obtain ⟨e2, s2, g2, b2, t2, f2, l2⟩ := bent_ok 12 t1 b1.ok (by omega) (by omega)
    have w2 := b2.w
    have h2 := b2.h
    have r := told_ok n hz (d := e2) ⟨b2.ok, by omega⟩ (by omega) s2
    exact ⟨s2, some e2, by simp [bBend, sSeq, sAsg, sIf, sNil, gN, fCall, aCons, aNil, fVar, g1, fTest, fOp, fC, opGt_int, c, asB, g2, fNotT, r], t2⟩
  · have r := told_ok n hz (d := e) ⟨b1.ok, by omega⟩ (by omega) s1
    exact ⟨s1, some e, by simp [bBend, sSeq, sAsg, sIf, sNil, gN, fCall, aCons, aNil, fVar, g1, fTest, fOp, fC, opGt_int, c, asB, fNotT, r], t1⟩
theorem each_ok {a b x3 x5 x7 x8 x9 x10 : Option D} {n : Nat} {cs : List D} {d : D} (hc : cs.length ≤ 6) (md : Ts d) {st : Store} (t : Tp st n) :
    ∃ st' y7 y8, bThing [a, b, some (.ref n), x3, some (.tup cs), x5, some d, x7, x8, x9, x10] st = some (.nx, [a, b, some (.ref n), x3, some (.tup cs), x5, some d, y7, y8, x9, x10], st') ∧ Tp st' n := by
  have hz : cs.length ≤ sizeLine := Nat.le_trans hc (by decide)
  have r := told_ok n hz (d := d) ⟨md.1, by have := md.2.1; omega⟩ (by have := md.2.2; omega) st
  obtain ⟨e4, s4, g4, ⟨y7, y8, hy⟩, t4⟩ := loopS_inv (tg := gN 7) (body := bBend) (fun env st => (∃ y7 y8, env = [a, b, some (.ref n), x3, some (.tup cs), x5, some d, y7, y8, x9, x10]) ∧ Tp st n) (ds := rg 0 6) (fun v hv env st i => by
    obtain ⟨⟨y7, y8, rfl⟩, t⟩ := i
    obtain ⟨k, rfl, _, _⟩ := rg_mem hv
    obtain ⟨st', z8, e, t'⟩ := bend_ok (a := a) (b := b) (x3 := x3) (x5 := x5) (x8 := y8) (x9 := x9) (x10 := x10) (i := k) hc md t
    exact ⟨[a, b, some (.ref n), x3, some (.tup cs), x5, some d, some (.int k), y8, x9, x10], by simp [gN], .nx, _, st', e, .inl rfl, ⟨_, _, rfl⟩, t'⟩) (env := [a, b, some (.ref n), x3, some (.tup cs), x5, some d, x7, x8, x9, x10]) (st := st) ⟨⟨_, _, rfl⟩, t⟩
  subst hy
  have ra := asR1_ok (n := 6) (by decide) (by decide)
  refine ⟨s4, y7, y8, ?_, t4⟩
  simp [bThing, sSeq, sIf, sNil, fNotT, fTest, fCall, aCons, aNil, fVar, r, asB]
  simp [sFor, iOfA, aCons, aNil, fC, ra, g4]
def nms : List D := [.str (Str.ofString "size"), .str (Str.ofString "name"), .str (Str.ofString "kind"), .str (Str.ofString "x"), .str (Str.ofString "abcdefgh"), .str (Str.ofString "oral")]
def vls : List D := [.non, .int 0, .int 7, .str (Str.ofString ""), .str (Str.ofString "a b")]
def smB (d : D) : Bool := okD d && (decide (wD d ≤ 300) && decide (hD d ≤ 1))
theorem smB_iff {d : D} (h : smB d = true) : okD d = true ∧ wD d ≤ 300 ∧ hD d ≤ 1 := by
  unfold smB at h
  rw [Bool.and_eq_true, Bool.and_eq_true] at h
  exact ⟨h.1, of_decide_eq_true h.2.1, of_decide_eq_true h.2.2⟩
theorem nms_sm : nms.all smB = true := by decide +kernel
theorem vls_sm : vls.all smB = true := by decide +kernel
theorem wL_le {m : Nat} : ∀ {vs : List D}, (∀ v ∈ vs, wD v ≤ m) → wL vs ≤ vs.length * (m + 1)
  | [], _ => Nat.zero_le _
  | v :: vs, h => by
    have h1 := h v List.mem_cons_self
    have h2 := wL_le (vs := vs) fun u hu => h u (List.mem_cons_of_mem _ hu)
    rw [wL, List.length_cons, Nat.add_mul]
    omega
theorem tup_ts {vs : List D} (hl : vs.length ≤ 6) (h : ∀ v ∈ vs, smB v = true) : okD (.tup vs) = true ∧ wD (.tup vs) ≤ 1900 ∧ hD (.tup vs) ≤ 2 := by
  have w := wL_le (m := 300) fun v hv => (smB_iff (h v hv)).2.1
  refine ⟨okL_mem.mpr fun v hv => (smB_iff (h v hv)).1, ?_, ?_⟩
  · show wL vs ≤ 1900
    have : vs.length * (300 + 1) ≤ 6 * 301 := Nat.mul_le_mul hl (Nat.le_refl _)
    omega
  · show hL vs + 1 ≤ 2
    have : hL vs ≤ 1 := hL_le.mpr fun v hv => (smB_iff (h v hv)).2.2
    omega
theorem start_ok {ns : List Int} (hb : ∀ z ∈ ns, Builtin.Int.intBits z ≤ 1048576) {s : Int} (s0 : 0 ≤ s) (s1 : s < 5) {x2 x3 x4 x5 x6 x7 x8 x9 x10 : Option D} {st : Store} :
    ∃ st' y2 y3 y4 y5 y6 y7 y8 y10, bStart [some (.scr ns), some (.int s), x2, x3, x4, x5, x6, x7, x8, x9, x10] st = some (.nx, [some (.scr ns), some (.int s), y2, y3, y4, y5, y6, y7, y8, x9, y10], st') := by
  obtain ⟨sa, ha, _, ta, _⟩ := tape_ok (st := st) hb s0 (by omega)
  generalize st.length = n at *
  obtain ⟨r, sb, g1, r0, r6, tb, _, _⟩ := pick_ok ta (s := 6) (by decide) (by decide)
  obtain ⟨r2, sc, g2, r20, r23, tc, _, _⟩ := pick_ok tb (s := 1000000) (by decide) (by decide)
  have ct := cutTo (xs := nms) (i := 1 + r) (by omega) (by show (1 : Int) + r ≤ ((6 : Nat) : Int); omega)
  generalize hcs : nms.take (1 + r).toNat = cs at ct
  have lcs : cs.length = (1 + r).toNat := by
    rw [← hcs, List.length_take]
    show min _ 6 = _
    omega
  have mcs : ∀ v ∈ cs, smB v = true := fun v hv => List.all_eq_true.mp nms_sm v (by rw [← hcs] at hv; exact List.mem_of_mem_take hv)
  obtain ⟨vs, sd, g3, lv, mv, td, _, _⟩ := loopC_draw2 (is := [10]) (bd := b1) (f := fCall m__law_one_of (aCons (fVar 2) (aCons (fMk mkLst (aCons (fC .non) (aCons (fC (.int 0)) (aCons (fC (.int 7)) (aCons (fC (.str (Str.ofString ""))) (aCons (fC (.str (Str.ofString "a b"))) aNil)))))) aNil))) (n := n) (P := fun v => smB v = true) (env := [some (.scr ns), some (.int s), some (.ref n), some (.lst nms), some (.tup cs), x5, x6, x7, x8, x9, none]) (ds := cs) (fun d hd => ⟨[d], rfl, fun st t => by
    obtain ⟨v, st', g, m, t', f, l⟩ := one_ok (xs := vls) t (by decide) (by decide)
    have z5 : 5 ≤ sizeLine := by decide
    refine ⟨v, st', ?_, List.all_eq_true.mp vls_sm v m, t', f, l⟩
    rw [vls] at g
    simp [fCall, aCons, aNil, fVar, setL, fMk, mkLst, fC, z5, e_one, g]⟩) tc
  obtain ⟨th, se, g4, o4, w4, h4, te, _, _⟩ := thing_ok td
  have lv6 : vs.length ≤ 6 := by rw [lv, lcs]; omega
  have lc6 : cs.length ≤ 6 := by rw [lcs]; omega
  obtain ⟨c0, hc0⟩ : ∃ c, cs[0]? = some c := ⟨cs[0]'(by omega), List.getElem?_eq_getElem (by omega)⟩
  obtain ⟨v0, hv0⟩ : ∃ c, vs[0]? = some c := ⟨vs[0]'(by omega), List.getElem?_eq_getElem (by omega)⟩
  have ic : L2.atI cs 0 = some c0 := atI_nat (j := 0) hc0
  have iv : L2.atI vs 0 = some v0 := atI_nat (j := 0) hv0
  have ir : L2.atI [D.int (1 + r2), D.tup vs] 1 = some (.tup vs) := ix1'
  have sm1 := smB_iff (mcs c0 (List.mem_of_getElem? hc0))
  have sm2 := smB_iff (mv v0 (List.mem_of_getElem? hv0))
  have tcs := tup_ts lc6 mcs
  have tvs := tup_ts lv6 mv
  have trow : Ts (.tup [.int (1 + r2), .tup vs]) := by
    refine ⟨?_, ?_, ?_⟩
    · show okL [.int (1 + r2), .tup vs] = true
      have e : okD (.int (1 + r2)) = true := decide_eq_true (by have : (10 : Nat) ^ 7 ≤ 10 ^ 62 := by decide
                                                                omega)
      have e2 : okL vs = true := tvs.1
      exact Bool.and_eq_true_iff.mpr ⟨e, Bool.and_eq_true_iff.mpr ⟨e2, rfl⟩⟩
    · show wL [.int (1 + r2), .tup vs] ≤ 6000
      have := tvs.2.1
      simp only [wL, wD] at this ⊢
      omega
    · show hL [.int (1 + r2), .tup vs] + 1 ≤ 4
      have := tvs.2.2
      have e : hL [.int (1 + r2), .tup vs] ≤ 2 := hL_le.mpr fun v hv => by
        rcases List.mem_cons.mp hv with rfl | hv
        · exact Nat.zero_le _
        · rw [List.mem_singleton.mp hv]; exact this
      omega
  have all : ∀ v ∈ [D.tup cs, .tup [.int (1 + r2), .tup vs], c0, v0, th], Ts v := by
    intro v hv
    simp only [List.mem_cons, List.not_mem_nil, or_false] at hv
    rcases hv with rfl | rfl | rfl | rfl | rfl
    · exact ⟨tcs.1, by omega, by omega⟩
    · exact trow
    · exact ⟨sm1.1, by omega, by omega⟩
    · exact ⟨sm2.1, by omega, by omega⟩
    · exact ⟨o4, by omega, by omega⟩
  generalize hrow : D.tup [.int (1 + r2), .tup vs] = row at all
  obtain ⟨e4, s4, g7, ⟨z6, z7, z8, hz⟩, _⟩ := loopS_inv (tg := gN 6) (body := bThing) (fun env st => (∃ z6 z7 z8, env = [some (.scr ns), some (.int s), some (.ref n), some (.lst nms), some (.tup cs), some row, z6, z7, z8, x9, x10]) ∧ Tp st n) (ds := [D.tup cs, row, c0, v0, th]) (fun v hv env st i => by
    obtain ⟨⟨z6, z7, z8, rfl⟩, t⟩ := i
    obtain ⟨st', u7, u8, ee, t'⟩ := each_ok (a := some (.scr ns)) (b := some (.int s)) (x3 := some (.lst nms)) (x5 := some row) (x7 := z7) (x8 := z8) (x9 := x9) (x10 := x10) lc6 (all v hv) t
    exact ⟨[some (.scr ns), some (.int s), some (.ref n), some (.lst nms), some (.tup cs), some row, some v, z7, z8, x9, x10], by simp [gN], .nx, _, st', ee, .inl rfl, ⟨_, _, _, rfl⟩, t'⟩) (env := [some (.scr ns), some (.int s), some (.ref n), some (.lst nms), some (.tup cs), some row, x6, x7, x8, x9, x10]) (st := se) ⟨⟨_, _, _, rfl⟩, te⟩
  subst hz
  have z2 : 2 ≤ sizeLine := by decide
  have z5 : 5 ≤ sizeLine := by decide
  have z6' : 6 ≤ sizeLine := by decide
  have zv : vs.length ≤ sizeLine := Nat.le_trans lv6 z6'
  refine ⟨s4, some (.ref n), some (.lst nms), some (.tup cs), some row, z6, z7, z8, x10, ?_⟩
  have en : (fMk mkLst (aCons (fC (.str (Str.ofString "size"))) (aCons (fC (.str (Str.ofString "name"))) (aCons (fC (.str (Str.ofString "kind"))) (aCons (fC (.str (Str.ofString "x"))) (aCons (fC (.str (Str.ofString "abcdefgh"))) (aCons (fC (.str (Str.ofString "oral"))) aNil))))))) = fC (.lst nms) := by
    funext env st
    simp [fMk, mkLst, aCons, aNil, fC, z6', nms]
  simp only [bStart, en]
  simp [sSeq, sAsg, gN, fCall, aCons, aNil, fVar, fC, fOp, e_tape, ha, e_pick, g1, opAdd_int, fSlice, oNone, oSome, slD, ct, fMk, bTuple, pow106, g2, fComp, iOf, asT, wipeL, setL]
  simp [g3, zv, mkTup, z2, hrow, sFor, iOf, asL, mkLst, z5, fSub, ixD, ic, iv, ir, g4]
  have ed : fMk mkLst (aCons (fVar 4) (aCons (fVar 5) (aCons (fSub (fVar 4) (fC (.int 0))) (aCons (fSub (fSub (fVar 5) (fC (.int 1))) (fC (.int 0))) (aCons (fCall m__law_thing (aCons (fVar 2) aNil)) aNil))))) [some (.scr ns), some (.int s), some (.ref n), some (.lst nms), some (.tup cs), some row, x6, x7, x8, x9, x10] sd = some (.lst [D.tup cs, row, c0, v0, th], se) := by
    rw [← hrow]
    simp [fMk, mkLst, aCons, aNil, fVar, fSub, fC, ixD, ic, iv, ir, fCall, g4, z5]
  rw [ed]
  simp only [Option.bind_some, Option.map_some]
  exact g7
def wds : List D := [.str (Str.ofString "all"), .str (Str.ofString "and"), .str (Str.ofString "in"), .str (Str.ofString "none"), .str (Str.ofString "not"), .str (Str.ofString "or"), .str (Str.ofString "starts")]
def wdB (w : D) : Bool := match w with
  | .str x => (!colsB (.tup [.str (Str.ofString "x"), .str x]) && colsB (.tup [.str (x ++ Str.ofString "x"), .str (Str.ofString "x")])) && ((okD (.tup [.str (Str.ofString "x"), .str x]) && decide (wD (.tup [.str (Str.ofString "x"), .str x]) ≤ 200000)) && ((okD (.tup [.str (x ++ Str.ofString "x"), .str (Str.ofString "x")]) && decide (wD (.tup [.str (x ++ Str.ofString "x"), .str (Str.ofString "x")]) ≤ 200000)) && decide (x.length + (Str.ofString "x").length ≤ 100)))
  | _ => false
theorem wds_ok : wds.all wdB = true := by decide +kernel
theorem word_ok {w : D} (h : w ∈ wds) {e0 e1 e2 e3 e4 e5 e6 e7 e8 e10 : Option D} (st : Store) : bWord [e0, e1, e2, e3, e4, e5, e6, e7, e8, some w, e10] st = some (.nx, [e0, e1, e2, e3, e4, e5, e6, e7, e8, some w, e10], st) := by
  have hb := List.all_eq_true.mp wds_ok w h
  unfold wdB at hb
  split at hb
  case h_2 => cases hb
  case h_1 x =>
    simp only [Bool.and_eq_true, Bool.not_eq_true', decide_eq_true_eq] at hb
    obtain ⟨⟨h1, h2⟩, ⟨h3, h4⟩, ⟨h5, h6⟩, h7⟩ := hb
    have k1 := cols_ok (d := .tup [.str (Str.ofString "x"), .str x]) ⟨h3, h4⟩ st
    have k2 := cols_ok (d := .tup [.str (x ++ Str.ofString "x"), .str (Str.ofString "x")]) ⟨h5, h6⟩ st
    rw [h1] at k1
    rw [h2] at k2
    have z2 : 2 ≤ sizeLine := by decide
    have ad : opAdd (.str x) (.str (Str.ofString "x")) = some (.str (x ++ Str.ofString "x")) := by
      have : x.length + (Str.ofString "x").length ≤ sizeLine := Nat.le_trans h7 (by decide)
      simp [opAdd, orD, addI, addS, onI, onS, this]
    simp [bWord, sIf, fOrT, fTest, fOp, fCall, aCons, aNil, fMk, mkTup, z2, fVar, fC, k1, ad, k2, opIsnt, orD, isntN, isntB, asB, sNil]
theorem law_true (ns : List Int) (h : ns.length ≤ 63) (hb : ∀ z ∈ ns, Builtin.Int.intBits z ≤ 1048576) : ∃ st', m_law [.scr ns] [] = some (.bl true, st') := by
  obtain ⟨j, hj, hj2⟩ : ∃ j : Int, (iOfA asR1 (aCons (fMk bMax (aCons (fC (.int 2)) (aCons (fMk bMin (aCons (fC (.int 5)) (aCons (fMk bLen (aCons (fVar 0) aNil)) aNil))) aNil))) aNil)) [some (.scr ns), none, none, none, none, none, none, none, none, none, none] [] = some (rg 0 j, []) ∧ j ≤ 5 := by
    refine ⟨if (if (ns.length : Int) < 5 then (ns.length : Int) else 5) > 2 then (if (ns.length : Int) < 5 then (ns.length : Int) else 5) else 2, ?_, by split <;> (try split) <;> omega⟩
    generalize hq : (if (if (ns.length : Int) < 5 then (ns.length : Int) else 5) > 2 then (if (ns.length : Int) < 5 then (ns.length : Int) else 5) else 2) = q
    have q0 : 0 ≤ q ∧ q ≤ 5 := by
      subst hq
      split <;> (try split) <;> omega
    have := asR1_ok (n := q) q0.1 (by omega)
    simp [iOfA, aCons, aNil, fMk, fC, fVar, bMax, bMin, bLen, lenL]
    simp at hq
    rw [hq, this]
  obtain ⟨e2, s2, h2, ⟨y1, y2, y3, y4, y5, y6, y7, y8, y9, y10, he2⟩⟩ := loopS_inv (tg := gN 1) (body := bStart) (fun env _ => ∃ y1 y2 y3 y4 y5 y6 y7 y8 y9 y10, env = [some (.scr ns), y1, y2, y3, y4, y5, y6, y7, y8, y9, y10]) (ds := rg 0 j) (fun d hd env st i => by
      obtain ⟨y1, y2, y3, y4, y5, y6, y7, y8, y9, y10, rfl⟩ := i
      obtain ⟨s, rfl, s0, s1⟩ := rg_mem hd
      obtain ⟨st', z2, z3, z4, z5, z6, z7, z8, z10, ee⟩ := start_ok hb s0 (by omega) (x2 := y2) (x3 := y3) (x4 := y4) (x5 := y5) (x6 := y6) (x7 := y7) (x8 := y8) (x9 := y9) (x10 := y10) (st := st)
      exact ⟨[some (.scr ns), some (.int s), y2, y3, y4, y5, y6, y7, y8, y9, y10], by simp [gN], .nx, _, st', ee, .inl rfl, ⟨_, _, _, _, _, _, _, _, _, _, rfl⟩⟩) (env := [some (.scr ns), none, none, none, none, none, none, none, none, none, none]) (st := []) ⟨_, _, _, _, _, _, _, _, _, _, rfl⟩
  subst he2
  obtain ⟨e3, s3, h3, ⟨z, hz⟩⟩ := loopS_inv (tg := gN 9) (body := bWord) (fun env _ => ∃ z, env = [some (.scr ns), y1, y2, y3, y4, y5, y6, y7, y8, z, y10]) (ds := wds) (fun d hd env st i => by
      obtain ⟨z, rfl⟩ := i
      exact ⟨[some (.scr ns), y1, y2, y3, y4, y5, y6, y7, y8, some d, y10], by simp [gN], .nx, _, st, word_ok hd st, .inl rfl, ⟨some d, rfl⟩⟩) (env := [some (.scr ns), y1, y2, y3, y4, y5, y6, y7, y8, y9, y10]) (st := s2) ⟨_, rfl⟩
  subst hz
  have z7 : 7 ≤ sizeLine := by decide
  refine ⟨s3, ?_⟩
  have ew : (fMk mkLst (aCons (fC (.str (Str.ofString "all"))) (aCons (fC (.str (Str.ofString "and"))) (aCons (fC (.str (Str.ofString "in"))) (aCons (fC (.str (Str.ofString "none"))) (aCons (fC (.str (Str.ofString "not"))) (aCons (fC (.str (Str.ofString "or"))) (aCons (fC (.str (Str.ofString "starts"))) aNil)))))))) = fC (.lst wds) := by
    funext env st
    simp [fMk, mkLst, aCons, aNil, fC, z7, wds]
  simp only [m_law, g_law, mOf, outM, startD, sSeq, sFor, List.map_cons, List.map_nil, List.singleton_append, show N_law.length = 11 from rfl, List.length_cons, List.length_nil, show List.replicate (11 - (0 + 1)) (none : Option D) = [none, none, none, none, none, none, none, none, none, none] from rfl, hj, Option.bind_some, ew]
  rw [h2]
  simp [iOf, asL, fC]
  rw [h3]
  simp [sRet, fC]
end LW
namespace LW
open PySem PySem.Spec PyProof.Rows L2 DL
theorem all_mk {l : PySem.W.OpenLaw} {w : World} {K : PySem.W.Frag} {h : Heap} {mg : Str → Option Value} {fa : Addr} (X : K.In h) (G : h.Ns mainGlobals mg) (hfa : mg "law" = some (.ref fa))
    {p_is_integer : Addr} {od_is_integer an_is_integer : Option Addr} {sl_is_integer : Array (Option Value)} {oc_is_integer kV_is_integer dc_is_integer pm_is_integer cd_is_integer ct_is_integer : Value}
    (a_is_integer : PySem.W.nsIn K mainGlobals "is_integer" = some (some (.ref p_is_integer))) (l_is_integer : K.lookup p_is_integer = some ⟨oc_is_integer, od_is_integer, .func (PySem.W.fnOf "is_integer" "is_integer" (defArgs s_is_integer) (defBody s_is_integer) (defScope s_is_integer) .none kV_is_integer dc_is_integer pm_is_integer an_is_integer cd_is_integer ct_is_integer), sl_is_integer⟩) (c_is_integer : PySem.W.codeIn K cd_is_integer "is_integer" = true) (k_is_integer : PySem.W.keepIn K (.ref p_is_integer) = true)
    {p_is_string : Addr} {od_is_string an_is_string : Option Addr} {sl_is_string : Array (Option Value)} {oc_is_string kV_is_string dc_is_string pm_is_string cd_is_string ct_is_string : Value}
    (a_is_string : PySem.W.nsIn K mainGlobals "is_string" = some (some (.ref p_is_string))) (l_is_string : K.lookup p_is_string = some ⟨oc_is_string, od_is_string, .func (PySem.W.fnOf "is_string" "is_string" (defArgs s_is_string) (defBody s_is_string) (defScope s_is_string) .none kV_is_string dc_is_string pm_is_string an_is_string cd_is_string ct_is_string), sl_is_string⟩) (c_is_string : PySem.W.codeIn K cd_is_string "is_string" = true) (k_is_string : PySem.W.keepIn K (.ref p_is_string) = true)
    {p_is_value : Addr} {od_is_value an_is_value : Option Addr} {sl_is_value : Array (Option Value)} {oc_is_value kV_is_value dc_is_value pm_is_value cd_is_value ct_is_value : Value}
    (a_is_value : PySem.W.nsIn K mainGlobals "is_value" = some (some (.ref p_is_value))) (l_is_value : K.lookup p_is_value = some ⟨oc_is_value, od_is_value, .func (PySem.W.fnOf "is_value" "is_value" (defArgs s_is_value) (defBody s_is_value) (defScope s_is_value) .none kV_is_value dc_is_value pm_is_value an_is_value cd_is_value ct_is_value), sl_is_value⟩) (c_is_value : PySem.W.codeIn K cd_is_value "is_value" = true) (k_is_value : PySem.W.keepIn K (.ref p_is_value) = true)
    {p_is_name : Addr} {od_is_name an_is_name : Option Addr} {sl_is_name : Array (Option Value)} {oc_is_name kV_is_name dc_is_name pm_is_name cd_is_name ct_is_name : Value}
    (a_is_name : PySem.W.nsIn K mainGlobals "is_name" = some (some (.ref p_is_name))) (l_is_name : K.lookup p_is_name = some ⟨oc_is_name, od_is_name, .func (PySem.W.fnOf "is_name" "is_name" (defArgs s_is_name) (defBody s_is_name) (defScope s_is_name) .none kV_is_name dc_is_name pm_is_name an_is_name cd_is_name ct_is_name), sl_is_name⟩) (c_is_name : PySem.W.codeIn K cd_is_name "is_name" = true) (k_is_name : PySem.W.keepIn K (.ref p_is_name) = true)
    {p_is_column_name : Addr} {od_is_column_name an_is_column_name : Option Addr} {sl_is_column_name : Array (Option Value)} {oc_is_column_name kV_is_column_name dc_is_column_name pm_is_column_name cd_is_column_name ct_is_column_name : Value}
    (a_is_column_name : PySem.W.nsIn K mainGlobals "is_column_name" = some (some (.ref p_is_column_name))) (l_is_column_name : K.lookup p_is_column_name = some ⟨oc_is_column_name, od_is_column_name, .func (PySem.W.fnOf "is_column_name" "is_column_name" (defArgs s_is_column_name) (defBody s_is_column_name) (defScope s_is_column_name) .none kV_is_column_name dc_is_column_name pm_is_column_name an_is_column_name cd_is_column_name ct_is_column_name), sl_is_column_name⟩) (c_is_column_name : PySem.W.codeIn K cd_is_column_name "is_column_name" = true) (k_is_column_name : PySem.W.keepIn K (.ref p_is_column_name) = true)
    {p_is_columns : Addr} {od_is_columns an_is_columns : Option Addr} {sl_is_columns : Array (Option Value)} {oc_is_columns kV_is_columns dc_is_columns pm_is_columns cd_is_columns ct_is_columns : Value}
    (a_is_columns : PySem.W.nsIn K mainGlobals "is_columns" = some (some (.ref p_is_columns))) (l_is_columns : K.lookup p_is_columns = some ⟨oc_is_columns, od_is_columns, .func (PySem.W.fnOf "is_columns" "is_columns" (defArgs s_is_columns) (defBody s_is_columns) (defScope s_is_columns) .none kV_is_columns dc_is_columns pm_is_columns an_is_columns cd_is_columns ct_is_columns), sl_is_columns⟩) (c_is_columns : PySem.W.codeIn K cd_is_columns "is_columns" = true) (k_is_columns : PySem.W.keepIn K (.ref p_is_columns) = true)
    {p_is_row_id : Addr} {od_is_row_id an_is_row_id : Option Addr} {sl_is_row_id : Array (Option Value)} {oc_is_row_id kV_is_row_id dc_is_row_id pm_is_row_id cd_is_row_id ct_is_row_id : Value}
    (a_is_row_id : PySem.W.nsIn K mainGlobals "is_row_id" = some (some (.ref p_is_row_id))) (l_is_row_id : K.lookup p_is_row_id = some ⟨oc_is_row_id, od_is_row_id, .func (PySem.W.fnOf "is_row_id" "is_row_id" (defArgs s_is_row_id) (defBody s_is_row_id) (defScope s_is_row_id) .none kV_is_row_id dc_is_row_id pm_is_row_id an_is_row_id cd_is_row_id ct_is_row_id), sl_is_row_id⟩) (c_is_row_id : PySem.W.codeIn K cd_is_row_id "is_row_id" = true) (k_is_row_id : PySem.W.keepIn K (.ref p_is_row_id) = true)
    {p_is_row : Addr} {od_is_row an_is_row : Option Addr} {sl_is_row : Array (Option Value)} {oc_is_row kV_is_row dc_is_row pm_is_row cd_is_row ct_is_row : Value}
    (a_is_row : PySem.W.nsIn K mainGlobals "is_row" = some (some (.ref p_is_row))) (l_is_row : K.lookup p_is_row = some ⟨oc_is_row, od_is_row, .func (PySem.W.fnOf "is_row" "is_row" (defArgs s_is_row) (defBody s_is_row) (defScope s_is_row) .none kV_is_row dc_is_row pm_is_row an_is_row cd_is_row ct_is_row), sl_is_row⟩) (c_is_row : PySem.W.codeIn K cd_is_row "is_row" = true) (k_is_row : PySem.W.keepIn K (.ref p_is_row) = true)
    {p__law_tape : Addr} {od__law_tape an__law_tape : Option Addr} {sl__law_tape : Array (Option Value)} {oc__law_tape kV__law_tape dc__law_tape pm__law_tape cd__law_tape ct__law_tape : Value}
    (a__law_tape : PySem.W.nsIn K mainGlobals "_law_tape" = some (some (.ref p__law_tape))) (l__law_tape : K.lookup p__law_tape = some ⟨oc__law_tape, od__law_tape, .func (PySem.W.fnOf "_law_tape" "_law_tape" (defArgs s__law_tape) (defBody s__law_tape) (defScope s__law_tape) .none kV__law_tape dc__law_tape pm__law_tape an__law_tape cd__law_tape ct__law_tape), sl__law_tape⟩) (c__law_tape : PySem.W.codeIn K cd__law_tape "_law_tape" = true) (k__law_tape : PySem.W.keepIn K (.ref p__law_tape) = true)
    {p__law_pick : Addr} {od__law_pick an__law_pick : Option Addr} {sl__law_pick : Array (Option Value)} {oc__law_pick kV__law_pick dc__law_pick pm__law_pick cd__law_pick ct__law_pick : Value}
    (a__law_pick : PySem.W.nsIn K mainGlobals "_law_pick" = some (some (.ref p__law_pick))) (l__law_pick : K.lookup p__law_pick = some ⟨oc__law_pick, od__law_pick, .func (PySem.W.fnOf "_law_pick" "_law_pick" (defArgs s__law_pick) (defBody s__law_pick) (defScope s__law_pick) .none kV__law_pick dc__law_pick pm__law_pick an__law_pick cd__law_pick ct__law_pick), sl__law_pick⟩) (c__law_pick : PySem.W.codeIn K cd__law_pick "_law_pick" = true) (k__law_pick : PySem.W.keepIn K (.ref p__law_pick) = true)
    {p__law_one_of : Addr} {od__law_one_of an__law_one_of : Option Addr} {sl__law_one_of : Array (Option Value)} {oc__law_one_of kV__law_one_of dc__law_one_of pm__law_one_of cd__law_one_of ct__law_one_of : Value}
    (a__law_one_of : PySem.W.nsIn K mainGlobals "_law_one_of" = some (some (.ref p__law_one_of))) (l__law_one_of : K.lookup p__law_one_of = some ⟨oc__law_one_of, od__law_one_of, .func (PySem.W.fnOf "_law_one_of" "_law_one_of" (defArgs s__law_one_of) (defBody s__law_one_of) (defScope s__law_one_of) .none kV__law_one_of dc__law_one_of pm__law_one_of an__law_one_of cd__law_one_of ct__law_one_of), sl__law_one_of⟩) (c__law_one_of : PySem.W.codeIn K cd__law_one_of "_law_one_of" = true) (k__law_one_of : PySem.W.keepIn K (.ref p__law_one_of) = true)
    {p__law_integer : Addr} {od__law_integer an__law_integer : Option Addr} {sl__law_integer : Array (Option Value)} {oc__law_integer kV__law_integer dc__law_integer pm__law_integer cd__law_integer ct__law_integer : Value}
    (a__law_integer : PySem.W.nsIn K mainGlobals "_law_integer" = some (some (.ref p__law_integer))) (l__law_integer : K.lookup p__law_integer = some ⟨oc__law_integer, od__law_integer, .func (PySem.W.fnOf "_law_integer" "_law_integer" (defArgs s__law_integer) (defBody s__law_integer) (defScope s__law_integer) .none kV__law_integer dc__law_integer pm__law_integer an__law_integer cd__law_integer ct__law_integer), sl__law_integer⟩) (c__law_integer : PySem.W.codeIn K cd__law_integer "_law_integer" = true) (k__law_integer : PySem.W.keepIn K (.ref p__law_integer) = true)
    {p__law_value_due : Addr} {od__law_value_due an__law_value_due : Option Addr} {sl__law_value_due : Array (Option Value)} {oc__law_value_due kV__law_value_due dc__law_value_due pm__law_value_due cd__law_value_due ct__law_value_due : Value}
    (a__law_value_due : PySem.W.nsIn K mainGlobals "_law_value_due" = some (some (.ref p__law_value_due))) (l__law_value_due : K.lookup p__law_value_due = some ⟨oc__law_value_due, od__law_value_due, .func (PySem.W.fnOf "_law_value_due" "_law_value_due" (defArgs s__law_value_due) (defBody s__law_value_due) (defScope s__law_value_due) .none kV__law_value_due dc__law_value_due pm__law_value_due an__law_value_due cd__law_value_due ct__law_value_due), sl__law_value_due⟩) (c__law_value_due : PySem.W.codeIn K cd__law_value_due "_law_value_due" = true) (k__law_value_due : PySem.W.keepIn K (.ref p__law_value_due) = true)
    {p__law_columns_due : Addr} {od__law_columns_due an__law_columns_due : Option Addr} {sl__law_columns_due : Array (Option Value)} {oc__law_columns_due kV__law_columns_due dc__law_columns_due pm__law_columns_due cd__law_columns_due ct__law_columns_due : Value}
    (a__law_columns_due : PySem.W.nsIn K mainGlobals "_law_columns_due" = some (some (.ref p__law_columns_due))) (l__law_columns_due : K.lookup p__law_columns_due = some ⟨oc__law_columns_due, od__law_columns_due, .func (PySem.W.fnOf "_law_columns_due" "_law_columns_due" (defArgs s__law_columns_due) (defBody s__law_columns_due) (defScope s__law_columns_due) .none kV__law_columns_due dc__law_columns_due pm__law_columns_due an__law_columns_due cd__law_columns_due ct__law_columns_due), sl__law_columns_due⟩) (c__law_columns_due : PySem.W.codeIn K cd__law_columns_due "_law_columns_due" = true) (k__law_columns_due : PySem.W.keepIn K (.ref p__law_columns_due) = true)
    {p__law_row_due : Addr} {od__law_row_due an__law_row_due : Option Addr} {sl__law_row_due : Array (Option Value)} {oc__law_row_due kV__law_row_due dc__law_row_due pm__law_row_due cd__law_row_due ct__law_row_due : Value}
    (a__law_row_due : PySem.W.nsIn K mainGlobals "_law_row_due" = some (some (.ref p__law_row_due))) (l__law_row_due : K.lookup p__law_row_due = some ⟨oc__law_row_due, od__law_row_due, .func (PySem.W.fnOf "_law_row_due" "_law_row_due" (defArgs s__law_row_due) (defBody s__law_row_due) (defScope s__law_row_due) .none kV__law_row_due dc__law_row_due pm__law_row_due an__law_row_due cd__law_row_due ct__law_row_due), sl__law_row_due⟩) (c__law_row_due : PySem.W.codeIn K cd__law_row_due "_law_row_due" = true) (k__law_row_due : PySem.W.keepIn K (.ref p__law_row_due) = true)
    {p__law_thing : Addr} {od__law_thing an__law_thing : Option Addr} {sl__law_thing : Array (Option Value)} {oc__law_thing kV__law_thing dc__law_thing pm__law_thing cd__law_thing ct__law_thing : Value}
    (a__law_thing : PySem.W.nsIn K mainGlobals "_law_thing" = some (some (.ref p__law_thing))) (l__law_thing : K.lookup p__law_thing = some ⟨oc__law_thing, od__law_thing, .func (PySem.W.fnOf "_law_thing" "_law_thing" (defArgs s__law_thing) (defBody s__law_thing) (defScope s__law_thing) .none kV__law_thing dc__law_thing pm__law_thing an__law_thing cd__law_thing ct__law_thing), sl__law_thing⟩) (c__law_thing : PySem.W.codeIn K cd__law_thing "_law_thing" = true) (k__law_thing : PySem.W.keepIn K (.ref p__law_thing) = true)
    {p__law_bent : Addr} {od__law_bent an__law_bent : Option Addr} {sl__law_bent : Array (Option Value)} {oc__law_bent kV__law_bent dc__law_bent pm__law_bent cd__law_bent ct__law_bent : Value}
    (a__law_bent : PySem.W.nsIn K mainGlobals "_law_bent" = some (some (.ref p__law_bent))) (l__law_bent : K.lookup p__law_bent = some ⟨oc__law_bent, od__law_bent, .func (PySem.W.fnOf "_law_bent" "_law_bent" (defArgs s__law_bent) (defBody s__law_bent) (defScope s__law_bent) .none kV__law_bent dc__law_bent pm__law_bent an__law_bent cd__law_bent ct__law_bent), sl__law_bent⟩) (c__law_bent : PySem.W.codeIn K cd__law_bent "_law_bent" = true) (k__law_bent : PySem.W.keepIn K (.ref p__law_bent) = true)
    {p__law_told : Addr} {od__law_told an__law_told : Option Addr} {sl__law_told : Array (Option Value)} {oc__law_told kV__law_told dc__law_told pm__law_told cd__law_told ct__law_told : Value}
    (a__law_told : PySem.W.nsIn K mainGlobals "_law_told" = some (some (.ref p__law_told))) (l__law_told : K.lookup p__law_told = some ⟨oc__law_told, od__law_told, .func (PySem.W.fnOf "_law_told" "_law_told" (defArgs s__law_told) (defBody s__law_told) (defScope s__law_told) .none kV__law_told dc__law_told pm__law_told an__law_told cd__law_told ct__law_told), sl__law_told⟩) (c__law_told : PySem.W.codeIn K cd__law_told "_law_told" = true) (k__law_told : PySem.W.keepIn K (.ref p__law_told) = true)
    {p_law : Addr} {od_law an_law : Option Addr} {sl_law : Array (Option Value)} {oc_law kV_law dc_law pm_law cd_law ct_law : Value}
    (a_law : PySem.W.nsIn K mainGlobals "law" = some (some (.ref p_law))) (l_law : K.lookup p_law = some ⟨oc_law, od_law, .func (PySem.W.fnOf "law" "law" (defArgs s_law) (defBody s_law) (defScope s_law) .none kV_law dc_law pm_law an_law cd_law ct_law), sl_law⟩) (c_law : PySem.W.codeIn K cd_law "law" = true) (k_law : PySem.W.keepIn K (.ref p_law) = true)
    (n_all : PySem.W.nsIn K mainGlobals "all" = some none)
    (n_bool : PySem.W.nsIn K mainGlobals "bool" = some none)
    (n_int : PySem.W.nsIn K mainGlobals "int" = some none)
    (n_isinstance : PySem.W.nsIn K mainGlobals "isinstance" = some none)
    (n_len : PySem.W.nsIn K mainGlobals "len" = some none)
    (n_list : PySem.W.nsIn K mainGlobals "list" = some none)
    (n_max : PySem.W.nsIn K mainGlobals "max" = some none)
    (n_min : PySem.W.nsIn K mainGlobals "min" = some none)
    (n_range : PySem.W.nsIn K mainGlobals "range" = some none)
    (n_repr : PySem.W.nsIn K mainGlobals "repr" = some none)
    (n_set : PySem.W.nsIn K mainGlobals "set" = some none)
    (n_str : PySem.W.nsIn K mainGlobals "str" = some none)
    (n_tuple : PySem.W.nsIn K mainGlobals "tuple" = some none)
    {a_BARRED_NAMES : Addr} {z_BARRED_NAMES : Nat} {sl_BARRED_NAMES : Array (Option Value)} {t0_BARRED_NAMES t1_BARRED_NAMES t2_BARRED_NAMES t3_BARRED_NAMES t4_BARRED_NAMES t5_BARRED_NAMES t6_BARRED_NAMES : Tok} (c_BARRED_NAMES : PySem.W.nsIn K mainGlobals "BARRED_NAMES" = some (some (.ref a_BARRED_NAMES))) (l_BARRED_NAMES : K.lookup a_BARRED_NAMES = some ⟨.type "tuple", none, .seq #[.str (Str.ofString "all") t0_BARRED_NAMES, .str (Str.ofString "and") t1_BARRED_NAMES, .str (Str.ofString "in") t2_BARRED_NAMES, .str (Str.ofString "none") t3_BARRED_NAMES, .str (Str.ofString "not") t4_BARRED_NAMES, .str (Str.ofString "or") t5_BARRED_NAMES, .str (Str.ofString "starts") t6_BARRED_NAMES] z_BARRED_NAMES, sl_BARRED_NAMES⟩)
    {t_GREATEST_ID : Tok} (c_GREATEST_ID : PySem.W.nsIn K mainGlobals "GREATEST_ID" = some (some (.int 1000000 t_GREATEST_ID)))
    {t_GREATEST_INTEGER : Tok} (c_GREATEST_INTEGER : PySem.W.nsIn K mainGlobals "GREATEST_INTEGER" = some (some (.int 1000000000 t_GREATEST_INTEGER)))
    {t_LONGEST_NAME : Tok} (c_LONGEST_NAME : PySem.W.nsIn K mainGlobals "LONGEST_NAME" = some (some (.int 8 t_LONGEST_NAME)))
    {t_LONGEST_STRING : Tok} (c_LONGEST_STRING : PySem.W.nsIn K mainGlobals "LONGEST_STRING" = some (some (.int 20 t_LONGEST_STRING)))
    {t_MOST_COLUMNS : Tok} (c_MOST_COLUMNS : PySem.W.nsIn K mainGlobals "MOST_COLUMNS" = some (some (.int 6 t_MOST_COLUMNS)))
    : ∃ fd : FuncData, (∀ (s : Shared) (v : Value), BindsTo s fd ⟨[v], []⟩ [("script", v)]) ∧ ∀ base : Heap, K.In base → base.Ns mainGlobals mg → FnD l.prog w K mg base 16 fa fd ["script"] m_law := by
  have e := hfa.symm.trans (PySem.W.mg_of X G a_law)
  cases e
  let T : Txt K mg := { a_is_integer := p_is_integer, f_is_integer := _, F_is_integer := fun_mk (st := s_is_integer) l_is_integer c_is_integer k_is_integer, b_is_integer := (fun_mk (st := s_is_integer) l_is_integer c_is_integer k_is_integer).binds (ps := ["value"]) (fun _ _ _ _ _ _ us hl => (match us, hl with | [_], _ => rfl)), g_is_integer := PySem.W.mg_of X G a_is_integer, a_is_string := p_is_string, f_is_string := _, F_is_string := fun_mk (st := s_is_string) l_is_string c_is_string k_is_string, b_is_string := (fun_mk (st := s_is_string) l_is_string c_is_string k_is_string).binds (ps := ["value"]) (fun _ _ _ _ _ _ us hl => (match us, hl with | [_], _ => rfl)), g_is_string := PySem.W.mg_of X G a_is_string, a_is_value := p_is_value, f_is_value := _, F_is_value := fun_mk (st := s_is_value) l_is_value c_is_value k_is_value, b_is_value := (fun_mk (st := s_is_value) l_is_value c_is_value k_is_value).binds (ps := ["value"]) (fun _ _ _ _ _ _ us hl => (match us, hl with | [_], _ => rfl)), g_is_value := PySem.W.mg_of X G a_is_value, a_is_name := p_is_name, f_is_name := _, F_is_name := fun_mk (st := s_is_name) l_is_name c_is_name k_is_name, b_is_name := (fun_mk (st := s_is_name) l_is_name c_is_name k_is_name).binds (ps := ["value"]) (fun _ _ _ _ _ _ us hl => (match us, hl with | [_], _ => rfl)), g_is_name := PySem.W.mg_of X G a_is_name, a_is_column_name := p_is_column_name, f_is_column_name := _, F_is_column_name := fun_mk (st := s_is_column_name) l_is_column_name c_is_column_name k_is_column_name, b_is_column_name := (fun_mk (st := s_is_column_name) l_is_column_name c_is_column_name k_is_column_name).binds (ps := ["value"]) (fun _ _ _ _ _ _ us hl => (match us, hl with | [_], _ => rfl)), g_is_column_name := PySem.W.mg_of X G a_is_column_name, a_is_columns := p_is_columns, f_is_columns := _, F_is_columns := fun_mk (st := s_is_columns) l_is_columns c_is_columns k_is_columns, b_is_columns := (fun_mk (st := s_is_columns) l_is_columns c_is_columns k_is_columns).binds (ps := ["value"]) (fun _ _ _ _ _ _ us hl => (match us, hl with | [_], _ => rfl)), g_is_columns := PySem.W.mg_of X G a_is_columns, a_is_row_id := p_is_row_id, f_is_row_id := _, F_is_row_id := fun_mk (st := s_is_row_id) l_is_row_id c_is_row_id k_is_row_id, b_is_row_id := (fun_mk (st := s_is_row_id) l_is_row_id c_is_row_id k_is_row_id).binds (ps := ["value"]) (fun _ _ _ _ _ _ us hl => (match us, hl with | [_], _ => rfl)), g_is_row_id := PySem.W.mg_of X G a_is_row_id, a_is_row := p_is_row, f_is_row := _, F_is_row := fun_mk (st := s_is_row) l_is_row c_is_row k_is_row, b_is_row := (fun_mk (st := s_is_row) l_is_row c_is_row k_is_row).binds (ps := ["columns", "value"]) (fun _ _ _ _ _ _ us hl => (match us, hl with | [_, _], _ => rfl)), g_is_row := PySem.W.mg_of X G a_is_row, a__law_tape := p__law_tape, f__law_tape := _, F__law_tape := fun_mk (st := s__law_tape) l__law_tape c__law_tape k__law_tape, b__law_tape := (fun_mk (st := s__law_tape) l__law_tape c__law_tape k__law_tape).binds (ps := ["script", "start"]) (fun _ _ _ _ _ _ us hl => (match us, hl with | [_, _], _ => rfl)), g__law_tape := PySem.W.mg_of X G a__law_tape, a__law_pick := p__law_pick, f__law_pick := _, F__law_pick := fun_mk (st := s__law_pick) l__law_pick c__law_pick k__law_pick, b__law_pick := (fun_mk (st := s__law_pick) l__law_pick c__law_pick k__law_pick).binds (ps := ["tape", "size"]) (fun _ _ _ _ _ _ us hl => (match us, hl with | [_, _], _ => rfl)), g__law_pick := PySem.W.mg_of X G a__law_pick, a__law_one_of := p__law_one_of, f__law_one_of := _, F__law_one_of := fun_mk (st := s__law_one_of) l__law_one_of c__law_one_of k__law_one_of, b__law_one_of := (fun_mk (st := s__law_one_of) l__law_one_of c__law_one_of k__law_one_of).binds (ps := ["tape", "items"]) (fun _ _ _ _ _ _ us hl => (match us, hl with | [_, _], _ => rfl)), g__law_one_of := PySem.W.mg_of X G a__law_one_of, a__law_integer := p__law_integer, f__law_integer := _, F__law_integer := fun_mk (st := s__law_integer) l__law_integer c__law_integer k__law_integer, b__law_integer := (fun_mk (st := s__law_integer) l__law_integer c__law_integer k__law_integer).binds (ps := ["thing", "least", "most"]) (fun _ _ _ _ _ _ us hl => (match us, hl with | [_, _, _], _ => rfl)), g__law_integer := PySem.W.mg_of X G a__law_integer, a__law_value_due := p__law_value_due, f__law_value_due := _, F__law_value_due := fun_mk (st := s__law_value_due) l__law_value_due c__law_value_due k__law_value_due, b__law_value_due := (fun_mk (st := s__law_value_due) l__law_value_due c__law_value_due k__law_value_due).binds (ps := ["thing"]) (fun _ _ _ _ _ _ us hl => (match us, hl with | [_], _ => rfl)), g__law_value_due := PySem.W.mg_of X G a__law_value_due, a__law_columns_due := p__law_columns_due, f__law_columns_due := _, F__law_columns_due := fun_mk (st := s__law_columns_due) l__law_columns_due c__law_columns_due k__law_columns_due, b__law_columns_due := (fun_mk (st := s__law_columns_due) l__law_columns_due c__law_columns_due k__law_columns_due).binds (ps := ["thing"]) (fun _ _ _ _ _ _ us hl => (match us, hl with | [_], _ => rfl)), g__law_columns_due := PySem.W.mg_of X G a__law_columns_due, a__law_row_due := p__law_row_due, f__law_row_due := _, F__law_row_due := fun_mk (st := s__law_row_due) l__law_row_due c__law_row_due k__law_row_due, b__law_row_due := (fun_mk (st := s__law_row_due) l__law_row_due c__law_row_due k__law_row_due).binds (ps := ["columns", "thing"]) (fun _ _ _ _ _ _ us hl => (match us, hl with | [_, _], _ => rfl)), g__law_row_due := PySem.W.mg_of X G a__law_row_due, a__law_thing := p__law_thing, f__law_thing := _, F__law_thing := fun_mk (st := s__law_thing) l__law_thing c__law_thing k__law_thing, b__law_thing := (fun_mk (st := s__law_thing) l__law_thing c__law_thing k__law_thing).binds (ps := ["tape"]) (fun _ _ _ _ _ _ us hl => (match us, hl with | [_], _ => rfl)), g__law_thing := PySem.W.mg_of X G a__law_thing, a__law_bent := p__law_bent, f__law_bent := _, F__law_bent := fun_mk (st := s__law_bent) l__law_bent c__law_bent k__law_bent, b__law_bent := (fun_mk (st := s__law_bent) l__law_bent c__law_bent k__law_bent).binds (ps := ["tape", "thing"]) (fun _ _ _ _ _ _ us hl => (match us, hl with | [_, _], _ => rfl)), g__law_bent := PySem.W.mg_of X G a__law_bent, a__law_told := p__law_told, f__law_told := _, F__law_told := fun_mk (st := s__law_told) l__law_told c__law_told k__law_told, b__law_told := (fun_mk (st := s__law_told) l__law_told c__law_told k__law_told).binds (ps := ["tape", "columns", "thing"]) (fun _ _ _ _ _ _ us hl => (match us, hl with | [_, _, _], _ => rfl)), g__law_told := PySem.W.mg_of X G a__law_told, a_law := fa, f_law := _, F_law := fun_mk (st := s_law) l_law c_law k_law, b_law := (fun_mk (st := s_law) l_law c_law k_law).binds (ps := ["script"]) (fun _ _ _ _ _ _ us hl => (match us, hl with | [_], _ => rfl)), g_law := PySem.W.mg_of X G a_law, n_all := PySem.W.mg_none_of X G n_all, n_bool := PySem.W.mg_none_of X G n_bool, n_int := PySem.W.mg_none_of X G n_int, n_isinstance := PySem.W.mg_none_of X G n_isinstance, n_len := PySem.W.mg_none_of X G n_len, n_list := PySem.W.mg_none_of X G n_list, n_max := PySem.W.mg_none_of X G n_max, n_min := PySem.W.mg_none_of X G n_min, n_range := PySem.W.mg_none_of X G n_range, n_repr := PySem.W.mg_none_of X G n_repr, n_set := PySem.W.mg_none_of X G n_set, n_str := PySem.W.mg_none_of X G n_str, n_tuple := PySem.W.mg_none_of X G n_tuple, a_BARRED_NAMES := a_BARRED_NAMES, o_BARRED_NAMES := _, i_BARRED_NAMES := _, z_BARRED_NAMES := _, c_BARRED_NAMES := PySem.W.mg_of X G c_BARRED_NAMES, l_BARRED_NAMES := l_BARRED_NAMES, h_BARRED_NAMES := rfl, x_BARRED_NAMES := rfl, d_BARRED_NAMES := rfl, y_BARRED_NAMES := (show 7 ≤ sizeLine by decide), v_BARRED_NAMES := (.cons ⟨_, rfl⟩ (.cons ⟨_, rfl⟩ (.cons ⟨_, rfl⟩ (.cons ⟨_, rfl⟩ (.cons ⟨_, rfl⟩ (.cons ⟨_, rfl⟩ (.cons ⟨_, rfl⟩ .nil))))))), t_GREATEST_ID := t_GREATEST_ID, c_GREATEST_ID := PySem.W.mg_of X G c_GREATEST_ID, t_GREATEST_INTEGER := t_GREATEST_INTEGER, c_GREATEST_INTEGER := PySem.W.mg_of X G c_GREATEST_INTEGER, t_LONGEST_NAME := t_LONGEST_NAME, c_LONGEST_NAME := PySem.W.mg_of X G c_LONGEST_NAME, t_LONGEST_STRING := t_LONGEST_STRING, c_LONGEST_STRING := PySem.W.mg_of X G c_LONGEST_STRING, t_MOST_COLUMNS := t_MOST_COLUMNS, c_MOST_COLUMNS := PySem.W.mg_of X G c_MOST_COLUMNS }
  exact ⟨_, fun s v => .of_eq rfl, fun base _ _ => d_law T⟩
end LW
open PySem PySem.W PyProof.Rows
set_option maxHeartbeats 0 in
theorem PySem.Challenge.cw_steadypages_k01_values_columns_and_rows_holds : PySem.Challenge.rw_steadypages_k01_values_columns_and_rows.Holds := by
  w_on; o_law; k_head; (case hw => w_witness2)
  k_fill
  refine DL.walkD (l := PySem.Challenge.rw_steadypages_k01_values_columns_and_rows) (n := 63) (k := 16) (x := "script") (m := LW.m_law) rfl (by decide) rfl ⟨rfl, by decide, by decide⟩ (fun w h Y => PySem.W.kIn_of Y) ?F LW.law_true
  case F =>
    intro w mg fa h KX G hmg
    refine' LW.all_mk KX G hmg ?a_is_integer ?l_is_integer ?c_is_integer ?k_is_integer ?a_is_string ?l_is_string ?c_is_string ?k_is_string ?a_is_value ?l_is_value ?c_is_value ?k_is_value ?a_is_name ?l_is_name ?c_is_name ?k_is_name ?a_is_column_name ?l_is_column_name ?c_is_column_name ?k_is_column_name ?a_is_columns ?l_is_columns ?c_is_columns ?k_is_columns ?a_is_row_id ?l_is_row_id ?c_is_row_id ?k_is_row_id ?a_is_row ?l_is_row ?c_is_row ?k_is_row ?a__law_tape ?l__law_tape ?c__law_tape ?k__law_tape ?a__law_pick ?l__law_pick ?c__law_pick ?k__law_pick ?a__law_one_of ?l__law_one_of ?c__law_one_of ?k__law_one_of ?a__law_integer ?l__law_integer ?c__law_integer ?k__law_integer ?a__law_value_due ?l__law_value_due ?c__law_value_due ?k__law_value_due ?a__law_columns_due ?l__law_columns_due ?c__law_columns_due ?k__law_columns_due ?a__law_row_due ?l__law_row_due ?c__law_row_due ?k__law_row_due ?a__law_thing ?l__law_thing ?c__law_thing ?k__law_thing ?a__law_bent ?l__law_bent ?c__law_bent ?k__law_bent ?a__law_told ?l__law_told ?c__law_told ?k__law_told ?a_law ?l_law ?c_law ?k_law ?n_all ?n_bool ?n_int ?n_isinstance ?n_len ?n_list ?n_max ?n_min ?n_range ?n_repr ?n_set ?n_str ?n_tuple ?c_BARRED_NAMES ?l_BARRED_NAMES ?c_GREATEST_ID ?c_GREATEST_INTEGER ?c_LONGEST_NAME ?c_LONGEST_STRING ?c_MOST_COLUMNS
    (case a_is_integer => k_is); (case l_is_integer => k_is); (case c_is_integer => k_is); (case k_is_integer => k_is); (case a_is_string => k_is); (case l_is_string => k_is); (case c_is_string => k_is); (case k_is_string => k_is); (case a_is_value => k_is); (case l_is_value => k_is); (case c_is_value => k_is); (case k_is_value => k_is); (case a_is_name => k_is); (case l_is_name => k_is); (case c_is_name => k_is); (case k_is_name => k_is); (case a_is_column_name => k_is); (case l_is_column_name => k_is); (case c_is_column_name => k_is); (case k_is_column_name => k_is); (case a_is_columns => k_is); (case l_is_columns => k_is); (case c_is_columns => k_is); (case k_is_columns => k_is); (case a_is_row_id => k_is); (case l_is_row_id => k_is); (case c_is_row_id => k_is); (case k_is_row_id => k_is); (case a_is_row => k_is); (case l_is_row => k_is); (case c_is_row => k_is); (case k_is_row => k_is); (case a__law_tape => k_is); (case l__law_tape => k_is); (case c__law_tape => k_is); (case k__law_tape => k_is); (case a__law_pick => k_is); (case l__law_pick => k_is); (case c__law_pick => k_is); (case k__law_pick => k_is); (case a__law_one_of => k_is); (case l__law_one_of => k_is); (case c__law_one_of => k_is); (case k__law_one_of => k_is); (case a__law_integer => k_is); (case l__law_integer => k_is); (case c__law_integer => k_is); (case k__law_integer => k_is); (case a__law_value_due => k_is); (case l__law_value_due => k_is); (case c__law_value_due => k_is); (case k__law_value_due => k_is); (case a__law_columns_due => k_is); (case l__law_columns_due => k_is); (case c__law_columns_due => k_is); (case k__law_columns_due => k_is); (case a__law_row_due => k_is); (case l__law_row_due => k_is); (case c__law_row_due => k_is); (case k__law_row_due => k_is); (case a__law_thing => k_is); (case l__law_thing => k_is); (case c__law_thing => k_is); (case k__law_thing => k_is); (case a__law_bent => k_is); (case l__law_bent => k_is); (case c__law_bent => k_is); (case k__law_bent => k_is); (case a__law_told => k_is); (case l__law_told => k_is); (case c__law_told => k_is); (case k__law_told => k_is); (case a_law => k_is); (case l_law => k_is); (case c_law => k_is); (case k_law => k_is); (case n_all => k_is); (case n_bool => k_is); (case n_int => k_is); (case n_isinstance => k_is); (case n_len => k_is); (case n_list => k_is); (case n_max => k_is); (case n_min => k_is); (case n_range => k_is); (case n_repr => k_is); (case n_set => k_is); (case n_str => k_is); (case n_tuple => k_is); (case c_BARRED_NAMES => k_is); (case l_BARRED_NAMES => k_is); (case c_GREATEST_ID => k_is); (case c_GREATEST_INTEGER => k_is); (case c_LONGEST_NAME => k_is); (case c_LONGEST_STRING => k_is); (case c_MOST_COLUMNS => k_is)
