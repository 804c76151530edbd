import PyProof.Rows.All
import Wide.All
import OpenK.AllK
import Wide.FinOn
import HandS.ForMost
import HandS.IsInst
import HandS.Wide
import HandS.TupAny
import HandS.TupMul
import HandS.Style
import HandS.Flow
import HandS.Conv
import HandS.EndBits
import KE.IntBitsLaws
import KE.DataFind
import KE.LtSeq
import HandS.ForExc
import HandS.ExcOwn
import HandS.Zip
import HandS.Star
import HandS.DictComp
import KE.GoesEnum
import KE.GoesMore
import KE.LtData
import HandS.SetBool
import HandS.SetFor
import HandS.Strs
import HandS.SortInts
import PySem.Challenge.RW_steadypages_k46_what_is_a_token
set_option Elab.async false
set_option linter.all false
set_option maxRecDepth 100000
set_option maxHeartbeats 4000000
/-! New tuples whose object is known: it has no dict. -/
namespace DL
open PySem PySem.Spec PyProof.Rows L2
/-- what a new tuple brings -/
abbrev Fz (Q : VK) (H : Hp) (xs : List V) : Prop := ∀ (p : Addr) (o : Obj), H p = none → o.dict = none → Q (.ref p) (upd H p (.frz o (.tup xs)))
section
variable {X : Cx}
theorem laidF {pins : List (Addr × Obj)} {σ : L2.St} {H : Hp} {s : Shared} {Q : VK} {xs : List V} {us : List Value} {t' : Nat} (I : Inv X pins σ H s) (r : Vals xs us) (z : xs.length ≤ sizeLine) (q : Fz Q H xs) :
    EP X pins σ Q (.ref s.heap.objs.size) { s with heap := s.heap.push { cls := .type "tuple", data := .seq us.toArray }, toks := t' } :=
  ⟨.ref s.heap.objs.size, _, I.laid (t' := t') (o := .frz { cls := .type "tuple", data := .seq us.toArray } (.tup xs)) (fun _ _ e => Heap.get?_push_of_some _ e) (Nat.le_refl _) ⟨Heap.get?_push_size _ rfl, z, us, r, IsTup.new _ _⟩, rfl, q _ _ (I.hok.fresh (Nat.le_refl _)) rfl⟩
theorem pe_tupF {es : List Expr} {t : TA} {x1 : Nat} {pos : Pos} (h : PA X es t) : PE X (.Tuple es x1 pos) (fun σ H Q => t σ H fun xs H1 => xs.length ≤ sizeLine ∧ Fz Q H1 xs) :=
  ⟨fun pins s σ H Q I hq => wpAny_Tuple_spliced (thn (h.run pos pins s σ H _ I hq) fun us s1 ⟨xs, H1, I1, r, z, q⟩ => ⟨by rw [← r.length]; exact z, laidF (t' := s1.toks) I1 r z q⟩)⟩
theorem call_tupF : CallR X (.type "tuple") (fun xs H Q => ∃ p ys, xs = [.ref p] ∧ ((SqL X.K H p ys ∧ Fz Q H ys) ∨ (SqT X.K H p ys ∧ Q (.ref p) H))) := by
  intro pins s σ H xs us Q I r h
  obtain ⟨p, ys, rfl, h⟩ := h
  obtain ⟨u, rfl, rx⟩ := vals1 r
  cases rx
  rcases h with ⟨sq, q⟩ | ⟨sq, q⟩
  · obtain ⟨its, r2, pl, hz⟩ := I.list sq
    have hlen := r2.length
    exact call_tuple_list pl.isList (fun h' kp => laidF (t' := s.toks) (I.kept (t' := s.toks) kp) r2 hz q) (by simp only [List.size_toArray] <;> omega)
  · obtain ⟨its, r2, pl, hz⟩ := I.tuple sq
    exact call_tuple_same pl ⟨.ref p, H, I, rfl, q⟩
def rCatF (K : PySem.W.Frag) : R2 := fun x y H Q => ∃ a b xs ys, x = .ref a ∧ y = .ref b ∧ SqT K H a xs ∧ SqT K H b ys ∧ xs.length + ys.length ≤ sizeLine ∧ (xs = [] → Q (.ref b) H) ∧ (xs ≠ [] → ys = [] → Q (.ref a) H) ∧ Fz Q H (xs ++ ys)
theorem op_catF : OpR X (binaryOp .Add) (rCatF X.K) := by
  intro pins s σ H x y v u Q I rx ry h
  obtain ⟨a, b, xs, ys, rfl, rfl, ha, hb, hz, q0, q1, q2⟩ := h
  cases rx
  cases ry
  obtain ⟨its, r1, p1, _⟩ := I.tuple ha
  obtain ⟨its2, r2, p2, _⟩ := I.tuple hb
  by_cases hx : xs = []
  · subst hx
    cases r1
    exact cat_tup0 p1 p2 ⟨.ref b, H, I, rfl, q0 rfl⟩
  · exact HT.cat_tup p1 p2 (fun z => hx (r1.nil_iff.mp z)) (fun z => ⟨.ref a, H, I, rfl, q1 hx (r2.nil_iff.mp z)⟩) (fun _ => laidF (t' := s.toks) I (r1.append r2) (by rw [List.length_append]; exact hz) q2) (by rw [← r1.length, ← r2.length]; exact hz)
def rSlF (K : PySem.W.Frag) : V → Option Int → Option Int → Hp → VK → Prop := fun x lo hi H Q => ∃ a xs, x = .ref a ∧ SqT K H a xs ∧ (HT.sIx xs.length 0 lo = 0 ∧ HT.sIx xs.length xs.length hi = xs.length → Q (.ref a) H) ∧ Fz Q H (cutV xs lo hi)
theorem sl_tupF : SlR X (rSlF X.K) := by
  intro pins s σ H x v vl vu lo hi sl Q I rx hs pl pu h
  obtain ⟨a, xs, rfl, hx, q1, q2⟩ := h
  cases rx
  obtain ⟨its, r, ht, hz⟩ := I.tuple hx
  have hlen : its.toArray.size = xs.length := by rw [List.size_toArray]; exact r.length.symm
  refine ⟨"tuple", _, PyProof.Rows.slot_tuple_getitem.lookup, ht.typeIs, ?_⟩
  by_cases hw : HT.sIx xs.length 0 lo = 0 ∧ HT.sIx xs.length xs.length hi = xs.length
  · exact getItem_tuple_whole ht hs pl pu (by rw [hlen]; exact hw) ⟨.ref a, H, I, rfl, q1 hw⟩
  · refine HT.getItem_tuple_cut ht hs pl pu (by rw [hlen]; exact hw) ?_ (by rw [hlen]; exact hz)
    rw [hlen]
    exact laidF (t' := s.toks) I ((r.drop (HT.sIx xs.length 0 lo)).take (HT.sIx xs.length xs.length hi - HT.sIx xs.length 0 lo)) (Nat.le_trans (cutV_length xs lo hi) hz) q2
/-- t * n -/
def rRepF (K : PySem.W.Frag) : R2 := fun x y H Q => ∃ l k xs, x = .ref l ∧ y = .int k ∧ SqT K H l xs ∧ xs ≠ [] ∧ 2 ≤ k ∧ k ≤ 1000 ∧ xs.length ≤ 1000 ∧ Fz Q H (List.replicate k.toNat xs).flatten
theorem op_repF : OpR X (binaryOp .Mult) (rRepF X.K) := by
  intro pins s σ H x y v u Q I rx ry h
  obtain ⟨l, k, xs, rfl, rfl, sq, hne, k2, k1000, len, q⟩ := h
  cases rx
  obtain ⟨t, rfl⟩ := ry
  obtain ⟨its, r, ⟨⟨cls, dd, data, sl⟩, ho, hc, n, hd⟩, _⟩ := I.tuple sq
  simp only at hc hd
  subst hc hd
  have el : its.length = xs.length := r.length.symm
  have full : its.toArray.isEmpty = false := by
    cases its with
    | nil => exact absurd (List.eq_nil_of_length_eq_zero el.symm) hne
    | cons _ _ => rfl
  have sz : its.toArray.size = xs.length := by rw [List.size_toArray, el]
  have prod : ((its.toArray.size : Nat) : Int) * k ≤ 1000 * 1000 := by
    rw [sz]
    exact Int.mul_le_mul (by omega) k1000 (by omega) (by omega)
  have few : k.toNat * xs.length ≤ 1000 * 1000 := Nat.mul_le_mul (by omega) len
  have flat : (List.replicate k.toNat its).flatten.length ≤ sizeLine := by
    rw [PyProof.Rows.lm_len_rep_flat, el, sizeLine_eq]
    omega
  have b0 : (decide (k < -(2 ^ 63)) || decide (k ≥ 2 ^ 63)) = false := by simp; omega
  have b1 : (its.toArray.isEmpty || k == 1) = false := by rw [full]; simp; omega
  have b2 : (decide (k ≤ 0) || its.toArray.isEmpty) = false := by rw [full]; simp; omega
  have b3 : Builtin.Tuple.tupleTooMany (((its.toArray.size : Nat) : Int) * k) = false := by
    unfold Builtin.Tuple.tupleTooMany
    rw [sizeLine_eq]
    exact decide_eq_false (by omega)
  have last : EP X pins σ Q (.ref s.heap.objs.size) { s with heap := s.heap.push { cls := .type "tuple", data := .seq (List.replicate k.toNat its).flatten.toArray } } :=
    laidF (t' := s.toks) I (r.rep k.toNat) (by rw [PyProof.Rows.lm_len_rep_flat, sizeLine_eq]; omega) q
  rw [← size_rep] at last
  refine wpAny_binaryOp_repeat_ref (T := "tuple") (U := "int") (by decide) ⟨_, ho, rfl⟩ (fun z => typeIs_int z k t) noFill_tuple_mul PySem.F.fills_int_mul PySem.F.slot_int_rmul repeat_tuple PySem.F.slot_int_index.lookup (call_meets PySem.F.slot_int_rmul (typeIs_int s k t) PySem.F.entry_int_rmul (PySem.F.args_int_rmul_2 _ _) (int_rmul_tuple k t l its.toArray n dd sl) ⟨ho, rfl, ⟨_, ho, rfl⟩, ?_⟩)
  exact call_meets PySem.F.slot_tuple_mul ⟨_, ho, rfl⟩ PySem.F.entry_tuple_mul (PySem.F.args_tuple_mul_2 _ _) (tuple_mulW l its.toArray n dd sl k t b0 b1 b2 (by omega) b3 (by rw [size_rep, List.size_toArray]; exact flat)) ⟨ho, last⟩
/-- a tuple of which it is known that it has no dict -/
def Bare (K : PySem.W.Frag) (x : V) (H : Hp) : Prop := ∃ a, x = .ref a ∧ ((∃ o xs, H a = some (.frz o (.tup xs)) ∧ o.dict = none) ∨ ∃ o, K.lookup a = some o ∧ o.cls = .type "tuple" ∧ o.dict = none)
theorem bare_is {pins : List (Addr × Obj)} {σ : L2.St} {H : Hp} {s : Shared} {x : V} {v : Value} (I : Inv X pins σ H s) (r : RelV x v) (b : Bare X.K x H) : s.TypeIs v "tuple" ∧ ∀ a, v = .ref a → ∃ ob, s.heap.get? a = some ob ∧ ob.dict = none := by
  obtain ⟨a, rfl, h⟩ := b
  cases r
  rcases h with ⟨o, xs, hx, hz⟩ | ⟨o, ho, hc, hz⟩
  · obtain ⟨e, hl, its, _, ob, e2, c, _⟩ := (show ObjOk X.prog X.w H s.heap a (.frz o (.tup xs)) from I.hok a _ hx)
    exact ⟨⟨ob, e2, c⟩, fun b hb => by cases hb; exact ⟨o, e, hz⟩⟩
  · have e := I.kIn a o ho
    exact ⟨⟨o, e, hc⟩, fun b hb => by cases hb; exact ⟨o, e, hz⟩⟩
theorem pe_tm {o e : Expr} {es : List Expr} {to : TE} {t : TA} {name : Str} {apos cpos : Pos} {id : String} {r : V → List V → Hp → VK → Prop} (pa : PlainAttrs "tuple") (slot : Slot "tuple" name id) (hty : typeOf (.builtin id) = pure (.type "method_descriptor")) (hm : MtR X id r) (ho : PE X o to) (ha : PA X (e :: es) t)
    (hbase : attributeBase o name X.env (eval o X.env) = eval o X.env := by rfl)
    (hfew : ((backTo cpos (starEach (e :: es) X.env)).all (fun x => !x.1) && (backToKw cpos (keywordEach [] X.env)).all (fun x => x.1.isSome) && decide ((e :: es).length + ([] : List Keyword).length + (if ([] : List Keyword).isEmpty then 0 else 1) < 30)) = true := by rfl)
    (hline : (apos.endLine == cpos.line) = true := by rfl) (hs : starEach (e :: es) X.env = (false, eval e X.env) :: starEach es X.env := by rfl) (hplain : (backTo cpos (starEach es X.env)).any (·.1) = false := by rfl) :
    PE X (.Call (.Attribute o name apos) (e :: es) [] cpos) (fun σ H Q => to σ H fun x H1 => Bare X.K x H1 ∧ t σ H1 fun xs H2 => r x xs H2 Q) := by
  refine ⟨fun pins s σ H Q I h => wpAny_Call_method_late hbase hfew hline rfl (thn (ho.run pins s σ H _ I h) fun v s1 ⟨x, H1, I1, r1, ty, q1⟩ => ?_)⟩
  have hA := ha.run cpos pins s1 σ H1 _ I1 q1
  refine ⟨"tuple", id, pa, slot, hty, (bare_is I1 r1 ty).1, (bare_is I1 r1 ty).2, ?_⟩
  rw [hs] at hA ⊢
  exact Calls.callWith_builtin (by show (false || (backTo cpos (starEach es X.env)).any (·.1)) = false; rw [hplain] <;> rfl) (Calls.evalArgs_plain (thn hA fun us s2 ⟨vs, H2, I2, r2, q2⟩ => hm pins s2 σ H2 x vs v us Q I2 r1 r2 q2))
end
end DL
/-! Data level: values as trees, a store for what may be written, and judgements that say "this piece of text computes this function". -/
namespace DL
open PySem PySem.Spec PyProof.Rows L2

inductive D where
  | non | bl (b : Bool) | int (i : Int) | str (x : Str)
  | tup (ds : List D) | lst (ds : List D) | dct (kvs : List (Key × D))
  | scr (ns : List Int) | ref (n : Nat)

inductive Ob where
  | dead
  | dct (kvs : List (Key × D))
  | lst (ds : List D)
  | ins (c : Str) (fs : List (Str × D))
  | ldc (kvs : List (Key × D))
/-- where the store's objects stand; what no value may lean on -/
structure Rf where
  adr : List Addr
  av : Addr → Prop
  lk : Addr → Prop
abbrev Store := List Ob
abbrev Lo := List (Option D)

variable {K : PySem.W.Frag}

mutual
inductive Rep (K : PySem.W.Frag) (r : Rf) (H : Hp) : V → D → Prop
  | non : Rep K r H .non .non
  | bl (b : Bool) : Rep K r H (.bl b) (.bl b)
  | int (i : Int) : Rep K r H (.int i) (.int i)
  | str (x : Str) : Rep K r H (.str x) (.str x)
  | tup {a : Addr} {xs : List V} {ds : List D} {o : Obj} : H a = some (.frz o (.tup xs)) → o.dict = none → ¬ r.av a → RepL K r H xs ds → Rep K r H (.ref a) (.tup ds)
  | tupK {a : Addr} {o : Obj} {its : Array Value} {n : Nat} {xs : List V} {ds : List D} : K.lookup a = some o → o.cls = .type "tuple" → o.dict = none → o.data = .seq its n → its.size ≤ sizeLine → Vals xs its.toList → RepL K r H xs ds → Rep K r H (.ref a) (.tup ds)
  | lst {a : Addr} {xs : List V} {ds : List D} : H a = some (.lst xs) → ¬ r.av a → RepL K r H xs ds → Rep K r H (.ref a) (.lst ds)
  | tupP {a : Addr} {xs : List V} {ds : List D} : H a = some (.tup xs) → ¬ r.av a → RepL K r H xs ds → Rep K r H (.ref a) (.tup ds)
  | dct {a : Addr} {o : Obj} {xs : List (Key × V)} {kvs : List (Key × D)} : H a = some (.frz o (.dK xs)) → ¬ r.av a → RepK K r H xs kvs → Rep K r H (.ref a) (.dct kvs)
  | scr {a : Addr} {ns : List Int} {o : Obj} : H a = some (.frz o (.lst (ns.map V.int))) → ¬ r.av a → Rep K r H (.ref a) (.scr ns)
  | scrK {a : Addr} {ns : List Int} {o : Obj} {its : Array Value} {n : Nat} : K.lookup a = some o → o.cls = .type "list" → o.dict = none → o.data = .seq its n → its.size ≤ sizeLine → Vals (ns.map V.int) its.toList → Rep K r H (.ref a) (.scr ns)
  | ref {n : Nat} {a : Addr} : r.adr[n]? = some a → Rep K r H (.ref a) (.ref n)
inductive RepL (K : PySem.W.Frag) (r : Rf) (H : Hp) : List V → List D → Prop
  | nil : RepL K r H [] []
  | cons {v : V} {vs : List V} {d : D} {ds : List D} : Rep K r H v d → RepL K r H vs ds → RepL K r H (v :: vs) (d :: ds)
inductive RepK (K : PySem.W.Frag) (r : Rf) (H : Hp) : List (Key × V) → List (Key × D) → Prop
  | nil : RepK K r H [] []
  | cons {k : Key} {v : V} {vs : List (Key × V)} {d : D} {ds : List (Key × D)} : Rep K r H v d → RepK K r H vs ds → RepK K r H ((k, v) :: vs) ((k, d) :: ds)
end

/-- what was known stays known -/
structure Ex (r : Rf) (H : Hp) (r' : Rf) (H' : Hp) : Prop where
  pre : ∃ l, r'.adr = r.adr ++ l
  keep : ∀ p o, H p = some o → ¬ r.av p → H' p = some o
  new : ∀ p, r'.av p → ¬ r.av p → H p = none
/-- .. and nothing is done to what is hidden -/
structure HidL (r : Rf) (H : Hp) (r' : Rf) (H' : Hp) : Prop where
  hid : ∀ p, r.av p → p ∉ r.adr → H' p = H p ∧ r'.av p ∧ p ∉ r'.adr
  lke : ∀ p, r'.lk p ↔ r.lk p
  lks : ∀ p, r.lk p → H' p = H p
structure Ext (r : Rf) (H : Hp) (r' : Rf) (H' : Hp) : Prop extends Ex r H r' H' where
  hd : HidL r H r' H'
theorem Ext.hid {r r' : Rf} {H H' : Hp} (e : Ext r H r' H') : ∀ p, r.av p → p ∉ r.adr → H' p = H p ∧ r'.av p ∧ p ∉ r'.adr := e.hd.hid
theorem HidL.refl (r : Rf) (H : Hp) : HidL r H r H := ⟨fun _ a b => ⟨rfl, a, b⟩, fun _ => Iff.rfl, fun _ _ => rfl⟩
theorem HidL.trans {r r1 r2 : Rf} {H H1 H2 : Hp} (a : HidL r H r1 H1) (b : HidL r1 H1 r2 H2) : HidL r H r2 H2 :=
  ⟨fun p x y => let ⟨h1, h2, h3⟩ := a.hid p x y; let ⟨h4, h5, h6⟩ := b.hid p h2 h3; ⟨h4.trans h1, h5, h6⟩, fun p => (b.lke p).trans (a.lke p), fun p x => (b.lks p ((a.lke p).mpr x)).trans (a.lks p x)⟩

theorem Ext.refl (r : Rf) (H : Hp) : Ext r H r H := ⟨⟨⟨[], by simp⟩, fun _ _ h _ => h, fun _ h n => absurd h n⟩, .refl r H⟩
theorem Ex.out {r r' : Rf} {H H' : Hp} (e : Ex r H r' H') {p : Addr} {o : HO} (h : H p = some o) (n : ¬ r.av p) : ¬ r'.av p := fun z => by
  rw [e.new p z n] at h; cases h
theorem Ex.get {r r' : Rf} {H H' : Hp} (e : Ex r H r' H') {n : Nat} {a : Addr} (h : r.adr[n]? = some a) : r'.adr[n]? = some a := by
  obtain ⟨l, hl⟩ := e.pre
  obtain ⟨q, _⟩ := List.getElem?_eq_some_iff.mp h
  rw [hl, List.getElem?_append_left q]; exact h
theorem Ex.trans {r r1 r2 : Rf} {H H1 H2 : Hp} (a : Ex r H r1 H1) (b : Ex r1 H1 r2 H2) : Ex r H r2 H2 := by
  refine ⟨?_, fun p o h n => b.keep p o (a.keep p o h n) (a.out h n), fun p h n => ?_⟩
  · obtain ⟨l, hl⟩ := a.pre
    obtain ⟨m, hm⟩ := b.pre
    exact ⟨l ++ m, by rw [hm, hl, List.append_assoc]⟩
  · by_cases q : r1.av p
    · exact a.new p q n
    · cases z : H p with
      | none => rfl
      | some o =>
        have := b.new p h q
        rw [a.keep p o z n] at this
        cases this
theorem Ext.trans {r r1 r2 : Rf} {H H1 H2 : Hp} (a : Ext r H r1 H1) (b : Ext r1 H1 r2 H2) : Ext r H r2 H2 :=
  ⟨a.toEx.trans b.toEx, a.hd.trans b.hd⟩
theorem Ext.same (r : Rf) {H H' : Hp} (s : Same H H') (there : ∀ p, r.av p → ∃ o, H p = some o) (lkd : ∀ p, r.lk p → ∃ o u, H p = some (.frz o u)) : Ext r H r H' :=
  ⟨⟨⟨[], by simp⟩, fun p o h _ => s p o h, fun p h n => absurd h n⟩, fun p a b => ⟨by obtain ⟨o, h⟩ := there p a; rw [h]; exact s p o h, a, b⟩, fun _ => Iff.rfl, fun p a => by obtain ⟨o, u, h⟩ := lkd p a; rw [h]; exact s p _ h⟩
theorem Ex.same (r : Rf) {H H' : Hp} (s : Same H H') : Ex r H r H' := ⟨⟨[], by simp⟩, fun p o h _ => s p o h, fun p h n => absurd h n⟩
theorem same_alloc {H : Hp} {p : Addr} {o : HO} (h : H p = none) : Same H (upd H p o) := fun b x e => by
  rw [upd_ne (ne_of_none e h)]; exact e

mutual
theorem Rep.ex {r r' : Rf} {H H' : Hp} (e : Ex r H r' H') : ∀ {v : V} {d : D}, Rep K r H v d → Rep K r' H' v d
  | _, _, .non => .non
  | _, _, .bl b => .bl b
  | _, _, .int i => .int i
  | _, _, .str x => .str x
  | _, _, .tup h z n l => .tup (e.keep _ _ h n) z (e.out h n) (RepL.ex e l)
  | _, _, .tupK a b z c d f l => .tupK a b z c d f (RepL.ex e l)
  | _, _, .lst h n l => .lst (e.keep _ _ h n) (e.out h n) (RepL.ex e l)
  | _, _, .tupP h n l => .tupP (e.keep _ _ h n) (e.out h n) (RepL.ex e l)
  | _, _, .dct h n l => .dct (e.keep _ _ h n) (e.out h n) (RepK.ex e l)
  | _, _, .scr h n => .scr (e.keep _ _ h n) (e.out h n)
  | _, _, .scrK a b c d f g => .scrK a b c d f g
  | _, _, .ref h => .ref (e.get h)
theorem RepL.ex {r r' : Rf} {H H' : Hp} (e : Ex r H r' H') : ∀ {v : List V} {d : List D}, RepL K r H v d → RepL K r' H' v d
  | _, _, .nil => .nil
  | _, _, .cons a b => .cons (Rep.ex e a) (RepL.ex e b)
theorem RepK.ex {r r' : Rf} {H H' : Hp} (e : Ex r H r' H') : ∀ {v : List (Key × V)} {d : List (Key × D)}, RepK K r H v d → RepK K r' H' v d
  | _, _, .nil => .nil
  | _, _, .cons a b => .cons (Rep.ex e a) (RepK.ex e b)
end
theorem Rep.ext {r r' : Rf} {H H' : Hp} {v : V} {d : D} (h : Rep K r H v d) (e : Ext r H r' H') : Rep K r' H' v d := h.ex e.toEx
theorem RepL.ext {r r' : Rf} {H H' : Hp} {v : List V} {d : List D} (h : RepL K r H v d) (e : Ext r H r' H') : RepL K r' H' v d := h.ex e.toEx
theorem RepK.ext {r r' : Rf} {H H' : Hp} {v : List (Key × V)} {d : List (Key × D)} (h : RepK K r H v d) (e : Ext r H r' H') : RepK K r' H' v d := h.ex e.toEx
theorem RepL.len {r : Rf} {H : Hp} : ∀ {v : List V} {d : List D}, RepL K r H v d → v.length = d.length
  | _, _, .nil => rfl
  | _, _, .cons _ b => by rw [List.length_cons, List.length_cons, RepL.len b]
theorem RepL.get {r : Rf} {H : Hp} : ∀ {vs : List V} {ds : List D}, RepL K r H vs ds → ∀ {i : Nat} {d : D}, ds[i]? = some d → ∃ v, vs[i]? = some v ∧ Rep K r H v d
  | _, _, .nil, i, d, h => by simp at h
  | _, _, .cons a b, 0, d, h => by
    have e := Option.some.inj h
    subst e
    exact ⟨_, rfl, a⟩
  | _, _, .cons a b, i + 1, d, h => RepL.get b (i := i) h
theorem RepL.getV {r : Rf} {H : Hp} : ∀ {vs : List V} {ds : List D}, RepL K r H vs ds → ∀ {i : Nat} {v : V}, vs[i]? = some v → ∃ d, ds[i]? = some d ∧ Rep K r H v d
  | _, _, .nil, i, d, h => by simp at h
  | _, _, .cons a b, 0, d, h => by
    have e := Option.some.inj h
    subst e
    exact ⟨_, rfl, a⟩
  | _, _, .cons a b, i + 1, d, h => RepL.getV b (i := i) h
theorem RepL.append {r : Rf} {H : Hp} : ∀ {vs us : List V} {ds es : List D}, RepL K r H vs ds → RepL K r H us es → RepL K r H (vs ++ us) (ds ++ es)
  | _, _, _, _, .nil, q => q
  | _, _, _, _, .cons a b, q => .cons a (RepL.append b q)
theorem RepL.take {r : Rf} {H : Hp} : ∀ (n : Nat) {vs : List V} {ds : List D}, RepL K r H vs ds → RepL K r H (vs.take n) (ds.take n)
  | 0, _, _, _ => .nil
  | _ + 1, _, _, .nil => .nil
  | n + 1, _, _, .cons a b => .cons a (RepL.take n b)
theorem RepL.drop {r : Rf} {H : Hp} : ∀ (n : Nat) {vs : List V} {ds : List D}, RepL K r H vs ds → RepL K r H (vs.drop n) (ds.drop n)
  | 0, _, _, q => q
  | _ + 1, _, _, .nil => .nil
  | n + 1, _, _, .cons a b => RepL.drop n b
theorem RepL.ints {r : Rf} {H : Hp} : ∀ {vs : List V} {ns : List Int}, RepL K r H vs (ns.map D.int) → vs = ns.map V.int
  | _, [], .nil => rfl
  | _, n :: r, .cons (.int _) b => by rw [List.map_cons, RepL.ints b]
theorem RepL.ofInts {r : Rf} {H : Hp} : ∀ (ns : List Int), RepL K r H (ns.map V.int) (ns.map D.int)
  | [] => .nil
  | n :: r => .cons (.int n) (RepL.ofInts r)

/-- the store is held -/
def ObR (K : PySem.W.Frag) (r : Rf) (H : Hp) (a : Addr) : Ob → Prop
  | .dead => True
  | .dct kvs => r.av a ∧ ∃ xs, H a = some (.dK xs) ∧ RepK K r H xs kvs
  | .lst ds => r.av a ∧ ∃ xs, H a = some (.lst xs) ∧ RepL K r H xs ds
  | .ldc kvs => r.av a ∧ r.lk a ∧ ∃ o xs, H a = some (.frz o (.dK xs)) ∧ RepK K r H xs kvs
  | .ins c fs => r.av a ∧ ∃ (C dx : Addr) (vs : List (Str × V)), PySem.W.nsIn K mainGlobals c = some (some (.ref C)) ∧ H a = some (.ins C dx vs) ∧ vs.map (·.1) = fs.map (·.1) ∧ RepL K r H (vs.map (·.2)) (fs.map (·.2))
theorem ObR.ex {r r' : Rf} {H H' : Hp} (e : Ex r H r' H') {a : Addr} (k : r.av a → H' a = H a ∧ r'.av a) (kl : r.lk a → r'.lk a := by exact fun z => z) : ∀ {o : Ob}, ObR K r H a o → ObR K r' H' a o
  | .dead, _ => trivial
  | .dct _, ⟨v, xs, h, l⟩ => ⟨(k v).2, xs, (k v).1.trans h, l.ex e⟩
  | .lst _, ⟨v, xs, h, l⟩ => ⟨(k v).2, xs, (k v).1.trans h, l.ex e⟩
  | .ldc _, ⟨v, w, o, xs, h, l⟩ => ⟨(k v).2, kl w, o, xs, (k v).1.trans h, l.ex e⟩
  | .ins _ _, ⟨v, C, dx, vs, g, h, n, l⟩ => ⟨(k v).2, C, dx, vs, g, (k v).1.trans h, n, l.ex e⟩
structure Sim (K : PySem.W.Frag) (r : Rf) (H : Hp) (st : Store) : Prop where
  len : r.adr.length = st.length
  nd : r.adr.Nodup
  ob : ∀ (n : Nat) (a : Addr) (o : Ob), r.adr[n]? = some a → st[n]? = some o → ObR K r H a o
  there : ∀ p, r.av p → ∃ o, H p = some o
  old : ∀ a ∈ r.adr, ∃ o, H a = some o
  lkd : ∀ p, r.lk p → ∃ o u, H p = some (.frz o u)
theorem Sim.same {r : Rf} {H H' : Hp} {st : Store} (s : Sim K r H st) (e : Same H H') : Sim K r H' st :=
  ⟨s.len, s.nd, fun n a o h1 h2 => (s.ob n a o h1 h2).ex (Ex.same r e) (fun v => by
    obtain ⟨h, z⟩ := s.there a v
    exact ⟨by rw [z]; exact e a h z, v⟩), fun p v => let ⟨o, h⟩ := s.there p v; ⟨o, e p o h⟩, fun p v => let ⟨o, h⟩ := s.old p v; ⟨o, e p o h⟩, fun p v => let ⟨o, u, h⟩ := s.lkd p v; ⟨o, u, e p _ h⟩⟩

theorem Sim.ext {r : Rf} {H H' : Hp} {st : Store} (s : Sim K r H st) (e : Same H H') : Ext r H r H' := Ext.same r e s.there s.lkd
/-- the locals -/
structure EnvR (K : PySem.W.Frag) (r : Rf) (H : Hp) (env : Lo) (σ : L2.St) : Prop where
  len : env.length = σ.length
  at_ : ∀ (i : Nat) (d : D), env[i]? = some (some d) → ∃ v, σ[i]? = some (some v) ∧ Rep K r H v d
theorem EnvR.ext {r r' : Rf} {H H' : Hp} {env : Lo} {σ : L2.St} (h : EnvR K r H env σ) (e : Ext r H r' H') : EnvR K r' H' env σ :=
  ⟨h.len, fun i d q => let ⟨v, a, b⟩ := h.at_ i d q; ⟨v, a, b.ext e⟩⟩
theorem EnvR.set {r : Rf} {H : Hp} {env : Lo} {σ : L2.St} (h : EnvR K r H env σ) {v : V} {d : D} (q : Rep K r H v d) (i : Nat) : EnvR K r H (env.set i (some d)) (σ.set i (some v)) := by
  refine ⟨by rw [List.length_set, List.length_set]; exact h.len, fun j c e => ?_⟩
  by_cases z : i = j
  · subst z
    by_cases hi : i < env.length
    · rw [List.getElem?_set_self hi] at e
      cases e
      exact ⟨v, by rw [List.getElem?_set_self (by rw [← h.len]; exact hi)], q⟩
    · rw [List.getElem?_eq_none (by rw [List.length_set]; omega)] at e
      cases e
  · rw [List.getElem?_set_ne z] at e
    obtain ⟨u, a, b⟩ := h.at_ j c e
    exact ⟨u, by rw [List.getElem?_set_ne z]; exact a, b⟩
/-- a slot forgotten on both sides -/
theorem EnvR.wipe {r : Rf} {H : Hp} {env : Lo} {σ : L2.St} (h : EnvR K r H env σ) (i : Nat) : EnvR K r H (env.set i none) (σ.set i none) := by
  refine ⟨by rw [List.length_set, List.length_set]; exact h.len, fun j c e => ?_⟩
  by_cases z : i = j
  · subst z
    by_cases hi : i < env.length
    · rw [List.getElem?_set_self hi] at e
      cases e
    · rw [List.getElem?_eq_none (by rw [List.length_set]; omega)] at e
      cases e
  · rw [List.getElem?_set_ne z] at e
    obtain ⟨u, a, b⟩ := h.at_ j c e
    exact ⟨u, by rw [List.getElem?_set_ne z]; exact a, b⟩

/-! ### judgements -/
abbrev F := Lo → Store → Option (D × Store)
abbrev FT := Lo → Store → Option (Bool × Store)
abbrev FA := Lo → Store → Option (List D × Store)
def tD (K : PySem.W.Frag) (f : F) : TE := fun σ H Q => ∃ r env st d st', EnvR K r H env σ ∧ Sim K r H st ∧ f env st = some (d, st') ∧ ∀ v r' H', Ext r H r' H' → Sim K r' H' st' → Rep K r' H' v d → Q v H'
def tT (K : PySem.W.Frag) (f : FT) : TT := fun σ H Q => ∃ r env st b st', EnvR K r H env σ ∧ Sim K r H st ∧ f env st = some (b, st') ∧ ∀ r' H', Ext r H r' H' → Sim K r' H' st' → Q b H'
def tA (K : PySem.W.Frag) (f : FA) : TA := fun σ H Q => ∃ r env st ds st', EnvR K r H env σ ∧ Sim K r H st ∧ f env st = some (ds, st') ∧ ∀ vs r' H', Ext r H r' H' → Sim K r' H' st' → RepL K r' H' vs ds → Q vs H'
abbrev DE (X : Cx) (e : Expr) (f : F) : Prop := PE X e (tD X.K f)
abbrev DT (X : Cx) (e : Expr) (f : FT) : Prop := PT X e (tT X.K f)
abbrev DA (X : Cx) (es : List Expr) (f : FA) : Prop := PA X es (tA X.K f)

section
variable {X : Cx}
theorem weakE {e : Expr} {t t' : TE} (h : PE X e t) (i : ∀ σ H Q, t' σ H Q → t σ H Q) : PE X e t' := ⟨fun pins s σ H Q I q => h.run pins s σ H Q I (i σ H Q q)⟩
theorem weakT {e : Expr} {t t' : TT} (h : PT X e t) (i : ∀ σ H Q, t' σ H Q → t σ H Q) : PT X e t' := ⟨fun pins s σ H Q I q => h.run pins s σ H Q I (i σ H Q q)⟩
theorem weakA {e : List Expr} {t t' : TA} (h : PA X e t) (i : ∀ σ H Q, t' σ H Q → t σ H Q) : PA X e t' := ⟨fun pos pins s σ H Q I q => h.run pos pins s σ H Q I (i σ H Q q)⟩
theorem weakS {e : Stmt} {t t' : TS} (h : PS X e t) (i : ∀ D σ H, t' D σ H → t D σ H) : PS X e t' := ⟨fun pins s σ H D I q => h.run pins s σ H D I (i D σ H q)⟩
theorem weakSs {e : List Stmt} {t t' : TS} (h : PSs X e t) (i : ∀ D σ H, t' D σ H → t D σ H) : PSs X e t' := ⟨fun pins s σ H D I q => h.run pins s σ H D I (i D σ H q)⟩

/-- an object is locked for good -/
theorem pe_frz {e : Expr} {t : TE} (h : PE X e t) : PE X e (fun σ H Q => t σ H fun v H1 => ∃ d u, v = .ref d ∧ H1 d = some u ∧ Mut (some u) ∧ ∀ o, Q v (upd H1 d (.frz o u))) := by
  refine ⟨fun pins s σ H Q I hw => thn (h.run pins s σ H _ I hw) fun v s1 ⟨x, H1, I1, r, d, u, e1, hd, mu, q⟩ => ?_⟩
  obtain ⟨od, I2⟩ := I1.lock hd mu
  exact ⟨x, _, I2, r, q od⟩
/-- what a context must bear -/
structure GX (X : Cx) (k : Nat) : Prop where
  calm : X.calm = true
  nd : X.N.Nodup
  room : Room k X.A
  gd : X.A.guards = some []

/-! ### names, constants -/
def fVar (i : Nat) : F := fun env st => match env[i]? with | some (some d) => some (d, st) | _ => none
def fC (d : D) : F := fun _ st => some (d, st)
theorem de_var (i : Nat) {x : Str} {pos : Pos} (hN : X.N[i]? = some x := by rfl) (hv : Vis X.env.scope x := by first | exact Or.inl rfl | exact Or.inr (Or.inl rfl) | exact Or.inr (Or.inr rfl)) (hd : (x == ("__debug__" : Str)) = false := by decide)
    (hcd : (x == ("__classdict__" : Str)) = false := by decide) : DE X (.Name x pos) (fVar i) := weakE (pe_var hN hv hd hcd) fun σ H Q h => by
  obtain ⟨r, env, st, d, st', he, hs, hf, q⟩ := h
  unfold fVar at hf
  split at hf
  · rename_i d' hd'
    cases hf
    obtain ⟨v, a, b⟩ := he.at_ i _ hd'
    exact ⟨v, a, q v r H (.refl r H) hs b⟩
  · cases hf
theorem de_c {e : Expr} {v : V} {d : D} (h : PE X e (tC v)) (q : ∀ r H, Rep X.K r H v d) : DE X e (fC d) := weakE h fun σ H Q hh => by
  obtain ⟨r, env, st, d', st', he, hs, hf, k⟩ := hh
  cases hf
  exact k v r H (.refl r H) hs (q r H)
theorem de_int {i j pos} : DE X (.Constant (.int i) j pos) (fC (.int i)) := de_c pe_int fun _ _ => .int i
theorem de_bl {i j pos} : DE X (.Constant (.bool i) j pos) (fC (.bl i)) := de_c pe_bl fun _ _ => .bl i
theorem de_non {j pos} : DE X (.Constant .none j pos) (fC .non) := de_c pe_non fun _ _ => .non
theorem de_str {i j pos} : DE X (.Constant (.str i) j pos) (fC (.str i)) := de_c pe_str fun _ _ => .str i
theorem de_gint {x : Str} {i : Int} {t : Tok} {pos : Pos} (hg : Gl X x) (hm : X.mg x = some (.int i t)) (hd : (x == ("__debug__" : Str)) = false := by decide) : DE X (.Name x pos) (fC (.int i)) :=
  de_c (pe_glob (v := .int i) hg hm ⟨t, rfl⟩ hd) fun _ _ => .int i
theorem de_gstr {x : Str} {i : Str} {t : Tok} {pos : Pos} (hg : Gl X x) (hm : X.mg x = some (.str i t)) (hd : (x == ("__debug__" : Str)) = false := by decide) : DE X (.Name x pos) (fC (.str i)) :=
  de_c (pe_glob (v := .str i) hg hm ⟨t, rfl⟩ hd) fun _ _ => .str i

/-! ### two values -/
def OpOk (X : Cx) (f : Value → Value → Sem Value) (g : D → D → Option D) : Prop :=
  ∃ r : R2, OpR X f r ∧ ∀ (rho : Rf) (H : Hp) (x y : V) (a b d : D) (st : Store) (Q : VK), Sim X.K rho H st → Rep X.K rho H x a → Rep X.K rho H y b → g a b = some d → (∀ v H', Same H H' → Rep X.K rho H' v d → Q v H') → r x y H Q
def fOp (g : D → D → Option D) (fa fb : F) : F := fun env st => (fa env st).bind fun p => (fb env p.2).bind fun q => (g p.1 q.1).map fun d => (d, q.2)
theorem fOp_some {g : D → D → Option D} {fa fb : F} {env : Lo} {st : Store} {z : D × Store} (h : fOp g fa fb env st = some z) : ∃ x s1 y s2 d, fa env st = some (x, s1) ∧ fb env s1 = some (y, s2) ∧ g x y = some d ∧ z = (d, s2) := by
  unfold fOp at h
  obtain ⟨⟨x, s1⟩, h1, h⟩ := Option.bind_eq_some_iff.mp h
  obtain ⟨⟨y, s2⟩, h2, h⟩ := Option.bind_eq_some_iff.mp h
  obtain ⟨d, h3, h⟩ := Option.map_eq_some_iff.mp h
  exact ⟨x, s1, y, s2, d, h1, h2, h3, h.symm⟩
/-- the reading of two data expressions in a row -/
theorem two {fa fb : F} {σ : L2.St} {H : Hp} {Q : V → V → Hp → Prop} {r : Rf} {env : Lo} {st s1 s2 : Store} {x y : D} (he : EnvR K r H env σ) (hs : Sim K r H st) (h1 : fa env st = some (x, s1)) (h2 : fb env s1 = some (y, s2))
    (k : ∀ u v r' H', Ext r H r' H' → Sim K r' H' s2 → Rep K r' H' u x → Rep K r' H' v y → Q u v H') : tD K fa σ H fun u H1 => tD K fb σ H1 fun v H2 => Q u v H2 :=
  ⟨r, env, st, x, s1, he, hs, h1, fun u r1 H1 e1 q1 p1 => ⟨r1, env, s1, y, s2, he.ext e1, q1, h2, fun v r2 H2 e2 q2 p2 => k u v r2 H2 (e1.trans e2) q2 (p1.ext e2) p2⟩⟩
theorem opReads {f : Value → Value → Sem Value} {g : D → D → Option D} {r : R2} (k : ∀ (rho : Rf) (H : Hp) (x y : V) (a b d : D) (st : Store) (Q : VK), Sim K rho H st → Rep K rho H x a → Rep K rho H y b → g a b = some d → (∀ v H', Same H H' → Rep K rho H' v d → Q v H') → r x y H Q)
    {fa fb : F} (σ : L2.St) (H : Hp) (Q : VK) (h : tD K (fOp g fa fb) σ H Q) : tOp r (tD K fa) (tD K fb) σ H Q := by
  obtain ⟨rho, env, st, d, st', he, hs, hf, q⟩ := h
  obtain ⟨x, s1, y, s2, d', h1, h2, h3, e⟩ := fOp_some hf
  cases e
  exact two he hs h1 h2 fun u v r' H' e1 q1 pu pv => k r' H' u v x y d _ Q q1 pu pv h3 fun w H2 sm pw => q w r' H2 (e1.trans (q1.ext sm)) (q1.same sm) pw
theorem de_op {op : Operator} {g : D → D → Option D} {a b : Expr} {fa fb : F} {pos : Pos} (ho : OpOk X (binaryOp op) g) (ha : DE X a fa) (hb : DE X b fb) : DE X (.BinOp a op b pos) (fOp g fa fb) := by
  obtain ⟨r, hr, k⟩ := ho
  exact weakE (pe_op hr ha hb) fun σ H Q h => opReads (f := binaryOp op) k σ H Q h
theorem de_cmp {op : CmpOp} {g : D → D → Option D} {a b : Expr} {fa fb : F} {pos : Pos} (ho : OpOk X (compareOp op) g) (ha : DE X a fa) (hb : DE X b fb) (hm : behindInMarks op b = false := by with_unfolding_all rfl) : DE X (.Compare a [op] [b] pos) (fOp g fa fb) := by
  obtain ⟨r, hr, k⟩ := ho
  exact weakE (pe_cmpR hr ha hb hm) fun σ H Q h => opReads (f := compareOp op) k σ H Q h
end
end DL
namespace DL
abbrev WXd := PySem.Value → Option PySem.Addr → L2.St → L2.Hp → Prop
open PySem PySem.Spec PyProof.Rows L2
variable {K : PySem.W.Frag}

/-! ### arguments, displays -/
def aNil : FA := fun _ st => some ([], st)
def aCons (f : F) (g : FA) : FA := fun env st => (f env st).bind fun p => (g env p.2).map fun q => (p.1 :: q.1, q.2)
theorem aCons_some {f : F} {g : FA} {env : Lo} {st : Store} {z : List D × Store} (h : aCons f g env st = some z) : ∃ x s1 ys s2, f env st = some (x, s1) ∧ g env s1 = some (ys, s2) ∧ z = (x :: ys, s2) := by
  unfold aCons at h
  obtain ⟨⟨x, s1⟩, h1, h⟩ := Option.bind_eq_some_iff.mp h
  obtain ⟨⟨y, s2⟩, h2, h⟩ := Option.map_eq_some_iff.mp h
  exact ⟨x, s1, y, s2, h1, h2, h.symm⟩
section
variable {X : Cx} {W : WXd}
theorem da_nil : DA X [] aNil := weakA pa_nil fun σ H Q h => by
  obtain ⟨r, env, st, ds, st', he, hs, hf, q⟩ := h
  cases hf
  exact q [] r H (.refl r H) hs .nil
theorem da_cons {e : Expr} {es : List Expr} {f : F} {g : FA} (h : DE X e f) (t : DA X es g) (hs : starEach (e :: es) X.env = (false, eval e X.env) :: starEach es X.env := by rfl) : DA X (e :: es) (aCons f g) :=
  weakA (pa_cons h t hs) fun σ H Q hh => by
  obtain ⟨r, env, st, ds, st', he, hs, hf, q⟩ := hh
  obtain ⟨x, s1, ys, s2, h1, h2, e⟩ := aCons_some hf
  cases e
  exact ⟨r, env, st, x, s1, he, hs, h1, fun u r1 H1 e1 q1 p1 => ⟨r1, env, s1, ys, _, he.ext e1, q1, h2, fun us r2 H2 e2 q2 p2 => q (u :: us) r2 H2 (e1.trans e2) q2 (.cons (p1.ext e2) p2)⟩⟩

/-- a value made of the values of several expressions -/
def fMk (g : List D → Store → Option D) (fa : FA) : F := fun env st => (fa env st).bind fun p => (g p.1 p.2).map fun d => (d, p.2)
theorem fMk_some {g : List D → Store → Option D} {fa : FA} {env : Lo} {st : Store} {z : D × Store} (h : fMk g fa env st = some z) : ∃ xs s1 d, fa env st = some (xs, s1) ∧ g xs s1 = some d ∧ z = (d, s1) := by
  unfold fMk at h
  obtain ⟨⟨x, s1⟩, h1, h⟩ := Option.bind_eq_some_iff.mp h
  obtain ⟨d, h2, h⟩ := Option.map_eq_some_iff.mp h
  exact ⟨x, s1, d, h1, h2, h.symm⟩
/-- values in, a value out, new objects at most -/
def ArgOk (K : PySem.W.Frag) (r : List V → Hp → VK → Prop) (g : List D → Store → Option D) : Prop :=
  ∀ (rho : Rf) (H : Hp) (xs : List V) (ds : List D) (d : D) (st : Store) (Q : VK), RepL K rho H xs ds → Sim K rho H st → g ds st = some d → (∀ v H', Same H H' → Rep K rho H' v d → Q v H') → r xs H Q
theorem argReads {r : List V → Hp → VK → Prop} {g : List D → Store → Option D} (k : ArgOk K r g) {fa : FA} (σ : L2.St) (H : Hp) (Q : VK) (h : tD K (fMk g fa) σ H Q) : tA K fa σ H fun vs H1 => r vs H1 Q := by
  obtain ⟨rho, env, st, d, st', he, hs, hf, q⟩ := h
  obtain ⟨xs, s1, d', h1, h2, e⟩ := fMk_some hf
  cases e
  exact ⟨rho, env, st, xs, _, he, hs, h1, fun us r1 H1 e1 q1 p1 => k r1 H1 us xs d _ Q p1 q1 h2 fun v H2 sm pv => q v r1 H2 (e1.trans (q1.ext sm)) (q1.same sm) pv⟩
/-- a new object that no value is -/
theorem Sim.free {r : Rf} {H : Hp} {st : Store} (s : Sim K r H st) {p : Addr} (h : H p = none) : ¬ r.av p := fun z => by
  obtain ⟨o, e⟩ := s.there p z
  rw [h] at e; cases e
def mkTup (ds : List D) (_ : Store) : Option D := if ds.length ≤ sizeLine then some (.tup ds) else none
def mkLst (ds : List D) (_ : Store) : Option D := if ds.length ≤ sizeLine then some (.lst ds) else none
theorem de_tup {es : List Expr} {fa : FA} {x1 : Nat} {pos : Pos} (h : DA X es fa) : DE X (.Tuple es x1 pos) (fMk mkTup fa) :=
  weakE (pe_tupF h) fun σ H Q hh => argReads (r := fun xs H1 Q => xs.length ≤ sizeLine ∧ Fz Q H1 xs) (fun rho H xs ds d st Q hr hs hg k => by
    unfold mkTup at hg
    split at hg
    · rename_i hl
      cases hg
      refine ⟨by rw [hr.len]; exact hl, fun p o hp hz => k _ _ (same_alloc hp) (.tup upd_same hz (hs.free hp) (hr.ex (Ex.same rho (same_alloc hp))))⟩
    · cases hg) σ H Q hh
theorem de_lst {es : List Expr} {fa : FA} {pos : Pos} (h : DA X es fa) : DE X (.List es pos) (fMk mkLst fa) :=
  weakE (pe_lst h) fun σ H Q hh => argReads (r := fun xs H1 Q => xs.length ≤ sizeLine ∧ ∀ p, H1 p = none → Q (.ref p) (upd H1 p (.lst xs))) (fun rho H xs ds d st Q hr hs hg k => by
    unfold mkLst at hg
    split at hg
    · rename_i hl
      cases hg
      refine ⟨by rw [hr.len]; exact hl, fun p hp => k _ _ (same_alloc hp) (.lst upd_same (hs.free hp) (hr.ex (Ex.same rho (same_alloc hp))))⟩
    · cases hg) σ H Q hh
/-- a call of a built-in -/
def CallOk (X : Cx) (f : Value) (g : List D → Store → Option D) : Prop := ∃ r, CallR X f r ∧ ArgOk X.K r g
theorem de_callB {id : String} {x : Str} {g : List D → Store → Option D} {fa : FA} {e : Expr} {es : List Expr} {p pos : Pos} (ho : CallOk X (.builtin id) g) (hg : Gl X x) (hm : X.mg x = none) (hv : bootBuiltins x = some (.builtin id)) (ha : DA X (e :: es) fa) (hn : x ≠ "__name__" := by decide) (hdb : (x == ("__debug__" : Str)) = false := by decide)
    (he : starEach (e :: es) X.env = (false, eval e X.env) :: starEach es X.env := by rfl) (hpl : (backTo pos (starEach es X.env)).any (·.1) = false := by rfl) : DE X (.Call (.Name x p) (e :: es) [] pos) (fMk g fa) := by
  obtain ⟨r, hr, k⟩ := ho
  exact weakE (pe_callB hr hg hm hv ha hn hdb he hpl) fun σ H Q h => argReads k σ H Q h
theorem de_callTy {T : String} {x : Str} {g : List D → Store → Option D} {fa : FA} {e : Expr} {es : List Expr} {p pos : Pos} (ho : CallOk X (.type T) g) (hg : Gl X x) (hm : X.mg x = none) (hv : bootBuiltins x = some (.type T)) (ha : DA X (e :: es) fa) (hn : x ≠ "__name__" := by decide) (hdb : (x == ("__debug__" : Str)) = false := by decide)
    (he : starEach (e :: es) X.env = (false, eval e X.env) :: starEach es X.env := by rfl) (hpl : (backTo pos (starEach es X.env)).any (·.1) = false := by rfl) : DE X (.Call (.Name x p) (e :: es) [] pos) (fMk g fa) := by
  obtain ⟨r, hr, k⟩ := ho
  exact weakE (pe_callTy hr hg hm hv ha hn hdb he hpl) fun σ H Q h => argReads k σ H Q h

/-! ### tests, and, or, not -/
def asB : D → Option Bool | .bl b => some b | _ => none
def fTest (f : F) : FT := fun env st => (f env st).bind fun p => (asB p.1).map fun b => (b, p.2)
theorem fTest_some {f : F} {env : Lo} {st : Store} {z : Bool × Store} (h : fTest f env st = some z) : f env st = some (.bl z.1, z.2) := by
  unfold fTest at h
  obtain ⟨⟨x, s1⟩, h1, h⟩ := Option.bind_eq_some_iff.mp h
  obtain ⟨b, h2, h⟩ := Option.map_eq_some_iff.mp h
  cases x with
  | bl c => cases h2; subst h; exact h1
  | _ => cases h2
theorem testReads {f : F} (σ : L2.St) (H : Hp) (Q : Bool → Hp → Prop) (h : tT K (fTest f) σ H Q) : tD K f σ H fun x H1 => ∃ c, x = .bl c ∧ Q c H1 := by
  obtain ⟨r, env, st, b, st', he, hs, hf, q⟩ := h
  exact ⟨r, env, st, _, _, he, hs, fTest_some hf, fun v r1 H1 e1 q1 p1 => by
    cases p1
    exact ⟨b, rfl, q r1 H1 e1 q1⟩⟩
theorem dt_val {e : Expr} {f : F} (h : DE X e f) (he : ∀ whole, isTrue e X.env whole = (do let v ← whole; standAt e.pos; holding [v] (truthy v)) := by intro _; rfl) : DT X e (fTest f) := weakT (pt_val h he) fun σ H Q hh => testReads σ H Q hh
theorem dt_cmp {op : CmpOp} {g : D → D → Option D} {a b : Expr} {fa fb : F} {pos : Pos} (ho : OpOk X (compareOp op) g) (ha : DE X a fa) (hb : DE X b fb) (hm : behindInMarks op b = false := by with_unfolding_all rfl) : DT X (.Compare a [op] [b] pos) (fTest (fOp g fa fb)) := by
  obtain ⟨r, hr, k⟩ := ho
  exact weakT (pt_cmpR hr ha hb hm) fun σ H Q h => opReads (f := compareOp op) k σ H (fun x H1 => ∃ c, x = .bl c ∧ Q c H1) (testReads σ H Q h)
def fNotT (f : FT) : FT := fun env st => (f env st).map fun p => (!p.1, p.2)
theorem dt_not {e : Expr} {f : FT} {pos : Pos} (h : DT X e f) : DT X (.UnaryOp .Not e pos) (fNotT f) := weakT (pt_not h) fun σ H Q hh => by
  obtain ⟨r, env, st, b, st', he, hs, hf, q⟩ := hh
  obtain ⟨⟨c, s1⟩, h1, h2⟩ := Option.map_eq_some_iff.mp hf
  cases h2
  exact ⟨r, env, st, c, _, he, hs, h1, q⟩
def fAndT (f g : FT) : FT := fun env st => (f env st).bind fun p => if p.1 = true then g env p.2 else some (false, p.2)
def fOrT (f g : FT) : FT := fun env st => (f env st).bind fun p => if p.1 = true then some (true, p.2) else g env p.2
/-- a test whatever the whole is -/
abbrev DW (X : Cx) (e : Expr) (f : FT) : Prop := PW X e (tT X.K f)
theorem weakW {e : Expr} {t t' : TT} (h : PW X e t) (i : ∀ σ H Q, t' σ H Q → t σ H Q) : PW X e t' := ⟨fun wh pins s σ H Q I q => h.run wh pins s σ H Q I (i σ H Q q)⟩
theorem dw_and1 {a : Expr} {f : FT} {pos : Pos} (h : DT X a f) : DW X (.BoolOp .And [a] pos) f := pw_and1 h
theorem dw_or1 {a : Expr} {f : FT} {pos : Pos} (h : DT X a f) : DW X (.BoolOp .Or [a] pos) f := pw_or1 h
theorem dw_and {a b : Expr} {rest : List Expr} {f g : FT} {pos : Pos} (ha : DT X a f) (hb : DW X (.BoolOp .And (b :: rest) pos) g) : DW X (.BoolOp .And (a :: b :: rest) pos) (fAndT f g) := weakW (pw_and ha hb) fun σ H Q hh => by
  obtain ⟨r, env, st, b, st', he, hs, hf, q⟩ := hh
  obtain ⟨⟨c, s1⟩, h1, h2⟩ := Option.bind_eq_some_iff.mp hf
  refine ⟨r, env, st, c, s1, he, hs, h1, fun r1 H1 e1 q1 => ?_⟩
  cases c with
  | true => exact ⟨r1, env, s1, b, st', he.ext e1, q1, h2, fun r2 H2 e2 q2 => q r2 H2 (e1.trans e2) q2⟩
  | false =>
    cases h2
    exact q r1 H1 e1 q1
theorem dw_or {a b : Expr} {rest : List Expr} {f g : FT} {pos : Pos} (ha : DT X a f) (hb : DW X (.BoolOp .Or (b :: rest) pos) g) : DW X (.BoolOp .Or (a :: b :: rest) pos) (fOrT f g) := weakW (pw_or ha hb) fun σ H Q hh => by
  obtain ⟨r, env, st, b, st', he, hs, hf, q⟩ := hh
  obtain ⟨⟨c, s1⟩, h1, h2⟩ := Option.bind_eq_some_iff.mp hf
  refine ⟨r, env, st, c, s1, he, hs, h1, fun r1 H1 e1 q1 => ?_⟩
  cases c with
  | false => exact ⟨r1, env, s1, b, st', he.ext e1, q1, h2, fun r2 H2 e2 q2 => q r2 H2 (e1.trans e2) q2⟩
  | true =>
    cases h2
    exact q r1 H1 e1 q1
theorem dt_w {e : Expr} {f : FT} (h : DW X e f) : DT X e f := h.pt
/-- as values: bools alone -/
def fAnd (f g : F) : F := fun env st => (f env st).bind fun p => (asB p.1).bind fun b => if b = true then g env p.2 else some (.bl false, p.2)
def fOr (f g : F) : F := fun env st => (f env st).bind fun p => (asB p.1).bind fun b => if b = true then some (.bl true, p.2) else g env p.2
def fNot (f : F) : F := fun env st => (f env st).bind fun p => (asB p.1).map fun b => (.bl (!b), p.2)
theorem asB_some {d : D} {b : Bool} (h : asB d = some b) : d = .bl b := by
  cases d with
  | bl c => cases h; rfl
  | _ => cases h
theorem de_one {a : Expr} {op} {f : F} {pos : Pos} (h : DE X a f) : DE X (.BoolOp op [a] pos) f := pe_one h
theorem de_and {a b : Expr} {rest : List Expr} {f g : F} {pos : Pos} (ha : DE X a f) (hb : DE X (.BoolOp .And (b :: rest) pos) g) : DE X (.BoolOp .And (a :: b :: rest) pos) (fAnd f g) := weakE (pe_and ha hb) fun σ H Q hh => by
  obtain ⟨r, env, st, d, st', he, hs, hf, q⟩ := hh
  obtain ⟨⟨x, s1⟩, h1, h2⟩ := Option.bind_eq_some_iff.mp hf
  obtain ⟨c, h3, h4⟩ := Option.bind_eq_some_iff.mp h2
  have e := asB_some h3
  subst e
  refine ⟨r, env, st, .bl c, s1, he, hs, h1, fun u r1 H1 e1 q1 p1 => ?_⟩
  cases p1
  refine ⟨c, rfl, ?_⟩
  cases c with
  | true => exact ⟨r1, env, s1, d, st', he.ext e1, q1, h4, fun v r2 H2 e2 q2 p2 => q v r2 H2 (e1.trans e2) q2 p2⟩
  | false =>
    cases h4
    exact q _ r1 H1 e1 q1 (.bl false)
theorem de_or {a b : Expr} {rest : List Expr} {f g : F} {pos : Pos} (ha : DE X a f) (hb : DE X (.BoolOp .Or (b :: rest) pos) g) : DE X (.BoolOp .Or (a :: b :: rest) pos) (fOr f g) := weakE (pe_or ha hb) fun σ H Q hh => by
  obtain ⟨r, env, st, d, st', he, hs, hf, q⟩ := hh
  obtain ⟨⟨x, s1⟩, h1, h2⟩ := Option.bind_eq_some_iff.mp hf
  obtain ⟨c, h3, h4⟩ := Option.bind_eq_some_iff.mp h2
  have e := asB_some h3
  subst e
  refine ⟨r, env, st, .bl c, s1, he, hs, h1, fun u r1 H1 e1 q1 p1 => ?_⟩
  cases p1
  refine ⟨c, rfl, ?_⟩
  cases c with
  | false => exact ⟨r1, env, s1, d, st', he.ext e1, q1, h4, fun v r2 H2 e2 q2 p2 => q v r2 H2 (e1.trans e2) q2 p2⟩
  | true =>
    cases h4
    exact q _ r1 H1 e1 q1 (.bl true)
theorem de_not {a : Expr} {f : F} {pos : Pos} (ha : DE X a f) : DE X (.UnaryOp .Not a pos) (fNot f) := weakE (pe_not ha) fun σ H Q hh => by
  obtain ⟨r, env, st, d, st', he, hs, hf, q⟩ := hh
  obtain ⟨⟨x, s1⟩, h1, h2⟩ := Option.bind_eq_some_iff.mp hf
  obtain ⟨c, h3, h4⟩ := Option.map_eq_some_iff.mp h2
  have e := asB_some h3
  subst e
  cases h4
  refine ⟨r, env, st, .bl c, _, he, hs, h1, fun u r1 H1 e1 q1 p1 => ?_⟩
  cases p1
  exact ⟨c, rfl, q _ r1 H1 e1 q1 (.bl (!c))⟩
def fIfE (t : FT) (f g : F) : F := fun env st => (t env st).bind fun p => if p.1 = true then f env p.2 else g env p.2
theorem de_if {c a b : Expr} {t : FT} {f g : F} {pos : Pos} (hc : DT X c t) (ha : DE X a f) (hb : DE X b g) : DE X (.IfExp c a b pos) (fIfE t f g) := weakE (pe_ifExp hc ha hb) fun σ H Q hh => by
  obtain ⟨r, env, st, d, st', he, hs, hf, q⟩ := hh
  obtain ⟨⟨c, s1⟩, h1, h2⟩ := Option.bind_eq_some_iff.mp hf
  refine ⟨r, env, st, c, s1, he, hs, h1, fun r1 H1 e1 q1 => ?_⟩
  cases c with
  | true => exact ⟨r1, env, s1, d, st', he.ext e1, q1, h2, fun v r2 H2 e2 q2 p2 => q v r2 H2 (e1.trans e2) q2 p2⟩
  | false => exact ⟨r1, env, s1, d, st', he.ext e1, q1, h2, fun v r2 H2 e2 q2 p2 => q v r2 H2 (e1.trans e2) q2 p2⟩
/-- a op b op' c -/
def fChain (g g' : D → D → Option D) (fa fb fc : F) : F := fun env st => (fa env st).bind fun p => (fb env p.2).bind fun q => (g p.1 q.1).bind fun z => (asB z).bind fun k =>
  if k = true then (fc env q.2).bind fun w => (g' q.1 w.1).map fun d => (d, w.2) else some (.bl false, q.2)
theorem chainReads {r r' : R2} {g g' : D → D → Option D}
    (k : ∀ (rho : Rf) (H : Hp) (x y : V) (a b d : D) (st : Store) (Q : VK), Sim K rho H st → Rep K rho H x a → Rep K rho H y b → g a b = some d → (∀ v H', Same H H' → Rep K rho H' v d → Q v H') → r x y H Q)
    (k' : ∀ (rho : Rf) (H : Hp) (x y : V) (a b d : D) (st : Store) (Q : VK), Sim K rho H st → Rep K rho H x a → Rep K rho H y b → g' a b = some d → (∀ v H', Same H H' → Rep K rho H' v d → Q v H') → r' x y H Q)
    {fa fb fc : F} (σ : L2.St) (H : Hp) (Q : VK) (h : tD K (fChain g g' fa fb fc) σ H Q) : tChain r r' (tD K fa) (tD K fb) (tD K fc) σ H Q := by
  obtain ⟨rho, env, st, d, st', he, hs, hf, q⟩ := h
  obtain ⟨⟨x, s1⟩, h1, hf1⟩ := Option.bind_eq_some_iff.mp hf
  obtain ⟨⟨y, s2⟩, h2, hf2⟩ := Option.bind_eq_some_iff.mp hf1
  obtain ⟨z, h3, hf3⟩ := Option.bind_eq_some_iff.mp hf2
  obtain ⟨c, h4, hf4⟩ := Option.bind_eq_some_iff.mp hf3
  have e := asB_some h4
  subst e
  refine two he hs h1 h2 fun u v r1 H1 e1 q1 pu pv => k r1 H1 u v x y _ _ _ q1 pu pv h3 fun w H2 sm pw => ?_
  cases pw
  refine ⟨c, rfl, ?_⟩
  cases c with
  | false =>
    cases hf4
    exact q _ r1 H2 (e1.trans (q1.ext sm)) (q1.same sm) (.bl false)
  | true =>
    rw [if_pos rfl] at hf4
    obtain ⟨⟨w, s3⟩, h5, hf5⟩ := Option.bind_eq_some_iff.mp hf4
    obtain ⟨d', h6, hf6⟩ := Option.map_eq_some_iff.mp hf5
    cases hf6
    rw [if_pos rfl]
    have e2 : Ext rho H r1 H2 := e1.trans (q1.ext sm)
    refine ⟨r1, env, s2, w, _, he.ext e2, q1.same sm, h5, fun w' r3 H3 e3 q3 pw' => ?_⟩
    exact k' r3 H3 v w' y w _ _ _ q3 (pv.ext ((q1.ext sm).trans e3)) pw' h6 fun v4 H4 sm4 p4 => q v4 r3 H4 ((e2.trans e3).trans (q3.ext sm4)) (q3.same sm4) p4
theorem de_chain {op op' : CmpOp} {g g' : D → D → Option D} {a b c : Expr} {fa fb fc : F} {pos : Pos} (ho : OpOk X (compareOp op) g) (ho' : OpOk X (compareOp op') g') (ha : DE X a fa) (hb : DE X b fb) (hc : DE X c fc)
    (hm : lastMarks [op, op'] [b, c] = false := by with_unfolding_all rfl) : DE X (.Compare a [op, op'] [b, c] pos) (fChain g g' fa fb fc) := by
  obtain ⟨r, hr, k⟩ := ho
  obtain ⟨r', hr', k'⟩ := ho'
  exact weakE (pe_chain hr hr' ha hb hc hm) fun σ H Q h => chainReads k k' σ H Q h
theorem dt_chain {op op' : CmpOp} {g g' : D → D → Option D} {a b c : Expr} {fa fb fc : F} {pos : Pos} (ho : OpOk X (compareOp op) g) (ho' : OpOk X (compareOp op') g') (ha : DE X a fa) (hb : DE X b fb) (hc : DE X c fc)
    (hm : lastMarks [op, op'] [b, c] = false := by with_unfolding_all rfl) : DT X (.Compare a [op, op'] [b, c] pos) (fTest (fChain g g' fa fb fc)) := by
  obtain ⟨r, hr, k⟩ := ho
  obtain ⟨r', hr', k'⟩ := ho'
  exact weakT (pt_chain hr hr' ha hb hc hm) fun σ H Q h => chainReads k k' σ H (fun x H1 => ∃ c, x = .bl c ∧ Q c H1) (testReads σ H Q h)

/-! ### statements -/
inductive Out | nx | bk | ct | rt (d : D) | er (c f : Str) (d : D)
/-- an error of class c, its one field f -/
def ErrAt (K : PySem.W.Frag) (r : Rf) (H : Hp) (c f : Str) (d : D) (C dd : Addr) : Prop := PySem.W.nsIn K mainGlobals c = some (some (.ref C)) ∧ ∃ v, H dd = some (.xd [(f, v)]) ∧ Rep K r H v d
abbrev FS := Lo → Store → Option (Out × Lo × Store)
def OutOk (K : PySem.W.Frag) (W : WXd) (r : Rf) (H : Hp) (D' : Ends) (env' : Lo) (st' : Store) : Out → Prop
  | .nx => ∀ σ' r' H', Ext r H r' H' → EnvR K r' H' env' σ' → Sim K r' H' st' → D'.nx σ' H'
  | .bk => ∀ σ' r' H', Ext r H r' H' → EnvR K r' H' env' σ' → Sim K r' H' st' → D'.bk σ' H'
  | .ct => ∀ σ' r' H', Ext r H r' H' → EnvR K r' H' env' σ' → Sim K r' H' st' → D'.ct σ' H'
  | .rt d => ∀ v r' H', Ext r H r' H' → Sim K r' H' st' → Rep K r' H' v d → D'.rt v H'
  | .er c f d => ∀ σ' r' H' C dd, Ext r H r' H' → EnvR K r' H' env' σ' → Sim K r' H' st' → ErrAt K r' H' c f d C dd → W (.ref C) (some dd) σ' H'
theorem OutOk.ext {W : WXd} {r r1 : Rf} {H H1 : Hp} {D' : Ends} {env' : Lo} {st' : Store} (e : Ext r H r1 H1) : ∀ {o : Out}, OutOk K W r H D' env' st' o → OutOk K W r1 H1 D' env' st' o
  | .nx, h => fun σ' r' H' e' a b => h σ' r' H' (e.trans e') a b
  | .bk, h => fun σ' r' H' e' a b => h σ' r' H' (e.trans e') a b
  | .ct, h => fun σ' r' H' e' a b => h σ' r' H' (e.trans e') a b
  | .rt _, h => fun v r' H' e' a b => h v r' H' (e.trans e') a b
  | .er _ _ _, h => fun σ' r' H' C dd e' a b c => h σ' r' H' C dd (e.trans e') a b c
def tS (K : PySem.W.Frag) (W : WXd) (g : FS) : TS := fun D' σ H => ∃ r env st o env' st', EnvR K r H env σ ∧ Sim K r H st ∧ g env st = some (o, env', st') ∧ OutOk K W r H D' env' st' o
abbrev DS (X : Cx) (W : WXd) (st : Stmt) (g : FS) : Prop := PS X st (tS X.K W g)
abbrev DSs (X : Cx) (W : WXd) (st : List Stmt) (g : FS) : Prop := PSs X st (tS X.K W g)
def sNil : FS := fun env st => some (.nx, env, st)
def sSeq (g h : FS) : FS := fun env st => (g env st).bind fun p => match p with | (.nx, e1, s1) => h e1 s1 | q => some q
theorem ds_nil : DSs X W [] sNil := weakSs pss_nil fun D' σ H hh => by
  obtain ⟨r, env, st, o, env', st', he, hs, hf, q⟩ := hh
  cases hf
  exact q σ r H (.refl r H) he hs
theorem ds_one {s : Stmt} {g : FS} (h : DS X W s g) : DSs X W [s] g := pss_one h
theorem ds_cons {s : Stmt} {rest : List Stmt} {g h : FS} (hg : DS X W s g) (hr : DSs X W rest h) : DSs X W (s :: rest) (sSeq g h) := weakSs (pss_cons hg hr) fun D' σ H hh => by
  obtain ⟨r, env, st, o, env', st', he, hs, hf, q⟩ := hh
  obtain ⟨⟨o1, e1, s1⟩, h1, h2⟩ := Option.bind_eq_some_iff.mp hf
  refine ⟨r, env, st, o1, e1, s1, he, hs, h1, ?_⟩
  cases o1 with
  | nx => exact fun σ' r' H' ex he' hs' => ⟨r', e1, s1, o, env', st', he', hs', h2, q.ext ex⟩
  | bk => cases h2; exact q
  | ct => cases h2; exact q
  | rt d => cases h2; exact q
  | er c f d => cases h2; exact q
def sRet (f : F) : FS := fun env st => (f env st).map fun p => (.rt p.1, env, p.2)
theorem ds_ret {e : Expr} {f : F} {pos : Pos} (h : DE X e f) : DS X W (.Return (some e) pos) (sRet f) := weakS (ps_ret h) fun D' σ H hh => by
  obtain ⟨r, env, st, o, env', st', he, hs, hf, q⟩ := hh
  obtain ⟨⟨d, s1⟩, h1, h2⟩ := Option.map_eq_some_iff.mp hf
  cases h2
  exact ⟨r, env, st, d, _, he, hs, h1, q⟩
def sRetN : FS := fun env st => some (.rt .non, env, st)
theorem ds_retN {pos : Pos} : DS X W (.Return none pos) sRetN := weakS ps_retN fun D' σ H hh => by
  obtain ⟨r, env, st, o, env', st', he, hs, hf, q⟩ := hh
  cases hf
  exact q _ r H (.refl r H) hs .non
def sBrk : FS := fun env st => some (.bk, env, st)
def sCnt : FS := fun env st => some (.ct, env, st)
theorem ds_pass {pos : Pos} : DS X W (.Pass pos) sNil := weakS ps_pass fun D' σ H hh => by
  obtain ⟨r, env, st, o, env', st', he, hs, hf, q⟩ := hh
  cases hf
  exact q σ r H (.refl r H) he hs
theorem ds_brk {pos : Pos} : DS X W (.Break pos) sBrk := weakS ps_break fun D' σ H hh => by
  obtain ⟨r, env, st, o, env', st', he, hs, hf, q⟩ := hh
  cases hf
  exact q σ r H (.refl r H) he hs
theorem ds_cnt {pos : Pos} : DS X W (.Continue pos) sCnt := weakS ps_continue fun D' σ H hh => by
  obtain ⟨r, env, st, o, env', st', he, hs, hf, q⟩ := hh
  cases hf
  exact q σ r H (.refl r H) he hs
def sDrop (f : F) : FS := fun env st => (f env st).map fun p => (.nx, env, p.2)
theorem ds_expr {e : Expr} {f : F} {pos : Pos} (h : DE X e f) (hs : swapsWith e none pos.line X.env = pure false := by rfl) : DS X W (.Expr e pos) (sDrop f) := weakS (ps_expr h hs) fun D' σ H hh => by
  obtain ⟨r, env, st, o, env', st', he, hs, hf, q⟩ := hh
  obtain ⟨⟨d, s1⟩, h1, h2⟩ := Option.map_eq_some_iff.mp hf
  cases h2
  exact ⟨r, env, st, d, _, he, hs, h1, fun v r1 H1 e1 q1 p1 => q σ r1 H1 e1 (he.ext e1) q1⟩
def sIf (t : FT) (g h : FS) : FS := fun env st => (t env st).bind fun p => if p.1 = true then g env p.2 else h env p.2
theorem ds_if {c : Expr} {a b : List Stmt} {t : FT} {g h : FS} {pos : Pos} (hc : DT X c t) (ha : DSs X W a g) (hb : DSs X W b h) : DS X W (.If c a b pos) (sIf t g h) := weakS (ps_if hc ha hb) fun D' σ H hh => by
  obtain ⟨r, env, st, o, env', st', he, hs, hf, q⟩ := hh
  obtain ⟨⟨k, s1⟩, h1, h2⟩ := Option.bind_eq_some_iff.mp hf
  refine ⟨r, env, st, k, s1, he, hs, h1, fun r1 H1 e1 q1 => ?_⟩
  cases k with
  | true => exact ⟨r1, env, s1, o, env', st', he.ext e1, q1, h2, q.ext e1⟩
  | false => exact ⟨r1, env, s1, o, env', st', he.ext e1, q1, h2, q.ext e1⟩

/-! ### targets -/
abbrev FG := D → Lo → Option Lo
abbrev FGs := List D → Lo → Option Lo
/-- how an item stands for its data -/
abbrev RD := Rf → Hp → V → D → Prop
/-- .. by Rep, or as a tuple of which no more is known -/
def RepI (K : PySem.W.Frag) : RD := fun r H v d => ∃ a xs ds, v = .ref a ∧ d = .tup ds ∧ SqT K H a xs ∧ RepL K r H xs ds
def tGR (K : PySem.W.Frag) (R : RD) (g : FG) : TG := fun v σ H Q => ∃ r env d env', EnvR K r H env σ ∧ R r H v d ∧ g d env = some env' ∧ ∀ σ', EnvR K r H env' σ' → Q σ' H
abbrev tG (K : PySem.W.Frag) (g : FG) : TG := tGR K (Rep K) g
abbrev DGR (X : Cx) (R : RD) (e : Expr) (g : FG) : Prop := PG X e (tGR X.K R g)
def tGs (K : PySem.W.Frag) (g : FGs) : TGs := fun vs σ H Q => ∃ r env ds env', EnvR K r H env σ ∧ RepL K r H vs ds ∧ g ds env = some env' ∧ ∀ σ', EnvR K r H env' σ' → Q σ' H
abbrev DG (X : Cx) (e : Expr) (g : FG) : Prop := PG X e (tG X.K g)
abbrev DGs (X : Cx) (e : List Expr) (g : FGs) : Prop := PGs X e (tGs X.K g)
theorem weakG {e : Expr} {t t' : TG} (h : PG X e t) (i : ∀ v σ H Q, t' v σ H Q → t v σ H Q) : PG X e t' := ⟨fun pins s σ H v u Q I r q => h.run pins s σ H v u Q I r (i v σ H Q q)⟩
theorem weakGs {e : List Expr} {t t' : TGs} (h : PGs X e t) (i : ∀ v σ H Q, t' v σ H Q → t v σ H Q) : PGs X e t' := ⟨fun pins s σ H v u Q I r q => h.run pins s σ H v u Q I r (i v σ H Q q)⟩
def gN (i : Nat) : FG := fun d env => some (env.set i (some d))
theorem dg_name (i : Nat) {x : Str} {pos : Pos} (hN : X.N.Nodup) (hi : X.N[i]? = some x := by rfl) (hx : Loc X.env.scope x := by first | exact Or.inl rfl | exact Or.inr rfl) (hf : X.fn x = true ∨ X.env.scope.names.lookup x = some .local := by first | exact .inl rfl | exact .inr rfl | assumption) : DG X (.Name x pos) (gN i) :=
  weakG (pg_name hN hi hx hf) fun v σ H Q hh => by
  obtain ⟨r, env, d, env', he, hr, hg, q⟩ := hh
  cases hg
  exact q _ (he.set hr i)
def gNil' : FGs := fun ds env => match ds with | [] => some env | _ => none
def gCons' (g : FG) (h : FGs) : FGs := fun ds env => match ds with | d :: r => (g d env).bind fun e1 => h r e1 | [] => none
theorem dgs_nil : DGs X [] gNil' := weakGs pgs_nil fun v σ H Q hh => by
  obtain ⟨r, env, ds, env', he, hr, hg, q⟩ := hh
  cases ds with
  | nil =>
    cases hg
    cases hr
    exact ⟨rfl, q _ he⟩
  | cons a b => cases hg
theorem dgs_cons {e : Expr} {es : List Expr} {g : FG} {h : FGs} (h1 : DG X e g) (h2 : DGs X es h) (hs : (assignEach (e :: es) X.env).map (·.2) = assign e X.env :: (assignEach es X.env).map (·.2) := by rfl) : DGs X (e :: es) (gCons' g h) := weakGs (pgs_cons h1 h2 hs) fun v σ H Q hh => by
  obtain ⟨r, env, ds, env', he, hr, hg, q⟩ := hh
  cases ds with
  | nil => cases hg
  | cons a b =>
    cases hr with
    | cons ra rb =>
      obtain ⟨e1, g1, g2⟩ := Option.bind_eq_some_iff.mp hg
      exact ⟨_, _, rfl, r, env, a, e1, he, ra, g1, fun σ' he' => ⟨r, e1, b, env', he', rb, g2, q⟩⟩
def gT (n : Nat) (h : FGs) : FG := fun d env => match d with | .tup ds => if ds.length = n then h ds env else none | _ => none
theorem Rep.sqT {r : Rf} {H : Hp} {v : V} {ds : List D} (h : Rep K r H v (.tup ds)) : ∃ a xs, v = .ref a ∧ SqT K H a xs ∧ RepL K r H xs ds := by
  cases h with
  | tup a z b c => exact ⟨_, _, rfl, .inl (.inr ⟨_, a⟩), c⟩
  | tupP a b c => exact ⟨_, _, rfl, .inl (.inl a), c⟩
  | tupK a b z c d e f => exact ⟨_, _, rfl, .inr ⟨_, _, _, a, b, c, d, e⟩, f⟩
theorem dg_tup {es : List Expr} {k n : Nat} {h : FGs} {pos : Pos} (hc : X.calm = true) (hh : DGs X es h) (hn : (assignEach es X.env).length = n := by rfl) (hst : (assignEach es X.env).findIdx? (·.1) = none := by rfl) : DG X (.Tuple es k pos) (gT n h) :=
  weakG (pg_tup hc hh hn hst) fun v σ H Q hh => by
  obtain ⟨r, env, d, env', he, hr, hg, q⟩ := hh
  cases d with
  | tup ds =>
    obtain ⟨a, xs, e, s, l⟩ := hr.sqT
    have hg' : (if ds.length = n then h ds env else none) = some env' := hg
    by_cases hl : ds.length = n
    · rw [if_pos hl] at hg'
      exact ⟨a, xs, e, s, by rw [l.len]; exact hl, r, env, ds, env', he, l, hg', q⟩
    · rw [if_neg hl] at hg'
      cases hg'
  | _ => cases hg
/-- a tuple's target takes an item of either kind -/
theorem dg_tupI {es : List Expr} {k n : Nat} {h : FGs} {pos : Pos} (hc : X.calm = true) (hh : DGs X es h) (hn : (assignEach es X.env).length = n := by rfl) (hst : (assignEach es X.env).findIdx? (·.1) = none := by rfl) : DGR X (RepI X.K) (.Tuple es k pos) (gT n h) :=
  weakG (pg_tup hc hh hn hst) fun v σ H Q hh => by
  obtain ⟨r, env, d, env', he, hr, hg, q⟩ := hh
  obtain ⟨a, xs, ds, e, ed, s, l⟩ := hr
  subst ed
  have hg' : (if ds.length = n then h ds env else none) = some env' := hg
  by_cases hl : ds.length = n
  · rw [if_pos hl] at hg'
    exact ⟨a, xs, e, s, by rw [l.len]; exact hl, r, env, ds, env', he, l, hg', q⟩
  · rw [if_neg hl] at hg'
    cases hg'
def sAsg (f : F) (g : FG) : FS := fun env st => (f env st).bind fun p => (g p.1 env).map fun e1 => (.nx, e1, p.2)
theorem asgReads {W : WXd} {f : F} {g : FG} (D' : Ends) (σ : L2.St) (H : Hp) (hh : tS K W (sAsg f g) D' σ H) : tAsg (tD K f) (tG K g) D' σ H := by
  obtain ⟨r, env, st, o, env', st', he, hs, hf, q⟩ := hh
  obtain ⟨⟨d, s1⟩, h1, h2⟩ := Option.bind_eq_some_iff.mp hf
  obtain ⟨e1, h3, h4⟩ := Option.map_eq_some_iff.mp h2
  cases h4
  exact ⟨r, env, st, d, _, he, hs, h1, fun v r1 H1 x1 q1 p1 => ⟨r1, env, d, _, he.ext x1, p1, h3, fun σ' he' => q σ' r1 H1 x1 he' q1⟩⟩
theorem ds_asg {tg e : Expr} {f : F} {g : FG} {pos : Pos} (he : DE X e f) (hg : DG X tg g) (hs : swapsWithSole [tg] e pos.line X.env = pure false := by rfl) (hw : swappedStores [tg] e X.env = pure none := by rfl)
    (h1 : (assignEach [tg] X.env).map (·.2) = [assign tg X.env] := by rfl) : DS X W (.Assign [tg] e pos) (sAsg f g) := weakS (ps_asg he hg hs hw h1) fun D' σ H hh => asgReads D' σ H hh
end
end DL
namespace DL
open PySem PySem.Spec PyProof.Rows L2
variable {K : PySem.W.Frag}

/-! ### what is walked -/
abbrev FI := Lo → Store → Option (List D × Store)
/-- the iterator yields these data, whatever has become known since -/
def ItOkR (K : PySem.W.Frag) (R : RD) (J : It) (r : Rf) (H : Hp) (ds : List D) : Prop :=
  ∀ r1 H1 st1, Ext r H r1 H1 → Sim K r1 H1 st1 → (∀ i, ds.length ≤ i → J.stop i H1) ∧
    ∀ (i : Nat) d, ds[i]? = some d → J.go i H1 ∧ ∀ x H2, J.yld i H1 x H2 → ∃ r2, Ext r1 H1 r2 H2 ∧ Sim K r2 H2 st1 ∧ R r2 H2 x d
abbrev ItOk (K : PySem.W.Frag) (J : It) (r : Rf) (H : Hp) (ds : List D) : Prop := ItOkR K (Rep K) J r H ds
def tIR (K : PySem.W.Frag) (RR : RD) (f : FI) : TI := fun σ H R => ∃ r env st ds st', EnvR K r H env σ ∧ Sim K r H st ∧ f env st = some (ds, st') ∧ ∀ J r' H', Ext r H r' H' → Sim K r' H' st' → ItOkR K RR J r' H' ds → R J H'
abbrev tI (K : PySem.W.Frag) (f : FI) : TI := tIR K (Rep K) f
abbrev DIR (X : Cx) (RR : RD) (tg iter : Expr) (f : FI) : Prop := PI X tg iter (tIR X.K RR f)
abbrev DI (X : Cx) (tg iter : Expr) (f : FI) : Prop := DIR X (Rep X.K) tg iter f
theorem ItOk.ext {R : RD} {J : It} {r r' : Rf} {H H' : Hp} {ds : List D} (h : ItOkR K R J r H ds) (e : Ext r H r' H') : ItOkR K R J r' H' ds := fun r1 H1 st1 e1 s1 => h r1 H1 st1 (e.trans e1) s1

section
variable {X : Cx} {W : WXd} {tg iter : Expr}
theorem weakI {t t' : TI} (h : PI X tg iter t) (i : ∀ σ H Q, t' σ H Q → t σ H Q) : PI X tg iter t' := ⟨fun pins s σ H Q I q => h.run pins s σ H Q I (i σ H Q q)⟩

def asL : D → Option (List D) | .lst ds => some ds | _ => none
def asT : D → Option (List D) | .tup ds => some ds | _ => none
def asScr : D → Option (List D) | .scr ns => some (ns.map D.int) | _ => none
def asStr : D → Option (List D) | .str x => some (x.cps.toList.map fun c => .str ⟨#[c]⟩) | _ => none
def iOf (a : D → Option (List D)) (f : F) : FI := fun env st => (f env st).bind fun p => (a p.1).map fun ds => (ds, p.2)
theorem iOf_some {a : D → Option (List D)} {f : F} {env : Lo} {st : Store} {z : List D × Store} (h : iOf a f env st = some z) : ∃ d, f env st = some (d, z.2) ∧ a d = some z.1 := by
  obtain ⟨⟨x, s1⟩, h1, h2⟩ := Option.bind_eq_some_iff.mp h
  obtain ⟨ds, h3, h4⟩ := Option.map_eq_some_iff.mp h2
  cases h4
  exact ⟨x, h1, h3⟩
theorem sql_ok {J : It} {a : Addr} {r : Rf} {H : Hp} {xs : List V} {ds : List D} (hJ : J = Itl K a) (h : ∀ r1 H1, Ext r H r1 H1 → SqL K H1 a xs) (l : RepL K r H xs ds) : ItOk K J r H ds := fun r1 H1 st1 e1 s1 => by
  subst hJ
  have q := h r1 H1 e1
  have l1 := l.ext e1
  refine ⟨fun i hi => ⟨xs, q, by rw [l.len]; exact hi⟩, fun i d hd => ?_⟩
  obtain ⟨v, hv, rv⟩ := l1.get hd
  exact ⟨⟨xs, v, q, hv⟩, fun x H2 ⟨e, y⟩ => by
    subst e
    have := y xs q
    rw [hv] at this
    cases this
    exact ⟨r1, .refl _ _, s1, rv⟩⟩
theorem di_lst {f : F} (h : DE X iter f) : DI X tg iter (iOf asL f) := weakI (pi_list h) fun σ H R hh => by
  obtain ⟨r, env, st, ds, st', he, hs, hf, q⟩ := hh
  obtain ⟨d, h1, h2⟩ := iOf_some hf
  refine ⟨r, env, st, d, st', he, hs, h1, fun v r1 H1 e1 q1 p1 => ?_⟩
  cases d with
  | lst es =>
    cases h2
    cases p1 with
    | lst a b c => exact ⟨_, rfl, ⟨_, .of a⟩, q _ r1 H1 e1 q1 (sql_ok rfl (fun r2 H2 e2 => .of (e2.keep _ _ a b)) c)⟩
  | _ => cases h2
theorem di_scr {f : F} (h : DE X iter f) : DI X tg iter (iOf asScr f) := weakI (pi_list h) fun σ H R hh => by
  obtain ⟨r, env, st, ds, st', he, hs, hf, q⟩ := hh
  obtain ⟨d, h1, h2⟩ := iOf_some hf
  refine ⟨r, env, st, d, st', he, hs, h1, fun v r1 H1 e1 q1 p1 => ?_⟩
  cases d with
  | scr es =>
    cases h2
    cases p1 with
    | scr a b => exact ⟨_, rfl, ⟨_, .inl (.inr ⟨_, a⟩)⟩, q _ r1 H1 e1 q1 (sql_ok rfl (fun r2 H2 e2 => .inl (.inr ⟨_, e2.keep _ _ a b⟩)) (RepL.ofInts es))⟩
    | scrK a b c d e f => exact ⟨_, rfl, ⟨_, .inr ⟨_, _, _, a, b, c, d, e, f⟩⟩, q _ r1 H1 e1 q1 (sql_ok rfl (fun r2 H2 e2 => .inr ⟨_, _, _, a, b, c, d, e, f⟩) (RepL.ofInts es))⟩
  | _ => cases h2
theorem di_tup {f : F} (h : DE X iter f) : DI X tg iter (iOf asT f) := weakI (pi_tup h) fun σ H R hh => by
  obtain ⟨r, env, st, ds, st', he, hs, hf, q⟩ := hh
  obtain ⟨d, h1, h2⟩ := iOf_some hf
  refine ⟨r, env, st, d, st', he, hs, h1, fun v r1 H1 e1 q1 p1 => ?_⟩
  cases d with
  | tup es =>
    have ees : es = ds := Option.some.inj h2
    subst ees
    have key : ∀ {a : Addr} {xs : List V}, (∀ r2 H2, Ext r1 H1 r2 H2 → SqT X.K H2 a xs) → RepL X.K r1 H1 xs es → ItOk X.K (Itt X.K a) r1 H1 es := fun {a xs} hq l r2 H2 st2 e2 s2 => by
      have qq := hq r2 H2 e2
      have l1 := l.ext e2
      refine ⟨fun i hi => ⟨xs, qq, by rw [l.len]; exact hi⟩, fun i d hd => ?_⟩
      obtain ⟨v, hv, rv⟩ := l1.get hd
      exact ⟨⟨xs, v, qq, hv⟩, fun x H3 ⟨e, y⟩ => by
        subst e
        have := y xs qq
        rw [hv] at this
        cases this
        exact ⟨r2, .refl _ _, s2, rv⟩⟩
    cases p1 with
    | tup a z b c => exact ⟨_, rfl, ⟨_, .inl (.inr ⟨_, a⟩)⟩, q _ r1 H1 e1 q1 (key (fun r2 H2 e2 => .inl (.inr ⟨_, e2.keep _ _ a b⟩)) c)⟩
    | tupP a b c => exact ⟨_, rfl, ⟨_, .inl (.inl a)⟩, q _ r1 H1 e1 q1 (key (fun r2 H2 e2 => .inl (.inl (e2.keep _ _ a b))) c)⟩
    | tupK a b z c d e f => exact ⟨_, rfl, ⟨_, .inr ⟨_, _, _, a, b, c, d, e⟩⟩, q _ r1 H1 e1 q1 (key (fun r2 H2 e2 => .inr ⟨_, _, _, a, b, c, d, e⟩) f)⟩
  | _ => cases h2
theorem di_str {f : F} (h : DE X iter f) : DI X tg iter (iOf asStr f) := weakI (pi_str h) fun σ H R hh => by
  obtain ⟨r, env, st, ds, st', he, hs, hf, q⟩ := hh
  obtain ⟨d, h1, h2⟩ := iOf_some hf
  refine ⟨r, env, st, d, st', he, hs, h1, fun v r1 H1 e1 q1 p1 => ?_⟩
  cases d with
  | str x =>
    cases h2
    cases p1
    refine ⟨x, rfl, q _ r1 H1 e1 q1 fun r2 H2 st2 e2 s2 => ⟨fun i hi => ?_, fun i d hd => ?_⟩⟩
    · show x.cps.size ≤ i
      simpa using hi
    · rw [List.getElem?_map] at hd
      obtain ⟨c, hc, e⟩ := Option.map_eq_some_iff.mp hd
      subst e
      have hc' : x.cps[i]? = some c := by simpa using hc
      refine ⟨(Array.getElem?_eq_some_iff.mp hc').1, fun y H3 ⟨e, c', hc2, ey⟩ => ?_⟩
      subst e
      rw [hc'] at hc2
      cases hc2
      subst ey
      exact ⟨r2, .refl _ _, s2, .str _⟩
  | _ => cases h2
/-- range(n) -/
def rg (lo hi : Int) : List D := (List.range (hi - lo).toNat).map fun k => .int (lo + (k : Nat))
def asR1 : List D → Option (List D) | [.int n] => if -(2 ^ 62) ≤ n ∧ n < 2 ^ 62 then some (rg 0 n) else none | _ => none
def asR2 : List D → Option (List D) | [.int i, .int n] => if (-(2 ^ 62) ≤ i ∧ i < 2 ^ 62) ∧ (-(2 ^ 62) ≤ n ∧ n < 2 ^ 62) then some (rg i n) else none | _ => none
def iOfA (a : List D → Option (List D)) (f : FA) : FI := fun env st => (f env st).bind fun p => (a p.1).map fun ds => (ds, p.2)
theorem iOfA_some {a : List D → Option (List D)} {f : FA} {env : Lo} {st : Store} {z : List D × Store} (h : iOfA a f env st = some z) : ∃ d, f env st = some (d, z.2) ∧ a d = some z.1 := by
  obtain ⟨⟨x, s1⟩, h1, h2⟩ := Option.bind_eq_some_iff.mp h
  obtain ⟨ds, h3, h4⟩ := Option.map_eq_some_iff.mp h2
  cases h4
  exact ⟨x, h1, h3⟩
theorem rng_ok {lo hi : Int} {r : Rf} {H : Hp} : ItOk K (Itr lo (hi - lo).toNat) r H (rg lo hi) := fun r1 H1 st1 e1 s1 => by
  refine ⟨fun i h => ?_, fun i d hd => ?_⟩
  · show (hi - lo).toNat ≤ i
    simpa [rg] using h
  · unfold rg at hd
    rw [List.getElem?_map] at hd
    obtain ⟨c, hc, e⟩ := Option.map_eq_some_iff.mp hd
    subst e
    obtain ⟨h1, h2⟩ := List.getElem?_eq_some_iff.mp hc
    rw [List.getElem_range] at h2
    subst h2
    refine ⟨by show i < (hi - lo).toNat; simpa using h1, fun x H2 ⟨e, y⟩ => ?_⟩
    subst e
    subst y
    exact ⟨r1, .refl _ _, s1, .int _⟩
theorem di_range1 {a : Expr} {fa : FA} {p pos : Pos} (hg : Gl X "range") (hm : X.mg "range" = none) (ha : DA X [a] fa) (hs : starEach [a] X.env = [(false, eval a X.env)] := by rfl) : DI X tg (.Call (.Name "range" p) [a] [] pos) (iOfA asR1 fa) := weakI (pi_range1 hg hm ha hs) fun σ H R hh => by
  obtain ⟨r, env, st, ds, st', he, hs, hf, q⟩ := hh
  obtain ⟨d, h1, h2⟩ := iOfA_some hf
  refine ⟨r, env, st, d, st', he, hs, h1, fun v r1 H1 e1 q1 p1 => ?_⟩
  unfold asR1 at h2
  split at h2
  · rename_i n
    split at h2
    · rename_i hn
      cases h2
      cases p1 with
      | cons pa pb =>
        cases pa
        cases pb
        refine ⟨n, rfl, hn.1, hn.2, q _ r1 H1 e1 q1 ?_⟩
        have z : (n - 0).toNat = n.toNat := by rw [Int.sub_zero]
        have := rng_ok (K := X.K) (lo := 0) (hi := n) (r := r1) (H := H1)
        rw [z] at this
        exact this
    · cases h2
  · cases h2
theorem di_range2 {a b : Expr} {fa : FA} {p pos : Pos} (hg : Gl X "range") (hm : X.mg "range" = none) (ha : DA X [a, b] fa) (hs : starEach [a, b] X.env = [(false, eval a X.env), (false, eval b X.env)] := by rfl) (hs2 : starEach [b] X.env = [(false, eval b X.env)] := by rfl) :
    DI X tg (.Call (.Name "range" p) [a, b] [] pos) (iOfA asR2 fa) := weakI (pi_range2 hg hm ha hs hs2) fun σ H R hh => by
  obtain ⟨r, env, st, ds, st', he, hs, hf, q⟩ := hh
  obtain ⟨d, h1, h2⟩ := iOfA_some hf
  refine ⟨r, env, st, d, st', he, hs, h1, fun v r1 H1 e1 q1 p1 => ?_⟩
  unfold asR2 at h2
  split at h2
  · rename_i i n
    split at h2
    · rename_i hn
      cases h2
      cases p1 with
      | cons pa pb =>
        cases pa
        cases pb with
        | cons pc pd =>
          cases pc
          cases pd
          exact ⟨i, n, rfl, ⟨hn.1.1, hn.1.2, hn.2.1, hn.2.2⟩, q _ r1 H1 e1 q1 rng_ok⟩
    · cases h2
  · cases h2
/-- for i, x in enumerate(xs) -/
def pairUp : Nat → List D → List D
  | _, [] => []
  | n, d :: ds => .tup [.int (n : Int), d] :: pairUp (n + 1) ds
def asEn : List D → Option (List D) | [.lst ds] => some (pairUp 0 ds) | _ => none
end

/-! ### for -/
def loopS (tg : FG) (body : FS) : List D → Lo → Store → Option (Out × Lo × Store)
  | [], env, st => some (.nx, env, st)
  | d :: ds, env, st => (tg d env).bind fun e1 => (body e1 st).bind fun p => match p with
    | (.nx, e2, s2) => loopS tg body ds e2 s2
    | (.ct, e2, s2) => loopS tg body ds e2 s2
    | (.bk, e2, s2) => some (.nx, e2, s2)
    | (.rt v, e2, s2) => some (.rt v, e2, s2)
    | (.er c f v, e2, s2) => some (.er c f v, e2, s2)
def sFor (fi : FI) (tg : FG) (body : FS) : FS := fun env st => (fi env st).bind fun p => loopS tg body p.1 env p.2
section
variable {X : Cx} {W : WXd} {tg iter : Expr}
theorem ds_forR {RR : RD} {body : List Stmt} {fi : FI} {g : FG} {b : FS} {pos : Pos} (hp : PassesOwn (model X.prog X.w) X.A X.env X.xe) (hc : X.calm = true) (hi : DIR X RR tg iter fi) (hg : DGR X RR tg g) (hb : DSs X W body b)
    (hs : ∀ x, foldedSetIterable iter X.env x = pure x := by intro _; rfl) : DS X W (.For tg iter body [] pos) (sFor fi g b) := weakS (ps_for hp hc hi hg hb hs) fun D' σ H hh => by
  obtain ⟨r, env, st, o, env', st', he, hs, hf, q⟩ := hh
  obtain ⟨⟨ds, s1⟩, h1, h2⟩ := Option.bind_eq_some_iff.mp hf
  refine ⟨r, env, st, ds, s1, he, hs, h1, fun J r1 H1 e1 q1 j1 => ?_⟩
  refine ⟨fun i m σ2 H2 => m = ds.length - i ∧ i ≤ ds.length ∧ ∃ r2 env2 st2, Ext r1 H1 r2 H2 ∧ EnvR X.K r2 H2 env2 σ2 ∧ Sim X.K r2 H2 st2 ∧ loopS g b (ds.drop i) env2 st2 = some (o, env', st'),
    ⟨_, rfl, Nat.zero_le _, r1, env, s1, .refl _ _, he.ext e1, q1, h2⟩, ?_⟩
  rintro i m σ2 H2 ⟨rfl, hi, r2, env2, st2, e2, he2, hs2, h3⟩
  obtain ⟨jst, jgo⟩ := j1 r2 H2 st2 e2 hs2
  by_cases hlt : i < ds.length
  · have hd : ds[i]? = some ds[i] := List.getElem?_eq_getElem hlt
    rw [List.drop_eq_getElem_cons hlt] at h3
    obtain ⟨env3, g1, h4⟩ := Option.bind_eq_some_iff.mp h3
    obtain ⟨⟨o4, env4, st4⟩, g2, h5⟩ := Option.bind_eq_some_iff.mp h4
    obtain ⟨j2, j3⟩ := jgo i _ hd
    refine .inr ⟨j2, fun σ' H' => i + 1 ≤ ds.length ∧ ∃ r2 env2 st2, Ext r1 H1 r2 H' ∧ EnvR X.K r2 H' env2 σ' ∧ Sim X.K r2 H' st2 ∧ loopS g b (ds.drop (i + 1)) env2 st2 = some (o, env', st'),
      fun σ' H' ⟨hi', w⟩ => ⟨ds.length - (i + 1), by omega, rfl, hi', w⟩, fun x H3 y => ?_⟩
    obtain ⟨r3, e3, hs3, rx⟩ := j3 x H3 y
    refine ⟨r3, env2, ds[i], env3, he2.ext e3, rx, g1, fun σ3 he3 => ⟨r3, env3, st2, o4, env4, st4, he3, hs3, g2, ?_⟩⟩
    cases o4 with
    | nx => exact fun σ' r' H' e' a c => ⟨by omega, r', env4, st4, (e2.trans e3).trans e', a, c, h5⟩
    | ct => exact fun σ' r' H' e' a c => ⟨by omega, r', env4, st4, (e2.trans e3).trans e', a, c, h5⟩
    | bk =>
      cases h5
      exact fun σ' r' H' e' a c => q σ' r' H' (((e1.trans e2).trans e3).trans e') a c
    | rt v =>
      cases h5
      exact fun v r' H' e' a c => q v r' H' (((e1.trans e2).trans e3).trans e') a c
    | er c' f' v =>
      cases h5
      exact fun σ' r' H' C dd e' a c z => q σ' r' H' C dd (((e1.trans e2).trans e3).trans e') a c z
  · have e : i = ds.length := by omega
    subst e
    rw [List.drop_length] at h3
    cases h3
    exact .inl ⟨jst _ (Nat.le_refl _), q σ2 r2 H2 (e1.trans e2) he2 hs2⟩
end

section
variable {X : Cx} {W : WXd} {tg iter : Expr}
theorem ds_for {body : List Stmt} {fi : FI} {g : FG} {b : FS} {pos : Pos} (hp : PassesOwn (model X.prog X.w) X.A X.env X.xe) (hc : X.calm = true) (hi : DI X tg iter fi) (hg : DG X tg g) (hb : DSs X W body b)
    (hs : ∀ x, foldedSetIterable iter X.env x = pure x := by intro _; rfl) : DS X W (.For tg iter body [] pos) (sFor fi g b) := ds_forR hp hc hi hg hb hs
end
/-! ### a new object that is being made: hidden, then shown as a value, or taken into the store -/
def Rf.hide (r : Rf) (p : Addr) : Rf := ⟨r.adr, fun a => r.av a ∨ a = p, r.lk⟩
def Rf.shown (r : Rf) (p : Addr) : Rf := ⟨r.adr, fun a => r.av a ∧ a ≠ p, r.lk⟩
def Rf.add (r : Rf) (p : Addr) : Rf := ⟨r.adr ++ [p], r.av, r.lk⟩
structure Hid (K : PySem.W.Frag) (r : Rf) (H : Hp) (st : Store) (p : Addr) : Prop where
  av : r.av p
  na : p ∉ r.adr
  nl : ¬ r.lk p
  sim : Sim K r H st
theorem hideNew {r : Rf} {H : Hp} {st : Store} {p : Addr} {o : HO} (q1 : Sim K r H st) (hD : H p = none) : Ext r H (r.hide p) (upd H p o) ∧ Hid K (r.hide p) (upd H p o) st p := by
  have e0 : Ext r H (r.hide p) (upd H p o) := ⟨⟨⟨[], by simp [Rf.hide]⟩, fun a x h _ => same_alloc hD a x h, fun a h n => by
    rcases h with h | h
    · exact absurd h n
    · rw [h]; exact hD⟩, fun a b c => ⟨by obtain ⟨o, h⟩ := q1.there a b; rw [h]; exact same_alloc hD a o h, .inl b, c⟩, fun _ => Iff.rfl, fun a b => by obtain ⟨o, u, h⟩ := q1.lkd a b; rw [h]; exact same_alloc hD a _ h⟩
  refine ⟨e0, .inr rfl, fun z => ?_, fun z => ?_, q1.len, q1.nd, fun n a x h1 h2 => (q1.ob n a x h1 h2).ex e0.toEx (fun v => ⟨?_, .inl v⟩), fun a v => ?_, fun a v => ?_, fun a v => ?_⟩
  · obtain ⟨x, y⟩ := q1.old p z
    rw [hD] at y; cases y
  · obtain ⟨o, u, y⟩ := q1.lkd p z
    rw [hD] at y; cases y
  · obtain ⟨x, z⟩ := q1.there a v
    rw [z]; exact same_alloc hD a x z
  · rcases v with v | v
    · obtain ⟨x, z⟩ := q1.there a v
      exact ⟨x, same_alloc hD a x z⟩
    · exact ⟨_, by rw [v]; exact upd_same⟩
  · obtain ⟨x, z⟩ := q1.old a v
    exact ⟨x, same_alloc hD a x z⟩
  · obtain ⟨o, u, z⟩ := q1.lkd a v
    exact ⟨o, u, same_alloc hD a _ z⟩
theorem Hid.ext {r r' : Rf} {H H' : Hp} {st st' : Store} {p : Addr} (h : Hid K r H st p) (e : Ext r H r' H') (s : Sim K r' H' st') : Hid K r' H' st' p ∧ H' p = H p :=
  let ⟨a, b, c⟩ := e.hid p h.av h.na; ⟨⟨b, c, fun z => h.nl ((e.hd.lke p).mp z), s⟩, a⟩
/-- the hidden object is taken into the store -/
theorem Hid.add {r r0 : Rf} {H H0 : Hp} {st st0 : Store} {p : Addr} {o : HO} {ob : Ob} (h : Hid K r H st p) (e : Ext r0 H0 r H) (q0 : Sim K r0 H0 st0) (hn : H0 p = none) (hob : ObR K (r.add p) (upd H p o) p ob) :
    Ext r0 H0 (r.add p) (upd H p o) ∧ Sim K (r.add p) (upd H p o) (st ++ [ob]) ∧ ∀ d, d = D.ref st.length → Rep K (r.add p) (upd H p o) (.ref p) d := by
  have ex : Ex r H (r.add p) (upd H p o) := ⟨⟨[p], rfl⟩, fun q x z n => by rw [upd_ne (fun y => n (by rw [y]; exact h.av))]; exact z, fun q z n => absurd z n⟩
  have nlk : ∀ q, r.lk q → q ≠ p := fun q z y => h.nl (by rw [← y]; exact z)
  refine ⟨⟨e.toEx.trans ex, fun q a b => ?_, e.hd.lke, fun q z => by rw [upd_ne (nlk q ((e.hd.lke q).mpr z))]; exact e.hd.lks q z⟩, ⟨?_, ?_, fun n a x h1 h2 => ?_, fun q v => ?_, fun q v => ?_, fun q v => ?_⟩, fun d hd => ?_⟩
  · obtain ⟨z1, z2, z3⟩ := e.hid q a b
    have nq : q ≠ p := fun y => by
      obtain ⟨x, z⟩ := q0.there q a
      rw [y, hn] at z; cases z
    exact ⟨by rw [upd_ne nq]; exact z1, z2, fun z => by
      rcases List.mem_append.mp z with z | z
      · exact z3 z
      · exact nq (List.mem_singleton.mp z)⟩
  · show (r.adr ++ [p]).length = (st ++ [ob]).length
    rw [List.length_append, List.length_append, h.sim.len]; rfl
  · exact List.nodup_append.mpr ⟨h.sim.nd, by simp, fun a ha b hb e => h.na (by rw [List.mem_singleton.mp hb] at e; rw [← e]; exact ha)⟩
  · by_cases hlt : n < r.adr.length
    · have h1' : r.adr[n]? = some a := by
        have : (r.adr ++ [p])[n]? = some a := h1
        rwa [List.getElem?_append_left hlt] at this
      have h2' : st[n]? = some x := by rwa [List.getElem?_append_left (by rw [← h.sim.len]; exact hlt)] at h2
      exact (h.sim.ob n a x h1' h2').ex ex fun v => ⟨by rw [upd_ne (fun y => h.na (by rw [← y]; exact List.mem_of_getElem? h1'))], v⟩
    · have hl : n = r.adr.length := by
        have : n < (r.adr ++ [p]).length := (List.getElem?_eq_some_iff.mp (show (r.adr ++ [p])[n]? = some a from h1)).1
        rw [List.length_append, List.length_singleton] at this
        omega
      have e1 : a = p := by
        have : (r.adr ++ [p])[n]? = some a := h1
        rw [hl, List.getElem?_append_right (Nat.le_refl _), Nat.sub_self] at this
        exact (Option.some.inj this).symm
      have e2 : x = ob := by
        rw [hl, h.sim.len, List.getElem?_append_right (Nat.le_refl _), Nat.sub_self] at h2
        exact (Option.some.inj h2).symm
      rw [e1, e2]; exact hob
  · by_cases z : q = p
    · exact ⟨_, by rw [z]; exact upd_same⟩
    · rw [upd_ne z]; exact h.sim.there q v
  · by_cases z : q = p
    · exact ⟨_, by rw [z]; exact upd_same⟩
    · rw [upd_ne z]
      rcases List.mem_append.mp v with v | v
      · exact h.sim.old q v
      · exact absurd (List.mem_singleton.mp v) z
  · rw [upd_ne (nlk q v)]; exact h.sim.lkd q v
  · subst hd
    refine .ref ?_
    show (r.adr ++ [p])[st.length]? = some p
    rw [← h.sim.len, List.getElem?_append_right (Nat.le_refl _), Nat.sub_self]; rfl
/-! ### list comprehensions of one clause, the target one name or several (slots is) -/
def setL {α : Type} : List Nat → List α → List (Option α) → List (Option α)
  | i :: is, v :: vs, σ => setL is vs (σ.set i (some v))
  | _, _, σ => σ
theorem setL_length {α : Type} : ∀ (is : List Nat) (vs : List α) (σ : List (Option α)), (setL is vs σ).length = σ.length
  | [], _, _ => rfl
  | _ :: _, [], _ => rfl
  | i :: is, v :: vs, σ => by unfold setL; rw [setL_length is vs, List.length_set]
theorem setL_out {α : Type} {j : Nat} : ∀ (is : List Nat) (vs : List α) (σ : List (Option α)), j ∉ is → (setL is vs σ)[j]? = σ[j]?
  | [], _, _, _ => rfl
  | _ :: _, [], _, _ => rfl
  | i :: is, v :: vs, σ, h => by
    unfold setL
    rw [setL_out is vs _ (fun z => h (List.mem_cons_of_mem _ z)), List.getElem?_set_ne (fun z => h (by rw [z]; exact List.mem_cons_self))]
theorem wipe_in {σ : L2.St} {j : Nat} : ∀ {is : List Nat}, j ∈ is → (wipe σ is)[j]? = σ[j]?.map fun _ => none
  | [], h => by cases h
  | i :: is, h => by
    unfold wipe
    by_cases z : i = j
    · subst z
      by_cases hi : i < σ.length
      · rw [List.getElem?_set_self (by rw [wipe_length]; exact hi), List.getElem?_eq_getElem hi]; rfl
      · rw [List.getElem?_eq_none (by rw [List.length_set, wipe_length]; omega), List.getElem?_eq_none (by omega)]; rfl
    · rw [List.getElem?_set_ne z]
      rcases List.mem_cons.mp h with e | e
      · exact absurd e.symm z
      · exact wipe_in e
theorem wipe_setL (σ : L2.St) (is : List Nat) (vs : List V) : wipe (setL is vs (wipe σ is)) is = wipe σ is := by
  refine List.ext_getElem? fun j => ?_
  by_cases h : j ∈ is
  · rw [wipe_in h]
    by_cases hj : j < σ.length
    · have h1 : j < (setL is vs (wipe σ is)).length := by rw [setL_length, wipe_length]; exact hj
      have h2 : j < (wipe σ is).length := by rw [wipe_length]; exact hj
      rw [List.getElem?_eq_getElem h1, wipe_in h, List.getElem?_eq_getElem hj]; rfl
    · rw [List.getElem?_eq_none (by rw [setL_length, wipe_length]; omega), List.getElem?_eq_none (by rw [wipe_length]; omega)]; rfl
  · rw [wipe_out h, setL_out is vs _ h]
/-- the slots of a block's own names, forgotten -/
def wipeL (env : Lo) : List Nat → Lo
  | [] => env
  | i :: is => (wipeL env is).set i none
theorem EnvR.wipeL {r : Rf} {H : Hp} {env : Lo} {σ : L2.St} (h : EnvR K r H env σ) : ∀ is : List Nat, EnvR K r H (DL.wipeL env is) (L2.wipe σ is)
  | [] => h
  | i :: is => EnvR.wipe (EnvR.wipeL h is) i
theorem EnvR.setL {r : Rf} {H : Hp} : ∀ {is : List Nat} {vs : List V} {ds : List D} {env : Lo} {σ : L2.St}, EnvR K r H env σ → RepL K r H vs ds → EnvR K r H (DL.setL is ds env) (DL.setL is vs σ)
  | [], _, _, _, _, h, _ => h
  | _ :: _, _, _, _, _, h, .nil => h
  | i :: is, _ :: _, _ :: _, env, σ, h, .cons a b => by
    have := EnvR.setL (is := is) (EnvR.set h a i) b
    exact this
/-- how a target takes an item -/
abbrev FB := D → Option (List D)
def b1 : FB := fun d => some [d]
def bT (n : Nat) : FB := fun d => match d with | .tup ds => if ds.length = n then some ds else none | _ => none
def loopC (is : List Nat) (bd : FB) (t : FT) (f : F) : List D → Lo → Store → Option (List D × Store)
  | [], _, st => some ([], st)
  | d :: ds, env, st => (bd d).bind fun vs => (t (setL is vs env) st).bind fun p => if p.1 = true then (f (setL is vs env) p.2).bind fun q => (loopC is bd t f ds env q.2).map fun z => (q.1 :: z.1, z.2) else loopC is bd t f ds env p.2
def fComp (fi : FI) (is : List Nat) (bd : FB) (t : FT) (f : F) : F := fun env st => (fi env st).bind fun p => (loopC is bd t f p.1 (wipeL env is) p.2).bind fun q => if q.1.length ≤ sizeLine then some (.lst q.1, q.2) else none
/-- a raw target -/
def TgOkR (K : PySem.W.Frag) (R : RD) (g : TG) (is : List Nat) (bd : FB) : Prop := ∀ r H x d σ (Q : L2.St → Hp → Prop) vals, R r H x d → bd d = some vals → (∀ vs, RepL K r H vs vals → Q (setL is vs σ) H) → g x σ H Q
abbrev TgOk (K : PySem.W.Frag) (g : TG) (is : List Nat) (bd : FB) : Prop := TgOkR K (Rep K) g is bd
theorem tg1 (i : Nat) : TgOk K (gName i) [i] b1 := fun r H x d σ Q vals hr hb q => by
  cases hb
  exact q [x] (.cons hr .nil)
def tTrue : FT := fun _ st => some (true, st)
abbrev DTs (X : Cx) (ifs : List Expr) (t : FT) : Prop := PTs X ifs (tT X.K t)
section
variable {X : Cx} {W : WXd} {tg iter : Expr}
theorem weakTs {ifs : List Expr} {t t' : TT} (h : PTs X ifs t) (i : ∀ σ H Q, t' σ H Q → t σ H Q) : PTs X ifs t' := ⟨fun pins s σ H Q I q => h.run pins s σ H Q I (i σ H Q q)⟩
theorem dts_nil : DTs X [] tTrue := weakTs pts_nil fun σ H Q hh => by
  obtain ⟨r, env, st, b, st', he, hs, hf, q⟩ := hh
  cases hf
  exact q r H (.refl r H) hs
theorem dts_one {c : Expr} {t : FT} (h : DT X c t) : DTs X [c] t := pts_one h
/-- the object p is being made since (r1, H1): nothing leans on it -/
structure Mkg (K : PySem.W.Frag) (r1 : Rf) (H1 : Hp) (p : Addr) (r : Rf) (H : Hp) (st : Store) : Prop where
  ex : Ext r1 H1 r H
  av : r.av p
  na : p ∉ r.adr
  nl : ¬ r.lk p
  sim : Sim K r H st
theorem EnvR.exx {r r' : Rf} {H H' : Hp} {env : Lo} {σ : L2.St} (h : EnvR K r H env σ) (e : Ex r H r' H') : EnvR K r' H' env σ := ⟨h.len, fun j dd z => let ⟨v, a, b⟩ := h.at_ j dd z; ⟨v, a, b.ex e⟩⟩
theorem Mkg.start {r1 : Rf} {H1 : Hp} {s1 : Store} {p : Addr} {o : HO} (q1 : Sim K r1 H1 s1) (hD : H1 p = none) : Mkg K r1 H1 p (r1.hide p) (upd H1 p o) s1 :=
  let ⟨e0, hd0⟩ := hideNew (o := o) q1 hD; ⟨e0, hd0.av, hd0.na, hd0.nl, hd0.sim⟩
theorem Mkg.step {r1 r r' : Rf} {H1 H H' : Hp} {st st' : Store} {p : Addr} (m : Mkg K r1 H1 p r H st) (e : Ext r H r' H') (s : Sim K r' H' st') : Mkg K r1 H1 p r' H' st' ∧ H' p = H p :=
  let ⟨a, b, c⟩ := e.hid p m.av m.na; ⟨⟨m.ex.trans e, b, c, fun z => m.nl ((e.hd.lke p).mp z), s⟩, a⟩
theorem Mkg.put {r1 r : Rf} {H1 H : Hp} {st s1 : Store} {p : Addr} (m : Mkg K r1 H1 p r H st) (q1 : Sim K r1 H1 s1) (hD : H1 p = none) (o : HO) : Mkg K r1 H1 p r (upd H p o) st ∧ Ex r H r (upd H p o) := by
  have e : Ex r H r (upd H p o) := ⟨⟨[], by simp⟩, fun a x h n => by rw [upd_ne (fun z => n (by rw [z]; exact m.av))]; exact h, fun a h n => absurd h n⟩
  have av0 : ∀ a, r1.av a → a ≠ p := fun a h z => by
    obtain ⟨x, y⟩ := q1.there a h
    rw [z, hD] at y; cases y
  have lk0 : ∀ a, r1.lk a → a ≠ p := fun a h z => by
    obtain ⟨x, u, y⟩ := q1.lkd a h
    rw [z, hD] at y; cases y
  refine ⟨⟨⟨m.ex.toEx.trans e, fun a h n => ?_, m.ex.hd.lke, fun a h => ?_⟩, m.av, m.na, m.nl, m.sim.len, m.sim.nd, fun n a x h1 h2 => (m.sim.ob n a x h1 h2).ex e fun v => ⟨?_, v⟩, fun a v => ?_, fun a v => ?_, fun a v => ?_⟩, e⟩
  · obtain ⟨z1, z2, z3⟩ := m.ex.hid a h n
    exact ⟨by rw [upd_ne (av0 a h)]; exact z1, z2, z3⟩
  · rw [upd_ne (lk0 a h)]; exact m.ex.hd.lks a h
  · rw [upd_ne (fun z => m.na (by rw [← z]; exact List.mem_of_getElem? h1))]
  · by_cases z : a = p
    · exact ⟨_, by rw [z]; exact upd_same⟩
    · rw [upd_ne z]; exact m.sim.there a v
  · by_cases z : a = p
    · exact ⟨_, by rw [z]; exact upd_same⟩
    · rw [upd_ne z]; exact m.sim.old a v
  · rw [upd_ne (fun z => m.nl (by rw [← z]; exact v))]; exact m.sim.lkd a v
theorem Mkg.show {r1 r : Rf} {H1 H : Hp} {st s1 : Store} {p : Addr} (m : Mkg K r1 H1 p r H st) (q1 : Sim K r1 H1 s1) (hD : H1 p = none) : Ext r1 H1 (r.shown p) H ∧ Sim K (r.shown p) H st ∧ Ex r H (r.shown p) H := by
  have es : Ex r H (r.shown p) H := ⟨⟨[], by simp [Rf.shown]⟩, fun p o h _ => h, fun p h n => absurd h.1 n⟩
  refine ⟨⟨⟨m.ex.pre, fun a o h n => m.ex.keep a o h n, fun a h n => m.ex.new a h.1 n⟩, fun a h n => ?_, m.ex.hd.lke, m.ex.hd.lks⟩, ⟨m.sim.len, m.sim.nd, fun n a o h1 h2 => (m.sim.ob n a o h1 h2).ex es fun v => ⟨rfl, v, fun z => m.na (by rw [← z]; exact List.mem_of_getElem? h1)⟩, fun a v => m.sim.there a v.1, m.sim.old, m.sim.lkd⟩, es⟩
  obtain ⟨z1, z2, z3⟩ := m.ex.hid a h n
  exact ⟨z1, ⟨z2, fun z => by
    obtain ⟨x, y⟩ := q1.there a h
    rw [z, hD] at y; cases y⟩, z3⟩
theorem compReads {RR : RD} {fi : FI} {is : List Nat} {bd : FB} {g : TG} {t : FT} {f : F} (hg : TgOkR K RR g is bd) (σ : L2.St) (H : Hp) (Q : VK) (hh : tD K (fComp fi is bd t f) σ H Q) : tLc (tIR K RR fi) g (tT K t) (tD K f) is σ H Q := by
  obtain ⟨r, env, st, d, st', he, hs, hf, q⟩ := hh
  obtain ⟨⟨ds, s1⟩, h1, h2⟩ := Option.bind_eq_some_iff.mp hf
  obtain ⟨⟨zs, s2⟩, h3, h4⟩ := Option.bind_eq_some_iff.mp h2
  by_cases hz : zs.length ≤ sizeLine
  case neg => rw [if_neg hz] at h4; cases h4
  rw [if_pos hz] at h4
  cases h4
  refine ⟨r, env, st, ds, s1, he, hs, h1, fun J r1 H1 e1 q1 j1 Dl hD => ?_⟩
  have m0 := Mkg.start (o := .lst []) q1 hD
  refine ⟨fun k m H2 => m = ds.length - k ∧ k ≤ ds.length ∧ ∃ r2 st2 acc us ys, Mkg K r1 H1 Dl r2 H2 st2 ∧ EnvR K r2 H2 (DL.wipeL env is) (wipe σ is) ∧ H2 Dl = some (.lst us) ∧ RepL K r2 H2 us acc ∧
    loopC is bd t f (ds.drop k) (DL.wipeL env is) st2 = some (ys, s2) ∧ acc ++ ys = zs, ⟨_, rfl, Nat.zero_le _, r1.hide Dl, s1, [], [], zs, m0, ((he.ext e1).ext m0.ex).wipeL is, upd_same, .nil, h3, rfl⟩, ?_⟩
  rintro k m H2 ⟨rfl, hk, r2, st2, acc, us, ys, mk, wp, hus, racc, hl, hcat⟩
  obtain ⟨jst, jgo⟩ := j1 r2 H2 st2 mk.ex mk.sim
  by_cases hlt : k < ds.length
  case neg =>
    have e : k = ds.length := by omega
    subst e
    rw [List.drop_length] at hl
    cases hl
    rw [List.append_nil] at hcat
    subst hcat
    obtain ⟨w1, w2, w3⟩ := mk.show q1 hD
    exact .inl ⟨jst _ (Nat.le_refl _), q (.ref Dl) (r2.shown Dl) H2 (e1.trans w1) w2 (.lst hus (fun z => z.2 rfl) (racc.ex w3))⟩
  case pos =>
    have hd : ds[k]? = some ds[k] := List.getElem?_eq_getElem hlt
    rw [List.drop_eq_getElem_cons hlt] at hl
    obtain ⟨vals, hv, hl1⟩ := Option.bind_eq_some_iff.mp hl
    obtain ⟨⟨b, st3⟩, hb, hl2⟩ := Option.bind_eq_some_iff.mp hl1
    obtain ⟨j2, j3⟩ := jgo k _ hd
    refine .inr ⟨j2, fun H' => k + 1 ≤ ds.length ∧ ∃ r2 st2 acc us ys, Mkg K r1 H1 Dl r2 H' st2 ∧ EnvR K r2 H' (DL.wipeL env is) (wipe σ is) ∧ H' Dl = some (.lst us) ∧ RepL K r2 H' us acc ∧
      loopC is bd t f (ds.drop (k + 1)) (DL.wipeL env is) st2 = some (ys, s2) ∧ acc ++ ys = zs, fun H' ⟨hk', w⟩ => ⟨ds.length - (k + 1), by omega, rfl, hk', w⟩, fun x H3 y => ?_⟩
    obtain ⟨r3, e3, s3, rx⟩ := j3 x H3 y
    have wp3 := wp.ext e3
    refine hg r3 H3 x _ _ _ vals rx hv fun vs rvs => ⟨wipe_setL σ is vs, ?_⟩
    · have he3 : EnvR K r3 H3 (DL.setL is vals (DL.wipeL env is)) (DL.setL is vs (wipe σ is)) := wp3.setL rvs
      refine ⟨r3, _, st2, b, st3, he3, s3, hb, fun r4 H4 e4 s4 => ?_⟩
      cases b with
      | false =>
        rw [if_neg Bool.false_ne_true] at hl2 ⊢
        obtain ⟨m4, k4⟩ := mk.step (e3.trans e4) s4
        exact ⟨hlt, r4, st3, acc, us, ys, m4, wp3.ext e4, k4.trans hus, racc.ext (e3.trans e4), hl2, hcat⟩
      | true =>
        rw [if_pos rfl] at hl2 ⊢
        obtain ⟨⟨yd, st4⟩, hy, hl3⟩ := Option.bind_eq_some_iff.mp hl2
        obtain ⟨⟨ys', st5⟩, hl4, hl5⟩ := Option.map_eq_some_iff.mp hl3
        cases hl5
        refine ⟨r4, _, st3, yd, st4, he3.ext e4, s4, hy, fun yv r5 H5 e5 s5 ry => ?_⟩
        have e25 : Ext r2 H2 r5 H5 := (e3.trans e4).trans e5
        obtain ⟨m5, k5⟩ := mk.step e25 s5
        obtain ⟨m6, g1⟩ := m5.put q1 hD (.lst (us ++ [yv]))
        refine ⟨us, k5.trans hus, ?_, hlt, r5, st4, acc ++ [yd], us ++ [yv], ys', m6, ((wp3.ext e4).ext e5).exx g1, upd_same, ((racc.ext e25).ex g1).append (.cons (ry.ex g1) .nil), hl4, by rw [← hcat, List.append_assoc]; rfl⟩
        rw [racc.len]
        have : (acc ++ yd :: ys').length ≤ sizeLine := by rw [hcat]; exact hz
        rw [List.length_append, List.length_cons] at this
        omega
/-- [elt for x in xs if ..] -/
theorem de_lc {RR : RD} {elt : Expr} {ifs : List Expr} {scope : Scope} {own : List (Str × Nat)} {pos : Pos} {fi : FI} {bd : FB} {g : TG} {t : FT} {f : F} (hc : X.calm = true) (hN : X.N.Nodup) (hi : DIR X RR tg iter fi) (ok : BlkOk X.N X.env.scope scope own)
    (tk : TgOkR X.K RR g (own.map (·.2)) bd)
    (hg : ∀ (s : Shared) (H : Hp) (C : Addr) (cl : List (Str × Addr)) (fp : List Addr), PG (X.blk s H scope (compEnvC scope cl C X.env) fp) tg g) (ht : ∀ (s : Shared) (H : Hp) (C : Addr) (cl : List (Str × Addr)) (fp : List Addr), DTs (X.blk s H scope (compEnvC scope cl C X.env) fp) ifs t)
    (he : ∀ (s : Shared) (H : Hp) (C : Addr) (cl : List (Str × Addr)) (fp : List Addr), DE (X.blk s H scope (compEnvC scope cl C X.env) fp) elt f) (hs : ∀ x, foldedSetIterable iter X.env x = pure x := by intro _; rfl) :
    DE X (.ListComp elt [⟨tg, iter, ifs, 0⟩] scope pos) (fComp fi (own.map (·.2)) bd t f) := weakE (pe_lc hc hN hi ok hg ht he hs) fun σ H Q hh => compReads tk σ H Q hh
/-- y = [elt for x in xs if ..] on one line -/
theorem ds_setLc {RR : RD} {i : Nat} {y : Str} {py : Pos} {elt : Expr} {ifs : List Expr} {scope : Scope} {own : List (Str × Nat)} {pos spos : Pos} {fi : FI} {bd : FB} {g : TG} {t : FT} {f : F} (hc : X.calm = true) (hN : X.N.Nodup) (hy : X.N[i]? = some y) (hyl : X.env.scope.names.lookup y = some .local)
    (hsw : swapsWith (.ListComp elt [⟨tg, iter, ifs, 0⟩] scope pos) (some (.Name y py)) spos.line X.env = pure true) (hi : DIR X RR tg iter fi) (ok : BlkOk X.N X.env.scope scope own)
    (tk : TgOkR X.K RR g (own.map (·.2)) bd)
    (hg : ∀ (s : Shared) (H : Hp) (C : Addr) (cl : List (Str × Addr)) (fp : List Addr), PG (X.blk s H scope (compEnvC scope cl C X.env) fp) tg g) (ht : ∀ (s : Shared) (H : Hp) (C : Addr) (cl : List (Str × Addr)) (fp : List Addr), DTs (X.blk s H scope (compEnvC scope cl C X.env) fp) ifs t)
    (he : ∀ (s : Shared) (H : Hp) (C : Addr) (cl : List (Str × Addr)) (fp : List Addr), DE (X.blk s H scope (compEnvC scope cl C X.env) fp) elt f) (hs : ∀ x, foldedSetIterable iter X.env x = pure x := by intro _; rfl) :
    DS X W (.Assign [.Name y py] (.ListComp elt [⟨tg, iter, ifs, 0⟩] scope pos) spos) (sAsg (fComp fi (own.map (·.2)) bd t f) (gN i)) := weakS (ps_setLc hc hN hy hyl hsw hi ok hg ht he hs) fun D' σ H hh => by
  obtain ⟨r, env, st, o, env', st', he, hs, hf, q⟩ := hh
  obtain ⟨⟨d, s1⟩, h1, h2⟩ := Option.bind_eq_some_iff.mp hf
  obtain ⟨e1, h3, h4⟩ := Option.map_eq_some_iff.mp h2
  cases h4
  cases h3
  exact compReads tk σ H _ ⟨r, env, st, d, _, he, hs, h1, fun v r1 H1 x1 q1 p1 => q _ r1 H1 x1 ((he.ext x1).set p1 i) q1⟩
end
end DL
namespace DL
open PySem PySem.Spec PyProof.Rows L2
open Builtin.Int (intBits)
variable {K : PySem.W.Frag}
/-- a rule by kinds: one of several -/
def R2Ok (K : PySem.W.Frag) (r : R2) (g : D → D → Option D) : Prop :=
  ∀ (rho : Rf) (H : Hp) (x y : V) (a b d : D) (st : Store) (Q : VK), Sim K rho H st → Rep K rho H x a → Rep K rho H y b → g a b = some d → (∀ v H', Same H H' → Rep K rho H' v d → Q v H') → r x y H Q
section
variable {X : Cx} {W : WXd}
/-- the first of two functions that answers -/
def orD (g g' : D → D → Option D) : D → D → Option D := fun a b => (g a b).or (g' a b)
theorem OpOk.or {f : Value → Value → Sem Value} {g g' : D → D → Option D} (h : OpOk X f g) (h' : OpOk X f g') : OpOk X f (orD g g') := by
  obtain ⟨r, hr, k⟩ := h
  obtain ⟨r', hr', k'⟩ := h'
  refine ⟨_, hr.or hr', fun rho H x y a b d st Q si ra rb e q => ?_⟩
  unfold orD at e
  cases z : g a b with
  | some c =>
    rw [z] at e
    cases e
    exact .inl (k rho H x y a b _ st Q si ra rb z q)
  | none =>
    rw [z] at e
    exact .inr (k' rho H x y a b d st Q si ra rb e q)
/-- two ints, under a condition -/
def onI (c : Int → Int → Prop) [∀ i j, Decidable (c i j)] (g : Int → Int → D) : D → D → Option D := fun a b => match a, b with
  | .int i, .int j => if c i j then some (g i j) else none
  | _, _ => none
theorem onI_some {c : Int → Int → Prop} [∀ i j, Decidable (c i j)] {g : Int → Int → D} {a b d : D} (h : onI c g a b = some d) : ∃ i j, a = .int i ∧ b = .int j ∧ c i j ∧ d = g i j := by
  cases a <;> cases b <;> first
    | cases h; done
    | skip
  rename_i i j
  have h' : (if c i j then some (g i j) else none) = some d := h
  by_cases z : c i j
  · rw [if_pos z] at h'
    cases h'
    exact ⟨i, j, rfl, rfl, z, rfl⟩
  · rw [if_neg z] at h'
    cases h'
theorem ok_int {f : Value → Value → Sem Value} {c C : Int → Int → Prop} [∀ i j, Decidable (c i j)] {g : Int → Int → Int} (h : OpR X f (rI C fun i j => .int (g i j))) (hc : ∀ i j, c i j → C i j) : OpOk X f (onI c fun i j => .int (g i j)) :=
  ⟨_, h, fun rho H x y a b d st Q si ra rb e q => by
    obtain ⟨i, j, rfl, rfl, z, rfl⟩ := onI_some e
    cases ra
    cases rb
    exact ⟨i, j, rfl, rfl, hc i j z, q _ H (fun _ _ h => h) (.int _)⟩⟩
theorem ok_int0 {f : Value → Value → Sem Value} {g : Int → Int → Int} (h : OpR X f (rI0 fun i j => .int (g i j))) : OpOk X f (onI (fun _ _ => True) fun i j => .int (g i j)) :=
  ⟨_, h, fun rho H x y a b d st Q si ra rb e q => by
    obtain ⟨i, j, rfl, rfl, z, rfl⟩ := onI_some e
    cases ra
    cases rb
    exact ⟨i, j, rfl, rfl, q _ H (fun _ _ h => h) (.int _)⟩⟩
theorem ok_intB {f : Value → Value → Sem Value} {g : Int → Int → Bool} (h : OpR X f (rI0 fun i j => .bl (g i j))) : OpOk X f (onI (fun _ _ => True) fun i j => .bl (g i j)) :=
  ⟨_, h, fun rho H x y a b d st Q si ra rb e q => by
    obtain ⟨i, j, rfl, rfl, z, rfl⟩ := onI_some e
    cases ra
    cases rb
    exact ⟨i, j, rfl, rfl, q _ H (fun _ _ h => h) (.bl _)⟩⟩
/-- two texts -/
def onS (c : Str → Str → Prop) [∀ i j, Decidable (c i j)] (g : Str → Str → D) : D → D → Option D := fun a b => match a, b with
  | .str i, .str j => if c i j then some (g i j) else none
  | _, _ => none
theorem onS_some {c : Str → Str → Prop} [∀ i j, Decidable (c i j)] {g : Str → Str → D} {a b d : D} (h : onS c g a b = some d) : ∃ i j, a = .str i ∧ b = .str j ∧ c i j ∧ d = g i j := by
  cases a <;> cases b <;> first
    | cases h; done
    | skip
  rename_i i j
  have h' : (if c i j then some (g i j) else none) = some d := h
  by_cases z : c i j
  · rw [if_pos z] at h'
    cases h'
    exact ⟨i, j, rfl, rfl, z, rfl⟩
  · rw [if_neg z] at h'
    cases h'

/-! ### + - * // % ** -/
def addI : D → D → Option D := onI (fun _ _ => True) fun i j => .int (i + j)
theorem ok_addI : OpOk X (binaryOp .Add) addI := ok_int0 op_add
def subI : D → D → Option D := onI (fun _ _ => True) fun i j => .int (i - j)
theorem ok_subI : OpOk X (binaryOp .Sub) subI := ok_int0 op_sub
def mulI : D → D → Option D := onI (fun i j => intBits i + intBits j ≤ 134217728) fun i j => .int (i * j)
theorem op_mulL : OpR X (binaryOp .Mult) (rI IntMulOk fun i j => .int (i * j)) := opI fun _ _ _ _ _ _ _ hc q => mul_int q hc
theorem ok_mulI : OpOk X (binaryOp .Mult) mulI := ok_int op_mulL fun i j h => IntMulOk.of_le (Nat.le_refl _) (Nat.le_refl _) h
def fdivI : D → D → Option D := onI (fun _ j => 0 < j ∧ j < 1073741824) fun i j => .int (i / j)
theorem ok_fdivI : OpOk X (binaryOp .FloorDiv) fdivI := ok_int op_fdiv fun i j h => h
def modI : D → D → Option D := onI (fun _ j => 0 < j) fun i j => .int (i % j)
theorem ok_modI : OpOk X (binaryOp .Mod) modI := ok_int op_mod fun i j h => h
def powI : D → D → Option D := onI (fun i j => 0 ≤ j ∧ (intBits i : Int) * j ≤ 2 ^ 27) fun i j => .int (i ^ j.toNat)
theorem op_powL : OpR X (binaryOp .Pow) (rI (fun i j => 0 ≤ j ∧ (intBits i : Int) * j ≤ 2 ^ 27) fun i j => .int (i ^ j.toNat)) := opI fun _ _ _ _ _ _ _ hc q => pow_int hc.1 hc.2 q
theorem ok_powI : OpOk X (binaryOp .Pow) powI := ok_int op_powL fun i j h => h
def addS : D → D → Option D := onS (fun i j => i.length + j.length ≤ sizeLine) fun i j => .str (i ++ j)
theorem ok_addS : OpOk X (binaryOp .Add) addS := ⟨_, op_add_str, fun rho H x y a b d st Q si ra rb e q => by
  obtain ⟨i, j, rfl, rfl, z, rfl⟩ := onS_some e
  cases ra
  cases rb
  exact ⟨i, j, rfl, rfl, z, q _ H (fun _ _ h => h) (.str _)⟩⟩
def addL : D → D → Option D := fun a b => match a, b with
  | .lst xs, .lst ys => if xs.length + ys.length ≤ sizeLine then some (.lst (xs ++ ys)) else none
  | _, _ => none
theorem ok_addL : OpOk X (binaryOp .Add) addL := ⟨_, op_cat, fun rho H x y a b d st Q si ra rb e q => by
  cases a <;> cases b <;> first
    | cases e; done
    | skip
  rename_i xs ys
  have e' : (if xs.length + ys.length ≤ sizeLine then some (D.lst (xs ++ ys)) else none) = some d := e
  by_cases z : xs.length + ys.length ≤ sizeLine
  · rw [if_pos z] at e'
    cases e'
    cases ra with
    | lst a1 a2 a3 =>
      cases rb with
      | lst b1 b2 b3 =>
        refine ⟨_, _, _, _, rfl, rfl, a1, b1, by rw [a3.len, b3.len]; exact z, fun p hp => ?_⟩
        exact q _ _ (same_alloc hp) (.lst upd_same (si.free hp) ((a3.append b3).ex (Ex.same rho (same_alloc hp))))
  · rw [if_neg z] at e'
    cases e'⟩
/-- t + u -/
def addT : D → D → Option D := fun a b => match a, b with
  | .tup xs, .tup ys => if xs.length + ys.length ≤ sizeLine then some (.tup (xs ++ ys)) else none
  | _, _ => none
theorem ok_addT : OpOk X (binaryOp .Add) addT := ⟨_, op_catF, fun rho H x y a b d st Q si ra rb e q => by
  cases a <;> cases b <;> first
    | cases e; done
    | skip
  rename_i xs ys
  have e' : (if xs.length + ys.length ≤ sizeLine then some (D.tup (xs ++ ys)) else none) = some d := e
  by_cases z : xs.length + ys.length ≤ sizeLine
  · rw [if_pos z] at e'
    cases e'
    obtain ⟨pa, us, rfl, sa, la⟩ := ra.sqT
    obtain ⟨pb, vs, rfl, sb, lb⟩ := rb.sqT
    refine ⟨pa, pb, us, vs, rfl, rfl, sa, sb, by rw [la.len, lb.len]; exact z, fun h => ?_, fun _ h2 => ?_, fun p o hp hz => ?_⟩
    · subst h
      cases la
      exact q _ H (fun _ _ h => h) rb
    · subst h2
      cases lb
      rw [List.append_nil] at q
      exact q _ H (fun _ _ h => h) ra
    · exact q _ _ (same_alloc hp) (.tup upd_same hz (si.free hp) ((la.append lb).ex (Ex.same rho (same_alloc hp))))
  · rw [if_neg z] at e'
    cases e'⟩
/-- x * n of a text -/
def mulS : D → D → Option D := fun a b => match a, b with
  | .str x, .int n => if 0 ≤ n ∧ n ≤ 1000 ∧ x.length ≤ 1000 then some (.str (Txt.mul x n)) else none
  | _, _ => none
theorem mulOk_small {x : Str} {n : Int} (h0 : 0 ≤ n) (h1 : n ≤ 1000) (h2 : x.length ≤ 1000) : MulOk x n := by
  refine ⟨?_, fun h _ => ?_, fun _ _ => ?_⟩
  · have a : ¬ n < -(2 ^ 63 : Int) := by omega
    have b : ¬ n ≥ 2 ^ 63 := by omega
    rw [decide_eq_false a, decide_eq_false b]; rfl
  · have hn : 0 < n := by omega
    intro z
    have : (2 ^ 63 - 1 : Int) / 1000 ≤ (2 ^ 63 - 1) / n := by
      refine Int.le_ediv_of_mul_le hn ?_
      omega
    omega
  · unfold Builtin.Str.tooLong
    have : x.length * n.toNat ≤ 1000 * 1000 := Nat.mul_le_mul h2 (by omega)
    have hs := sizeLine_eq
    rw [hs]
    exact decide_eq_false (by omega)
theorem op_mulS : OpR X (binaryOp .Mult) (fun x y H Q => ∃ i n, x = .str i ∧ y = .int n ∧ MulOk i n ∧ Q (.str (Txt.mul i n)) H) := by
  intro pins s σ H x y v u Q I rx ry h
  obtain ⟨i, n, rfl, rfl, hz, q⟩ := h
  obtain ⟨t, rfl⟩ := rx
  obtain ⟨t', rfl⟩ := ry
  exact SB.mul hz fun t' k => ⟨.str _, H, I.tok _, ⟨_, rfl⟩, q⟩
theorem ok_mulS : OpOk X (binaryOp .Mult) mulS := ⟨_, op_mulS, fun rho H x y a b d st Q si ra rb e q => by
  cases a <;> cases b <;> first
    | cases e; done
    | skip
  rename_i xs n
  have e' : (if 0 ≤ n ∧ n ≤ 1000 ∧ xs.length ≤ 1000 then some (D.str (Txt.mul xs n)) else none) = some d := e
  by_cases z : 0 ≤ n ∧ n ≤ 1000 ∧ xs.length ≤ 1000
  · rw [if_pos z] at e'
    cases e'
    cases ra
    cases rb
    exact ⟨xs, n, rfl, rfl, mulOk_small z.1 z.2.1 z.2.2, q _ H (fun _ _ h => h) (.str _)⟩
  · rw [if_neg z] at e'
    cases e'⟩
def opAdd : D → D → Option D := orD addI (orD addS (orD addL addT))
theorem ok_add : OpOk X (binaryOp .Add) opAdd := ok_addI.or (ok_addS.or (ok_addL.or ok_addT))
def opMul : D → D → Option D := orD mulI mulS
theorem ok_mul : OpOk X (binaryOp .Mult) opMul := ok_mulI.or ok_mulS

/-! ### comparisons -/
mutual
def toPy : D → Option PyData
  | .non => some .none
  | .bl b => some (.bool b)
  | .int i => some (.int i)
  | .str x => some (.str x)
  | .tup ds => (toPyL ds).map .tuple
  | .lst ds => (toPyL ds).map .list
  | .dct _ => none
  | .scr _ => none
  | .ref _ => none
def toPyL : List D → Option (List PyData)
  | [] => some []
  | d :: ds => (toPy d).bind fun p => (toPyL ds).map fun q => p :: q
end
mutual
theorem Rep.dp {r : Rf} {H : Hp} : ∀ {d : D} {v : V} {p : PyData}, Rep K r H v d → toPy d = some p → Dp K H v p
  | .non, _, _, .non, h => by cases h; exact .non
  | .bl _, _, _, .bl _, h => by cases h; exact .bl _
  | .int _, _, _, .int _, h => by cases h; exact .int _
  | .str _, _, _, .str _, h => by cases h; exact .str _
  | .tup ds, _, p, h, e => by
    obtain ⟨q, h1, h2⟩ := Option.map_eq_some_iff.mp (show (toPyL ds).map PyData.tuple = some p from e)
    subst h2
    obtain ⟨a, xs, rfl, s, l⟩ := h.sqT
    exact .tup s (RepL.dp l h1)
  | .lst ds, _, p, .lst a b c, e => by
    obtain ⟨q, h1, h2⟩ := Option.map_eq_some_iff.mp (show (toPyL ds).map PyData.list = some p from e)
    subst h2
    exact .lst (.of a) (RepL.dp c h1)
  | .dct _, _, _, _, e => by cases e
  | .scr _, _, _, _, e => by cases e
  | .ref _, _, _, _, e => by cases e
theorem RepL.dp {r : Rf} {H : Hp} : ∀ {ds : List D} {vs : List V} {ps : List PyData}, RepL K r H vs ds → toPyL ds = some ps → DpAll K H vs ps
  | [], _, _, .nil, h => by cases h; exact .nil
  | d :: ds, _, ps, .cons a b, h => by
    obtain ⟨p, h1, h2⟩ := Option.bind_eq_some_iff.mp (show ((toPy d).bind fun p => (toPyL ds).map fun q => p :: q) = some ps from h)
    obtain ⟨q, h3, h4⟩ := Option.map_eq_some_iff.mp h2
    subst h4
    exact .cons (Rep.dp a h1) (RepL.dp b h3)
end
def opEq : D → D → Option D := fun a b => (toPy a).bind fun p => (toPy b).bind fun q => if SeqAt.shaped p = true ∧ SeqAt.shaped q = true then some (.bl (PyData.eqv p q)) else none
def opNe : D → D → Option D := fun a b => (toPy a).bind fun p => (toPy b).bind fun q => if SeqAt.shaped p = true ∧ SeqAt.shaped q = true then some (.bl (!PyData.eqv p q)) else none
theorem ok_eq {k : Nat} (g : GX X k) : OpOk X (compareOp .Eq) opEq := ⟨_, op_eqD g.room.units, fun rho H x y a b d st Q si ra rb e q => by
  obtain ⟨p, h1, h2⟩ := Option.bind_eq_some_iff.mp e
  obtain ⟨p2, h3, h4⟩ := Option.bind_eq_some_iff.mp h2
  by_cases z : SeqAt.shaped p = true ∧ SeqAt.shaped p2 = true
  · rw [if_pos z] at h4
    cases h4
    exact ⟨p, p2, ra.dp h1, rb.dp h3, z.1, z.2, q _ H (fun _ _ h => h) (.bl _)⟩
  · rw [if_neg z] at h4
    cases h4⟩
theorem ok_ne {k : Nat} (g : GX X k) : OpOk X (compareOp .NotEq) opNe := ⟨_, op_neD g.room.units, fun rho H x y a b d st Q si ra rb e q => by
  obtain ⟨p, h1, h2⟩ := Option.bind_eq_some_iff.mp e
  obtain ⟨p2, h3, h4⟩ := Option.bind_eq_some_iff.mp h2
  by_cases z : SeqAt.shaped p = true ∧ SeqAt.shaped p2 = true
  · rw [if_pos z] at h4
    cases h4
    exact ⟨p, p2, ra.dp h1, rb.dp h3, z.1, z.2, q _ H (fun _ _ h => h) (.bl _)⟩
  · rw [if_neg z] at h4
    cases h4⟩
def ltI : D → D → Option D := onI (fun _ _ => True) fun i j => .bl (decide (i < j))
def leI : D → D → Option D := onI (fun _ _ => True) fun i j => .bl (decide (i ≤ j))
def gtI : D → D → Option D := onI (fun _ _ => True) fun i j => .bl (decide (j < i))
def geI : D → D → Option D := onI (fun _ _ => True) fun i j => .bl (decide (j ≤ i))
theorem op_gt_str : OpR X (compareOp .Gt) (fun x y H Q => ∃ i j, x = .str i ∧ y = .str j ∧ Q (.bl (decide (j.cps.toList < i.cps.toList))) H) := by
  intro pins s σ H x y v u Q I rx ry h
  obtain ⟨i, j, rfl, rfl, q⟩ := h
  obtain ⟨t, rfl⟩ := rx
  obtain ⟨t', rfl⟩ := ry
  exact PySem.P.gt_str (fin_bl I q rfl)
theorem op_ge_str : OpR X (compareOp .GtE) (fun x y H Q => ∃ i j, x = .str i ∧ y = .str j ∧ Q (.bl (!decide (i.cps.toList < j.cps.toList))) H) := by
  intro pins s σ H x y v u Q I rx ry h
  obtain ⟨i, j, rfl, rfl, q⟩ := h
  obtain ⟨t, rfl⟩ := rx
  obtain ⟨t', rfl⟩ := ry
  exact PySem.P.ge_str (fin_bl I q rfl)
def ltS : D → D → Option D := onS (fun _ _ => True) fun i j => .bl (decide (i.cps.toList < j.cps.toList))
def leS : D → D → Option D := onS (fun _ _ => True) fun i j => .bl (!decide (j.cps.toList < i.cps.toList))
def gtS : D → D → Option D := onS (fun _ _ => True) fun i j => .bl (decide (j.cps.toList < i.cps.toList))
def geS : D → D → Option D := onS (fun _ _ => True) fun i j => .bl (!decide (i.cps.toList < j.cps.toList))
theorem ok_strB {f : Value → Value → Sem Value} {g : Str → Str → Bool} (h : OpR X f (fun x y H Q => ∃ i j, x = .str i ∧ y = .str j ∧ Q (.bl (g i j)) H)) : OpOk X f (onS (fun _ _ => True) fun i j => .bl (g i j)) :=
  ⟨_, h, fun rho H x y a b d st Q si ra rb e q => by
    obtain ⟨i, j, rfl, rfl, z, rfl⟩ := onS_some e
    cases ra
    cases rb
    exact ⟨i, j, rfl, rfl, q _ H (fun _ _ h => h) (.bl _)⟩⟩
def opLt : D → D → Option D := orD ltI ltS
def opLe : D → D → Option D := orD leI leS
def opGt : D → D → Option D := orD gtI gtS
def opGe : D → D → Option D := orD geI geS
theorem ok_lt : OpOk X (compareOp .Lt) opLt := (ok_intB op_lt).or (ok_strB op_lt_str)
theorem ok_le : OpOk X (compareOp .LtE) opLe := (ok_intB op_le).or (ok_strB op_le_str)
theorem ok_gt : OpOk X (compareOp .Gt) opGt := (ok_intB op_gt).or (ok_strB op_gt_str)
theorem ok_ge : OpOk X (compareOp .GtE) opGe := (ok_intB op_ge).or (ok_strB op_ge_str)
/-- is None -/
def isNon : D → Bool | .non => true | _ => false
def isN : D → D → Option D := fun a b => match b with | .non => some (.bl (isNon a)) | _ => none
def isntN : D → D → Option D := fun a b => match b with | .non => some (.bl (!isNon a)) | _ => none
theorem rep_non {r : Rf} {H : Hp} {v : V} {a : D} (h : Rep K r H v a) : decide (v = .non) = isNon a := by cases h <;> rfl
theorem ok_isN : OpOk X (compareOp .Is) isN := ⟨_, op_isN, fun rho H x y a b d st Q si ra rb e q => by
  cases b with
  | non =>
    cases e
    cases rb
    exact ⟨rfl, by rw [rep_non ra]; exact q _ H (fun _ _ h => h) (.bl _)⟩
  | _ => cases e⟩
theorem ok_isntN : OpOk X (compareOp .IsNot) isntN := ⟨_, op_notN, fun rho H x y a b d st Q si ra rb e q => by
  cases b with
  | non =>
    cases e
    cases rb
    exact ⟨rfl, by rw [rep_non ra]; exact q _ H (fun _ _ h => h) (.bl _)⟩
  | _ => cases e⟩
def isB : D → D → Option D := fun a b => match a, b with | .bl x, .bl y => some (.bl (decide (x = y))) | _, _ => none
def isntB : D → D → Option D := fun a b => match a, b with | .bl x, .bl y => some (.bl (!decide (x = y))) | _, _ => none
theorem ok_isB : OpOk X (compareOp .Is) isB := ⟨_, op_isBl, fun rho H x y a b d st Q si ra rb e q => by
  cases a <;> cases b <;> first
    | cases e; done
    | skip
  cases ra
  cases rb
  cases e
  exact ⟨_, _, rfl, rfl, q _ H (fun _ _ h => h) (.bl _)⟩⟩
theorem ok_isntB : OpOk X (compareOp .IsNot) isntB := ⟨_, op_notBl, fun rho H x y a b d st Q si ra rb e q => by
  cases a <;> cases b <;> first
    | cases e; done
    | skip
  cases ra
  cases rb
  cases e
  exact ⟨_, _, rfl, rfl, q _ H (fun _ _ h => h) (.bl _)⟩⟩
def opIs : D → D → Option D := orD isN isB
def opIsnt : D → D → Option D := orD isntN isntB
theorem ok_is : OpOk X (compareOp .Is) opIs := ok_isN.or ok_isB
theorem ok_isnt : OpOk X (compareOp .IsNot) opIsnt := ok_isntN.or ok_isntB
end
end DL
namespace DL
open PySem PySem.Spec PyProof.Rows L2
variable {K : PySem.W.Frag}
theorem orE {X : Cx} {e : Expr} {t t' : TE} (h : PE X e t) (h' : PE X e t') : PE X e (fun σ H Q => t σ H Q ∨ t' σ H Q) := ⟨fun pins s σ H Q I q => q.elim (h.run pins s σ H Q I) (h'.run pins s σ H Q I)⟩

/-! ### a[b] -/
def asKey : D → Option Key | .int i => some (.inl i) | .str x => some (.inr x) | _ => none
def valD (kvs : List (Key × D)) (k : Key) : Option D := (kvs.find? fun kv => decide (kv.1 = k)).map (·.2)
def ixD : D → D → Store → Option D := fun a b st => match a, b with
  | .lst ds, .int i => atI ds i
  | .tup ds, .int i => atI ds i
  | .str x, .int i => if x.length ≤ sizeLine then (atI x.cps.toList i).map fun c => .str ⟨#[c]⟩ else none
  | .scr ns, .int i => (atI ns i).map .int
  | .dct kvs, k => (asKey k).bind fun k => valD kvs k
  | .ref n, k => match st[n]? with
    | some (.lst ds) => (match k with | .int i => atI ds i | _ => none)
    | some (.dct kvs) => (asKey k).bind fun k => valD kvs k
    | some (.ldc kvs) => (asKey k).bind fun k => valD kvs k
    | _ => none
  | _, _ => none
def fSub (fa fb : F) : F := fun env st => (fa env st).bind fun p => (fb env p.2).bind fun q => (ixD p.1 q.1 q.2).map fun d => (d, q.2)
theorem RepL.atI {r : Rf} {H : Hp} {vs : List V} {ds : List D} (l : RepL K r H vs ds) {i : Int} {d : D} (h : L2.atI ds i = some d) : ∃ v, L2.atI vs i = some v ∧ Rep K r H v d := by
  unfold L2.atI at h ⊢
  obtain ⟨j, h1, h2⟩ := Option.bind_eq_some_iff.mp h
  obtain ⟨v, h3, h4⟩ := l.get h2
  exact ⟨v, by rw [l.len, h1]; exact h3, h4⟩
theorem atI_map {α β : Type} (f : α → β) (xs : List α) (i : Int) : L2.atI (xs.map f) i = (L2.atI xs i).map f := by
  unfold L2.atI
  rw [List.length_map]
  cases ixN xs.length i with
  | none => rfl
  | some j => simp
theorem RepK.val {r : Rf} {H : Hp} {k : Key} : ∀ {vs : List (Key × V)} {ds : List (Key × D)}, RepK K r H vs ds → ∀ {d : D}, valD ds k = some d → ∃ v, valV vs k = some v ∧ Rep K r H v d
  | _, _, .nil, d, h => by cases h
  | _, _, .cons (k := k0) (vs := vs) (ds := ds) a b, d, h => by
    unfold valD at h
    unfold valV
    rw [List.find?_cons] at h ⊢
    by_cases z : k0 = k
    · simp only [z, decide_true] at h ⊢
      cases h
      exact ⟨_, rfl, a⟩
    · simp only [z, decide_false] at h ⊢
      exact RepK.val b h
theorem asKey_rep {r : Rf} {H : Hp} {v : V} {d : D} {k : Key} (h : Rep K r H v d) (e : asKey d = some k) : v = kV k := by
  cases d <;> first
    | cases e; done
    | skip
  · cases h; cases e; rfl
  · cases h; cases e; rfl
theorem Rep.scrL {r : Rf} {H : Hp} {v : V} {ns : List Int} (h : Rep K r H v (.scr ns)) : ∃ a, v = .ref a ∧ SqL K H a (ns.map V.int) := by
  cases h with
  | scr a b => exact ⟨_, rfl, .inl (.inr ⟨_, a⟩)⟩
  | scrK a b c d e f => exact ⟨_, rfl, .inr ⟨_, _, _, a, b, c, d, e, f⟩⟩
theorem Rep.refI {r : Rf} {H : Hp} {v : V} {n : Nat} (h : Rep K r H v (.ref n)) : ∃ a, v = .ref a ∧ r.adr[n]? = some a := by
  cases h with
  | ref h => exact ⟨_, rfl, h⟩
section
variable {X : Cx} {W : WXd}
def isD : D → Store → Bool := fun a st => match a with
  | .dct _ => true
  | .ref n => (match st[n]? with | some (.dct _) => true | some (.ldc _) => true | _ => false)
  | _ => false
theorem ixReadsS {rho : Rf} {H : Hp} {x y : V} {a b d : D} {st : Store} (si : Sim K rho H st) (ra : Rep K rho H x a) (rb : Rep K rho H y b) (e : ixD a b st = some d) (nd : isD a st = false) :
    ∃ v, Rep K rho H v d ∧ ∀ Q : VK, Q v H → rIx K x y H Q := by
  unfold ixD at e
  split at e
  · rename_i ds i
    cases rb
    cases ra with
    | lst h1 h2 h3 =>
      obtain ⟨v, hv, rv⟩ := h3.atI e
      exact ⟨v, rv, fun Q q => .inl ⟨_, _, i, v, rfl, rfl, .of h1, hv, q⟩⟩
  · rename_i ds i
    cases rb
    obtain ⟨p, us, rfl, s, l⟩ := ra.sqT
    obtain ⟨v, hv, rv⟩ := l.atI e
    exact ⟨v, rv, fun Q q => .inr (.inl ⟨_, _, i, v, rfl, rfl, s, hv, q⟩)⟩
  · rename_i z i
    cases rb
    cases ra
    split at e
    · rename_i hz
      obtain ⟨c, hc, e2⟩ := Option.map_eq_some_iff.mp e
      subst e2
      exact ⟨_, .str _, fun Q q => .inr (.inr ⟨z, i, c, rfl, rfl, hz, hc, q⟩)⟩
    · cases e
  · rename_i ns i
    cases rb
    obtain ⟨p, rfl, s⟩ := ra.scrL
    obtain ⟨c, hc, e2⟩ := Option.map_eq_some_iff.mp e
    subst e2
    refine ⟨_, .int c, fun Q q => .inl ⟨_, _, i, .int c, rfl, rfl, s, ?_, q⟩⟩
    rw [atI_map, hc]; rfl
  · cases nd
  · rename_i n
    obtain ⟨p, rfl, hp⟩ := ra.refI
    split at e
    · rename_i ds hst
      split at e
      · rename_i i
        cases rb
        obtain ⟨av, xs, hx, l⟩ := si.ob n p _ hp hst
        obtain ⟨v, hv, rv⟩ := l.atI e
        exact ⟨v, rv, fun Q q => .inl ⟨_, _, i, v, rfl, rfl, .of hx, hv, q⟩⟩
      · cases e
    · rename_i kvs hst
      unfold isD at nd
      simp only [hst] at nd
      cases nd
    · rename_i kvs hst
      unfold isD at nd
      simp only [hst] at nd
      cases nd
    · cases e
  · cases e
theorem dget_rd {H : Hp} {a : Addr} {kvs : List (Key × V)} {k : Key} (e : Rd H a (.dK kvs)) : DGet H a (kV k) (valV kvs k) := .inl ⟨kvs, k, e, rfl, rfl⟩
theorem ixReadsD {rho : Rf} {H : Hp} {x y : V} {a b d : D} {st : Store} (si : Sim K rho H st) (ra : Rep K rho H x a) (rb : Rep K rho H y b) (e : ixD a b st = some d) (nd : isD a st = true) :
    ∃ p v, x = .ref p ∧ DGet H p y (some v) ∧ Rep K rho H v d := by
  cases a with
  | dct kvs =>
    obtain ⟨k, hk, h2⟩ := Option.bind_eq_some_iff.mp (show ((asKey b).bind fun k => valD kvs k) = some d from e)
    have ey := asKey_rep rb hk
    subst ey
    cases ra with
    | dct h1 n1 l1 =>
      obtain ⟨v, hv, rv⟩ := l1.val h2
      exact ⟨_, v, rfl, by rw [← hv]; exact dget_rd (.inr ⟨_, h1⟩), rv⟩
  | ref n =>
    have nd' : (match st[n]? with | some (.dct _) => true | some (.ldc _) => true | _ => false) = true := nd
    · split at nd'
      · rename_i kvs hst
        have e' : ((asKey b).bind fun k => valD kvs k) = some d := by
          unfold ixD at e
          simp only [hst] at e
          exact e
        obtain ⟨k, hk, h2⟩ := Option.bind_eq_some_iff.mp e'
        have ey := asKey_rep rb hk
        subst ey
        obtain ⟨p, rfl, hp⟩ := ra.refI
        obtain ⟨av, xs, hx, l⟩ := si.ob _ p _ hp hst
        obtain ⟨v, hv, rv⟩ := l.val h2
        exact ⟨_, v, rfl, by rw [← hv]; exact .k hx, rv⟩
      · rename_i kvs hst
        have e' : ((asKey b).bind fun k => valD kvs k) = some d := by
          unfold ixD at e
          simp only [hst] at e
          exact e
        obtain ⟨k, hk, h2⟩ := Option.bind_eq_some_iff.mp e'
        have ey := asKey_rep rb hk
        subst ey
        obtain ⟨p, rfl, hp⟩ := ra.refI
        obtain ⟨av, lk, o, xs, hx, l⟩ := si.ob _ p _ hp hst
        obtain ⟨v, hv, rv⟩ := l.val h2
        exact ⟨_, v, rfl, by rw [← hv]; exact dget_rd (.inr ⟨_, hx⟩), rv⟩
      · cases nd'
  | _ => cases nd
theorem de_sub {a b : Expr} {fa fb : F} {pos : Pos} {k : Nat} (g : GX X k) (ha : DE X a fa) (hb : DE X b fb) (hs : PlainIx b := by intro _ _; rfl) : DE X (.Subscript a b pos) (fSub fa fb) :=
  weakE (orE (pe_ix ix_seq ha hb hs) (pe_dget (hu_of g.room) ha hb hs)) fun σ H Q hh => by
  obtain ⟨r, env, st, d, st', he, hs, hf, q⟩ := hh
  obtain ⟨⟨x, s1⟩, h1, hf1⟩ := Option.bind_eq_some_iff.mp hf
  obtain ⟨⟨y, s2⟩, h2, hf2⟩ := Option.bind_eq_some_iff.mp hf1
  obtain ⟨d', h3, hf3⟩ := Option.map_eq_some_iff.mp hf2
  cases hf3
  cases z : isD x s2 with
  | true =>
    refine .inr (two he hs h1 h2 fun u v r' H' e1 q1 pu pv => ?_)
    obtain ⟨p, w, ep, dg, rw'⟩ := ixReadsD q1 pu pv h3 z
    exact ⟨p, w, ep, dg, q w r' H' e1 q1 rw'⟩
  | false =>
    refine .inl (two he hs h1 h2 fun u v r' H' e1 q1 pu pv => ?_)
    obtain ⟨w, rw', k'⟩ := ixReadsS q1 pu pv h3 z
    exact k' Q (q w r' H' e1 q1 rw')

/-! ### a[lo:hi] -/
abbrev FO := Lo → Store → Option (Option Int × Store)
def oNone : FO := fun _ st => some (none, st)
def oSome (f : F) : FO := fun env st => (f env st).bind fun p => match p.1 with | .int i => some (some i, p.2) | _ => none
def tO (K : PySem.W.Frag) (f : FO) : TO := fun σ H Q => ∃ r env st o st', EnvR K r H env σ ∧ Sim K r H st ∧ f env st = some (o, st') ∧ ∀ r' H', Ext r H r' H' → Sim K r' H' st' → Q o H'
abbrev DO' (X : Cx) (e : Option Expr) (f : FO) : Prop := PO X e (tO X.K f)
theorem weakO {e : Option Expr} {t t' : TO} (h : PO X e t) (i : ∀ σ H Q, t' σ H Q → t σ H Q) : PO X e t' := ⟨fun pins s σ H Q I q => h.run pins s σ H Q I (i σ H Q q)⟩
theorem do_none : DO' X none oNone := weakO po_none fun σ H Q hh => by
  obtain ⟨r, env, st, o, st', he, hs, hf, q⟩ := hh
  cases hf
  exact q r H (.refl r H) hs
theorem do_some {e : Expr} {f : F} (h : DE X e f) : DO' X (some e) (oSome f) := weakO (po_some h) fun σ H Q hh => by
  obtain ⟨r, env, st, o, st', he, hs, hf, q⟩ := hh
  obtain ⟨⟨x, s1⟩, h1, hf1⟩ := Option.bind_eq_some_iff.mp hf
  cases x with
  | int i =>
    cases hf1
    exact ⟨r, env, st, _, _, he, hs, h1, fun v r1 H1 e1 q1 p1 => by
      cases p1
      exact ⟨i, rfl, q r1 H1 e1 q1⟩⟩
  | _ => cases hf1
def cutD {α : Type} (xs : List α) (lo hi : Option Int) : List α := (xs.drop (HT.sIx xs.length 0 lo)).take (HT.sIx xs.length xs.length hi - HT.sIx xs.length 0 lo)
def slD : D → Option Int → Option Int → Option D := fun a lo hi => match a with
  | .lst ds => some (.lst (cutD ds lo hi))
  | .tup ds => some (.tup (cutD ds lo hi))
  | _ => none
theorem RepL.cut {r : Rf} {H : Hp} {vs : List V} {ds : List D} (l : RepL K r H vs ds) (lo hi : Option Int) : RepL K r H (cutV vs lo hi) (cutD ds lo hi) := by
  unfold cutV cutD
  rw [l.len]
  exact (l.drop _).take _
def fSlice (fa : F) (lo hi : FO) : F := fun env st => (fa env st).bind fun p => (lo env p.2).bind fun q => (hi env q.2).bind fun w => (slD p.1 q.1 w.1).map fun d => (d, w.2)
theorem cut_all {α : Type} {xs : List α} {lo hi : Option Int} (h : HT.sIx xs.length 0 lo = 0 ∧ HT.sIx xs.length xs.length hi = xs.length) : cutD xs lo hi = xs := by
  unfold cutD
  rw [h.1, h.2]
  simp
theorem de_slice {a : Expr} {lo hi : Option Expr} {fa : F} {fl fh : FO} {p2 pos : Pos} (ha : DE X a fa) (hl : DO' X lo fl) (hh : DO' X hi fh) : DE X (.Subscript a (.Slice lo hi none p2) pos) (fSlice fa fl fh) :=
  weakE (pe_slice (sl_list.or sl_tupF) ha hl hh) fun σ H Q hh => by
  obtain ⟨r, env, st, d, st', he, hs, hf, q⟩ := hh
  obtain ⟨⟨x, s1⟩, h1, hf1⟩ := Option.bind_eq_some_iff.mp hf
  obtain ⟨⟨i, s2⟩, h2, hf2⟩ := Option.bind_eq_some_iff.mp hf1
  obtain ⟨⟨j, s3⟩, h3, hf3⟩ := Option.bind_eq_some_iff.mp hf2
  obtain ⟨d', h4, hf4⟩ := Option.map_eq_some_iff.mp hf3
  cases hf4
  refine ⟨r, env, st, x, s1, he, hs, h1, fun u r1 H1 e1 q1 p1 => ⟨r1, env, s1, i, s2, he.ext e1, q1, h2, fun r2 H2 e2 q2 => ⟨r2, env, s2, j, _, (he.ext e1).ext e2, q2, h3, fun r3 H3 e3 q3 => ?_⟩⟩⟩
  have p3 := (p1.ext e2).ext e3
  have e13 := (e1.trans e2).trans e3
  cases x with
  | lst ds =>
    cases h4
    cases p3 with
    | lst g1 g2 g3 => exact .inl ⟨_, _, rfl, .of g1, fun p hp => q _ _ _ (e13.trans (q3.ext (same_alloc hp))) (q3.same (same_alloc hp)) (.lst upd_same (q3.free hp) ((g3.cut i j).ex (Ex.same r3 (same_alloc hp))))⟩
  | tup ds =>
    cases h4
    obtain ⟨p, us, rfl, s, l⟩ := p3.sqT
    refine .inr ⟨p, us, rfl, s, fun w => ?_, fun p' o hp hz => ?_⟩
    · rw [l.len] at w
      rw [cut_all w] at q
      exact q _ r3 H3 e13 q3 p3
    · exact q _ _ _ (e13.trans (q3.ext (same_alloc hp))) (q3.same (same_alloc hp)) (.tup upd_same hz (q3.free hp) ((l.cut i j).ex (Ex.same r3 (same_alloc hp))))
  | _ => cases h4

/-! ### what is written: an object of the store -/
theorem Sim.set {r : Rf} {H : Hp} {st : Store} (s : Sim K r H st) {n : Nat} {a : Addr} {o : HO} {ob : Ob} (ha : r.adr[n]? = some a) (hav : r.av a) (hob : ObR K r (upd H a o) a ob) (nl : ∀ o u, H a ≠ some (.frz o u)) : Ext r H r (upd H a o) ∧ Sim K r (upd H a o) (st.set n ob) := by
  have hm : a ∈ r.adr := List.mem_of_getElem? ha
  have nlk : ∀ q, r.lk q → q ≠ a := fun q z y => by
    obtain ⟨o, u, h⟩ := s.lkd q z
    exact nl o u (by rw [← y]; exact h)
  have ex : Ext r H r (upd H a o) := ⟨⟨⟨[], by simp⟩, fun q x z m => by rw [upd_ne (fun y => m (by rw [y]; exact hav))]; exact z, fun q z m => absurd z m⟩,
    fun q v m => ⟨by rw [upd_ne (fun y => m (by rw [y]; exact hm))], v, m⟩, fun _ => Iff.rfl, fun q v => by rw [upd_ne (nlk q v)]⟩
  refine ⟨ex, by rw [List.length_set]; exact s.len, s.nd, fun m b x h1 h2 => ?_, fun q v => ?_, fun q v => ?_, fun q v => by rw [upd_ne (nlk q v)]; exact s.lkd q v⟩
  · by_cases z : n = m
    · subst z
      rw [ha] at h1
      cases h1
      by_cases hl : n < st.length
      · rw [List.getElem?_set_self hl] at h2
        cases h2
        exact hob
      · rw [List.getElem?_eq_none (by rw [List.length_set]; omega)] at h2
        cases h2
    · rw [List.getElem?_set_ne z] at h2
      have nb : b ≠ a := fun y => z (by
        subst y
        obtain ⟨l1, e1⟩ := List.getElem?_eq_some_iff.mp ha
        obtain ⟨l2, e2⟩ := List.getElem?_eq_some_iff.mp h1
        exact (List.getElem_inj s.nd).mp (e1.trans e2.symm))
      exact (s.ob m b x h1 h2).ex ex.toEx fun v => ⟨by rw [upd_ne nb], v⟩
  · by_cases z : q = a
    · exact ⟨_, by rw [z]; exact upd_same⟩
    · rw [upd_ne z]; exact s.there q v
  · by_cases z : q = a
    · exact ⟨_, by rw [z]; exact upd_same⟩
    · rw [upd_ne z]; exact s.old q v
def putD (kvs : List (Key × D)) (k : Key) (v : D) : List (Key × D) := if kvs.any (fun kv => decide (kv.1 = k)) then kvs.map fun kv => if kv.1 = k then (kv.1, v) else kv else kvs ++ [(k, v)]
theorem RepK.len {r : Rf} {H : Hp} : ∀ {vs : List (Key × V)} {ds : List (Key × D)}, RepK K r H vs ds → vs.length = ds.length
  | _, _, .nil => rfl
  | _, _, .cons _ b => by rw [List.length_cons, List.length_cons, RepK.len b]
theorem RepK.any {r : Rf} {H : Hp} {k : Key} : ∀ {vs : List (Key × V)} {ds : List (Key × D)}, RepK K r H vs ds → (vs.any fun kv => decide (kv.1 = k)) = ds.any fun kv => decide (kv.1 = k)
  | _, _, .nil => rfl
  | _, _, .cons _ b => by rw [List.any_cons, List.any_cons, RepK.any b]
theorem RepK.repl {r : Rf} {H : Hp} {k : Key} {v : V} {d : D} (q : Rep K r H v d) : ∀ {vs : List (Key × V)} {ds : List (Key × D)}, RepK K r H vs ds → RepK K r H (vs.map fun kv => if kv.1 = k then (kv.1, v) else kv) (ds.map fun kv => if kv.1 = k then (kv.1, d) else kv)
  | _, _, .nil => .nil
  | _, _, .cons (k := k0) a b => by
    rw [List.map_cons, List.map_cons]
    by_cases z : k0 = k
    · rw [if_pos z, if_pos z]
      exact .cons q (RepK.repl q b)
    · rw [if_neg z, if_neg z]
      exact .cons a (RepK.repl q b)
theorem RepK.snoc {r : Rf} {H : Hp} {k : Key} {v : V} {d : D} (q : Rep K r H v d) : ∀ {vs : List (Key × V)} {ds : List (Key × D)}, RepK K r H vs ds → RepK K r H (vs ++ [(k, v)]) (ds ++ [(k, d)])
  | _, _, .nil => .cons q .nil
  | _, _, .cons a b => .cons a (RepK.snoc q b)
theorem RepK.put {r : Rf} {H : Hp} {k : Key} {v : V} {d : D} (q : Rep K r H v d) {vs : List (Key × V)} {ds : List (Key × D)} (l : RepK K r H vs ds) : RepK K r H (putK vs k v) (putD ds k d) := by
  unfold putK putD
  rw [l.any]
  split
  · exact l.repl q
  · exact l.snoc q
/-- o[k] = v, o a dict of the store -/
def sPut (fo fk fv : F) : FS := fun env st => (fv env st).bind fun p => (fo env p.2).bind fun q => (fk env q.2).bind fun w => match q.1 with
  | .ref n => (match w.2[n]? with
    | some (.dct kvs) => (asKey w.1).bind fun k => if kvs.length < sizeLine then some (.nx, env, w.2.set n (.dct (putD kvs k p.1))) else none
    | _ => none)
  | _ => none
theorem ds_put {o i value : Expr} {fo fk fv : F} {pos pos' : Pos} {k : Nat} (g : GX X k) (ho : DE X o fo) (hi : DE X i fk) (hv : DE X value fv) (hs : swapsWith value (some (.Subscript o i pos')) pos.line X.env = pure false := by rfl) :
    DS X W (.Assign [.Subscript o i pos'] value pos) (sPut fo fk fv) := weakS (ps_dput (hu_of g.room) ho hi hv hs) fun D' σ H hh => by
  obtain ⟨r, env, st, out, env', st', he, hs, hf, q⟩ := hh
  obtain ⟨⟨x, s1⟩, h1, hf1⟩ := Option.bind_eq_some_iff.mp hf
  obtain ⟨⟨y, s2⟩, h2, hf2⟩ := Option.bind_eq_some_iff.mp hf1
  obtain ⟨⟨z, s3⟩, h3, hf3⟩ := Option.bind_eq_some_iff.mp hf2
  cases y with
  | ref n =>
    simp only at hf3
    split at hf3
    · rename_i kvs hst
      obtain ⟨kk, hk, hf4⟩ := Option.bind_eq_some_iff.mp hf3
      split at hf4
      · rename_i hl
        cases hf4
        refine ⟨r, env, st, x, s1, he, hs, h1, fun xv r1 H1 e1 q1 p1 => ⟨r1, env, s1, _, s2, he.ext e1, q1, h2, fun yv r2 H2 e2 q2 p2 => ⟨r2, env, s2, z, s3, (he.ext e1).ext e2, q2, h3, fun zv r3 H3 e3 q3 p3 => ?_⟩⟩⟩
        have ez := asKey_rep p3 hk
        subst ez
        obtain ⟨p, rfl, hp⟩ := (p2.ext e3).refI
        obtain ⟨av, xs, hx, l⟩ := q3.ob _ p _ hp hst
        have px : Rep X.K r3 H3 xv x := (p1.ext e2).ext e3
        refine ⟨p, _, rfl, .k hx (by rw [l.len]; exact hl), ?_⟩
        have ee : Ex r3 H3 r3 (upd H3 p (.dK (putK xs kk xv))) := ⟨⟨[], by simp⟩, fun a o w m => by rw [upd_ne (fun y => m (by rw [y]; exact av))]; exact w, fun a w m => absurd w m⟩
        obtain ⟨w1, w2⟩ := q3.set (o := .dK (putK xs kk xv)) (ob := .dct (putD kvs kk x)) hp av ⟨av, _, upd_same, (l.put px).ex ee⟩ (fun _ _ z => by rw [hx] at z; cases z)
        exact q σ r3 _ (((e1.trans e2).trans e3).trans w1) ((((he.ext e1).ext e2).ext e3).ext w1) w2
      · cases hf4
    · cases hf3
  | _ => cases hf3
/-- {k: v, ..}, into the store -/
def evP : List (F × F) → Lo → Store → Option (List (Key × D) × Store)
  | [], _, st => some ([], st)
  | (fk, fv) :: r, env, st => (fk env st).bind fun p => (asKey p.1).bind fun k => (fv env p.2).bind fun q => (evP r env q.2).map fun z => ((k, q.1) :: z.1, z.2)
def mergeD (kvs more : List (Key × D)) : List (Key × D) := more.foldl (fun acc kv => putD acc kv.1 kv.2) kvs
def fDict (ps : List (F × F)) : F := fun env st => (evP ps env st).bind fun q => if q.1.length ≤ 15 then some (.ref q.2.length, q.2 ++ [.dct (mergeD [] q.1)]) else none
inductive DPs (X : Cx) (pos : Pos) : List (Option Expr) → List Expr → List (F × F) → Prop
  | nil : DPs X pos [] [] []
  | cons {k v : Expr} {ks : List (Option Expr)} {vs : List Expr} {fk fv : F} {ps : List (F × F)} : DE X k fk → DE X v fv → DPs X pos ks vs ps → DPs X pos (some k :: ks) (v :: vs) ((fk, fv) :: ps)
theorem DPs.pps {pos : Pos} : ∀ {ks : List (Option Expr)} {vs : List Expr} {ps : List (F × F)}, DPs X pos ks vs ps → PPs X pos ks vs (ps.map fun p => (tD X.K p.1, tD X.K p.2))
  | _, _, _, .nil => pps_nil
  | _, _, _, .cons a b c => pps_cons a b (DPs.pps c)
theorem RepK.merge {r : Rf} {H : Hp} : ∀ {more : List (Key × V)} {md : List (Key × D)} {kvs : List (Key × V)} {ds : List (Key × D)}, RepK K r H more md → RepK K r H kvs ds → RepK K r H (mergeK kvs more) (mergeD ds md)
  | _, _, _, _, .nil, q => q
  | _, _, kvs, ds, .cons (k := k) (v := v) (vs := more) (d := d) (ds := md) a b, q => by
    have := RepK.merge b (q.put (k := k) a)
    exact this
theorem pairsRead : ∀ {ps : List (F × F)} {r : Rf} {env : Lo} {st st' : Store} {σ : L2.St} {H : Hp} {kds : List (Key × D)} {Q : List (V × V) → Hp → Prop}, EnvR K r H env σ → Sim K r H st → evP ps env st = some (kds, st') →
    (∀ r' H' (kvs : List (Key × V)), Ext r H r' H' → Sim K r' H' st' → RepK K r' H' kvs kds → Q (kvs.map fun kv => (kV kv.1, kv.2)) H') → tPairs (ps.map fun p => (tD K p.1, tD K p.2)) σ H Q
  | [], r, env, st, st', σ, H, kds, Q, he, hs, hf, q => by
    cases hf
    exact q r H [] (.refl r H) hs .nil
  | (fk, fv) :: ps, r, env, st, st', σ, H, kds, Q, he, hs, hf, q => by
    obtain ⟨⟨x, s1⟩, h1, hf1⟩ := Option.bind_eq_some_iff.mp hf
    obtain ⟨k, hk, hf2⟩ := Option.bind_eq_some_iff.mp hf1
    obtain ⟨⟨y, s2⟩, h2, hf3⟩ := Option.bind_eq_some_iff.mp hf2
    obtain ⟨⟨zs, s3⟩, h3, hf4⟩ := Option.map_eq_some_iff.mp hf3
    cases hf4
    refine ⟨r, env, st, x, s1, he, hs, h1, fun xv r1 H1 e1 q1 p1 => ⟨r1, env, s1, y, s2, he.ext e1, q1, h2, fun yv r2 H2 e2 q2 p2 => ?_⟩⟩
    have ex := asKey_rep p1 hk
    subst ex
    refine pairsRead (ps := ps) ((he.ext e1).ext e2) q2 h3 fun r3 H3 kvs e3 q3 l3 => ?_
    exact q r3 H3 ((k, yv) :: kvs) ((e1.trans e2).trans e3) q3 (.cons (p2.ext e3) l3)
theorem de_dict {pos : Pos} {keys : List (Option Expr)} {values : List Expr} {ps : List (F × F)} (h : DPs X pos keys values ps) (hall : keys.all (·.isSome) = true := by rfl) (hl : keys.length = values.length := by rfl) (h0 : keys ≠ [] := by (intro z; cases z)) (h15 : keys.length ≤ 15 := by decide) :
    DE X (.Dict keys values pos) (fDict ps) := weakE (pe_disp h.pps hall hl h0 h15) fun σ H Q hh => by
  obtain ⟨r, env, st, d, st', he, hs, hf, q⟩ := hh
  obtain ⟨⟨kds, s1⟩, h1, hf1⟩ := Option.bind_eq_some_iff.mp hf
  by_cases hz : kds.length ≤ 15
  case neg => rw [if_neg hz] at hf1; cases hf1
  rw [if_pos hz] at hf1
  cases hf1
  intro p hp
  obtain ⟨e0, hd0⟩ := hideNew (o := .dK []) hs hp
  refine pairsRead (he.ext e0) hd0.sim h1 fun r' H' kvs e1 q1 l1 => ?_
  obtain ⟨hd1, hk⟩ := hd0.ext e1 q1
  refine ⟨hk.trans upd_same, kvs, rfl, by rw [l1.len]; exact hz, ?_⟩
  have ee : Ex r' H' (r'.add p) (upd H' p (.dK (mergeK [] kvs))) := ⟨⟨[p], rfl⟩, fun a o w m => by rw [upd_ne (fun y => m (by rw [y]; exact hd1.av))]; exact w, fun a w m => absurd w m⟩
  obtain ⟨w1, w2, w3⟩ := hd1.add (o := .dK (mergeK [] kvs)) (ob := .dct (mergeD [] kds)) (e0.trans e1) hs hp ⟨hd1.av, _, upd_same, (RepK.merge l1 .nil).ex ee⟩
  exact q _ _ _ w1 w2 (w3 _ rfl)
/-- {} as a value -/
theorem de_dict0 {pos : Pos} : DE X (.Dict [] [] pos) (fC (.dct [])) := weakE (pe_frz pe_dnewK) fun σ H Q hh => by
  obtain ⟨r, env, st, d, st', he, hs, hf, q⟩ := hh
  cases hf
  refine fun p hp => ⟨p, _, rfl, upd_same, trivial, fun o => ?_⟩
  rw [upd_upd]
  exact q _ r _ (hs.ext (same_alloc hp)) (hs.same (same_alloc hp)) (.dct upd_same (hs.free hp) .nil)
/-- a list display, into the store -/
def fNewL (fa : FA) : F := fun env st => (fa env st).bind fun p => if p.1.length ≤ sizeLine then some (.ref p.2.length, p.2 ++ [.lst p.1]) else none
theorem de_newL {es : List Expr} {fa : FA} {pos : Pos} (h : DA X es fa) : DE X (.List es pos) (fNewL fa) := weakE (pe_lst h) fun σ H Q hh => by
  obtain ⟨r, env, st, d, st', he, hs, hf, q⟩ := hh
  obtain ⟨⟨ds, s1⟩, h1, hf1⟩ := Option.bind_eq_some_iff.mp hf
  by_cases hz : ds.length ≤ sizeLine
  case neg => rw [if_neg hz] at hf1; cases hf1
  rw [if_pos hz] at hf1
  cases hf1
  refine ⟨r, env, st, ds, s1, he, hs, h1, fun vs r1 H1 e1 q1 l1 => ⟨by rw [l1.len]; exact hz, fun p hp => ?_⟩⟩
  obtain ⟨e0, hd0⟩ := hideNew (o := .lst vs) q1 hp
  have ee : Ex r1 H1 ((r1.hide p).add p) (upd (upd H1 p (.lst vs)) p (.lst vs)) := by
    rw [upd_upd]
    refine ⟨⟨[p], rfl⟩, fun a o w m => same_alloc hp a o w, fun a w m => ?_⟩
    rcases w with w | w
    · exact absurd w m
    · rw [w]; exact hp
  obtain ⟨w1, w2, w3⟩ := hd0.add (o := .lst vs) (ob := .lst ds) e0 q1 hp ⟨hd0.av, _, upd_same, l1.ex ee⟩
  have key := q (.ref p) _ _ (e1.trans w1) w2 (w3 _ rfl)
  rw [upd_upd] at key
  exact key
/-- xs.append(e), xs of the store -/
def isLs : Option Ob → Bool | some (.lst _) => true | _ => false
def appAt (n : Nat) (d : D) (st : Store) : Option (D × Store) := match st[n]? with
  | some (.lst ds) => if ds.length < sizeLine then some (.non, st.set n (.lst (ds ++ [d]))) else none
  | _ => none
def fApp (fo fe : F) : F := fun env st => (fo env st).bind fun p => match p.1 with
  | .ref n => if isLs p.2[n]? = true then (fe env p.2).bind fun q => appAt n q.1 q.2 else none
  | _ => none
theorem de_append {o e : Expr} {fo fe : F} {apos cpos : Pos} (ho : DE X o fo) (hv : DE X e fe) (hbase : attributeBase o "append" X.env (eval o X.env) = eval o X.env := by rfl)
    (hfew : ((backTo cpos (starEach [e] X.env)).all (fun x => !x.1) && (backToKw cpos (keywordEach [] X.env)).all (fun x => x.1.isSome)
      && decide (([e] : List Expr).length + ([] : List Keyword).length + (if ([] : List Keyword).isEmpty then 0 else 1) < 30)) = true := by rfl)
    (hline : (apos.endLine == cpos.line) = true := by rfl) (hs : starEach [e] X.env = [(false, eval e X.env)] := by rfl) :
    DE X (.Call (.Attribute o "append" apos) [e] [] cpos) (fApp fo fe) :=
  weakE (pe_bm PySem.F.plainAttrs_list PySem.F.slot_list_append PySem.F.type_list_append mt_append ho (pa_cons hv pa_nil hs) hbase hfew hline hs rfl) fun σ H Q hh => by
  obtain ⟨r, env, st, d, st', he, hs, hf, q⟩ := hh
  obtain ⟨⟨x, s1⟩, h1, hf1⟩ := Option.bind_eq_some_iff.mp hf
  cases x with
  | ref n =>
    have hf1' : (if isLs s1[n]? = true then (fe env s1).bind fun q => appAt n q.1 q.2 else none) = some (d, st') := hf1
    by_cases hl1 : isLs s1[n]? = true
    case neg => rw [if_neg hl1] at hf1'; cases hf1'
    rw [if_pos hl1] at hf1'
    obtain ⟨⟨y, s2⟩, h2, hf2⟩ := Option.bind_eq_some_iff.mp hf1'
    have hf3 : appAt n y s2 = some (d, st') := hf2
    unfold appAt at hf3
    split at hf3
    · rename_i ds hst
      split at hf3
      · rename_i hl
        cases hf3
        refine ⟨r, env, st, _, s1, he, hs, h1, fun xv r1 H1 e1 q1 p1 => ?_⟩
        obtain ⟨p, rfl, hp⟩ := p1.refI
        refine ⟨.inl ⟨rfl, ?_⟩, r1, env, s1, y, s2, he.ext e1, q1, h2, fun yv r2 H2 e2 q2 p2 => ?_⟩
        · unfold isLs at hl1
          split at hl1
          · rename_i es hes
            obtain ⟨av, xs, hx, l⟩ := q1.ob n p _ hp hes
            exact ⟨xs, .of hx⟩
          · cases hl1
        · have hp2 := e2.get hp
          obtain ⟨av, xs, hx, l⟩ := q2.ob n p _ hp2 hst
          refine ⟨p, xs, yv, rfl, rfl, hx, by rw [l.len]; exact hl, ?_⟩
          have ee : Ex r2 H2 r2 (upd H2 p (.lst (xs ++ [yv]))) := ⟨⟨[], by simp⟩, fun a o w m => by rw [upd_ne (fun y => m (by rw [y]; exact av))]; exact w, fun a w m => absurd w m⟩
          obtain ⟨w1, w2⟩ := q2.set (o := .lst (xs ++ [yv])) (ob := .lst (ds ++ [y])) hp2 av ⟨av, _, upd_same, (l.append (.cons p2 .nil)).ex ee⟩ (fun _ _ z => by rw [hx] at z; cases z)
          exact q _ _ _ ((e1.trans e2).trans w1) w2 .non
      · cases hf3
    · cases hf3
  | _ => cases hf1
end
end DL
namespace DL
open PySem PySem.Spec PyProof.Rows L2
variable {K : PySem.W.Frag}

/-! ### a def -/
abbrev FM := List D → Store → Option (D × Store)
/-- a def computes m (nothing is raised) -/
structure FnD (P : Program) (w : World) (K : PySem.W.Frag) (mg : Str → Option Value) (base : Heap) (k : Nat) (f : Addr) (fd : FuncData) (ps : List Str) (m : FM) : Prop where
  run : ∀ (A : Around) (outer : List Env) (s : Shared) (H : Hp) (args : Args) (us : List Value) (vs : List V) (Q : VK) (rho : Rf) (ds : List D) (st st' : Store) (d : D),
    A.guards = some [] → Room k A → Env0 P w K mg base A outer s H → BindsTo s fd args (ps.zip us) → Vals vs us → vs.length = ps.length → RepL K rho H vs ds → Sim K rho H st → m ds st = some (d, st') →
    (∀ v rho' H', Ext rho H rho' H' → Sim K rho' H' st' → Rep K rho' H' v d → Q v H') → codeAny (model P w) A (.call (.ref f) args) (CR CX0 outer P w H s Q E0) s
theorem FnD.up {P : Program} {w : World} {mg : Str → Option Value} {base : Heap} {j k : Nat} {f : Addr} {fd : FuncData} {ps : List Str} {m : FM} (h : FnD P w K mg base j f fd ps m) (l : j ≤ k) : FnD P w K mg base k f fd ps m :=
  ⟨fun A outer s H args us vs Q rho ds st st' d hg hr => h.run A outer s H args us vs Q rho ds st st' d hg (hr.mono l)⟩
/-- a body's context -/
abbrev cxD (P : Program) (w : World) (K : PySem.W.Frag) (mg : Str → Option Value) (base : Heap) (N : List Str) (qual : Str) (sc : Scope) (f : Addr) (cd : Value) (A : Around) (outer : List Env) (s : Shared) (H : Hp) : Cx :=
  (cxOf CX0 P w K mg base N qual sc f cd A outer s H E0).nox
def startD (n : Nat) (ds : List D) : Lo := ds.map some ++ List.replicate (n - ds.length) none
def outM : Option (Out × Lo × Store) → Option (D × Store)
  | some (.rt d, _, s) => some (d, s)
  | some (.nx, _, s) => some (.non, s)
  | _ => none
def mOf (n : Nat) (g : FS) : FM := fun ds st => outM (g (startD n ds) st)
theorem start_env {r : Rf} {H : Hp} {vs : List V} {ds : List D} {N : List Str} (l : RepL K r H vs ds) (hn : vs.length ≤ N.length) : EnvR K r H (startD N.length ds) (L2.start N vs) := by
  refine ⟨?_, fun i d h => ?_⟩
  · unfold startD L2.start
    rw [List.length_append, List.length_append, List.length_map, List.length_map, List.length_replicate, List.length_replicate, l.len]
  · unfold startD at h
    unfold L2.start
    by_cases hi : i < ds.length
    · rw [List.getElem?_append_left (by rw [List.length_map]; exact hi), List.getElem?_map] at h
      obtain ⟨d', h1, h2⟩ := Option.map_eq_some_iff.mp h
      cases h2
      obtain ⟨v, h3, h4⟩ := l.get h1
      refine ⟨v, ?_, h4⟩
      rw [List.getElem?_append_left (by rw [List.length_map, l.len]; exact hi), List.getElem?_map, h3]; rfl
    · rw [List.getElem?_append_right (by rw [List.length_map]; omega), List.getElem?_replicate] at h
      split at h <;> cases h
theorem FnD.of {P : Program} {w : World} {mg : Str → Option Value} {base : Heap} {x qual : Str} {sd : Stmt} {f : Addr} {fd : FuncData} {N ps : List Str} {k : Nat} {g : FS} (F : Fun K x qual sd f fd) (S : FnScope N ps (defScope sd))
    (hb : ∀ (cd : Value) (A : Around) (outer : List Env) (s : Shared) (H : Hp), GX (cxD P w K mg base N qual (defScope sd) f cd A outer s H) k → DSs (cxD P w K mg base N qual (defScope sd) f cd A outer s H) (fun _ _ _ _ => False) (defBody sd) g) :
    FnD P w K mg base (k + 1) f fd ps (mOf N.length g) := by
  obtain ⟨oc, od, kV, doc, pm, an, cd, ct, osl, rfl, lk, hcd⟩ := F.ex
  refine ⟨fun A outer s H args us vs Q rho ds st st' d hgd hr e0 hbind rv hlen rds hs hm hq => ?_⟩
  have hps : ps.length ≤ N.length := by
    have := congrArg List.length S.pre
    rw [List.length_take] at this
    omega
  have KX : K.In s.heap := e0.mod.kin.keeps fun b o e => (e0.bs b o e).1
  have lim : s.heap.NoLimit := e0.mod.nolimit.keeps fun b o e => (e0.bs b o e).1
  have kinds : ∀ y ∈ ps.zip us, (defScope sd).names.lookup y.1 = some .local ∨ ((defScope sd).names.lookup y.1 = some .cell ∧ ((cellsFrom (s.heap.objs.size + 1) (defScope sd).names []).lookup y.1).isSome = true) := fun ⟨n, v⟩ hy =>
    (S.par n (List.of_mem_zip hy).1).elim .inl fun q => .inr ⟨q, PySem.W.cellsFrom_some _ _ _ (.inl q)⟩
  refine codeAny_call_function hr.depth (KX _ _ lk) rfl S.co S.gen rfl (PySem.W.codeRec_of KX hcd) (hbind _ _ _ _ (wpAny_newFunctionEnv_cells S.kind kinds fun env he s1 x => ?_))
  subst he
  refine ⟨lim.keeps x.toInCall.keep, codeAny_func ?_⟩
  have gx : GX (cxD P w K mg base N qual (defScope sd) f cd A outer s H) k := ⟨rfl, S.nd, hr.deeper _, hgd⟩
  have I0 : Inv (cxOf CX0 P w K mg base N qual (defScope sd) f cd A outer s H E0) [] (L2.start N vs) H s1 := inv_start S hr.hd e0 hlen rv x
  -- what the body does
  obtain ⟨o, env', h1, h2⟩ : ∃ o env', g (startD N.length ds) st = some (o, env', st') ∧ (o = .rt d ∨ (o = .nx ∧ d = .non)) := by
    unfold mOf at hm
    cases z : g (startD N.length ds) st with
    | none => rw [z] at hm; cases hm
    | some q =>
      obtain ⟨o, e, s2⟩ := q
      rw [z] at hm
      cases o with
      | rt d' => cases hm; exact ⟨_, _, rfl, .inl rfl⟩
      | nx => cases hm; exact ⟨_, _, rfl, .inr ⟨rfl, rfl⟩⟩
      | bk => cases hm
      | ct => cases hm
      | er _ _ _ => cases hm
  have run := (hb cd A outer s H gx).run [] s1 (L2.start N vs) H { nx := fun _ H' => Q .non H', rt := Q } (I0.wish _) ⟨rho, _, st, o, env', st', start_env rds (by omega), hs, h1, by
    rcases h2 with e | ⟨e, e2⟩
    · subst e
      exact hq
    · subst e e2
      exact fun σ' r' H' ex _ hs' => hq .non r' H' ex hs' .non⟩
  refine wpAny_mono run (fun fl s' q => ?_) fun _ _ z => False.elim z
  have back : ∀ {σ' : L2.St} {H' : Hp} {v : V} {u : Value}, Inv (cxD P w K mg base N qual (defScope sd) f cd A outer s H) [] σ' H' s' → RelV v u → Q v H' → CE outer P w H s Q u s' := fun {σ' H' v u} J r z => ⟨v, H', J.os, J.bare, J.base, J.hok, r, z⟩
  cases fl with
  | ret u =>
    obtain ⟨v, σ', H', J, r, z⟩ := q
    exact back J r z
  | next =>
    obtain ⟨σ', H', J, z⟩ := q
    exact back (v := V.non) (u := Value.none) J rfl z
  | brk => obtain ⟨_, _, _, z⟩ := q; exact z.elim
  | cont => obtain ⟨_, _, _, z⟩ := q; exact z.elim

/-! ### a call -/
def fCall (m : FM) (fa : FA) : F := fun env st => (fa env st).bind fun p => m p.1 p.2
section
variable {X : Cx} {W : WXd} {k : Nat} {f : Addr} {fd : FuncData} {ps : List Str} {m : FM} {x : Str} {p pos : Pos} {e : Expr} {es : List Expr}
theorem runD {pins : List (Addr × Obj)} {σ : L2.St} {H : Hp} {s : Shared} {Q : VK} {us : List Value} {vs : List V} {rho : Rf} {ds : List D} {st st' : Store} {d : D} (Fd : FnD X.prog X.w X.K X.mg X.base k f fd ps m) (gx : GX X k) (hb : Binds X.K fd ps [])
    (I : Inv X pins σ H s) (r : Vals vs us) (hl : vs.length = ps.length) (rd : RepL X.K rho H vs ds) (hs : Sim X.K rho H st) (hm : m ds st = some (d, st')) (hq : ∀ v rho' H', Ext rho H rho' H' → Sim X.K rho' H' st' → Rep X.K rho' H' v d → Q v H') :
    wpAny (model X.prog X.w) X.A (call (.ref f) us) (EP X pins σ Q) X.xe s := by
  have hu : us.length = ps.length := by rw [← r.length]; exact hl
  have hbt : BindsTo s fd ⟨us, []⟩ (ps.zip us) := by
    have := hb s us I.kIn (by rw [List.append_nil]; exact hu)
    rwa [List.append_nil] at this
  refine wpAny_call (codeAny_mono (Fd.run X.A X.stack s H ⟨us, []⟩ us vs Q rho ds st st' d gx.gd gx.room I.env0 hbt r hl rd hs hm hq) fun z s' hz => ?_)
  cases z with
  | error e => exact False.elim hz
  | ok fl =>
    cases fl with
    | ret u => exact I.after hz
    | next => exact False.elim hz
    | brk => exact False.elim hz
    | cont => exact False.elim hz
/-- f(e, ..), every parameter given by place -/
theorem de_call (Fd : FnD X.prog X.w X.K X.mg X.base k f fd ps m) (gx : GX X k) (hg : Gl X x) (hm : X.mg x = some (.ref f)) (hk : PySem.W.keepIn X.K (.ref f) = true) (hb : Binds X.K fd ps []) {fa : FA}
    (ha : DA X (e :: es) fa) (hl : (e :: es).length = ps.length := by rfl) (hdb : (x == ("__debug__" : Str)) = false := by decide) (he : starEach (e :: es) X.env = (false, eval e X.env) :: starEach es X.env := by rfl) (hpl : (backTo pos (starEach es X.env)).any (·.1) = false := by rfl)
    (hn : ∀ env st ds st', fa env st = some (ds, st') → ds.length = (e :: es).length) :
    DE X (.Call (.Name x p) (e :: es) [] pos) (fCall m fa) := by
  refine ⟨fun pins s σ H Q I h => wpAny_Call_Name_kw (ld_glob I hg hm ?_ hdb)⟩
  obtain ⟨r, env, st, d, st', he', hs, hf, q⟩ := h
  obtain ⟨⟨ds, s1⟩, h1, h2⟩ := Option.bind_eq_some_iff.mp hf
  refine PySem.W.callWith_K (h₀ := X.base) I.ok.mod.kin hk (thn (ha.run pos pins s σ H (fun vs H1 => ∃ r1, Ext r H r1 H1 ∧ Sim X.K r1 H1 s1 ∧ RepL X.K r1 H1 vs ds) I ⟨r, env, st, ds, s1, he', hs, h1, fun vs r1 H1 e1 q1 l1 => ⟨r1, e1, q1, l1⟩⟩) fun us sa hz => ?_) he hpl
  obtain ⟨vs, H1, I1, rv, r1, e1, q1, l1⟩ := hz
  exact ⟨I1.kIn, runD Fd gx hb I1 rv (by rw [l1.len, hn _ _ _ _ h1]; exact hl) l1 q1 h2 fun v r2 H2 e2 q2 p2 => q v r2 H2 (e1.trans e2) q2 p2⟩
end
theorem aNil_n : ∀ (env : Lo) (st : Store) (ds : List D) (st' : Store), aNil env st = some (ds, st') → ds.length = 0 := fun _ _ _ _ h => by cases h; rfl
theorem aCons_n {f : F} {g : FA} {n : Nat} (h : ∀ (env : Lo) (st : Store) (ds : List D) (st' : Store), g env st = some (ds, st') → ds.length = n) :
    ∀ (env : Lo) (st : Store) (ds : List D) (st' : Store), aCons f g env st = some (ds, st') → ds.length = n + 1 := fun env st ds st' hh => by
  obtain ⟨x, s1, ys, s2, h1, h2, e⟩ := aCons_some hh
  cases e
  rw [List.length_cons, h _ _ _ _ h2]

/-! ### the law's end -/
theorem law_end {P : Program} {w : World} {mg mb : Str → Option Value} {k : Nat} {fa a : Addr} {fd : FuncData} {x : Str} {m : FM} {s1 : Shared} {vs : List Value} {ns : List Int}
    (KX : K.In s1.heap) (hns : s1.heap.Ns mainGlobals mg) (hb : s1.heap.Ns builtinsNs mb) (hbb : ∀ x : Str, x ≠ "__name__" → mb x = bootBuiltins x) (hlim : s1.heap.NoLimit) (hg : s1.gens = #[])
    (ha : s1.heap.get? a = some { cls := .type "list", data := .seq vs.toArray }) (hi : IntsAre vs ns) (hl : ns.length ≤ sizeLine) (hr : Room k callerA)
    (Fd : ∀ base : Heap, K.In base → base.Ns mainGlobals mg → FnD P w K mg base k fa fd [x] m) (hbind : ∀ (s : Shared) (u : Value), BindsTo s fd ⟨[u], []⟩ [(x, u)])
    (hm : ∃ st', m [.scr ns] [] = some (.bl true, st')) :
    codeAny (model P w) callerA (.call (.ref fa) ⟨[.ref a], []⟩) (fun r s' => r = .ok (.ret (.bool true)) ∧ OldK s1.heap s'.heap ∧ s'.os = s1.os ∧ AllBare s'.gens) s1 := by
  obtain ⟨st', hm⟩ := hm
  have rv := vals_ints hi
  have lenV := hi.length
  let ob : Obj := { cls := .type "list", data := .seq vs.toArray }
  let emp : Rf := ⟨[], fun _ => False, fun _ => False⟩
  -- what is tracked: nothing, or the script alone
  have go : ∀ H : Hp, (∀ b u, H b = some u → b = a ∧ u = .frz ob (.lst (ns.map V.int))) → (H a ≠ none → K.lookup a = none) → Rep K emp H (.ref a) (.scr ns) →
      codeAny (model P w) callerA (.call (.ref fa) ⟨[.ref a], []⟩) (fun r s' => r = .ok (.ret (.bool true)) ∧ OldK s1.heap s'.heap ∧ s'.os = s1.os ∧ AllBare s'.gens) s1 := by
    intro H hH hK hrep
    have hok : HOk P w H s1.heap := fun b u e => by
      obtain ⟨rfl, rfl⟩ := hH b u e
      exact ⟨ha, by rw [List.length_map]; exact hl, vs, _, rv, ha⟩
    have keepNs : ∀ {b : Addr} {m : Str → Option Value}, s1.heap.Ns b m → (hidT s1.heap H).Ns b m := fun {b m} ⟨o, es, ep, e, d, r⟩ => by
      refine ⟨o, es, ep, hidT_get e ?_, d, r⟩
      cases q : H b with
      | none => rfl
      | some u =>
        obtain ⟨rfl, _⟩ := hH b u q
        rw [ha] at e
        cases e
        cases (show Data.seq vs.toArray _ = Data.dict es ep from d)
    have KB : K.In (hidT s1.heap H) := fun b o e => hidT_get (KX b o e) (by
      cases q : H b with
      | none => rfl
      | some u =>
        obtain ⟨rfl, _⟩ := hH b u q
        rw [hK (by rw [q]; simp)] at e
        cases e)
    have e0 : Env0 P w K mg (hidT s1.heap H) callerA [] s1 H :=
      ⟨rfl, ⟨KB, keepNs hns, ⟨mb, keepNs hb, hbb⟩, let ⟨mc, h1, h2⟩ := hlim; ⟨mc, keepNs h1, h2⟩⟩, fun b o e => of_hidT e, Nat.le_of_eq (hidT_size _ _), trivial, fun b hb => absurd (show b ∈ ([] : List Addr) from hb) (by simp), hok, .of_eq hg⟩
    have sim : Sim K emp H [] := ⟨rfl, List.nodup_nil, fun n a o h => by simp [emp] at h, fun p h => h.elim, fun p h => (by cases h), fun p h => h.elim⟩
    refine codeAny_mono ((Fd _ KB (keepNs hns)).run callerA [] s1 H ⟨[.ref a], []⟩ [.ref a] [.ref a] (fun v _ => v = .bl true) emp [.scr ns] [] st' (.bl true) rfl hr e0 (hbind s1 (.ref a)) (.cons rfl .nil) rfl (.cons hrep .nil) sim hm (fun v _ _ _ _ h => by cases h; rfl)) fun r s' h => ?_
    cases r with
    | error e => exact False.elim h
    | ok fl =>
      cases fl with
      | next => exact False.elim h
      | brk => exact False.elim h
      | cont => exact False.elim h
      | ret u =>
        obtain ⟨v, H', os, bare, un, hok', r', q⟩ := h
        subst q
        obtain rfl : u = Value.bool true := r'
        refine ⟨rfl, OldK.of_keep fun b o e => ?_, os, bare⟩
        cases q : H b with
        | none => exact un.keep b o e q (fun z => absurd (show b ∈ ([] : List Addr) from z) (by simp)) (by simp)
        | some u =>
          obtain ⟨rfl, rfl⟩ := hH b u q
          obtain ⟨e2, _⟩ := hok' b _ (un.frzs b _ _ q)
          rw [ha] at e
          cases e
          exact e2
  cases hk : K.lookup a with
  | some o =>
    have e := KX a o hk
    rw [ha] at e
    cases e
    exact go (fun _ => none) (fun _ _ h => by cases h) (fun h => absurd rfl h) (.scrK hk rfl rfl rfl (by rw [List.size_toArray, lenV]; exact hl) (by simpa using rv))
  | none =>
    refine go (fun b => if b = a then some (.frz ob (.lst (ns.map V.int))) else none) (fun b u h => ?_) (fun _ => hk) (.scr (if_pos rfl) fun h => h)
    by_cases z : b = a
    · have := (if_pos z).symm.trans h
      cases this
      exact ⟨z, rfl⟩
    · have := (if_neg z).symm.trans h
      cases this
/-- the goal that k_head leaves -/
theorem walkD {l : PySem.W.OpenLaw} {n k : Nat} {q : Program} {loose : List Str} {XP : (Str → Option Value) → Heap → Prop} {YP : World → Heap → Prop} {d : DefRec} {KK : Params → PySem.W.Frag} {x : Str} {m : FM}
    (hn : l.most = some n) (hn2 : n ≤ sizeLine) (hdf : d.params.defaults = []) (hr : Room k callerA) (hY : ∀ (w : World) (h : Heap), YP w h → (KK w.params).In h)
    (Fd : ∀ (w : World) (mg : Str → Option Value) (fa : Addr) (h : Heap), (KK w.params).In h → h.Ns mainGlobals mg → mg d.name = some (.ref fa) →
      ∃ fd : FuncData, (∀ (s : Shared) (u : Value), BindsTo s fd ⟨[u], []⟩ [(x, u)]) ∧ ∀ base : Heap, (KK w.params).In base → base.Ns mainGlobals mg → FnD l.prog w (KK w.params) mg base k fa fd [x] m)
    (hm : ∀ ns : List Int, ns.length ≤ n → (∀ z ∈ ns, Builtin.Int.intBits z ≤ 1048576) → ∃ st', m [.scr ns] [] = some (.bl true, st')) :
    PySem.W.WalkO q loose XP YP l.row.toRowW d [] (fun f vs => PySem.call f vs) := by
  refine Att.attach_callB hn hdf fun w s0 s1 mg mb fa o pm cd doc a vs ns G Y ho hd hcd hmg hobj hints hlen hbits hg => ?_
  obtain ⟨fd, hb, hF⟩ := Fd w mg fa _ (hY w _ Y) G.T.g hmg
  exact law_end (hY w _ Y) G.T.g G.T.b G.T.builtins G.T.nolimit hg hobj hints (Nat.le_trans hlen hn2) hr hF hb (hm ns hlen hbits)
end DL
namespace DL
open PySem PySem.Spec PyProof.Rows L2
variable {K : PySem.W.Frag}
/-! ### built-ins -/
section
variable {X : Cx} {W : WXd}
theorem CallOk.or {f : Value} {g g' : List D → Store → Option D} (h : CallOk X f g) (h' : CallOk X f g') : CallOk X f (fun ds st => (g ds st).or (g' ds st)) := by
  obtain ⟨r, hr, k⟩ := h
  obtain ⟨r', hr', k'⟩ := h'
  refine ⟨_, hr.or hr', fun rho H xs ds d st Q rl si e q => ?_⟩
  cases z : g ds st with
  | some c =>
    simp only [z, Option.some_or] at e
    cases e
    exact .inl (k rho H xs ds _ st Q rl si z q)
  | none =>
    simp only [z, Option.none_or] at e
    exact .inr (k' rho H xs ds d st Q rl si e q)
/-- len -/
def lenL : List D → Store → Option D := fun ds st => match ds with
  | [.str x] => if x.length ≤ sizeLine then some (.int x.length) else none
  | [.lst xs] => some (.int xs.length)
  | [.tup xs] => some (.int xs.length)
  | [.scr ns] => some (.int ns.length)
  | [.ref n] => (match st[n]? with | some (.lst xs) => some (.int xs.length) | _ => none)
  | _ => none
theorem lst1 {r : Rf} {H : Hp} {vs : List V} {d : D} (l : RepL K r H vs [d]) : ∃ v, vs = [v] ∧ Rep K r H v d := by
  cases l with
  | cons a b => cases b; exact ⟨_, rfl, a⟩
theorem lst2 {r : Rf} {H : Hp} {vs : List V} {d e : D} (l : RepL K r H vs [d, e]) : ∃ v u, vs = [v, u] ∧ Rep K r H v d ∧ Rep K r H u e := by
  cases l with
  | cons a b =>
    obtain ⟨u, rfl, c⟩ := lst1 b
    exact ⟨_, u, rfl, a, c⟩
theorem ok_lenL : CallOk X (.builtin "len") lenL := ⟨_, call_len, fun rho H xs ds d st Q rl si e q => by
  unfold lenL at e
  split at e
  · obtain ⟨v, rfl, p⟩ := lst1 rl
    cases p
    split at e
    · rename_i hl
      cases e
      exact ⟨_, _, rfl, ⟨hl, rfl⟩, q _ H (fun _ _ h => h) (.int _)⟩
    · cases e
  · obtain ⟨v, rfl, p⟩ := lst1 rl
    cases e
    cases p with
    | lst a b c => exact ⟨_, _, rfl, .inl ⟨_, .of a, rfl⟩, by rw [c.len]; exact q _ H (fun _ _ h => h) (.int _)⟩
  · obtain ⟨v, rfl, p⟩ := lst1 rl
    cases e
    obtain ⟨a, us, rfl, s, l⟩ := p.sqT
    exact ⟨_, _, rfl, .inr ⟨_, s, rfl⟩, by rw [l.len]; exact q _ H (fun _ _ h => h) (.int _)⟩
  · rename_i ns
    obtain ⟨v, rfl, p⟩ := lst1 rl
    cases e
    obtain ⟨a, rfl, s⟩ := p.scrL
    exact ⟨_, _, rfl, .inl ⟨_, s, rfl⟩, by rw [List.length_map]; exact q _ H (fun _ _ h => h) (.int _)⟩
  · obtain ⟨v, rfl, p⟩ := lst1 rl
    obtain ⟨a, rfl, hp⟩ := p.refI
    split at e
    · rename_i xs hst
      cases e
      obtain ⟨av, us, hx, l⟩ := si.ob _ a _ hp hst
      exact ⟨_, _, rfl, .inl ⟨_, .of hx, rfl⟩, by rw [l.len]; exact q _ H (fun _ _ h => h) (.int _)⟩
    · cases e
  · cases e⟩
theorem call_lenK : CallR X (.builtin "len") (fun xs H Q => ∃ p kvs, xs = [.ref p] ∧ Rd H p (.dK kvs) ∧ Q (.int kvs.length) H) := by
  intro pins s σ H xs us Q I r h
  obtain ⟨p, kvs, rfl, hp, q⟩ := h
  obtain ⟨u, rfl, rx⟩ := vals1 r
  cases rx
  exact d_len I hp fun t s' I' => ⟨.int kvs.length, H, I', ⟨t, rfl⟩, q⟩
def lenK : List D → Store → Option D := fun ds st => match ds with
  | [.dct kvs] => some (.int kvs.length)
  | [.ref n] => (match st[n]? with | some (.dct kvs) => some (.int kvs.length) | some (.ldc kvs) => some (.int kvs.length) | _ => none)
  | _ => none
theorem ok_lenK : CallOk X (.builtin "len") lenK := ⟨_, call_lenK, fun rho H xs ds d st Q rl si e q => by
  unfold lenK at e
  split at e
  · obtain ⟨v, rfl, p⟩ := lst1 rl
    cases e
    cases p with
    | dct a b c => exact ⟨_, _, rfl, .inr ⟨_, a⟩, by rw [c.len]; exact q _ H (fun _ _ h => h) (.int _)⟩
  · obtain ⟨v, rfl, p⟩ := lst1 rl
    obtain ⟨a, rfl, hp⟩ := p.refI
    split at e
    · rename_i xs hst
      cases e
      obtain ⟨av, us, hx, l⟩ := si.ob _ a _ hp hst
      exact ⟨_, _, rfl, .inl hx, by rw [l.len]; exact q _ H (fun _ _ h => h) (.int _)⟩
    · rename_i xs hst
      cases e
      obtain ⟨av, lk, o, us, hx, l⟩ := si.ob _ a _ hp hst
      exact ⟨_, _, rfl, .inr ⟨_, hx⟩, by rw [l.len]; exact q _ H (fun _ _ h => h) (.int _)⟩
    · cases e
  · cases e⟩
def bLen : List D → Store → Option D := fun ds st => (lenL ds st).or (lenK ds st)
theorem ok_len : CallOk X (.builtin "len") bLen := ok_lenL.or ok_lenK
/-- list(x) -/
def listSeq : List D → Store → Option D := fun ds st => match ds with
  | [.lst xs] => some (.lst xs)
  | [.tup xs] => some (.lst xs)
  | [.scr ns] => some (.lst (ns.map .int))
  | [.ref n] => (match st[n]? with | some (.lst xs) => some (.lst xs) | _ => none)
  | _ => none
theorem fresh_lst {r : Rf} {H : Hp} {st : Store} {p : Addr} {vs : List V} {ds : List D} (si : Sim K r H st) (hp : H p = none) (l : RepL K r H vs ds) : Rep K r (upd H p (.lst vs)) (.ref p) (.lst ds) := .lst upd_same (si.free hp) (l.ex (Ex.same r (same_alloc hp)))
theorem fresh_tup {r : Rf} {H : Hp} {st : Store} {p : Addr} {o : Obj} {vs : List V} {ds : List D} (si : Sim K r H st) (hp : H p = none) (hz : o.dict = none) (l : RepL K r H vs ds) : Rep K r (upd H p (.frz o (.tup vs))) (.ref p) (.tup ds) := .tup upd_same hz (si.free hp) (l.ex (Ex.same r (same_alloc hp)))
theorem ok_listSeq : CallOk X (.type "list") listSeq := ⟨_, call_list_of, fun rho H xs ds d st Q rl si e q => by
  unfold listSeq at e
  split at e
  · obtain ⟨v, rfl, p⟩ := lst1 rl
    cases e
    cases p with
    | lst a b c => exact ⟨_, _, rfl, .inl (.of a), fun l hl => q _ _ (same_alloc hl) (fresh_lst si hl c)⟩
  · obtain ⟨v, rfl, p⟩ := lst1 rl
    cases e
    obtain ⟨a, us, rfl, s, l⟩ := p.sqT
    exact ⟨_, _, rfl, .inr s, fun p hl => q _ _ (same_alloc hl) (fresh_lst si hl l)⟩
  · obtain ⟨v, rfl, p⟩ := lst1 rl
    cases e
    obtain ⟨a, rfl, s⟩ := p.scrL
    exact ⟨_, _, rfl, .inl s, fun p hl => q _ _ (same_alloc hl) (fresh_lst si hl (RepL.ofInts _))⟩
  · obtain ⟨v, rfl, p⟩ := lst1 rl
    obtain ⟨a, rfl, hp⟩ := p.refI
    split at e
    · rename_i xs hst
      cases e
      obtain ⟨av, us, hx, l⟩ := si.ob _ a _ hp hst
      exact ⟨_, _, rfl, .inl (.of hx), fun p hl => q _ _ (same_alloc hl) (fresh_lst si hl l)⟩
    · cases e
  · cases e⟩
theorem call_list_txt (hc : X.calm = true) : CallR X (.type "list") (fun xs H Q => ∃ x, xs = [.str x] ∧ x.length ≤ sizeLine ∧ ∀ p, H p = none → Q (.ref p) (upd H p (.lst (x.cps.toList.map fun c => V.str ⟨#[c]⟩)))) := by
  intro pins s σ H xs us Q I r h
  obtain ⟨x, rfl, hz, q⟩ := h
  obtain ⟨u, rfl, t, rfl⟩ := vals1 r
  refine call_list_str (I.ok.hd hc) x t (fun h' tk acc c' hk hS hacc => ?_) hz
  refine ⟨.ref s.heap.objs.size, _, I.laid (t' := tk) hk (Nat.le_refl _) ?_, rfl, q _ (I.hok.fresh (Nat.le_refl _))⟩
  refine ⟨by rw [List.length_map, Array.length_toList]; exact hz, acc.toList, c', ?_, by simpa using hS⟩
  refine vals_of_at ?_ fun j v w hv hw => ?_
  · rw [List.length_map, Array.length_toList, Array.length_toList, hacc.1]
  · obtain ⟨c, t2, h1, h2⟩ := hacc.2 j w (by simpa using hw)
    rw [List.getElem?_map] at hv
    have : x.cps.toList[j]? = some c := by simpa using h1
    rw [this] at hv
    cases hv
    exact ⟨t2, h2⟩
def listTxt : List D → Store → Option D := fun ds _ => match ds with
  | [.str x] => if x.length ≤ sizeLine then some (.lst (x.cps.toList.map fun c => .str ⟨#[c]⟩)) else none
  | _ => none
theorem RepL.signs {r : Rf} {H : Hp} : ∀ l : List Nat, RepL K r H (l.map fun c => V.str ⟨#[c]⟩) (l.map fun c => D.str ⟨#[c]⟩)
  | [] => .nil
  | c :: l => .cons (.str _) (RepL.signs l)
theorem ok_listTxt {k : Nat} (g : GX X k) : CallOk X (.type "list") listTxt := ⟨_, call_list_txt g.calm, fun rho H xs ds d st Q rl si e q => by
  unfold listTxt at e
  split at e
  · obtain ⟨v, rfl, p⟩ := lst1 rl
    cases p
    split at e
    · rename_i hl
      cases e
      exact ⟨_, rfl, hl, fun p hp => q _ _ (same_alloc hp) (fresh_lst si hp (RepL.signs _))⟩
    · cases e
  · cases e⟩
def bList : List D → Store → Option D := fun ds st => (listSeq ds st).or (listTxt ds st)
theorem ok_list {k : Nat} (g : GX X k) : CallOk X (.type "list") bList := ok_listSeq.or (ok_listTxt g)
/-- tuple(x) -/
def bTuple : List D → Store → Option D := fun ds st => match ds with
  | [.lst xs] => some (.tup xs)
  | [.tup xs] => some (.tup xs)
  | [.ref n] => (match st[n]? with | some (.lst xs) => some (.tup xs) | _ => none)
  | _ => none
theorem ok_tuple : CallOk X (.type "tuple") bTuple := ⟨_, call_tupF, fun rho H xs ds d st Q rl si e q => by
  unfold bTuple at e
  split at e
  · obtain ⟨v, rfl, p⟩ := lst1 rl
    cases e
    cases p with
    | lst a b c => exact ⟨_, _, rfl, .inl ⟨.of a, fun l o hl hz => q _ _ (same_alloc hl) (fresh_tup si hl hz c)⟩⟩
  · obtain ⟨v, rfl, p⟩ := lst1 rl
    cases e
    obtain ⟨a, us, rfl, s, l⟩ := p.sqT
    exact ⟨_, _, rfl, .inr ⟨s, q _ H (fun _ _ h => h) p⟩⟩
  · obtain ⟨v, rfl, p⟩ := lst1 rl
    obtain ⟨a, rfl, hp⟩ := p.refI
    split at e
    · rename_i xs hst
      cases e
      obtain ⟨av, us, hx, l⟩ := si.ob _ a _ hp hst
      exact ⟨_, _, rfl, .inl ⟨.of hx, fun p o hl hz => q _ _ (same_alloc hl) (fresh_tup si hl hz l)⟩⟩
    · cases e
  · cases e⟩
/-- int(x) of an int, a bool -/
def bInt : List D → Store → Option D := fun ds _ => match ds with
  | [.int i] => some (.int i)
  | [.bl b] => some (.int (if b then 1 else 0))
  | _ => none
theorem ok_intT : CallOk X (.type "int") bInt := ⟨_, call_int1, fun rho H xs ds d st Q rl si e q => by
  unfold bInt at e
  split at e
  · obtain ⟨v, rfl, p⟩ := lst1 rl
    cases p
    cases e
    exact .inl ⟨_, rfl, q _ H (fun _ _ h => h) (.int _)⟩
  · obtain ⟨v, rfl, p⟩ := lst1 rl
    cases p
    cases e
    exact .inr ⟨_, rfl, q _ H (fun _ _ h => h) (.int _)⟩
  · cases e⟩
def bMax : List D → Store → Option D := fun ds _ => match ds with | [.int i, .int j] => some (.int (if j > i then j else i)) | _ => none
def bMin : List D → Store → Option D := fun ds _ => match ds with | [.int i, .int j] => some (.int (if j < i then j else i)) | _ => none
theorem ok_max {k : Nat} (g : GX X k) : CallOk X (.builtin "max") bMax := ⟨_, call_max2 g.calm, fun rho H xs ds d st Q rl si e q => by
  unfold bMax at e
  split at e
  · obtain ⟨v, u, rfl, p1, p2⟩ := lst2 rl
    cases p1
    cases p2
    cases e
    exact ⟨_, _, rfl, q _ H (fun _ _ h => h) (.int _)⟩
  · cases e⟩
theorem ok_min {k : Nat} (g : GX X k) : CallOk X (.builtin "min") bMin := ⟨_, call_min2 g.calm, fun rho H xs ds d st Q rl si e q => by
  unfold bMin at e
  split at e
  · obtain ⟨v, u, rfl, p1, p2⟩ := lst2 rl
    cases p1
    cases p2
    cases e
    exact ⟨_, _, rfl, q _ H (fun _ _ h => h) (.int _)⟩
  · cases e⟩
/-- all, any of bools -/
def bools : List D → Option (List Bool)
  | [] => some []
  | .bl b :: ds => (bools ds).map (b :: ·)
  | _ :: _ => none
theorem RepL.bools {r : Rf} {H : Hp} : ∀ {ds : List D} {vs : List V} {bs : List Bool}, RepL K r H vs ds → DL.bools ds = some bs → vs = bs.map V.bl
  | [], _, _, .nil, h => by cases h; rfl
  | .bl b :: ds, _, _, .cons (.bl _) l, h => by
    obtain ⟨c, h1, h2⟩ := Option.map_eq_some_iff.mp (show (DL.bools ds).map (b :: ·) = _ from h)
    subst h2
    rw [List.map_cons, RepL.bools l h1]
  | .non :: _, _, _, _, h => by cases h
  | .int _ :: _, _, _, _, h => by cases h
  | .str _ :: _, _, _, _, h => by cases h
  | .tup _ :: _, _, _, _, h => by cases h
  | .lst _ :: _, _, _, _, h => by cases h
  | .dct _ :: _, _, _, _, h => by cases h
  | .scr _ :: _, _, _, _, h => by cases h
  | .ref _ :: _, _, _, _, h => by cases h
def bAll : List D → Store → Option D := fun ds _ => match ds with | [.lst xs] => (bools xs).map fun bs => .bl (bs.all id) | _ => none
def bAny : List D → Store → Option D := fun ds _ => match ds with | [.lst xs] => (bools xs).map fun bs => .bl (bs.any id) | _ => none
theorem ok_all {k : Nat} (g : GX X k) : CallOk X (.builtin "all") bAll := ⟨_, cr_all g.calm, fun rho H xs ds d st Q rl si e q => by
  unfold bAll at e
  split at e
  · obtain ⟨v, rfl, p⟩ := lst1 rl
    obtain ⟨bs, h1, h2⟩ := Option.map_eq_some_iff.mp e
    subst h2
    cases p with
    | lst a b c =>
      have := c.bools h1
      subst this
      exact ⟨_, bs, rfl, .of a, q _ H (fun _ _ h => h) (.bl _)⟩
  · cases e⟩
theorem ok_any {k : Nat} (g : GX X k) : CallOk X (.builtin "any") bAny := ⟨_, cr_any g.calm, fun rho H xs ds d st Q rl si e q => by
  unfold bAny at e
  split at e
  · obtain ⟨v, rfl, p⟩ := lst1 rl
    obtain ⟨bs, h1, h2⟩ := Option.map_eq_some_iff.mp e
    subst h2
    cases p with
    | lst a b c =>
      have := c.bools h1
      subst this
      exact ⟨_, bs, rfl, .of a, q _ H (fun _ _ h => h) (.bl _)⟩
  · cases e⟩
/-- sep.join(texts) -/
def strsD : List D → Option (List Str)
  | [] => some []
  | .str x :: ds => (strsD ds).map (x :: ·)
  | _ :: _ => none
theorem RepL.strs' {r : Rf} {H : Hp} : ∀ {ds : List D} {vs : List V} {ys : List Str}, RepL K r H vs ds → strsD ds = some ys → vs = ys.map V.str
  | [], _, _, .nil, h => by cases h; rfl
  | .str b :: ds, _, _, .cons (.str _) l, h => by
    obtain ⟨c, h1, h2⟩ := Option.map_eq_some_iff.mp (show (strsD ds).map (b :: ·) = _ from h)
    subst h2
    rw [List.map_cons, RepL.strs' l h1]
  | .non :: _, _, _, _, h => by cases h
  | .int _ :: _, _, _, _, h => by cases h
  | .bl _ :: _, _, _, _, h => by cases h
  | .tup _ :: _, _, _, _, h => by cases h
  | .lst _ :: _, _, _, _, h => by cases h
  | .dct _ :: _, _, _, _, h => by cases h
  | .scr _ :: _, _, _, _, h => by cases h
  | .ref _ :: _, _, _, _, h => by cases h
/-- a method of a built-in type: the receiver, the arguments -/
def MtOk (X : Cx) (T id : String) (g : D → List D → Option D) : Prop :=
  ∃ r, MtR X id r ∧ ∀ (rho : Rf) (H : Hp) (x : V) (a : D) (Q : VK) , Rep X.K rho H x a → (∃ ds d, g a ds = some d) → tyV X.K T x H
def fMt (g : D → List D → Option D) (fo : F) (fa : FA) : F := fun env st => (fo env st).bind fun p => (fa env p.2).bind fun q => (g p.1 q.1).map fun d => (d, q.2)
/-- one argument; the receiver keeps its type -/
theorem de_mt {T id : String} {name : Str} {g : D → List D → Option D} {r : V → List V → Hp → VK → Prop} {o e : Expr} {es : List Expr} {fo : F} {fa : FA} {apos cpos : Pos}
    (hm : MtR X id r) (ty : ∀ (rho : Rf) (H : Hp) (x : V) (a : D) ds d, Rep X.K rho H x a → g a ds = some d → tyV X.K T x H)
    (ok : ∀ (rho : Rf) (H : Hp) (x : V) (xs : List V) (a : D) (ds : List D) (d : D) (st : Store) (Q : VK), Rep X.K rho H x a → RepL X.K rho H xs ds → Sim X.K rho H st → g a ds = some d → (∀ v H', Same H H' → Rep X.K rho H' v d → Q v H') → r x xs H Q)
    (pa : PlainAttrs T) (slot : Slot T name id) (hty : typeOf (.builtin id) = pure (.type "method_descriptor")) (ho : DE X o fo) (ha : DA X (e :: es) fa)
    (hbase : attributeBase o name X.env (eval o X.env) = eval o X.env := by rfl)
    (hfew : ((backTo cpos (starEach (e :: es) X.env)).all (fun x => !x.1) && (backToKw cpos (keywordEach [] X.env)).all (fun x => x.1.isSome)
      && decide ((e :: es).length + ([] : List Keyword).length + (if ([] : List Keyword).isEmpty then 0 else 1) < 30)) = true := by rfl)
    (hline : (apos.endLine == cpos.line) = true := by rfl) (hs : starEach (e :: es) X.env = (false, eval e X.env) :: starEach es X.env := by rfl) (hplain : (backTo cpos (starEach es X.env)).any (·.1) = false := by rfl) :
    DE X (.Call (.Attribute o name apos) (e :: es) [] cpos) (fMt g fo fa) :=
  weakE (pe_bm pa slot hty hm ho ha hbase hfew hline hs hplain) fun σ H Q hh => by
  obtain ⟨r', env, st, d, st', he, hs, hf, q⟩ := hh
  obtain ⟨⟨x, s1⟩, h1, hf1⟩ := Option.bind_eq_some_iff.mp hf
  obtain ⟨⟨ys, s2⟩, h2, hf2⟩ := Option.bind_eq_some_iff.mp hf1
  obtain ⟨d', h3, hf3⟩ := Option.map_eq_some_iff.mp hf2
  cases hf3
  exact ⟨r', env, st, x, s1, he, hs, h1, fun u r1 H1 e1 q1 p1 => ⟨ty r1 H1 u x ys d p1 h3, r1, env, s1, ys, _, he.ext e1, q1, h2, fun us r2 H2 e2 q2 l2 =>
    ok r2 H2 u us x ys d _ Q (p1.ext e2) l2 q2 h3 fun w H3 sm pw => q w r2 H3 ((e1.trans e2).trans (q2.ext sm)) (q2.same sm) pw⟩⟩
def joinD : D → List D → Option D := fun a ds => match a, ds with
  | .str x, [.lst xs] => (strsD xs).bind fun ys => if (ys.map (·.length)).sum + ys.length * x.length ≤ 16777216 then some (.str (Txt.join x ys)) else none
  | _, _ => none
theorem strTy {g : D → List D → Option D} (h : ∀ a ds d, g a ds = some d → ∃ x, a = .str x) : ∀ (rho : Rf) (H : Hp) (x : V) (a : D) ds d, Rep X.K rho H x a → g a ds = some d → tyV X.K "str" x H := fun rho H x a ds d ra e => by
  obtain ⟨z, rfl⟩ := h a ds d e
  cases ra
  exact rfl
theorem joinOk : ∀ (rho : Rf) (H : Hp) (x : V) (xs : List V) (a : D) (ds : List D) (d : D) (st : Store) (Q : VK), Rep X.K rho H x a → RepL X.K rho H xs ds → Sim X.K rho H st → joinD a ds = some d → (∀ v H', Same H H' → Rep X.K rho H' v d → Q v H') →
    ∃ a p, ∃ ys : List Str, x = .str a ∧ xs = [.ref p] ∧ (SqL X.K H p (ys.map V.str) ∨ SqT X.K H p (ys.map V.str)) ∧ (ys.map (·.length)).sum + ys.length * a.length ≤ 16777216 ∧ Q (.str (Txt.join a ys)) H := by
  intro rho H x xs a ds d st Q ra rl si e q
  unfold joinD at e
  split at e
  · rename_i z zs
    obtain ⟨ys, h1, h2⟩ := Option.bind_eq_some_iff.mp e
    split at h2
    · rename_i hl
      cases h2
      cases ra
      obtain ⟨v, rfl, p⟩ := lst1 rl
      cases p with
      | lst g1 g2 g3 =>
        have := g3.strs' h1
        subst this
        exact ⟨z, _, ys, rfl, rfl, .inl (.of g1), hl, q _ H (fun _ _ h => h) (.str _)⟩
    · cases h2
  · cases e
theorem joinTy : ∀ (rho : Rf) (H : Hp) (x : V) (a : D) ds d, Rep X.K rho H x a → joinD a ds = some d → tyV X.K "str" x H := strTy fun a ds d e => by
  unfold joinD at e
  split at e
  · exact ⟨_, rfl⟩
  · cases e
def startsD : D → List D → Option D := fun a ds => match a, ds with
  | .str x, [.str y] => some (.bl (Txt.startswith x y))
  | _, _ => none
theorem startsOk : ∀ (rho : Rf) (H : Hp) (x : V) (xs : List V) (a : D) (ds : List D) (d : D) (st : Store) (Q : VK), Rep X.K rho H x a → RepL X.K rho H xs ds → Sim X.K rho H st → startsD a ds = some d → (∀ v H', Same H H' → Rep X.K rho H' v d → Q v H') →
    ∃ a b, x = .str a ∧ xs = [.str b] ∧ Q (.bl (Txt.startswith a b)) H := by
  intro rho H x xs a ds d st Q ra rl si e q
  unfold startsD at e
  split at e
  · cases ra
    obtain ⟨v, rfl, p⟩ := lst1 rl
    cases p
    cases e
    exact ⟨_, _, rfl, rfl, q _ H (fun _ _ h => h) (.bl _)⟩
  · cases e
theorem startsTy : ∀ (rho : Rf) (H : Hp) (x : V) (a : D) ds d, Rep X.K rho H x a → startsD a ds = some d → tyV X.K "str" x H := strTy fun a ds d e => by
  unfold startsD at e
  split at e
  · exact ⟨_, rfl⟩
  · cases e

/-! ### one value -/
def fUn (g : D → Option D) (fa : F) : F := fun env st => (fa env st).bind fun p => (g p.1).map fun d => (d, p.2)
def negI : D → Option D | .int i => some (.int (-i)) | _ => none
theorem de_neg {a : Expr} {fa : F} {pos : Pos} (ha : DE X a fa) : DE X (.UnaryOp .USub a pos) (fUn negI fa) := weakE (pe_un un_neg ha) fun σ H Q hh => by
  obtain ⟨r', env, st, d, st', he, hs, hf, q⟩ := hh
  obtain ⟨⟨x, s1⟩, h1, hf1⟩ := Option.bind_eq_some_iff.mp hf
  obtain ⟨d', h2, hf2⟩ := Option.map_eq_some_iff.mp hf1
  cases hf2
  refine ⟨r', env, st, x, _, he, hs, h1, fun u r1 H1 e1 q1 p1 => ?_⟩
  cases x with
  | int i =>
    cases h2
    cases p1
    exact ⟨i, rfl, q _ r1 H1 e1 q1 (.int _)⟩
  | _ => cases h2
/-- isinstance(x, T), T a built-in type -/
def tyOb : Option Ob → Option String | some (.lst _) => some "list" | some (.dct _) => some "dict" | some (.ldc _) => some "dict" | _ => none
def tyD : D → Store → Option String := fun d st => match d with
  | .non => some "NoneType" | .bl _ => some "bool" | .int _ => some "int" | .str _ => some "str" | .tup _ => some "tuple" | .lst _ => some "list" | .dct _ => some "dict" | .scr _ => some "list"
  | .ref n => tyOb st[n]?
def isiB (a T : String) : Bool := a == T || (a == "bool" && T == "int")
def fIsi (T : String) (f : F) : F := fun env st => (f env st).bind fun p => (tyD p.1 p.2).map fun a => (.bl (isiB a T), p.2)
theorem tyX_of {r : Rf} {H : Hp} {v : V} {d : D} {st : Store} {t : String} (h : Rep K r H v d) (si : Sim K r H st) (e : tyD d st = some t) : TyX K H v (.type t) := by
  cases d with
  | non => cases h; cases e; exact .base .non
  | bl b => cases h; cases e; exact .base (.bl b)
  | int b => cases h; cases e; exact .base (.int b)
  | str b => cases h; cases e; exact .base (.str b)
  | tup ds =>
    cases e
    cases h with
    | tup a z b c => exact .fTuple a
    | tupP a b c => exact .base (.tup a)
    | tupK a b z c d f l => exact .kTuple a b
  | lst ds =>
    cases e
    cases h with
    | lst a b c => exact .base (.lst a)
  | dct ds =>
    cases e
    cases h with
    | dct a b c => exact .fDict a
  | scr ns =>
    cases e
    cases h with
    | scr a b => exact .base (.frz a)
    | scrK a b c d e f => exact .kList a b
  | ref n =>
    obtain ⟨a, rfl, hp⟩ := h.refI
    have e' : tyOb st[n]? = some t := e
    unfold tyOb at e'
    split at e'
    · rename_i xs hst
      cases e'
      obtain ⟨av, us, hx, l⟩ := si.ob n a _ hp hst
      exact .base (.lst hx)
    · rename_i xs hst
      cases e'
      obtain ⟨av, us, hx, l⟩ := si.ob n a _ hp hst
      exact .base (.dK hx)
    · rename_i xs hst
      cases e'
      obtain ⟨av, lk, o, us, hx, l⟩ := si.ob n a _ hp hst
      exact .fDict hx
    · cases e'
def tyNames : List String := ["NoneType", "bool", "int", "str", "tuple", "list", "dict"]
theorem kit_all : ∀ a ∈ tyNames, ∀ T ∈ tyNames, kitB a T = some (isiB a T) := by decide +kernel
theorem tyD_mem {d : D} {st : Store} {t : String} (e : tyD d st = some t) : t ∈ tyNames := by
  cases d with
  | ref n =>
    have e' : tyOb st[n]? = some t := e
    unfold tyOb at e'
    split at e' <;> cases e' <;> decide
  | _ => cases e; decide
theorem de_isi {a : Expr} {fa : F} {T : String} {x : Str} {p p2 pos : Pos} (ha : DE X a fa) (hT : T ∈ tyNames) (hg : Gl X "isinstance") (hm : X.mg "isinstance" = none) (hg2 : Gl X x) (hm2 : X.mg x = none) (hv : bootBuiltins x = some (.type T)) (hn : x ≠ "__name__" := by decide) (hdb : (x == ("__debug__" : Str)) = false := by decide)
    (hs : starEach [a, .Name x p2] X.env = (false, eval a X.env) :: starEach [.Name x p2] X.env := by rfl) (hs2 : starEach [.Name x p2] X.env = [(false, eval (.Name x p2) X.env)] := by rfl) (hpl : (backTo pos (starEach [.Name x p2] X.env)).any (·.1) = false := by rfl) :
    DE X (.Call (.Name "isinstance" p) [a, .Name x p2] [] pos) (fIsi T fa) :=
  weakE (pe_callB call_isi hg hm PyProof.Rows.boot_isinstance (pa_cons ha (pa_cons (pe_bltn (v := .ty T) hg2 hm2 hv rfl hn hdb) pa_nil hs2) hs) (by decide) (by decide) hs hpl) fun σ H Q hh => by
  obtain ⟨r', env, st, d, st', he, hs, hf, q⟩ := hh
  obtain ⟨⟨y, s1⟩, h1, hf1⟩ := Option.bind_eq_some_iff.mp hf
  obtain ⟨t, h2, hf2⟩ := Option.map_eq_some_iff.mp hf1
  cases hf2
  refine ⟨r', env, st, y, _, he, hs, h1, fun u r1 H1 e1 q1 p1 => ?_⟩
  exact ⟨u, .ty T, .type t, .type T, isiB t T, rfl, .ty T, tyX_of p1 q1 h2, kit_ty (kit_all t (tyD_mem h2) T hT), q _ r1 H1 e1 q1 (.bl _)⟩

/-! ### in, not in: flat items -/
def eqF : D → D → Option Bool
  | .non, .non => some true | .non, .bl _ => some false | .non, .int _ => some false | .non, .str _ => some false
  | .bl _, .non => some false | .bl a, .bl b => some (a == b) | .bl a, .int b => some ((if a then 1 else 0) == b) | .bl _, .str _ => some false
  | .int _, .non => some false | .int a, .bl b => some (a == (if b then 1 else 0)) | .int a, .int b => some (a == b) | .int _, .str _ => some false
  | .str _, .non => some false | .str _, .bl _ => some false | .str _, .int _ => some false | .str a, .str b => some (a == b)
  | _, _ => none
/-- is x among the items -/
def anyF (x : D) : List D → Option Bool
  | [] => some false
  | y :: ys => (eqF y x).bind fun b => (anyF x ys).map fun c => b || c
def flatD : D → Bool | .non => true | .bl _ => true | .int _ => true | .str _ => true | _ => false
def inSeq (neg : Bool) : D → D → Option D := fun x y => match y with
  | .lst ds => if flatD x then (anyF x ds).map fun b => .bl (if neg then !b else b) else none
  | .tup ds => if flatD x then (anyF x ds).map fun b => .bl (if neg then !b else b) else none
  | _ => none
theorem eqF_rep {r : Rf} {H : Hp} {v u : V} {a b : D} {k : Bool} (ra : Rep K r H v a) (rb : Rep K r H u b) (e : eqF a b = some k) : eqV v u = k ∧ flatV v = true ∧ flatV u = true := by
  cases a <;> cases b <;> first
    | cases e; done
    | (cases ra; cases rb; cases e; exact ⟨rfl, rfl, rfl⟩)
theorem anyF_rep {r : Rf} {H : Hp} {x : V} {a : D} (ra : Rep K r H x a) : ∀ {ds : List D} {vs : List V} {k : Bool}, RepL K r H vs ds → anyF a ds = some k → inV x vs = k ∧ vs.all flatV = true
  | [], _, _, .nil, e => by cases e; exact ⟨rfl, rfl⟩
  | d :: ds, _, k, .cons p l, e => by
    obtain ⟨b, h1, h2⟩ := Option.bind_eq_some_iff.mp (show ((eqF d a).bind fun b => (anyF a ds).map fun c => b || c) = some k from e)
    obtain ⟨c, h3, h4⟩ := Option.map_eq_some_iff.mp h2
    obtain ⟨g1, g2⟩ := anyF_rep ra l h3
    obtain ⟨g3, g4, _⟩ := eqF_rep p ra h1
    refine ⟨?_, by rw [List.all_cons, g4, g2]; rfl⟩
    unfold inV at g1 ⊢
    rw [List.any_cons, g3, g1]; exact h4
theorem flat_rep {r : Rf} {H : Hp} {x : V} {a : D} (ra : Rep K r H x a) (h : flatD a = true) : flatV x = true := by
  cases a <;> first
    | cases h; done
    | (cases ra; rfl)
theorem inSeq_ok (neg : Bool) {rho : Rf} {H : Hp} {x y : V} {a b d : D} {Q : VK} (ra : Rep K rho H x a) (rb : Rep K rho H y b) (e : inSeq neg a b = some d) (q : ∀ v H', Same H H' → Rep K rho H' v d → Q v H') : rIn K neg x y H Q := by
  cases b with
  | lst ds =>
    have e' : (if flatD a then (anyF a ds).map fun b => D.bl (if neg then !b else b) else none) = some d := e
    by_cases fl : flatD a = true
    case neg => rw [if_neg fl] at e'; cases e'
    rw [if_pos fl] at e'
    obtain ⟨k, h1, h2⟩ := Option.map_eq_some_iff.mp e'
    subst h2
    cases rb with
    | lst g1 g2 g3 =>
      obtain ⟨z1, z2⟩ := anyF_rep ra g3 h1
      refine ⟨_, _, rfl, .inl (.of g1), flat_rep ra fl, z2, ?_⟩
      rw [z1]; exact q _ H (fun _ _ h => h) (.bl _)
  | tup ds =>
    have e' : (if flatD a then (anyF a ds).map fun b => D.bl (if neg then !b else b) else none) = some d := e
    by_cases fl : flatD a = true
    case neg => rw [if_neg fl] at e'; cases e'
    rw [if_pos fl] at e'
    obtain ⟨k, h1, h2⟩ := Option.map_eq_some_iff.mp e'
    subst h2
    obtain ⟨p, us, rfl, s, l⟩ := rb.sqT
    obtain ⟨z1, z2⟩ := anyF_rep ra l h1
    refine ⟨_, _, rfl, .inr s, flat_rep ra fl, z2, ?_⟩
    rw [z1]; exact q _ H (fun _ _ h => h) (.bl _)
  | _ => cases e
theorem ok_in : OpOk X (compareOp .In) (inSeq false) := ⟨_, op_in_seq, fun rho H x y a b d st Q si ra rb e q => inSeq_ok false ra rb e q⟩
theorem ok_notin : OpOk X (compareOp .NotIn) (inSeq true) := ⟨_, op_notIn_seq, fun rho H x y a b d st Q si ra rb e q => inSeq_ok true ra rb e q⟩
end
end DL
namespace DL
open PySem PySem.Spec PyProof.Rows L2
variable {K : PySem.W.Frag}
section
variable {X : Cx} {W : WXd}
theorem GX.blk {k : Nat} (g : GX X k) {s : Shared} {H : Hp} {sc : Scope} {ce : Env} {fp : List Addr} : GX (X.blk s H sc ce fp) k := ⟨g.calm, g.nd, g.room, g.gd⟩
/-- a, b = x, y -/
def par2 (i j : Nat) (ds : List D) (env : Lo) : Option Lo := match ds with | [x, y] => some ((env.set i (some x)).set j (some y)) | _ => none
def par3 (i j l : Nat) (ds : List D) (env : Lo) : Option Lo := match ds with | [x, y, z] => some (((env.set i (some x)).set j (some y)).set l (some z)) | _ => none
theorem par2_some {i j : Nat} {ds : List D} {env e : Lo} (h : par2 i j ds env = some e) : ∃ x y, ds = [x, y] ∧ e = (env.set i (some x)).set j (some y) := by
  unfold par2 at h
  split at h
  · cases h; exact ⟨_, _, rfl, rfl⟩
  · cases h
theorem par3_some {i j l : Nat} {ds : List D} {env e : Lo} (h : par3 i j l ds env = some e) : ∃ x y z, ds = [x, y, z] ∧ e = ((env.set i (some x)).set j (some y)).set l (some z) := by
  unfold par3 at h
  split at h
  · cases h; exact ⟨_, _, _, rfl, rfl⟩
  · cases h
def sPar (f : List D → Lo → Option Lo) (fa : FA) : FS := fun env st => (fa env st).bind fun p => (f p.1 env).map fun e => (.nx, e, p.2)
theorem ds_par2 (i j : Nat) {x y : Str} {a b : Expr} {fa : FA} {px py pt pos : Pos} {kt k2 : Nat} {pt2 : Pos} {k : Nat} (g : GX X k) (hi : X.N[i]? = some x) (hj : X.N[j]? = some y) (hij : i ≠ j)
    (hx : X.env.scope.names.lookup x = some .local) (hy : X.env.scope.names.lookup y = some .local) (ha : DA X [a, b] fa)
    (hw : swappedStores [.Tuple [.Name x px, .Name y py] kt pt] (.Tuple [a, b] k2 pt2) X.env = pure (some [x, y]) := by rfl)
    (hs : swapsWithSole [.Tuple [.Name x px, .Name y py] kt pt] (.Tuple [a, b] k2 pt2) pos.line X.env = pure false := by rfl) :
    DS X W (.Assign [.Tuple [.Name x px, .Name y py] kt pt] (.Tuple [a, b] k2 pt2) pos) (sPar (par2 i j) fa) := weakS (ps_par g.calm g.nd hi hj hij hx hy ha hw hs) fun D' σ H hh => by
  obtain ⟨r, env, st, o, env', st', he, hs, hf, q⟩ := hh
  obtain ⟨⟨ds, s1⟩, h1, h2⟩ := Option.bind_eq_some_iff.mp hf
  obtain ⟨e1, h3, h4⟩ := Option.map_eq_some_iff.mp h2
  cases h4
  obtain ⟨a, b, rfl, rfl⟩ := par2_some h3
  refine ⟨r, env, st, _, _, he, hs, h1, fun vs r1 H1 x1 q1 l1 => ?_⟩
  obtain ⟨v, u, rfl, p1, p2⟩ := lst2 l1
  exact ⟨v, u, rfl, q _ r1 H1 x1 (((he.ext x1).set p1 i).set p2 j) q1⟩
theorem lst3 {r : Rf} {H : Hp} {vs : List V} {d e f : D} (l : RepL K r H vs [d, e, f]) : ∃ v u w, vs = [v, u, w] ∧ Rep K r H v d ∧ Rep K r H u e ∧ Rep K r H w f := by
  cases l with
  | cons a b =>
    obtain ⟨u, w, rfl, c, d⟩ := lst2 b
    exact ⟨_, u, w, rfl, a, c, d⟩
theorem ds_par3 (i j l : Nat) {x y z : Str} {a b c : Expr} {fa : FA} {px py pz pt pos : Pos} {kt k2 : Nat} {pt2 : Pos} {k : Nat} (g : GX X k) (hi : X.N[i]? = some x) (hj : X.N[j]? = some y) (hl : X.N[l]? = some z) (hij : i ≠ j) (hil : i ≠ l) (hjl : j ≠ l)
    (hx : X.env.scope.names.lookup x = some .local) (hy : X.env.scope.names.lookup y = some .local) (hz : X.env.scope.names.lookup z = some .local) (ha : DA X [a, b, c] fa)
    (hw : swappedStores [.Tuple [.Name x px, .Name y py, .Name z pz] kt pt] (.Tuple [a, b, c] k2 pt2) X.env = pure (some [x, y, z]) := by rfl)
    (hs : swapsWithSole [.Tuple [.Name x px, .Name y py, .Name z pz] kt pt] (.Tuple [a, b, c] k2 pt2) pos.line X.env = pure false := by rfl) :
    DS X W (.Assign [.Tuple [.Name x px, .Name y py, .Name z pz] kt pt] (.Tuple [a, b, c] k2 pt2) pos) (sPar (par3 i j l) fa) := weakS (ps_par3 g.calm g.nd hi hj hl hij hil hjl hx hy hz ha hw hs) fun D' σ H hh => by
  obtain ⟨r, env, st, o, env', st', he, hs, hf, q⟩ := hh
  obtain ⟨⟨ds, s1⟩, h1, h2⟩ := Option.bind_eq_some_iff.mp hf
  obtain ⟨e1, h3, h4⟩ := Option.map_eq_some_iff.mp h2
  cases h4
  obtain ⟨a, b, c, rfl, rfl⟩ := par3_some h3
  refine ⟨r, env, st, _, _, he, hs, h1, fun vs r1 H1 x1 q1 l1 => ?_⟩
  obtain ⟨v, u, w, rfl, p1, p2, p3⟩ := lst3 l1
  exact ⟨v, u, w, rfl, q _ r1 H1 x1 ((((he.ext x1).set p1 i).set p2 j).set p3 l) q1⟩
theorem RepL.ofStrs {r : Rf} {H : Hp} : ∀ ys : List Str, RepL K r H (ys.map V.str) (ys.map D.str)
  | [] => .nil
  | y :: ys => .cons (.str y) (RepL.ofStrs ys)
/-- a constant of the module: a tuple of texts -/
theorem de_gtupS {x : Str} {a : Addr} {o : Obj} {its : Array Value} {n : Nat} {ys : List Str} {pos : Pos} (hg : Gl X x) (hm : X.mg x = some (.ref a)) (hl : X.K.lookup a = some o) (hc : o.cls = .type "tuple") (hx : o.dict = none) (hd : o.data = .seq its n) (hz : its.size ≤ sizeLine) (hv : Vals (ys.map V.str) its.toList)
    (hdb : (x == ("__debug__" : Str)) = false := by decide) : DE X (.Name x pos) (fC (.tup (ys.map .str))) :=
  de_c (pe_glob (v := .ref a) hg hm rfl hdb) fun r H => .tupK hl hc hx hd hz hv (RepL.ofStrs ys)
end
end DL
/-! The laws' tape of draws, once for all laws. -/
namespace DL
open PySem PySem.Spec PyProof.Rows L2
open Builtin.Int (intBits)
def gTape : FS := (sSeq (sAsg (fOp opAdd (fC (.int 97)) (fOp opMul (fVar 1) (fC (.int 31)))) (gN 2)) (sSeq (sFor (iOf asScr (fVar 0)) (gN 3) (sAsg (fOp opAdd (fOp modI (fOp powI (fOp opAdd (fOp opAdd (fOp opMul (fVar 2) (fC (.int 30011))) (fOp opMul (fVar 3) (fVar 3))) (fC (.int 7))) (fC (.int 2))) (fC (.int 2147483563))) (fC (.int 2))) (gN 2))) (sSeq (sAsg (fIfE (fAndT (fTest (fOp opLt (fVar 1) (fMk bLen (aCons (fVar 0) aNil)))) (fTest (fOp opGe (fSub (fVar 0) (fVar 1)) (fOp powI (fC (.int 10)) (fC (.int 18)))))) (fOp subI (fSub (fVar 0) (fVar 1)) (fOp powI (fC (.int 10)) (fC (.int 18)))) (fC (.int 0))) (gN 4)) (sRet (fDict (((fC (.str (Str.ofString "digits"))), (fVar 4)) :: (((fC (.str (Str.ofString "mixed"))), (fVar 2)) :: [])))))))
def gPick : FS := (sSeq (sIf (fTest (fOp opGe (fSub (fVar 0) (fC (.str (Str.ofString "digits")))) (fVar 1))) (sSeq (sAsg (fOp modI (fSub (fVar 0) (fC (.str (Str.ofString "digits")))) (fVar 1)) (gN 2)) (sSeq (sPut (fVar 0) (fC (.str (Str.ofString "digits"))) (fOp fdivI (fSub (fVar 0) (fC (.str (Str.ofString "digits")))) (fVar 1))) (sRet (fVar 2)))) sNil) (sSeq (sPut (fVar 0) (fC (.str (Str.ofString "mixed"))) (fOp modI (fOp opAdd (fOp opMul (fSub (fVar 0) (fC (.str (Str.ofString "mixed")))) (fC (.int 40014))) (fC (.int 1013))) (fC (.int 2147483563)))) (sRet (fOp modI (fOp fdivI (fOp modI (fOp powI (fOp modI (fOp powI (fSub (fVar 0) (fC (.str (Str.ofString "mixed")))) (fC (.int 2))) (fC (.int 2147483399))) (fC (.int 3))) (fC (.int 998244353))) (fC (.int 5))) (fVar 1)))))
def mTape : FM := mOf 5 gTape
def mPick : FM := mOf 3 gPick
def gOne : FS := (sRet (fSub (fVar 1) (fCall mPick (aCons (fVar 0) (aCons (fMk bLen (aCons (fVar 1) aNil)) aNil)))))
def mOne : FM := mOf 2 gOne
abbrev kD : Key := .inr (Str.ofString "digits")
abbrev kM : Key := .inr (Str.ofString "mixed")
theorem kDM : ¬ Str.ofString "digits" = Str.ofString "mixed" := by decide
theorem kMD : ¬ Str.ofString "mixed" = Str.ofString "digits" := by decide
/-- the tape's pairs -/
def tapeKV (a b : Int) : List (Key × D) := [(kD, .int a), (kM, .int b)]
theorem tape_valD (a b : Int) : valD (tapeKV a b) kD = some (.int a) := by simp [valD, tapeKV]
theorem tape_valM (a b : Int) : valD (tapeKV a b) kM = some (.int b) := by simp [valD, tapeKV, kDM]
theorem tape_putD (a b c : Int) : putD (tapeKV a b) kD (.int c) = tapeKV c b := by simp [putD, tapeKV, kDM, kMD]
theorem tape_putM (a b c : Int) : putD (tapeKV a b) kM (.int c) = tapeKV a c := by simp [putD, tapeKV, kDM, kMD]
/-- the tape at n -/
structure Tp (st : Store) (n : Nat) : Prop where
  at_ : ∃ a b : Int, st[n]? = some (.dct (tapeKV a b)) ∧ 0 ≤ a ∧ 0 ≤ b ∧ b < 4294967296
/-- nothing else has changed -/
structure Fr (n : Nat) (st st' : Store) : Prop where
  len : st.length ≤ st'.length
  at_ : ∀ m, m ≠ n → m < st.length → st'[m]? = st[m]?
theorem Fr.refl (n : Nat) (st : Store) : Fr n st st := ⟨Nat.le_refl _, fun _ _ _ => rfl⟩
theorem Fr.trans {n : Nat} {a b c : Store} (x : Fr n a b) (y : Fr n b c) : Fr n a c := ⟨Nat.le_trans x.len y.len, fun m h1 h2 => (y.at_ m h1 (Nat.lt_of_lt_of_le h2 x.len)).trans (x.at_ m h1 h2)⟩
theorem Fr.set {n : Nat} {st : Store} (o : Ob) : Fr n st (st.set n o) := ⟨by rw [List.length_set]; exact Nat.le_refl _, fun m h _ => by rw [List.getElem?_set_ne (Ne.symm h)]⟩
theorem Tp.lt {st : Store} {n : Nat} (h : Tp st n) : n < st.length := let ⟨_, _, e, _⟩ := h.at_; (List.getElem?_eq_some_iff.mp e).1
theorem bits32 {x : Int} (h0 : 0 ≤ x) (h1 : x < 4294967296) : intBits x ≤ 32 := intBits_le_iff.mpr (by omega)
theorem opAdd_int (a b : Int) : opAdd (.int a) (.int b) = some (.int (a + b)) := by simp [opAdd, orD, addI, onI]
theorem opMul_int {a b : Int} {m n : Nat} (ha : intBits a ≤ m) (hb : intBits b ≤ n) (h : m + n ≤ 134217728) : opMul (.int a) (.int b) = some (.int (a * b)) := by
  have : intBits a + intBits b ≤ 134217728 := by omega
  simp [opMul, orD, mulI, onI, this]
theorem modI_int {a b : Int} (h : 0 < b) : modI (.int a) (.int b) = some (.int (a % b)) := by simp [modI, onI, h]
theorem fdivI_int {a b : Int} (h : 0 < b) (h2 : b < 1073741824) : fdivI (.int a) (.int b) = some (.int (a / b)) := by simp [fdivI, onI, h, h2]
theorem powI_int {a b : Int} {m : Nat} (h0 : 0 ≤ b) (ha : intBits a ≤ m) (h : (m : Int) * b ≤ 134217728) : powI (.int a) (.int b) = some (.int (a ^ b.toNat)) := by
  have : (intBits a : Int) * b ≤ 134217728 := Int.le_trans (Int.mul_le_mul_of_nonneg_right (Int.ofNat_le.mpr ha) h0) h
  simp [powI, onI, h0, this]
theorem opGe_int (a b : Int) : opGe (.int a) (.int b) = some (.bl (decide (b ≤ a))) := by simp [opGe, orD, geI, onI]
theorem opLt_int (a b : Int) : opLt (.int a) (.int b) = some (.bl (decide (a < b))) := by simp [opLt, orD, ltI, onI]
theorem opLe_int (a b : Int) : opLe (.int a) (.int b) = some (.bl (decide (a ≤ b))) := by simp [opLe, orD, leI, onI]
theorem opGt_int (a b : Int) : opGt (.int a) (.int b) = some (.bl (decide (b < a))) := by simp [opGt, orD, gtI, onI]
theorem subI_int (a b : Int) : subI (.int a) (.int b) = some (.int (a - b)) := by simp [subI, onI]
theorem subTape {st : Store} {n : Nat} {a b : Int} (h : st[n]? = some (.dct (tapeKV a b))) : ixD (.ref n) (.str (Str.ofString "digits")) st = some (.int a) ∧ ixD (.ref n) (.str (Str.ofString "mixed")) st = some (.int b) := by
  constructor
  · unfold ixD
    simp only [h, asKey, Option.bind_some]
    exact tape_valD a b
  · unfold ixD
    simp only [h, asKey, Option.bind_some]
    exact tape_valM a b
theorem put_ref {env : Lo} {st s1 s2 s3 : Store} {fo fk fv : F} {d : D} {n : Nat} {kd : D} {k : Key} {kvs : List (Key × D)} (h1 : fv env st = some (d, s1)) (h2 : fo env s1 = some (.ref n, s2)) (h3 : fk env s2 = some (kd, s3)) (hk : asKey kd = some k)
    (hs : s3[n]? = some (.dct kvs)) (hl : kvs.length < 1000) : sPut fo fk fv env st = some (.nx, env, s3.set n (.dct (putD kvs k d))) := by
  have : kvs.length < sizeLine := Nat.lt_of_lt_of_le hl (by decide)
  simp [sPut, h1, h2, h3, hs, hk, this]
theorem pick_ok {st : Store} {n : Nat} {s : Int} (t : Tp st n) (h0 : 0 < s) (h1 : s < 1073741824) : ∃ r st', mPick [.ref n, .int s] st = some (.int r, st') ∧ 0 ≤ r ∧ r < s ∧ Tp st' n ∧ Fr n st st' ∧ st'.length = st.length := by
  obtain ⟨a, b, e, ha, hb, hb2⟩ := t.at_
  have hn := t.lt
  obtain ⟨g1, g2⟩ := subTape e
  by_cases c : s ≤ a
  · refine ⟨a % s, st.set n (.dct (tapeKV (a / s) b)), ?_, Int.emod_nonneg _ (by omega), Int.emod_lt_of_pos _ h0, ⟨a / s, b, by rw [List.getElem?_set_self hn], Int.ediv_nonneg ha (by omega), hb, hb2⟩, .set _, by rw [List.length_set]⟩
    have p : ∀ env : Lo, env[0]? = some (some (.ref n)) → env[1]? = some (some (.int s)) → sPut (fVar 0) (fC (.str (Str.ofString "digits"))) (fOp fdivI (fSub (fVar 0) (fC (.str (Str.ofString "digits")))) (fVar 1)) env st = some (.nx, env, st.set n (.dct (tapeKV (a / s) b))) := fun env x y => by
      rw [← tape_putD a b]
      refine put_ref (s1 := st) (s2 := st) (s3 := st) (kd := .str (Str.ofString "digits")) ?_ ?_ rfl rfl e (by simp [tapeKV])
      · simp [fOp, fSub, fVar, fC, x, y, g1, fdivI_int h0 h1]
      · simp [fVar, x]
    simp [mPick, mOf, gPick, outM, startD, sSeq, sIf, fTest, asB, fOp, fSub, fVar, fC, g1, opGe_int, c, sAsg, modI_int h0, gN]
    rw [p _ rfl rfl]
    simp [sRet, fVar]
  · have hm : 0 ≤ (b * 40014 + 1013) % 2147483563 := Int.emod_nonneg _ (by decide)
    have hm2 : (b * 40014 + 1013) % 2147483563 < 2147483563 := Int.emod_lt_of_pos _ (by decide)
    have gset : (st.set n (.dct (tapeKV a ((b * 40014 + 1013) % 2147483563))))[n]? = some (.dct (tapeKV a ((b * 40014 + 1013) % 2147483563))) := by rw [List.getElem?_set_self hn]
    obtain ⟨_, g3⟩ := subTape gset
    have p : ∀ env : Lo, env[0]? = some (some (.ref n)) → sPut (fVar 0) (fC (.str (Str.ofString "mixed"))) (fOp modI (fOp opAdd (fOp opMul (fSub (fVar 0) (fC (.str (Str.ofString "mixed")))) (fC (.int 40014))) (fC (.int 1013))) (fC (.int 2147483563))) env st = some (.nx, env, st.set n (.dct (tapeKV a ((b * 40014 + 1013) % 2147483563)))) := fun env x => by
      rw [← tape_putM a b]
      refine put_ref (s1 := st) (s2 := st) (s3 := st) (kd := .str (Str.ofString "mixed")) ?_ ?_ rfl rfl e (by simp [tapeKV])
      · simp [fOp, fSub, fVar, fC, x, g2, opMul_int (bits32 hb hb2) (bits32 (x := 40014) (by decide) (by decide)) (by decide), opAdd_int, modI_int (b := 2147483563) (by decide)]
      · simp [fVar, x]
    generalize hw : (b * 40014 + 1013) % 2147483563 = w at *
    have b1 : intBits w ≤ 32 := bits32 hm (by omega)
    have h5 : 0 ≤ w ^ 2 % 2147483399 := Int.emod_nonneg _ (by decide)
    have h6 : w ^ 2 % 2147483399 < 2147483399 := Int.emod_lt_of_pos _ (by decide)
    have b2 : intBits (w ^ 2 % 2147483399) ≤ 32 := bits32 h5 (by omega)
    refine ⟨(w ^ 2 % 2147483399) ^ 3 % 998244353 / 5 % s, st.set n (.dct (tapeKV a w)), ?_, Int.emod_nonneg _ (by omega), Int.emod_lt_of_pos _ h0, ⟨a, w, gset, ha, hm, by omega⟩, .set _, by rw [List.length_set]⟩
    simp [mPick, mOf, gPick, outM, startD, sSeq, sIf, fTest, asB, fOp, fSub, fVar, fC, g1, opGe_int, c, sNil]
    rw [p _ rfl]
    have q1 := powI_int (a := w) (b := 2) (by decide) b1 (by decide)
    have q2 := powI_int (a := w ^ 2 % 2147483399) (b := 3) (by decide) b2 (by decide)
    simp only [show (2 : Int).toNat = 2 from rfl, show (3 : Int).toNat = 3 from rfl] at q1 q2
    simp [sRet, fOp, fSub, fVar, fC, g3, q1, modI_int (b := 2147483399) (by decide), q2, modI_int (b := 998244353) (by decide), fdivI_int (b := 5) (by decide) (by decide), modI_int h0]
theorem atI_lt {α : Type} {xs : List α} {i : Int} (h0 : 0 ≤ i) (h1 : i < xs.length) : ∃ d, L2.atI xs i = some d ∧ d ∈ xs := by
  have hi : i.toNat < xs.length := by omega
  refine ⟨xs[i.toNat], ?_, List.getElem_mem hi⟩
  have := atI_nat (xs := xs) (j := i.toNat) (List.getElem?_eq_getElem hi)
  rwa [Int.toNat_of_nonneg h0] at this
theorem one_ok {st : Store} {n : Nat} {xs : List D} (t : Tp st n) (h0 : 0 < xs.length) (h1 : xs.length < 1073741824) : ∃ d st', mOne [.ref n, .lst xs] st = some (d, st') ∧ d ∈ xs ∧ Tp st' n ∧ Fr n st st' ∧ st'.length = st.length := by
  obtain ⟨r, st', h, hr0, hr1, t', f, l⟩ := pick_ok t (s := (xs.length : Int)) (by omega) (by omega)
  obtain ⟨d, hd, hm⟩ := atI_lt hr0 hr1
  refine ⟨d, st', ?_, hm, t', f, l⟩
  simp [mOne, mOf, gOne, outM, startD, sRet, fSub, fVar, fCall, aCons, aNil, fMk, bLen, lenL, h, ixD, hd]
theorem one_okT {st : Store} {n : Nat} {xs : List D} (t : Tp st n) (h0 : 0 < xs.length) (h1 : xs.length < 1073741824) : ∃ d st', mOne [.ref n, .tup xs] st = some (d, st') ∧ d ∈ xs ∧ Tp st' n ∧ Fr n st st' ∧ st'.length = st.length := by
  obtain ⟨r, st', h, hr0, hr1, t', f, l⟩ := pick_ok t (s := (xs.length : Int)) (by omega) (by omega)
  obtain ⟨d, hd, hm⟩ := atI_lt hr0 hr1
  refine ⟨d, st', ?_, hm, t', f, l⟩
  simp [mOne, mOf, gOne, outM, startD, sRet, fSub, fVar, fCall, aCons, aNil, fMk, bLen, lenL, h, ixD, hd]
abbrev bTape : FS := (sAsg (fOp opAdd (fOp modI (fOp powI (fOp opAdd (fOp opAdd (fOp opMul (fVar 2) (fC (.int 30011))) (fOp opMul (fVar 3) (fVar 3))) (fC (.int 7))) (fC (.int 2))) (fC (.int 2147483563))) (fC (.int 2))) (gN 2))
theorem tape_loop {s t y : Option D} {st : Store} : ∀ (ns : List Int), (∀ z ∈ ns, intBits z ≤ 1048576) → ∀ (m : Int) (x : Option D), 0 ≤ m → m < 4294967296 →
    ∃ m' x', loopS (gN 3) bTape (ns.map .int) [s, t, some (.int m), x, y] st = some (.nx, [s, t, some (.int m'), x', y], st) ∧ 0 ≤ m' ∧ m' < 4294967296
  | [], _, m, x, h0, h1 => ⟨m, x, rfl, h0, h1⟩
  | z :: ns, hb, m, x, h0, h1 => by
    have hz := hb z List.mem_cons_self
    have b1 : intBits (m * 30011) ≤ 32 + 32 := intBits_mul_le (bits32 h0 h1) (bits32 (x := 30011) (by decide) (by decide))
    have b2 : intBits (z * z) ≤ 1048576 + 1048576 := intBits_mul_le hz hz
    have b3 : intBits (m * 30011 + z * z) ≤ 2097152 + 1 := Nat.le_trans (intBits_add_le b1 b2) (by decide)
    have b4 : intBits (m * 30011 + z * z + 7) ≤ 2097153 + 1 := Nat.le_trans (intBits_add_le b3 (bits32 (x := 7) (by decide) (by decide))) (by decide)
    have q := powI_int (a := m * 30011 + z * z + 7) (b := 2) (by decide) b4 (by decide)
    have h2 : 0 ≤ (m * 30011 + z * z + 7) ^ (2 : Int).toNat % 2147483563 := Int.emod_nonneg _ (by decide)
    have h3 : (m * 30011 + z * z + 7) ^ (2 : Int).toNat % 2147483563 < 2147483563 := Int.emod_lt_of_pos _ (by decide)
    obtain ⟨m', x', e, g0, g1⟩ := tape_loop (s := s) (t := t) (y := y) (st := st) ns (fun w hw => hb w (List.mem_cons_of_mem _ hw)) ((m * 30011 + z * z + 7) ^ (2 : Int).toNat % 2147483563 + 2) (some (.int z)) (by omega) (by omega)
    refine ⟨m', x', ?_, g0, g1⟩
    rw [← e, List.map_cons]
    generalize (m * 30011 + z * z + 7) ^ (2 : Int).toNat = w at *
    simp [loopS, gN, bTape, sAsg, fOp, fVar, fC, opMul_int (bits32 h0 h1) (bits32 (x := 30011) (by decide) (by decide)) (by decide), opMul_int hz hz (by decide), opAdd_int, q, modI_int (b := 2147483563) (by decide)]
theorem tape_ok {st : Store} {ns : List Int} {s : Int} (hb : ∀ z ∈ ns, intBits z ≤ 1048576) (h0 : 0 ≤ s) (h1 : s < 1000) : ∃ st', mTape [.scr ns, .int s] st = some (.ref st.length, st') ∧ st'.length = st.length + 1 ∧ Tp st' st.length ∧ ∀ m, m < st.length → st'[m]? = st[m]? := by
  obtain ⟨m', x', e, g0, g1⟩ := tape_loop (s := some (.scr ns)) (t := some (.int s)) (y := none) (st := st) ns hb (97 + s * 31) none (by omega) (by omega)
  have q := powI_int (a := 10) (b := 18) (by decide) (bits32 (by decide) (by decide)) (by decide)
  have b1 : intBits s ≤ 32 := bits32 h0 (by omega)
  -- the digits
  obtain ⟨d, hd, hd0⟩ : ∃ d : Int, (fIfE (fAndT (fTest (fOp opLt (fVar 1) (fMk bLen (aCons (fVar 0) aNil)))) (fTest (fOp opGe (fSub (fVar 0) (fVar 1)) (fOp powI (fC (.int 10)) (fC (.int 18)))))) (fOp subI (fSub (fVar 0) (fVar 1)) (fOp powI (fC (.int 10)) (fC (.int 18)))) (fC (.int 0)))
      [some (.scr ns), some (.int s), some (.int m'), x', none] st = some (.int d, st) ∧ 0 ≤ d := by
    by_cases c : s < ns.length
    · obtain ⟨z, hz, _⟩ := atI_lt h0 c
      by_cases c2 : (1000000000000000000 : Int) ≤ z
      · exact ⟨z - 1000000000000000000, by simp [fIfE, fAndT, fTest, fOp, fVar, fMk, aCons, aNil, bLen, lenL, opLt_int, asB, c, fSub, ixD, hz, fC, q, opGe_int, c2, subI_int], by omega⟩
      · exact ⟨0, by simp [fIfE, fAndT, fTest, fOp, fVar, fMk, aCons, aNil, bLen, lenL, opLt_int, asB, c, fSub, ixD, hz, fC, q, opGe_int, c2], by omega⟩
    · exact ⟨0, by simp [fIfE, fAndT, fTest, fOp, fVar, fMk, aCons, aNil, bLen, lenL, opLt_int, asB, c, fC], by omega⟩
  refine ⟨st ++ [.dct (tapeKV d m')], ?_, by simp, ⟨d, m', by simp, hd0, g0, g1⟩, fun m hm => by rw [List.getElem?_append_left hm]⟩
  have e' : loopS (gN 3) bTape (ns.map D.int) [some (.scr ns), some (.int s), some (.int (97 + s * 31)), none, none] st = some (.nx, [some (.scr ns), some (.int s), some (.int m'), x', none], st) := e
  simp only [bTape] at e'
  simp [mTape, mOf, gTape, outM, startD, sSeq, sAsg, fOp, fVar, fC, opMul_int b1 (bits32 (x := 31) (by decide) (by decide)) (by decide), opAdd_int, gN, sFor, iOf, asScr, e', hd]
  simp [sRet, fDict, evP, fC, fVar, asKey, mergeD, putD, kDM, tapeKV]
end DL
/-! Plain texts, flat values, loops with an invariant. -/
namespace DL
open PySem PySem.Spec PyProof.Rows L2 TL
open Builtin.Int (intBits)
/-- at most n signs, all of ASCII -/
def GS (n : Nat) (x : Str) : Prop := x.length ≤ n ∧ ∀ c ∈ tl x, c < 128
theorem GS.mono {m n : Nat} {x : Str} (h : GS m x) (l : m ≤ n) : GS n x := ⟨Nat.le_trans h.1 l, h.2⟩
theorem GS.append {m n : Nat} {x y : Str} (a : GS m x) (b : GS n y) : GS (m + n) (x ++ y) := by
  refine ⟨?_, fun c hc => ?_⟩
  · rw [len_tl, tl_append, List.length_append, ← len_tl, ← len_tl]
    have := a.1
    have := b.1
    omega
  · rw [tl_append] at hc
    rcases List.mem_append.mp hc with h | h
    · exact a.2 c h
    · exact b.2 c h
theorem joinL_nil : ∀ ps : List (List Nat), joinL [] ps = ps.flatten
  | [] => rfl
  | [p] => by simp [joinL]
  | p :: q :: r => by
    have := joinL_nil (q :: r)
    simp only [joinL] at this ⊢
    rw [this]
    simp
theorem tl_join0 (ps : List Str) : tl (Txt.join (Str.ofString "") ps) = (ps.map tl).flatten := by
  rw [join_eq, tl_join, show tl (Str.ofString "") = [] from rfl, joinL_nil]
theorem GS.join {m : Nat} : ∀ {ps : List Str}, (∀ p ∈ ps, GS m p) → GS (ps.length * m) (Txt.join (Str.ofString "") ps) := fun {ps} h => by
  unfold GS
  rw [len_tl, tl_join0]
  induction ps with
  | nil => exact ⟨Nat.zero_le _, fun c hc => by cases hc⟩
  | cons p ps ih =>
    obtain ⟨i1, i2⟩ := ih fun q hq => h q (List.mem_cons_of_mem _ hq)
    obtain ⟨j1, j2⟩ := h p List.mem_cons_self
    rw [len_tl] at j1
    refine ⟨?_, fun c hc => ?_⟩
    · rw [List.map_cons, List.flatten_cons, List.length_append, List.length_cons, Nat.succ_mul]
      omega
    · rw [List.map_cons, List.flatten_cons] at hc
      rcases List.mem_append.mp hc with z | z
      · exact j2 c z
      · exact i2 c z
theorem GS.ok {n : Nat} {x : Str} (h : GS n x) : SeqAt.shaped (.str x) = true := by
  have : PyData.canLay0 (.str x) = true := by
    unfold PyData.canLay0
    unfold PyData.strOk
    rw [Array.all_eq_true]
    intro i hi
    have := h.2 x.cps[i] (by unfold tl; simp)
    exact decide_eq_true (by omega)
  unfold SeqAt.shaped
  rw [this]
  simp [PyData.depth]
/-- a flat value: None, an int, a text of at most n signs -/
def FV (n : Nat) : D → Prop | .non => True | .int _ => True | .str x => GS n x | _ => False
theorem FV.mono {m n : Nat} (l : m ≤ n) : ∀ {d : D}, FV m d → FV n d
  | .non, _ => trivial
  | .int _, _ => trivial
  | .str _, h => GS.mono h l
  | .bl _, h => h.elim
  | .tup _, h => h.elim
  | .lst _, h => h.elim
  | .dct _, h => h.elim
  | .scr _, h => h.elim
  | .ref _, h => h.elim
def vEq : D → D → Bool | .non, .non => true | .int a, .int b => a == b | .str a, .str b => a == b | _, _ => false
theorem opEq_fv {m n : Nat} {a b : D} (ha : FV m a) (hb : FV n b) : opEq a b = some (.bl (vEq a b)) := by
  cases a <;> cases b <;> first
    | exact ha.elim
    | exact hb.elim
    | skip
  all_goals simp only [opEq, toPy, Option.bind_some]
  all_goals first
    | rfl
    | (rw [if_pos ⟨rfl, GS.ok hb⟩]; rfl)
    | (rw [if_pos ⟨GS.ok ha, rfl⟩]; rfl)
    | (rw [if_pos ⟨GS.ok ha, GS.ok hb⟩]; rfl)
theorem opNe_fv {m n : Nat} {a b : D} (ha : FV m a) (hb : FV n b) : opNe a b = some (.bl (!vEq a b)) := by
  cases a <;> cases b <;> first
    | exact ha.elim
    | exact hb.elim
    | skip
  all_goals simp only [opNe, toPy, Option.bind_some]
  all_goals first
    | rfl
    | (rw [if_pos ⟨rfl, GS.ok hb⟩]; rfl)
    | (rw [if_pos ⟨GS.ok ha, rfl⟩]; rfl)
    | (rw [if_pos ⟨GS.ok ha, GS.ok hb⟩]; rfl)
theorem opEq_int (a b : Int) : opEq (.int a) (.int b) = some (.bl (a == b)) := opEq_fv (m := 0) (n := 0) (a := .int a) (b := .int b) trivial trivial
theorem opNe_int (a b : Int) : opNe (.int a) (.int b) = some (.bl (!(a == b))) := opNe_fv (m := 0) (n := 0) (a := .int a) (b := .int b) trivial trivial
theorem opLt_str (a b : Str) : opLt (.str a) (.str b) = some (.bl (decide (tl a < tl b))) := by simp [opLt, orD, ltI, ltS, onI, onS]
theorem opGt_str (a b : Str) : opGt (.str a) (.str b) = some (.bl (decide (tl b < tl a))) := by simp [opGt, orD, gtI, gtS, onI, onS]
theorem opAdd_str {a b : Str} (h : a.length + b.length ≤ 16777216) : opAdd (.str a) (.str b) = some (.str (a ++ b)) := by
  have : a.length + b.length ≤ sizeLine := by rw [sizeLine_eq]; exact h
  simp [opAdd, orD, addI, addS, onI, onS, this]

/-! ### loops -/
/-- a for that runs through, by what holds between the turns -/
theorem loopS_inv {tg : FG} {body : FS} (I : Lo → Store → Prop) : ∀ {ds : List D}, (∀ d ∈ ds, ∀ env st, I env st → ∃ e1, tg d env = some e1 ∧ ∃ o e2 s2, body e1 st = some (o, e2, s2) ∧ (o = .nx ∨ o = .ct) ∧ I e2 s2) →
    ∀ {env : Lo} {st : Store}, I env st → ∃ e2 s2, loopS tg body ds env st = some (.nx, e2, s2) ∧ I e2 s2
  | [], _, env, st, i => ⟨env, st, rfl, i⟩
  | d :: ds, h, env, st, i => by
    obtain ⟨e1, h1, o, e2, s2, h2, ho, i2⟩ := h d List.mem_cons_self env st i
    obtain ⟨e3, s3, h3, i3⟩ := loopS_inv I (fun d hd => h d (List.mem_cons_of_mem _ hd)) i2
    refine ⟨e3, s3, ?_, i3⟩
    rcases ho with rfl | rfl
    · simp [loopS, h1, h2, h3]
    · simp [loopS, h1, h2, h3]
/-- a comprehension of draws -/
theorem loopC_draw {is : List Nat} {bd : FB} {f : F} {n : Nat} {P : D → Prop} {env : Lo} : ∀ {ds : List D}, (∀ d ∈ ds, ∃ vs, bd d = some vs ∧ ∀ st, Tp st n → ∃ v st', f (setL is vs env) st = some (v, st') ∧ P v ∧ Tp st' n ∧ Fr n st st') →
    ∀ {st : Store}, Tp st n → ∃ vs st', loopC is bd tTrue f ds env st = some (vs, st') ∧ vs.length = ds.length ∧ (∀ v ∈ vs, P v) ∧ Tp st' n ∧ Fr n st st'
  | [], _, st, t => ⟨[], st, rfl, rfl, fun _ h => (by cases h), t, .refl _ _⟩
  | d :: ds, h, st, t => by
    obtain ⟨ws, hb, hf⟩ := h d List.mem_cons_self
    obtain ⟨v, s1, h1, pv, t1, f1⟩ := hf st t
    obtain ⟨vs, s2, h2, l2, p2, t2, f2⟩ := loopC_draw (fun d hd => h d (List.mem_cons_of_mem _ hd)) t1
    refine ⟨v :: vs, s2, by simp [loopC, hb, tTrue, h1, h2], by simp [l2], fun w hw => ?_, t2, f1.trans f2⟩
    rcases List.mem_cons.mp hw with rfl | hw
    · exact pv
    · exact p2 w hw
theorem rg_len (lo hi : Int) : (rg lo hi).length = (hi - lo).toNat := by simp [rg]
theorem rg_mem {lo hi : Int} {d : D} (h : d ∈ rg lo hi) : ∃ i : Int, d = .int i ∧ lo ≤ i ∧ i < hi := by
  unfold rg at h
  obtain ⟨k, hk, e⟩ := List.mem_map.mp h
  subst e
  have := List.mem_range.mp hk
  exact ⟨_, rfl, by omega, by omega⟩
theorem asR1_ok {n : Int} (h0 : 0 ≤ n) (h1 : n < 1000000) : asR1 [.int n] = some (rg 0 n) := by
  have : -(2 ^ 62) ≤ n ∧ n < 2 ^ 62 := by omega
  simp only [asR1, if_pos this]
end DL
namespace DL
open PySem PySem.Spec PyProof.Rows L2 TL
/-- .. that lay nothing -/
theorem loopC_draw2 {is : List Nat} {bd : FB} {f : F} {n : Nat} {P : D → Prop} {env : Lo} : ∀ {ds : List D}, (∀ d ∈ ds, ∃ vs, bd d = some vs ∧ ∀ st, Tp st n → ∃ v st', f (setL is vs env) st = some (v, st') ∧ P v ∧ Tp st' n ∧ Fr n st st' ∧ st'.length = st.length) →
    ∀ {st : Store}, Tp st n → ∃ vs st', loopC is bd tTrue f ds env st = some (vs, st') ∧ vs.length = ds.length ∧ (∀ v ∈ vs, P v) ∧ Tp st' n ∧ Fr n st st' ∧ st'.length = st.length
  | [], _, st, t => ⟨[], st, rfl, rfl, fun _ h => (by cases h), t, .refl _ _, rfl⟩
  | d :: ds, h, st, t => by
    obtain ⟨ws, hb, hf⟩ := h d List.mem_cons_self
    obtain ⟨v, s1, h1, pv, t1, f1, l1⟩ := hf st t
    obtain ⟨vs, s2, h2, l2, p2, t2, f2, g2⟩ := loopC_draw2 (fun d hd => h d (List.mem_cons_of_mem _ hd)) t1
    refine ⟨v :: vs, s2, by simp [loopC, hb, tTrue, h1, h2], by simp [l2], fun w hw => ?_, t2, f1.trans f2, by rw [g2, l1]⟩
    rcases List.mem_cons.mp hw with rfl | hw
    · exact pv
    · exact p2 w hw
/-- a comprehension that changes nothing -/
theorem loopC_map {is : List Nat} {bd : FB} {f : F} {g : D → D} {env : Lo} {st : Store} : ∀ {ds : List D}, (∀ d ∈ ds, ∃ vs, bd d = some vs ∧ f (setL is vs env) st = some (g d, st)) → loopC is bd tTrue f ds env st = some (ds.map g, st)
  | [], _ => rfl
  | d :: ds, h => by
    obtain ⟨ws, hb, hf⟩ := h d List.mem_cons_self
    have := loopC_map (ds := ds) fun d hd => h d (List.mem_cons_of_mem _ hd)
    simp [loopC, hb, tTrue, hf, this]
end DL
/-! More operations: nested data in a list or tuple, pairs in order, slices of texts, repr, a def that answers nothing. -/
namespace DL
open PySem PySem.Spec PyProof.Rows L2 TL
variable {K : PySem.W.Frag}
/-- at fuel 0 -/
theorem FnD.nil {P : Program} {w : World} {mg : Str → Option Value} {base : Heap} {k : Nat} {f : Addr} {fd : FuncData} {ps : List Str} : FnD P w K mg base k f fd ps (fun _ _ => none) :=
  ⟨fun _ _ _ _ _ _ _ _ _ _ _ _ _ _ _ _ _ _ _ _ _ h => by cases h⟩
section
variable {X : Cx} {W : WXd}
/-! ### in, nested data -/
def inPy (neg : Bool) : D → D → Option D := fun x y => (toPy x).bind fun p => match y with
  | .lst ds => (toPyL ds).bind fun qs => if SeqAt.shaped p = true ∧ SeqAt.shaped (.list qs) = true then some (.bl (if neg then !(qs.any fun z => PyData.eqv z p) else qs.any fun z => PyData.eqv z p)) else none
  | .tup ds => (toPyL ds).bind fun qs => if SeqAt.shaped p = true ∧ SeqAt.shaped (.tuple qs) = true then some (.bl (if neg then !(qs.any fun z => PyData.eqv z p) else qs.any fun z => PyData.eqv z p)) else none
  | _ => none
def rInPy (K : PySem.W.Frag) (neg : Bool) : R2 := fun x y H Q => ∃ d ds, Dp K H x d ∧ ((Dp K H y (.list ds) ∧ SeqAt.shaped (.list ds) = true) ∨ (Dp K H y (.tuple ds) ∧ SeqAt.shaped (.tuple ds) = true)) ∧ SeqAt.shaped d = true ∧
  Q (.bl (if neg then !(ds.any fun z => PyData.eqv z d) else ds.any fun z => PyData.eqv z d)) H
theorem op_inPy (hu : X.A.units + 65 < cLine) : OpR X (compareOp .In) (rInPy X.K false) := by
  intro pins s σ H x y v u Q I rx ry h
  obtain ⟨d, ds, hd, he, sd, q⟩ := h
  obtain ⟨as, r1⟩ := Dp.reads I d x v hd rx
  rcases he with ⟨he, se⟩ | ⟨he, se⟩
  · obtain ⟨bs, r2⟩ := Dp.reads I (.list ds) y u he ry
    exact SeqAt.in_list_reads r2 r1 (SeqAt.canLay_of_shaped se) (SeqAt.canLay_of_shaped sd) (room_in_shaped sd hu) ⟨.bl _, H, I, rfl, q⟩
  · obtain ⟨bs, r2⟩ := Dp.reads I (.tuple ds) y u he ry
    exact SeqAt.in_tuple_reads r2 r1 (SeqAt.canLay_of_shaped se) (SeqAt.canLay_of_shaped sd) (room_in_shaped sd hu) ⟨.bl _, H, I, rfl, q⟩
theorem op_notInPy (hu : X.A.units + 65 < cLine) : OpR X (compareOp .NotIn) (rInPy X.K true) := by
  intro pins s σ H x y v u Q I rx ry h
  obtain ⟨d, ds, hd, he, sd, q⟩ := h
  obtain ⟨as, r1⟩ := Dp.reads I d x v hd rx
  rcases he with ⟨he, se⟩ | ⟨he, se⟩
  · obtain ⟨bs, r2⟩ := Dp.reads I (.list ds) y u he ry
    exact SeqAt.notIn_list_reads r2 r1 (SeqAt.canLay_of_shaped se) (SeqAt.canLay_of_shaped sd) (room_in_shaped sd hu) ⟨.bl _, H, I, rfl, q⟩
  · obtain ⟨bs, r2⟩ := Dp.reads I (.tuple ds) y u he ry
    exact SeqAt.notIn_tuple_reads r2 r1 (SeqAt.canLay_of_shaped se) (SeqAt.canLay_of_shaped sd) (room_in_shaped sd hu) ⟨.bl _, H, I, rfl, q⟩
theorem inPy_ok (neg : Bool) {rho : Rf} {H : Hp} {x y : V} {a b d : D} {Q : VK} (ra : Rep K rho H x a) (rb : Rep K rho H y b) (e : inPy neg a b = some d) (q : ∀ v H', Same H H' → Rep K rho H' v d → Q v H') : rInPy K neg x y H Q := by
  obtain ⟨p, h1, h2⟩ := Option.bind_eq_some_iff.mp e
  split at h2
  · rename_i ds
    obtain ⟨qs, h3, h4⟩ := Option.bind_eq_some_iff.mp h2
    split at h4
    · rename_i sh
      cases h4
      exact ⟨p, qs, ra.dp h1, .inl ⟨rb.dp (show (toPyL ds).map PyData.list = some (.list qs) by rw [h3]; rfl), sh.2⟩, sh.1, q _ H (fun _ _ h => h) (.bl _)⟩
    · cases h4
  · rename_i ds
    obtain ⟨qs, h3, h4⟩ := Option.bind_eq_some_iff.mp h2
    split at h4
    · rename_i sh
      cases h4
      exact ⟨p, qs, ra.dp h1, .inr ⟨rb.dp (show (toPyL ds).map PyData.tuple = some (.tuple qs) by rw [h3]; rfl), sh.2⟩, sh.1, q _ H (fun _ _ h => h) (.bl _)⟩
    · cases h4
  · cases h2
def opIn : D → D → Option D := orD (inSeq false) (inPy false)
def opNotIn : D → D → Option D := orD (inSeq true) (inPy true)
theorem ok_inD {k : Nat} (g : GX X k) : OpOk X (compareOp .In) opIn := ok_in.or ⟨_, op_inPy (by have := g.room.un; omega), fun rho H x y a b d st Q si ra rb e q => inPy_ok false ra rb e q⟩
theorem ok_notinD {k : Nat} (g : GX X k) : OpOk X (compareOp .NotIn) opNotIn := ok_notin.or ⟨_, op_notInPy (by have := g.room.un; omega), fun rho H x y a b d st Q si ra rb e q => inPy_ok true ra rb e q⟩

/-! ### (a, b) < (c, d), flat -/
section
open PySem.AutoSeq1 (wpAny_loadPart')
open PySem.MeetsSeq PySem.MeetsSeq2 PySem.MeetsSeq3 PySem.SeqAt
/-- two pairs whose first items differ: these alone are asked -/
theorem pair_first {p q : Addr} {x0 x1 y0 y1 : Value} {i1 i2 : Nat} {d1 d2 : Option Addr} {t1 t2 : Array (Option Value)} {k : Bool} : Meets (Builtin.«tuple.__lt__» ⟨[.ref p, .ref q], []⟩) (fun A R s =>
    s.heap.get? p = some ⟨.type "tuple", d1, .seq #[x0, x1] i1, t1⟩ ∧ s.heap.get? q = some ⟨.type "tuple", d2, .seq #[y0, y1] i2, t2⟩ ∧ EqAt A.in1 s x0 y0 false ∧ RcLt A.in1 s x0 y0 k ∧ R (.ok (.ret (.bool k))) s) := .of_wp fun P w A R s hh => by
  obtain ⟨hp, g, d, tk, os⟩ := s
  obtain ⟨g1, g2, differ, less, done⟩ := hh
  have sub := AutoSeq1.sub_tuple_tuple
  wp_walk using wpAny_loadPart' g1, wpAny_loadPart' g2, wpAny_forIn_list _ (fun todo acc now => acc.1 = none ∧ now = ⟨hp, g, d, tk, os⟩ ∧ todo = [(x0, y0), (x1, y1)]) _
  case turn =>
    rintro ⟨u, v⟩ todo acc now ⟨e1, rfl, e2⟩
    injection e2 with e3 _
    injection e3 with eu ev
    subst eu ev
    refine wpAny_bind (differ P w _ _ ?_)
    have ask := less P w
    wp_walk using ask
    exact ⟨_, rfl, done⟩
  case fin =>
    rintro ⟨_, _⟩ now ⟨_, _, e2⟩
    cases e2
  case h =>
    exact ⟨rfl, rfl, rfl⟩
end
/-- a < b of two of one kind -/
def ltF : V → V → Option Bool
  | .int a, .int b => some (decide (a < b))
  | .str a, .str b => some (decide (a.cps.toList < b.cps.toList))
  | _, _ => none
theorem rcLt_V {A : Around} {s : Shared} {x y : V} {v u : Value} {k : Bool} (rx : RelV x v) (ry : RelV y u) (e : ltF x y = some k) : SeqAt.RcLt A s v u k := by
  unfold ltF at e
  split at e
  · cases e
    obtain ⟨t, rfl⟩ := rx
    obtain ⟨t', rfl⟩ := ry
    exact fun _ _ _ _ h => PyProof.Rows.lt_int h
  · cases e
    obtain ⟨t, rfl⟩ := rx
    obtain ⟨t', rfl⟩ := ry
    exact fun _ _ _ _ h => PySem.P.lt_str h
  · cases e
/-- the order of two pairs -/
def lt2V (a b c d : V) : Option Bool := if eqV a c = true then (if eqV b d = true then some false else ltF b d) else ltF a c
def rLt2 (K : PySem.W.Frag) : R2 := fun x y H Q => ∃ p q a b c d k, x = .ref p ∧ y = .ref q ∧ SqT K H p [a, b] ∧ SqT K H q [c, d] ∧ flatV a = true ∧ flatV b = true ∧ flatV c = true ∧ flatV d = true ∧ lt2V a b c d = some k ∧ Q (.bl k) H
theorem op_lt2 (hu : X.A.units < cLine) : OpR X (compareOp .Lt) (rLt2 X.K) := by
  intro pins s σ H x y v u Q I rx ry h
  obtain ⟨p, q, a, b, c, d, k, rfl, rfl, hp, hq, fa, fb, fc, fd, hk, hQ⟩ := h
  cases rx
  cases ry
  obtain ⟨its, r1, p1, _⟩ := I.tuple hp
  obtain ⟨its2, r2, p2, _⟩ := I.tuple hq
  cases r1 with
  | @cons _ ua _ us1 ra t1 =>
  cases t1 with
  | @cons _ ub _ us2 rb t2 =>
  cases t2
  cases r2 with
  | @cons _ uc _ us3 rc t3 =>
  cases t3 with
  | @cons _ ud _ us4 rd t4 =>
  cases t4
  obtain ⟨⟨cls, dd, data, sl⟩, ho, hc, n, hd⟩ := id p1
  obtain ⟨⟨cls2, dd2, data2, sl2⟩, ho2, hc2, n2, hd2⟩ := id p2
  simp only at hc hd hc2 hd2
  subst hc hd hc2 hd2
  let e : Nat → Bool := fun j => match j with | 0 => eqV a c | _ => eqV b d
  let r : Nat → Bool := fun j => match j with | 0 => (ltF a c).getD false | _ => (ltF b d).getD false
  by_cases ac : eqV a c = true
  · by_cases bd : eqV b d = true
    · have hk' : k = false := by unfold lt2V at hk; rw [if_pos ac, if_pos bd] at hk; cases hk; rfl
      subst hk'
      refine richCompare_meets_room (op := .Lt) ⟨_, ho, rfl⟩ ⟨_, ho2, rfl⟩ PySem.F.slot_tuple_lt PySem.F.entry_tuple_lt (PySem.F.args_tuple_lt_2 _ _) (SeqAt.tuple_ltAt p q #[ua, ub] #[uc, ud] n n2 dd dd2 sl sl2 (fun _ => true) (fun _ => false))
        ⟨ho, ho2, fun j h1 h2 => ?_, fun j h1 h2 z => (by cases z), ⟨(fun x => nomatch x), ⟨.bl false, H, I, rfl, hQ⟩⟩⟩ hu
      match j, h1, h2 with
      | 0, _, _ =>
        rw [← ac]
        exact eqAt_V ra rc fa fc
      | 1, _, _ =>
        rw [← bd]
        exact eqAt_V rb rd fb fd
    · have bd' : eqV b d = false := by simpa using bd
      have hk' : ltF b d = some k := by unfold lt2V at hk; rw [if_pos ac, if_neg bd] at hk; exact hk
      refine richCompare_meets_room (op := .Lt) ⟨_, ho, rfl⟩ ⟨_, ho2, rfl⟩ PySem.F.slot_tuple_lt PySem.F.entry_tuple_lt (PySem.F.args_tuple_lt_2 _ _) (SeqAt.tuple_ltAt p q #[ua, ub] #[uc, ud] n n2 dd dd2 sl sl2 (fun j => j == 0) (fun _ => k))
        ⟨ho, ho2, fun j h1 h2 => ?_, fun j h1 h2 z => ?_, ⟨(fun x => nomatch x), ⟨.bl k, H, I, rfl, hQ⟩⟩⟩ hu
      · match j, h1, h2 with
        | 0, _, _ =>
          show SeqAt.EqAt X.A.in1 s ua uc true
          rw [← ac]
          exact eqAt_V ra rc fa fc
        | 1, _, _ =>
          show SeqAt.EqAt X.A.in1 s ub ud false
          rw [← bd']
          exact eqAt_V rb rd fb fd
      · match j, h1, h2, z with
        | 1, _, _, _ => exact rcLt_V rb rd hk'
  · have ac' : eqV a c = false := by simpa using ac
    have hk' : ltF a c = some k := by unfold lt2V at hk; rw [if_neg ac] at hk; exact hk
    exact richCompare_meets_room (op := .Lt) ⟨_, ho, rfl⟩ ⟨_, ho2, rfl⟩ PySem.F.slot_tuple_lt PySem.F.entry_tuple_lt (PySem.F.args_tuple_lt_2 _ _) pair_first
      ⟨ho, ho2, by rw [← ac']; exact eqAt_V ra rc fa fc, rcLt_V ra rc hk', ⟨(fun x => nomatch x), ⟨.bl k, H, I, rfl, hQ⟩⟩⟩ hu
def lt2 : D → D → Option D := fun x y => match x, y with
  | .tup [a, b], .tup [c, d] => (eqF a c).bind fun e => (eqF b d).bind fun e2 => if e = true then (if e2 = true then some (.bl false) else (orD ltI ltS) b d) else (orD ltI ltS) a c
  | _, _ => none
theorem ltF_of {r : Rf} {H : Hp} {x y : V} {a b d : D} (ra : Rep K r H x a) (rb : Rep K r H y b) (e : (orD ltI ltS) a b = some d) : ∃ k, d = .bl k ∧ ltF x y = some k ∧ flatV x = true ∧ flatV y = true := by
  cases a <;> cases b <;> first
    | cases e; done
    | (cases ra; cases rb; cases e; exact ⟨_, rfl, rfl, rfl, rfl⟩)
theorem ok_lt2 {k : Nat} (g : GX X k) : OpOk X (compareOp .Lt) lt2 := ⟨_, op_lt2 g.room.units0, fun rho H x y m n d st Q si rm rn e q => by
  unfold lt2 at e
  split at e
  · rename_i a b c d'
    obtain ⟨p, us, rfl, s1, l1⟩ := rm.sqT
    obtain ⟨p', us', rfl, s2, l2⟩ := rn.sqT
    obtain ⟨va, vb, rfl, ra, rb⟩ := lst2 l1
    obtain ⟨vc, vd, rfl, rc, rd⟩ := lst2 l2
    obtain ⟨e1, h1, h2⟩ := Option.bind_eq_some_iff.mp e
    obtain ⟨e2, h3, h4⟩ := Option.bind_eq_some_iff.mp h2
    obtain ⟨g1, f1, f2⟩ := eqF_rep ra rc h1
    obtain ⟨g2, f3, f4⟩ := eqF_rep rb rd h3
    have mk : ∀ j, lt2V va vb vc vd = some j → Q (.bl j) H → rLt2 X.K (.ref p) (.ref p') H Q := fun j hj hq => ⟨p, p', va, vb, vc, vd, j, rfl, rfl, s1, s2, f1, f3, f2, f4, hj, hq⟩
    cases e1 with
    | false =>
      rw [if_neg Bool.false_ne_true] at h4
      obtain ⟨j, rfl, lj, _, _⟩ := ltF_of ra rc h4
      exact mk j (by unfold lt2V; rw [if_neg (by rw [g1]; exact Bool.false_ne_true)]; exact lj) (q _ H (fun _ _ h => h) (.bl _))
    | true =>
      rw [if_pos rfl] at h4
      cases e2 with
      | true =>
        rw [if_pos rfl] at h4
        cases h4
        exact mk false (by unfold lt2V; rw [if_pos g1, if_pos g2]) (q _ H (fun _ _ h => h) (.bl _))
      | false =>
        rw [if_neg Bool.false_ne_true] at h4
        obtain ⟨j, rfl, lj, _, _⟩ := ltF_of rb rd h4
        exact mk j (by unfold lt2V; rw [if_pos g1, if_neg (by rw [g2]; exact Bool.false_ne_true)]; exact lj) (q _ H (fun _ _ h => h) (.bl _))
  · cases e⟩
def opLtD : D → D → Option D := orD opLt lt2
theorem ok_ltD {k : Nat} (g : GX X k) : OpOk X (compareOp .Lt) opLtD := ok_lt.or (ok_lt2 g)

/-! ### z[lo:hi] of a text -/
def slS : D → Option Int → Option Int → Option D := fun a lo hi => match a with
  | .str z => if z.length ≤ sizeLine then some (.str (cutS z lo hi)) else none
  | _ => none
def fSliceS (fa : F) (lo hi : FO) : F := fun env st => (fa env st).bind fun p => (lo env p.2).bind fun q => (hi env q.2).bind fun w => (slS p.1 q.1 w.1).map fun d => (d, w.2)
theorem de_sliceS {a : Expr} {lo hi : Option Expr} {fa : F} {fl fh : FO} {p2 pos : Pos} (ha : DE X a fa) (hl : DO' X lo fl) (hh : DO' X hi fh) : DE X (.Subscript a (.Slice lo hi none p2) pos) (fSliceS fa fl fh) :=
  weakE (pe_slice sl_str ha hl hh) fun σ H Q hh => by
  obtain ⟨r, env, st, d, st', he, hs, hf, q⟩ := hh
  obtain ⟨⟨x, s1⟩, h1, hf1⟩ := Option.bind_eq_some_iff.mp hf
  obtain ⟨⟨i, s2⟩, h2, hf2⟩ := Option.bind_eq_some_iff.mp hf1
  obtain ⟨⟨j, s3⟩, h3, hf3⟩ := Option.bind_eq_some_iff.mp hf2
  obtain ⟨d', h4, hf4⟩ := Option.map_eq_some_iff.mp hf3
  cases hf4
  refine ⟨r, env, st, x, s1, he, hs, h1, fun u r1 H1 e1 q1 p1 => ⟨r1, env, s1, i, s2, he.ext e1, q1, h2, fun r2 H2 e2 q2 => ⟨r2, env, s2, j, _, (he.ext e1).ext e2, q2, h3, fun r3 H3 e3 q3 => ?_⟩⟩⟩
  have p3 := (p1.ext e2).ext e3
  cases x with
  | str z =>
    have h4' : (if z.length ≤ sizeLine then some (D.str (cutS z i j)) else none) = some _ := h4
    by_cases hz : z.length ≤ sizeLine
    · rw [if_pos hz] at h4'
      cases h4'
      cases p3
      exact ⟨z, rfl, hz, q _ r3 H3 ((e1.trans e2).trans e3) q3 (.str _)⟩
    · rw [if_neg hz] at h4'
      cases h4'
  | _ => cases h4

/-! ### repr -/
/-- what repr shows of x, if it is no more than may be shown -/
def shownD (d : PyData) : Option D := if d.hasDict = false ∧ d.showable = true ∧ d.depth ≤ 64 ∧ d.shown.length ≤ sizeLine then some (.str d.shown) else none
def bRepr : List D → Store → Option D := fun ds _ => match ds with
  | [.tup xs] => (toPy (.tup xs)).bind shownD
  | [.lst xs] => (toPy (.lst xs)).bind shownD
  | _ => none
theorem call_reprD {k : Nat} (g : GX X k) : CallR X (.builtin "repr") (fun xs H Q => ∃ a d, xs = [.ref a] ∧ Dp X.K H (.ref a) d ∧ d.hasDict = false ∧ d.showable = true ∧ d.depth ≤ 64 ∧ d.shown.length ≤ sizeLine ∧ Q (.str d.shown) H) := by
  intro pins s σ H xs us Q I r h
  obtain ⟨a, d, rfl, hd, h1, h2, h3, h4, q⟩ := h
  obtain ⟨u, rfl, ru⟩ := vals1 r
  cases ru
  obtain ⟨as, rd⟩ := Dp.reads I d (.ref a) (.ref a) hd rfl
  exact repr_of_reads' rd h2 (PyData.noDict_hsm h1) g.gd (by have := g.room.un; omega) (fun _ _ e => e) (fun h' u tk hk => ⟨.str d.shown, H, I.kept hk, ⟨_, rfl⟩, q⟩) h4
theorem shownD_some {d : PyData} {z : D} (h : shownD d = some z) : d.hasDict = false ∧ d.showable = true ∧ d.depth ≤ 64 ∧ d.shown.length ≤ sizeLine ∧ z = .str d.shown := by
  unfold shownD at h
  split at h
  · rename_i c
    cases h
    exact ⟨c.1, c.2.1, c.2.2.1, c.2.2.2, rfl⟩
  · cases h
theorem ok_repr {k : Nat} (g : GX X k) : CallOk X (.builtin "repr") bRepr := ⟨_, call_reprD g, fun rho H xs ds d st Q rl si e q => by
  unfold bRepr at e
  split at e
  · obtain ⟨v, rfl, p⟩ := lst1 rl
    obtain ⟨y, h1, h2⟩ := Option.bind_eq_some_iff.mp e
    obtain ⟨c1, c2, c3, c4, rfl⟩ := shownD_some h2
    have pd := p.dp h1
    obtain ⟨a, us, rfl, s, l⟩ := p.sqT
    exact ⟨a, y, rfl, pd, c1, c2, c3, c4, q _ H (fun _ _ h => h) (.str _)⟩
  · obtain ⟨v, rfl, p⟩ := lst1 rl
    obtain ⟨y, h1, h2⟩ := Option.bind_eq_some_iff.mp e
    obtain ⟨c1, c2, c3, c4, rfl⟩ := shownD_some h2
    have pd := p.dp h1
    cases p with
    | lst a b c => exact ⟨_, y, rfl, pd, c1, c2, c3, c4, q _ H (fun _ _ h => h) (.str _)⟩
  · cases e⟩
end
end DL
/-! Small data: what may be compared and shown. -/
namespace DL
open PySem PySem.Spec PyProof.Rows L2 TL
variable {K : PySem.W.Frag}
section
variable {X : Cx} {W : WXd}
/-- two texts, equal or not -/
def opEqS : D → D → Option D := onS (fun _ _ => True) fun i j => .bl (decide (i = j))
def opNeS : D → D → Option D := onS (fun _ _ => True) fun i j => .bl (!decide (i = j))
theorem ok_eqS : OpOk X (compareOp .Eq) opEqS := ⟨_, op_eq, fun rho H x y a b d st Q si ra rb e q => by
  obtain ⟨i, j, rfl, rfl, z, rfl⟩ := onS_some e
  cases ra
  cases rb
  refine ⟨rfl, ?_⟩
  have : decide (V.str i = V.str j) = decide (i = j) := by by_cases h : i = j <;> simp [h]
  rw [this]
  exact q _ H (fun _ _ h => h) (.bl _)⟩
theorem ok_neS : OpOk X (compareOp .NotEq) opNeS := ⟨_, op_ne, fun rho H x y a b d st Q si ra rb e q => by
  obtain ⟨i, j, rfl, rfl, z, rfl⟩ := onS_some e
  cases ra
  cases rb
  refine ⟨rfl, ?_⟩
  have : decide (V.str i = V.str j) = decide (i = j) := by by_cases h : i = j <;> simp [h]
  rw [this]
  exact q _ H (fun _ _ h => h) (.bl _)⟩
theorem opNeS_same (x : Str) : opNeS (.str x) (.str x) = some (.bl false) := by simp [opNeS, onS]
end
/-- small data: of depth dp at most, of weight wt at most -/
def Sm (dp wt : Nat) (d : D) : Prop := ∃ p, toPy d = some p ∧ p.canLay0 = true ∧ p.depth ≤ dp ∧ p.weight ≤ wt ∧ p.intsShort 13 = true ∧ p.showable = true
def SmL (dp wt : Nat) (ds : List D) : Prop := ∃ ps, toPyL ds = some ps ∧ PyData.canLayAll0 ps = true ∧ PyData.depthAll ps ≤ dp ∧ PyData.weightAll ps ≤ wt ∧ PyData.intsShortAll 13 ps = true ∧ PyData.showableAll ps = true
theorem Sm.mono {dp wt dp' wt' : Nat} {d : D} (h : Sm dp wt d) (a : dp ≤ dp') (b : wt ≤ wt') : Sm dp' wt' d := let ⟨p, h1, h2, h3, h4, h5⟩ := h; ⟨p, h1, h2, Nat.le_trans h3 a, Nat.le_trans h4 b, h5⟩
theorem SmL.mono {dp wt dp' wt' : Nat} {d : List D} (h : SmL dp wt d) (a : dp ≤ dp') (b : wt ≤ wt') : SmL dp' wt' d := let ⟨p, h1, h2, h3, h4, h5⟩ := h; ⟨p, h1, h2, Nat.le_trans h3 a, Nat.le_trans h4 b, h5⟩
theorem SmL.nil : SmL 0 0 [] := ⟨[], rfl, rfl, Nat.le_refl _, Nat.le_refl _, rfl, rfl⟩
theorem SmL.cons {dp wt wt' : Nat} {d : D} {ds : List D} (h : Sm dp wt d) (t : SmL dp wt' ds) : SmL dp (wt + 1 + wt') (d :: ds) := by
  obtain ⟨p, h1, h2, h3, h4, h5, h6⟩ := h
  obtain ⟨ps, t1, t2, t3, t4, t5, t6⟩ := t
  refine ⟨p :: ps, by simp [toPyL, h1, t1], by simp [PyData.canLayAll0, h2, t2], ?_, ?_, by simp [PyData.intsShortAll, h5, t5], by simp [PyData.showableAll, h6, t6]⟩
  · rw [PyData.depthAll]
    exact Nat.max_le.mpr ⟨h3, t3⟩
  · rw [PyData.weightAll]
    omega
theorem SmL.all {dp wt : Nat} : ∀ {ds : List D}, (∀ d ∈ ds, Sm dp wt d) → SmL dp (ds.length * (wt + 1)) ds
  | [], _ => SmL.nil.mono (Nat.zero_le _) (Nat.zero_le _)
  | d :: ds, h => (SmL.cons (h d List.mem_cons_self) (SmL.all fun x hx => h x (List.mem_cons_of_mem _ hx))).mono (Nat.le_refl _) (by rw [List.length_cons, Nat.succ_mul]; omega)
theorem Sm.tup {dp wt : Nat} {ds : List D} (h : SmL dp wt ds) : Sm (dp + 1) wt (.tup ds) := by
  obtain ⟨ps, t1, t2, t3, t4, t5, t6⟩ := h
  exact ⟨.tuple ps, by simp [toPy, t1], by simpa [PyData.canLay0] using t2, by simpa [PyData.depth] using t3, by simpa [PyData.weight] using t4, by simpa [PyData.intsShort] using t5, by simpa [PyData.showable] using t6⟩
theorem Sm.lst {dp wt : Nat} {ds : List D} (h : SmL dp wt ds) : Sm (dp + 1) wt (.lst ds) := by
  obtain ⟨ps, t1, t2, t3, t4, t5, t6⟩ := h
  exact ⟨.list ps, by simp [toPy, t1], by simpa [PyData.canLay0] using t2, by simpa [PyData.depth] using t3, by simpa [PyData.weight] using t4, by simpa [PyData.intsShort] using t5, by simpa [PyData.showable] using t6⟩
theorem Sm.non : Sm 0 0 .non := ⟨.none, rfl, rfl, Nat.le_refl _, Nat.le_refl _, rfl, rfl⟩
theorem Sm.bl (b : Bool) : Sm 0 0 (.bl b) := ⟨.bool b, rfl, rfl, Nat.le_refl _, Nat.le_refl _, rfl, rfl⟩
theorem Sm.int {i : Int} (h : -1000000000000 < i ∧ i < 1000000000000) : Sm 0 40 (.int i) := by
  have hn : i.natAbs < 10 ^ 12 := by omega
  have hl : i.natAbs.log2 < 40 := by
    by_cases z : i.natAbs = 0
    · rw [z]; decide
    · exact (Nat.log2_lt z).mpr (by omega)
  refine ⟨.int i, rfl, rfl, Nat.le_refl _, ?_, ?_, ?_⟩
  · rw [PyData.weight]
    split
    · exact Nat.zero_le _
    · omega
  · rw [PyData.intsShort, PyData.shown]
    have h0 := int_text_length_le10 (a := i) (k := 12) (by decide) hn
    refine decide_eq_true ?_
    rw [PySem.ofString_length]
    exact h0
  · rw [PyData.showable]
    exact decide_eq_true (by omega)
theorem Sm.str {n : Nat} {x : Str} (h : GS n x) : Sm 0 n (.str x) := by
  refine ⟨.str x, rfl, ?_, Nat.le_refl _, ?_, rfl, rfl⟩
  · have := h.ok
    unfold SeqAt.shaped at this
    exact (Bool.and_eq_true_iff.mp this).1
  · rw [PyData.weight]
    exact h.1
theorem Sm.shaped {dp wt : Nat} {d : D} (h : Sm dp wt d) (l : dp ≤ 64) : ∃ p, toPy d = some p ∧ SeqAt.shaped p = true := by
  obtain ⟨p, h1, h2, h3, h4, h5, h6⟩ := h
  refine ⟨p, h1, ?_⟩
  unfold SeqAt.shaped
  rw [h2, decide_eq_true (Nat.le_trans h3 l)]
  rfl
theorem Sm.shown {dp wt : Nat} {d : D} (h : Sm dp wt d) (l : dp ≤ 64) (m : wt ≤ 1048576) : ∃ x, (toPy d).bind shownD = some (.str x) := by
  obtain ⟨p, h1, h2, h3, h4, h5, h6⟩ := h
  have hl : PyData.layable0 p = true := by
    unfold PyData.layable0
    rw [h2, decide_eq_true (Nat.le_trans h3 l), decide_eq_true (show p.weight ≤ 2 ^ 20 from Nat.le_trans h4 m)]
    rfl
  have hs : p.shown.length ≤ sizeLine := Nat.le_trans (shown_le13 hl h5) (by rw [sizeLine_eq]; decide)
  have hd := PyData.hasDict_of_layable hl
  exact ⟨p.shown, by rw [h1, Option.bind_some]; unfold shownD; rw [if_pos ⟨hd, h6, Nat.le_trans h3 l, hs⟩]⟩
theorem repr_tup {dp wt : Nat} {ds : List D} (h : Sm dp wt (.tup ds)) (l : dp ≤ 64) (m : wt ≤ 1048576) : ∃ x, ∀ st, bRepr [.tup ds] st = some (.str x) := let ⟨x, e⟩ := h.shown l m; ⟨x, fun st => e⟩
theorem repr_lst {dp wt : Nat} {ds : List D} (h : Sm dp wt (.lst ds)) (l : dp ≤ 64) (m : wt ≤ 1048576) : ∃ x, ∀ st, bRepr [.lst ds] st = some (.str x) := let ⟨x, e⟩ := h.shown l m; ⟨x, fun st => e⟩
end DL
/-! == of anything and a text; a tuple and (). -/
namespace DL
open PySem PySem.Spec PyProof.Rows L2 TL
variable {K : PySem.W.Frag}
section
open PySem.MeetsSeq PySem.MeetsSeq2 PySem.MeetsSeq3 PySem.SeqAt
variable {A : Around} {s : Shared}
theorem str_not_dict (x : Str) (t : Tok) (a : Addr) (es : Array DictEntry) (n : Nat) (dd : Option Addr) (sl : Array (Option Value)) :
    Meets (Builtin.«str.__eq__» ⟨[.str x t, .ref a], []⟩) (fun _ R s => s.heap.get? a = some ⟨.type "dict", dd, .dict es n, sl⟩ ∧ R (.ok (.ret .notImplemented)) s) := .of_wp fun P w A R s hh => by
  obtain ⟨hp, g, d, tk, os⟩ := s
  obtain ⟨got, done⟩ := hh
  wp_walk using wpAny_load got
  exact ⟨_, rfl, done⟩
/-- dict's own answer to a text -/
theorem call_dict_str {P : Program} {w : World} {E Q' : Value → Shared → Prop} {a : Addr} (x : Str) (t : Tok) {id : Str} (slot : Slot "dict" id "dict.__eq__") (hT : s.TypeIs (.ref a) "dict") (hq : Q' .notImplemented s) : wpAny (model P w) A (call (.builtin "dict.__eq__") [.ref a, .str x t]) Q' E s := by
  refine wpAny_call_entry slot hT PySem.F.entry_dict_eq ?_ (PySem.F.args_dict_eq_2 _ _)
  show wpAny _ _ (Builtin.Dict.dictSlotArgs "__eq__" ⟨[.ref a, .str x t], []⟩ >>= _) _ _ s
  refine wpAny_bind ?_
  unfold Builtin.Dict.dictSlotArgs
  refine wpAny_bind (wpAny_notOrdered_dict hT ?_)
  show wpAny _ _ (pure (Value.ref a, Value.str x t)) _ _ s
  refine wpAny_pure ?_
  refine wpAny_bind (wpAny_isInstance (T := "str") (typeIs_str _ _ _) PySem.F.sub_str_dict ?_)
  simp only [Bool.not_false, if_true]
  wp_walk
  exact ⟨_, rfl, hq⟩
/-- a dict == a text -/
theorem rc_dict_str {a : Addr} {es : Array DictEntry} {n : Nat} {dd : Option Addr} {sl : Array (Option Value)} (x : Str) (t : Tok) (got : s.heap.get? a = some ⟨.type "dict", dd, .dict es n, sl⟩) (hu : A.units < cLine) : RcAt A s (.ref a) (.str x t) false := fun P w E Q h =>
  have hT : s.TypeIs (.ref a) "dict" := ⟨_, got, rfl⟩
  rc_eq_decline_or (k := false) hT (typeIs_str s x t) (by decide) PySem.F.sub_str_dict PySem.F.slot_dict_eq PySem.F.slot_str_eq_refl (fun Q' hq => call_dict_str x t PySem.F.slot_dict_eq hT hq)
    (fun Q' hq => call_meets PySem.F.slot_str_eq_refl (typeIs_str s x t) PySem.F.entry_str_eq (PySem.F.args_str_eq_2 _ _) (str_not_dict x t a es n dd sl) ⟨got, hq⟩)
    (fun Q' hq => wpAny_of_eq (rfl : isSame (.ref a) (.str x t) = pure false) hq) (.inr hu) h
theorem rc_str_dict {a : Addr} {es : Array DictEntry} {n : Nat} {dd : Option Addr} {sl : Array (Option Value)} (x : Str) (t : Tok) (got : s.heap.get? a = some ⟨.type "dict", dd, .dict es n, sl⟩) (hu : A.units < cLine) : RcAt A s (.str x t) (.ref a) false := fun P w E Q h =>
  have hT : s.TypeIs (.ref a) "dict" := ⟨_, got, rfl⟩
  rc_eq_decline_or (k := false) (typeIs_str s x t) hT (by decide) PySem.F.sub_dict_str PySem.F.slot_str_eq PySem.F.slot_dict_eq_refl
    (fun Q' hq => call_meets PySem.F.slot_str_eq (typeIs_str s x t) PySem.F.entry_str_eq (PySem.F.args_str_eq_2 _ _) (str_not_dict x t a es n dd sl) ⟨got, hq⟩) (fun Q' hq => call_dict_str x t PySem.F.slot_dict_eq_refl hT hq)
    (fun Q' hq => wpAny_of_eq (rfl : isSame (.str x t) (.ref a) = pure false) hq) (.inr hu) h
/-- as an item is compared -/
theorem eq_str_dict {a : Addr} {es : Array DictEntry} {n : Nat} {dd : Option Addr} {sl : Array (Option Value)} (x : Str) (t : Tok) (got : s.heap.get? a = some ⟨.type "dict", dd, .dict es n, sl⟩) (hu : A.units < cLine) : EqAt A s (.str x t) (.ref a) false := fun P w E Q q => by
  unfold eqBool
  refine wpAny_holding (wpAny_ite_split (fun z => absurd (eq_of_beq z) nofun) fun _ => ?_)
  exact wpAny_bind (rc_str_dict x t got hu P w E _ (wpAny_truthy_bool q))
end
section
variable {X : Cx} {W : WXd}
/-- is it this text -/
def eqS (x : Str) : D → Option Bool
  | .non => some false | .bl _ => some false | .int _ => some false | .str y => some (y == x) | .tup _ => some false | .lst _ => some false | .dct _ => some false | .scr _ => none | .ref _ => none
/-- both ways, behind whatever is read -/
theorem any_str {rho : Rf} {pins : List (Addr × Obj)} {σ : L2.St} {H : Hp} {s : Shared} {v : V} {u : Value} {d : D} {x : Str} {t : Tok} {k : Bool} {A : Around} (I : Inv X pins σ H s) (r : Rep X.K rho H v d) (rv : RelV v u) (e : eqS x d = some k) (hu : A.units < cLine) :
    SeqAt.RcAt A s u (.str x t) k ∧ SeqAt.EqAt A s (.str x t) u k := by
  cases d with
  | non => cases r; cases e; cases rv; exact ⟨.none_str _ _, .str_none _ _⟩
  | bl b => cases r; cases e; cases rv; exact ⟨.bool_str _ _ _, .str_bool _ _ _⟩
  | int i =>
    cases r
    cases e
    obtain ⟨t', rfl⟩ := rv
    exact ⟨.int_str _ _ _ _, .str_int _ _ _ _⟩
  | str y =>
    cases r
    cases e
    obtain ⟨t', rfl⟩ := rv
    refine ⟨.str_str _ _ _ _, ?_⟩
    have := SeqAt.EqAt.str_str (A := A) (s := s) x t y t'
    rwa [show (x == y) = (y == x) from Bool.beq_comm] at this
  | tup ds =>
    cases e
    obtain ⟨a, us, rfl, sq, l⟩ := r.sqT
    cases rv
    obtain ⟨its, r1, p1, _⟩ := I.tuple sq
    exact ⟨.tuple_str _ _ p1 hu, .str_tuple _ _ p1 hu⟩
  | lst ds =>
    cases e
    cases r with
    | lst g1 g2 g3 =>
      cases rv
      obtain ⟨its, r1, p1, _⟩ := I.list (.of g1)
      exact ⟨.list_str _ _ p1.isList hu, .str_list _ _ p1.isList hu⟩
  | dct kvs =>
    cases e
    cases r with
    | dct g1 g2 g3 =>
      cases rv
      obtain ⟨_, ns, vs, _, ⟨⟨cls, dd, data, sl⟩, es, ep, ho, ⟨hc, _, _⟩, hd, _⟩⟩ := (show ObjOk X.prog X.w H s.heap _ (.dK _) from (I.hok _ _ g1).2)
      simp only at hc hd
      subst hc hd
      exact ⟨rc_dict_str x t ho hu, eq_str_dict x t ho hu⟩
  | scr ns => cases e
  | ref n => cases e
/-- d == "text" -/
def eqT : D → D → Option D := fun a b => match b with | .str x => (eqS x a).map .bl | _ => none
def rEqT (K : PySem.W.Frag) : R2 := fun x y H Q => ∃ (rho : Rf) (d : D) (z : Str) (k : Bool), Rep K rho H x d ∧ y = .str z ∧ eqS z d = some k ∧ Q (.bl k) H
theorem op_eqT (hu : X.A.units < cLine) : OpR X (compareOp .Eq) (rEqT X.K) := by
  intro pins s σ H x y v u Q I rx ry h
  obtain ⟨rho, d, z, k, r, rfl, e, q⟩ := h
  obtain ⟨t, rfl⟩ := ry
  exact (any_str (A := X.A) I r rx e hu).1 X.prog X.w _ _ ⟨.bl k, H, I, rfl, q⟩
theorem ok_eqT {k : Nat} (g : GX X k) : OpOk X (compareOp .Eq) eqT := ⟨_, op_eqT g.room.units0, fun rho H x y a b d st Q si ra rb e q => by
  unfold eqT at e
  split at e
  · obtain ⟨c, h1, h2⟩ := Option.map_eq_some_iff.mp e
    subst h2
    cases rb
    exact ⟨rho, a, _, c, ra, rfl, h1, q _ H (fun _ _ h => h) (.bl _)⟩
  · cases e⟩
/-- t == () -/
def eqNil : D → D → Option D := fun a b => match a, b with | .tup xs, .tup [] => some (.bl (xs.length == 0)) | _, _ => none
def rEqNil (K : PySem.W.Frag) : R2 := fun x y H Q => ∃ a b xs, x = .ref a ∧ y = .ref b ∧ SqT K H a xs ∧ SqT K H b [] ∧ Q (.bl (xs.length == 0)) H
theorem op_eqNil (hu : X.A.units < cLine) : OpR X (compareOp .Eq) (rEqNil X.K) := by
  intro pins s σ H x y v u Q I rx ry h
  obtain ⟨a, b, xs, rfl, rfl, h1, h2, q⟩ := h
  cases rx
  cases ry
  obtain ⟨its, r1, p1, _⟩ := I.tuple h1
  obtain ⟨its2, r2, p2, _⟩ := I.tuple h2
  cases r2
  refine SeqAt.eq_tupleAt (e := fun _ => true) p1 p2 hu (fun j h1 h2 => absurd h2 (Nat.not_lt_zero j)) ?_
  have : (((List.range (min its.toArray.size (#[] : Array Value).size)).all fun _ => true) && its.toArray.size == (#[] : Array Value).size) = (xs.length == 0) := by
    rw [r1.length]
    simp
  rw [this]
  exact ⟨.bl _, H, I, rfl, q⟩
theorem ok_eqNil {k : Nat} (g : GX X k) : OpOk X (compareOp .Eq) eqNil := ⟨_, op_eqNil g.room.units0, fun rho H x y a b d st Q si ra rb e q => by
  unfold eqNil at e
  split at e
  · cases e
    obtain ⟨p, us, rfl, s1, l1⟩ := ra.sqT
    obtain ⟨p2, us2, rfl, s2, l2⟩ := rb.sqT
    cases l2
    exact ⟨p, p2, us, rfl, rfl, s1, s2, by rw [l1.len]; exact q _ H (fun _ _ h => h) (.bl _)⟩
  · cases e⟩
/-- == where one side may be anything -/
def opEqA : D → D → Option D := orD eqT (orD eqNil opEq)
theorem ok_eqA {k : Nat} (g : GX X k) : OpOk X (compareOp .Eq) opEqA := (ok_eqT g).or ((ok_eqNil g).or (ok_eq g))
/-- d in ("text", ..) -/
def anyS (a : D) : List Str → Option Bool
  | [] => some false
  | z :: zs => (eqS z a).bind fun b => (anyS a zs).map fun c => b || c
def inStr (neg : Bool) : D → D → Option D := fun a b => match b with | .tup ds => (strsD ds).bind fun zs => (anyS a zs).map fun b => .bl (if neg then !b else b) | _ => none
def rInStr (K : PySem.W.Frag) (neg : Bool) : R2 := fun x y H Q => ∃ (rho : Rf) (d : D) (p : Addr) (zs : List Str) (k : Bool), Rep K rho H x d ∧ y = .ref p ∧ SqT K H p (zs.map V.str) ∧ anyS d zs = some k ∧ Q (.bl (if neg then !k else k)) H
/-- an item's answer -/
def itemS (d : D) : Value → Bool | .str z _ => (eqS z d).getD false | _ => false
theorem any_items {rho : Rf} {pins : List (Addr × Obj)} {σ : L2.St} {H : Hp} {s : Shared} {v : V} {u : Value} {d : D} {A : Around} (I : Inv X pins σ H s) (r : Rep X.K rho H v d) (rv : RelV v u) (hu : A.units < cLine) :
    ∀ {zs : List Str} {its : List Value} {k : Bool}, Vals (zs.map V.str) its → anyS d zs = some k → its.any (itemS d) = k ∧ ∀ y ∈ its, SeqAt.EqAt A s y u (itemS d y)
  | [], _, k, .nil, e => by
    cases e
    exact ⟨rfl, fun y hy => by cases hy⟩
  | z :: zs, _, k, .cons (b := w) (l₂ := ws) hw t, e => by
    obtain ⟨b, h1, h2⟩ := Option.bind_eq_some_iff.mp (show ((eqS z d).bind fun b => (anyS d zs).map fun c => b || c) = some k from e)
    obtain ⟨c, h3, h4⟩ := Option.map_eq_some_iff.mp h2
    obtain ⟨g1, g2⟩ := any_items I r rv hu t h3
    obtain ⟨tk, rfl⟩ := hw
    have e1 : itemS d (.str z tk) = b := by
      show (eqS z d).getD false = b
      rw [h1]; rfl
    refine ⟨by rw [List.any_cons, g1, e1]; exact h4, fun y hy => ?_⟩
    rcases List.mem_cons.mp hy with rfl | hy
    · rw [e1]
      exact (any_str (A := A) I r rv h1 hu).2
    · exact g2 y hy
theorem op_inStr (hu : X.A.units + 1 < cLine) : OpR X (compareOp .In) (rInStr X.K false) := by
  intro pins s σ H x y v u Q I rx ry h
  obtain ⟨rho, d, p, zs, k, r, rfl, sq, e, q⟩ := h
  cases ry
  obtain ⟨its, r1, p1, _⟩ := I.tuple sq
  obtain ⟨g1, g2⟩ := any_items (A := X.A.in1) I r rx hu r1 e
  refine SeqAt.in_tupleAt (itemS d) p1 (fun y hy => g2 y (by simpa using hy)) ?_
  rw [show its.toArray.any (itemS d) = its.any (itemS d) by simp, g1]
  exact ⟨.bl k, H, I, rfl, q⟩
theorem op_notInStr (hu : X.A.units + 1 < cLine) : OpR X (compareOp .NotIn) (rInStr X.K true) := by
  intro pins s σ H x y v u Q I rx ry h
  obtain ⟨rho, d, p, zs, k, r, rfl, sq, e, q⟩ := h
  cases ry
  obtain ⟨its, r1, p1, _⟩ := I.tuple sq
  obtain ⟨g1, g2⟩ := any_items (A := X.A.in1) I r rx hu r1 e
  refine SeqAt.notIn_tupleAt (itemS d) p1 (fun y hy => g2 y (by simpa using hy)) ?_
  rw [show its.toArray.any (itemS d) = its.any (itemS d) by simp, g1]
  exact ⟨.bl (!k), H, I, rfl, q⟩
theorem inStr_ok (neg : Bool) {rho : Rf} {H : Hp} {x y : V} {a b d : D} {Q : VK} (ra : Rep K rho H x a) (rb : Rep K rho H y b) (e : inStr neg a b = some d) (q : ∀ v H', Same H H' → Rep K rho H' v d → Q v H') : rInStr K neg x y H Q := by
  unfold inStr at e
  split at e
  · obtain ⟨zs, h1, h2⟩ := Option.bind_eq_some_iff.mp e
    obtain ⟨c, h3, h4⟩ := Option.map_eq_some_iff.mp h2
    subst h4
    obtain ⟨p, us, rfl, s1, l1⟩ := rb.sqT
    have := l1.strs' h1
    subst this
    exact ⟨rho, a, p, zs, c, ra, rfl, s1, h3, q _ H (fun _ _ h => h) (.bl _)⟩
  · cases e
def opInA : D → D → Option D := orD (inStr false) (inSeq false)
def opNotInA : D → D → Option D := orD (inStr true) (inSeq true)
theorem ok_inA {k : Nat} (g : GX X k) : OpOk X (compareOp .In) opInA := OpOk.or ⟨_, op_inStr (by have := g.room.un; omega), fun rho H x y a b d st Q si ra rb e q => inStr_ok false ra rb e q⟩ ok_in
theorem ok_notinA {k : Nat} (g : GX X k) : OpOk X (compareOp .NotIn) opNotInA := OpOk.or ⟨_, op_notInStr (by have := g.room.un; omega), fun rho H x y a b d st Q si ra rb e q => inStr_ok true ra rb e q⟩ ok_notin
end
end DL
/-! repr of anything. -/
namespace DL
open PySem PySem.Spec PyProof.Rows L2 TL
variable {K : PySem.W.Frag}
mutual
def toPyR : D → Option PyData
  | .non => some .none
  | .bl b => some (.bool b)
  | .int i => some (.int i)
  | .str x => some (.str x)
  | .tup ds => (toPyRL ds).map .tuple
  | .lst ds => (toPyRL ds).map .list
  | .dct [] => some (.dict [])
  | .dct (_ :: _) => none
  | .scr _ => none
  | .ref _ => none
def toPyRL : List D → Option (List PyData)
  | [] => some []
  | d :: ds => (toPyR d).bind fun p => (toPyRL ds).map fun q => p :: q
end
section
variable {X : Cx} {W : WXd} {pins : List (Addr × Obj)} {σ : L2.St} {H : Hp} {s : Shared} {rho : Rf}
theorem dict_nil (I : Inv X pins σ H s) {a : Addr} {xs : List (Key × V)} (h : Rd H a (.dK xs)) (e : xs = []) : ∃ o es ep, s.heap.get? a = some o ∧ o.cls = .type "dict" ∧ o.data = .dict es ep ∧ es.toList = [] ∧ (a == sysModules) = false := by
  subst e
  obtain ⟨_, ns, vs, kv, ⟨o, es, ep, ho, ⟨hc, _, _⟩, hd, _, hp, _⟩⟩ := (show ObjOk X.prog X.w H s.heap a (.dK []) from h.ok I.hok)
  unfold KV at kv
  cases kv
  refine ⟨o, es, ep, ho, hc, hd, ?_, ns⟩
  generalize es.toList = l at *
  cases hp
  rfl
/-- what can be read back, with what shows it -/
def Shows (X : Cx) (s : Shared) (u : Value) (p : PyData) : Prop := (∃ as, Reads s.heap u p as) ∧ ∃ bs, ReadAtMost s.heap p.depth bs ∧ ReprK X.prog X.w bs s.heap p.depth u p.shown
def ShowsL (X : Cx) (s : Shared) (us : List Value) (ps : List PyData) : Prop := (∃ as, ReadsAll s.heap us ps as) ∧ ∃ bs, ReadAtMost s.heap (PyData.depthAll ps) bs ∧ ReprAllK X.prog X.w bs s.heap (PyData.depthAll ps) us (PyData.shownAll ps)
theorem shows_flat {u : Value} {p : PyData} (r : Reads s.heap u p []) (h : ReprIs X.prog X.w u p.shown) : Shows X s u p := ⟨⟨[], r⟩, [], (fun _ z => nomatch z), .of_is h _ _ _⟩
mutual
theorem shows_of (I : Inv X pins σ H s) : ∀ (d : D) {v : V} {u : Value} {p : PyData}, Rep X.K rho H v d → RelV v u → toPyR d = some p → p.showable = true → p.shown.length ≤ sizeLine → Shows X s u p
  | .non, _, _, _, r, rv, e, _, _ => by
    cases r
    cases rv
    cases e
    exact shows_flat .none .none
  | .bl b, _, _, _, r, rv, e, _, _ => by
    cases r
    cases rv
    cases e
    exact shows_flat (.bool b) (.bool b)
  | .int i, _, _, _, r, rv, e, sh, _ => by
    cases r
    obtain ⟨t, rfl⟩ := rv
    cases e
    exact shows_flat (.int i t) (.int t (of_decide_eq_true (show decide (i.natAbs.log2 < 1920) = true from sh)))
  | .str x, _, _, _, r, rv, e, _, z => by
    cases r
    obtain ⟨t, rfl⟩ := rv
    cases e
    exact shows_flat (.str x t) (.str x t z)
  | .scr _, _, _, _, _, _, e, _, _ => by cases e
  | .ref _, _, _, _, _, _, e, _, _ => by cases e
  | .dct (_ :: _), _, _, _, _, _, e, _, _ => by cases e
  | .dct [], _, _, _, r, rv, e, _, _ => by
    cases e
    cases r with
    | dct g1 g2 g3 =>
      cases g3
      cases rv
      obtain ⟨o, es, ep, ho, hc, hd, hn, hs⟩ := dict_nil I (.inr ⟨_, g1⟩) rfl
      have rd : Reads s.heap (.ref _) (.dict []) _ := .dict (as := []) (bs := []) ho hc hd (by rw [hn]; exact .nil) (by rw [hn]; exact .nil)
      exact ⟨⟨_, rd⟩, [_], fun b hb => by
        rw [List.mem_singleton.mp hb]
        exact ⟨_, _, rd, Nat.le_refl _⟩, ReprK.dict (d := 0) ho hc hd hs (by simp) (by rw [hn]; exact .nil)⟩
  | .tup ds, _, _, _, r, rv, e, sh, z => by
    obtain ⟨ps, e1, e2⟩ := Option.map_eq_some_iff.mp (show (toPyRL ds).map PyData.tuple = some _ from e)
    subst e2
    obtain ⟨a, us, rfl, sq, l⟩ := r.sqT
    cases rv
    obtain ⟨its, r1, ⟨o, ho, hc, n, hd⟩, _⟩ := I.tuple sq
    obtain ⟨⟨as, ra⟩, bs, hb, hk⟩ := showsL_of I ds l r1 e1 sh fun t ht => Nat.le_trans (tupleText_mem_le ht) z
    have rd : Reads s.heap (.ref a) (.tuple ps) as := .tuple ho hc hd ra
    have na : a ∉ bs := not_mem_of_deeper rd (Nat.lt_succ_self _) hb
    exact ⟨⟨as, rd⟩, a :: bs, ReadAtMost.cons rd (Nat.le_succ _) hb, ReprK.tuple ho hc hd na hk⟩
  | .lst ds, _, _, _, r, rv, e, sh, z => by
    obtain ⟨ps, e1, e2⟩ := Option.map_eq_some_iff.mp (show (toPyRL ds).map PyData.list = some _ from e)
    subst e2
    cases r with
    | lst g1 g2 g3 =>
      rename_i a us
      cases rv
      obtain ⟨its, r1, ⟨⟨o, n, ho, hc, hx, hd⟩, hz⟩⟩ := I.list (.of g1)
      obtain ⟨⟨as, ra⟩, bs, hb, hk⟩ := showsL_of I ds g3 r1 e1 sh fun t ht => Nat.le_trans (listText_mem_le ht) z
      have rd : Reads s.heap (.ref a) (.list ps) (a :: as) := .list ho hc hd ra
      have na : a ∉ bs := not_mem_of_deeper rd (Nat.lt_succ_self _) hb
      refine ⟨⟨_, rd⟩, a :: bs, ReadAtMost.cons rd (Nat.le_succ _) hb, ?_⟩
      cases its with
      | nil =>
        cases ra
        exact ReprK.listEmpty ho hc hd
      | cons w ws => exact ReprK.list ho hc hd na (by simpa using hk.length_eq) fun i y q => hk.item i y (by simpa using q)
theorem showsL_of (I : Inv X pins σ H s) : ∀ (ds : List D) {vs : List V} {us : List Value} {ps : List PyData}, RepL X.K rho H vs ds → Vals vs us → toPyRL ds = some ps → PyData.showableAll ps = true → (∀ t ∈ PyData.shownAll ps, t.length ≤ sizeLine) → ShowsL X s us ps
  | [], _, _, _, .nil, .nil, e, _, _ => by
    cases e
    exact ⟨⟨[], .nil⟩, [], (fun _ z => nomatch z), .nil⟩
  | d :: ds, _, _, ps, .cons r l, .cons rv rt, e, sh, z => by
    obtain ⟨p, e1, e2⟩ := Option.bind_eq_some_iff.mp (show ((toPyR d).bind fun p => (toPyRL ds).map fun q => p :: q) = some ps from e)
    obtain ⟨qs, e3, e4⟩ := Option.map_eq_some_iff.mp e2
    subst e4
    have sh2 : p.showable = true ∧ PyData.showableAll qs = true := Bool.and_eq_true_iff.mp (show (p.showable && PyData.showableAll qs) = true from sh)
    obtain ⟨⟨as, ra⟩, b1, hb1, k1⟩ := shows_of I d r rv e1 sh2.1 (z _ (List.mem_cons_self (a := p.shown) (l := PyData.shownAll qs)))
    obtain ⟨⟨as2, ra2⟩, b2, hb2, k2⟩ := showsL_of I ds l rt e3 sh2.2 fun t ht => z t (List.mem_cons_of_mem _ ht)
    refine ⟨⟨as ++ as2, .cons ra ra2⟩, b1 ++ b2, ReadAtMost.append (hb1.mono (Nat.le_max_left _ _)) (hb2.mono (Nat.le_max_right _ _)), ?_⟩
    exact .cons ((k1.more fun b h => List.mem_append_left _ h).level_le (Nat.le_max_left _ _)) (k2.more_le (fun b h => List.mem_append_right _ h) (Nat.le_max_right _ _))
end
end
section
variable {X : Cx} {W : WXd}
def rRepr (K : PySem.W.Frag) : List V → Hp → VK → Prop := fun xs H Q => ∃ rho v d p, xs = [v] ∧ Rep K rho H v d ∧ toPyR d = some p ∧ p.showable = true ∧ p.depth ≤ 64 ∧ p.shown.length ≤ sizeLine ∧ Q (.str p.shown) H
theorem call_reprA {k : Nat} (g : GX X k) : CallR X (.builtin "repr") (rRepr X.K) := by
  intro pins s σ H xs us Q I r h
  obtain ⟨rho, v, d, p, rfl, rp, e, sh, dp, z, q⟩ := h
  obtain ⟨u, rfl, rv⟩ := vals1 r
  have hu := g.room.un
  have fin : ∀ h' (w : Tok) (tk : Nat), (∀ b o, s.heap.get? b = some o → h'.get? b = some o) → EP X pins σ Q (.str p.shown w) { s with heap := h', toks := tk } := fun h' w tk hk => ⟨.str p.shown, H, I.kept hk, ⟨_, rfl⟩, q⟩
  cases d with
  | non =>
    cases rp
    cases rv
    cases e
    exact PySem.P.repr_of_none ⟨.str _, H, I.tok _, ⟨_, rfl⟩, q⟩
  | bl b =>
    cases rp
    cases rv
    cases e
    exact PySem.P.repr_of_bool ⟨.str _, H, I.tok _, ⟨_, rfl⟩, q⟩
  | int i =>
    cases rp
    obtain ⟨t, rfl⟩ := rv
    cases e
    exact PySem.P.repr_of_int (of_decide_eq_true (show decide (i.natAbs.log2 < 1920) = true from sh)) ⟨.str _, H, I.tok _, ⟨_, rfl⟩, q⟩
  | str x =>
    cases rp
    obtain ⟨t, rfl⟩ := rv
    cases e
    exact PySem.P.repr_of_str ⟨.str _, H, I.tok _, ⟨_, rfl⟩, q⟩ z
  | scr ns => cases e
  | ref n => cases e
  | dct kvs =>
    cases kvs with
    | cons _ _ => cases e
    | nil =>
      cases e
      cases rp with
      | dct g1 g2 g3 =>
        cases g3
        cases rv
        obtain ⟨o, es, ep, ho, hc, hd, hn, hs⟩ := dict_nil I (.inr ⟨_, g1⟩) rfl
        exact call_repr_slot (by omega) ⟨o, ho, hc⟩ PySem.F.slot_dict_repr (call_dict_reprK (as := []) (d := 0) (ps := []) ho hc hd hs (by simp) (by rw [hn]; exact .nil) g.gd (fun b _ => Clear.nil b) (by show X.A.units + 1 + 1 < cLine; omega) (fun _ _ e => e) (fun h' u tk hk => ⟨_, _, rfl, fin h' u tk hk⟩) z)
  | tup ds =>
    obtain ⟨ps, e1, e2⟩ := Option.map_eq_some_iff.mp (show (toPyRL ds).map PyData.tuple = some _ from e)
    subst e2
    obtain ⟨a, us, rfl, sq, l⟩ := rp.sqT
    cases rv
    obtain ⟨its, r1, ⟨o, ho, hc, n, hd⟩, _⟩ := I.tuple sq
    obtain ⟨⟨as, ra⟩, bs, hb, hk⟩ := showsL_of I ds l r1 e1 sh fun t ht => Nat.le_trans (tupleText_mem_le ht) z
    have rd : Reads s.heap (.ref a) (.tuple ps) as := .tuple ho hc hd ra
    have na : a ∉ bs := not_mem_of_deeper rd (Nat.lt_succ_self _) hb
    have dd : PyData.depthAll ps + 1 ≤ 64 := dp
    exact call_repr_slot (by omega) ⟨o, ho, hc⟩ PySem.F.slot_tuple_repr (call_tuple_reprK ho hc hd na hk g.gd (fun b _ => Clear.nil b) (by show X.A.units + 1 + (PyData.depthAll ps + 1) < cLine; omega) (fun _ _ e => e) (fun h' u tk hk => ⟨_, _, rfl, fin h' u tk hk⟩) z)
  | lst ds =>
    obtain ⟨ps, e1, e2⟩ := Option.map_eq_some_iff.mp (show (toPyRL ds).map PyData.list = some _ from e)
    subst e2
    cases rp with
    | lst g1 g2 g3 =>
      rename_i a us
      cases rv
      obtain ⟨its, r1, ⟨⟨o, n, ho, hc, hx, hd⟩, hz⟩⟩ := I.list (.of g1)
      obtain ⟨⟨as, ra⟩, bs, hb, hk⟩ := showsL_of I ds g3 r1 e1 sh fun t ht => Nat.le_trans (listText_mem_le ht) z
      have rd : Reads s.heap (.ref a) (.list ps) (a :: as) := .list ho hc hd ra
      have na : a ∉ bs := not_mem_of_deeper rd (Nat.lt_succ_self _) hb
      have dd : PyData.depthAll ps + 1 ≤ 64 := dp
      refine call_repr_slot (by omega) ⟨o, ho, hc⟩ PySem.F.slot_list_repr.toG ?_
      cases its with
      | nil =>
        cases ra
        exact call_list_repr_empty ⟨o, ho, hc⟩ ho hd ⟨_, _, rfl, fin s.heap _ _ fun _ _ e => e⟩
      | cons w ws => exact call_list_reprK ho hc hd na (by simpa using hk.length_eq) (fun i y q => hk.item i y (by simpa using q)) g.gd (fun b _ => Clear.nil b) (by show X.A.units + 1 + (PyData.depthAll ps + 1) < cLine; omega) (fun _ _ e => e) (fun h' u tk hk => ⟨_, _, rfl, fin h' u tk hk⟩) z
/-- repr(d), of anything -/
def bReprA : List D → Store → Option D := fun ds _ => match ds with
  | [d] => (toPyR d).bind fun p => if p.showable = true ∧ p.depth ≤ 64 ∧ p.shown.length ≤ sizeLine then some (.str p.shown) else none
  | _ => none
theorem ok_reprA {k : Nat} (g : GX X k) : CallOk X (.builtin "repr") bReprA := ⟨_, call_reprA g, fun rho H xs ds d st Q rl si e q => by
  unfold bReprA at e
  split at e
  · rename_i y
    obtain ⟨v, rfl, p⟩ := lst1 rl
    obtain ⟨z, h1, h2⟩ := Option.bind_eq_some_iff.mp e
    by_cases c : z.showable = true ∧ z.depth ≤ 64 ∧ z.shown.length ≤ sizeLine
    · rw [if_pos c] at h2
      cases h2
      exact ⟨rho, v, y, z, rfl, p, h1, c.1, c.2.1, c.2.2, q _ H (fun _ _ h => h) (.str _)⟩
    · rw [if_neg c] at h2
      cases h2
  · cases e⟩
end
/-! ### measures -/
mutual
/-- what may be shown: no great ints, texts of ASCII -/
def okD : D → Bool
  | .non => true
  | .bl _ => true
  | .int i => decide (i.natAbs < 10 ^ 62)
  | .str x => (tl x).all fun c => decide (c < 128)
  | .tup ds => okL ds
  | .lst ds => okL ds
  | .dct [] => true
  | .dct (_ :: _) => false
  | .scr _ => false
  | .ref _ => false
def okL : List D → Bool
  | [] => true
  | d :: ds => okD d && okL ds
end
mutual
def wD : D → Nat
  | .int _ => 210
  | .str x => x.length
  | .tup ds => wL ds
  | .lst ds => wL ds
  | _ => 0
def wL : List D → Nat
  | [] => 0
  | d :: ds => wD d + 1 + wL ds
end
mutual
def hD : D → Nat
  | .tup ds => hL ds + 1
  | .lst ds => hL ds + 1
  | .dct _ => 1
  | _ => 0
def hL : List D → Nat
  | [] => 0
  | d :: ds => max (hD d) (hL ds)
end
mutual
theorem ok_pyR : ∀ (d : D), okD d = true → ∃ p, toPyR d = some p ∧ p.showable = true ∧ p.leavesShort 70 = true ∧ p.depth ≤ hD d ∧ p.weight ≤ wD d
  | .non, _ => ⟨_, rfl, rfl, rfl, Nat.le_refl _, Nat.le_refl _⟩
  | .bl b, _ => ⟨_, rfl, rfl, rfl, Nat.le_refl _, Nat.le_refl _⟩
  | .int i, h => by
    have hn : i.natAbs < 10 ^ 62 := of_decide_eq_true h
    have hl : i.natAbs.log2 < 207 := by
      by_cases z : i.natAbs = 0
      · rw [z]; decide
      · exact (Nat.log2_lt z).mpr (Nat.lt_trans hn (by decide))
    refine ⟨.int i, rfl, ?_, ?_, Nat.le_refl _, ?_⟩
    · rw [PyData.showable]
      exact decide_eq_true (by omega)
    · rw [PyData.leavesShort, PyData.shown]
      have h0 := int_text_length_le10 (a := i) (k := 62) (by decide) hn
      refine decide_eq_true ?_
      rw [PySem.ofString_length]
      omega
    · rw [PyData.weight, wD]
      split
      · exact Nat.zero_le _
      · omega
  | .str x, h => by
    refine ⟨.str x, rfl, rfl, ?_, Nat.le_refl _, ?_⟩
    · rw [PyData.leavesShort]
      exact List.all_eq_true.mpr fun c hc => decide_eq_true (Nat.lt_trans (of_decide_eq_true (List.all_eq_true.mp h c hc)) (by decide))
    · rw [PyData.weight, wD]
      exact Nat.le_refl _
  | .dct [], _ => ⟨.dict [], rfl, rfl, rfl, Nat.le_refl _, Nat.le_refl _⟩
  | .dct (_ :: _), h => by cases h
  | .scr _, h => by cases h
  | .ref _, h => by cases h
  | .tup ds, h => by
    obtain ⟨ps, h1, h2, h3, h4, h5⟩ := ok_pyRL ds h
    exact ⟨.tuple ps, by show (toPyRL ds).map _ = _; rw [h1]; rfl, h2, h3, Nat.succ_le_succ h4, h5⟩
  | .lst ds, h => by
    obtain ⟨ps, h1, h2, h3, h4, h5⟩ := ok_pyRL ds h
    exact ⟨.list ps, by show (toPyRL ds).map _ = _; rw [h1]; rfl, h2, h3, Nat.succ_le_succ h4, h5⟩
theorem ok_pyRL : ∀ (ds : List D), okL ds = true → ∃ ps, toPyRL ds = some ps ∧ PyData.showableAll ps = true ∧ PyData.leavesShortAll 70 ps = true ∧ PyData.depthAll ps ≤ hL ds ∧ PyData.weightAll ps ≤ wL ds
  | [], _ => ⟨[], rfl, rfl, rfl, Nat.le_refl _, Nat.le_refl _⟩
  | d :: ds, h => by
    obtain ⟨a, b⟩ := Bool.and_eq_true_iff.mp (show (okD d && okL ds) = true from h)
    obtain ⟨p, h1, h2, h3, h4, h5⟩ := ok_pyR d a
    obtain ⟨ps, g1, g2, g3, g4, g5⟩ := ok_pyRL ds b
    refine ⟨p :: ps, by show (toPyR d).bind _ = _; rw [h1, g1]; rfl, by rw [PyData.showableAll, h2, g2]; rfl, by rw [PyData.leavesShortAll, h3, g3]; rfl, ?_, ?_⟩
    · rw [PyData.depthAll, hL]
      exact Nat.max_le.mpr ⟨Nat.le_trans h4 (Nat.le_max_left _ _), Nat.le_trans g4 (Nat.le_max_right _ _)⟩
    · rw [PyData.weightAll, wL]
      omega
end
theorem repr_any {d : D} (h : okD d = true) (l : hD d ≤ 64) (m : wD d ≤ 200000) : ∃ x, ∀ st, bReprA [d] st = some (.str x) := by
  obtain ⟨p, h1, h2, h3, h4, h5⟩ := ok_pyR d h
  have hs : p.shown.length ≤ sizeLine := by
    have := PyData.shown_le 70 (by decide) p h3
    have h6 : (70 + 2) * p.weight ≤ 72 * 200000 := Nat.mul_le_mul_left 72 (Nat.le_trans h5 m)
    rw [sizeLine_eq]
    omega
  exact ⟨p.shown, fun st => by show (toPyR d).bind _ = _; rw [h1, Option.bind_some, if_pos ⟨h2, Nat.le_trans h4 l, hs⟩]⟩
theorem okL_mem {ds : List D} : okL ds = true ↔ ∀ d ∈ ds, okD d = true := by
  induction ds with
  | nil => exact ⟨fun _ _ h => (by cases h), fun _ => rfl⟩
  | cons d ds ih =>
    show (okD d && okL ds) = true ↔ _
    rw [Bool.and_eq_true, ih]
    simp
theorem wL_append : ∀ (xs ys : List D), wL (xs ++ ys) = wL xs + wL ys
  | [], ys => by rw [List.nil_append, wL, Nat.zero_add]
  | x :: xs, ys => by rw [List.cons_append, wL, wL, wL_append xs ys]; omega
theorem wL_mem {ds : List D} {d : D} (h : d ∈ ds) : wD d + 1 ≤ wL ds := by
  induction ds with
  | nil => cases h
  | cons e es ih =>
    rw [wL]
    rcases List.mem_cons.mp h with rfl | h
    · omega
    · have := ih h
      omega
theorem hL_le {n : Nat} {ds : List D} : hL ds ≤ n ↔ ∀ d ∈ ds, hD d ≤ n := by
  induction ds with
  | nil => exact ⟨fun _ _ h => (by cases h), fun _ => Nat.zero_le _⟩
  | cons d ds ih =>
    rw [hL, Nat.max_le, ih]
    simp
end DL
/-! A list of the store: an item replaced; walked for good; tuples times an int. -/
namespace DL
open PySem PySem.Spec PyProof.Rows L2 TL
variable {K : PySem.W.Frag}
section
variable {X : Cx} {W : WXd} {tg iter : Expr}
/-- a list of the store is walked, and written no more -/
def iOfZ (f : F) : FI := fun env st => (f env st).bind fun p => match p.1 with
  | .ref n => (match p.2[n]? with | some (.lst ds) => some (ds, p.2.set n .dead) | _ => none)
  | _ => none
def Rf.drop (r : Rf) (a : Addr) : Rf := ⟨r.adr, fun p => r.av p ∧ p ≠ a, r.lk⟩
theorem drop_ext {r : Rf} {H : Hp} {a : Addr} (h : a ∈ r.adr) : Ext r H (r.drop a) H :=
  ⟨⟨⟨[], by simp [Rf.drop]⟩, fun _ _ z _ => z, fun _ z n => absurd z.1 n⟩, fun p v n => ⟨rfl, ⟨v, fun e => n (e ▸ h)⟩, n⟩, fun _ => Iff.rfl, fun _ _ => rfl⟩
theorem drop_sim {r : Rf} {H : Hp} {st : Store} (s : Sim K r H st) {n : Nat} {a : Addr} (h : r.adr[n]? = some a) : Sim K (r.drop a) H (st.set n .dead) := by
  refine ⟨by rw [List.length_set]; exact s.len, s.nd, fun m b o h1 h2 => ?_, fun p v => s.there p v.1, s.old, s.lkd⟩
  by_cases z : n = m
  · subst z
    by_cases hl : n < st.length
    · rw [List.getElem?_set_self hl] at h2
      cases h2
      trivial
    · rw [List.getElem?_eq_none (by rw [List.length_set]; omega)] at h2
      cases h2
  · rw [List.getElem?_set_ne z] at h2
    have nb : b ≠ a := fun y => z (by
      subst y
      obtain ⟨l1, e1⟩ := List.getElem?_eq_some_iff.mp h
      obtain ⟨l2, e2⟩ := List.getElem?_eq_some_iff.mp h1
      exact (List.getElem_inj s.nd).mp (e1.trans e2.symm))
    exact (s.ob m b o h1 h2).ex (drop_ext (List.mem_of_getElem? h)).toEx fun v => ⟨rfl, v, nb⟩
theorem di_frz {f : F} (h : DE X iter f) : DI X tg iter (iOfZ f) := weakI (pi_list h) fun σ H R hh => by
  obtain ⟨r, env, st, ds, st', he, hs, hf, q⟩ := hh
  obtain ⟨⟨d, s1⟩, h1, h2⟩ := Option.bind_eq_some_iff.mp hf
  cases d with
  | ref n =>
    have h2' : (match s1[n]? with | some (.lst ds) => some (ds, s1.set n .dead) | _ => none) = some (ds, st') := h2
    split at h2'
    · rename_i es hst
      cases h2'
      refine ⟨r, env, st, _, s1, he, hs, h1, fun v r1 H1 e1 q1 p1 => ?_⟩
      obtain ⟨a, rfl, ha⟩ := p1.refI
      obtain ⟨av, xs, hx, l⟩ := q1.ob _ a _ ha hst
      have ex := drop_ext (H := H1) (List.mem_of_getElem? ha)
      have na : ¬ (r1.drop a).av a := fun z => z.2 rfl
      exact ⟨a, rfl, ⟨xs, .of hx⟩, q _ _ H1 (e1.trans ex) (drop_sim q1 ha) (sql_ok rfl (fun r2 H2 e2 => .of (e2.keep _ _ hx na)) (l.ext ex))⟩
    · cases h2'
  | _ => cases h2
theorem RepL.set {r : Rf} {H : Hp} {v : V} {d : D} (q : Rep K r H v d) : ∀ {vs : List V} {ds : List D} (j : Nat), RepL K r H vs ds → RepL K r H (vs.set j v) (ds.set j d)
  | _, _, _, .nil => .nil
  | _, _, 0, .cons a b => .cons q b
  | _, _, j + 1, .cons a b => .cons a (RepL.set q j b)
/-- o[i] = v, o a list of the store -/
def sPutL (fo fk fv : F) : FS := fun env st => (fv env st).bind fun p => (fo env p.2).bind fun q => (fk env q.2).bind fun w => match q.1, w.1 with
  | .ref n, .int i => (match w.2[n]? with
    | some (.lst ds) => (ixN ds.length i).bind fun j => some (.nx, env, w.2.set n (.lst (ds.set j p.1)))
    | _ => none)
  | _, _ => none
theorem ds_putL {o i value : Expr} {fo fk fv : F} {pos pos' : Pos} (ho : DE X o fo) (hi : DE X i fk) (hv : DE X value fv) (hs : swapsWithSole [.Subscript o i pos'] value pos.line X.env = pure false := by rfl) (hw : swappedStores [.Subscript o i pos'] value X.env = pure none := by rfl)
    (h1 : (assignEach [.Subscript o i pos'] X.env).map (·.2) = [assign (.Subscript o i pos') X.env] := by rfl)
    (ha : ∀ v, assign (.Subscript o i pos') X.env v = (do let ov ← holding [v] (eval o X.env); let iv ← holding [v, ov] (eval i X.env); standAt pos'; holding [v, ov, iv] (setItem ov iv v); release [v, ov, iv] []) := by intro _; rfl) :
    DS X W (.Assign [.Subscript o i pos'] value pos) (sPutL fo fk fv) := weakS (ps_asg hv (pg_sub ho hi set_list ha) hs hw h1) fun D' σ H hh => by
  obtain ⟨r, env, st, out, env', st', he, hs, hf, q⟩ := hh
  obtain ⟨⟨x, s1⟩, h1, hf1⟩ := Option.bind_eq_some_iff.mp hf
  obtain ⟨⟨y, s2⟩, h2, hf2⟩ := Option.bind_eq_some_iff.mp hf1
  obtain ⟨⟨z, s3⟩, h3, hf3⟩ := Option.bind_eq_some_iff.mp hf2
  cases y with
  | ref n =>
    cases z with
    | int k =>
      simp only at hf3
      split at hf3
      · rename_i ds hst
        obtain ⟨j, hj, hf4⟩ := Option.bind_eq_some_iff.mp hf3
        cases hf4
        refine ⟨r, env, st, x, s1, he, hs, h1, fun xv r1 H1 e1 q1 p1 => ⟨r1, env, s1, _, s2, he.ext e1, q1, h2, fun yv r2 H2 e2 q2 p2 => ⟨r2, env, s2, _, s3, (he.ext e1).ext e2, q2, h3, fun zv r3 H3 e3 q3 p3 => ?_⟩⟩⟩
        cases p3
        obtain ⟨p, rfl, hp⟩ := (p2.ext e3).refI
        obtain ⟨av, xs, hx, l⟩ := q3.ob _ p _ hp hst
        have px : Rep X.K r3 H3 xv x := (p1.ext e2).ext e3
        refine ⟨p, xs, k, j, rfl, rfl, hx, by rw [l.len]; exact hj, ?_⟩
        have ee : Ex r3 H3 r3 (upd H3 p (.lst (xs.set j xv))) := ⟨⟨[], by simp⟩, fun a o w m => by rw [upd_ne (fun y => m (by rw [y]; exact av))]; exact w, fun a w m => absurd w m⟩
        obtain ⟨w1, w2⟩ := q3.set (o := .lst (xs.set j xv)) (ob := .lst (ds.set j x)) hp av ⟨av, _, upd_same, (RepL.set px j l).ex ee⟩ (fun _ _ z => by rw [hx] at z; cases z)
        exact q σ r3 _ (((e1.trans e2).trans e3).trans w1) ((((he.ext e1).ext e2).ext e3).ext w1) w2
      · cases hf3
    | _ => cases hf3
  | _ => cases hf3
/-- (x, ..) * n -/
def mulT : D → D → Option D := fun a b => match a, b with
  | .tup xs, .int n => if xs ≠ [] ∧ 2 ≤ n ∧ n ≤ 1000 ∧ xs.length ≤ 1000 then some (.tup (List.replicate n.toNat xs).flatten) else none
  | _, _ => none
theorem RepL.rep {r : Rf} {H : Hp} {vs : List V} {ds : List D} (l : RepL K r H vs ds) : ∀ n : Nat, RepL K r H (List.replicate n vs).flatten (List.replicate n ds).flatten
  | 0 => .nil
  | n + 1 => by
    rw [List.replicate_succ, List.replicate_succ, List.flatten_cons, List.flatten_cons]
    exact l.append (RepL.rep l n)
theorem ok_mulT : OpOk X (binaryOp .Mult) mulT := ⟨_, op_repF, fun rho H x y a b d st Q si ra rb e q => by
  unfold mulT at e
  split at e
  · rename_i xs n
    by_cases c : xs ≠ [] ∧ 2 ≤ n ∧ n ≤ 1000 ∧ xs.length ≤ 1000
    · rw [if_pos c] at e
      cases e
      cases rb
      obtain ⟨p, us, rfl, s1, l1⟩ := ra.sqT
      refine ⟨p, n, us, rfl, rfl, s1, fun z => c.1 ?_, c.2.1, c.2.2.1, by rw [l1.len]; exact c.2.2.2, fun p' o hp hz => q _ _ (same_alloc hp) (fresh_tup si hp hz (l1.rep n.toNat))⟩
      subst z
      cases l1
      rfl
    · rw [if_neg c] at e
      cases e
  · cases e⟩
def opMulA : D → D → Option D := orD opMul mulT
theorem ok_mulA : OpOk X (binaryOp .Mult) opMulA := ok_mul.or ok_mulT
end
end DL
/-! Instances of own classes: objects of the store. -/
namespace DL
open PySem PySem.Spec PyProof.Rows L2 TL
variable {K : PySem.W.Frag}
/-- the class c, at C -/
structure ClsAt (K : PySem.W.Frag) (c : Str) (C : Addr) : Prop where
  at_ : PySem.W.nsIn K mainGlobals c = some (some (.ref C))
  cls : Cls K C
/-- the instance at n, of class c -/
def insAt (c : Str) (n : Nat) (st : Store) : Option (List (Str × D)) := match st[n]? with
  | some (.ins c' fs) => if c' = c then some fs else none
  | _ => none
theorem insAt_some {c : Str} {n : Nat} {st : Store} {fs : List (Str × D)} (h : insAt c n st = some fs) : st[n]? = some (.ins c fs) := by
  unfold insAt at h
  split at h
  · rename_i c' gs e
    by_cases z : c' = c
    · rw [if_pos z] at h
      cases h
      rw [← z]
      exact e
    · rw [if_neg z] at h
      cases h
  · cases h
theorem fields_get {r : Rf} {H : Hp} {f : Str} : ∀ {vs : List (Str × V)} {fs : List (Str × D)} {d : D}, vs.map (·.1) = fs.map (·.1) → RepL K r H (vs.map (·.2)) (fs.map (·.2)) → fs.lookup f = some d → ∃ v, vs.lookup f = some v ∧ Rep K r H v d
  | [], [], d, _, _, h => by cases h
  | (g, v) :: vs, (g', e) :: fs, d, n, l, h => by
    injection n with n1 n2
    have n1' : g = g' := n1
    subst n1'
    cases l with
    | cons a b =>
      rw [List.lookup_cons] at h ⊢
      cases z : f == g with
      | true =>
        rw [z] at h
        cases h
        exact ⟨v, rfl, a⟩
      | false =>
        rw [z] at h
        exact fields_get n2 b h
theorem fields_none {f : Str} : ∀ {vs : List (Str × V)} {fs : List (Str × D)}, vs.map (·.1) = fs.map (·.1) → fs.lookup f = none → vs.lookup f = none
  | [], [], _, _ => rfl
  | (g, v) :: vs, (g', e) :: fs, n, h => by
    injection n with n1 n2
    have n1' : g = g' := n1
    subst n1'
    rw [List.lookup_cons] at h ⊢
    cases z : f == g with
    | true =>
      rw [z] at h
      cases h
    | false =>
      rw [z] at h
      exact fields_none n2 h
/-- a field set -/
def putFD (f : Str) (d : D) : List (Str × D) → List (Str × D)
  | [] => [(f, d)]
  | (g, x) :: r => if g = f then (g, d) :: r else (g, x) :: putFD f d r
theorem fields_put {r : Rf} {H : Hp} {f : Str} {v : V} {d : D} (q : Rep K r H v d) : ∀ {vs : List (Str × V)} {fs : List (Str × D)}, vs.map (·.1) = fs.map (·.1) → RepL K r H (vs.map (·.2)) (fs.map (·.2)) →
    (putF f v vs).map (·.1) = (putFD f d fs).map (·.1) ∧ RepL K r H ((putF f v vs).map (·.2)) ((putFD f d fs).map (·.2))
  | [], [], _, _ => ⟨rfl, .cons q .nil⟩
  | (g, x) :: vs, (g', e) :: fs, n, l => by
    injection n with n1 n2
    have n1' : g = g' := n1
    subst n1'
    cases l with
    | cons a b =>
      unfold putF putFD
      by_cases z : g = f
      · rw [if_pos z, if_pos z]
        exact ⟨by rw [List.map_cons, List.map_cons, n2], .cons q b⟩
      · rw [if_neg z, if_neg z]
        obtain ⟨h1, h2⟩ := fields_put q n2 b
        exact ⟨by rw [List.map_cons, List.map_cons, h1], .cons a h2⟩
section
variable {X : Cx} {W : WXd}
/-- o.f -/
def fFld (c f : Str) (fo : F) : F := fun env st => (fo env st).bind fun p => match p.1 with
  | .ref n => (insAt c n p.2).bind fun fs => (fs.lookup f).map fun d => (d, p.2)
  | _ => none
theorem de_fld {c f : Str} {C : Addr} {e : Expr} {fo : F} {pos : Pos} (hc : ClsAt X.K c C) (na : NoAttr X.K C f) (he : DE X e fo) (hb : attributeBase e f X.env (eval e X.env) = eval e X.env := by rfl) : DE X (.Attribute e f pos) (fFld c f fo) :=
  weakE (pe_fld he hb) fun σ H Q hh => by
  obtain ⟨r, env, st, d, st', he, hs, hf, q⟩ := hh
  obtain ⟨⟨x, s1⟩, h1, h2⟩ := Option.bind_eq_some_iff.mp hf
  cases x with
  | ref n =>
    obtain ⟨fs, h3, h4⟩ := Option.bind_eq_some_iff.mp (show ((insAt c n s1).bind fun fs => (fs.lookup f).map fun d => (d, s1)) = some (d, st') from h2)
    obtain ⟨d', h5, h6⟩ := Option.map_eq_some_iff.mp h4
    cases h6
    refine ⟨r, env, st, _, _, he, hs, h1, fun v r1 H1 e1 q1 p1 => ?_⟩
    obtain ⟨a, rfl, ha⟩ := p1.refI
    obtain ⟨av, C', dx, vs, hn, hx, nm, l⟩ := q1.ob _ a _ ha (insAt_some h3)
    rw [hc.at_] at hn
    cases hn
    obtain ⟨w, hw, rw'⟩ := fields_get nm l h5
    exact ⟨a, C, dx, vs, w, rfl, hx, hc.cls, na, hw, q w r1 H1 e1 q1 rw'⟩
  | _ => cases h2
/-- o.f = e -/
def sFldD (c f : Str) (fo fv : F) : FS := fun env st => (fv env st).bind fun p => (fo env p.2).bind fun q => match q.1 with
  | .ref n => (insAt c n q.2).bind fun fs => if fs.length < 1000 then some (.nx, env, q.2.set n (.ins c (putFD f p.1 fs))) else none
  | _ => none
theorem ds_fld {c f : Str} {C : Addr} {o value : Expr} {fo fv : F} {pos pos' : Pos} (hc : ClsAt X.K c C) (na : NoAttr X.K C f) (ho : DE X o fo) (hv : DE X value fv) (hs : swapsWith value (some (.Attribute o f pos')) pos.line X.env = pure false := by rfl) :
    DS X W (.Assign [.Attribute o f pos'] value pos) (sFldD c f fo fv) := weakS (ps_fld ho hv hs) fun D' σ H hh => by
  obtain ⟨r, env, st, out, env', st', he, hs, hf, q⟩ := hh
  obtain ⟨⟨x, s1⟩, h1, hf1⟩ := Option.bind_eq_some_iff.mp hf
  obtain ⟨⟨y, s2⟩, h2, hf2⟩ := Option.bind_eq_some_iff.mp hf1
  cases y with
  | ref n =>
    obtain ⟨fs, h3, h4⟩ := Option.bind_eq_some_iff.mp (show ((insAt c n s2).bind fun fs => if fs.length < 1000 then some (Out.nx, env, s2.set n (.ins c (putFD f x fs))) else none) = some (out, env', st') from hf2)
    by_cases hl : fs.length < 1000
    case neg => rw [if_neg hl] at h4; cases h4
    rw [if_pos hl] at h4
    cases h4
    refine ⟨r, env, st, x, s1, he, hs, h1, fun xv r1 H1 e1 q1 p1 => ⟨r1, env, s1, _, s2, he.ext e1, q1, h2, fun yv r2 H2 e2 q2 p2 => ?_⟩⟩
    obtain ⟨a, rfl, ha⟩ := p2.refI
    obtain ⟨av, C', dx, vs, hn, hx, nm, l⟩ := q2.ob _ a _ ha (insAt_some h3)
    have hn0 := hn
    rw [hc.at_] at hn
    cases hn
    have px : Rep X.K r2 H2 xv x := p1.ext e2
    have lv : vs.length = fs.length := by
      have := congrArg List.length nm
      rwa [List.length_map, List.length_map] at this
    obtain ⟨g1, g2⟩ := fields_put (f := f) px nm l
    refine ⟨a, C, dx, vs, rfl, hx, hc.cls, na, by rw [lv]; exact hl, ?_⟩
    have ee : Ex r2 H2 r2 (upd H2 a (.ins C dx (putF f xv vs))) := ⟨⟨[], by simp⟩, fun b o w m => by rw [upd_ne (fun y => m (by rw [y]; exact av))]; exact w, fun b w m => absurd w m⟩
    obtain ⟨w1, w2⟩ := q2.set (o := .ins C dx (putF f xv vs)) (ob := .ins c (putFD f x fs)) ha av ⟨av, C, dx, _, hn0, upd_same, g1, g2.ex ee⟩ (fun _ _ z => by rw [hx] at z; cases z)
    exact q σ r2 _ ((e1.trans e2).trans w1) (((he.ext e1).ext e2).ext w1) w2
  | _ => cases hf2
/-- o.m(e, ..) -/
def noF (m : Str) (o : Option (List (Str × D))) : Bool := match o with | some fs => (fs.lookup m).isNone | none => false
def fMeth (c m : Str) (mm : FM) (fo : F) (fa : FA) : F := fun env st => (fo env st).bind fun p => match p.1 with
  | .ref n => if noF m (insAt c n p.2) = true then (fa env p.2).bind fun q => mm (.ref n :: q.1) q.2 else none
  | _ => none
variable {k : Nat} {f C : Addr} {fd : FuncData} {ps : List Str} {mm : FM} {c m : Str} {apos pos : Pos} {o e : Expr} {es : List Expr}
theorem de_meth {pl : Sem Bool} (hc : ClsAt X.K c C) (hm : Meth X.K C m f) (Fd : FnD X.prog X.w X.K X.mg X.base k f fd ps mm) (gx : GX X k) (hb : Binds X.K fd ps []) {fo : F} {fa : FA} (ho : DE X o fo) (ha : DA X (e :: es) fa) (hl : (e :: es).length + 1 = ps.length := by rfl)
    (hst : starEach (e :: es) X.env = (false, eval e X.env) :: starEach es X.env := by rfl) (hpl : (backTo pos (starEach es X.env)).any (·.1) = false := by rfl)
    (ht : eval (.Call (.Attribute o m apos) (e :: es) [] pos) X.env = (do let ov ← eval o X.env; standAt apos.atName; let (f, first) ← holding [ov] (getMethod ov m pl); callWith pos f first (backTo pos (starEach (e :: es) X.env)) (backToKw pos (keywordEach [] X.env))) := by rfl)
    (hn : ∀ env st ds st', fa env st = some (ds, st') → ds.length = (e :: es).length) :
    DE X (.Call (.Attribute o m apos) (e :: es) [] pos) (fMeth c m mm fo fa) := by
  refine ⟨fun pins s σ H Q I h => ?_⟩
  obtain ⟨r, env, st, d, st', he', hs, hf, q⟩ := h
  obtain ⟨⟨x, s1⟩, h1, h2⟩ := Option.bind_eq_some_iff.mp hf
  cases x with
  | ref n =>
    have h2' : (if noF m (insAt c n s1) = true then (fa env s1).bind fun q => mm (.ref n :: q.1) q.2 else none) = some (d, st') := h2
    by_cases hz : noF m (insAt c n s1) = true
    case neg => rw [if_neg hz] at h2'; cases h2'
    rw [if_pos hz] at h2'
    obtain ⟨⟨ds, s2⟩, h3, h4⟩ := Option.bind_eq_some_iff.mp h2'
    refine PySem.W.methodCall_KW (pl := pl) (thn (ho.run pins s σ H (fun v H1 => ∃ a r1 C' dx vs, v = .ref a ∧ r1.adr[n]? = some a ∧ H1 a = some (.ins C' dx vs) ∧ C' = C ∧ vs.lookup m = none ∧ Ext r H r1 H1 ∧ Sim X.K r1 H1 s1) I ⟨r, env, st, _, s1, he', hs, h1, fun v r1 H1 e1 q1 p1 => ?_⟩) fun u sa hq => ?_) ht
    · obtain ⟨a, rfl, hadr⟩ := p1.refI
      cases hi : insAt c n s1 with
      | none => rw [hi] at hz; cases hz
      | some fs =>
        rw [hi] at hz
        obtain ⟨av, C', dx, vs, hn', hx, nm, l⟩ := q1.ob _ a _ hadr (insAt_some hi)
        rw [hc.at_] at hn'
        cases hn'
        exact ⟨a, r1, C, dx, vs, rfl, hadr, hx, rfl, fields_none nm (Option.isNone_iff_eq_none.mp hz), e1, q1⟩
    · obtain ⟨x, H1, I1, rx, a, r1, C', dx, vs, rfl, hadr, hx, rfl, hno, e1, q1⟩ := hq
      cases rx
      refine getmeth_ok I1 hx hc.cls hm hno ?_
      refine PySem.W.callWith_K (first := [.ref a]) (h₀ := X.base) I.ok.mod.kin hm.kp (thn (ha.run pos pins sa σ H1 (fun vs H2 => ∃ r2, Ext r1 H1 r2 H2 ∧ Sim X.K r2 H2 s2 ∧ RepL X.K r2 H2 vs ds) I1 ⟨r1, env, s1, ds, s2, he'.ext e1, q1, h3, fun vs r2 H2 e2 q2 l2 => ⟨r2, e2, q2, l2⟩⟩) fun us sb hz => ?_) hst hpl
      obtain ⟨vs2, H2, I2, rv, r2, e2, q2, l2⟩ := hz
      exact ⟨I2.kIn, runD (us := .ref a :: us) (vs := .ref a :: vs2) Fd gx hb I2 (.cons rfl rv) (by rw [List.length_cons, l2.len, hn _ _ _ _ h3]; exact hl) (.cons (.ref (e2.get hadr)) l2) q2 h4 fun v r3 H3 e3 q3 p3 => q v r3 H3 ((e1.trans e2).trans e3) q3 p3⟩
  | _ => cases h2
/-- C(e, ..) -/
theorem make_guards {A : Around} {C : Addr} {us : List Value} {kw : List (Str × Value)} : (A.under (.builtin "type.__call__" ⟨.ref C :: us, kw⟩)).guards = A.guards := by
  first
    | rfl
    | simp [Around.under, Code.weight, Code.isCreation, Code.isGuard, Code.isCaller, Code.frames, Code.isFrame, guardIds]
/-- the new instance, on both levels -/
theorem made_sim {r : Rf} {H : Hp} {st : Store} {x dx : Addr} (hs : Sim X.K r H st) (hc : PySem.W.nsIn X.K mainGlobals c = some (some (.ref C))) (nx : H x = none) (nd : H dx = none) (ne : dx ≠ x) :
    ∃ r1, Ext r H r1 (upd (upd H dx (.own x)) x (.ins C dx [])) ∧ Sim X.K r1 (upd (upd H dx (.own x)) x (.ins C dx [])) (st ++ [.ins c []]) ∧ Rep X.K r1 (upd (upd H dx (.own x)) x (.ins C dx [])) (.ref x) (.ref st.length) := by
  have a1 : Same H (upd H dx (.own x)) := same_alloc nd
  have nx1 : upd H dx (.own x) x = none := by rw [upd_ne (Ne.symm ne)]; exact nx
  have q1 := hs.same a1
  obtain ⟨e0, hd0⟩ := hideNew (o := .ins C dx []) q1 nx1
  obtain ⟨w1, w2, w3⟩ := hd0.add (o := .ins C dx []) (ob := .ins c []) e0 q1 nx1 ⟨hd0.av, C, dx, [], hc, upd_same, rfl, .nil⟩
  rw [upd_upd] at w1 w2 w3
  exact ⟨_, (hs.ext a1).trans w1, w2, w3 _ rfl⟩
theorem runMake {pins : List (Addr × Obj)} {σ : L2.St} {H : Hp} {s : Shared} {Q : VK} {us : List Value} {vs : List V} {rho : Rf} {ds : List D} {st st' : Store} (M : Mk X.K C f) (hc : PySem.W.nsIn X.K mainGlobals c = some (some (.ref C)))
    (Fd : FnD X.prog X.w X.K X.mg X.base k f fd ps mm) (gx : GX X (k + 1)) (hb : Binds X.K fd ps []) (I : Inv X pins σ H s) (r : Vals vs us) (hl : vs.length + 1 = ps.length) (rd : RepL X.K rho H vs ds) (hs : Sim X.K rho H st)
    (hm : mm (.ref st.length :: ds) (st ++ [.ins c []]) = some (.non, st')) (hq : ∀ v rho' H', Ext rho H rho' H' → Sim X.K rho' H' st' → Rep X.K rho' H' v (.ref st.length) → Q v H') :
    wpAny (model X.prog X.w) X.A (call (.ref C) us) (EP X pins σ Q) X.xe s := by
  obtain ⟨r1, e1, s1, p1⟩ := made_sim (c := c) (C := C) hs hc (I.hok.fresh (Nat.le_succ s.heap.objs.size)) (I.hok.fresh (Nat.le_refl s.heap.objs.size)) (Nat.ne_of_lt (Nat.lt_succ_self s.heap.objs.size))
  have I2 := Inv.made (C := C) I
  have r2 : Vals (V.ref (s.heap.objs.size + 1) :: vs) (Value.ref (s.heap.objs.size + 1) :: us) := .cons rfl r
  have hu : (Value.ref (s.heap.objs.size + 1) :: us).length = ps.length := by rw [List.length_cons, ← r.length]; exact hl
  have hbt := hb { s with heap := (s.heap.push PySem.W.emptyDict).push (PySem.W.instObj C s.heap.objs.size) } (Value.ref (s.heap.objs.size + 1) :: us) I2.kIn (by rw [List.append_nil]; exact hu)
  rw [List.append_nil] at hbt
  refine wpAny_call (make_map (f := f) I.kIn M.makes M.init (beq_iff_eq.mp M.fn) (codeAny_mono (Fd.run _ X.stack _ _ ⟨Value.ref (s.heap.objs.size + 1) :: us, []⟩ (Value.ref (s.heap.objs.size + 1) :: us) _ (fun v H2 => v = .non ∧ Q (.ref (s.heap.objs.size + 1)) H2) r1 (.ref st.length :: ds) _ st' .non (make_guards.trans gx.gd) (gx.room.make C us [])
    (I2.env0.make C us []) hbt r2 (by rw [List.length_cons]; exact hl) (.cons p1 (rd.ext e1)) s1 hm fun v r3 H3 e3 q3 p3 => ?_) fun z s' hz => ?_))
  · cases p3
    exact ⟨rfl, hq _ r3 H3 (e1.trans e3) q3 (p1.ext e3)⟩
  · cases z with
    | error e => exact False.elim hz
    | ok fl =>
      cases fl with
      | ret u =>
        obtain ⟨v, H', I3, rv, ev, q3⟩ := I2.after hz
        subst ev
        exact ⟨rv, ⟨V.ref (s.heap.objs.size + 1), H', I3, rfl, q3⟩⟩
      | next => exact False.elim hz
      | brk => exact False.elim hz
      | cont => exact False.elim hz
def fMake (c : Str) (mi : FM) (fa : FA) : F := fun env st => (fa env st).bind fun q => (mi (.ref q.2.length :: q.1) (q.2 ++ [.ins c []])).bind fun z => match z.1 with | .non => some (.ref q.2.length, z.2) | _ => none
theorem de_make {x : Str} {p : Pos} (M : Mk X.K C f) (hc : PySem.W.nsIn X.K mainGlobals c = some (some (.ref C))) (Fd : FnD X.prog X.w X.K X.mg X.base k f fd ps mm) (gx : GX X (k + 1)) (hg : Gl X x) (hm : X.mg x = some (.ref C)) (hb : Binds X.K fd ps []) {fa : FA} (ha : DA X (e :: es) fa) (hl : (e :: es).length + 1 = ps.length := by rfl)
    (hdb : (x == ("__debug__" : Str)) = false := by decide) (he : starEach (e :: es) X.env = (false, eval e X.env) :: starEach es X.env := by rfl) (hpl : (backTo pos (starEach es X.env)).any (·.1) = false := by rfl)
    (hn : ∀ env st ds st', fa env st = some (ds, st') → ds.length = (e :: es).length) :
    DE X (.Call (.Name x p) (e :: es) [] pos) (fMake c mm fa) := by
  refine ⟨fun pins s σ H Q I h => wpAny_Call_Name_kw (ld_glob I hg hm ?_ hdb)⟩
  obtain ⟨r, env, st, d, st', he', hs, hf, q⟩ := h
  obtain ⟨⟨ds, s1⟩, h1, h2⟩ := Option.bind_eq_some_iff.mp hf
  obtain ⟨⟨z, s2⟩, h3, h4⟩ := Option.bind_eq_some_iff.mp h2
  have ez : z = .non ∧ d = .ref s1.length ∧ st' = s2 := by
    cases z with
    | non => cases h4; exact ⟨rfl, rfl, rfl⟩
    | _ => cases h4
  obtain ⟨rfl, rfl, rfl⟩ := ez
  refine PySem.W.callWith_K (h₀ := X.base) I.ok.mod.kin M.kp (thn (ha.run pos pins s σ H (fun vs H1 => ∃ r1, Ext r H r1 H1 ∧ Sim X.K r1 H1 s1 ∧ RepL X.K r1 H1 vs ds) I ⟨r, env, st, ds, s1, he', hs, h1, fun vs r1 H1 e1 q1 l1 => ⟨r1, e1, q1, l1⟩⟩) fun us sa hz => ?_) he hpl
  obtain ⟨vs, H1, I1, rv, r1, e1, q1, l1⟩ := hz
  exact ⟨I1.kIn, runMake M hc Fd gx hb I1 rv (by rw [l1.len, hn _ _ _ _ h1]; exact hl) l1 q1 h3 fun v r2 H2 e2 q2 p2 => q v r2 H2 (e1.trans e2) q2 p2⟩
end
end DL
/-! Defs that may raise an own error with one field. -/
namespace DL
open PySem PySem.Spec PyProof.Rows L2 TL
variable {K : PySem.W.Frag}
inductive Rs | val (d : D) | er (c f : Str) (d : D)
abbrev FMX := List D → Store → Option (Rs × Store)
def outX : Option (Out × Lo × Store) → Option (Rs × Store)
  | some (.rt d, _, s) => some (.val d, s)
  | some (.nx, _, s) => some (.val .non, s)
  | some (.er c f d, _, s) => some (.er c f d, s)
  | _ => none
def mOfX (n : Nat) (g : FS) : FMX := fun ds st => outX (g (startD n ds) st)
/-- both ways out -/
def RsOk (K : PySem.W.Frag) (rho : Rf) (H : Hp) (st' : Store) (Q : VK) (E : XK) : Rs → Prop
  | .val d => ∀ v rho' H', Ext rho H rho' H' → Sim K rho' H' st' → Rep K rho' H' v d → Q v H'
  | .er c f d => ∀ rho' H' C dd, Ext rho H rho' H' → Sim K rho' H' st' → ErrAt K rho' H' c f d C dd → E (.ref C) (some dd) H'
structure FnX (P : Program) (w : World) (K : PySem.W.Frag) (mg : Str → Option Value) (base : Heap) (k : Nat) (f : Addr) (fd : FuncData) (ps : List Str) (m : FMX) : Prop where
  run : ∀ (A : Around) (outer : List Env) (s : Shared) (H : Hp) (args : Args) (us : List Value) (vs : List V) (Q : VK) (E : XK) (rho : Rf) (ds : List D) (st st' : Store) (z : Rs),
    A.guards = some [] → Room k A → Env0 P w K mg base A outer s H → BindsTo s fd args (ps.zip us) → Vals vs us → vs.length = ps.length → RepL K rho H vs ds → Sim K rho H st → m ds st = some (z, st') →
    RsOk K rho H st' Q E z → codeAny (model P w) A (.call (.ref f) args) (CR (L2.CX P w) outer P w H s Q E) s
theorem FnX.up {P : Program} {w : World} {mg : Str → Option Value} {base : Heap} {j k : Nat} {f : Addr} {fd : FuncData} {ps : List Str} {m : FMX} (h : FnX P w K mg base j f fd ps m) (l : j ≤ k) : FnX P w K mg base k f fd ps m :=
  ⟨fun A outer s H args us vs Q E rho ds st st' z hg hr => h.run A outer s H args us vs Q E rho ds st st' z hg (hr.mono l)⟩
abbrev cxX (P : Program) (w : World) (K : PySem.W.Frag) (mg : Str → Option Value) (base : Heap) (N : List Str) (qual : Str) (sc : Scope) (f : Addr) (cd : Value) (A : Around) (outer : List Env) (s : Shared) (H : Hp) (E : XK) : Cx :=
  cxOf (L2.CX P w) P w K mg base N qual sc f cd A outer s H E
/-- where the errors of a body go -/
abbrev wE (E : XK) : WXd := fun cls d _ H => E cls d H
theorem FnX.of {P : Program} {w : World} {mg : Str → Option Value} {base : Heap} {x qual : Str} {sd : Stmt} {f : Addr} {fd : FuncData} {N ps : List Str} {k : Nat} {g : FS} (F : Fun K x qual sd f fd) (S : FnScope N ps (defScope sd))
    (hb : ∀ (cd : Value) (A : Around) (outer : List Env) (s : Shared) (H : Hp) (E : XK), GX (cxX P w K mg base N qual (defScope sd) f cd A outer s H E) k → DSs (cxX P w K mg base N qual (defScope sd) f cd A outer s H E) (wE E) (defBody sd) g) :
    FnX P w K mg base (k + 1) f fd ps (mOfX N.length g) := by
  obtain ⟨oc, od, kV, doc, pm, an, cd, ct, osl, rfl, lk, hcd⟩ := F.ex
  refine ⟨fun A outer s H args us vs Q E rho ds st st' z hgd hr e0 hbind rv hlen rds hs hm hq => ?_⟩
  have hps : ps.length ≤ N.length := by
    have := congrArg List.length S.pre
    rw [List.length_take] at this
    omega
  have KX : K.In s.heap := e0.mod.kin.keeps fun b o e => (e0.bs b o e).1
  have lim : s.heap.NoLimit := e0.mod.nolimit.keeps fun b o e => (e0.bs b o e).1
  have kinds : ∀ y ∈ ps.zip us, (defScope sd).names.lookup y.1 = some .local ∨ ((defScope sd).names.lookup y.1 = some .cell ∧ ((cellsFrom (s.heap.objs.size + 1) (defScope sd).names []).lookup y.1).isSome = true) := fun ⟨n, v⟩ hy =>
    (S.par n (List.of_mem_zip hy).1).elim .inl fun q => .inr ⟨q, PySem.W.cellsFrom_some _ _ _ (.inl q)⟩
  refine codeAny_call_function hr.depth (KX _ _ lk) rfl S.co S.gen rfl (PySem.W.codeRec_of KX hcd) (hbind _ _ _ _ (wpAny_newFunctionEnv_cells S.kind kinds fun env he s1 x => ?_))
  subst he
  refine ⟨lim.keeps x.toInCall.keep, codeAny_func ?_⟩
  have gx : GX (cxX P w K mg base N qual (defScope sd) f cd A outer s H E) k := ⟨rfl, S.nd, hr.deeper _, hgd⟩
  have I0 : Inv (cxX P w K mg base N qual (defScope sd) f cd A outer s H E) [] (L2.start N vs) H s1 := inv_start S hr.hd e0 hlen rv x
  obtain ⟨o, env', h1, h2⟩ : ∃ o env', g (startD N.length ds) st = some (o, env', st') ∧ OutOk K (wE E) rho H { nx := fun _ H' => Q .non H', rt := Q } env' st' o := by
    unfold mOfX at hm
    cases q0 : g (startD N.length ds) st with
    | none => rw [q0] at hm; cases hm
    | some q =>
      obtain ⟨o, e, s2⟩ := q
      rw [q0] at hm
      cases o with
      | rt d' => cases hm; exact ⟨_, _, rfl, hq⟩
      | nx => cases hm; exact ⟨_, _, rfl, fun σ' r' H' ex _ hs' => hq .non r' H' ex hs' .non⟩
      | er c f d => cases hm; exact ⟨_, _, rfl, fun σ' r' H' C dd ex _ hs' er => hq r' H' C dd ex hs' er⟩
      | bk => cases hm
      | ct => cases hm
  have run := (hb cd A outer s H E gx).run [] s1 (L2.start N vs) H { nx := fun _ H' => Q .non H', rt := Q } I0 ⟨rho, _, st, o, env', st', start_env rds (by omega), hs, h1, h2⟩
  have back : ∀ {σ' : L2.St} {H' : Hp} {v : V} {u : Value} {s' : Shared}, Inv (cxX P w K mg base N qual (defScope sd) f cd A outer s H E) [] σ' H' s' → RelV v u → Q v H' → CE outer P w H s Q u s' := fun {σ' H' v u s'} J r z => ⟨v, H', J.os, J.bare, J.base, J.hok, r, z⟩
  refine wpAny_mono run (fun fl s' q => ?_) fun _ _ z => z
  cases fl with
  | ret u =>
    obtain ⟨v, σ', H', J, r, z⟩ := q
    exact back J r z
  | next =>
    obtain ⟨σ', H', J, z⟩ := q
    exact back (v := V.non) (u := Value.none) J rfl z
  | brk => obtain ⟨_, _, _, z⟩ := q; exact z.elim
  | cont => obtain ⟨_, _, _, z⟩ := q; exact z.elim
/-! ### what is called may raise -/
def fCallX (m : FMX) (fa : FA) : Lo → Store → Option (Rs × Store) := fun env st => (fa env st).bind fun p => m p.1 p.2
/-- an expression that may raise -/
abbrev FX := Lo → Store → Option (Rs × Store)
def tX (K : PySem.W.Frag) (W : WXd) (f : FX) : TE := fun σ H Q => ∃ r env st z st', EnvR K r H env σ ∧ Sim K r H st ∧ f env st = some (z, st') ∧ RsOk K r H st' Q (fun cls d H' => W cls d σ H') z
abbrev DX (X : Cx) (W : WXd) (e : Expr) (f : FX) : Prop := PE X e (tX X.K W f)
section
variable {X : Cx} {W : WXd} {k : Nat} {f : Addr} {fd : FuncData} {ps : List Str} {m : FMX} {x : Str} {p pos : Pos} {e : Expr} {es : List Expr}
theorem runX {pins : List (Addr × Obj)} {σ : L2.St} {H : Hp} {s : Shared} {Q : VK} {us : List Value} {vs : List V} {rho : Rf} {ds : List D} {st st' : Store} {z : Rs} (Fd : FnX X.prog X.w X.K X.mg X.base k f fd ps m) (gx : GX X k) (hb : Binds X.K fd ps []) (tk : L2.Takes X W)
    (I : Inv X pins σ H s) (r : Vals vs us) (hl : vs.length = ps.length) (rd : RepL X.K rho H vs ds) (hs : Sim X.K rho H st) (hm : m ds st = some (z, st')) (hq : RsOk X.K rho H st' Q (fun cls d H' => W cls d σ H') z) :
    wpAny (model X.prog X.w) X.A (call (.ref f) us) (EP X pins σ Q) X.xe s := by
  have hu : us.length = ps.length := by rw [← r.length]; exact hl
  have hbt : BindsTo s fd ⟨us, []⟩ (ps.zip us) := by
    have := hb s us I.kIn (by rw [List.append_nil]; exact hu)
    rwa [List.append_nil] at this
  refine wpAny_call (codeAny_mono (Fd.run X.A X.stack s H ⟨us, []⟩ us vs Q (fun cls d H' => W cls d σ H') rho ds st st' z gx.gd gx.room I.env0 hbt r hl rd hs hm hq) fun y s' hz => ?_)
  cases y with
  | error e => exact L2.passAt tk σ pins H s e s' I hz
  | ok fl =>
    cases fl with
    | ret u => exact I.after hz
    | next => exact False.elim hz
    | brk => exact False.elim hz
    | cont => exact False.elim hz
theorem RsOk.ext {rho rho1 : Rf} {H H1 : Hp} {st' : Store} {Q : VK} {E : XK} (e : Ext rho H rho1 H1) : ∀ {z : Rs}, RsOk K rho H st' Q E z → RsOk K rho1 H1 st' Q E z
  | .val _, h => fun v r' H' e' a b => h v r' H' (e.trans e') a b
  | .er _ _ _, h => fun r' H' C dd e' a b => h r' H' C dd (e.trans e') a b
/-- f(e, ..) -/
theorem dx_call (Fd : FnX X.prog X.w X.K X.mg X.base k f fd ps m) (gx : GX X k) (tk : L2.Takes X W) (hg : Gl X x) (hm : X.mg x = some (.ref f)) (hk : PySem.W.keepIn X.K (.ref f) = true) (hb : Binds X.K fd ps []) {fa : FA}
    (ha : DA X (e :: es) fa) (hl : (e :: es).length = ps.length := by rfl) (hdb : (x == ("__debug__" : Str)) = false := by decide) (he : starEach (e :: es) X.env = (false, eval e X.env) :: starEach es X.env := by rfl) (hpl : (backTo pos (starEach es X.env)).any (·.1) = false := by rfl)
    (hn : ∀ env st ds st', fa env st = some (ds, st') → ds.length = (e :: es).length) :
    DX X W (.Call (.Name x p) (e :: es) [] pos) (fCallX m fa) := by
  refine ⟨fun pins s σ H Q I h => wpAny_Call_Name_kw (ld_glob I hg hm ?_ hdb)⟩
  obtain ⟨r, env, st, z, st', he', hs, hf, q⟩ := h
  obtain ⟨⟨ds, s1⟩, h1, h2⟩ := Option.bind_eq_some_iff.mp hf
  refine PySem.W.callWith_K (h₀ := X.base) I.ok.mod.kin hk (thn (ha.run pos pins s σ H (fun vs H1 => ∃ r1, Ext r H r1 H1 ∧ Sim X.K r1 H1 s1 ∧ RepL X.K r1 H1 vs ds) I ⟨r, env, st, ds, s1, he', hs, h1, fun vs r1 H1 e1 q1 l1 => ⟨r1, e1, q1, l1⟩⟩) fun us sa hz => ?_) he hpl
  obtain ⟨vs, H1, I1, rv, r1, e1, q1, l1⟩ := hz
  exact ⟨I1.kIn, runX Fd gx hb tk I1 rv (by rw [l1.len, hn _ _ _ _ h1]; exact hl) l1 q1 h2 (q.ext e1)⟩
/-- return f(e, ..); f(e, ..); x = f(e, ..) -/
def sRetX (f : FX) : FS := fun env st => (f env st).map fun p => match p.1 with | .val d => (.rt d, env, p.2) | .er c fl d => (.er c fl d, env, p.2)
theorem ds_retX {e : Expr} {f : FX} {pos : Pos} (h : DX X W e f) : DS X W (.Return (some e) pos) (sRetX f) := weakS (ps_ret h) fun D' σ H hh => by
  obtain ⟨r, env, st, o, env', st', he, hs, hf, q⟩ := hh
  obtain ⟨⟨z, s1⟩, h1, h2⟩ := Option.map_eq_some_iff.mp hf
  cases z with
  | val d =>
    cases h2
    exact ⟨r, env, st, _, _, he, hs, h1, q⟩
  | er c fl d =>
    cases h2
    exact ⟨r, env, st, _, _, he, hs, h1, fun r' H' C dd ex hs' er => q σ r' H' C dd ex (he.ext ex) hs' er⟩
def sDropX (f : FX) : FS := fun env st => (f env st).map fun p => match p.1 with | .val _ => (.nx, env, p.2) | .er c fl d => (.er c fl d, env, p.2)
theorem ds_exprX {e : Expr} {f : FX} {pos : Pos} (h : DX X W e f) (hs : swapsWith e none pos.line X.env = pure false := by rfl) : DS X W (.Expr e pos) (sDropX f) := weakS (ps_expr h hs) fun D' σ H hh => by
  obtain ⟨r, env, st, o, env', st', he, hs, hf, q⟩ := hh
  obtain ⟨⟨z, s1⟩, h1, h2⟩ := Option.map_eq_some_iff.mp hf
  cases z with
  | val d =>
    cases h2
    exact ⟨r, env, st, _, _, he, hs, h1, fun v r1 H1 e1 q1 _ => q σ r1 H1 e1 (he.ext e1) q1⟩
  | er c fl d =>
    cases h2
    exact ⟨r, env, st, _, _, he, hs, h1, fun r' H' C dd ex hs' er => q σ r' H' C dd ex (he.ext ex) hs' er⟩
def sAsgX (f : FX) (g : FG) : FS := fun env st => (f env st).bind fun p => match p.1 with | .val d => (g d env).map fun e1 => (.nx, e1, p.2) | .er c fl d => some (.er c fl d, env, p.2)
theorem ds_asgX {tg e : Expr} {f : FX} {g : FG} {pos : Pos} (he : DX X W e f) (hg : DG X tg g) (hs : swapsWithSole [tg] e pos.line X.env = pure false := by rfl) (hw : swappedStores [tg] e X.env = pure none := by rfl)
    (h1 : (assignEach [tg] X.env).map (·.2) = [assign tg X.env] := by rfl) : DS X W (.Assign [tg] e pos) (sAsgX f g) := weakS (ps_asg he hg hs hw h1) fun D' σ H hh => by
  obtain ⟨r, env, st, o, env', st', he, hs, hf, q⟩ := hh
  obtain ⟨⟨z, s1⟩, h1, h2⟩ := Option.bind_eq_some_iff.mp hf
  cases z with
  | val d =>
    obtain ⟨e1, h3, h4⟩ := Option.map_eq_some_iff.mp (show ((g d env).map fun e1 => (Out.nx, e1, s1)) = some (o, env', st') from h2)
    cases h4
    exact ⟨r, env, st, _, _, he, hs, h1, fun v r1 H1 x1 q1 p1 => ⟨r1, env, d, _, he.ext x1, p1, h3, fun σ' he' => q σ' r1 H1 x1 he' q1⟩⟩
  | er c fl d =>
    cases h2
    exact ⟨r, env, st, _, _, he, hs, h1, fun r' H' C dd ex hs' er => q σ r' H' C dd ex (he.ext ex) hs' er⟩
end
end DL
/-! Targets that are tuples, zip, starred displays, ord, what is never run. -/
namespace DL
open PySem PySem.Spec PyProof.Rows L2 TL
variable {K : PySem.W.Frag}
/-! ### targets -/
def TgsOk (K : PySem.W.Frag) (g : TGs) (is : List Nat) (bd : List D → Option (List D)) : Prop := ∀ r H xs ds σ (Q : L2.St → Hp → Prop) vals, RepL K r H xs ds → bd ds = some vals → (∀ vs, RepL K r H vs vals → Q (setL is vs σ) H) → g xs σ H Q
def bNil : List D → Option (List D) := fun ds => match ds with | [] => some [] | _ => none
def bCons (b : FB) (c : List D → Option (List D)) : List D → Option (List D) := fun ds => match ds with | d :: r => (b d).bind fun x => (c r).map fun y => x ++ y | [] => none
def bTup (n : Nat) (c : List D → Option (List D)) : FB := fun d => match d with | .tup ds => if ds.length = n then c ds else none | _ => none
theorem tgs_nil : TgsOk K gNil [] bNil := fun r H xs ds σ Q vals hr hb q => by
  cases ds with
  | nil =>
    cases hr
    cases hb
    exact ⟨rfl, q [] .nil⟩
  | cons _ _ => cases hb
/-- as many slots as values -/
def BdN (n : Nat) (b : FB) : Prop := ∀ d v, b d = some v → v.length = n
theorem b1_n : BdN 1 b1 := fun d v h => by cases h; rfl
theorem setL_app {α : Type} : ∀ (is js : List Nat) (vs us : List α) (σ : List (Option α)), is.length = vs.length → setL (is ++ js) (vs ++ us) σ = setL js us (setL is vs σ)
  | [], js, [], us, σ, _ => rfl
  | i :: is, js, v :: vs, us, σ, h => by
    show setL (is ++ js) (vs ++ us) (σ.set i (some v)) = setL js us (setL is vs (σ.set i (some v)))
    exact setL_app is js vs us _ (Nat.succ.inj h)
  | [], js, v :: vs, us, σ, h => by cases h
  | i :: is, js, [], us, σ, h => by cases h
theorem repL_split {r : Rf} {H : Hp} : ∀ {vs : List V} {as bs : List D}, RepL K r H vs (as ++ bs) → ∃ us ws, vs = us ++ ws ∧ RepL K r H us as ∧ RepL K r H ws bs
  | vs, [], bs, h => ⟨[], vs, rfl, .nil, h⟩
  | _, a :: as, bs, .cons x y => by
    obtain ⟨us, ws, e, h1, h2⟩ := repL_split y
    exact ⟨_ :: us, ws, by rw [e]; rfl, .cons x h1, h2⟩
theorem tgs_cons {g : TG} {gs : TGs} {is js : List Nat} {b : FB} {c : List D → Option (List D)} (h1 : TgOk K g is b) (hn : BdN is.length b) (h2 : TgsOk K gs js c) : TgsOk K (gCons g gs) (is ++ js) (bCons b c) := fun r H xs ds σ Q vals hr hb q => by
  cases ds with
  | nil => cases hb
  | cons d ds =>
    cases hr with
    | cons ra rb =>
      obtain ⟨x, hx, hb2⟩ := Option.bind_eq_some_iff.mp (show ((b d).bind fun x => (c ds).map fun y => x ++ y) = some vals from hb)
      obtain ⟨y, hy, e⟩ := Option.map_eq_some_iff.mp hb2
      subst e
      refine ⟨_, _, rfl, h1 r H _ d σ _ x ra hx fun vs rv => h2 r H _ ds _ Q y rb hy fun us ru => ?_⟩
      have hl : is.length = vs.length := by rw [rv.len, hn d x hx]
      rw [← setL_app is js vs us σ hl]
      exact q _ (rv.append ru)
theorem tg_tup {gs : TGs} {is : List Nat} {n : Nat} {c : List D → Option (List D)} (h : TgsOk K gs is c) : TgOkR K (RepI K) (gTup K n gs) is (bTup n c) := fun r H x d σ Q vals hr hb q => by
  obtain ⟨a, xs, ds, e, ed, s, l⟩ := hr
  subst ed
  have hb' : (if ds.length = n then c ds else none) = some vals := hb
  by_cases hl : ds.length = n
  · rw [if_pos hl] at hb'
    exact ⟨a, xs, e, s, by rw [l.len]; exact hl, h r H xs ds σ Q vals l hb' q⟩
  · rw [if_neg hl] at hb'
    cases hb'
theorem Rep.repI {r : Rf} {H : Hp} {v : V} {ds : List D} (h : Rep K r H v (.tup ds)) : RepI K r H v (.tup ds) := by
  obtain ⟨a, xs, e, s, l⟩ := h.sqT
  exact ⟨a, xs, ds, e, rfl, s, l⟩
theorem tg_tupR {gs : TGs} {is : List Nat} {n : Nat} {c : List D → Option (List D)} (h : TgsOk K gs is c) : TgOk K (gTup K n gs) is (bTup n c) := fun r H x d σ Q vals hr hb q => by
  cases d with
  | tup ds => exact tg_tup h r H x _ σ Q vals hr.repI hb q
  | _ => cases hb
theorem bTup_n {n m : Nat} {c : List D → Option (List D)} (h : ∀ ds v, c ds = some v → v.length = m) : BdN m (bTup n c) := fun d v e => by
  cases d with
  | tup ds =>
    have e' : (if ds.length = n then c ds else none) = some v := e
    by_cases hl : ds.length = n
    · rw [if_pos hl] at e'
      exact h ds v e'
    · rw [if_neg hl] at e'
      cases e'
  | _ => cases e
theorem bNil_n : ∀ ds v, bNil ds = some v → v.length = 0 := fun ds v e => by
  cases ds with
  | nil => cases e; rfl
  | cons _ _ => cases e
theorem bCons_n {k m : Nat} {b : FB} {c : List D → Option (List D)} (h1 : BdN k b) (h : ∀ ds v, c ds = some v → v.length = m) : ∀ ds v, bCons b c ds = some v → v.length = k + m := fun ds v e => by
  cases ds with
  | nil => cases e
  | cons d ds =>
    obtain ⟨x, hx, hb2⟩ := Option.bind_eq_some_iff.mp (show ((b d).bind fun x => (c ds).map fun y => x ++ y) = some v from e)
    obtain ⟨y, hy, e⟩ := Option.map_eq_some_iff.mp hb2
    subst e
    rw [List.length_append, h1 d x hx, h ds y hy]
section
variable {X : Cx} {W : WXd} {tg iter : Expr}
/-- a tuple's target takes tuples -/
theorem DIR.weak {R R' : RD} {f : FI} (h : DIR X R tg iter f) (i : ∀ r H v d, R r H v d → R' r H v d) : DIR X R' tg iter f := weakI h fun σ H Q hh => by
  obtain ⟨r, env, st, ds, st', he, hs, hf, q⟩ := hh
  exact ⟨r, env, st, ds, st', he, hs, hf, fun J r' H' e' s' j => q J r' H' e' s' fun r1 H1 st1 e1 s1 => ⟨(j r1 H1 st1 e1 s1).1, fun k d hd => ⟨((j r1 H1 st1 e1 s1).2 k d hd).1, fun x H2 y => let ⟨r2, a, b, c⟩ := ((j r1 H1 st1 e1 s1).2 k d hd).2 x H2 y; ⟨r2, a, b, i _ _ _ _ c⟩⟩⟩⟩
/-! ### zip -/
def pairs2 : List D → List D → List D
  | a :: as, b :: bs => .tup [a, b] :: pairs2 as bs
  | _, _ => []
theorem pairs2_len : ∀ as bs : List D, (pairs2 as bs).length = min as.length bs.length
  | [], _ => by simp [pairs2]
  | _ :: _, [] => by simp [pairs2]
  | a :: as, b :: bs => by
    show (pairs2 as bs).length + 1 = _
    rw [pairs2_len as bs, List.length_cons, List.length_cons]
    omega
theorem pairs2_get : ∀ {as bs : List D} {i : Nat} {d : D}, (pairs2 as bs)[i]? = some d → ∃ a b, as[i]? = some a ∧ bs[i]? = some b ∧ d = .tup [a, b]
  | [], _, i, d, h => by simp [pairs2] at h
  | _ :: _, [], i, d, h => by simp [pairs2] at h
  | a :: as, b :: bs, 0, d, h => by
    have e := Option.some.inj (show some (D.tup [a, b]) = some d from h)
    exact ⟨a, b, rfl, rfl, e.symm⟩
  | a :: as, b :: bs, i + 1, d, h => pairs2_get (as := as) (bs := bs) (i := i) (show (pairs2 as bs)[i]? = some d from h)
def asZip : List D → Option (List D) | [.tup as, .tup bs] => some (pairs2 as bs) | _ => none
theorem di_zip {a b : Expr} {fa : FA} {elts : List Expr} {kk : Nat} {tpos p pos : Pos} (hg : Gl X "zip") (hm : X.mg "zip" = none) (ha : DA X [a, b] fa)
    (hs : starEach [a, b] X.env = (false, eval a X.env) :: starEach [b] X.env := by rfl) (hpl : (backTo pos (starEach [b] X.env)).any (·.1) = false := by rfl) :
    DIR X (RepI X.K) (.Tuple elts kk tpos) (.Call (.Name "zip" p) [a, b] [] pos) (iOfA asZip fa) := weakI (RZ.pi_zipA hg hm ha hs hpl) fun σ H R hh => by
  obtain ⟨r, env, st, ds, st', he, hs, hf, q⟩ := hh
  obtain ⟨xs, h1, h2⟩ := iOfA_some hf
  refine ⟨r, env, st, xs, st', he, hs, h1, fun v r1 H1 e1 q1 p1 => ?_⟩
  unfold asZip at h2
  split at h2
  · rename_i as bs
    cases h2
    obtain ⟨u, w, rfl, pa, pb⟩ := lst2 p1
    obtain ⟨a', us, rfl, sa, la⟩ := pa.sqT
    obtain ⟨b', ws, rfl, sb, lb⟩ := pb.sqT
    have pa1 := pa
    have pb1 := pb
    refine ⟨a', b', us, ws, rfl, .inr ⟨sa, sb, q _ r1 H1 e1 q1 fun r2 H2 st2 e2 s2 => ?_⟩⟩
    -- the tuples stand as they stood
    have hk : ∀ {c : Addr} {ys : List V} {es : List D}, SqT X.K H1 c ys → RepL X.K r1 H1 ys es → Rep X.K r1 H1 (.ref c) (.tup es) → ∃ zs, SqT X.K H2 c zs ∧ RepL X.K r2 H2 zs es := fun {c ys es} _ _ p => by
      obtain ⟨c', zs, e', s', l'⟩ := (p.ext e2).sqT
      cases e'
      exact ⟨zs, s', l'⟩
    obtain ⟨us2, sa2, la2⟩ := hk sa la pa1
    obtain ⟨ws2, sb2, lb2⟩ := hk sb lb pb1
    refine ⟨fun i hi => ⟨us2, ws2, sa2, sb2, ?_⟩, fun i d hd => ?_⟩
    · rw [pairs2_len] at hi
      rw [la2.len, lb2.len]
      omega
    · obtain ⟨x, y, hx, hy, ed⟩ := pairs2_get hd
      obtain ⟨vx, hvx, rx⟩ := la2.get hx
      obtain ⟨vy, hvy, ry⟩ := lb2.get hy
      refine ⟨⟨us2, ws2, vx, vy, sa2, sb2, hvx, hvy⟩, fun v H3 ⟨T, x', y', ev, hT, eH, w1, w2⟩ => ?_⟩
      subst ev
      subst eH
      have ex : x' = vx := by
        have := w1 us2 sa2
        rw [hvx] at this
        exact (Option.some.inj this).symm
      have ey : y' = vy := by
        have := w2 ws2 sb2
        rw [hvy] at this
        exact (Option.some.inj this).symm
      subst ex ey
      have sm : Same H2 (upd H2 T (.tup [x', y'])) := same_alloc hT
      exact ⟨r2, s2.ext sm, s2.same sm, T, [x', y'], [x, y], rfl, ed, .inl (.inl upd_same), .cons (rx.ext (s2.ext sm)) (.cons (ry.ext (s2.ext sm)) .nil)⟩
  · cases h2
/-! ### (*xs, a) -/
def asSeq : D → Store → Option (List D) := fun d st => match d with
  | .lst ds => some ds
  | .tup ds => some ds
  | .ref n => (match st[n]? with | some (.lst ds) => some ds | _ => none)
  | _ => none
def aStar (f : F) (g : FA) : FA := fun env st => (f env st).bind fun p => (asSeq p.1 p.2).bind fun ds => (g env p.2).map fun q => (ds ++ q.1, q.2)
theorem asSeq_rep {r : Rf} {H : Hp} {v : V} {d : D} {st : Store} {ds : List D} (h : Rep K r H v d) (si : Sim K r H st) (e : asSeq d st = some ds) : ∃ p xs, v = .ref p ∧ (SqT K H p xs ∨ SqL K H p xs) ∧ RepL K r H xs ds := by
  unfold asSeq at e
  split at e
  · cases e
    cases h with
    | lst a b c => exact ⟨_, _, rfl, .inr (.of a), c⟩
  · cases e
    obtain ⟨a, xs, e, s, l⟩ := h.sqT
    exact ⟨a, xs, e, .inl s, l⟩
  · rename_i n
    obtain ⟨a, rfl, ha⟩ := h.refI
    split at e
    · rename_i es hst
      cases e
      obtain ⟨av, xs, hx, l⟩ := si.ob _ a _ ha hst
      exact ⟨a, xs, rfl, .inr (.of hx), l⟩
    · cases e
  · cases e
theorem da_star {e : Expr} {p : Pos} {es : List Expr} {f : F} {g : FA} (h : DE X e f) (t : DA X es g) (hs : starEach (.Starred e p :: es) X.env = (true, eval e X.env) :: starEach es X.env := by rfl) : DA X (.Starred e p :: es) (aStar f g) :=
  weakA (StX.pa_star h t hs) fun σ H Q hh => by
  obtain ⟨r, env, st, ds, st', he, hs, hf, q⟩ := hh
  obtain ⟨⟨x, s1⟩, h1, hf1⟩ := Option.bind_eq_some_iff.mp hf
  obtain ⟨xs, h2, hf2⟩ := Option.bind_eq_some_iff.mp hf1
  obtain ⟨⟨ys, s2⟩, h3, hf3⟩ := Option.map_eq_some_iff.mp hf2
  cases hf3
  refine ⟨r, env, st, x, s1, he, hs, h1, fun u r1 H1 e1 q1 p1 => ?_⟩
  obtain ⟨p, us, eu, sq, l⟩ := asSeq_rep p1 q1 h2
  exact ⟨p, us, eu, sq, r1, env, s1, ys, _, he.ext e1, q1, h3, fun ws r2 H2 e2 q2 l2 => q (us ++ ws) r2 H2 (e1.trans e2) q2 ((l.ext e2).append l2)⟩
/-! ### ord -/
def bOrd : List D → Store → Option D := fun ds _ => match ds with | [.str x] => if x.length = 1 then some (.int (x.cps.getD 0 0 : Nat)) else none | _ => none
theorem ok_ord : CallOk X (.builtin "ord") bOrd := ⟨_, call_ord, fun rho H xs ds d st Q rl si e q => by
  unfold bOrd at e
  split at e
  · split at e
    · rename_i z hz
      cases e
      obtain ⟨v, rfl, p⟩ := lst1 rl
      cases p
      exact ⟨_, rfl, hz, q _ H (fun _ _ h => h) (.int _)⟩
    · cases e
  · cases e⟩
/-! ### what is never run -/
def sNever : FS := fun _ _ => none
theorem ds_never {s : Stmt} : DS X W s sNever := ⟨fun pins s σ H D I h => by
  obtain ⟨r, env, st, o, env', st', _, _, hf, _⟩ := h
  cases hf⟩
end
end DL
/-! A list of the store is walked (as long as it stands as it stood); a dict is locked and walked. -/
namespace DL
open PySem PySem.Spec PyProof.Rows L2 TL
/-- the walk goes on while the store is as P says -/
noncomputable def okP (P : Store → Prop) (st : Store) : Bool := @decide (P st) (Classical.propDecidable _)
theorem okP_t {P : Store → Prop} {st : Store} (h : P st) : okP P st = true := @decide_eq_true _ (Classical.propDecidable _) h
theorem okP_p {P : Store → Prop} {st : Store} (h : okP P st = true) : P st := @of_decide_eq_true _ (Classical.propDecidable _) h
variable {K : PySem.W.Frag}
abbrev FIg := Lo → Store → Option (List D × (Store → Prop) × Store)
def ItOkG (K : PySem.W.Frag) (R : RD) (P : Store → Prop) (J : It) (r : Rf) (H : Hp) (ds : List D) : Prop :=
  ∀ r1 H1 st1, Ext r H r1 H1 → Sim K r1 H1 st1 → P st1 → (∀ i, ds.length ≤ i → J.stop i H1) ∧
    ∀ (i : Nat) d, ds[i]? = some d → J.go i H1 ∧ ∀ x H2, J.yld i H1 x H2 → ∃ r2, Ext r1 H1 r2 H2 ∧ Sim K r2 H2 st1 ∧ R r2 H2 x d
def tIG (K : PySem.W.Frag) (RR : RD) (f : FIg) : TI := fun σ H R => ∃ r env st ds P st', EnvR K r H env σ ∧ Sim K r H st ∧ f env st = some (ds, P, st') ∧ ∀ J r' H', Ext r H r' H' → Sim K r' H' st' → ItOkG K RR P J r' H' ds → R J H'
abbrev DIG (X : Cx) (RR : RD) (tg iter : Expr) (f : FIg) : Prop := PI X tg iter (tIG X.K RR f)
noncomputable def loopSG (P : Store → Prop) (tg : FG) (body : FS) : List D → Lo → Store → Option (Out × Lo × Store)
  | [], env, st => if okP P st = true then some (.nx, env, st) else none
  | d :: ds, env, st => if okP P st = true then (tg d env).bind fun e1 => (body e1 st).bind fun p => match p with
    | (.nx, e2, s2) => loopSG P tg body ds e2 s2
    | (.ct, e2, s2) => loopSG P tg body ds e2 s2
    | (.bk, e2, s2) => some (.nx, e2, s2)
    | (.rt v, e2, s2) => some (.rt v, e2, s2)
    | (.er c f v, e2, s2) => some (.er c f v, e2, s2) else none
noncomputable def sForG (fi : FIg) (tg : FG) (body : FS) : FS := fun env st => (fi env st).bind fun p => loopSG p.2.1 tg body p.1 env p.2.2
section
variable {X : Cx} {W : WXd} {tg iter : Expr}
theorem ds_forG {RR : RD} {body : List Stmt} {fi : FIg} {g : FG} {b : FS} {pos : Pos} (hp : PassesOwn (model X.prog X.w) X.A X.env X.xe) (hc : X.calm = true) (hi : DIG X RR tg iter fi) (hg : DGR X RR tg g) (hb : DSs X W body b)
    (hs : ∀ x, foldedSetIterable iter X.env x = pure x := by intro _; rfl) : DS X W (.For tg iter body [] pos) (sForG fi g b) := weakS (ps_for hp hc hi hg hb hs) fun D' σ H hh => by
  obtain ⟨r, env, st, o, env', st', he, hs, hf, q⟩ := hh
  obtain ⟨⟨ds, P, s1⟩, h1, h2⟩ := Option.bind_eq_some_iff.mp hf
  refine ⟨r, env, st, ds, P, s1, he, hs, h1, fun J r1 H1 e1 q1 j1 => ?_⟩
  refine ⟨fun i m σ2 H2 => m = ds.length - i ∧ i ≤ ds.length ∧ ∃ r2 env2 st2, Ext r1 H1 r2 H2 ∧ EnvR X.K r2 H2 env2 σ2 ∧ Sim X.K r2 H2 st2 ∧ loopSG P g b (ds.drop i) env2 st2 = some (o, env', st'),
    ⟨_, rfl, Nat.zero_le _, r1, env, s1, .refl _ _, he.ext e1, q1, h2⟩, ?_⟩
  rintro i m σ2 H2 ⟨rfl, hi, r2, env2, st2, e2, he2, hs2, h3⟩
  by_cases hlt : i < ds.length
  · have hd : ds[i]? = some ds[i] := List.getElem?_eq_getElem hlt
    rw [List.drop_eq_getElem_cons hlt] at h3
    unfold loopSG at h3
    by_cases hP : okP P st2 = true
    case neg => rw [if_neg hP] at h3; cases h3
    rw [if_pos hP] at h3
    obtain ⟨jst, jgo⟩ := j1 r2 H2 st2 e2 hs2 (okP_p hP)
    obtain ⟨env3, g1, h4⟩ := Option.bind_eq_some_iff.mp h3
    obtain ⟨⟨o4, env4, st4⟩, g2, h5⟩ := Option.bind_eq_some_iff.mp h4
    obtain ⟨j2, j3⟩ := jgo i _ hd
    refine .inr ⟨j2, fun σ' H' => i + 1 ≤ ds.length ∧ ∃ r2 env2 st2, Ext r1 H1 r2 H' ∧ EnvR X.K r2 H' env2 σ' ∧ Sim X.K r2 H' st2 ∧ loopSG P g b (ds.drop (i + 1)) env2 st2 = some (o, env', st'),
      fun σ' H' ⟨hi', w⟩ => ⟨ds.length - (i + 1), by omega, rfl, hi', w⟩, fun x H3 y => ?_⟩
    obtain ⟨r3, e3, hs3, rx⟩ := j3 x H3 y
    refine ⟨r3, env2, ds[i], env3, he2.ext e3, rx, g1, fun σ3 he3 => ⟨r3, env3, st2, o4, env4, st4, he3, hs3, g2, ?_⟩⟩
    cases o4 with
    | nx => exact fun σ' r' H' e' a c => ⟨by omega, r', env4, st4, (e2.trans e3).trans e', a, c, h5⟩
    | ct => exact fun σ' r' H' e' a c => ⟨by omega, r', env4, st4, (e2.trans e3).trans e', a, c, h5⟩
    | bk =>
      cases h5
      exact fun σ' r' H' e' a c => q σ' r' H' (((e1.trans e2).trans e3).trans e') a c
    | rt v =>
      cases h5
      exact fun v r' H' e' a c => q v r' H' (((e1.trans e2).trans e3).trans e') a c
    | er c' f' v =>
      cases h5
      exact fun σ' r' H' C dd e' a c z => q σ' r' H' C dd (((e1.trans e2).trans e3).trans e') a c z
  · have e : i = ds.length := by omega
    subst e
    rw [List.drop_length] at h3
    unfold loopSG at h3
    by_cases hP : okP P st2 = true
    case neg => rw [if_neg hP] at h3; cases h3
    rw [if_pos hP] at h3
    obtain ⟨jst, jgo⟩ := j1 r2 H2 st2 e2 hs2 (okP_p hP)
    cases h3
    exact .inl ⟨jst _ (Nat.le_refl _), q σ2 r2 H2 (e1.trans e2) he2 hs2⟩
end
noncomputable def loopCG (P : Store → Prop) (is : List Nat) (bd : FB) (t : FT) (f : F) : List D → Lo → Store → Option (List D × Store)
  | [], _, st => if okP P st = true then some ([], st) else none
  | d :: ds, env, st => if okP P st = true then (bd d).bind fun vs => (t (setL is vs env) st).bind fun p => if p.1 = true then (f (setL is vs env) p.2).bind fun q => (loopCG P is bd t f ds env q.2).map fun z => (q.1 :: z.1, z.2) else loopCG P is bd t f ds env p.2 else none
noncomputable def fCompG (fi : FIg) (is : List Nat) (bd : FB) (t : FT) (f : F) : F := fun env st => (fi env st).bind fun p => (loopCG p.2.1 is bd t f p.1 (wipeL env is) p.2.2).bind fun q => if q.1.length ≤ sizeLine then some (.lst q.1, q.2) else none
theorem compReadsG {RR : RD} {fi : FIg} {is : List Nat} {bd : FB} {g : TG} {t : FT} {f : F} (hg : TgOkR K RR g is bd) (σ : L2.St) (H : Hp) (Q : VK) (hh : tD K (fCompG fi is bd t f) σ H Q) : tLc (tIG K RR fi) g (tT K t) (tD K f) is σ H Q := by
  obtain ⟨r, env, st, d, st', he, hs, hf, q⟩ := hh
  obtain ⟨⟨ds, P, s1⟩, h1, h2⟩ := Option.bind_eq_some_iff.mp hf
  obtain ⟨⟨zs, s2⟩, h3, h4⟩ := Option.bind_eq_some_iff.mp h2
  by_cases hz : zs.length ≤ sizeLine
  case neg => rw [if_neg hz] at h4; cases h4
  rw [if_pos hz] at h4
  cases h4
  refine ⟨r, env, st, ds, P, s1, he, hs, h1, fun J r1 H1 e1 q1 j1 Dl hD => ?_⟩
  have m0 := Mkg.start (o := .lst []) q1 hD
  refine ⟨fun k m H2 => m = ds.length - k ∧ k ≤ ds.length ∧ ∃ r2 st2 acc us ys, Mkg K r1 H1 Dl r2 H2 st2 ∧ EnvR K r2 H2 (DL.wipeL env is) (wipe σ is) ∧ H2 Dl = some (.lst us) ∧ RepL K r2 H2 us acc ∧
    loopCG P is bd t f (ds.drop k) (DL.wipeL env is) st2 = some (ys, s2) ∧ acc ++ ys = zs, ⟨_, rfl, Nat.zero_le _, r1.hide Dl, s1, [], [], zs, m0, ((he.ext e1).ext m0.ex).wipeL is, upd_same, .nil, h3, rfl⟩, ?_⟩
  rintro k m H2 ⟨rfl, hk, r2, st2, acc, us, ys, mk, wp, hus, racc, hl, hcat⟩
  by_cases hlt : k < ds.length
  case neg =>
    have e : k = ds.length := by omega
    subst e
    rw [List.drop_length] at hl
    unfold loopCG at hl
    by_cases hP : okP P st2 = true
    case neg => rw [if_neg hP] at hl; cases hl
    rw [if_pos hP] at hl
    obtain ⟨jst, jgo⟩ := j1 r2 H2 st2 mk.ex mk.sim (okP_p hP)
    cases hl
    rw [List.append_nil] at hcat
    subst hcat
    obtain ⟨w1, w2, w3⟩ := mk.show q1 hD
    exact .inl ⟨jst _ (Nat.le_refl _), q (.ref Dl) (r2.shown Dl) H2 (e1.trans w1) w2 (.lst hus (fun z => z.2 rfl) (racc.ex w3))⟩
  case pos =>
    have hd : ds[k]? = some ds[k] := List.getElem?_eq_getElem hlt
    rw [List.drop_eq_getElem_cons hlt] at hl
    unfold loopCG at hl
    by_cases hP : okP P st2 = true
    case neg => rw [if_neg hP] at hl; cases hl
    rw [if_pos hP] at hl
    obtain ⟨jst, jgo⟩ := j1 r2 H2 st2 mk.ex mk.sim (okP_p hP)
    obtain ⟨vals, hv, hl1⟩ := Option.bind_eq_some_iff.mp hl
    obtain ⟨⟨b, st3⟩, hb, hl2⟩ := Option.bind_eq_some_iff.mp hl1
    obtain ⟨j2, j3⟩ := jgo k _ hd
    refine .inr ⟨j2, fun H' => k + 1 ≤ ds.length ∧ ∃ r2 st2 acc us ys, Mkg K r1 H1 Dl r2 H' st2 ∧ EnvR K r2 H' (DL.wipeL env is) (wipe σ is) ∧ H' Dl = some (.lst us) ∧ RepL K r2 H' us acc ∧
      loopCG P is bd t f (ds.drop (k + 1)) (DL.wipeL env is) st2 = some (ys, s2) ∧ acc ++ ys = zs, fun H' ⟨hk', w⟩ => ⟨ds.length - (k + 1), by omega, rfl, hk', w⟩, fun x H3 y => ?_⟩
    obtain ⟨r3, e3, s3, rx⟩ := j3 x H3 y
    have wp3 := wp.ext e3
    refine hg r3 H3 x _ _ _ vals rx hv fun vs rvs => ⟨wipe_setL σ is vs, ?_⟩
    · have he3 : EnvR K r3 H3 (DL.setL is vals (DL.wipeL env is)) (DL.setL is vs (wipe σ is)) := wp3.setL rvs
      refine ⟨r3, _, st2, b, st3, he3, s3, hb, fun r4 H4 e4 s4 => ?_⟩
      cases b with
      | false =>
        rw [if_neg Bool.false_ne_true] at hl2 ⊢
        obtain ⟨m4, k4⟩ := mk.step (e3.trans e4) s4
        exact ⟨hlt, r4, st3, acc, us, ys, m4, wp3.ext e4, k4.trans hus, racc.ext (e3.trans e4), hl2, hcat⟩
      | true =>
        rw [if_pos rfl] at hl2 ⊢
        obtain ⟨⟨yd, st4⟩, hy, hl3⟩ := Option.bind_eq_some_iff.mp hl2
        obtain ⟨⟨ys', st5⟩, hl4, hl5⟩ := Option.map_eq_some_iff.mp hl3
        cases hl5
        refine ⟨r4, _, st3, yd, st4, he3.ext e4, s4, hy, fun yv r5 H5 e5 s5 ry => ?_⟩
        have e25 : Ext r2 H2 r5 H5 := (e3.trans e4).trans e5
        obtain ⟨m5, k5⟩ := mk.step e25 s5
        obtain ⟨m6, g1⟩ := m5.put q1 hD (.lst (us ++ [yv]))
        refine ⟨us, k5.trans hus, ?_, hlt, r5, st4, acc ++ [yd], us ++ [yv], ys', m6, ((wp3.ext e4).ext e5).exx g1, upd_same, ((racc.ext e25).ex g1).append (.cons (ry.ex g1) .nil), hl4, by rw [← hcat, List.append_assoc]; rfl⟩
        rw [racc.len]
        have : (acc ++ yd :: ys').length ≤ sizeLine := by rw [hcat]; exact hz
        rw [List.length_append, List.length_cons] at this
        omega
section
variable {X : Cx} {W : WXd} {tg iter : Expr}
theorem de_lcG {RR : RD} {elt : Expr} {ifs : List Expr} {scope : Scope} {own : List (Str × Nat)} {pos : Pos} {fi : FIg} {bd : FB} {g : TG} {t : FT} {f : F} (hc : X.calm = true) (hN : X.N.Nodup) (hi : DIG X RR tg iter fi) (ok : BlkOk X.N X.env.scope scope own)
    (tk : TgOkR X.K RR g (own.map (·.2)) bd)
    (hg : ∀ (s : Shared) (H : Hp) (C : Addr) (cl : List (Str × Addr)) (fp : List Addr), PG (X.blk s H scope (compEnvC scope cl C X.env) fp) tg g) (ht : ∀ (s : Shared) (H : Hp) (C : Addr) (cl : List (Str × Addr)) (fp : List Addr), DTs (X.blk s H scope (compEnvC scope cl C X.env) fp) ifs t)
    (he : ∀ (s : Shared) (H : Hp) (C : Addr) (cl : List (Str × Addr)) (fp : List Addr), DE (X.blk s H scope (compEnvC scope cl C X.env) fp) elt f) (hs : ∀ x, foldedSetIterable iter X.env x = pure x := by intro _; rfl) :
    DE X (.ListComp elt [⟨tg, iter, ifs, 0⟩] scope pos) (fCompG fi (own.map (·.2)) bd t f) := weakE (pe_lc hc hN hi ok hg ht he hs) fun σ H Q hh => compReadsG tk σ H Q hh
theorem ds_setLcG {RR : RD} {i : Nat} {y : Str} {py : Pos} {elt : Expr} {ifs : List Expr} {scope : Scope} {own : List (Str × Nat)} {pos spos : Pos} {fi : FIg} {bd : FB} {g : TG} {t : FT} {f : F} (hc : X.calm = true) (hN : X.N.Nodup) (hy : X.N[i]? = some y) (hyl : X.env.scope.names.lookup y = some .local)
    (hsw : swapsWith (.ListComp elt [⟨tg, iter, ifs, 0⟩] scope pos) (some (.Name y py)) spos.line X.env = pure true) (hi : DIG X RR tg iter fi) (ok : BlkOk X.N X.env.scope scope own)
    (tk : TgOkR X.K RR g (own.map (·.2)) bd)
    (hg : ∀ (s : Shared) (H : Hp) (C : Addr) (cl : List (Str × Addr)) (fp : List Addr), PG (X.blk s H scope (compEnvC scope cl C X.env) fp) tg g) (ht : ∀ (s : Shared) (H : Hp) (C : Addr) (cl : List (Str × Addr)) (fp : List Addr), DTs (X.blk s H scope (compEnvC scope cl C X.env) fp) ifs t)
    (he : ∀ (s : Shared) (H : Hp) (C : Addr) (cl : List (Str × Addr)) (fp : List Addr), DE (X.blk s H scope (compEnvC scope cl C X.env) fp) elt f) (hs : ∀ x, foldedSetIterable iter X.env x = pure x := by intro _; rfl) :
    DS X W (.Assign [.Name y py] (.ListComp elt [⟨tg, iter, ifs, 0⟩] scope pos) spos) (sAsg (fCompG fi (own.map (·.2)) bd t f) (gN i)) := weakS (ps_setLc hc hN hy hyl hsw hi ok hg ht he hs) fun D' σ H hh => by
  obtain ⟨r, env, st, o, env', st', he, hs, hf, q⟩ := hh
  obtain ⟨⟨d, s1⟩, h1, h2⟩ := Option.bind_eq_some_iff.mp hf
  obtain ⟨e1, h3, h4⟩ := Option.map_eq_some_iff.mp h2
  cases h4
  cases h3
  exact compReadsG tk σ H _ ⟨r, env, st, d, _, he, hs, h1, fun v r1 H1 x1 q1 p1 => q _ r1 H1 x1 ((he.ext x1).set p1 i) q1⟩
/-- a list of the store, as long as it stands as it stood -/
def iRefL (f : F) : FIg := fun env st => (f env st).bind fun p => match p.1 with
  | .ref n => (match p.2[n]? with | some (.lst ds) => some (ds, (fun s => s[n]? = some (.lst ds)), p.2) | _ => none)
  | _ => none
theorem di_refL {f : F} (h : DE X iter f) : DIG X (Rep X.K) tg iter (iRefL f) := weakI (pi_list h) fun σ H R hh => by
  obtain ⟨r, env, st, ds, P, st', he, hs, hf, q⟩ := hh
  obtain ⟨⟨d, s1⟩, h1, h2⟩ := Option.bind_eq_some_iff.mp hf
  cases d with
  | ref n =>
    have h2' : (match s1[n]? with | some (.lst ds) => some (ds, (fun s : Store => s[n]? = some (.lst ds)), s1) | _ => none) = some (ds, P, st') := h2
    split at h2'
    · rename_i es hst
      cases h2'
      refine ⟨r, env, st, _, _, he, hs, h1, fun v r1 H1 e1 q1 p1 => ?_⟩
      obtain ⟨a, rfl, ha⟩ := p1.refI
      obtain ⟨av, xs, hx, l⟩ := q1.ob _ a _ ha hst
      refine ⟨a, rfl, ⟨xs, .of hx⟩, q _ r1 H1 e1 q1 fun r2 H2 st2 e2 s2 hP => ?_⟩
      obtain ⟨av2, ys, hy, l2⟩ := s2.ob _ a _ (e2.get ha) hP
      have sq : SqL X.K H2 a ys := .of hy
      refine ⟨fun i hi => ⟨ys, sq, by rw [l2.len]; exact hi⟩, fun i d hd => ?_⟩
      obtain ⟨v, hv, rv⟩ := l2.get hd
      exact ⟨⟨ys, v, sq, hv⟩, fun x H3 ⟨e, y⟩ => by
        subst e
        have := y ys sq
        rw [hv] at this
        cases this
        exact ⟨r2, .refl _ _, s2, rv⟩⟩
    · cases h2'
  | _ => cases h2
end
/-! the walk of a list that stands: as of any other -/
theorem loopCG_map {P : Store → Prop} {is : List Nat} {bd : FB} {f : F} {g : D → D} {env : Lo} {st : Store} (hP : P st) : ∀ {ds : List D}, (∀ d ∈ ds, ∃ vs, bd d = some vs ∧ f (setL is vs env) st = some (g d, st)) → loopCG P is bd tTrue f ds env st = some (ds.map g, st)
  | [], _ => by unfold loopCG; rw [if_pos (okP_t hP)]; rfl
  | d :: ds, h => by
    obtain ⟨ws, hb, hf⟩ := h d List.mem_cons_self
    have := loopCG_map hP (ds := ds) fun d hd => h d (List.mem_cons_of_mem _ hd)
    simp [loopCG, hb, tTrue, hf, this, okP_t hP]
end DL
/-! enumerate over a tuple, over a list. -/
namespace DL
open PySem PySem.Spec PyProof.Rows L2 TL
theorem enum_new1 {v : Value} {o : Obj} {HH : Heap → Prop} (B : Begins v o HH) : Meets (Builtin.«enumerate.__new__» ⟨[.type "enumerate", v], []⟩) (fun _ R s => HH s.heap ∧ R (.ok (.ret (.ref (s.heap.push o).objs.size))) { s with heap := (s.heap.push o).push { cls := .type "enumerate", data := .fields #[.none, .bool false, .ref s.heap.objs.size, rawInt 0, .none, .none] } }) :=
  .of_wp fun prog w A R s h => by
  obtain ⟨hp, g, d, tk, os⟩ := s
  obtain ⟨hH, hR⟩ := h
  have sb := sub_enumerate
  have it1 : ∀ {A' : Around} {E' : Value → Shared → Prop} {Q' : Value → Shared → Prop}, Q' (.ref hp.objs.size) ⟨hp.push o, g, d, tk, os⟩ → wpAny (model prog w) A' (pyIter v) Q' E' ⟨hp, g, d, tk, os⟩ := fun z => B.iter prog w _ _ ⟨hp, g, d, tk, os⟩ _ hH z
  wp_walk using it1
  refine wpAny_stack_any fun stk => wpAny_pure ?_
  split
  · rename_i c _ _ _ _ _
    cases (c == Value.type "enumerate") <;> (wp_walk using it1; exact ⟨_, rfl, hR⟩)
  · wp_walk using it1
    exact ⟨_, rfl, hR⟩
theorem call_enum1 {prog : Program} {w : World} {A : Around} {E : Value → Shared → Prop} {s : Shared} {v : Value} {o : Obj} {HH : Heap → Prop} {Q : Value → Shared → Prop} (B : Begins v o HH) (hH : HH s.heap)
    (hQ : ∀ h', IsEnum h' (s.heap.objs.size + 1) s.heap.objs.size 0 .none → h'.get? s.heap.objs.size = some o → (∀ b ob, s.heap.get? b = some ob → h'.get? b = some ob) → Q (.ref (s.heap.objs.size + 1)) { s with heap := h' }) : wpAny (model prog w) A (call (.type "enumerate") [v]) Q E s := by
  have sz : (s.heap.push o).objs.size = s.heap.objs.size + 1 := Heap.size_push ..
  have en : IsEnum ((s.heap.push o).push { cls := .type "enumerate", data := .fields #[.none, .bool false, .ref s.heap.objs.size, rawInt 0, .none, .none] }) (s.heap.objs.size + 1) s.heap.objs.size 0 .none := by
    have z := Heap.get?_push_size (s.heap.push o) (o := { cls := .type "enumerate", data := .fields #[.none, .bool false, .ref s.heap.objs.size, rawInt 0, .none, .none] }) rfl
    rw [sz] at z
    exact z
  refine callType_new F.called_enumerate (by decide) (F.typeCall_enumerate_1 _) (F.newCall_enumerate_1 _) (fun ob => F.args_object_init_2 ob _) F.entry_enumerate_new (enum_new1 B) ⟨hH, ?_⟩
  show _ ∧ _
  rw [sz]
  exact ⟨⟨_, en, rfl⟩, hQ _ en (Heap.get?_push_of_some _ (Heap.get?_push_size _ B.free)) fun b ob z => Heap.get?_push_of_some _ (Heap.get?_push_of_some _ z)⟩
/-- the tuple at a, its items behind their numbers -/
def IteT (K : PySem.W.Frag) (a : Addr) : It :=
  ⟨fun k H => ∃ (xs : List V) (x : V), SqT K H a xs ∧ xs[k]? = some x, fun k H v H' => ∃ T x, v = .ref T ∧ H T = none ∧ H' = upd H T (.tup [.int (k : Nat), x]) ∧ ∀ xs, SqT K H a xs → xs[k]? = some x, fun k H => ∃ xs : List V, SqT K H a xs ∧ xs.length ≤ k⟩
theorem apart_ti {h : Heap} {a it : Addr} {its : Array Value} {i : Nat} (p : h.IsTuple a its) (q : h.IsTupleIter it a i) : a ≠ it := fun z => by
  obtain ⟨o, e1, c1, n, d1⟩ := p
  obtain ⟨o2, e2, c2, d2⟩ := q
  rw [z, e2] at e1
  cases e1
  rw [d1] at d2
  cases d2
theorem apart_en {h : Heap} {a e it : Addr} {its : Array Value} {i : Int} {old : Value} (p : h.IsTuple a its) (q : IsEnum h e it i old) : e ≠ a := fun z => by
  obtain ⟨o, e1, c1, n, d1⟩ := p
  have q' : h.get? e = _ := q
  rw [z, e1] at q'
  cases q'
  cases d1
theorem turn_enumT {P : Program} {w : World} {K : PySem.W.Frag} {elts : List Expr} {kk : Nat} {tpos : Pos} (a e it : Addr) :
    Turn P w K (.Tuple elts kk tpos) (IteT K a) [e, it] e (fun i h => (∃ old, IsEnum h e it ((i : Nat) : Int) old) ∧ h.IsTupleIter it a i ∧ e ≠ it) where
  mem := List.mem_cons_self
  obj := fun i h ⟨⟨old, en⟩, ⟨o, ho, hc, hd⟩, _⟩ b hb => by
    rcases List.mem_cons.mp hb with z | z
    · exact ⟨_, by rw [z]; exact en, fun v q => by cases (show Data.fields _ = Data.cell v from q)⟩
    · exact ⟨o, by rw [List.mem_singleton.mp z]; exact ho, fun v q => by rw [hd] at q; cases q⟩
  keep := fun i h h' ⟨⟨old, en⟩, ti, ne⟩ k => ⟨⟨old, k e List.mem_cons_self _ en⟩, ti.at fun o q => k it (List.mem_cons_of_mem _ List.mem_cons_self) o q, ne⟩
  item := by
    intro X hP hw hK hc i pins s σ H E I hf ⟨⟨old, en⟩, ti, ne⟩ ⟨xs, x, sq, hx⟩
    subst hP hw hK
    obtain ⟨its, rv, p, hz⟩ := I.tuple sq
    have p' : s.heap.IsTuple a its.toArray := p
    obtain ⟨u, hu, ru⟩ := rv.get hx
    have le : e < s.heap.objs.size := Heap.lt_size en
    have li : it < s.heap.objs.size := by
      obtain ⟨_, q, _⟩ := ti
      exact Heap.lt_size q
    have hlt : i < its.toArray.size := by
      have := (List.getElem?_eq_some_iff.mp hu).1
      simpa using this
    refine wpAny_pyNext_enum_itemD (Draws.tuple (A := X.A.in1) (I.ok.hd hc) it a (apart_ti p' ti) its.toArray) en ⟨ti, p'⟩ hlt ne (fun hm => ?_) fun y h' tk hy ho st' hT hsz hk => ?_
    · rcases List.mem_cons.mp hm with z | z
      · exact ne z
      · exact apart_en p' en (List.mem_singleton.mp z)
    · have ey : y = u := by
        have h2 : its[i]? = some y := by simpa using hy
        rw [hu] at h2
        exact (Option.some.inj h2).symm
      subst ey
      refine ⟨_, rfl, wpAny_letOwnedTupleGo_enum (s := { s with heap := h', toks := tk + 1 }) ho fun h'' en' sb => ?_⟩
      have tup : h''.get? s.heap.objs.size = some { cls := .type "tuple", data := .seq #[.int i tk, y] } := (sb.2 _ (Nat.ne_of_gt le)).trans hT
      have ok2 : ObjOk X.prog X.w (upd H s.heap.objs.size (.tup [.int (i : Nat), x])) h'' s.heap.objs.size (.tup [.int (i : Nat), x]) :=
        ⟨by show 2 ≤ sizeLine; decide, [.int i tk, y], .cons ⟨tk, rfl⟩ (.cons ru .nil), ⟨_, tup, rfl, _, rfl⟩⟩
      have I1 : Inv X pins σ (upd H s.heap.objs.size (.tup [.int (i : Nat), x])) { s with heap := h'', toks := tk + 1 } :=
        I.turnedNew (ch := [e, it]) (fun b ob hb q => (sb.2 b (fun z => hb (by rw [z]; exact List.mem_cons_self))).trans (hk b ob (fun z => hb (by rw [z]; exact List.mem_cons_self)) (fun z => hb (by rw [z]; exact List.mem_cons_of_mem _ List.mem_cons_self)) q)) hf (Nat.le_refl _) ok2
      have en2 : IsEnum h'' e it (((i + 1 : Nat) : Int)) y := by
        rw [show ((i + 1 : Nat) : Int) = (i : Int) + 1 by omega]
        exact en'
      refine ⟨.ref s.heap.objs.size, _, I1, rfl, ⟨_, x, rfl, I.hok.fresh (Nat.le_refl _), rfl, fun ys hys => by rw [I.tuple_inj hys sq]; exact hx⟩, ⟨⟨y, en2⟩, st'.1.at fun o q => (sb.2 it (Ne.symm ne)).trans q, ne⟩, fun b hb => ?_⟩
      have lb : b < s.heap.objs.size := by
        rcases List.mem_cons.mp hb with z | z
        · rw [z]; exact le
        · rw [List.mem_singleton.mp z]; exact li
      rw [upd_ne (Nat.ne_of_lt lb)]
      exact (hf b hb).1
  done := by
    intro X hP hw hK hc i pins s σ H E I hf ⟨⟨old, en⟩, ti, ne⟩ ⟨xs, sq, hx⟩
    subst hP hw hK
    obtain ⟨its, rv, p, hz⟩ := I.tuple sq
    have p' : s.heap.IsTuple a its.toArray := p
    obtain ⟨f0, f1, f2, f3, f4, f5⟩ := hf it (List.mem_cons_of_mem _ List.mem_cons_self)
    have hl := rv.length
    unfold pyNext
    refine wpAny_bind (wpAny_attempt (wpAny_callSpecial?_slot (name := Str.ofString "__next__") ⟨_, en, rfl⟩ F.slot_enumerate_next (wpAny_call_entry F.slot_enumerate_next ⟨_, en, rfl⟩ F.entry_enumerate_next ?_ (F.args_enumerate_next_1 _))))
    show wpAny _ _ (field (.ref e) 2 >>= _) _ _ _
    refine wpAny_bind (wpAny_field en rfl (x := .ref it) rfl ?_)
    refine wpAny_bind (wpAny_nextOf_tuple_end (I.ok.hd hc) ti p' (by simp; omega) fun h' x eb ⟨o, ho, hcl⟩ => ?_)
    refine wpAny_bind (wpAny_isInstance (T := "StopIteration") (b := true) ⟨o, ho, hcl⟩ isSubtype_stop ?_)
    exact wpAny_pure ⟨rfl, I.turned (t' := s.toks) (fun b ob hb q => eb b ob hb q) f0 f1 f3 f4 f5⟩
  self := fun A i s Q E ⟨⟨_, en⟩, _⟩ h => wpAny_pyIter_enum en h
section
variable {X : Cx}
theorem pi_enumT {e : Expr} {ta : TA} {p pos tpos : Pos} {elts : List Expr} {kk : Nat} (hg : Gl X "enumerate") (hm : X.mg "enumerate" = none) (ha : PA X [e] ta) (hs : starEach [e] X.env = [(false, eval e X.env)] := by rfl) :
    PI X (.Tuple elts kk tpos) (.Call (.Name "enumerate" p) [e] [] pos) (fun σ H R => ta σ H fun vs H1 => ∃ a xs, vs = [.ref a] ∧ SqT X.K H1 a xs ∧ R (IteT X.K a) H1) := by
  refine ⟨fun pins s σ H R I h => Call_ (ld_blt I hg hm boot_enumerate (PyProof.Rows.callWith_type1 (thn (ha.run pos pins s σ H _ I h) fun us s1 ⟨vs, H1, I1, r1, a, xs, ex, sq, q⟩ => ?_) hs rfl))⟩
  subst ex
  obtain ⟨u, rfl, ru⟩ := vals1 r1
  cases ru
  obtain ⟨its, rv, pt, hz⟩ := I1.tuple sq
  refine call_enum1 (begins_tuple a its.toArray) (show s1.heap.IsTuple a its.toArray from pt) fun h' en hti hk => wpAny_pyIter_enum en ?_
  have I2 : Inv X pins σ H1 { s1 with heap := h' } := I1.kept (t' := s1.toks) hk
  refine ⟨s1.heap.objs.size + 1, [s1.heap.objs.size + 1, s1.heap.objs.size], _, _, H1, rfl, I2, turn_enumT a (s1.heap.objs.size + 1) s1.heap.objs.size, ⟨⟨.none, en⟩, ⟨_, hti, rfl, rfl⟩, Nat.succ_ne_self _⟩, fun b hb => ?_, q⟩
  have lb : s1.heap.objs.size ≤ b := by
    rcases List.mem_cons.mp hb with z | z
    · rw [z]; exact Nat.le_add_right _ _
    · rw [List.mem_singleton.mp z]; exact Nat.le_refl _
  exact I1.fpOk lb (I1.hok.fresh lb)
/-- i, x of enumerate(t) -/
theorem pairUp_get : ∀ {ds : List D} {n i : Nat} {d : D}, (pairUp n ds)[i]? = some d → ∃ x, ds[i]? = some x ∧ d = .tup [.int ((n + i : Nat) : Int), x]
  | [], n, i, d, h => by simp [pairUp] at h
  | a :: as, n, 0, d, h => ⟨a, rfl, (Option.some.inj (show some (D.tup [.int (n : Int), a]) = some d from h)).symm⟩
  | a :: as, n, i + 1, d, h => by
    obtain ⟨x, h1, h2⟩ := pairUp_get (ds := as) (n := n + 1) (i := i) (show (pairUp (n + 1) as)[i]? = some d from h)
    exact ⟨x, h1, by rw [h2]; congr 4; omega⟩
theorem pairUp_len : ∀ (ds : List D) (n : Nat), (pairUp n ds).length = ds.length
  | [], _ => rfl
  | _ :: ds, n => congrArg Nat.succ (pairUp_len ds (n + 1))
def asEnT : List D → Option (List D) | [.tup ds] => some (pairUp 0 ds) | _ => none
theorem di_enumT {e : Expr} {fa : FA} {p pos tpos : Pos} {elts : List Expr} {kk : Nat} (hg : Gl X "enumerate") (hm : X.mg "enumerate" = none) (ha : DA X [e] fa) (hs : starEach [e] X.env = [(false, eval e X.env)] := by rfl) :
    DIR X (RepI X.K) (.Tuple elts kk tpos) (.Call (.Name "enumerate" p) [e] [] pos) (iOfA asEnT fa) := weakI (pi_enumT hg hm ha hs) fun σ H R hh => by
  obtain ⟨r, env, st, ds, st', he, hs, hf, q⟩ := hh
  obtain ⟨xs, h1, h2⟩ := iOfA_some hf
  refine ⟨r, env, st, xs, st', he, hs, h1, fun v r1 H1 e1 q1 p1 => ?_⟩
  unfold asEnT at h2
  split at h2
  · rename_i as
    cases h2
    obtain ⟨u, rfl, pa⟩ := lst1 p1
    obtain ⟨a', us, rfl, sa, la⟩ := pa.sqT
    refine ⟨a', us, rfl, sa, q _ r1 H1 e1 q1 fun r2 H2 st2 e2 s2 => ?_⟩
    obtain ⟨c, us2, ec, sa2, la2⟩ := (pa.ext e2).sqT
    cases ec
    refine ⟨fun i hi => ⟨us2, sa2, by rw [pairUp_len] at hi; rw [la2.len]; exact hi⟩, fun i d hd => ?_⟩
    obtain ⟨x, hx, ed⟩ := pairUp_get hd
    obtain ⟨vx, hvx, rx⟩ := la2.get hx
    refine ⟨⟨us2, vx, sa2, hvx⟩, fun v H3 ⟨T, x', ev, hT, eH, w1⟩ => ?_⟩
    subst ev
    subst eH
    have ex : x' = vx := by
      have := w1 us2 sa2
      rw [hvx] at this
      exact (Option.some.inj this).symm
    subst ex
    have sm : Same H2 (upd H2 T (.tup [.int (i : Nat), x'])) := same_alloc hT
    exact ⟨r2, s2.ext sm, s2.same sm, T, [.int (i : Nat), x'], [.int (i : Nat), x], rfl, by rw [ed, Nat.zero_add], .inl (.inl upd_same), .cons (.int _) (.cons (rx.ext (s2.ext sm)) .nil)⟩
  · cases h2
end
end DL
/-! The order of nested tuples: the first place that differs decides, none behind it is asked. -/
namespace DL
open PySem PySem.Spec PyProof.Rows L2 TL
section
open PySem.AutoSeq1 (wpAny_loadPart')
open PySem.MeetsSeq PySem.MeetsSeq2 PySem.MeetsSeq3 PySem.SeqAt
/-- two rows in order, place by place -/
inductive LexAt (A : Around) (s : Shared) : List Value → List Value → Bool → Prop
  | nil2 : LexAt A s [] [] false
  | nilL {u : Value} {us : List Value} : LexAt A s [] (u :: us) true
  | nilR {v : Value} {vs : List Value} : LexAt A s (v :: vs) [] false
  | diff {v u : Value} {vs us : List Value} {k : Bool} : EqAt A s v u false → RcLt A s v u k → LexAt A s (v :: vs) (u :: us) k
  | same {v u : Value} {vs us : List Value} {k : Bool} : EqAt A s v u true → LexAt A s vs us k → LexAt A s (v :: vs) (u :: us) k
theorem tup_lex {p q : Addr} {xs ys : Array Value} {n1 n2 : Nat} {d1 d2 : Option Addr} {t1 t2 : Array (Option Value)} {k : Bool} : Meets (Builtin.«tuple.__lt__» ⟨[.ref p, .ref q], []⟩) (fun A R s =>
    s.heap.get? p = some ⟨.type "tuple", d1, .seq xs n1, t1⟩ ∧ s.heap.get? q = some ⟨.type "tuple", d2, .seq ys n2, t2⟩ ∧ LexAt A.in1 s xs.toList ys.toList k ∧ R (.ok (.ret (.bool k))) s) := .of_wp fun P w A R s hh => by
  obtain ⟨hp, g, d, tk, os⟩ := s
  obtain ⟨g1, g2, lex, done⟩ := hh
  have sub := AutoSeq1.sub_tuple_tuple
  wp_walk using wpAny_loadPart' g1, wpAny_loadPart' g2, wpAny_forIn_list _ (fun todo acc now => acc.1 = none ∧ now = ⟨hp, g, d, tk, os⟩ ∧ ∃ (i : Nat) (vs us : List Value), todo = vs.zip us ∧ xs.size = i + vs.length ∧ ys.size = i + us.length ∧ LexAt A.in1 ⟨hp, g, d, tk, os⟩ vs us k) _
  case turn =>
    rintro ⟨y, x⟩ todo acc now ⟨e1, rfl, i, vs, us, hz, l1, l2, lx⟩
    cases lx with
    | nil2 => cases hz
    | nilL => cases hz
    | nilR => cases hz
    | diff de dr =>
      injection hz with h1 h2
      injection h1 with h3 h4
      subst h3 h4
      refine wpAny_bind (de P w _ _ ?_)
      have ask := dr P w
      wp_walk using ask
      exact ⟨_, rfl, done⟩
    | same se lr =>
      injection hz with h1 h2
      injection h1 with h3 h4
      subst h3 h4
      refine wpAny_bind (se P w _ _ ?_)
      wp_walk
      exact ⟨rfl, rfl, i + 1, _, _, h2, by rw [l1, List.length_cons]; omega, by rw [l2, List.length_cons]; omega, lr⟩
  case fin =>
    rintro ⟨b1, b2⟩ now ⟨e1, rfl, i, vs, us, hz, l1, l2, lx⟩
    simp only at e1
    subst e1
    have hk : k = decide (xs.size < ys.size) := by
      cases lx with
      | nil2 => simp only [List.length_nil] at l1 l2; rw [l1, l2]; simp
      | nilL => simp only [List.length_nil, List.length_cons] at l1 l2; rw [l1, l2]; simp
      | nilR => simp only [List.length_nil, List.length_cons] at l1 l2; rw [l1, l2]; simp
      | diff de dr => cases hz
      | same se lr => cases hz
    wp_walk
    exact ⟨_, rfl, by simpa [Builtin.Tuple.tupleCompareSizes, ← hk] using done⟩
  case h =>
    exact ⟨rfl, rfl, 0, xs.toList, ys.toList, rfl, by simp, by simp, lex⟩
end
/-! the order of data -/
mutual
def pyLt : PyData → PyData → Option Bool
  | .int a, .int b => some (decide (a < b))
  | .str a, .str b => some (decide (a.cps.toList < b.cps.toList))
  | .tuple xs, .tuple ys => pyLtL xs ys
  | _, _ => none
def pyLtL : List PyData → List PyData → Option Bool
  | [], [] => some false
  | [], _ :: _ => some true
  | _ :: _, [] => some false
  | x :: xs, y :: ys => if PyData.eqv x y = true then pyLtL xs ys else pyLt x y
end
theorem pyLt_tup (xs ys : List PyData) : pyLt (.tuple xs) (.tuple ys) = pyLtL xs ys := by rw [pyLt]
theorem pyLtL_cons (x y : PyData) (xs ys : List PyData) : pyLtL (x :: xs) (y :: ys) = if PyData.eqv x y = true then pyLtL xs ys else pyLt x y := by rw [pyLtL]
/-- what may be compared -/
inductive PyLt : PyData → PyData → Bool → Prop
  | int (a b : Int) : PyLt (.int a) (.int b) (decide (a < b))
  | str (a b : Str) : PyLt (.str a) (.str b) (decide (a.cps.toList < b.cps.toList))
  | tup {xs ys : List PyData} {k : Bool} : pyLtL xs ys = some k → PyLt (.tuple xs) (.tuple ys) k
theorem pyLt_inv {dx dy : PyData} {k : Bool} (e : pyLt dx dy = some k) : PyLt dx dy k := by
  unfold pyLt at e
  split at e
  · cases e; exact .int _ _
  · cases e; exact .str _ _
  · exact .tup e
  · cases e
theorem lex_of (A : Around) (s : Shared) (ok : PyData → PyData → Prop) (hlt : ∀ (x y : PyData) (v u : Value) (as bs : List Addr) (k : Bool), ok x y → Reads s.heap v x as → Reads s.heap u y bs → pyLt x y = some k → SeqAt.RcLt A s v u k)
    (heq : ∀ (x y : PyData) (v u : Value) (as bs : List Addr), ok x y → Reads s.heap v x as → Reads s.heap u y bs → SeqAt.EqAt A s v u (PyData.eqv x y)) :
    ∀ (xs ys : List PyData) (vs us : List Value) (as bs : List Addr) (k : Bool), (∀ x ∈ xs, ∀ y ∈ ys, ok x y) → ReadsAll s.heap vs xs as → ReadsAll s.heap us ys bs → pyLtL xs ys = some k → LexAt A s vs us k := by
  intro xs
  induction xs with
  | nil =>
    intro ys vs us as bs k _ r1 r2 e
    cases r1
    cases ys with
    | nil =>
      cases r2
      rw [pyLtL] at e
      cases e
      exact .nil2
    | cons y ys =>
      cases r2
      rw [pyLtL] at e
      cases e
      exact .nilL
  | cons x xs ih =>
    intro ys vs us as bs k o r1 r2 e
    cases r1 with
    | cons a1 b1 =>
    cases ys with
    | nil =>
      cases r2
      rw [pyLtL] at e
      cases e
      exact .nilR
    | cons y ys =>
      cases r2 with
      | cons a2 b2 =>
      rw [pyLtL_cons] at e
      have oxy := o x List.mem_cons_self y List.mem_cons_self
      have eq := heq x y _ _ _ _ oxy a1 a2
      by_cases z : PyData.eqv x y = true
      · rw [if_pos z] at e
        rw [z] at eq
        exact .same eq (ih ys _ _ _ _ k (fun x hx y hy => o x (List.mem_cons_of_mem _ hx) y (List.mem_cons_of_mem _ hy)) b1 b2 e)
      · rw [if_neg z] at e
        simp only [Bool.not_eq_true] at z
        rw [z] at eq
        exact .diff eq (hlt x y _ _ _ _ k oxy a1 a2 e)
theorem canLay_mem : ∀ {xs : List PyData}, PyData.canLayAll0 xs = true → ∀ x ∈ xs, x.canLay0 = true
  | [], _, x, h => by cases h
  | y :: ys, c, x, h => by
    rw [PyData.canLayAll0] at c
    obtain ⟨c1, c2⟩ := Bool.and_eq_true_iff.mp c
    rcases List.mem_cons.mp h with e | h
    · rw [e]; exact c1
    · exact canLay_mem c2 x h
theorem depth_mem : ∀ {xs : List PyData}, ∀ x ∈ xs, x.depth ≤ PyData.depthAll xs
  | [], x, h => by cases h
  | y :: ys, x, h => by
    rw [PyData.depthAll]
    rcases List.mem_cons.mp h with e | h
    · rw [e]; exact Nat.le_max_left _ _
    · exact Nat.le_trans (depth_mem x h) (Nat.le_max_right _ _)
theorem rcLt_n : ∀ (n : Nat) (dx dy : PyData) (A : Around) (s : Shared) (v u : Value) (as bs : List Addr) (k : Bool), dx.depth ≤ n → Reads s.heap v dx as → Reads s.heap u dy bs → dx.canLay0 = true → dy.canLay0 = true → A.units + n < cLine → pyLt dx dy = some k → SeqAt.RcLt A s v u k := by
  intro n
  induction n with
  | zero =>
    intro dx dy A s v u as bs k hd r1 r2 c1 c2 hu e
    cases pyLt_inv e with
    | int a b =>
      cases r1
      cases r2
      exact fun _ _ _ _ h => PyProof.Rows.lt_int h
    | str a b =>
      cases r1
      cases r2
      exact fun _ _ _ _ h => PySem.P.lt_str h
    | tup e2 =>
      rw [PyData.depth] at hd
      exact absurd hd (by omega)
  | succ n ih =>
    intro dx dy A s v u as bs k hd r1 r2 c1 c2 hu e
    cases pyLt_inv e with
    | int a b =>
      cases r1
      cases r2
      exact fun _ _ _ _ h => PyProof.Rows.lt_int h
    | str a b =>
      cases r1
      cases r2
      exact fun _ _ _ _ h => PySem.P.lt_str h
    | tup e2 =>
      rename_i xs ys
      rw [PyData.depth] at hd
      rw [PyData.canLay0] at c1 c2
      cases r1 with
      | tuple ho hc hdd ra =>
      cases r2 with
      | tuple ho2 hc2 hd2 rb =>
      rename_i p o vv n1 q o2 vv2 n2
      obtain ⟨cls, dd, data, sl⟩ := o
      obtain ⟨cls2, dd2, data2, sl2⟩ := o2
      simp only at hc hdd hc2 hd2
      subst hc hdd hc2 hd2
      have hu' : A.in1.units + n < cLine := by
        show A.units + 1 + n < cLine
        omega
      have lx := lex_of A.in1 s (fun x y => x ∈ xs ∧ y ∈ ys) (fun x y v u as bs k o a1 a2 e => ih x y A.in1 s v u as bs k (Nat.le_trans (depth_mem x o.1) (by omega)) a1 a2 (canLay_mem c1 x o.1) (canLay_mem c2 y o.2) hu' e)
        (fun x y v u as bs o a1 a2 => SeqAt.eqAt_reads x y A.in1 s v u as bs a1 a2 (canLay_mem c1 x o.1) (canLay_mem c2 y o.2) (by
          have h1 := depth_mem x o.1
          have h2 := Nat.min_le_left x.depth y.depth
          omega)) xs ys _ _ _ _ k (fun x hx y hy => ⟨hx, hy⟩) ra rb e2
      exact fun P w E Q h => richCompare_meets_room (op := .Lt) ⟨_, ho, rfl⟩ ⟨_, ho2, rfl⟩ PySem.F.slot_tuple_lt PySem.F.entry_tuple_lt (PySem.F.args_tuple_lt_2 _ _) tup_lex ⟨ho, ho2, lx, ⟨(fun x => nomatch x), h⟩⟩ (by omega)
theorem rcLt_py (dx dy : PyData) (A : Around) (s : Shared) (v u : Value) (as bs : List Addr) (k : Bool) (r1 : Reads s.heap v dx as) (r2 : Reads s.heap u dy bs) (c1 : dx.canLay0 = true) (c2 : dy.canLay0 = true) (hu : A.units + dx.depth < cLine) (e : pyLt dx dy = some k) : SeqAt.RcLt A s v u k :=
  rcLt_n dx.depth dx dy A s v u as bs k (Nat.le_refl _) r1 r2 c1 c2 hu e
section
variable {X : Cx}
/-- a < b of nested data -/
def ltN : D → D → Option D := fun a b => (toPy a).bind fun p => (toPy b).bind fun q => if SeqAt.shaped p = true ∧ SeqAt.shaped q = true then (pyLt p q).map .bl else none
theorem op_ltN (hu : X.A.units + 64 < cLine) : OpR X (compareOp .Lt) (fun x y H Q => ∃ p q k, Dp X.K H x p ∧ Dp X.K H y q ∧ SeqAt.shaped p = true ∧ SeqAt.shaped q = true ∧ pyLt p q = some k ∧ Q (.bl k) H) := by
  intro pins s σ H x y v u Q I rx ry h
  obtain ⟨p, q, k, hp, hq, sp, sq, hk, hQ⟩ := h
  obtain ⟨as, r1⟩ := Dp.reads I p x v hp rx
  obtain ⟨bs, r2⟩ := Dp.reads I q y u hq ry
  have dp := SeqAt.depth_of_shaped sp
  exact rcLt_py p q X.A s v u as bs k r1 r2 (SeqAt.canLay_of_shaped sp) (SeqAt.canLay_of_shaped sq) (by omega) hk X.prog X.w _ _ ⟨.bl k, H, I, rfl, hQ⟩
theorem ok_ltN {k : Nat} (g : GX X k) : OpOk X (compareOp .Lt) ltN := ⟨_, op_ltN (by have := g.room.un; omega), fun rho H x y a b d st Q si ra rb e q => by
  obtain ⟨p, h1, h2⟩ := Option.bind_eq_some_iff.mp e
  obtain ⟨p2, h3, h4⟩ := Option.bind_eq_some_iff.mp h2
  by_cases z : SeqAt.shaped p = true ∧ SeqAt.shaped p2 = true
  · rw [if_pos z] at h4
    obtain ⟨k, h5, h6⟩ := Option.map_eq_some_iff.mp h4
    subst h6
    exact ⟨p, p2, k, ra.dp h1, rb.dp h3, z.1, z.2, h5, q _ H (fun _ _ h => h) (.bl k)⟩
  · rw [if_neg z] at h4
    cases h4⟩
/-! bool - bool -/
theorem sub_bb (a b : Bool) : Gives (Builtin.«int.__sub__» ⟨[.bool a, .bool b], []⟩) (.int ((if a = true then (1 : Int) else 0) - if b = true then (1 : Int) else 0)) :=
  .of_wp fun M A E s Q h => by
  obtain ⟨hp, g, d, tk, os⟩ := s
  wp_walk
  exact ⟨_, rfl, h⟩
def subB : D → D → Option D := fun a b => match a, b with | .bl x, .bl y => some (.int ((if x = true then (1 : Int) else 0) - if y = true then (1 : Int) else 0)) | _, _ => none
theorem op_subB : OpR X (binaryOp .Sub) (fun x y H Q => ∃ a b, x = .bl a ∧ y = .bl b ∧ Q (.int ((if a = true then (1 : Int) else 0) - if b = true then (1 : Int) else 0)) H) := by
  intro pins s σ H x y v u Q I rx ry h
  obtain ⟨a, b, rfl, rfl, q⟩ := h
  cases rx
  cases ry
  exact binaryOp_gives (op := .Sub) (T := "bool") rfl rfl F.fills_bool_sub F.slot_bool_sub F.entry_int_sub (F.args_int_sub_2 _ _) (sub_bb a b) trivial ⟨.int _, H, I.tok _, ⟨_, rfl⟩, q⟩
theorem ok_subB : OpOk X (binaryOp .Sub) subB := ⟨_, op_subB, fun rho H x y a b d st Q si ra rb e q => by
  unfold subB at e
  split at e
  · cases e
    cases ra
    cases rb
    exact ⟨_, _, rfl, rfl, q _ H (fun _ _ h => h) (.int _)⟩
  · cases e⟩
/-! ==, != where a list of the store stands on a side -/
def pyOf (d : D) (st : Store) : Option PyData := match d with
  | .ref n => (match st[n]? with | some (.lst ds) => (toPyL ds).map .list | _ => none)
  | d => toPy d
theorem pyOf_dp {r : Rf} {H : Hp} {v : V} {d : D} {st : Store} {p : PyData} (h : Rep X.K r H v d) (si : Sim X.K r H st) (e : pyOf d st = some p) : Dp X.K H v p := by
  cases d with
  | ref n =>
    have e' : (match st[n]? with | some (.lst ds) => (toPyL ds).map PyData.list | _ => none) = some p := e
    split at e'
    · rename_i ds hst
      obtain ⟨a, rfl, ha⟩ := h.refI
      obtain ⟨ps, h1, h2⟩ := Option.map_eq_some_iff.mp e'
      subst h2
      obtain ⟨av, xs, hx, l⟩ := si.ob _ a _ ha hst
      exact .lst (.of hx) (RepL.dp l h1)
    · cases e'
  | _ => exact h.dp e
def fEqR (neg : Bool) (fa fb : F) : F := fun env st => (fa env st).bind fun p => (fb env p.2).bind fun q => (pyOf p.1 q.2).bind fun x => (pyOf q.1 q.2).bind fun y => if SeqAt.shaped x = true ∧ SeqAt.shaped y = true then some (.bl (if neg = true then !PyData.eqv x y else PyData.eqv x y), q.2) else none
theorem eqR_reads {neg : Bool} {fa fb : F} {R : V → V → Hp → VK → Prop} (hR : ∀ u v H Q p q, Dp X.K H u p → Dp X.K H v q → SeqAt.shaped p = true → SeqAt.shaped q = true → Q (.bl (if neg = true then !PyData.eqv p q else PyData.eqv p q)) H → R u v H Q)
    (σ : L2.St) (H : Hp) (Q : VK) (h : tD X.K (fEqR neg fa fb) σ H Q) : tOp R (tD X.K fa) (tD X.K fb) σ H Q := by
  obtain ⟨r, env, st, d, st', he, hs, hf, q⟩ := h
  obtain ⟨⟨x, s1⟩, h1, hf1⟩ := Option.bind_eq_some_iff.mp hf
  obtain ⟨⟨y, s2⟩, h2, hf2⟩ := Option.bind_eq_some_iff.mp hf1
  obtain ⟨px, h3, hf3⟩ := Option.bind_eq_some_iff.mp hf2
  obtain ⟨py, h4, hf4⟩ := Option.bind_eq_some_iff.mp hf3
  by_cases z : SeqAt.shaped px = true ∧ SeqAt.shaped py = true
  · rw [if_pos z] at hf4
    cases hf4
    exact two he hs h1 h2 fun u v r' H' e1 q1 pu pv => hR u v H' Q px py (pyOf_dp pu q1 h3) (pyOf_dp pv q1 h4) z.1 z.2 (q _ r' H' e1 q1 (.bl _))
  · rw [if_neg z] at hf4
    cases hf4
theorem de_eqR {a b : Expr} {fa fb : F} {pos : Pos} {k : Nat} (g : GX X k) (ha : DE X a fa) (hb : DE X b fb) (hm : behindInMarks .Eq b = false := by with_unfolding_all rfl) : DE X (.Compare a [.Eq] [b] pos) (fEqR false fa fb) :=
  weakE (pe_cmpR (op_eqD g.room.units) ha hb hm) fun σ H Q h => eqR_reads (fun u v H Q p q hp hq sp sq hQ => ⟨p, q, hp, hq, sp, sq, hQ⟩) σ H Q h
theorem de_neR {a b : Expr} {fa fb : F} {pos : Pos} {k : Nat} (g : GX X k) (ha : DE X a fa) (hb : DE X b fb) (hm : behindInMarks .NotEq b = false := by with_unfolding_all rfl) : DE X (.Compare a [.NotEq] [b] pos) (fEqR true fa fb) :=
  weakE (pe_cmpR (op_neD g.room.units) ha hb hm) fun σ H Q h => eqR_reads (fun u v H Q p q hp hq sp sq hQ => ⟨p, q, hp, hq, sp, sq, hQ⟩) σ H Q h
theorem dt_eqR {a b : Expr} {fa fb : F} {pos : Pos} {k : Nat} (g : GX X k) (ha : DE X a fa) (hb : DE X b fb) (hm : behindInMarks .Eq b = false := by with_unfolding_all rfl) : DT X (.Compare a [.Eq] [b] pos) (fTest (fEqR false fa fb)) :=
  weakT (pt_cmpR (op_eqD g.room.units) ha hb hm) fun σ H Q h => eqR_reads (fun u v H Q p q hp hq sp sq hQ => ⟨p, q, hp, hq, sp, sq, hQ⟩) σ H (fun x H1 => ∃ c, x = .bl c ∧ Q c H1) (testReads σ H Q h)
theorem dt_neR {a b : Expr} {fa fb : F} {pos : Pos} {k : Nat} (g : GX X k) (ha : DE X a fa) (hb : DE X b fb) (hm : behindInMarks .NotEq b = false := by with_unfolding_all rfl) : DT X (.Compare a [.NotEq] [b] pos) (fTest (fEqR true fa fb)) :=
  weakT (pt_cmpR (op_neD g.room.units) ha hb hm) fun σ H Q h => eqR_reads (fun u v H Q p q hp hq sp sq hQ => ⟨p, q, hp, hq, sp, sq, hQ⟩) σ H (fun x H1 => ∃ c, x = .bl c ∧ Q c H1) (testReads σ H Q h)
end
end DL
/-! Lists that are written no more become values; zip of such lists. -/
namespace DL
open PySem PySem.Spec PyProof.Rows L2
section
variable {X : Cx} {W : WXd} {tg iter : Expr}
theorem Rep.sqLv {K : PySem.W.Frag} {r : Rf} {H : Hp} {v : V} {ds : List D} (h : Rep K r H v (.lst ds)) : ∃ a xs, v = .ref a ∧ SqL K H a xs ∧ RepL K r H xs ds := by
  cases h with
  | lst a b c => exact ⟨_, _, rfl, .of a, c⟩
def asZipL : List D → Option (List D) | [.lst as, .lst bs] => some (pairs2 as bs) | _ => none
theorem di_zipL {a b : Expr} {fa : FA} {elts : List Expr} {kk : Nat} {tpos p pos : Pos} (hg : Gl X "zip") (hm : X.mg "zip" = none) (ha : DA X [a, b] fa)
    (hs : starEach [a, b] X.env = (false, eval a X.env) :: starEach [b] X.env := by rfl) (hpl : (backTo pos (starEach [b] X.env)).any (·.1) = false := by rfl) :
    DIR X (RepI X.K) (.Tuple elts kk tpos) (.Call (.Name "zip" p) [a, b] [] pos) (iOfA asZipL fa) := weakI (RZ.pi_zipA hg hm ha hs hpl) fun σ H R hh => by
  obtain ⟨r, env, st, xs, st', he, hs, hf, q⟩ := hh
  obtain ⟨xs, h1, h2⟩ := iOfA_some hf
  refine ⟨r, env, st, xs, st', he, hs, h1, fun v r1 H1 e1 q1 p1 => ?_⟩
  unfold asZipL at h2
  split at h2
  · rename_i as bs
    cases h2
    obtain ⟨u, w, rfl, pa, pb⟩ := lst2 p1
    obtain ⟨a', us, rfl, sa, la⟩ := pa.sqLv
    obtain ⟨b', ws, rfl, sb, lb⟩ := pb.sqLv
    have pa1 := pa
    have pb1 := pb
    refine ⟨a', b', us, ws, rfl, .inl ⟨sa, sb, q _ r1 H1 e1 q1 fun r2 H2 st2 e2 s2 => ?_⟩⟩
    have hk : ∀ {c : Addr} {ys : List V} {es : List D}, SqL X.K H1 c ys → RepL X.K r1 H1 ys es → Rep X.K r1 H1 (.ref c) (.lst es) → ∃ zs, SqL X.K H2 c zs ∧ RepL X.K r2 H2 zs es := fun {c ys es} _ _ p => by
      obtain ⟨c', zs, e', s', l'⟩ := (p.ext e2).sqLv
      cases e'
      exact ⟨zs, s', l'⟩
    obtain ⟨us2, sa2, la2⟩ := hk sa la pa1
    obtain ⟨ws2, sb2, lb2⟩ := hk sb lb pb1
    refine ⟨fun i hi => ⟨us2, ws2, sa2, sb2, ?_⟩, fun i d hd => ?_⟩
    · rw [pairs2_len] at hi
      rw [la2.len, lb2.len]
      omega
    · obtain ⟨x, y, hx, hy, ed⟩ := pairs2_get hd
      obtain ⟨vx, hvx, rx⟩ := la2.get hx
      obtain ⟨vy, hvy, ry⟩ := lb2.get hy
      refine ⟨⟨us2, ws2, vx, vy, sa2, sb2, hvx, hvy⟩, fun v H3 ⟨T, x', y', ev, hT, eH, w1, w2⟩ => ?_⟩
      subst ev
      subst eH
      have ex : x' = vx := by
        have := w1 us2 sa2
        rw [hvx] at this
        exact (Option.some.inj this).symm
      have ey : y' = vy := by
        have := w2 ws2 sb2
        rw [hvy] at this
        exact (Option.some.inj this).symm
      subst ex ey
      have sm : Same H2 (upd H2 T (.tup [x', y'])) := same_alloc hT
      exact ⟨r2, s2.ext sm, s2.same sm, T, [x', y'], [x, y], rfl, ed, .inl (.inl upd_same), .cons (rx.ext (s2.ext sm)) (.cons (ry.ext (s2.ext sm)) .nil)⟩
  · cases h2
/-- local i's list is a value from here on -/
def sFrzL (i : Nat) : FS := fun env st => match env[i]? with
  | some (some (.ref n)) => (match st[n]? with | some (.lst ds) => some (.nx, env.set i (some (.lst ds)), st.set n .dead) | _ => none)
  | _ => none
theorem ds_frzL (i : Nat) {s : Stmt} {g : FS} (h : DS X W s g) : DS X W s (sSeq (sFrzL i) g) := weakS h fun D' σ H hh => by
  obtain ⟨r, env, st, o, env', st', he, hs, hf, q⟩ := hh
  obtain ⟨⟨o1, e1, s1⟩, h1, h2⟩ := Option.bind_eq_some_iff.mp hf
  unfold sFrzL at h1
  split at h1
  · rename_i n hn
    split at h1
    · rename_i ds hst
      cases h1
      obtain ⟨v, hv, rv⟩ := he.at_ i _ hn
      obtain ⟨a, rfl, ha⟩ := rv.refI
      obtain ⟨av, xs, hx, l⟩ := hs.ob _ a _ ha hst
      have ex := drop_ext (H := H) (List.mem_of_getElem? ha)
      have na : ¬ (r.drop a).av a := fun z => z.2 rfl
      have he2 := (he.ext ex).set (Rep.lst hx na (l.ext ex)) i
      have es : σ.set i (some (V.ref a)) = σ := by
        refine List.ext_getElem? fun j => ?_
        by_cases z : i = j
        · subst z
          rw [List.getElem?_set_self (List.getElem?_eq_some_iff.mp hv).1, hv]
        · rw [List.getElem?_set_ne z]
      rw [es] at he2
      exact ⟨_, _, _, o, env', st', he2, drop_sim hs ha, h2, q.ext ex⟩
    · cases h1
  · cases h1
end
end DL
/-! Sets of ints that live for one expression: how many they are, in order. -/
namespace DL
open PySem PySem.Spec PyProof.Rows L2
section
variable {X : Cx}
/-- what may stand at D while its items come in, how one more changes it -/
structure SetKd (X : Cx) where
  T : Type
  ob : Addr → T → HO
  z : T
  put : T → V → T
  fits : T → V → Prop
  new : ∀ {H : Hp} {h : Heap}, ObjOk X.prog X.w H (h.push { cls := .type "set", dict := none, data := .set #[] 0 (.fresh 0 0 (!X.w.params.followText "set-order")) }) h.objs.size (ob h.objs.size z)
/-- the items come in -/
def SetAdd (X : Cx) (K : SetKd X) : Prop := ∀ {Y : Cx} {pins : List (Addr × Obj)} {σ : L2.St} {H : Hp} {s : Shared} {E : Value → Shared → Prop} {D : Addr} {t : K.T} {y : V} {v : Value} {Q : Value → Shared → Prop}, Y.prog = X.prog → Y.w = X.w → Inv Y pins σ H s → H D = some (K.ob D t) → K.fits t y → RelV y v →
  (∀ s', Inv Y pins σ (upd H D (K.ob D (K.put t y))) s' → Q .none s') → wpAny (model Y.prog Y.w) Y.A (call (.builtin "set.add") [.ref D, v]) Q E s
def tScK (K : SetKd X) (wi : TI) (g : TG) (tt : TT) (te : TE) (vs : List Nat) : TE := fun σ H Q => wi σ H fun J H1 => ∀ D, H1 D = none → ∃ W : Nat → Nat → Hp → Prop, (∃ m, W 0 m (upd H1 D (K.ob D K.z))) ∧ ∀ i m H, W i m H →
  (J.stop i H ∧ Q (.ref D) H) ∨ (J.go i H ∧ ∃ Nx : Hp → Prop, (∀ H', Nx H' → ∃ m', m' < m ∧ W (i + 1) m' H') ∧ ∀ x H', J.yld i H x H' → g x (wipe σ vs) H' fun σ2 H2 => wipe σ2 vs = wipe σ vs ∧ tt σ2 H2 fun b H3 =>
    if b = true then te σ2 H3 fun y H4 => ∃ t, H4 D = some (K.ob D t) ∧ K.fits t y ∧ Nx (upd H4 D (K.ob D (K.put t y))) else Nx H3)
theorem pe_scK (K : SetKd X) (ka : SetAdd X K) {elt tg iter : Expr} {ifs : List Expr} {scope : Scope} {own : List (PySem.Str × Nat)} {pos : Pos} {wi : TI} {g : TG} {tt : TT} {te : TE} (hc : X.calm = true) (hN : X.N.Nodup) (hi : PI X tg iter wi) (ok : BlkOk X.N X.env.scope scope own)
    (hg : ∀ (s : Shared) (H : Hp) (C : Addr) (cl : List (PySem.Str × Addr)) (fp : List Addr), PG (X.blk s H scope (compEnvC scope cl C X.env) fp) tg g) (ht : ∀ (s : Shared) (H : Hp) (C : Addr) (cl : List (PySem.Str × Addr)) (fp : List Addr), PTs (X.blk s H scope (compEnvC scope cl C X.env) fp) ifs tt)
    (he : ∀ (s : Shared) (H : Hp) (C : Addr) (cl : List (PySem.Str × Addr)) (fp : List Addr), PE (X.blk s H scope (compEnvC scope cl C X.env) fp) elt te) (hs : ∀ x, foldedSetIterable iter X.env x = pure x := by intro _; rfl) :
    PE X (.SetComp elt [⟨tg, iter, ifs, 0⟩] scope pos) (tScK K wi g tt te (own.map (·.2))) := by
  refine ⟨fun pins s σ H Q I h => ?_⟩
  rw [PpSet.eval_SetComp]
  have hfree : ∀ y ∈ scope.names, y.2 = .free → ∃ c, X.env.cells.lookup y.1 = some c := fun y hy e => (ok.free y hy e).elim (fun k => I.ok.has _ (.inl k)) fun k => I.ok.has _ (.inr k)
  refine wpAny_comprehension_free (use := none) rfl hs (closure_ok hfree) ok.kind (fun y hy e => by rw [ok.uniq y hy, e]) (thn (hi.run pins s σ H _ I h) fun xv s1 hx => thn hx fun itv s2 h2 => ?_)
  obtain ⟨it, fp, tn, J, H2, e, I2, T, st2, f2, q⟩ := h2
  subst e
  refine PpSet.newSet_ok (newEnv_comp ?_)
  generalize hD : s2.heap.objs.size = D
  obtain ⟨W, ⟨m0, w0⟩, turn⟩ := q D (I2.hok.fresh (Nat.le_of_eq hD))
  generalize hs3 : ({ s2 with heap := s2.heap.push { cls := .type "set", dict := none, data := .set #[] 0 (.fresh 0 0 (!X.w.params.followText "set-order")) } } : Shared) = s3
  generalize hH3 : upd H2 D (K.ob D K.z) = H3 at w0
  have h3 : s3.heap = s2.heap.push { cls := .type "set", dict := none, data := .set #[] 0 (.fresh 0 0 (!X.w.params.followText "set-order")) } := by rw [← hs3]
  have I3 : Inv X pins σ H3 s3 := by
    rw [← hs3, ← hH3, ← hD]
    exact I2.laid (t' := s2.toks) (fun b o e => Heap.get?_push_of_some _ e) (Nat.le_refl _) K.new
  have f3 : ∀ b ∈ fp, FpOk X pins H3 b ∧ b < s3.heap.objs.size := fun b hb => by
    obtain ⟨o, e, _⟩ := T.obj _ _ st2 b hb
    have hlt := Heap.lt_size e
    refine ⟨⟨?_, (f2 b hb).2⟩, by rw [h3, Heap.size_push]; exact Nat.lt_succ_of_lt hlt⟩
    rw [← hH3, upd_ne (by rw [← hD]; exact Nat.ne_of_lt hlt)]
    exact (f2 b hb).1
  have st3 : tn 0 s3.heap := T.keep _ _ _ st2 fun b _ o e => by rw [h3]; exact Heap.get?_push_of_some _ e
  have I4 := block_start I3 ok hN f3
  have pg := hg s3 H3 s3.heap.objs.size (cellsFrom (s3.heap.objs.size + 1) scope.names (cloFrom X.env.cells scope.names [])) fp
  have pt := ht s3 H3 s3.heap.objs.size (cellsFrom (s3.heap.objs.size + 1) scope.names (cloFrom X.env.cells scope.names [])) fp
  have pe := he s3 H3 s3.heap.objs.size (cellsFrom (s3.heap.objs.size + 1) scope.names (cloFrom X.env.cells scope.names [])) fp
  show codeAny _ _ (.compStart (.SetComp elt [⟨tg, iter, ifs, 0⟩] scope pos) 0 (.ref it) (.ref D) (compEnvC scope (cellsFrom (s3.heap.objs.size + 1) scope.names (cloFrom X.env.cells scope.names [])) s3.heap.objs.size X.env)) (compPost (model X.prog X.w) X.A X.xe none (fun v s' => ∃ x H', Inv X pins σ H' s' ∧ RelV x v ∧ Q x H') (.ref D) s3.heap.objs.size) { s3 with heap := pushCells (s3.heap.push { cls := .type "dict", data := .dict #[] }) scope.names }
  generalize hce : compEnvC scope (cellsFrom (s3.heap.objs.size + 1) scope.names (cloFrom X.env.cells scope.names [])) s3.heap.objs.size X.env = ce at I4 pg pt pe ⊢
  have cL : ce.locals = s3.heap.objs.size := by subst hce; rfl
  generalize hs4 : ({ s3 with heap := pushCells (s3.heap.push { cls := .type "dict", data := .dict #[] }) scope.names } : Shared) = s4 at I4 ⊢
  have st4 : tn 0 s4.heap := T.keep _ _ _ st3 fun b _ o e => by rw [← hs4]; exact pushCells_keeps _ _ _ _ (Heap.get?_push_of_some _ e)
  -- one of the iterator's objects, as the block sees it
  have stat : ∀ {σ' : L2.St} {H' : Hp} {s' : Shared}, Inv (X.blk s3 H3 scope ce fp) [] σ' H' s' → (∀ b ∈ fp, H' b = none) → ∀ b ∈ fp, FpOk (X.blk s3 H3 scope ce fp) [] H' b := fun {σ' H' s'} I' hn b hb =>
    ⟨hn b hb, (I'.ok.exf b hb).1, I'.ok.exfs b hb, .inl hb, fun x c e => (I'.ok.exf b hb).2 x c e, fun p hp => absurd (show p ∈ ([] : List (Addr × Obj)) ++ [] from hp) (by simp)⟩
  have loop : codeAny (model X.prog X.w) X.A (.compLoop (.SetComp elt [⟨tg, iter, ifs, 0⟩] scope pos) 0 (.ref it) (.ref D) ce) (compPost (model X.prog X.w) X.A X.xe none (fun v s' => ∃ x H', Inv X pins σ H' s' ∧ RelV x v ∧ Q x H') (.ref D) s3.heap.objs.size) s4 := by
    refine PpSet.compLoopS_any (fun n s' => ∃ i H', Inv (X.blk s3 H3 scope ce fp) [] (wipe σ (own.map (·.2))) H' s' ∧ tn i s'.heap ∧ (∀ b ∈ fp, H' b = none) ∧ W i n H') ?_ m0 ⟨0, H3, I4, st4, fun b hb => (f3 b hb).1.1, w0⟩
    rintro n s5 ⟨i, H5, I5, st5, n5, w5⟩
    rcases turn i n H5 w5 with ⟨stop, qq⟩ | ⟨go, Nx, hNx, step⟩
    · refine thnF (T.done (X.blk s3 H3 scope ce fp) rfl rfl rfl hc i [] s5 _ H5 (fun _ _ => False) I5 (stat I5 n5) st5 stop) fun r s6 ⟨hr, I6⟩ => ?_
      subst hr
      have I7 : Inv X pins σ H5 s6 := I3.call' (ch := fp) I6.os I6.base I6.hok I6.bare fun b hb => ⟨(f3 b hb).1.2.2.2.1, (f3 b hb).1.2.1, (f3 b hb).1.2.2.2.2.1, (f3 b hb).1.2.2.2.2.2⟩
      have nC : H5 s3.heap.objs.size = none := by
        have z : H5 ce.locals = none := I6.free
        rwa [cL] at z
      obtain ⟨m, hn, _⟩ := I6.loc
      have hn : s6.heap.Ns ce.locals m := hn
      rw [cL] at hn
      obtain ⟨g0, g1, g2, g3, g4, g5⟩ := I3.fpOk (Nat.le_refl _) nC
      exact ⟨m, hn, fun h'' sb => ⟨.ref D, H5, I7.turned (t' := s6.toks) (fun b o hb e => (sb.2 b hb).trans e) g0 g1 g3 g4 g5, rfl, qq⟩⟩
    · refine thnF (T.item (X.blk s3 H3 scope ce fp) rfl rfl rfl hc i [] s5 _ H5 (fun _ _ => False) I5 (stat I5 n5) st5 go) fun r s6 ⟨u, hr, h6⟩ => ?_
      subst hr
      refine thnF h6 fun _ s7 ⟨x, H7, I7, r7, y7, st7, n7⟩ => ?_
      have I7' := I7.pinned (stat I7 n7) (T.obj _ _ st7)
      refine thnF (pg.run _ s7 _ H7 x u _ I7' r7 (step x H7 y7)) fun _ s8 ⟨σ8, H8, I8, hw8, q8⟩ => thnF (pt.run _ s8 σ8 H8 _ I8 q8) fun b s9 ⟨H9, I9, q9⟩ => ?_
      have fin : ∀ {s' : Shared} {H' : Hp}, Inv (X.blk s3 H3 scope ce fp) ([] ++ pinsAt fp s7.heap) σ8 H' s' → Nx H' → ∃ m, m < n ∧ ∃ i H', Inv (X.blk s3 H3 scope ce fp) [] (wipe σ (own.map (·.2))) H' s' ∧ tn i s'.heap ∧ (∀ b ∈ fp, H' b = none) ∧ W i m H' := fun {s' H'} I' nx => by
        obtain ⟨m', hm, w'⟩ := hNx H' nx
        have pin' : ∀ b ∈ fp, ∀ o, s7.heap.get? b = some o → s'.heap.get? b = some o ∧ H' b = none := fun b hb o e =>
          let z := I'.pin (b, o) (List.mem_append_right _ (List.mem_append_right _ (mem_pinsAt hb e)))
          ⟨z.1, z.2.1⟩
        refine ⟨m', hm, i + 1, H', (I'.unpinned (pins := [])).weak (by rw [← hw8, wipe_length]) (fun j v e => ?_), T.keep _ _ _ st7 fun b hb o e => (pin' b hb o e).1, fun b hb => ?_, w'⟩
        · rw [← hw8] at e
          exact (wipe_some e).1
        · obtain ⟨o, e, _⟩ := T.obj _ _ st7 b hb
          exact (pin' b hb o e).2
      cases b with
      | false =>
        simp only [Bool.false_eq_true, if_false] at q9 ⊢
        exact fin I9 q9
      | true =>
        simp only [if_true] at q9 ⊢
        refine thnF (pe.run _ s9 σ8 H9 _ I9 q9) fun z s10 ⟨yv, H10, I10, r10, tt10, hD10, hz10, nx⟩ => ?_
        exact ka (Y := X.blk s3 H3 scope ce fp) rfl rfl I10 hD10 hz10 r10 fun s11 I11 => fin I11 nx
  exact PpSet.codeAny_compStart_set loop (T.self X.A 0 _ _ _ st4 loop)
/-! ### ints -/
def cntI : List Int → Nat | [] => 0 | k :: l => if k ∈ l then cntI l else cntI l + 1
theorem cntI_le : ∀ l : List Int, cntI l ≤ l.length
  | [] => Nat.le_refl _
  | k :: l => by
    have := cntI_le l
    unfold cntI
    split <;> simp <;> omega
def intKd (X : Cx) : SetKd X where
  T := List Int
  ob D l := SetO X.w D (fun j => decide (j ∈ l)) (cntI l)
  z := []
  put l y := match y with | .int k => k :: l | _ => l
  fits l y := (∃ k, y = .int k) ∧ cntI l + 1 < scanBound
  new := setO_new ((setR_fresh X.w).congr fun j => by simp)
theorem setPut {Y : Cx} {pins : List (Addr × Obj)} {σ : L2.St} {H : Hp} {s : Shared} {E : Value → Shared → Prop} {D : Addr} {l : List Int} {k : Int} {tk : Tok} {Q : Value → Shared → Prop} (I : Inv Y pins σ H s) (hD : H D = some (SetO Y.w D (fun j => decide (j ∈ l)) (cntI l))) (room : cntI l + 1 < scanBound)
    (q : ∀ s', Inv Y pins σ (upd H D (SetO Y.w D (fun j => decide (j ∈ k :: l)) (cntI (k :: l)))) s' → Q .none s') : wpAny (model Y.prog Y.w) Y.A (call (.builtin "set.add") [.ref D, .int k tk]) Q E s := by
  have R := setO_get I hD
  refine setR_add R room fun h' sb new => ?_
  have he : ∃ u, h'.get? D = some u := by
    have ⟨o, _, _, _, ho, _⟩ := new
    exact ⟨o, ho⟩
  have n2 := new.congr (S' := fun j => decide (j ∈ k :: l)) fun j => by
    by_cases a : j = k <;> by_cases b : j ∈ l <;> simp [a, b]
  have e : (if decide (k ∈ l) = true then cntI l else cntI l + 1) = cntI (k :: l) := by
    rw [cntI]
    by_cases a : k ∈ l <;> simp [a]
  rw [e] at n2
  exact q _ (I.write (e := D) (t' := s.toks + 1) (by rw [hD]; trivial) (.inl rfl) (fun b u hb hu => (sb.2 b hb).trans hu) he (setO_new n2))
theorem intAdd : SetAdd X (intKd X) := by
  intro Y pins σ H s E D t y v Q hP hw I hD hf r q
  obtain ⟨⟨k, rfl⟩, room⟩ := hf
  obtain ⟨tk, rfl⟩ := r
  refine setPut (l := t) (k := k) I (by rw [hw]; exact hD) room fun s' I' => q s' ?_
  rw [hw] at I'
  exact I'
def rLenSet (w : World) : List V → Hp → VK → Prop := fun xs H Q => ∃ (a : Addr) (S : Int → Bool) (n : Nat), xs = [V.ref a] ∧ H a = some (SetO w a S n) ∧ Q (.int n) H
theorem cr_lenSet : CallR X (.builtin "len") (rLenSet X.w) := by
  intro pins s σ H xs us Q I r h
  obtain ⟨a, S, n, rfl, ha, q⟩ := h
  rw [Vals.ref1 r]
  obtain ⟨o, es, ep, t, ho, hx, hd, g, nd, hm, hb, hf, hn, hr, hl⟩ := setO_get I ha
  have hb' : es.size < 4096 := hb
  refine call_len_set ho hx hd hf (by omega) ⟨.int n, H, I.tok _, ⟨s.toks + 1, ?_⟩, q⟩
  rw [hn]
def intsD : List D → Option (List Int)
  | [] => some []
  | .int k :: ds => (intsD ds).map fun ks => k :: ks
  | _ => none
theorem intsD_eq : ∀ {ds : List D} {ks : List Int}, intsD ds = some ks → ds = ks.map D.int
  | [], _, h => by cases h; rfl
  | .int k :: ds, _, h => by
    obtain ⟨l, h1, h2⟩ := Option.map_eq_some_iff.mp h
    subst h2
    rw [List.map_cons, ← intsD_eq h1]
  | .non :: _, _, h => by cases h
  | .bl _ :: _, _, h => by cases h
  | .str _ :: _, _, h => by cases h
  | .tup _ :: _, _, h => by cases h
  | .lst _ :: _, _, h => by cases h
  | .dct _ :: _, _, h => by cases h
  | .scr _ :: _, _, h => by cases h
  | .ref _ :: _, _, h => by cases h
theorem intsD_map : ∀ ks : List Int, intsD (ks.map D.int) = some ks
  | [] => rfl
  | k :: ks => by
    show (intsD (ks.map D.int)).map _ = _
    rw [intsD_map ks]; rfl
theorem map_int_inj : ∀ {ks ls : List Int}, ks.map D.int = ls.map D.int → ks = ls
  | [], [], _ => rfl
  | k :: ks, l :: ls, h => by
    have h1 : D.int k :: ks.map D.int = D.int l :: ls.map D.int := h
    injection h1 with a b
    injection a with c
    rw [c, map_int_inj b]
  | [], _ :: _, h => by cases h
  | _ :: _, [], h => by cases h
/-- len({f for .. in ..}), f ints -/
def fLenSc (fi : FI) (is : List Nat) (bd : FB) (t : FT) (f : F) : F := fun env st => (fi env st).bind fun p => (loopC is bd t f p.1 (wipeL env is) p.2).bind fun q => (intsD q.1).bind fun ks => if ks.length ≤ 4000 then some (.int (cntI ks.reverse), q.2) else none
theorem lenScReads {RR : RD} {fi : FI} {is : List Nat} {bd : FB} {g : TG} {t : FT} {f : F} (hg : TgOkR X.K RR g is bd) (σ : L2.St) (H : Hp) (Q : VK) (hh : tD X.K (fLenSc fi is bd t f) σ H Q) :
    tCB (rLenSet X.w) (tCons (tScK (intKd X) (tIR X.K RR fi) g (tT X.K t) (tD X.K f) is) tNil) σ H Q := by
  obtain ⟨r, env, st, d, st', he, hs, hf, q⟩ := hh
  obtain ⟨⟨ds, s1⟩, h1, h2⟩ := Option.bind_eq_some_iff.mp hf
  obtain ⟨⟨zs, s2⟩, h3, h4⟩ := Option.bind_eq_some_iff.mp h2
  obtain ⟨all, h5, h6⟩ := Option.bind_eq_some_iff.mp h4
  by_cases hz : all.length ≤ 4000
  case neg => rw [if_neg hz] at h6; cases h6
  rw [if_pos hz] at h6
  cases h6
  have ez : zs = all.map D.int := intsD_eq h5
  refine ⟨r, env, st, ds, s1, he, hs, h1, fun J r1 H1 e1 q1 j1 Dl hD => ?_⟩
  have m0 := Mkg.start (o := (intKd X).ob Dl []) q1 hD
  refine ⟨fun k m H2 => m = ds.length - k ∧ k ≤ ds.length ∧ ∃ (r2 : Rf) (st2 : Store) (ks : List Int) (ys : List D), Mkg X.K r1 H1 Dl r2 H2 st2 ∧ EnvR X.K r2 H2 (DL.wipeL env is) (wipe σ is) ∧ H2 Dl = some ((intKd X).ob Dl ks.reverse) ∧
    loopC is bd t f (ds.drop k) (DL.wipeL env is) st2 = some (ys, s2) ∧ ks.map D.int ++ ys = zs, ⟨_, rfl, Nat.zero_le _, r1.hide Dl, s1, [], zs, m0, ((he.ext e1).ext m0.ex).wipeL is, upd_same, h3, rfl⟩, ?_⟩
  rintro k m H2 ⟨rfl, hk, r2, st2, ks, ys, mk, wp, hus, hl, hcat⟩
  obtain ⟨jst, jgo⟩ := j1 r2 H2 st2 mk.ex mk.sim
  by_cases hlt : k < ds.length
  case neg =>
    have e : k = ds.length := by omega
    subst e
    rw [List.drop_length] at hl
    cases hl
    rw [List.append_nil, ez] at hcat
    have := map_int_inj hcat
    subst this
    obtain ⟨w1, w2, w3⟩ := mk.show q1 hD
    exact .inl ⟨jst _ (Nat.le_refl _), Dl, (fun j => decide (j ∈ ks.reverse)), cntI ks.reverse, rfl, hus, q (.int (cntI ks.reverse)) (r2.shown Dl) H2 (e1.trans w1) w2 (.int _)⟩
  case pos =>
    have hd : ds[k]? = some ds[k] := List.getElem?_eq_getElem hlt
    rw [List.drop_eq_getElem_cons hlt] at hl
    obtain ⟨vals, hv, hl1⟩ := Option.bind_eq_some_iff.mp hl
    obtain ⟨⟨b, st3⟩, hb, hl2⟩ := Option.bind_eq_some_iff.mp hl1
    obtain ⟨j2, j3⟩ := jgo k _ hd
    refine .inr ⟨j2, fun H' => k + 1 ≤ ds.length ∧ ∃ (r2 : Rf) (st2 : Store) (ks : List Int) (ys : List D), Mkg X.K r1 H1 Dl r2 H' st2 ∧ EnvR X.K r2 H' (DL.wipeL env is) (wipe σ is) ∧ H' Dl = some ((intKd X).ob Dl ks.reverse) ∧
      loopC is bd t f (ds.drop (k + 1)) (DL.wipeL env is) st2 = some (ys, s2) ∧ ks.map D.int ++ ys = zs, fun H' ⟨hk', w⟩ => ⟨ds.length - (k + 1), by omega, rfl, hk', w⟩, fun x H3 y => ?_⟩
    obtain ⟨r3, e3, s3, rx⟩ := j3 x H3 y
    have wp3 := wp.ext e3
    refine hg r3 H3 x _ _ _ vals rx hv fun vs rvs => ⟨wipe_setL σ is vs, ?_⟩
    · have he3 : EnvR X.K r3 H3 (DL.setL is vals (DL.wipeL env is)) (DL.setL is vs (wipe σ is)) := wp3.setL rvs
      refine ⟨r3, _, st2, b, st3, he3, s3, hb, fun r4 H4 e4 s4 => ?_⟩
      cases b with
      | false =>
        rw [if_neg Bool.false_ne_true] at hl2 ⊢
        obtain ⟨m4, k4⟩ := mk.step (e3.trans e4) s4
        exact ⟨hlt, r4, st3, ks, ys, m4, wp3.ext e4, k4.trans hus, hl2, hcat⟩
      | true =>
        rw [if_pos rfl] at hl2 ⊢
        obtain ⟨⟨yd, st4⟩, hy, hl3⟩ := Option.bind_eq_some_iff.mp hl2
        obtain ⟨⟨ys', st5⟩, hl4, hl5⟩ := Option.map_eq_some_iff.mp hl3
        cases hl5
        have hin : yd ∈ zs := by rw [← hcat]; exact List.mem_append_right _ List.mem_cons_self
        rw [ez] at hin
        obtain ⟨kk, _, rfl⟩ := List.mem_map.mp hin
        have hlen : ks.length + 1 ≤ all.length := by
          have := congrArg List.length hcat
          rw [ez] at this
          simp at this
          omega
        refine ⟨r4, _, st3, .int kk, st4, he3.ext e4, s4, hy, fun yv r5 H5 e5 s5 ry => ?_⟩
        have e25 : Ext r2 H2 r5 H5 := (e3.trans e4).trans e5
        obtain ⟨m5, k5⟩ := mk.step e25 s5
        cases ry
        obtain ⟨m6, g1⟩ := m5.put q1 hD ((intKd X).ob Dl (kk :: ks.reverse))
        refine ⟨ks.reverse, k5.trans hus, ⟨⟨kk, rfl⟩, ?_⟩, hlt, r5, st4, ks ++ [kk], ys', m6, ((wp3.ext e4).ext e5).exx g1, by rw [List.reverse_append]; exact upd_same, hl4, by rw [List.map_append, List.append_assoc]; exact hcat⟩
        show cntI ks.reverse + 1 < 4096
        have := cntI_le ks.reverse
        rw [List.length_reverse] at this
        omega
theorem de_lenSc {RR : RD} {elt : Expr} {ifs : List Expr} {scope : Scope} {own : List (Str × Nat)} {p pos pos' : Pos} {fi : FI} {bd : FB} {g : TG} {t : FT} {f : F} {tg iter : Expr} (hgl : Gl X "len") (hml : X.mg "len" = none) (hc : X.calm = true) (hN : X.N.Nodup) (hi : DIR X RR tg iter fi) (ok : BlkOk X.N X.env.scope scope own)
    (tk : TgOkR X.K RR g (own.map (·.2)) bd)
    (hg : ∀ (s : Shared) (H : Hp) (C : Addr) (cl : List (Str × Addr)) (fp : List Addr), PG (X.blk s H scope (compEnvC scope cl C X.env) fp) tg g) (ht : ∀ (s : Shared) (H : Hp) (C : Addr) (cl : List (Str × Addr)) (fp : List Addr), DTs (X.blk s H scope (compEnvC scope cl C X.env) fp) ifs t)
    (he : ∀ (s : Shared) (H : Hp) (C : Addr) (cl : List (Str × Addr)) (fp : List Addr), DE (X.blk s H scope (compEnvC scope cl C X.env) fp) elt f) (hs : ∀ x, foldedSetIterable iter X.env x = pure x := by intro _; rfl)
    (hst : starEach [.SetComp elt [⟨tg, iter, ifs, 0⟩] scope pos] X.env = (false, eval (.SetComp elt [⟨tg, iter, ifs, 0⟩] scope pos) X.env) :: starEach [] X.env := by rfl) (hpl : (backTo pos' (starEach [] X.env)).any (·.1) = false := by rfl) :
    DE X (.Call (.Name "len" p) [.SetComp elt [⟨tg, iter, ifs, 0⟩] scope pos] [] pos') (fLenSc fi (own.map (·.2)) bd t f) :=
  weakE (pe_callB cr_lenSet hgl hml (by decide +kernel) (pa_cons (pe_scK (intKd X) intAdd hc hN hi ok hg ht he hs) pa_nil hst) (by decide) (by decide) hst hpl) fun σ H Q hh => lenScReads tk σ H Q hh
/-! ### sorted(set(t)), t a tuple of ints -/
def ins (k : Int) : List Int → List Int
  | [] => [k]
  | a :: l => if k < a then k :: a :: l else if k = a then a :: l else a :: ins k l
def srt (ks : List Int) : List Int := ks.foldr ins []
theorem ins_mem {k j : Int} : ∀ {l : List Int}, j ∈ ins k l ↔ j = k ∨ j ∈ l
  | [] => by simp [ins]
  | a :: l => by
    unfold ins
    split
    · simp
    · split
      · rename_i e
        subst e
        simp
      · rw [List.mem_cons, ins_mem, List.mem_cons]
        exact ⟨fun h => h.elim (fun e => .inr (.inl e)) fun h => h.elim .inl fun h => .inr (.inr h), fun h => h.elim (fun e => .inr (.inl e)) fun h => h.elim .inl fun h => .inr (.inr h)⟩
theorem ins_pw {k : Int} : ∀ {l : List Int}, l.Pairwise (· < ·) → (ins k l).Pairwise (· < ·)
  | [], _ => by simp [ins]
  | a :: l, h => by
    obtain ⟨h1, h2⟩ := List.pairwise_cons.mp h
    unfold ins
    split
    · rename_i lt
      exact List.pairwise_cons.mpr ⟨fun x hx => (List.mem_cons.mp hx).elim (fun e => e ▸ lt) fun hx => Int.lt_trans lt (h1 x hx), h⟩
    · split
      · exact h
      · refine List.pairwise_cons.mpr ⟨fun x hx => ?_, ins_pw h2⟩
        rcases ins_mem.mp hx with e | hx
        · omega
        · exact h1 x hx
theorem srt_mem {j : Int} : ∀ {ks : List Int}, j ∈ srt ks ↔ j ∈ ks
  | [] => by simp [srt]
  | k :: ks => by
    show j ∈ ins k (srt ks) ↔ _
    rw [ins_mem, srt_mem, List.mem_cons]
theorem srt_pw : ∀ ks : List Int, (srt ks).Pairwise (· < ·)
  | [] => .nil
  | k :: ks => ins_pw (srt_pw ks)
theorem pw_eq : ∀ {xs ys : List Int}, xs.Pairwise (· < ·) → ys.Pairwise (· < ·) → (∀ j, j ∈ xs ↔ j ∈ ys) → xs = ys
  | [], [], _, _, _ => rfl
  | [], y :: _, _, _, h => absurd ((h y).mpr List.mem_cons_self) (by simp)
  | x :: _, [], _, _, h => absurd ((h x).mp List.mem_cons_self) (by simp)
  | x :: xs, y :: ys, hx, hy, h => by
    obtain ⟨x1, x2⟩ := List.pairwise_cons.mp hx
    obtain ⟨y1, y2⟩ := List.pairwise_cons.mp hy
    have e : x = y := by
      rcases List.mem_cons.mp ((h x).mp List.mem_cons_self) with e | m
      · exact e
      · rcases List.mem_cons.mp ((h y).mpr List.mem_cons_self) with e | m2
        · exact e.symm
        · have := y1 x m
          have := x1 y m2
          omega
    subst e
    rw [pw_eq x2 y2 fun j => ⟨fun m => ?_, fun m => ?_⟩]
    · rcases List.mem_cons.mp ((h j).mp (List.mem_cons_of_mem _ m)) with e | q
      · subst e
        exact absurd (x1 j m) (Int.lt_irrefl _)
      · exact q
    · rcases List.mem_cons.mp ((h j).mpr (List.mem_cons_of_mem _ m)) with e | q
      · subst e
        exact absurd (y1 j m) (Int.lt_irrefl _)
      · exact q
def rSetTI (K : PySem.W.Frag) (w : World) : List V → Hp → VK → Prop := fun xs H Q => ∃ (l : Addr) (ns : List Int), xs = [V.ref l] ∧ SqT K H l (ns.map V.int) ∧ ns.length < 64 ∧ ∀ p c, H p = none → c ≤ ns.length → Q (.ref p) (upd H p (SetO w p (fun j => decide (j ∈ ns)) c))
theorem cr_setTI (hc : X.calm = true) : CallR X (.type "set") (rSetTI X.K X.w) := by
  intro pins s σ H xs us Q I r h
  obtain ⟨l, ns, rfl, hs, h64, q⟩ := h
  rw [Vals.ref1 r]
  obtain ⟨its, rv, p, _⟩ := I.tuple hs
  refine call_set_tupI ns (I.ok.hd hc) p (by simpa using ints_of_vals rv) (show ns.length + 1 < 4096 by omega) fun h' tk c new cle kk => ?_
  exact ⟨.ref _, upd H s.heap.objs.size (SetO X.w s.heap.objs.size (fun j => decide (j ∈ ns)) c), I.laid (t' := tk) kk (Nat.le_refl _) (setO_new new), rfl, q _ c (I.hok.fresh (Nat.le_refl _)) cle⟩
theorem RepL.intsV {r : Rf} {H : Hp} : ∀ {vs : List V} {ks : List Int}, RepL X.K r H vs (ks.map D.int) → vs = ks.map V.int
  | _, [], h => by cases h; rfl
  | _, k :: ks, h => by
    cases h with
    | cons a b =>
      cases a
      rw [RepL.intsV b]; rfl
theorem ints_repL {r : Rf} {H : Hp} : ∀ ks : List Int, RepL X.K r H (ks.map V.int) (ks.map D.int)
  | [] => .nil
  | k :: ks => .cons (.int k) (ints_repL ks)
def fSortSet (f : F) : F := fun env st => (f env st).bind fun p => match p.1 with
  | .tup ds => (intsD ds).bind fun ks => if ks.length < 64 then some (.lst ((srt ks).map .int), p.2) else none
  | _ => none
theorem de_sortSet {e : Expr} {f : F} {p1 p2 q1 q2 : Pos} (hc : X.calm = true) (h : DE X e f) (hg : Gl X "sorted") (hm : X.mg "sorted" = none) (hg2 : Gl X "set") (hm2 : X.mg "set" = none)
    (h1 : starEach [Expr.Call (.Name "set" p2) [e] [] q2] X.env = (false, eval (Expr.Call (.Name "set" p2) [e] [] q2) X.env) :: starEach [] X.env := by rfl) (h2 : (backTo q1 (starEach [] X.env)).any (·.1) = false := by rfl)
    (h3 : starEach [e] X.env = (false, eval e X.env) :: starEach [] X.env := by rfl) (h4 : (backTo q2 (starEach [] X.env)).any (·.1) = false := by rfl) :
    DE X (.Call (.Name "sorted" p1) [.Call (.Name "set" p2) [e] [] q2] [] q1) (fSortSet f) :=
  weakE (pe_callB (cr_sortedSet hc) hg hm (by decide +kernel) (pa_cons (pe_callTy (cr_setTI hc) hg2 hm2 (by decide +kernel) (pa_cons h pa_nil h3) (by decide) (by decide) h3 h4) pa_nil h1) (by decide) (by decide) h1 h2) fun σ H Q hh => by
    obtain ⟨r, env, st, d, st', he, hs, hf, q⟩ := hh
    obtain ⟨⟨x, s1⟩, e1, e2⟩ := Option.bind_eq_some_iff.mp hf
    cases x with
    | tup ds =>
      obtain ⟨ks, e3, e4⟩ := Option.bind_eq_some_iff.mp (show ((intsD ds).bind fun ks => if ks.length < 64 then some (D.lst ((srt ks).map .int), s1) else none) = some (d, st') from e2)
      by_cases hz : ks.length < 64
      case neg => rw [if_neg hz] at e4; cases e4
      rw [if_pos hz] at e4
      cases e4
      have ed := intsD_eq e3
      subst ed
      refine ⟨r, env, st, .tup (ks.map .int), st', he, hs, e1, fun v r1 H1 x1 q1 p1 => ?_⟩
      obtain ⟨a, xs, rfl, sq, rl⟩ := p1.sqT
      rw [RepL.intsV rl] at sq
      refine ⟨a, ks, rfl, sq, hz, fun p c hp cle => ⟨p, _, c, rfl, upd_same, by omega, fun ns' p' pw mem _ hp' => ?_⟩⟩
      have en : ns' = srt ks := pw_eq pw (srt_pw ks) fun j => by rw [mem j, srt_mem]; exact decide_eq_true_iff
      subst en
      have sm1 : Same H1 (upd H1 p (SetO X.w p (fun j => decide (j ∈ ks)) c)) := same_alloc hp
      have sm2 := same_alloc (o := HO.lst ((srt ks).map V.int)) hp'
      have q2 := q1.same sm1
      exact q _ r1 _ (x1.trans ((q1.ext sm1).trans (q2.ext sm2))) (q2.same sm2) (.lst upd_same (q2.free hp') (ints_repL _))
    | _ => cases e2
/-! ### tuple(range(n)) -/
def fTupRg (f : F) : F := fun env st => (f env st).bind fun p => match p.1 with
  | .int n => if 0 ≤ n ∧ n ≤ 1000000 then some (.tup (rg 0 n), p.2) else none
  | _ => none
theorem repL_map {r : Rf} {H : Hp} {α : Type} {f : α → V} {g : α → D} (h : ∀ a, Rep X.K r H (f a) (g a)) : ∀ l : List α, RepL X.K r H (l.map f) (l.map g)
  | [] => .nil
  | a :: l => .cons (h a) (repL_map h l)
theorem de_tupRg {e : Expr} {f : F} {p1 p2 q1 q2 : Pos} (hc : X.calm = true) (h : DE X e f) (hg : Gl X "tuple") (hm : X.mg "tuple" = none) (hg2 : Gl X "range") (hm2 : X.mg "range" = none)
    (h1 : starEach [Expr.Call (.Name "range" p2) [e] [] q2] X.env = (false, eval (Expr.Call (.Name "range" p2) [e] [] q2) X.env) :: starEach [] X.env := by rfl)
    (h3 : starEach [e] X.env = (false, eval e X.env) :: starEach [] X.env := by rfl) :
    DE X (.Call (.Name "tuple" p1) [.Call (.Name "range" p2) [e] [] q2] [] q1) (fTupRg f) :=
  weakE (pe_tupRg hc hg hm (prg_1 hg2 hm2 h h3) h1) fun σ H Q hh => by
    obtain ⟨r, env, st, d, st', he, hs, hf, q⟩ := hh
    obtain ⟨⟨x, s1⟩, e1, e2⟩ := Option.bind_eq_some_iff.mp hf
    cases x with
    | int n =>
      have e4 : (if 0 ≤ n ∧ n ≤ 1000000 then some (D.tup (rg 0 n), s1) else none) = some (d, st') := e2
      by_cases hz : 0 ≤ n ∧ n ≤ 1000000
      case neg => rw [if_neg hz] at e4; cases e4
      rw [if_pos hz] at e4
      cases e4
      refine ⟨r, env, st, .int n, st', he, hs, e1, fun v r1 H1 x1 q1 p1 => ?_⟩
      cases p1
      refine ⟨n, rfl, .of_le (by omega) (by omega) (by omega) hz.1, fun p hp => ?_⟩
      have sm : Same H1 (upd H1 p (.tup (rgV 0 n))) := same_alloc hp
      exact q _ r1 _ (x1.trans (q1.ext sm)) (q1.same sm) (.tupP upd_same (q1.free hp) (repL_map (fun i => .int _) _))
    | _ => cases e2
/-! ### x in xs, xs a list of the store -/
def fInL (neg : Bool) (fa fb : F) : F := fun env st => (fa env st).bind fun p => (fb env p.2).bind fun q => match q.1 with
  | .ref n => (match q.2[n]? with | some (.lst ds) => if flatD p.1 = true then (anyF p.1 ds).map fun b => (.bl (if neg = true then !b else b), q.2) else none | _ => none)
  | _ => none
theorem inL_reads {neg : Bool} {fa fb : F} (σ : L2.St) (H : Hp) (Q : VK) (h : tD X.K (fInL neg fa fb) σ H Q) : tOp (rIn X.K neg) (tD X.K fa) (tD X.K fb) σ H Q := by
  obtain ⟨r, env, st, d, st', he, hs, hf, q⟩ := h
  obtain ⟨⟨x, s1⟩, h1, hf1⟩ := Option.bind_eq_some_iff.mp hf
  obtain ⟨⟨y, s2⟩, h2, hf2⟩ := Option.bind_eq_some_iff.mp hf1
  cases y with
  | ref n =>
    have hf3 : (match s2[n]? with | some (.lst ds) => if flatD x = true then (anyF x ds).map fun b => (D.bl (if neg = true then !b else b), s2) else none | _ => none) = some (d, st') := hf2
    split at hf3
    · rename_i ds hst
      by_cases fl : flatD x = true
      case neg => rw [if_neg fl] at hf3; cases hf3
      rw [if_pos fl] at hf3
      obtain ⟨k, h3, h4⟩ := Option.map_eq_some_iff.mp hf3
      cases h4
      refine two he hs h1 h2 fun u v r' H' e1 q1 pu pv => ?_
      obtain ⟨a, rfl, ha⟩ := pv.refI
      obtain ⟨av, xs, hx, l⟩ := q1.ob _ a _ ha hst
      obtain ⟨z1, z2⟩ := anyF_rep pu l h3
      refine ⟨_, _, rfl, .inl (.of hx), flat_rep pu fl, z2, ?_⟩
      rw [z1]
      exact q _ r' H' e1 q1 (.bl _)
    · cases hf3
  | _ => cases hf2
theorem de_inL {a b : Expr} {fa fb : F} {pos : Pos} {k : Nat} (g : GX X k) (ha : DE X a fa) (hb : DE X b fb) (hm : behindInMarks .In b = false := by with_unfolding_all rfl) : DE X (.Compare a [.In] [b] pos) (fInL false fa fb) :=
  weakE (pe_cmpR op_in_seq ha hb hm) fun σ H Q h => inL_reads σ H Q h
theorem dt_inL {a b : Expr} {fa fb : F} {pos : Pos} {k : Nat} (g : GX X k) (ha : DE X a fa) (hb : DE X b fb) (hm : behindInMarks .In b = false := by with_unfolding_all rfl) : DT X (.Compare a [.In] [b] pos) (fTest (fInL false fa fb)) :=
  weakT (pt_cmpR op_in_seq ha hb hm) fun σ H Q h => inL_reads σ H (fun x H1 => ∃ c, x = .bl c ∧ Q c H1) (testReads σ H Q h)
theorem de_notinL {a b : Expr} {fa fb : F} {pos : Pos} {k : Nat} (g : GX X k) (ha : DE X a fa) (hb : DE X b fb) (hm : behindInMarks .NotIn b = false := by with_unfolding_all rfl) : DE X (.Compare a [.NotIn] [b] pos) (fInL true fa fb) :=
  weakE (pe_cmpR op_notIn_seq ha hb hm) fun σ H Q h => inL_reads σ H Q h
theorem dt_notinL {a b : Expr} {fa fb : F} {pos : Pos} {k : Nat} (g : GX X k) (ha : DE X a fa) (hb : DE X b fb) (hm : behindInMarks .NotIn b = false := by with_unfolding_all rfl) : DT X (.Compare a [.NotIn] [b] pos) (fTest (fInL true fa fb)) :=
  weakT (pt_cmpR op_notIn_seq ha hb hm) fun σ H Q h => inL_reads σ H (fun x H1 => ∃ c, x = .bl c ∧ Q c H1) (testReads σ H Q h)
end
end DL
/-! Dicts: frozen, read, walked, locked and walked, comprehended, copied, sorted. -/
namespace DL
open PySem PySem.Spec PyProof.Rows L2 TL
variable {K : PySem.W.Frag}
/-! ### what a dict holds -/
def dctAt : D → Store → Option (List (Key × D)) := fun d st => match d with
  | .dct kvs => some kvs
  | .ref n => (match st[n]? with | some (.dct kvs) => some kvs | some (.ldc kvs) => some kvs | _ => none)
  | _ => none
theorem dctRd {r : Rf} {H : Hp} {v : V} {d : D} {st : Store} {kvs : List (Key × D)} (h : Rep K r H v d) (si : Sim K r H st) (e : dctAt d st = some kvs) : ∃ a xs, v = .ref a ∧ Rd H a (.dK xs) ∧ RepK K r H xs kvs := by
  cases d with
  | dct ks =>
    cases e
    cases h with
    | dct a b c => exact ⟨_, _, rfl, .inr ⟨_, a⟩, c⟩
  | ref n =>
    obtain ⟨a, rfl, ha⟩ := h.refI
    have e' : (match st[n]? with | some (.dct kvs) => some kvs | some (.ldc kvs) => some kvs | _ => none) = some kvs := e
    split at e'
    · rename_i ks hst
      cases e'
      obtain ⟨av, xs, hx, l⟩ := si.ob _ a _ ha hst
      exact ⟨a, xs, rfl, .inl hx, l⟩
    · rename_i ks hst
      cases e'
      obtain ⟨av, lk, o, xs, hx, l⟩ := si.ob _ a _ ha hst
      exact ⟨a, xs, rfl, .inr ⟨o, hx⟩, l⟩
    · cases e'
  | _ => cases e
theorem RepK.valN {r : Rf} {H : Hp} {k : Key} : ∀ {vs : List (Key × V)} {ds : List (Key × D)}, RepK K r H vs ds → valD ds k = none → valV vs k = none
  | _, _, .nil, _ => rfl
  | _, _, .cons (k := k0) a b, h => by
    unfold valD at h
    unfold valV
    rw [List.find?_cons] at h ⊢
    by_cases z : k0 = k
    · simp [z] at h
    · have zz : decide (k0 = k) = false := decide_eq_false z
      simp only [zz] at h ⊢
      exact RepK.valN b h
/-- the value at a key, or none, on both levels -/
theorem RepK.opt {r : Rf} {H : Hp} {k : Key} {vs : List (Key × V)} {ds : List (Key × D)} (l : RepK K r H vs ds) : (valD ds k = none ∧ valV vs k = none) ∨ ∃ d v, valD ds k = some d ∧ valV vs k = some v ∧ Rep K r H v d := by
  cases e : valD ds k with
  | none => exact .inl ⟨rfl, l.valN e⟩
  | some d =>
    obtain ⟨v, hv, rv⟩ := l.val e
    exact .inr ⟨d, v, rfl, hv, rv⟩
def dropD (kvs : List (Key × D)) (k : Key) : List (Key × D) := kvs.filter fun kv => decide (kv.1 ≠ k)
theorem RepK.drop {r : Rf} {H : Hp} {k : Key} : ∀ {vs : List (Key × V)} {ds : List (Key × D)}, RepK K r H vs ds → RepK K r H (dropK vs k) (dropD ds k)
  | _, _, .nil => .nil
  | _, _, .cons (k := k0) a b => by
    unfold dropK dropD
    rw [List.filter_cons, List.filter_cons]
    by_cases z : k0 = k
    · have : decide (k0 ≠ k) = false := decide_eq_false (fun q => q z)
      simp only [this]
      exact RepK.drop b
    · have : decide (k0 ≠ k) = true := decide_eq_true z
      simp only [this, if_true]
      exact .cons a (RepK.drop b)
theorem RepK.keys {r : Rf} {H : Hp} : ∀ {vs : List (Key × V)} {ds : List (Key × D)}, RepK K r H vs ds → vs.map (·.1) = ds.map (·.1)
  | _, _, .nil => rfl
  | _, _, .cons a b => by rw [List.map_cons, List.map_cons, RepK.keys b]
theorem RepK.get {r : Rf} {H : Hp} : ∀ {vs : List (Key × V)} {ds : List (Key × D)}, RepK K r H vs ds → ∀ {i : Nat} {k : Key} {d : D}, ds[i]? = some (k, d) → ∃ v, vs[i]? = some (k, v) ∧ Rep K r H v d
  | _, _, .nil, i, k, d, h => by simp at h
  | _, _, .cons a b, 0, k, d, h => by
    have e := Option.some.inj h
    cases e
    exact ⟨_, rfl, a⟩
  | _, _, .cons a b, i + 1, k, d, h => RepK.get b (i := i) h
def keyD : Key → D | .inl i => .int i | .inr x => .str x
theorem keyD_rep {r : Rf} {H : Hp} (k : Key) : Rep K r H (kV k) (keyD k) := by cases k with | inl i => exact .int i | inr x => exact .str x
section
variable {X : Cx} {W : WXd} {tg iter : Expr}
/-! ### d.get(k), d.get(k, x), k in d -/
def fGet1 (fo fk : F) : F := fun env st => (fo env st).bind fun p => (dctAt p.1 p.2).bind fun _ => (fk env p.2).bind fun q => (asKey q.1).bind fun k => (dctAt p.1 q.2).map fun kvs => ((valD kvs k).getD .non, q.2)
theorem de_get1 {o e : Expr} {fo fk : F} {apos cpos : Pos} {k : Nat} (g : GX X k) (ho : DE X o fo) (he : DE X e fk) (m : M1 X o "get" apos e cpos) : DE X (.Call (.Attribute o "get" apos) [e] [] cpos) (fGet1 fo fk) :=
  weakE (pe_dget1 (hu_of g.room) ho he m) fun σ H Q hh => by
  obtain ⟨r, env, st, d, st', he, hs, hf, q⟩ := hh
  obtain ⟨⟨x, s1⟩, h1, hf1⟩ := Option.bind_eq_some_iff.mp hf
  obtain ⟨ks, h2, hf2⟩ := Option.bind_eq_some_iff.mp hf1
  obtain ⟨⟨y, s2⟩, h3, hf3⟩ := Option.bind_eq_some_iff.mp hf2
  obtain ⟨kk, h4, hf4⟩ := Option.bind_eq_some_iff.mp hf3
  obtain ⟨kvs, h5, hf5⟩ := Option.map_eq_some_iff.mp hf4
  cases hf5
  refine ⟨r, env, st, x, s1, he, hs, h1, fun u r1 H1 e1 q1 p1 => ?_⟩
  obtain ⟨a, xs, rfl, rd, l⟩ := dctRd p1 q1 h2
  refine ⟨a, rfl, .inl ⟨xs, rd⟩, r1, env, s1, y, _, he.ext e1, q1, h3, fun v r2 H2 e2 q2 p2 => ?_⟩
  obtain ⟨a', ys, ea, rd2, l2⟩ := dctRd (p1.ext e2) q2 h5
  cases ea
  have ev := asKey_rep p2 h4
  subst ev
  refine ⟨_, dget_rd rd2, ?_⟩
  rcases l2.opt (k := kk) with ⟨n1, n2⟩ | ⟨d, v, n1, n2, rv⟩
  · rw [n2]
    rw [n1] at q
    exact q .non r2 H2 (e1.trans e2) q2 .non
  · rw [n2]
    rw [n1] at q
    exact q v r2 H2 (e1.trans e2) q2 rv
def fGet2 (fo fk fx : F) : F := fun env st => (fo env st).bind fun p => (dctAt p.1 p.2).bind fun _ => (fk env p.2).bind fun q => (asKey q.1).bind fun k => (fx env q.2).bind fun w => (dctAt p.1 w.2).map fun kvs => ((valD kvs k).getD w.1, w.2)
theorem de_get2 {o e f : Expr} {fo fk fx : F} {apos cpos : Pos} {k : Nat} (g : GX X k) (ho : DE X o fo) (he : DE X e fk) (hx : DE X f fx) (m : M2 X o "get" apos e f cpos) : DE X (.Call (.Attribute o "get" apos) [e, f] [] cpos) (fGet2 fo fk fx) :=
  weakE (pe_dget2 (hu_of g.room) ho he hx m) fun σ H Q hh => by
  obtain ⟨r, env, st, d, st', he, hs, hf, q⟩ := hh
  obtain ⟨⟨x, s1⟩, h1, hf1⟩ := Option.bind_eq_some_iff.mp hf
  obtain ⟨ks, h2, hf2⟩ := Option.bind_eq_some_iff.mp hf1
  obtain ⟨⟨y, s2⟩, h3, hf3⟩ := Option.bind_eq_some_iff.mp hf2
  obtain ⟨kk, h4, hf4⟩ := Option.bind_eq_some_iff.mp hf3
  obtain ⟨⟨z, s3⟩, h6, hf6⟩ := Option.bind_eq_some_iff.mp hf4
  obtain ⟨kvs, h5, hf5⟩ := Option.map_eq_some_iff.mp hf6
  cases hf5
  refine ⟨r, env, st, x, s1, he, hs, h1, fun u r1 H1 e1 q1 p1 => ?_⟩
  obtain ⟨a, xs, rfl, rd, l⟩ := dctRd p1 q1 h2
  refine ⟨a, rfl, .inl ⟨xs, rd⟩, r1, env, s1, y, s2, he.ext e1, q1, h3, fun v r2 H2 e2 q2 p2 => ⟨r2, env, s2, z, _, (he.ext e1).ext e2, q2, h6, fun w r3 H3 e3 q3 p3 => ?_⟩⟩
  obtain ⟨a', ys, ea, rd2, l2⟩ := dctRd ((p1.ext e2).ext e3) q3 h5
  cases ea
  have ev := asKey_rep p2 h4
  subst ev
  refine ⟨_, dget_rd rd2, ?_⟩
  rcases l2.opt (k := kk) with ⟨n1, n2⟩ | ⟨d, v, n1, n2, rv⟩
  · rw [n2]
    rw [n1] at q
    exact q w r3 H3 ((e1.trans e2).trans e3) q3 p3
  · rw [n2]
    rw [n1] at q
    exact q v r3 H3 ((e1.trans e2).trans e3) q3 rv
def fInD (neg : Bool) (fk fo : F) : F := fun env st => (fk env st).bind fun q => (asKey q.1).bind fun k => (fo env q.2).bind fun p => (dctAt p.1 p.2).map fun kvs => (.bl (if neg = true then !(valD kvs k).isSome else (valD kvs k).isSome), p.2)
theorem inD_reads {neg : Bool} {fk fo : F} {R : VK → Option V → Hp → Prop} (hR : ∀ Q o H, Q (.bl (if neg = true then !o.isSome else o.isSome)) H → R Q o H) (σ : L2.St) (H : Hp) (Q : VK) (h : tD K (fInD neg fk fo) σ H Q) :
    tD K fk σ H fun y H1 => tD K fo σ H1 fun x H2 => ∃ a o, x = .ref a ∧ DGet H2 a y o ∧ R Q o H2 := by
  obtain ⟨r, env, st, d, st', he, hs, hf, q⟩ := h
  obtain ⟨⟨y, s1⟩, h1, hf1⟩ := Option.bind_eq_some_iff.mp hf
  obtain ⟨kk, h4, hf4⟩ := Option.bind_eq_some_iff.mp hf1
  obtain ⟨⟨x, s2⟩, h3, hf3⟩ := Option.bind_eq_some_iff.mp hf4
  obtain ⟨kvs, h5, hf5⟩ := Option.map_eq_some_iff.mp hf3
  cases hf5
  refine two he hs h1 h3 fun u v r' H' e1 q1 pu pv => ?_
  obtain ⟨a, xs, rfl, rd, l⟩ := dctRd pv q1 h5
  have ev := asKey_rep pu h4
  subst ev
  refine ⟨a, _, rfl, dget_rd rd, hR _ _ _ ?_⟩
  have same : (valV xs kk).isSome = (valD kvs kk).isSome := by
    rcases l.opt (k := kk) with ⟨n1, n2⟩ | ⟨d, v, n1, n2, rv⟩
    · rw [n1, n2]; rfl
    · rw [n1, n2]; rfl
  rw [same]
  exact q _ r' H' e1 q1 (.bl _)
theorem de_inD {a b : Expr} {fa fb : F} {pos : Pos} {k : Nat} (g : GX X k) (ha : DE X a fa) (hb : DE X b fb) (hm : behindInMarks .In b = false := by with_unfolding_all rfl) : DE X (.Compare a [.In] [b] pos) (fInD false fa fb) :=
  weakE (pe_cmp (pc_din (hu_of g.room) ha hb) hm) fun σ H Q h => inD_reads (fun Q o H h => h) σ H Q h
theorem de_notinD {a b : Expr} {fa fb : F} {pos : Pos} {k : Nat} (g : GX X k) (ha : DE X a fa) (hb : DE X b fb) (hm : behindInMarks .NotIn b = false := by with_unfolding_all rfl) : DE X (.Compare a [.NotIn] [b] pos) (fInD true fa fb) :=
  weakE (pe_cmp (pc_dnotin (hu_of g.room) ha hb) hm) fun σ H Q h => inD_reads (fun Q o H h => h) σ H Q h
theorem dt_inD {a b : Expr} {fa fb : F} {pos : Pos} {k : Nat} (g : GX X k) (ha : DE X a fa) (hb : DE X b fb) (hm : behindInMarks .In b = false := by with_unfolding_all rfl) : DT X (.Compare a [.In] [b] pos) (fTest (fInD false fa fb)) :=
  weakT (pt_cmp (pc_din (hu_of g.room) ha hb) hm) fun σ H Q h => inD_reads (fun Q o H h => h) σ H (fun x H1 => ∃ c, x = .bl c ∧ Q c H1) (testReads σ H Q h)
theorem dt_notinD {a b : Expr} {fa fb : F} {pos : Pos} {k : Nat} (g : GX X k) (ha : DE X a fa) (hb : DE X b fb) (hm : behindInMarks .NotIn b = false := by with_unfolding_all rfl) : DT X (.Compare a [.NotIn] [b] pos) (fTest (fInD true fa fb)) :=
  weakT (pt_cmp (pc_dnotin (hu_of g.room) ha hb) hm) fun σ H Q h => inD_reads (fun Q o H h => h) σ H (fun x H1 => ∃ c, x = .bl c ∧ Q c H1) (testReads σ H Q h)
/-! ### {} into the store -/
def fNewD : F := fun _ st => some (.ref st.length, st ++ [.dct []])
theorem de_newD {pos : Pos} : DE X (.Dict [] [] pos) fNewD := weakE pe_dnewK fun σ H Q hh => by
  obtain ⟨r, env, st, d, st', he, hs, hf, q⟩ := hh
  cases hf
  intro p hp
  obtain ⟨e0, hd0⟩ := hideNew (o := .dK []) hs hp
  have ee : ObR X.K ((r.hide p).add p) (upd (upd H p (.dK [])) p (.dK [])) p (.dct []) := ⟨hd0.av, [], upd_same, .nil⟩
  obtain ⟨w1, w2, w3⟩ := hd0.add (o := .dK []) (ob := .dct []) e0 hs hp ee
  have key := q (.ref p) _ _ w1 w2 (w3 _ rfl)
  rw [upd_upd] at key
  exact key
/-! ### d.pop(k, x) -/
def fPop2 (fo fk fx : F) : F := fun env st => (fo env st).bind fun p => (dctAt p.1 p.2).bind fun _ => (fk env p.2).bind fun q => (asKey q.1).bind fun k => (fx env q.2).bind fun w => match p.1 with
  | .ref n => (match w.2[n]? with
    | some (.dct kvs) => (match valD kvs k with | some d => some (d, w.2.set n (.dct (dropD kvs k))) | none => some (w.1, w.2))
    | _ => none)
  | _ => none
theorem de_pop2 {o e f : Expr} {fo fk fx : F} {apos cpos : Pos} (ho : DE X o fo) (he : DE X e fk) (hx : DE X f fx) (m : M2 X o "pop" apos e f cpos) : DE X (.Call (.Attribute o "pop" apos) [e, f] [] cpos) (fPop2 fo fk fx) :=
  weakE (pe_dpop2 ho he hx m) fun σ H Q hh => by
  obtain ⟨r, env, st, d, st', he, hs, hf, q⟩ := hh
  obtain ⟨⟨x, s1⟩, h1, hf1⟩ := Option.bind_eq_some_iff.mp hf
  obtain ⟨ks, h2, hf2⟩ := Option.bind_eq_some_iff.mp hf1
  obtain ⟨⟨y, s2⟩, h3, hf3⟩ := Option.bind_eq_some_iff.mp hf2
  obtain ⟨kk, h4, hf4⟩ := Option.bind_eq_some_iff.mp hf3
  obtain ⟨⟨z, s3⟩, h6, hf6⟩ := Option.bind_eq_some_iff.mp hf4
  cases x with
  | ref n =>
    have hf7 : (match s3[n]? with | some (.dct kvs) => (match valD kvs kk with | some d => some (d, s3.set n (.dct (dropD kvs kk))) | none => some (z, s3)) | _ => none) = some (d, st') := hf6
    split at hf7
    · rename_i kvs hst
      refine ⟨r, env, st, _, s1, he, hs, h1, fun u r1 H1 e1 q1 p1 => ?_⟩
      obtain ⟨a, xs, rfl, rd, l⟩ := dctRd p1 q1 h2
      refine ⟨a, rfl, .inl ⟨xs, rd⟩, r1, env, s1, y, s2, he.ext e1, q1, h3, fun v r2 H2 e2 q2 p2 => ⟨r2, env, s2, z, s3, (he.ext e1).ext e2, q2, h6, fun w r3 H3 e3 q3 p3 => ?_⟩⟩
      obtain ⟨a', ea, ha⟩ := ((p1.ext e2).ext e3).refI
      cases ea
      obtain ⟨av, ys, hx, l2⟩ := q3.ob _ a _ ha hst
      have ev := asKey_rep p2 h4
      subst ev
      refine ⟨ys, kk, hx, rfl, fun v hv => ?_, fun hv => ?_⟩
      · rcases l2.opt (k := kk) with ⟨n1, n2⟩ | ⟨d', v', n1, n2, rv⟩
        · rw [n2] at hv; cases hv
        · rw [n2] at hv
          cases hv
          rw [n1] at hf7
          cases hf7
          have ee : Ex r3 H3 r3 (upd H3 a (.dK (dropK ys kk))) := ⟨⟨[], by simp⟩, fun b o w m => by rw [upd_ne (fun y => m (by rw [y]; exact av))]; exact w, fun b w m => absurd w m⟩
          obtain ⟨w1, w2⟩ := q3.set (o := .dK (dropK ys kk)) (ob := .dct (dropD kvs kk)) ha av ⟨av, _, upd_same, (l2.drop).ex ee⟩ (fun _ _ z => by rw [hx] at z; cases z)
          exact q v r3 _ (((e1.trans e2).trans e3).trans w1) w2 (rv.ext w1)
      · rcases l2.opt (k := kk) with ⟨n1, n2⟩ | ⟨d', v', n1, n2, rv⟩
        · rw [n1] at hf7
          cases hf7
          exact q w r3 H3 ((e1.trans e2).trans e3) q3 p3
        · rw [n2] at hv; cases hv
    · cases hf7
  | _ => cases hf6
/-! ### a dict of the store becomes a value, for good -/
theorem frz_sim {r : Rf} {H : Hp} {st : Store} (s : Sim K r H st) {n : Nat} {a : Addr} {xs : List (Key × V)} {kvs : List (Key × D)} (o : Obj) (ha : r.adr[n]? = some a) (hx : H a = some (.dK xs)) (l : RepK K r H xs kvs) (av : r.av a) :
    Ext r H (r.drop a) (upd H a (.frz o (.dK xs))) ∧ Sim K (r.drop a) (upd H a (.frz o (.dK xs))) (st.set n .dead) ∧ Rep K (r.drop a) (upd H a (.frz o (.dK xs))) (.ref a) (.dct kvs) := by
  have hm := List.mem_of_getElem? ha
  have nlk : ∀ q, r.lk q → q ≠ a := fun q z y => by
    obtain ⟨o, u, h⟩ := s.lkd q z
    rw [y, hx] at h
    cases h
  have e : Ext r H (r.drop a) (upd H a (.frz o (.dK xs))) := ⟨⟨⟨[], by simp [Rf.drop]⟩, fun b u h n => by rw [upd_ne (fun y => n (by rw [y]; exact av))]; exact h, fun b h n => absurd h.1 n⟩, fun b v n => ⟨by rw [upd_ne (fun y => n (by rw [y]; exact hm))], ⟨v, fun y => n (by rw [y]; exact hm)⟩, n⟩, fun _ => Iff.rfl, fun b z => by rw [upd_ne (nlk b z)]⟩
  refine ⟨e, ⟨by rw [List.length_set]; exact s.len, s.nd, fun m b x h1 h2 => ?_, fun b v => ?_, fun b v => ?_, fun b v => by rw [upd_ne (nlk b v)]; exact s.lkd b v⟩, .dct upd_same (fun z => z.2 rfl) (l.ext e)⟩
  · by_cases z : n = m
    · subst z
      by_cases hl : n < st.length
      · rw [List.getElem?_set_self hl] at h2
        cases h2
        trivial
      · rw [List.getElem?_eq_none (by rw [List.length_set]; omega)] at h2
        cases h2
    · rw [List.getElem?_set_ne z] at h2
      have nb : b ≠ a := fun y => z (by
        subst y
        obtain ⟨l1, e1⟩ := List.getElem?_eq_some_iff.mp ha
        obtain ⟨l2, e2⟩ := List.getElem?_eq_some_iff.mp h1
        exact (List.getElem_inj s.nd).mp (e1.trans e2.symm))
      exact (s.ob m b x h1 h2).ex e.toEx fun v => ⟨by rw [upd_ne nb], v, nb⟩
  · by_cases z : b = a
    · exact ⟨_, by rw [z]; exact upd_same⟩
    · rw [upd_ne z]; exact s.there b v.1
  · by_cases z : b = a
    · exact ⟨_, by rw [z]; exact upd_same⟩
    · rw [upd_ne z]; exact s.old b v
def fFrz (f : F) : F := fun env st => (f env st).bind fun p => match p.1 with
  | .ref n => (match p.2[n]? with | some (.dct kvs) => some (.dct kvs, p.2.set n .dead) | _ => none)
  | _ => none
theorem de_frz {e : Expr} {f : F} (h : DE X e f) : DE X e (fFrz f) := weakE (pe_frz h) fun σ H Q hh => by
  obtain ⟨r, env, st, d, st', he, hs, hf, q⟩ := hh
  obtain ⟨⟨x, s1⟩, h1, h2⟩ := Option.bind_eq_some_iff.mp hf
  cases x with
  | ref n =>
    have h2' : (match s1[n]? with | some (.dct kvs) => some (D.dct kvs, s1.set n .dead) | _ => none) = some (d, st') := h2
    split at h2'
    · rename_i kvs hst
      cases h2'
      refine ⟨r, env, st, _, s1, he, hs, h1, fun v r1 H1 e1 q1 p1 => ?_⟩
      obtain ⟨a, rfl, ha⟩ := p1.refI
      obtain ⟨av, xs, hx, l⟩ := q1.ob _ a _ ha hst
      refine ⟨a, _, rfl, hx, trivial, fun o => ?_⟩
      obtain ⟨w1, w2, w3⟩ := frz_sim q1 o ha hx l av
      exact q _ _ _ (e1.trans w1) w2 w3
    · cases h2'
  | _ => cases h2
/-- the dict in slot i, ahead of a statement -/
theorem ps_frz {s : Stmt} {t : TS} (h : PS X s t) : PS X s (fun D σ H => ∃ d u, H d = some u ∧ Mut (some u) ∧ ∀ o, t D σ (upd H d (.frz o u))) := by
  refine ⟨fun pins s σ H D I hw => ?_⟩
  obtain ⟨d, u, hd, mu, q⟩ := hw
  obtain ⟨od, I2⟩ := I.lock hd mu
  exact h.run pins s σ _ D I2 (q od)
def sFrzV (i : Nat) : FS := fun env st => match env[i]? with
  | some (some (.ref n)) => (match st[n]? with | some (.dct kvs) => some (.nx, env.set i (some (.dct kvs)), st.set n .dead) | _ => none)
  | _ => none
theorem ds_frzV (i : Nat) {s : Stmt} {g : FS} (h : DS X W s g) : DS X W s (sSeq (sFrzV i) g) := weakS (ps_frz h) fun D' σ H hh => by
  obtain ⟨r, env, st, o, env', st', he, hs, hf, q⟩ := hh
  obtain ⟨⟨o1, e1, s1⟩, h1, h2⟩ := Option.bind_eq_some_iff.mp hf
  unfold sFrzV at h1
  split at h1
  · rename_i n hn
    split at h1
    · rename_i kvs hst
      cases h1
      obtain ⟨v, hv, rv⟩ := he.at_ i _ hn
      obtain ⟨a, rfl, ha⟩ := rv.refI
      obtain ⟨av, xs, hx, l⟩ := hs.ob _ a _ ha hst
      refine ⟨a, _, hx, trivial, fun ob => ?_⟩
      obtain ⟨w1, w2, w3⟩ := frz_sim hs ob ha hx l av
      have he2 := (he.ext w1).set w3 i
      have es : σ.set i (some (V.ref a)) = σ := by
        refine List.ext_getElem? fun j => ?_
        by_cases z : i = j
        · subst z
          rw [List.getElem?_set_self (List.getElem?_eq_some_iff.mp hv).1, hv]
        · rw [List.getElem?_set_ne z]
      rw [es] at he2
      exact ⟨_, _, _, o, env', st', he2, w2, h2, q.ext w1⟩
    · cases h1
  · cases h1
/-! ### for k in d, for k, v in d.items(), d a value -/
def asKeys : D → Option (List D) | .dct kvs => some (kvs.map fun kv => keyD kv.1) | _ => none
theorem di_keys {f : F} (h : DE X iter f) : DI X tg iter (iOf asKeys f) := weakI (pi_keys h) fun σ H R hh => by
  obtain ⟨r, env, st, ds, st', he, hs, hf, q⟩ := hh
  obtain ⟨d, h1, h2⟩ := iOf_some hf
  refine ⟨r, env, st, d, st', he, hs, h1, fun v r1 H1 e1 q1 p1 => ?_⟩
  cases d with
  | dct kvs =>
    cases h2
    cases p1 with
    | dct a b c =>
      rename_i p o xs
      refine ⟨p, o, rfl, .inl ⟨xs, a, q _ r1 H1 e1 q1 fun r2 H2 st2 e2 s2 => ?_⟩⟩
      have a2 := e2.keep _ _ a b
      refine ⟨fun i hi => ⟨a2, by rw [c.len]; simpa using hi⟩, fun i d hd => ?_⟩
      rw [List.getElem?_map] at hd
      obtain ⟨⟨k, e⟩, hk, rfl⟩ := Option.map_eq_some_iff.mp hd
      obtain ⟨v, hv, rv⟩ := c.get hk
      refine ⟨⟨a2, (List.getElem?_eq_some_iff.mp hv).1⟩, fun x H3 ⟨eH, k', v', hk', ex⟩ => ?_⟩
      subst eH
      rw [hv] at hk'
      cases hk'
      subst ex
      exact ⟨r2, .refl _ _, s2, keyD_rep k⟩
  | _ => cases h2
def asItems : D → Option (List D) | .dct kvs => some (kvs.map fun kv => .tup [keyD kv.1, kv.2]) | _ => none
theorem di_items {e : Expr} {f : F} {elts : List Expr} {kk : Nat} {tpos apos cpos : Pos} (h : DE X e f) (hbase : attributeBase e "items" X.env (eval e X.env) = eval e X.env := by rfl) (hline : (apos.endLine == cpos.line) = true := by rfl) :
    DIR X (RepI X.K) (.Tuple elts kk tpos) (.Call (.Attribute e "items" apos) [] [] cpos) (iOf asItems f) := weakI (pi_items h hbase hline) fun σ H R hh => by
  obtain ⟨r, env, st, ds, st', he, hs, hf, q⟩ := hh
  obtain ⟨d, h1, h2⟩ := iOf_some hf
  refine ⟨r, env, st, d, st', he, hs, h1, fun v r1 H1 e1 q1 p1 => ?_⟩
  cases d with
  | dct kvs =>
    cases h2
    cases p1 with
    | dct a b c =>
      rename_i p o xs
      refine ⟨p, o, xs, rfl, a, q _ r1 H1 e1 q1 fun r2 H2 st2 e2 s2 => ?_⟩
      have a2 := e2.keep _ _ a b
      have c2 := c.ext e2
      refine ⟨fun i hi => ⟨a2, by rw [c.len]; simpa using hi⟩, fun i d hd => ?_⟩
      rw [List.getElem?_map] at hd
      obtain ⟨⟨k, e⟩, hk, rfl⟩ := Option.map_eq_some_iff.mp hd
      obtain ⟨v, hv, rv⟩ := c2.get hk
      refine ⟨⟨a2, (List.getElem?_eq_some_iff.mp hv).1⟩, fun x H3 ⟨T, k', v', hk', ex, hT, eH⟩ => ?_⟩
      subst eH
      rw [hv] at hk'
      cases hk'
      subst ex
      have sm : Same H2 (upd H2 T (.tup [kV k, v])) := same_alloc hT
      exact ⟨r2, s2.ext sm, s2.same sm, T, _, _, rfl, rfl, .inl (.inl upd_same), .cons (keyD_rep k) (.cons (rv.ext (s2.ext sm)) .nil)⟩
  | _ => cases h2
end
end DL
/-! t[::-1], xs[::-1]. -/
namespace DL
open PySem PySem.Spec PyProof.Rows L2 HT
section
variable {prog : Program} {w : World} {A : Around} {E : Value → Shared → Prop} {s : Shared}
theorem sliceApplied_rev {sl : Addr} {vs : Value} {n : Nat} {Q : Int × Int × Nat → Shared → Prop} (hs : s.heap.IsSliceOf sl .none .none vs) (ps : IsPart vs (some (-1)))
    (h : Q ((n : Int) - 1, -1, n) s) : wpAny (model prog w) A (Builtin.Slice.sliceApplied (.ref sl) (pure (n : Int))) Q E s := by
  obtain ⟨os, hos, hcs, hds⟩ := id hs
  unfold Builtin.Slice.sliceApplied Builtin.Slice.sliceFields
  refine wpAny_bind (wpAny_bind (wpAny_field hos hds (x := .none) rfl (wpAny_bind (wpAny_field hos hds (x := .none) rfl (wpAny_bind (wpAny_field hos hds (x := vs) rfl (wpAny_pure ?_)))))))
  refine wpAny_bind (slicePart_ ps ?_)
  show wpAny _ _ (if ((-1 : Int) == 0) = true then _ else _) _ _ s
  rw [if_neg (by decide)]
  refine wpAny_bind (slicePart_none (wpAny_bind (slicePart_none (wpAny_bind (wpAny_pure ?_)))))
  show wpAny _ _ (pure ((n : Int) - 1, (-1 : Int), Builtin.Slice.slicePlaces ((n : Int) - 1) (-1) (-1))) _ _ s
  have e : Builtin.Slice.slicePlaces ((n : Int) - 1) (-1) (-1) = n := by
    unfold Builtin.Slice.slicePlaces
    rw [if_neg (show ¬ (-1 : Int) > 0 by decide)]
    by_cases h : (n : Int) - 1 > -1
    · rw [if_pos h, show (- -1 : Int) = 1 by decide, Int.ediv_one]
      omega
    · rw [if_neg h]
      omega
  rw [e]
  exact wpAny_pure h
theorem fm_congr {α β : Type} {f g : α → Option β} : ∀ {l : List α}, (∀ x ∈ l, f x = g x) → l.filterMap f = l.filterMap g
  | [], _ => rfl
  | x :: l, h => by rw [List.filterMap_cons, List.filterMap_cons, h x List.mem_cons_self, fm_congr fun y hy => h y (List.mem_cons_of_mem _ hy)]
theorem pick_rev (xs : Array Value) : ((List.range xs.size).filterMap fun (m : Nat) => xs[(((xs.size : Int) - 1) + (m : Int) * (-1)).toNat]?).toArray = xs.toList.reverse.toArray := by
  have e : ((List.range xs.size).filterMap fun (m : Nat) => xs[(((xs.size : Int) - 1) + (m : Int) * (-1)).toNat]?) = (((List.range xs.size).map fun k => xs.size - 1 - k).filterMap (xs[·]?)) := by
    rw [List.filterMap_map]
    refine fm_congr fun m hm => ?_
    have := List.mem_range.mp hm
    have e2 : (((xs.size : Int) - 1) + (m : Int) * (-1)).toNat = xs.size - 1 - m := by omega
    show xs[(((xs.size : Int) - 1) + (m : Int) * (-1)).toNat]? = xs[xs.size - 1 - m]?
    rw [e2]
  rw [e, PySem.W.krv_range, List.filterMap_reverse, PySem.W.krv_all]
theorem getItem_tuple_rev {t sl : Addr} {items : Array Value} {vs : Value} {Q : Value → Shared → Prop} (ht : IsTup s.heap t items) (hs : s.heap.IsSliceOf sl .none .none vs) (ps : IsPart vs (some (-1)))
    (h : Q (.ref s.heap.objs.size) { s with heap := s.heap.push { cls := .type "tuple", data := .seq items.toList.reverse.toArray } })
    (hsz : items.size ≤ sizeLine) : wpAny (model prog w) A (getItem (.ref t) (.ref sl)) Q E s := by
  have htake : sizeOk (.seq items.toList.reverse.toArray) := by
    show items.toList.reverse.toArray.size ≤ sizeLine
    rw [List.size_toArray, List.length_reverse, Array.length_toList]
    exact hsz
  obtain ⟨os, hos, hcs, hds⟩ := id hs
  have hTs : s.TypeIs (.ref sl) "slice" := ⟨os, hos, hcs⟩
  unfold getItem
  try with_reducible refine wpAny_holding ?_
  first | refine wpAny_bind (wpAny_pure ?_) | skip
  refine wpAny_bind (wpAny_sequenceKey ht.typeIs (by decide) ?_)
  refine wpAny_bind (wpAny_callSpecial?_slot (name := Str.ofString "__getitem__") ht.typeIs PyProof.Rows.slot_tuple_getitem
    (wpAny_call_entry PyProof.Rows.slot_tuple_getitem ht.typeIs entry_tuple_getitem ?_ (args_tuple_getitem _ _)))
  show wpAny _ _ (Builtin.Tuple.tupleItemsOf (.ref t) >>= _) _ _ s
  refine wpAny_bind (tupleItemsOf_ ht ?_)
  refine wpAny_bind (wpAny_typeOf hTs ?_)
  rw [if_pos (by decide)]
  refine wpAny_bind (sliceApplied_rev hs ps ?_)
  have hno : ¬ ((((items.size : Int) - 1) == 0 && (-1 : Int) == 1 && items.size == items.size) = true) := by
    intro q
    rw [Bool.and_eq_true, Bool.and_eq_true] at q
    exact absurd q.1.2 (by decide)
  show wpAny _ _ (if (((items.size : Int) - 1) == 0 && (-1 : Int) == 1 && items.size == items.size) = true then _ else _) _ _ s
  rw [if_neg hno, pick_rev]
  first
    | exact wpAny_bind (m := Builtin.Tuple.tupleExact _) (wpAny_newObj_type (wpAny_pure ⟨_, rfl, wpAny_pure h⟩) htake)
    | exact wpAny_bind (m := Builtin.Tuple.tupleExact _) (wpAny_newObj_type (wpAny_bind (wpAny_pure (wpAny_pure ⟨_, rfl, wpAny_pure h⟩))) htake)
    | exact wpAny_bind (wpAny_bind (m := Builtin.Tuple.tupleExact _) (wpAny_newObj_type (wpAny_pure (wpAny_pure ⟨_, rfl, wpAny_pure h⟩)) htake))
    | exact wpAny_bind (wpAny_bind (m := Builtin.Tuple.tupleExact _) (wpAny_newObj_type (wpAny_pure ⟨_, rfl, wpAny_pure h⟩) htake))
end
section
variable {X : Cx}
def tRevT (K : PySem.W.Frag) (te : TE) : TE := fun σ H Q => te σ H fun x H1 => ∃ a xs, x = .ref a ∧ SqT K H1 a xs ∧ Fz Q H1 xs.reverse
theorem pe_revT {e : Expr} {te : TE} {k : Nat} {p1 p2 p3 pos : Pos} (he : PE X e te) : PE X (.Subscript e (.Slice none none (some (.UnaryOp .USub (.Constant (.int 1) k p1) p2)) p3) pos) (tRevT X.K te) := by
  refine ⟨fun pins s σ H Q I h => ?_⟩
  refine Subscript_ (thn (he.run pins s σ H _ I h) fun v s1 ⟨x, H1, I1, r1, q1⟩ => ?_)
  obtain ⟨a, xs, ex, hx, q⟩ := q1
  subst ex
  cases r1
  have hst : PO X (some (.UnaryOp .USub (.Constant (.int 1) k p1) p2)) (tPart (tUn (rU fun i => .int (-i)) (tC (.int 1)))) := po_some (pe_un un_neg pe_int)
  refine wpAny_Slice (thn (po_none.run pins s1 σ H1 (fun o H2 => o = none ∧ H2 = H1) I1 ⟨rfl, rfl⟩) fun vl s2 ⟨l, H2, I2, pl, el, e2⟩ => ?_)
  subst el e2
  refine thn (po_none.run pins s2 σ H2 (fun o H3 => o = none ∧ H3 = H2) I2 ⟨rfl, rfl⟩) fun vu s3 ⟨u, H3, I3, pu, eu, e3⟩ => ?_
  subst eu e3
  refine thn (hst.run pins s3 σ H3 (fun o H4 => o = some (-1) ∧ H4 = H3) I3 ⟨1, rfl, -1, rfl, rfl, rfl⟩) fun vs s4 ⟨o, H4, I4, ps, eo, e4⟩ => ?_
  subst eo e4
  have I5 : Inv X pins σ H4 { s4 with heap := s4.heap.push { cls := .type "slice", data := .fields #[vl, vu, vs] } } := I4.kept (t' := s4.toks) fun b ob q => Heap.get?_push_of_some _ q
  obtain ⟨its, r, ht, hz⟩ := I5.tuple hx
  have hlen := r.length
  cases pl
  cases pu
  show wpAny (model X.prog X.w) X.A (subscriptTail e (.Slice none none (some (.UnaryOp .USub (.Constant (.int 1) k p1) p2)) p3) (.ref a) (.ref s4.heap.objs.size)) (EP X pins σ Q) X.xe { s4 with heap := s4.heap.push { cls := .type "slice", data := .fields #[.none, .none, vs] } }
  refine tail_any (ops := [.ref a, .ref s4.heap.objs.size]) ht.typeIs (PyProof.Rows.slot_tuple_getitem.lookup) ?_ (by with_unfolding_all rfl)
  refine getItem_tuple_rev ht (Heap.IsSliceOf.new _ .none .none vs) ps ?_ (by rw [List.size_toArray]; omega)
  rw [show its.toArray.toList.reverse.toArray = its.reverse.toArray from rfl]
  exact laidF (t' := s4.toks) I5 r.reverse (by rw [List.length_reverse]; exact hz) q
/-- t[::-1], xs[::-1] -/
def revD : D → Option D | .tup ds => some (.tup ds.reverse) | _ => none
theorem RepL.reverse {r : Rf} {H : Hp} {K : PySem.W.Frag} : ∀ {vs : List V} {ds : List D}, RepL K r H vs ds → RepL K r H vs.reverse ds.reverse
  | _, _, .nil => .nil
  | _, _, .cons a b => by rw [List.reverse_cons, List.reverse_cons]; exact (RepL.reverse b).append (.cons a .nil)
def fRevT (f : F) : F := fun env st => (f env st).bind fun p => match p.1 with | .tup ds => some (.tup ds.reverse, p.2) | _ => none
theorem de_revT {e : Expr} {f : F} {k : Nat} {p1 p2 p3 pos : Pos} (he : DE X e f) : DE X (.Subscript e (.Slice none none (some (.UnaryOp .USub (.Constant (.int 1) k p1) p2)) p3) pos) (fRevT f) := weakE (pe_revT he) fun σ H Q hh => by
  obtain ⟨r, env, st, d, st', he, hs, hf, q⟩ := hh
  obtain ⟨⟨x, s1⟩, h1, h2⟩ := Option.bind_eq_some_iff.mp hf
  cases x with
  | tup ds =>
    cases h2
    refine ⟨r, env, st, _, _, he, hs, h1, fun v r1 H1 e1 q1 p1 => ?_⟩
    obtain ⟨a, xs, rfl, sq, l⟩ := p1.sqT
    refine ⟨a, xs, rfl, sq, fun p o hp hz => ?_⟩
    exact q _ r1 _ (e1.trans (q1.ext (same_alloc hp))) (q1.same (same_alloc hp)) (fresh_tup q1 hp hz l.reverse)
  | _ => cases h2
/-- xs[::-1] of a list by value or of the store: a new list by value -/
def lstAt : D → Store → Option (List D) := fun d st => match d with
  | .lst ds => some ds
  | .scr ns => some (ns.map D.int)
  | .ref n => (match st[n]? with | some (.lst ds) => some ds | _ => none)
  | _ => none
theorem lstRd {r : Rf} {H : Hp} {v : V} {d : D} {st : Store} {ds : List D} {K : PySem.W.Frag} (h : Rep K r H v d) (si : Sim K r H st) (e : lstAt d st = some ds) : ∃ a xs, v = .ref a ∧ SqL K H a xs ∧ RepL K r H xs ds := by
  unfold lstAt at e
  split at e
  · cases e
    exact h.sqLv
  · cases e
    obtain ⟨a, rfl, h2⟩ := h.scrL
    exact ⟨a, _, rfl, h2, .ofInts _⟩
  · rename_i n
    split at e
    · rename_i es hst
      cases e
      obtain ⟨a, rfl, ha⟩ := h.refI
      obtain ⟨av, xs, hx, l⟩ := si.ob _ a _ ha hst
      exact ⟨a, xs, rfl, .of hx, l⟩
    · cases e
  · cases e
def fRevL (f : F) : F := fun env st => (f env st).bind fun p => (lstAt p.1 p.2).map fun ds => (.lst ds.reverse, p.2)
theorem de_revL {e : Expr} {f : F} {k : Nat} {p1 p2 p3 pos : Pos} (he : DE X e f) : DE X (.Subscript e (.Slice none none (some (.UnaryOp .USub (.Constant (.int 1) k p1) p2)) p3) pos) (fRevL f) := weakE (pe_revL he) fun σ H Q hh => by
  obtain ⟨r, env, st, d, st', he, hs, hf, q⟩ := hh
  obtain ⟨⟨x, s1⟩, h1, h2⟩ := Option.bind_eq_some_iff.mp hf
  obtain ⟨ds, h3, h4⟩ := Option.map_eq_some_iff.mp h2
  cases h4
  refine ⟨r, env, st, _, _, he, hs, h1, fun v r1 H1 e1 q1 p1 => ?_⟩
  obtain ⟨a, xs, rfl, sq, l⟩ := lstRd p1 q1 h3
  exact ⟨a, xs, rfl, sq, fun p hp => q _ r1 _ (e1.trans (q1.ext (same_alloc hp))) (q1.same (same_alloc hp)) (fresh_lst q1 hp l.reverse)⟩
end
end DL
namespace LW
open PySem PySem.Spec PyProof.Rows L2 DL
def topS (i : Nat) : Stmt := PySem.Challenge.pw_steadypages_k46_what_is_a_token.main.body.getD i (.Pass ⟨0, 0, 0, 0⟩)
abbrev s_is_integer : Stmt := topS 4
abbrev N_is_integer : List Str := ["value"]
theorem sc_is_integer : FnScope N_is_integer ["value"] (defScope s_is_integer) := ⟨rfl, rfl, rfl, by decide +kernel, rfl, by decide +kernel, by decide +kernel⟩
abbrev s_is_string : Stmt := topS 5
abbrev N_is_string : List Str := ["value", "sign"]
theorem sc_is_string : FnScope N_is_string ["value"] (defScope s_is_string) := ⟨rfl, rfl, rfl, by decide +kernel, rfl, by decide +kernel, by decide +kernel⟩
abbrev s_is_value : Stmt := topS 6
abbrev N_is_value : List Str := ["value"]
theorem sc_is_value : FnScope N_is_value ["value"] (defScope s_is_value) := ⟨rfl, rfl, rfl, by decide +kernel, rfl, by decide +kernel, by decide +kernel⟩
abbrev s_kind_place : Stmt := topS 7
abbrev N_kind_place : List Str := ["value"]
theorem sc_kind_place : FnScope N_kind_place ["value"] (defScope s_kind_place) := ⟨rfl, rfl, rfl, by decide +kernel, rfl, by decide +kernel, by decide +kernel⟩
abbrev s_is_row_id : Stmt := topS 8
abbrev N_is_row_id : List Str := ["value"]
theorem sc_is_row_id : FnScope N_is_row_id ["value"] (defScope s_is_row_id) := ⟨rfl, rfl, rfl, by decide +kernel, rfl, by decide +kernel, by decide +kernel⟩
abbrev s_is_choice : Stmt := topS 16
abbrev N_is_choice : List Str := ["value", "item"]
theorem sc_is_choice : FnScope N_is_choice ["value"] (defScope s_is_choice) := ⟨rfl, rfl, rfl, by decide +kernel, rfl, by decide +kernel, by decide +kernel⟩
abbrev s_is_operand : Stmt := topS 15
abbrev N_is_operand : List Str := ["kind", "value"]
theorem sc_is_operand : FnScope N_is_operand ["kind", "value"] (defScope s_is_operand) := ⟨rfl, rfl, rfl, by decide +kernel, rfl, by decide +kernel, by decide +kernel⟩
abbrev s_is_column : Stmt := topS 14
abbrev N_is_column : List Str := ["value", "width"]
theorem sc_is_column : FnScope N_is_column ["value", "width"] (defScope s_is_column) := ⟨rfl, rfl, rfl, by decide +kernel, rfl, by decide +kernel, by decide +kernel⟩
abbrev s_is_condition_within : Stmt := topS 13
abbrev N_is_condition_within : List Str := ["value", "width", "depth", "kind", "part"]
theorem sc_is_condition_within : FnScope N_is_condition_within ["value", "width", "depth"] (defScope s_is_condition_within) := ⟨rfl, rfl, rfl, by decide +kernel, rfl, by decide +kernel, by decide +kernel⟩
abbrev s_is_condition : Stmt := topS 12
abbrev N_is_condition : List Str := ["value", "width"]
theorem sc_is_condition : FnScope N_is_condition ["value", "width"] (defScope s_is_condition) := ⟨rfl, rfl, rfl, by decide +kernel, rfl, by decide +kernel, by decide +kernel⟩
abbrev s_is_shown : Stmt := topS 22
abbrev N_is_shown : List Str := ["value", "width", "column"]
theorem sc_is_shown : FnScope N_is_shown ["value", "width"] (defScope s_is_shown) := ⟨rfl, rfl, rfl, by decide +kernel, rfl, by decide +kernel, by decide +kernel⟩
abbrev s_is_order_pair : Stmt := topS 21
abbrev N_is_order_pair : List Str := ["value", "width"]
theorem sc_is_order_pair : FnScope N_is_order_pair ["value", "width"] (defScope s_is_order_pair) := ⟨rfl, rfl, rfl, by decide +kernel, rfl, by decide +kernel, by decide +kernel⟩
abbrev s_is_order : Stmt := topS 20
abbrev N_is_order : List Str := ["value", "width", "pair"]
theorem sc_is_order : FnScope N_is_order ["value", "width"] (defScope s_is_order) := ⟨rfl, rfl, rfl, by decide +kernel, rfl, by decide +kernel, by decide +kernel⟩
abbrev s_is_view : Stmt := topS 19
abbrev N_is_view : List Str := ["value", "width", "condition", "order", "shown"]
theorem sc_is_view : FnScope N_is_view ["value", "width"] (defScope s_is_view) := ⟨rfl, rfl, rfl, by decide +kernel, rfl, by decide +kernel, by decide +kernel⟩
abbrev s_compare_places : Stmt := topS 23
abbrev N_compare_places : List Str := ["first", "second"]
theorem sc_compare_places : FnScope N_compare_places ["first", "second"] (defScope s_compare_places) := ⟨rfl, rfl, rfl, by decide +kernel, rfl, by decide +kernel, by decide +kernel⟩
abbrev s_value_place : Stmt := topS 25
abbrev N_value_place : List Str := ["value", "descending", "kind", "codes", "sign"]
theorem sc_value_place : FnScope N_value_place ["value", "descending"] (defScope s_value_place) := ⟨rfl, rfl, rfl, by decide +kernel, rfl, by decide +kernel, by decide +kernel⟩
abbrev s_key_place : Stmt := topS 24
abbrev N_key_place : List Str := ["view", "key", "places", "value", "column", "descending"]
theorem sc_key_place : FnScope N_key_place ["view", "key"] (defScope s_key_place) := ⟨rfl, rfl, rfl, by decide +kernel, rfl, by decide +kernel, by decide +kernel⟩
abbrev s_is_key : Stmt := topS 28
abbrev N_is_key : List Str := ["view", "value", "item"]
theorem sc_is_key : FnScope N_is_key ["view", "value"] (defScope s_is_key) := ⟨rfl, rfl, rfl, by decide +kernel, rfl, by decide +kernel, by decide +kernel⟩
abbrev s_is_mark : Stmt := topS 27
abbrev N_is_mark : List Str := ["view", "value"]
theorem sc_is_mark : FnScope N_is_mark ["view", "value"] (defScope s_is_mark) := ⟨rfl, rfl, rfl, by decide +kernel, rfl, by decide +kernel, by decide +kernel⟩
abbrev s_mark_place : Stmt := topS 29
abbrev N_mark_place : List Str := ["view", "mark", "kind"]
theorem sc_mark_place : FnScope N_mark_place ["view", "mark"] (defScope s_mark_place) := ⟨rfl, rfl, rfl, by decide +kernel, rfl, by decide +kernel, by decide +kernel⟩
abbrev s_compare_marks : Stmt := topS 30
abbrev N_compare_marks : List Str := ["view", "first", "second"]
theorem sc_compare_marks : FnScope N_compare_marks ["view", "first", "second"] (defScope s_compare_marks) := ⟨rfl, rfl, rfl, by decide +kernel, rfl, by decide +kernel, by decide +kernel⟩
abbrev s_are_window_marks : Stmt := topS 34
abbrev N_are_window_marks : List Str := ["view", "low", "high"]
theorem sc_are_window_marks : FnScope N_are_window_marks ["view", "low", "high"] (defScope s_are_window_marks) := ⟨rfl, rfl, rfl, by decide +kernel, rfl, by decide +kernel, by decide +kernel⟩
abbrev s_is_top_count : Stmt := topS 35
abbrev N_is_top_count : List Str := ["value"]
theorem sc_is_top_count : FnScope N_is_top_count ["value"] (defScope s_is_top_count) := ⟨rfl, rfl, rfl, by decide +kernel, rfl, by decide +kernel, by decide +kernel⟩
abbrev s_is_token : Stmt := topS 33
abbrev N_is_token : List Str := ["value", "width"]
theorem sc_is_token : FnScope N_is_token ["value", "width"] (defScope s_is_token) := ⟨rfl, rfl, rfl, by decide +kernel, rfl, by decide +kernel, by decide +kernel⟩
abbrev s__law_tape : Stmt := topS 37
abbrev N__law_tape : List Str := ["script", "start", "mixed", "cell", "digits"]
theorem sc__law_tape : FnScope N__law_tape ["script", "start"] (defScope s__law_tape) := ⟨rfl, rfl, rfl, by decide +kernel, rfl, by decide +kernel, by decide +kernel⟩
abbrev s__law_pick : Stmt := topS 38
abbrev N__law_pick : List Str := ["tape", "size", "found"]
theorem sc__law_pick : FnScope N__law_pick ["tape", "size"] (defScope s__law_pick) := ⟨rfl, rfl, rfl, by decide +kernel, rfl, by decide +kernel, by decide +kernel⟩
abbrev s__law_one_of : Stmt := topS 39
abbrev N__law_one_of : List Str := ["tape", "items"]
theorem sc__law_one_of : FnScope N__law_one_of ["tape", "items"] (defScope s__law_one_of) := ⟨rfl, rfl, rfl, by decide +kernel, rfl, by decide +kernel, by decide +kernel⟩
abbrev s__law_value : Stmt := topS 40
abbrev N__law_value : List Str := ["tape", "signs", "some", "turn"]
theorem sc__law_value : FnScope N__law_value ["tape"] (defScope s__law_value) := ⟨rfl, rfl, rfl, by decide +kernel, rfl, by decide +kernel, by decide +kernel⟩
abbrev s__law_values : Stmt := topS 41
abbrev N__law_values : List Str := ["tape", "width", "column"]
theorem sc__law_values : FnScope N__law_values ["tape", "width"] (defScope s__law_values) := ⟨rfl, rfl, rfl, by decide +kernel, rfl, by decide +kernel, by decide +kernel⟩
abbrev s__law_test : Stmt := topS 42
abbrev N__law_test : List Str := ["tape", "width", "column", "kind", "many", "turn"]
theorem sc__law_test : FnScope N__law_test ["tape", "width"] (defScope s__law_test) := ⟨rfl, rfl, rfl, by decide +kernel, rfl, by decide +kernel, by decide +kernel⟩
abbrev s__law_condition : Stmt := topS 43
abbrev N__law_condition : List Str := ["tape", "width", "depth", "kind", "parts"]
theorem sc__law_condition : FnScope N__law_condition ["tape", "width", "depth"] (defScope s__law_condition) := ⟨rfl, rfl, rfl, by decide +kernel, rfl, by decide +kernel, by decide +kernel⟩
abbrev s__law_view : Stmt := topS 44
abbrev N__law_view : List Str := ["tape", "width", "condition", "order", "turn", "column", "shown", "pair"]
theorem sc__law_view : FnScope N__law_view ["tape", "width"] (defScope s__law_view) := ⟨rfl, rfl, rfl, by decide +kernel, rfl, by decide +kernel, by decide +kernel⟩
abbrev s__law_rank : Stmt := topS 45
abbrev N__law_rank : List Str := ["value"]
theorem sc__law_rank : FnScope N__law_rank ["value"] (defScope s__law_rank) := ⟨rfl, rfl, rfl, by decide +kernel, rfl, by decide +kernel, by decide +kernel⟩
abbrev s__law_key : Stmt := topS 47
abbrev N__law_key : List Str := ["view", "number", "values", "column", "falling"]
theorem sc__law_key : FnScope N__law_key ["view", "number", "values"] (defScope s__law_key) := ⟨rfl, rfl, rfl, by decide +kernel, rfl, by decide +kernel, by decide +kernel⟩
abbrev s__law_sign : Stmt := topS 48
abbrev N__law_sign : List Str := ["view", "first", "second", "place", "pair", "left", "right"]
theorem sc__law_sign : FnScope N__law_sign ["view", "first", "second"] (defScope s__law_sign) := ⟨rfl, rfl, rfl, by decide +kernel, rfl, by decide +kernel, by decide +kernel⟩
abbrev s__law_mark : Stmt := topS 52
abbrev N__law_mark : List Str := ["tape", "view", "width", "kind", "key"]
theorem sc__law_mark : FnScope N__law_mark ["tape", "view", "width"] (defScope s__law_mark) := ⟨rfl, rfl, rfl, by decide +kernel, rfl, by decide +kernel, by decide +kernel⟩
abbrev s__law_marks : Stmt := topS 53
abbrev N__law_marks : List Str := ["tape", "view", "width", "first", "second", "sign"]
theorem sc__law_marks : FnScope N__law_marks ["tape", "view", "width"] (defScope s__law_marks) := ⟨rfl, rfl, rfl, by decide +kernel, rfl, by decide +kernel, by decide +kernel⟩
abbrev s__law_integer : Stmt := topS 54
abbrev N__law_integer : List Str := ["thing", "least"]
theorem sc__law_integer : FnScope N__law_integer ["thing", "least"] (defScope s__law_integer) := ⟨rfl, rfl, rfl, by decide +kernel, rfl, by decide +kernel, by decide +kernel⟩
abbrev s__law_due : Stmt := topS 55
abbrev N__law_due : List Str := ["thing", "width"]
theorem sc__law_due : FnScope N__law_due ["thing", "width"] (defScope s__law_due) := ⟨rfl, rfl, rfl, by decide +kernel, rfl, by decide +kernel, by decide +kernel⟩
abbrev s__law_bent : Stmt := topS 56
abbrev N__law_bent : List Str := ["tape", "thing", "other", "at", "way"]
theorem sc__law_bent : FnScope N__law_bent ["tape", "thing"] (defScope s__law_bent) := ⟨rfl, rfl, rfl, by decide +kernel, rfl, by decide +kernel, by decide +kernel⟩
abbrev s_law : Stmt := topS 57
abbrev N_law : List Str := ["script", "start", "tape", "width", "view", "tokens", "token", "things", "turn", "thing", "kept", "told"]
theorem sc_law : FnScope N_law ["script"] (defScope s_law) := ⟨rfl, rfl, rfl, by decide +kernel, rfl, by decide +kernel, by decide +kernel⟩
/-- what the top has left -/
structure Txt (K : PySem.W.Frag) (mg : Str → Option Value) where
  a_is_integer : Addr
  f_is_integer : FuncData
  F_is_integer : Fun K "is_integer" "is_integer" s_is_integer a_is_integer f_is_integer
  b_is_integer : Binds K f_is_integer ["value"] []
  g_is_integer : mg "is_integer" = some (.ref a_is_integer)
  a_is_string : Addr
  f_is_string : FuncData
  F_is_string : Fun K "is_string" "is_string" s_is_string a_is_string f_is_string
  b_is_string : Binds K f_is_string ["value"] []
  g_is_string : mg "is_string" = some (.ref a_is_string)
  a_is_value : Addr
  f_is_value : FuncData
  F_is_value : Fun K "is_value" "is_value" s_is_value a_is_value f_is_value
  b_is_value : Binds K f_is_value ["value"] []
  g_is_value : mg "is_value" = some (.ref a_is_value)
  a_kind_place : Addr
  f_kind_place : FuncData
  F_kind_place : Fun K "kind_place" "kind_place" s_kind_place a_kind_place f_kind_place
  b_kind_place : Binds K f_kind_place ["value"] []
  g_kind_place : mg "kind_place" = some (.ref a_kind_place)
  a_is_row_id : Addr
  f_is_row_id : FuncData
  F_is_row_id : Fun K "is_row_id" "is_row_id" s_is_row_id a_is_row_id f_is_row_id
  b_is_row_id : Binds K f_is_row_id ["value"] []
  g_is_row_id : mg "is_row_id" = some (.ref a_is_row_id)
  a_is_choice : Addr
  f_is_choice : FuncData
  F_is_choice : Fun K "is_choice" "is_choice" s_is_choice a_is_choice f_is_choice
  b_is_choice : Binds K f_is_choice ["value"] []
  g_is_choice : mg "is_choice" = some (.ref a_is_choice)
  a_is_operand : Addr
  f_is_operand : FuncData
  F_is_operand : Fun K "is_operand" "is_operand" s_is_operand a_is_operand f_is_operand
  b_is_operand : Binds K f_is_operand ["kind", "value"] []
  g_is_operand : mg "is_operand" = some (.ref a_is_operand)
  a_is_column : Addr
  f_is_column : FuncData
  F_is_column : Fun K "is_column" "is_column" s_is_column a_is_column f_is_column
  b_is_column : Binds K f_is_column ["value", "width"] []
  g_is_column : mg "is_column" = some (.ref a_is_column)
  a_is_condition_within : Addr
  f_is_condition_within : FuncData
  F_is_condition_within : Fun K "is_condition_within" "is_condition_within" s_is_condition_within a_is_condition_within f_is_condition_within
  b_is_condition_within : Binds K f_is_condition_within ["value", "width", "depth"] []
  g_is_condition_within : mg "is_condition_within" = some (.ref a_is_condition_within)
  a_is_condition : Addr
  f_is_condition : FuncData
  F_is_condition : Fun K "is_condition" "is_condition" s_is_condition a_is_condition f_is_condition
  b_is_condition : Binds K f_is_condition ["value", "width"] []
  g_is_condition : mg "is_condition" = some (.ref a_is_condition)
  a_is_shown : Addr
  f_is_shown : FuncData
  F_is_shown : Fun K "is_shown" "is_shown" s_is_shown a_is_shown f_is_shown
  b_is_shown : Binds K f_is_shown ["value", "width"] []
  g_is_shown : mg "is_shown" = some (.ref a_is_shown)
  a_is_order_pair : Addr
  f_is_order_pair : FuncData
  F_is_order_pair : Fun K "is_order_pair" "is_order_pair" s_is_order_pair a_is_order_pair f_is_order_pair
  b_is_order_pair : Binds K f_is_order_pair ["value", "width"] []
  g_is_order_pair : mg "is_order_pair" = some (.ref a_is_order_pair)
  a_is_order : Addr
  f_is_order : FuncData
  F_is_order : Fun K "is_order" "is_order" s_is_order a_is_order f_is_order
  b_is_order : Binds K f_is_order ["value", "width"] []
  g_is_order : mg "is_order" = some (.ref a_is_order)
  a_is_view : Addr
  f_is_view : FuncData
  F_is_view : Fun K "is_view" "is_view" s_is_view a_is_view f_is_view
  b_is_view : Binds K f_is_view ["value", "width"] []
  g_is_view : mg "is_view" = some (.ref a_is_view)
  a_compare_places : Addr
  f_compare_places : FuncData
  F_compare_places : Fun K "compare_places" "compare_places" s_compare_places a_compare_places f_compare_places
  b_compare_places : Binds K f_compare_places ["first", "second"] []
  g_compare_places : mg "compare_places" = some (.ref a_compare_places)
  a_value_place : Addr
  f_value_place : FuncData
  F_value_place : Fun K "value_place" "value_place" s_value_place a_value_place f_value_place
  b_value_place : Binds K f_value_place ["value", "descending"] []
  g_value_place : mg "value_place" = some (.ref a_value_place)
  a_key_place : Addr
  f_key_place : FuncData
  F_key_place : Fun K "key_place" "key_place" s_key_place a_key_place f_key_place
  b_key_place : Binds K f_key_place ["view", "key"] []
  g_key_place : mg "key_place" = some (.ref a_key_place)
  a_is_key : Addr
  f_is_key : FuncData
  F_is_key : Fun K "is_key" "is_key" s_is_key a_is_key f_is_key
  b_is_key : Binds K f_is_key ["view", "value"] []
  g_is_key : mg "is_key" = some (.ref a_is_key)
  a_is_mark : Addr
  f_is_mark : FuncData
  F_is_mark : Fun K "is_mark" "is_mark" s_is_mark a_is_mark f_is_mark
  b_is_mark : Binds K f_is_mark ["view", "value"] []
  g_is_mark : mg "is_mark" = some (.ref a_is_mark)
  a_mark_place : Addr
  f_mark_place : FuncData
  F_mark_place : Fun K "mark_place" "mark_place" s_mark_place a_mark_place f_mark_place
  b_mark_place : Binds K f_mark_place ["view", "mark"] []
  g_mark_place : mg "mark_place" = some (.ref a_mark_place)
  a_compare_marks : Addr
  f_compare_marks : FuncData
  F_compare_marks : Fun K "compare_marks" "compare_marks" s_compare_marks a_compare_marks f_compare_marks
  b_compare_marks : Binds K f_compare_marks ["view", "first", "second"] []
  g_compare_marks : mg "compare_marks" = some (.ref a_compare_marks)
  a_are_window_marks : Addr
  f_are_window_marks : FuncData
  F_are_window_marks : Fun K "are_window_marks" "are_window_marks" s_are_window_marks a_are_window_marks f_are_window_marks
  b_are_window_marks : Binds K f_are_window_marks ["view", "low", "high"] []
  g_are_window_marks : mg "are_window_marks" = some (.ref a_are_window_marks)
  a_is_top_count : Addr
  f_is_top_count : FuncData
  F_is_top_count : Fun K "is_top_count" "is_top_count" s_is_top_count a_is_top_count f_is_top_count
  b_is_top_count : Binds K f_is_top_count ["value"] []
  g_is_top_count : mg "is_top_count" = some (.ref a_is_top_count)
  a_is_token : Addr
  f_is_token : FuncData
  F_is_token : Fun K "is_token" "is_token" s_is_token a_is_token f_is_token
  b_is_token : Binds K f_is_token ["value", "width"] []
  g_is_token : mg "is_token" = some (.ref a_is_token)
  a__law_tape : Addr
  f__law_tape : FuncData
  F__law_tape : Fun K "_law_tape" "_law_tape" s__law_tape a__law_tape f__law_tape
  b__law_tape : Binds K f__law_tape ["script", "start"] []
  g__law_tape : mg "_law_tape" = some (.ref a__law_tape)
  a__law_pick : Addr
  f__law_pick : FuncData
  F__law_pick : Fun K "_law_pick" "_law_pick" s__law_pick a__law_pick f__law_pick
  b__law_pick : Binds K f__law_pick ["tape", "size"] []
  g__law_pick : mg "_law_pick" = some (.ref a__law_pick)
  a__law_one_of : Addr
  f__law_one_of : FuncData
  F__law_one_of : Fun K "_law_one_of" "_law_one_of" s__law_one_of a__law_one_of f__law_one_of
  b__law_one_of : Binds K f__law_one_of ["tape", "items"] []
  g__law_one_of : mg "_law_one_of" = some (.ref a__law_one_of)
  a__law_value : Addr
  f__law_value : FuncData
  F__law_value : Fun K "_law_value" "_law_value" s__law_value a__law_value f__law_value
  b__law_value : Binds K f__law_value ["tape"] []
  g__law_value : mg "_law_value" = some (.ref a__law_value)
  a__law_values : Addr
  f__law_values : FuncData
  F__law_values : Fun K "_law_values" "_law_values" s__law_values a__law_values f__law_values
  b__law_values : Binds K f__law_values ["tape", "width"] []
  g__law_values : mg "_law_values" = some (.ref a__law_values)
  a__law_test : Addr
  f__law_test : FuncData
  F__law_test : Fun K "_law_test" "_law_test" s__law_test a__law_test f__law_test
  b__law_test : Binds K f__law_test ["tape", "width"] []
  g__law_test : mg "_law_test" = some (.ref a__law_test)
  a__law_condition : Addr
  f__law_condition : FuncData
  F__law_condition : Fun K "_law_condition" "_law_condition" s__law_condition a__law_condition f__law_condition
  b__law_condition : Binds K f__law_condition ["tape", "width", "depth"] []
  g__law_condition : mg "_law_condition" = some (.ref a__law_condition)
  a__law_view : Addr
  f__law_view : FuncData
  F__law_view : Fun K "_law_view" "_law_view" s__law_view a__law_view f__law_view
  b__law_view : Binds K f__law_view ["tape", "width"] []
  g__law_view : mg "_law_view" = some (.ref a__law_view)
  a__law_rank : Addr
  f__law_rank : FuncData
  F__law_rank : Fun K "_law_rank" "_law_rank" s__law_rank a__law_rank f__law_rank
  b__law_rank : Binds K f__law_rank ["value"] []
  g__law_rank : mg "_law_rank" = some (.ref a__law_rank)
  a__law_key : Addr
  f__law_key : FuncData
  F__law_key : Fun K "_law_key" "_law_key" s__law_key a__law_key f__law_key
  b__law_key : Binds K f__law_key ["view", "number", "values"] []
  g__law_key : mg "_law_key" = some (.ref a__law_key)
  a__law_sign : Addr
  f__law_sign : FuncData
  F__law_sign : Fun K "_law_sign" "_law_sign" s__law_sign a__law_sign f__law_sign
  b__law_sign : Binds K f__law_sign ["view", "first", "second"] []
  g__law_sign : mg "_law_sign" = some (.ref a__law_sign)
  a__law_mark : Addr
  f__law_mark : FuncData
  F__law_mark : Fun K "_law_mark" "_law_mark" s__law_mark a__law_mark f__law_mark
  b__law_mark : Binds K f__law_mark ["tape", "view", "width"] []
  g__law_mark : mg "_law_mark" = some (.ref a__law_mark)
  a__law_marks : Addr
  f__law_marks : FuncData
  F__law_marks : Fun K "_law_marks" "_law_marks" s__law_marks a__law_marks f__law_marks
  b__law_marks : Binds K f__law_marks ["tape", "view", "width"] []
  g__law_marks : mg "_law_marks" = some (.ref a__law_marks)
  a__law_integer : Addr
  f__law_integer : FuncData
  F__law_integer : Fun K "_law_integer" "_law_integer" s__law_integer a__law_integer f__law_integer
  b__law_integer : Binds K f__law_integer ["thing", "least"] []
  g__law_integer : mg "_law_integer" = some (.ref a__law_integer)
  a__law_due : Addr
  f__law_due : FuncData
  F__law_due : Fun K "_law_due" "_law_due" s__law_due a__law_due f__law_due
  b__law_due : Binds K f__law_due ["thing", "width"] []
  g__law_due : mg "_law_due" = some (.ref a__law_due)
  a__law_bent : Addr
  f__law_bent : FuncData
  F__law_bent : Fun K "_law_bent" "_law_bent" s__law_bent a__law_bent f__law_bent
  b__law_bent : Binds K f__law_bent ["tape", "thing"] []
  g__law_bent : mg "_law_bent" = some (.ref a__law_bent)
  a_law : Addr
  f_law : FuncData
  F_law : Fun K "law" "law" s_law a_law f_law
  b_law : Binds K f_law ["script"] []
  g_law : mg "law" = some (.ref a_law)
  n_all : mg "all" = none
  n_bool : mg "bool" = none
  n_enumerate : mg "enumerate" = none
  n_int : mg "int" = none
  n_isinstance : mg "isinstance" = none
  n_len : mg "len" = none
  n_list : mg "list" = none
  n_max : mg "max" = none
  n_min : mg "min" = none
  n_ord : mg "ord" = none
  n_range : mg "range" = none
  n_repr : mg "repr" = none
  n_set : mg "set" = none
  n_sorted : mg "sorted" = none
  n_str : mg "str" = none
  n_tuple : mg "tuple" = none
  n_zip : mg "zip" = none
  t_GREATEST_DEPTH : Tok
  c_GREATEST_DEPTH : mg "GREATEST_DEPTH" = some (.int 8 t_GREATEST_DEPTH)
  t_GREATEST_ID : Tok
  c_GREATEST_ID : mg "GREATEST_ID" = some (.int 1000000 t_GREATEST_ID)
  t_GREATEST_INTEGER : Tok
  c_GREATEST_INTEGER : mg "GREATEST_INTEGER" = some (.int 1000000000 t_GREATEST_INTEGER)
  t_LONGEST_STRING : Tok
  c_LONGEST_STRING : mg "LONGEST_STRING" = some (.int 20 t_LONGEST_STRING)
  t_MOST_CHOICES : Tok
  c_MOST_CHOICES : mg "MOST_CHOICES" = some (.int 8 t_MOST_CHOICES)
  t_MOST_COUNTED : Tok
  c_MOST_COUNTED : mg "MOST_COUNTED" = some (.int 1000000 t_MOST_COUNTED)
  t_MOST_ORDERED : Tok
  c_MOST_ORDERED : mg "MOST_ORDERED" = some (.int 4 t_MOST_ORDERED)
variable {P : Program} {w : World} {K : PySem.W.Frag} {mg : Str → Option Value} {base : Heap}
noncomputable def g_is_integer : FS := (sRet (fAnd (fIsi "int" (fVar 0)) (fNot (fIsi "bool" (fVar 0)))))
noncomputable def m_is_integer : FM := mOf N_is_integer.length g_is_integer
theorem d_is_integer (T : Txt K mg) : FnD P w K mg base 1 T.a_is_integer T.f_is_integer ["value"] m_is_integer := FnD.of T.F_is_integer sc_is_integer fun cd A outer s H gx => (ds_one (ds_ret (de_and (de_isi (T := "int") (de_var 0) (by decide) (by rfl) T.n_isinstance (by rfl) T.n_int (by decide +kernel)) (de_one (de_not (de_isi (T := "bool") (de_var 0) (by decide) (by rfl) T.n_isinstance (by rfl) T.n_bool (by decide +kernel)))))))
noncomputable def g_is_string : FS := (sSeq (sIf (fOrT (fNotT (fTest (fIsi "str" (fVar 0)))) (fTest (fOp opGt (fMk bLen (aCons (fVar 0) aNil)) (fC (.int 20))))) (sRet (fC (.bl false))) sNil) (sRet (fMk bAll (aCons (fComp (iOf asStr (fVar 0)) [1] b1 tTrue (fChain opLe opLe (fC (.str (Str.ofString " "))) (fVar 1) (fC (.str (Str.ofString "~"))))) aNil))))
noncomputable def m_is_string : FM := mOf N_is_string.length g_is_string
theorem d_is_string (T : Txt K mg) : FnD P w K mg base 1 T.a_is_string T.f_is_string ["value"] m_is_string := FnD.of T.F_is_string sc_is_string fun cd A outer s H gx => (ds_cons (ds_if (dt_w (dw_or (dt_not (dt_val (de_isi (T := "str") (de_var 0) (by decide) (by rfl) T.n_isinstance (by rfl) T.n_str (by decide +kernel)))) (dw_or1 (dt_cmp ok_gt (de_callB (id := "len") ok_len (by rfl) T.n_len (by decide +kernel) (da_cons (de_var 0) da_nil)) (de_gint (by rfl) T.c_LONGEST_STRING))))) (ds_one (ds_ret de_bl)) ds_nil) (ds_one (ds_ret (de_callB (id := "all") (ok_all gx) (by rfl) T.n_all (by decide +kernel) (da_cons (de_lc (own := [("sign", 1)]) gx.calm gx.nd (di_str (de_var 0)) (blkOk_by (N := N_is_string) (sc := defScope s_is_string) (by decide +kernel)) (tg1 1) (fun _ _ _ _ _ => (pg_name (i := 1) gx.nd rfl (.inl rfl))) (fun _ _ _ _ _ => dts_nil) (fun _ _ _ _ _ => (de_chain ok_le ok_le de_str (de_var 1) de_str))) da_nil)))))
noncomputable def g_is_value : FS := (sSeq (sIf (fTest (fCall m_is_integer (aCons (fVar 0) aNil))) (sRet (fChain opLe opLe (fUn negI (fC (.int 1000000000))) (fVar 0) (fC (.int 1000000000)))) sNil) (sRet (fOr (fOp opIs (fVar 0) (fC .non)) (fCall m_is_string (aCons (fVar 0) aNil)))))
noncomputable def m_is_value : FM := mOf N_is_value.length g_is_value
theorem d_is_value (T : Txt K mg) : FnD P w K mg base 2 T.a_is_value T.f_is_value ["value"] m_is_value := FnD.of T.F_is_value sc_is_value fun cd A outer s H gx => (ds_cons (ds_if (dt_val (de_call ((d_is_integer T).up (by decide)) gx (by rfl) T.g_is_integer T.F_is_integer.kp T.b_is_integer (da_cons (de_var 0) da_nil) (hn := (aCons_n aNil_n)))) (ds_one (ds_ret (de_chain ok_le ok_le (de_neg (de_gint (by rfl) T.c_GREATEST_INTEGER)) (de_var 0) (de_gint (by rfl) T.c_GREATEST_INTEGER)))) ds_nil) (ds_one (ds_ret (de_or (de_cmp ok_is (de_var 0) de_non) (de_one (de_call ((d_is_string T).up (by decide)) gx (by rfl) T.g_is_string T.F_is_string.kp T.b_is_string (da_cons (de_var 0) da_nil) (hn := (aCons_n aNil_n))))))))
noncomputable def g_kind_place : FS := (sSeq (sIf (fTest (fOp opIs (fVar 0) (fC .non))) (sRet (fC (.int 0))) sNil) (sSeq (sIf (fTest (fIsi "str" (fVar 0))) (sRet (fC (.int 2))) sNil) (sRet (fC (.int 1)))))
noncomputable def m_kind_place : FM := mOf N_kind_place.length g_kind_place
theorem d_kind_place (T : Txt K mg) : FnD P w K mg base 1 T.a_kind_place T.f_kind_place ["value"] m_kind_place := FnD.of T.F_kind_place sc_kind_place fun cd A outer s H gx => (ds_cons (ds_if (dt_cmp ok_is (de_var 0) de_non) (ds_one (ds_ret de_int)) ds_nil) (ds_cons (ds_if (dt_val (de_isi (T := "str") (de_var 0) (by decide) (by rfl) T.n_isinstance (by rfl) T.n_str (by decide +kernel))) (ds_one (ds_ret de_int)) ds_nil) (ds_one (ds_ret de_int))))
noncomputable def g_is_row_id : FS := (sRet (fAnd (fCall m_is_integer (aCons (fVar 0) aNil)) (fChain opLe opLe (fC (.int 1)) (fVar 0) (fC (.int 1000000)))))
noncomputable def m_is_row_id : FM := mOf N_is_row_id.length g_is_row_id
theorem d_is_row_id (T : Txt K mg) : FnD P w K mg base 2 T.a_is_row_id T.f_is_row_id ["value"] m_is_row_id := FnD.of T.F_is_row_id sc_is_row_id fun cd A outer s H gx => (ds_one (ds_ret (de_and (de_call ((d_is_integer T).up (by decide)) gx (by rfl) T.g_is_integer T.F_is_integer.kp T.b_is_integer (da_cons (de_var 0) da_nil) (hn := (aCons_n aNil_n))) (de_one (de_chain ok_le ok_le de_int (de_var 0) (de_gint (by rfl) T.c_GREATEST_ID))))))
noncomputable def g_is_choice : FS := (sSeq (sIf (fOrT (fNotT (fTest (fIsi "tuple" (fVar 0)))) (fNotT (fTest (fChain opLe opLe (fC (.int 1)) (fMk bLen (aCons (fVar 0) aNil)) (fC (.int 8)))))) (sRet (fC (.bl false))) sNil) (sRet (fMk bAll (aCons (fComp (iOf asT (fVar 0)) [1] b1 tTrue (fCall m_is_value (aCons (fVar 1) aNil))) aNil))))
noncomputable def m_is_choice : FM := mOf N_is_choice.length g_is_choice
theorem d_is_choice (T : Txt K mg) : FnD P w K mg base 3 T.a_is_choice T.f_is_choice ["value"] m_is_choice := FnD.of T.F_is_choice sc_is_choice fun cd A outer s H gx => (ds_cons (ds_if (dt_w (dw_or (dt_not (dt_val (de_isi (T := "tuple") (de_var 0) (by decide) (by rfl) T.n_isinstance (by rfl) T.n_tuple (by decide +kernel)))) (dw_or1 (dt_not (dt_chain ok_le ok_le de_int (de_callB (id := "len") ok_len (by rfl) T.n_len (by decide +kernel) (da_cons (de_var 0) da_nil)) (de_gint (by rfl) T.c_MOST_CHOICES)))))) (ds_one (ds_ret de_bl)) ds_nil) (ds_one (ds_ret (de_callB (id := "all") (ok_all gx) (by rfl) T.n_all (by decide +kernel) (da_cons (de_lc (own := [("item", 1)]) gx.calm gx.nd (di_tup (de_var 0)) (blkOk_by (N := N_is_choice) (sc := defScope s_is_choice) (by decide +kernel)) (tg1 1) (fun _ _ _ _ _ => (pg_name (i := 1) gx.nd rfl (.inl rfl))) (fun _ _ _ _ _ => dts_nil) (fun _ _ _ _ _ => (de_call ((d_is_value T).up (by decide)) gx.blk (by rfl) T.g_is_value T.F_is_value.kp T.b_is_value (da_cons (de_var 1) da_nil) (hn := (aCons_n aNil_n))))) da_nil)))))
noncomputable def g_is_operand : FS := (sSeq (sIf (fTest (fOp opInA (fVar 0) (fMk mkTup (aCons (fC (.str (Str.ofString "equal"))) (aCons (fC (.str (Str.ofString "less"))) aNil))))) (sRet (fCall m_is_value (aCons (fVar 1) aNil))) sNil) (sSeq (sIf (fTest (fOp opEqA (fVar 0) (fC (.str (Str.ofString "starts"))))) (sRet (fAnd (fCall m_is_string (aCons (fVar 1) aNil)) (fOp opNe (fVar 1) (fC (.str (Str.ofString "")))))) sNil) (sRet (fAnd (fOp opEqA (fVar 0) (fC (.str (Str.ofString "one_of")))) (fCall m_is_choice (aCons (fVar 1) aNil))))))
noncomputable def m_is_operand : FM := mOf N_is_operand.length g_is_operand
theorem d_is_operand (T : Txt K mg) : FnD P w K mg base 4 T.a_is_operand T.f_is_operand ["kind", "value"] m_is_operand := FnD.of T.F_is_operand sc_is_operand fun cd A outer s H gx => (ds_cons (ds_if (dt_cmp (ok_inA gx) (de_var 0) (de_tup (da_cons de_str (da_cons de_str da_nil)))) (ds_one (ds_ret (de_call ((d_is_value T).up (by decide)) gx (by rfl) T.g_is_value T.F_is_value.kp T.b_is_value (da_cons (de_var 1) da_nil) (hn := (aCons_n aNil_n))))) ds_nil) (ds_cons (ds_if (dt_cmp (ok_eqA gx) (de_var 0) de_str) (ds_one (ds_ret (de_and (de_call ((d_is_string T).up (by decide)) gx (by rfl) T.g_is_string T.F_is_string.kp T.b_is_string (da_cons (de_var 1) da_nil) (hn := (aCons_n aNil_n))) (de_one (de_cmp (ok_ne gx) (de_var 1) de_str))))) ds_nil) (ds_one (ds_ret (de_and (de_cmp (ok_eqA gx) (de_var 0) de_str) (de_one (de_call ((d_is_choice T).up (by decide)) gx (by rfl) T.g_is_choice T.F_is_choice.kp T.b_is_choice (da_cons (de_var 1) da_nil) (hn := (aCons_n aNil_n)))))))))
noncomputable def g_is_column : FS := (sRet (fAnd (fCall m_is_integer (aCons (fVar 0) aNil)) (fChain opLe opLt (fC (.int 0)) (fVar 0) (fVar 1))))
noncomputable def m_is_column : FM := mOf N_is_column.length g_is_column
theorem d_is_column (T : Txt K mg) : FnD P w K mg base 2 T.a_is_column T.f_is_column ["value", "width"] m_is_column := FnD.of T.F_is_column sc_is_column fun cd A outer s H gx => (ds_one (ds_ret (de_and (de_call ((d_is_integer T).up (by decide)) gx (by rfl) T.g_is_integer T.F_is_integer.kp T.b_is_integer (da_cons (de_var 0) da_nil) (hn := (aCons_n aNil_n))) (de_one (de_chain ok_le ok_lt de_int (de_var 0) (de_var 1))))))
noncomputable def g_is_condition_within (rec_ : FM) : FS := (sSeq (sIf (fOrT (fTest (fOp opEq (fVar 2) (fC (.int 0)))) (fOrT (fNotT (fTest (fIsi "tuple" (fVar 0)))) (fTest (fOp opEq (fMk bLen (aCons (fVar 0) aNil)) (fC (.int 0)))))) (sRet (fC (.bl false))) sNil) (sSeq (sAsg (fSub (fVar 0) (fC (.int 0))) (gN 3)) (sSeq (sIf (fTest (fOp opEqA (fVar 3) (fC (.str (Str.ofString "all"))))) (sRet (fOp opEq (fMk bLen (aCons (fVar 0) aNil)) (fC (.int 1)))) sNil) (sSeq (sIf (fTest (fOp opEqA (fVar 3) (fC (.str (Str.ofString "not"))))) (sRet (fAnd (fOp opEq (fMk bLen (aCons (fVar 0) aNil)) (fC (.int 2))) (fCall rec_ (aCons (fSub (fVar 0) (fC (.int 1))) (aCons (fVar 1) (aCons (fOp subI (fVar 2) (fC (.int 1))) aNil)))))) sNil) (sSeq (sIf (fTest (fOp opNe (fMk bLen (aCons (fVar 0) aNil)) (fC (.int 3)))) (sRet (fC (.bl false))) sNil) (sSeq (sIf (fTest (fOp opInA (fVar 3) (fMk mkTup (aCons (fC (.str (Str.ofString "and"))) (aCons (fC (.str (Str.ofString "or"))) aNil))))) (sRet (fMk bAll (aCons (fComp (iOf asT (fSlice (fVar 0) (oSome (fC (.int 1))) oNone)) [4] b1 tTrue (fCall rec_ (aCons (fVar 4) (aCons (fVar 1) (aCons (fOp subI (fVar 2) (fC (.int 1))) aNil))))) aNil))) sNil) (sRet (fAnd (fCall m_is_column (aCons (fSub (fVar 0) (fC (.int 1))) (aCons (fVar 1) aNil))) (fCall m_is_operand (aCons (fVar 3) (aCons (fSub (fVar 0) (fC (.int 2))) aNil)))))))))))
noncomputable def m_is_condition_within : Nat → FM
  | 0 => fun _ _ => none
  | n + 1 => mOf N_is_condition_within.length (g_is_condition_within (m_is_condition_within n))
theorem d_is_condition_within (T : Txt K mg) : ∀ n : Nat, FnD P w K mg base (4 + n) T.a_is_condition_within T.f_is_condition_within ["value", "width", "depth"] (m_is_condition_within n)
  | 0 => FnD.nil
  | n + 1 => by
    have ih : FnD P w K mg base (4 + n) T.a_is_condition_within T.f_is_condition_within ["value", "width", "depth"] (m_is_condition_within n) := d_is_condition_within T n
    exact FnD.of (k := 4 + n) T.F_is_condition_within sc_is_condition_within fun cd A outer s H gx => (ds_cons (ds_if (dt_w (dw_or (dt_cmp (ok_eq gx) (de_var 2) de_int) (dw_or (dt_not (dt_val (de_isi (T := "tuple") (de_var 0) (by decide) (by rfl) T.n_isinstance (by rfl) T.n_tuple (by decide +kernel)))) (dw_or1 (dt_cmp (ok_eq gx) (de_callB (id := "len") ok_len (by rfl) T.n_len (by decide +kernel) (da_cons (de_var 0) da_nil)) de_int))))) (ds_one (ds_ret de_bl)) ds_nil) (ds_cons (ds_asg (de_sub gx (de_var 0) de_int) (dg_name 3 gx.nd)) (ds_cons (ds_if (dt_cmp (ok_eqA gx) (de_var 3) de_str) (ds_one (ds_ret (de_cmp (ok_eq gx) (de_callB (id := "len") ok_len (by rfl) T.n_len (by decide +kernel) (da_cons (de_var 0) da_nil)) de_int))) ds_nil) (ds_cons (ds_if (dt_cmp (ok_eqA gx) (de_var 3) de_str) (ds_one (ds_ret (de_and (de_cmp (ok_eq gx) (de_callB (id := "len") ok_len (by rfl) T.n_len (by decide +kernel) (da_cons (de_var 0) da_nil)) de_int) (de_one (de_call ih gx (by rfl) T.g_is_condition_within T.F_is_condition_within.kp T.b_is_condition_within (da_cons (de_sub gx (de_var 0) de_int) (da_cons (de_var 1) (da_cons (de_op ok_subI (de_var 2) de_int) da_nil))) (hn := (aCons_n (aCons_n (aCons_n aNil_n))))))))) ds_nil) (ds_cons (ds_if (dt_cmp (ok_ne gx) (de_callB (id := "len") ok_len (by rfl) T.n_len (by decide +kernel) (da_cons (de_var 0) da_nil)) de_int) (ds_one (ds_ret de_bl)) ds_nil) (ds_cons (ds_if (dt_cmp (ok_inA gx) (de_var 3) (de_tup (da_cons de_str (da_cons de_str da_nil)))) (ds_one (ds_ret (de_callB (id := "all") (ok_all gx) (by rfl) T.n_all (by decide +kernel) (da_cons (de_lc (own := [("part", 4)]) gx.calm gx.nd (di_tup (de_slice (de_var 0) (do_some de_int) do_none)) (blkOk_by (N := N_is_condition_within) (sc := defScope s_is_condition_within) (by decide +kernel)) (tg1 4) (fun _ _ _ _ _ => (pg_name (i := 4) gx.nd rfl (.inl rfl))) (fun _ _ _ _ _ => dts_nil) (fun _ _ _ _ _ => (de_call ih gx.blk (by rfl) T.g_is_condition_within T.F_is_condition_within.kp T.b_is_condition_within (da_cons (de_var 4) (da_cons (de_var 1) (da_cons (de_op ok_subI (de_var 2) de_int) da_nil))) (hn := (aCons_n (aCons_n (aCons_n aNil_n))))))) da_nil)))) ds_nil) (ds_one (ds_ret (de_and (de_call ((d_is_column T).up (by omega)) gx (by rfl) T.g_is_column T.F_is_column.kp T.b_is_column (da_cons (de_sub gx (de_var 0) de_int) (da_cons (de_var 1) da_nil)) (hn := (aCons_n (aCons_n aNil_n)))) (de_one (de_call ((d_is_operand T).up (by omega)) gx (by rfl) T.g_is_operand T.F_is_operand.kp T.b_is_operand (da_cons (de_var 3) (da_cons (de_sub gx (de_var 0) de_int) da_nil)) (hn := (aCons_n (aCons_n aNil_n))))))))))))))
noncomputable def g_is_condition : FS := (sRet (fCall (m_is_condition_within 9) (aCons (fVar 0) (aCons (fVar 1) (aCons (fC (.int 8)) aNil)))))
noncomputable def m_is_condition : FM := mOf N_is_condition.length g_is_condition
theorem d_is_condition (T : Txt K mg) : FnD P w K mg base 14 T.a_is_condition T.f_is_condition ["value", "width"] m_is_condition := FnD.of T.F_is_condition sc_is_condition fun cd A outer s H gx => (ds_one (ds_ret (de_call ((d_is_condition_within T 9).up (by decide)) gx (by rfl) T.g_is_condition_within T.F_is_condition_within.kp T.b_is_condition_within (da_cons (de_var 0) (da_cons (de_var 1) (da_cons (de_gint (by rfl) T.c_GREATEST_DEPTH) da_nil))) (hn := (aCons_n (aCons_n (aCons_n aNil_n)))))))
noncomputable def g_is_shown : FS := (sSeq (sIf (fOrT (fNotT (fTest (fIsi "tuple" (fVar 0)))) (fNotT (fTest (fMk bAll (aCons (fComp (iOf asT (fVar 0)) [2] b1 tTrue (fCall m_is_column (aCons (fVar 2) (aCons (fVar 1) aNil)))) aNil))))) (sRet (fC (.bl false))) sNil) (sRet (fOp opEq (fMk bList (aCons (fVar 0) aNil)) (fSortSet (fVar 0)))))
noncomputable def m_is_shown : FM := mOf N_is_shown.length g_is_shown
theorem d_is_shown (T : Txt K mg) : FnD P w K mg base 3 T.a_is_shown T.f_is_shown ["value", "width"] m_is_shown := FnD.of T.F_is_shown sc_is_shown fun cd A outer s H gx => (ds_cons (ds_if (dt_w (dw_or (dt_not (dt_val (de_isi (T := "tuple") (de_var 0) (by decide) (by rfl) T.n_isinstance (by rfl) T.n_tuple (by decide +kernel)))) (dw_or1 (dt_not (dt_val (de_callB (id := "all") (ok_all gx) (by rfl) T.n_all (by decide +kernel) (da_cons (de_lc (own := [("column", 2)]) gx.calm gx.nd (di_tup (de_var 0)) (blkOk_by (N := N_is_shown) (sc := defScope s_is_shown) (by decide +kernel)) (tg1 2) (fun _ _ _ _ _ => (pg_name (i := 2) gx.nd rfl (.inl rfl))) (fun _ _ _ _ _ => dts_nil) (fun _ _ _ _ _ => (de_call ((d_is_column T).up (by decide)) gx.blk (by rfl) T.g_is_column T.F_is_column.kp T.b_is_column (da_cons (de_var 2) (da_cons (de_var 1) da_nil)) (hn := (aCons_n (aCons_n aNil_n)))))) da_nil))))))) (ds_one (ds_ret de_bl)) ds_nil) (ds_one (ds_ret (de_cmp (ok_eq gx) (de_callTy (T := "list") (ok_list gx) (by rfl) T.n_list (by decide +kernel) (da_cons (de_var 0) da_nil)) (de_sortSet gx.calm (de_var 0) (by rfl) T.n_sorted (by rfl) T.n_set)))))
noncomputable def g_is_order_pair : FS := (sSeq (sIf (fOrT (fNotT (fTest (fIsi "tuple" (fVar 0)))) (fTest (fOp opNe (fMk bLen (aCons (fVar 0) aNil)) (fC (.int 2))))) (sRet (fC (.bl false))) sNil) (sRet (fAnd (fCall m_is_column (aCons (fSub (fVar 0) (fC (.int 0))) (aCons (fVar 1) aNil))) (fIsi "bool" (fSub (fVar 0) (fC (.int 1)))))))
noncomputable def m_is_order_pair : FM := mOf N_is_order_pair.length g_is_order_pair
theorem d_is_order_pair (T : Txt K mg) : FnD P w K mg base 3 T.a_is_order_pair T.f_is_order_pair ["value", "width"] m_is_order_pair := FnD.of T.F_is_order_pair sc_is_order_pair fun cd A outer s H gx => (ds_cons (ds_if (dt_w (dw_or (dt_not (dt_val (de_isi (T := "tuple") (de_var 0) (by decide) (by rfl) T.n_isinstance (by rfl) T.n_tuple (by decide +kernel)))) (dw_or1 (dt_cmp (ok_ne gx) (de_callB (id := "len") ok_len (by rfl) T.n_len (by decide +kernel) (da_cons (de_var 0) da_nil)) de_int)))) (ds_one (ds_ret de_bl)) ds_nil) (ds_one (ds_ret (de_and (de_call ((d_is_column T).up (by decide)) gx (by rfl) T.g_is_column T.F_is_column.kp T.b_is_column (da_cons (de_sub gx (de_var 0) de_int) (da_cons (de_var 1) da_nil)) (hn := (aCons_n (aCons_n aNil_n)))) (de_one (de_isi (T := "bool") (de_sub gx (de_var 0) de_int) (by decide) (by rfl) T.n_isinstance (by rfl) T.n_bool (by decide +kernel)))))))
noncomputable def g_is_order : FS := (sSeq (sIf (fOrT (fNotT (fTest (fIsi "tuple" (fVar 0)))) (fTest (fOp opGt (fMk bLen (aCons (fVar 0) aNil)) (fC (.int 4))))) (sRet (fC (.bl false))) sNil) (sSeq (sIf (fNotT (fTest (fMk bAll (aCons (fComp (iOf asT (fVar 0)) [2] b1 tTrue (fCall m_is_order_pair (aCons (fVar 2) (aCons (fVar 1) aNil)))) aNil)))) (sRet (fC (.bl false))) sNil) (sRet (fOp opEq (fLenSc (iOf asT (fVar 0)) [2] b1 tTrue (fSub (fVar 2) (fC (.int 0)))) (fMk bLen (aCons (fVar 0) aNil))))))
noncomputable def m_is_order : FM := mOf N_is_order.length g_is_order
theorem d_is_order (T : Txt K mg) : FnD P w K mg base 4 T.a_is_order T.f_is_order ["value", "width"] m_is_order := FnD.of T.F_is_order sc_is_order fun cd A outer s H gx => (ds_cons (ds_if (dt_w (dw_or (dt_not (dt_val (de_isi (T := "tuple") (de_var 0) (by decide) (by rfl) T.n_isinstance (by rfl) T.n_tuple (by decide +kernel)))) (dw_or1 (dt_cmp ok_gt (de_callB (id := "len") ok_len (by rfl) T.n_len (by decide +kernel) (da_cons (de_var 0) da_nil)) (de_gint (by rfl) T.c_MOST_ORDERED))))) (ds_one (ds_ret de_bl)) ds_nil) (ds_cons (ds_if (dt_not (dt_val (de_callB (id := "all") (ok_all gx) (by rfl) T.n_all (by decide +kernel) (da_cons (de_lc (own := [("pair", 2)]) gx.calm gx.nd (di_tup (de_var 0)) (blkOk_by (N := N_is_order) (sc := defScope s_is_order) (by decide +kernel)) (tg1 2) (fun _ _ _ _ _ => (pg_name (i := 2) gx.nd rfl (.inl rfl))) (fun _ _ _ _ _ => dts_nil) (fun _ _ _ _ _ => (de_call ((d_is_order_pair T).up (by decide)) gx.blk (by rfl) T.g_is_order_pair T.F_is_order_pair.kp T.b_is_order_pair (da_cons (de_var 2) (da_cons (de_var 1) da_nil)) (hn := (aCons_n (aCons_n aNil_n)))))) da_nil)))) (ds_one (ds_ret de_bl)) ds_nil) (ds_one (ds_ret (de_cmp (ok_eq gx) (de_lenSc (own := [("pair", 2)]) (by rfl) T.n_len gx.calm gx.nd (di_tup (de_var 0)) (blkOk_by (N := N_is_order) (sc := defScope s_is_order) (by decide +kernel)) (tg1 2) (fun _ _ _ _ _ => (pg_name (i := 2) gx.nd rfl (.inl rfl))) (fun _ _ _ _ _ => dts_nil) (fun _ _ _ _ _ => (de_sub gx.blk (de_var 2) de_int))) (de_callB (id := "len") ok_len (by rfl) T.n_len (by decide +kernel) (da_cons (de_var 0) da_nil)))))))
noncomputable def g_is_view : FS := (sSeq (sIf (fOrT (fNotT (fTest (fIsi "tuple" (fVar 0)))) (fTest (fOp opNe (fMk bLen (aCons (fVar 0) aNil)) (fC (.int 3))))) (sRet (fC (.bl false))) sNil) (sSeq (sAsg (fVar 0) (gT 3 (gCons' (gN 2) (gCons' (gN 3) (gCons' (gN 4) gNil'))))) (sRet (fAnd (fCall m_is_condition (aCons (fVar 2) (aCons (fVar 1) aNil))) (fAnd (fCall m_is_order (aCons (fVar 3) (aCons (fVar 1) aNil))) (fCall m_is_shown (aCons (fVar 4) (aCons (fVar 1) aNil))))))))
noncomputable def m_is_view : FM := mOf N_is_view.length g_is_view
theorem d_is_view (T : Txt K mg) : FnD P w K mg base 15 T.a_is_view T.f_is_view ["value", "width"] m_is_view := FnD.of T.F_is_view sc_is_view fun cd A outer s H gx => (ds_cons (ds_if (dt_w (dw_or (dt_not (dt_val (de_isi (T := "tuple") (de_var 0) (by decide) (by rfl) T.n_isinstance (by rfl) T.n_tuple (by decide +kernel)))) (dw_or1 (dt_cmp (ok_ne gx) (de_callB (id := "len") ok_len (by rfl) T.n_len (by decide +kernel) (da_cons (de_var 0) da_nil)) de_int)))) (ds_one (ds_ret de_bl)) ds_nil) (ds_cons (ds_asg (de_var 0) (dg_tup gx.calm (dgs_cons (dg_name 2 gx.nd) (dgs_cons (dg_name 3 gx.nd) (dgs_cons (dg_name 4 gx.nd) dgs_nil))))) (ds_one (ds_ret (de_and (de_call ((d_is_condition T).up (by decide)) gx (by rfl) T.g_is_condition T.F_is_condition.kp T.b_is_condition (da_cons (de_var 2) (da_cons (de_var 1) da_nil)) (hn := (aCons_n (aCons_n aNil_n)))) (de_and (de_call ((d_is_order T).up (by decide)) gx (by rfl) T.g_is_order T.F_is_order.kp T.b_is_order (da_cons (de_var 3) (da_cons (de_var 1) da_nil)) (hn := (aCons_n (aCons_n aNil_n)))) (de_one (de_call ((d_is_shown T).up (by decide)) gx (by rfl) T.g_is_shown T.F_is_shown.kp T.b_is_shown (da_cons (de_var 4) (da_cons (de_var 1) da_nil)) (hn := (aCons_n (aCons_n aNil_n)))))))))))
noncomputable def g_compare_places : FS := (sSeq (sIf (fTest (fOp opEq (fVar 0) (fVar 1))) (sRet (fC (.int 0))) sNil) (sRet (fIfE (fTest (fOp ltN (fVar 0) (fVar 1))) (fUn negI (fC (.int 1))) (fC (.int 1)))))
noncomputable def m_compare_places : FM := mOf N_compare_places.length g_compare_places
theorem d_compare_places (T : Txt K mg) : FnD P w K mg base 1 T.a_compare_places T.f_compare_places ["first", "second"] m_compare_places := FnD.of T.F_compare_places sc_compare_places fun cd A outer s H gx => (ds_cons (ds_if (dt_cmp (ok_eq gx) (de_var 0) (de_var 1)) (ds_one (ds_ret de_int)) ds_nil) (ds_one (ds_ret (de_if (dt_cmp (ok_ltN gx) (de_var 0) (de_var 1)) (de_neg de_int) de_int))))
noncomputable def g_value_place : FS := (sSeq (sAsg (fCall m_kind_place (aCons (fVar 0) aNil)) (gN 2)) (sSeq (sIf (fTest (fOp opIs (fVar 0) (fC .non))) (sRet (fMk mkTup (aCons (fVar 2) aNil))) sNil) (sSeq (sIf (fNotT (fTest (fVar 1))) (sRet (fMk mkTup (aCons (fVar 2) (aCons (fVar 0) aNil)))) sNil) (sSeq (sIf (fTest (fIsi "str" (fVar 0))) (sSeq (sAsg (fComp (iOf asStr (fVar 0)) [4] b1 tTrue (fUn negI (fMk bOrd (aCons (fVar 4) aNil)))) (gN 3)) (sRet (fMk mkTup (aCons (fUn negI (fVar 2)) (aCons (fMk mkTup (aStar (fVar 3) (aCons (fC (.int 1)) aNil))) aNil))))) sNil) (sRet (fMk mkTup (aCons (fUn negI (fVar 2)) (aCons (fUn negI (fVar 0)) aNil))))))))
noncomputable def m_value_place : FM := mOf N_value_place.length g_value_place
theorem d_value_place (T : Txt K mg) : FnD P w K mg base 2 T.a_value_place T.f_value_place ["value", "descending"] m_value_place := FnD.of T.F_value_place sc_value_place fun cd A outer s H gx => (ds_cons (ds_asg (de_call ((d_kind_place T).up (by decide)) gx (by rfl) T.g_kind_place T.F_kind_place.kp T.b_kind_place (da_cons (de_var 0) da_nil) (hn := (aCons_n aNil_n))) (dg_name 2 gx.nd)) (ds_cons (ds_if (dt_cmp ok_is (de_var 0) de_non) (ds_one (ds_ret (de_tup (da_cons (de_var 2) da_nil)))) ds_nil) (ds_cons (ds_if (dt_not (dt_val (de_var 1))) (ds_one (ds_ret (de_tup (da_cons (de_var 2) (da_cons (de_var 0) da_nil))))) ds_nil) (ds_cons (ds_if (dt_val (de_isi (T := "str") (de_var 0) (by decide) (by rfl) T.n_isinstance (by rfl) T.n_str (by decide +kernel))) (ds_cons (ds_setLc (own := [("sign", 4)]) (i := 3) gx.calm gx.nd rfl rfl (sw_true rfl rfl rfl (by decide +kernel)) (di_str (de_var 0)) (blkOk_by (N := N_value_place) (sc := defScope s_value_place) (by decide +kernel)) (tg1 4) (fun _ _ _ _ _ => (pg_name (i := 4) gx.nd rfl (.inl rfl))) (fun _ _ _ _ _ => dts_nil) (fun _ _ _ _ _ => (de_neg (de_callB (id := "ord") ok_ord (by rfl) T.n_ord (by decide +kernel) (da_cons (de_var 4) da_nil))))) (ds_one (ds_ret (de_tup (da_cons (de_neg (de_var 2)) (da_cons (de_tup (da_star (de_var 3) (da_cons de_int da_nil))) da_nil)))))) ds_nil) (ds_one (ds_ret (de_tup (da_cons (de_neg (de_var 2)) (da_cons (de_neg (de_var 0)) da_nil)))))))))
noncomputable def g_key_place : FS := (sSeq (sAsg (fComp (iOfA asZip (aCons (fVar 1) (aCons (fSub (fVar 0) (fC (.int 1))) aNil))) [3, 4, 5] (bTup 2 (bCons b1 (bCons (bTup 2 (bCons b1 (bCons b1 bNil))) bNil))) tTrue (fCall m_value_place (aCons (fVar 3) (aCons (fVar 5) aNil)))) (gN 2)) (sRet (fMk mkTup (aStar (fVar 2) (aCons (fSub (fVar 1) (fUn negI (fC (.int 1)))) aNil)))))
noncomputable def m_key_place : FM := mOf N_key_place.length g_key_place
theorem d_key_place (T : Txt K mg) : FnD P w K mg base 3 T.a_key_place T.f_key_place ["view", "key"] m_key_place := FnD.of T.F_key_place sc_key_place fun cd A outer s H gx => (ds_cons (ds_setLc (own := [("value", 3), ("column", 4), ("descending", 5)]) (i := 2) gx.calm gx.nd rfl rfl (sw_true rfl rfl rfl (by decide +kernel)) (di_zip (by rfl) T.n_zip (da_cons (de_var 1) (da_cons (de_sub gx (de_var 0) de_int) da_nil))) (blkOk_by (N := N_key_place) (sc := defScope s_key_place) (by decide +kernel)) (tg_tup (n := 2) (tgs_cons (tg1 3) b1_n (tgs_cons (tg_tupR (n := 2) (tgs_cons (tg1 4) b1_n (tgs_cons (tg1 5) b1_n tgs_nil))) (bTup_n (bCons_n b1_n (bCons_n b1_n bNil_n))) tgs_nil))) (fun _ _ _ _ _ => (pg_tup (n := 2) gx.calm (pgs_cons (pg_name (i := 3) gx.nd rfl (.inl rfl)) (pgs_cons (pg_tup (n := 2) gx.calm (pgs_cons (pg_name (i := 4) gx.nd rfl (.inl rfl)) (pgs_cons (pg_name (i := 5) gx.nd rfl (.inl rfl)) pgs_nil))) pgs_nil)))) (fun _ _ _ _ _ => dts_nil) (fun _ _ _ _ _ => (de_call ((d_value_place T).up (by decide)) gx.blk (by rfl) T.g_value_place T.F_value_place.kp T.b_value_place (da_cons (de_var 3) (da_cons (de_var 5) da_nil)) (hn := (aCons_n (aCons_n aNil_n)))))) (ds_one (ds_ret (de_tup (da_star (de_var 2) (da_cons (de_sub gx (de_var 1) (de_neg de_int)) da_nil))))))
noncomputable def g_is_key : FS := (sSeq (sIf (fOrT (fNotT (fTest (fIsi "tuple" (fVar 1)))) (fTest (fOp opNe (fMk bLen (aCons (fVar 1) aNil)) (fOp opAdd (fMk bLen (aCons (fSub (fVar 0) (fC (.int 1))) aNil)) (fC (.int 1)))))) (sRet (fC (.bl false))) sNil) (sRet (fAnd (fMk bAll (aCons (fComp (iOf asT (fSlice (fVar 1) oNone (oSome (fUn negI (fC (.int 1)))))) [2] b1 tTrue (fCall m_is_value (aCons (fVar 2) aNil))) aNil)) (fCall m_is_row_id (aCons (fSub (fVar 1) (fUn negI (fC (.int 1)))) aNil)))))
noncomputable def m_is_key : FM := mOf N_is_key.length g_is_key
theorem d_is_key (T : Txt K mg) : FnD P w K mg base 3 T.a_is_key T.f_is_key ["view", "value"] m_is_key := FnD.of T.F_is_key sc_is_key fun cd A outer s H gx => (ds_cons (ds_if (dt_w (dw_or (dt_not (dt_val (de_isi (T := "tuple") (de_var 1) (by decide) (by rfl) T.n_isinstance (by rfl) T.n_tuple (by decide +kernel)))) (dw_or1 (dt_cmp (ok_ne gx) (de_callB (id := "len") ok_len (by rfl) T.n_len (by decide +kernel) (da_cons (de_var 1) da_nil)) (de_op ok_add (de_callB (id := "len") ok_len (by rfl) T.n_len (by decide +kernel) (da_cons (de_sub gx (de_var 0) de_int) da_nil)) de_int))))) (ds_one (ds_ret de_bl)) ds_nil) (ds_one (ds_ret (de_and (de_callB (id := "all") (ok_all gx) (by rfl) T.n_all (by decide +kernel) (da_cons (de_lc (own := [("item", 2)]) gx.calm gx.nd (di_tup (de_slice (de_var 1) do_none (do_some (de_neg de_int)))) (blkOk_by (N := N_is_key) (sc := defScope s_is_key) (by decide +kernel)) (tg1 2) (fun _ _ _ _ _ => (pg_name (i := 2) gx.nd rfl (.inl rfl))) (fun _ _ _ _ _ => dts_nil) (fun _ _ _ _ _ => (de_call ((d_is_value T).up (by decide)) gx.blk (by rfl) T.g_is_value T.F_is_value.kp T.b_is_value (da_cons (de_var 2) da_nil) (hn := (aCons_n aNil_n))))) da_nil)) (de_one (de_call ((d_is_row_id T).up (by decide)) gx (by rfl) T.g_is_row_id T.F_is_row_id.kp T.b_is_row_id (da_cons (de_sub gx (de_var 1) (de_neg de_int)) da_nil) (hn := (aCons_n aNil_n))))))))
noncomputable def g_is_mark : FS := (sSeq (sIf (fOrT (fNotT (fTest (fIsi "tuple" (fVar 1)))) (fTest (fOp opEq (fMk bLen (aCons (fVar 1) aNil)) (fC (.int 0))))) (sRet (fC (.bl false))) sNil) (sSeq (sIf (fTest (fOp opInA (fSub (fVar 1) (fC (.int 0))) (fMk mkTup (aCons (fC (.str (Str.ofString "start"))) (aCons (fC (.str (Str.ofString "end"))) aNil))))) (sRet (fOp opEq (fMk bLen (aCons (fVar 1) aNil)) (fC (.int 1)))) sNil) (sRet (fAnd (fOp opInA (fSub (fVar 1) (fC (.int 0))) (fMk mkTup (aCons (fC (.str (Str.ofString "before"))) (aCons (fC (.str (Str.ofString "after"))) aNil)))) (fAnd (fOp opEq (fMk bLen (aCons (fVar 1) aNil)) (fC (.int 2))) (fCall m_is_key (aCons (fVar 0) (aCons (fSub (fVar 1) (fC (.int 1))) aNil))))))))
noncomputable def m_is_mark : FM := mOf N_is_mark.length g_is_mark
theorem d_is_mark (T : Txt K mg) : FnD P w K mg base 4 T.a_is_mark T.f_is_mark ["view", "value"] m_is_mark := FnD.of T.F_is_mark sc_is_mark fun cd A outer s H gx => (ds_cons (ds_if (dt_w (dw_or (dt_not (dt_val (de_isi (T := "tuple") (de_var 1) (by decide) (by rfl) T.n_isinstance (by rfl) T.n_tuple (by decide +kernel)))) (dw_or1 (dt_cmp (ok_eq gx) (de_callB (id := "len") ok_len (by rfl) T.n_len (by decide +kernel) (da_cons (de_var 1) da_nil)) de_int)))) (ds_one (ds_ret de_bl)) ds_nil) (ds_cons (ds_if (dt_cmp (ok_inA gx) (de_sub gx (de_var 1) de_int) (de_tup (da_cons de_str (da_cons de_str da_nil)))) (ds_one (ds_ret (de_cmp (ok_eq gx) (de_callB (id := "len") ok_len (by rfl) T.n_len (by decide +kernel) (da_cons (de_var 1) da_nil)) de_int))) ds_nil) (ds_one (ds_ret (de_and (de_cmp (ok_inA gx) (de_sub gx (de_var 1) de_int) (de_tup (da_cons de_str (da_cons de_str da_nil)))) (de_and (de_cmp (ok_eq gx) (de_callB (id := "len") ok_len (by rfl) T.n_len (by decide +kernel) (da_cons (de_var 1) da_nil)) de_int) (de_one (de_call ((d_is_key T).up (by decide)) gx (by rfl) T.g_is_key T.F_is_key.kp T.b_is_key (da_cons (de_var 0) (da_cons (de_sub gx (de_var 1) de_int) da_nil)) (hn := (aCons_n (aCons_n aNil_n)))))))))))
noncomputable def g_mark_place : FS := (sSeq (sAsg (fSub (fVar 1) (fC (.int 0))) (gN 2)) (sSeq (sIf (fTest (fOp opEq (fVar 2) (fC (.str (Str.ofString "start"))))) (sRet (fMk mkTup (aCons (fC (.int 0)) aNil))) sNil) (sSeq (sIf (fTest (fOp opEq (fVar 2) (fC (.str (Str.ofString "end"))))) (sRet (fMk mkTup (aCons (fC (.int 2)) aNil))) sNil) (sRet (fMk mkTup (aCons (fC (.int 1)) (aCons (fCall m_key_place (aCons (fVar 0) (aCons (fSub (fVar 1) (fC (.int 1))) aNil))) (aCons (fIfE (fTest (fOp opEq (fVar 2) (fC (.str (Str.ofString "before"))))) (fC (.int 0)) (fC (.int 1))) aNil))))))))
noncomputable def m_mark_place : FM := mOf N_mark_place.length g_mark_place
theorem d_mark_place (T : Txt K mg) : FnD P w K mg base 4 T.a_mark_place T.f_mark_place ["view", "mark"] m_mark_place := FnD.of T.F_mark_place sc_mark_place fun cd A outer s H gx => (ds_cons (ds_asg (de_sub gx (de_var 1) de_int) (dg_name 2 gx.nd)) (ds_cons (ds_if (dt_cmp (ok_eq gx) (de_var 2) de_str) (ds_one (ds_ret (de_tup (da_cons de_int da_nil)))) ds_nil) (ds_cons (ds_if (dt_cmp (ok_eq gx) (de_var 2) de_str) (ds_one (ds_ret (de_tup (da_cons de_int da_nil)))) ds_nil) (ds_one (ds_ret (de_tup (da_cons de_int (da_cons (de_call ((d_key_place T).up (by decide)) gx (by rfl) T.g_key_place T.F_key_place.kp T.b_key_place (da_cons (de_var 0) (da_cons (de_sub gx (de_var 1) de_int) da_nil)) (hn := (aCons_n (aCons_n aNil_n)))) (da_cons (de_if (dt_cmp (ok_eq gx) (de_var 2) de_str) de_int de_int) da_nil)))))))))
noncomputable def g_compare_marks : FS := (sRet (fCall m_compare_places (aCons (fCall m_mark_place (aCons (fVar 0) (aCons (fVar 1) aNil))) (aCons (fCall m_mark_place (aCons (fVar 0) (aCons (fVar 2) aNil))) aNil))))
noncomputable def m_compare_marks : FM := mOf N_compare_marks.length g_compare_marks
theorem d_compare_marks (T : Txt K mg) : FnD P w K mg base 5 T.a_compare_marks T.f_compare_marks ["view", "first", "second"] m_compare_marks := FnD.of T.F_compare_marks sc_compare_marks fun cd A outer s H gx => (ds_one (ds_ret (de_call ((d_compare_places T).up (by decide)) gx (by rfl) T.g_compare_places T.F_compare_places.kp T.b_compare_places (da_cons (de_call ((d_mark_place T).up (by decide)) gx (by rfl) T.g_mark_place T.F_mark_place.kp T.b_mark_place (da_cons (de_var 0) (da_cons (de_var 1) da_nil)) (hn := (aCons_n (aCons_n aNil_n)))) (da_cons (de_call ((d_mark_place T).up (by decide)) gx (by rfl) T.g_mark_place T.F_mark_place.kp T.b_mark_place (da_cons (de_var 0) (da_cons (de_var 2) da_nil)) (hn := (aCons_n (aCons_n aNil_n)))) da_nil)) (hn := (aCons_n (aCons_n aNil_n))))))
noncomputable def g_are_window_marks : FS := (sRet (fAnd (fCall m_is_mark (aCons (fVar 0) (aCons (fVar 1) aNil))) (fAnd (fCall m_is_mark (aCons (fVar 0) (aCons (fVar 2) aNil))) (fOp opLe (fCall m_compare_marks (aCons (fVar 0) (aCons (fVar 1) (aCons (fVar 2) aNil)))) (fC (.int 0))))))
noncomputable def m_are_window_marks : FM := mOf N_are_window_marks.length g_are_window_marks
theorem d_are_window_marks (T : Txt K mg) : FnD P w K mg base 6 T.a_are_window_marks T.f_are_window_marks ["view", "low", "high"] m_are_window_marks := FnD.of T.F_are_window_marks sc_are_window_marks fun cd A outer s H gx => (ds_one (ds_ret (de_and (de_call ((d_is_mark T).up (by decide)) gx (by rfl) T.g_is_mark T.F_is_mark.kp T.b_is_mark (da_cons (de_var 0) (da_cons (de_var 1) da_nil)) (hn := (aCons_n (aCons_n aNil_n)))) (de_and (de_call ((d_is_mark T).up (by decide)) gx (by rfl) T.g_is_mark T.F_is_mark.kp T.b_is_mark (da_cons (de_var 0) (da_cons (de_var 2) da_nil)) (hn := (aCons_n (aCons_n aNil_n)))) (de_one (de_cmp ok_le (de_call ((d_compare_marks T).up (by decide)) gx (by rfl) T.g_compare_marks T.F_compare_marks.kp T.b_compare_marks (da_cons (de_var 0) (da_cons (de_var 1) (da_cons (de_var 2) da_nil))) (hn := (aCons_n (aCons_n (aCons_n aNil_n))))) de_int))))))
noncomputable def g_is_top_count : FS := (sRet (fAnd (fCall m_is_integer (aCons (fVar 0) aNil)) (fChain opLe opLe (fC (.int 0)) (fVar 0) (fC (.int 1000000)))))
noncomputable def m_is_top_count : FM := mOf N_is_top_count.length g_is_top_count
theorem d_is_top_count (T : Txt K mg) : FnD P w K mg base 2 T.a_is_top_count T.f_is_top_count ["value"] m_is_top_count := FnD.of T.F_is_top_count sc_is_top_count fun cd A outer s H gx => (ds_one (ds_ret (de_and (de_call ((d_is_integer T).up (by decide)) gx (by rfl) T.g_is_integer T.F_is_integer.kp T.b_is_integer (da_cons (de_var 0) da_nil) (hn := (aCons_n aNil_n))) (de_one (de_chain ok_le ok_le de_int (de_var 0) (de_gint (by rfl) T.c_MOST_COUNTED))))))
noncomputable def g_is_token : FS := (sSeq (sIf (fOrT (fNotT (fTest (fIsi "tuple" (fVar 0)))) (fTest (fOp opLt (fMk bLen (aCons (fVar 0) aNil)) (fC (.int 3))))) (sRet (fC (.bl false))) sNil) (sSeq (sIf (fOrT (fNotT (fTest (fCall m_is_view (aCons (fSub (fVar 0) (fC (.int 1))) (aCons (fVar 1) aNil))))) (fOrT (fNotT (fTest (fCall m_is_integer (aCons (fSub (fVar 0) (fC (.int 2))) aNil)))) (fTest (fOp opLt (fSub (fVar 0) (fC (.int 2))) (fC (.int 0)))))) (sRet (fC (.bl false))) sNil) (sSeq (sIf (fTest (fOp opEqA (fSub (fVar 0) (fC (.int 0))) (fC (.str (Str.ofString "window"))))) (sRet (fAnd (fOp opEq (fMk bLen (aCons (fVar 0) aNil)) (fC (.int 5))) (fCall m_are_window_marks (aCons (fSub (fVar 0) (fC (.int 1))) (aCons (fSub (fVar 0) (fC (.int 3))) (aCons (fSub (fVar 0) (fC (.int 4))) aNil)))))) sNil) (sRet (fAnd (fOp opEqA (fSub (fVar 0) (fC (.int 0))) (fC (.str (Str.ofString "top")))) (fAnd (fOp opEq (fMk bLen (aCons (fVar 0) aNil)) (fC (.int 4))) (fCall m_is_top_count (aCons (fSub (fVar 0) (fC (.int 3))) aNil))))))))
noncomputable def m_is_token : FM := mOf N_is_token.length g_is_token
theorem d_is_token (T : Txt K mg) : FnD P w K mg base 16 T.a_is_token T.f_is_token ["value", "width"] m_is_token := FnD.of T.F_is_token sc_is_token fun cd A outer s H gx => (ds_cons (ds_if (dt_w (dw_or (dt_not (dt_val (de_isi (T := "tuple") (de_var 0) (by decide) (by rfl) T.n_isinstance (by rfl) T.n_tuple (by decide +kernel)))) (dw_or1 (dt_cmp ok_lt (de_callB (id := "len") ok_len (by rfl) T.n_len (by decide +kernel) (da_cons (de_var 0) da_nil)) de_int)))) (ds_one (ds_ret de_bl)) ds_nil) (ds_cons (ds_if (dt_w (dw_or (dt_not (dt_val (de_call ((d_is_view T).up (by decide)) gx (by rfl) T.g_is_view T.F_is_view.kp T.b_is_view (da_cons (de_sub gx (de_var 0) de_int) (da_cons (de_var 1) da_nil)) (hn := (aCons_n (aCons_n aNil_n)))))) (dw_or (dt_not (dt_val (de_call ((d_is_integer T).up (by decide)) gx (by rfl) T.g_is_integer T.F_is_integer.kp T.b_is_integer (da_cons (de_sub gx (de_var 0) de_int) da_nil) (hn := (aCons_n aNil_n))))) (dw_or1 (dt_cmp ok_lt (de_sub gx (de_var 0) de_int) de_int))))) (ds_one (ds_ret de_bl)) ds_nil) (ds_cons (ds_if (dt_cmp (ok_eqA gx) (de_sub gx (de_var 0) de_int) de_str) (ds_one (ds_ret (de_and (de_cmp (ok_eq gx) (de_callB (id := "len") ok_len (by rfl) T.n_len (by decide +kernel) (da_cons (de_var 0) da_nil)) de_int) (de_one (de_call ((d_are_window_marks T).up (by decide)) gx (by rfl) T.g_are_window_marks T.F_are_window_marks.kp T.b_are_window_marks (da_cons (de_sub gx (de_var 0) de_int) (da_cons (de_sub gx (de_var 0) de_int) (da_cons (de_sub gx (de_var 0) de_int) da_nil))) (hn := (aCons_n (aCons_n (aCons_n aNil_n))))))))) ds_nil) (ds_one (ds_ret (de_and (de_cmp (ok_eqA gx) (de_sub gx (de_var 0) de_int) de_str) (de_and (de_cmp (ok_eq gx) (de_callB (id := "len") ok_len (by rfl) T.n_len (by decide +kernel) (da_cons (de_var 0) da_nil)) de_int) (de_one (de_call ((d_is_top_count T).up (by decide)) gx (by rfl) T.g_is_top_count T.F_is_top_count.kp T.b_is_top_count (da_cons (de_sub gx (de_var 0) de_int) da_nil) (hn := (aCons_n aNil_n)))))))))))
noncomputable def g__law_tape : FS := (sSeq (sAsg (fOp opAdd (fC (.int 97)) (fOp opMul (fVar 1) (fC (.int 31)))) (gN 2)) (sSeq (sFor (iOf asScr (fVar 0)) (gN 3) (sAsg (fOp opAdd (fOp modI (fOp powI (fOp opAdd (fOp opAdd (fOp opMul (fVar 2) (fC (.int 30011))) (fOp opMul (fVar 3) (fVar 3))) (fC (.int 7))) (fC (.int 2))) (fC (.int 2147483563))) (fC (.int 2))) (gN 2))) (sSeq (sAsg (fIfE (fAndT (fTest (fOp opLt (fVar 1) (fMk bLen (aCons (fVar 0) aNil)))) (fTest (fOp opGe (fSub (fVar 0) (fVar 1)) (fOp powI (fC (.int 10)) (fC (.int 18)))))) (fOp subI (fSub (fVar 0) (fVar 1)) (fOp powI (fC (.int 10)) (fC (.int 18)))) (fC (.int 0))) (gN 4)) (sRet (fDict (((fC (.str (Str.ofString "digits"))), (fVar 4)) :: (((fC (.str (Str.ofString "mixed"))), (fVar 2)) :: [])))))))
noncomputable def m__law_tape : FM := mOf N__law_tape.length g__law_tape
theorem d__law_tape (T : Txt K mg) : FnD P w K mg base 1 T.a__law_tape T.f__law_tape ["script", "start"] m__law_tape := FnD.of T.F__law_tape sc__law_tape fun cd A outer s H gx => (ds_cons (ds_asg (de_op ok_add de_int (de_op ok_mul (de_var 1) de_int)) (dg_name 2 gx.nd)) (ds_cons (ds_forR PassesOwn.never gx.calm (di_scr (de_var 0)) (dg_name 3 gx.nd) (ds_one (ds_asg (de_op ok_add (de_op ok_modI (de_op ok_powI (de_op ok_add (de_op ok_add (de_op ok_mul (de_var 2) de_int) (de_op ok_mul (de_var 3) (de_var 3))) de_int) de_int) de_int) de_int) (dg_name 2 gx.nd)))) (ds_cons (ds_asg (de_if (dt_w (dw_and (dt_cmp ok_lt (de_var 1) (de_callB (id := "len") ok_len (by rfl) T.n_len (by decide +kernel) (da_cons (de_var 0) da_nil))) (dw_and1 (dt_cmp ok_ge (de_sub gx (de_var 0) (de_var 1)) (de_op ok_powI de_int de_int))))) (de_op ok_subI (de_sub gx (de_var 0) (de_var 1)) (de_op ok_powI de_int de_int)) de_int) (dg_name 4 gx.nd)) (ds_one (ds_ret (de_dict (.cons de_str (de_var 4) (.cons de_str (de_var 2) .nil))))))))
noncomputable def g__law_pick : FS := (sSeq (sIf (fTest (fOp opGe (fSub (fVar 0) (fC (.str (Str.ofString "digits")))) (fVar 1))) (sSeq (sAsg (fOp modI (fSub (fVar 0) (fC (.str (Str.ofString "digits")))) (fVar 1)) (gN 2)) (sSeq (sPut (fVar 0) (fC (.str (Str.ofString "digits"))) (fOp fdivI (fSub (fVar 0) (fC (.str (Str.ofString "digits")))) (fVar 1))) (sRet (fVar 2)))) sNil) (sSeq (sPut (fVar 0) (fC (.str (Str.ofString "mixed"))) (fOp modI (fOp opAdd (fOp opMul (fSub (fVar 0) (fC (.str (Str.ofString "mixed")))) (fC (.int 40014))) (fC (.int 1013))) (fC (.int 2147483563)))) (sRet (fOp modI (fOp fdivI (fOp modI (fOp powI (fOp modI (fOp powI (fSub (fVar 0) (fC (.str (Str.ofString "mixed")))) (fC (.int 2))) (fC (.int 2147483399))) (fC (.int 3))) (fC (.int 998244353))) (fC (.int 5))) (fVar 1)))))
noncomputable def m__law_pick : FM := mOf N__law_pick.length g__law_pick
theorem d__law_pick (T : Txt K mg) : FnD P w K mg base 1 T.a__law_pick T.f__law_pick ["tape", "size"] m__law_pick := FnD.of T.F__law_pick sc__law_pick fun cd A outer s H gx => (ds_cons (ds_if (dt_cmp ok_ge (de_sub gx (de_var 0) de_str) (de_var 1)) (ds_cons (ds_asg (de_op ok_modI (de_sub gx (de_var 0) de_str) (de_var 1)) (dg_name 2 gx.nd)) (ds_cons (ds_put gx (de_var 0) de_str (de_op ok_fdivI (de_sub gx (de_var 0) de_str) (de_var 1))) (ds_one (ds_ret (de_var 2))))) ds_nil) (ds_cons (ds_put gx (de_var 0) de_str (de_op ok_modI (de_op ok_add (de_op ok_mul (de_sub gx (de_var 0) de_str) de_int) de_int) de_int)) (ds_one (ds_ret (de_op ok_modI (de_op ok_fdivI (de_op ok_modI (de_op ok_powI (de_op ok_modI (de_op ok_powI (de_sub gx (de_var 0) de_str) de_int) de_int) de_int) de_int) de_int) (de_var 1))))))
noncomputable def g__law_one_of : FS := (sRet (fSub (fVar 1) (fCall m__law_pick (aCons (fVar 0) (aCons (fMk bLen (aCons (fVar 1) aNil)) aNil)))))
noncomputable def m__law_one_of : FM := mOf N__law_one_of.length g__law_one_of
theorem d__law_one_of (T : Txt K mg) : FnD P w K mg base 2 T.a__law_one_of T.f__law_one_of ["tape", "items"] m__law_one_of := FnD.of T.F__law_one_of sc__law_one_of fun cd A outer s H gx => (ds_one (ds_ret (de_sub gx (de_var 1) (de_call ((d__law_pick T).up (by decide)) gx (by rfl) T.g__law_pick T.F__law_pick.kp T.b__law_pick (da_cons (de_var 0) (da_cons (de_callB (id := "len") ok_len (by rfl) T.n_len (by decide +kernel) (da_cons (de_var 1) da_nil)) da_nil)) (hn := (aCons_n (aCons_n aNil_n)))))))
noncomputable def g__law_value : FS := (sSeq (sIf (fTest (fOp opEq (fCall m__law_pick (aCons (fVar 0) (aCons (fC (.int 24)) aNil))) (fC (.int 0)))) (sSeq (sAsg (fC (.str (Str.ofString " !#$&'()*+,-./0123456789:;<=>?@ABCDEFGHIJKLMNOPQRSTUVWXYZ[]^_{|}~"))) (gN 1)) (sSeq (sAsg (fMk bList (aCons (fOp opAdd (fVar 1) (fC (.str (Str.ofString "abcdefghijklmnopqrstuvwxyz")))) aNil)) (gN 1)) (sRet (fMt joinD (fC (.str (Str.ofString ""))) (aCons (fComp (iOfA asR1 (aCons (fOp opAdd (fC (.int 1)) (fCall m__law_pick (aCons (fVar 0) (aCons (fC (.int 20)) aNil)))) aNil)) [3] b1 tTrue (fCall m__law_one_of (aCons (fVar 0) (aCons (fVar 1) aNil)))) aNil))))) sNil) (sSeq (sAsg (fMk mkLst (aCons (fC .non) (aCons (fC (.int 0)) (aCons (fC (.int 1)) (aCons (fC (.int 2)) (aCons (fOp subI (fC (.int 0)) (fC (.int 1))) (aCons (fC (.int 1)) (aCons (fC (.int 2)) (aCons (fOp powI (fC (.int 10)) (fC (.int 9))) (aCons (fOp subI (fC (.int 0)) (fOp powI (fC (.int 10)) (fC (.int 9)))) (aCons (fC (.str (Str.ofString ""))) (aCons (fC (.str (Str.ofString "a"))) (aCons (fC (.str (Str.ofString "ab"))) (aCons (fC (.str (Str.ofString "b"))) (aCons (fC (.str (Str.ofString "a b"))) (aCons (fC (.str (Str.ofString "A"))) (aCons (fC (.str (Str.ofString "~"))) (aCons (fOp opMul (fC (.str (Str.ofString "z"))) (fC (.int 20))) aNil)))))))))))))))))) (gN 2)) (sSeq (sAsg (fOp opAdd (fVar 2) (fMk mkLst (aCons (fOp opMul (fC (.str (Str.ofString "z"))) (fC (.int 19))) (aCons (fC (.str (Str.ofString "customer one"))) (aCons (fC (.str (Str.ofString "customer two"))) (aCons (fC (.str (Str.ofString "1"))) (aCons (fC (.str (Str.ofString "-1"))) (aCons (fC (.int 2)) (aCons (fC (.str (Str.ofString "abc"))) (aCons (fC (.str (Str.ofString "abd"))) aNil)))))))))) (gN 2)) (sRet (fCall m__law_one_of (aCons (fVar 0) (aCons (fVar 2) aNil)))))))
noncomputable def m__law_value : FM := mOf N__law_value.length g__law_value
theorem d__law_value (T : Txt K mg) : FnD P w K mg base 3 T.a__law_value T.f__law_value ["tape"] m__law_value := FnD.of T.F__law_value sc__law_value fun cd A outer s H gx => (ds_cons (ds_if (dt_cmp (ok_eq gx) (de_call ((d__law_pick T).up (by decide)) gx (by rfl) T.g__law_pick T.F__law_pick.kp T.b__law_pick (da_cons (de_var 0) (da_cons de_int da_nil)) (hn := (aCons_n (aCons_n aNil_n)))) de_int) (ds_cons (ds_asg de_str (dg_name 1 gx.nd)) (ds_cons (ds_asg (de_callTy (T := "list") (ok_list gx) (by rfl) T.n_list (by decide +kernel) (da_cons (de_op ok_add (de_var 1) de_str) da_nil)) (dg_name 1 gx.nd)) (ds_one (ds_ret (de_mt mt_join joinTy joinOk PySem.F.plainAttrs_str PySem.F.slot_str_join PySem.F.type_str_join de_str (da_cons (de_lc (own := [("turn", 3)]) gx.calm gx.nd (di_range1 (by rfl) T.n_range (da_cons (de_op ok_add de_int (de_call ((d__law_pick T).up (by decide)) gx (by rfl) T.g__law_pick T.F__law_pick.kp T.b__law_pick (da_cons (de_var 0) (da_cons de_int da_nil)) (hn := (aCons_n (aCons_n aNil_n))))) da_nil)) (blkOk_by (N := N__law_value) (sc := defScope s__law_value) (by decide +kernel)) (tg1 3) (fun _ _ _ _ _ => (pg_name (i := 3) gx.nd rfl (.inl rfl))) (fun _ _ _ _ _ => dts_nil) (fun _ _ _ _ _ => (de_call ((d__law_one_of T).up (by decide)) gx.blk (by rfl) T.g__law_one_of T.F__law_one_of.kp T.b__law_one_of (da_cons (de_var 0) (da_cons (de_var 1) da_nil)) (hn := (aCons_n (aCons_n aNil_n)))))) da_nil)))))) ds_nil) (ds_cons (ds_asg (de_lst (da_cons de_non (da_cons de_int (da_cons de_int (da_cons de_int (da_cons (de_op ok_subI de_int de_int) (da_cons de_int (da_cons de_int (da_cons (de_op ok_powI de_int de_int) (da_cons (de_op ok_subI de_int (de_op ok_powI de_int de_int)) (da_cons de_str (da_cons de_str (da_cons de_str (da_cons de_str (da_cons de_str (da_cons de_str (da_cons de_str (da_cons (de_op ok_mul de_str de_int) da_nil)))))))))))))))))) (dg_name 2 gx.nd)) (ds_cons (ds_asg (de_op ok_add (de_var 2) (de_lst (da_cons (de_op ok_mul de_str de_int) (da_cons de_str (da_cons de_str (da_cons de_str (da_cons de_str (da_cons de_int (da_cons de_str (da_cons de_str da_nil)))))))))) (dg_name 2 gx.nd)) (ds_one (ds_ret (de_call ((d__law_one_of T).up (by decide)) gx (by rfl) T.g__law_one_of T.F__law_one_of.kp T.b__law_one_of (da_cons (de_var 0) (da_cons (de_var 2) da_nil)) (hn := (aCons_n (aCons_n aNil_n)))))))))
noncomputable def g__law_values : FS := (sRet (fMk bTuple (aCons (fComp (iOfA asR1 (aCons (fVar 1) aNil)) [2] b1 tTrue (fCall m__law_value (aCons (fVar 0) aNil))) aNil)))
noncomputable def m__law_values : FM := mOf N__law_values.length g__law_values
theorem d__law_values (T : Txt K mg) : FnD P w K mg base 4 T.a__law_values T.f__law_values ["tape", "width"] m__law_values := FnD.of T.F__law_values sc__law_values fun cd A outer s H gx => (ds_one (ds_ret (de_callTy (T := "tuple") ok_tuple (by rfl) T.n_tuple (by decide +kernel) (da_cons (de_lc (own := [("column", 2)]) gx.calm gx.nd (di_range1 (by rfl) T.n_range (da_cons (de_var 1) da_nil)) (blkOk_by (N := N__law_values) (sc := defScope s__law_values) (by decide +kernel)) (tg1 2) (fun _ _ _ _ _ => (pg_name (i := 2) gx.nd rfl (.inl rfl))) (fun _ _ _ _ _ => dts_nil) (fun _ _ _ _ _ => (de_call ((d__law_value T).up (by decide)) gx.blk (by rfl) T.g__law_value T.F__law_value.kp T.b__law_value (da_cons (de_var 0) da_nil) (hn := (aCons_n aNil_n))))) da_nil))))
noncomputable def g__law_test : FS := (sSeq (sPar (par2 2 3) (aCons (fCall m__law_pick (aCons (fVar 0) (aCons (fVar 1) aNil))) (aCons (fCall m__law_pick (aCons (fVar 0) (aCons (fC (.int 6)) aNil))) aNil))) (sSeq (sIf (fTest (fOp opEq (fVar 3) (fC (.int 0)))) (sRet (fMk mkTup (aCons (fC (.str (Str.ofString "all"))) aNil))) sNil) (sSeq (sIf (fTest (fOp opEq (fVar 3) (fC (.int 1)))) (sRet (fMk mkTup (aCons (fC (.str (Str.ofString "equal"))) (aCons (fVar 2) (aCons (fCall m__law_value (aCons (fVar 0) aNil)) aNil))))) sNil) (sSeq (sIf (fTest (fOp opLt (fVar 3) (fC (.int 4)))) (sRet (fMk mkTup (aCons (fC (.str (Str.ofString "less"))) (aCons (fVar 2) (aCons (fCall m__law_value (aCons (fVar 0) aNil)) aNil))))) sNil) (sSeq (sIf (fTest (fOp opEq (fVar 3) (fC (.int 4)))) (sRet (fMk mkTup (aCons (fC (.str (Str.ofString "starts"))) (aCons (fVar 2) (aCons (fCall m__law_one_of (aCons (fVar 0) (aCons (fMk mkLst (aCons (fC (.str (Str.ofString "a"))) (aCons (fC (.str (Str.ofString "ab"))) (aCons (fC (.str (Str.ofString "b"))) (aCons (fC (.str (Str.ofString "A"))) (aCons (fC (.str (Str.ofString " "))) (aCons (fC (.str (Str.ofString "1"))) (aCons (fC (.str (Str.ofString "-"))) (aCons (fC (.str (Str.ofString "N"))) (aCons (fC (.str (Str.ofString "customer"))) (aCons (fC (.str (Str.ofString "abc"))) aNil))))))))))) aNil))) aNil))))) sNil) (sSeq (sAsg (fOp opAdd (fC (.int 1)) (fCall m__law_one_of (aCons (fVar 0) (aCons (fMk mkLst (aCons (fCall m__law_pick (aCons (fVar 0) (aCons (fC (.int 4)) aNil))) (aCons (fOp opAdd (fC (.int 4)) (fCall m__law_pick (aCons (fVar 0) (aCons (fC (.int 4)) aNil)))) aNil))) aNil)))) (gN 4)) (sRet (fMk mkTup (aCons (fC (.str (Str.ofString "one_of"))) (aCons (fVar 2) (aCons (fMk bTuple (aCons (fComp (iOfA asR1 (aCons (fVar 4) aNil)) [5] b1 tTrue (fCall m__law_value (aCons (fVar 0) aNil))) aNil)) aNil)))))))))))
noncomputable def m__law_test : FM := mOf N__law_test.length g__law_test
theorem d__law_test (T : Txt K mg) : FnD P w K mg base 4 T.a__law_test T.f__law_test ["tape", "width"] m__law_test := FnD.of T.F__law_test sc__law_test fun cd A outer s H gx => (ds_cons (ds_par2 2 3 gx rfl rfl (by decide) rfl rfl (da_cons (de_call ((d__law_pick T).up (by decide)) gx (by rfl) T.g__law_pick T.F__law_pick.kp T.b__law_pick (da_cons (de_var 0) (da_cons (de_var 1) da_nil)) (hn := (aCons_n (aCons_n aNil_n)))) (da_cons (de_call ((d__law_pick T).up (by decide)) gx (by rfl) T.g__law_pick T.F__law_pick.kp T.b__law_pick (da_cons (de_var 0) (da_cons de_int da_nil)) (hn := (aCons_n (aCons_n aNil_n)))) da_nil))) (ds_cons (ds_if (dt_cmp (ok_eq gx) (de_var 3) de_int) (ds_one (ds_ret (de_tup (da_cons de_str da_nil)))) ds_nil) (ds_cons (ds_if (dt_cmp (ok_eq gx) (de_var 3) de_int) (ds_one (ds_ret (de_tup (da_cons de_str (da_cons (de_var 2) (da_cons (de_call ((d__law_value T).up (by decide)) gx (by rfl) T.g__law_value T.F__law_value.kp T.b__law_value (da_cons (de_var 0) da_nil) (hn := (aCons_n aNil_n))) da_nil)))))) ds_nil) (ds_cons (ds_if (dt_cmp ok_lt (de_var 3) de_int) (ds_one (ds_ret (de_tup (da_cons de_str (da_cons (de_var 2) (da_cons (de_call ((d__law_value T).up (by decide)) gx (by rfl) T.g__law_value T.F__law_value.kp T.b__law_value (da_cons (de_var 0) da_nil) (hn := (aCons_n aNil_n))) da_nil)))))) ds_nil) (ds_cons (ds_if (dt_cmp (ok_eq gx) (de_var 3) de_int) (ds_one (ds_ret (de_tup (da_cons de_str (da_cons (de_var 2) (da_cons (de_call ((d__law_one_of T).up (by decide)) gx (by rfl) T.g__law_one_of T.F__law_one_of.kp T.b__law_one_of (da_cons (de_var 0) (da_cons (de_lst (da_cons de_str (da_cons de_str (da_cons de_str (da_cons de_str (da_cons de_str (da_cons de_str (da_cons de_str (da_cons de_str (da_cons de_str (da_cons de_str da_nil))))))))))) da_nil)) (hn := (aCons_n (aCons_n aNil_n)))) da_nil)))))) ds_nil) (ds_cons (ds_asg (de_op ok_add de_int (de_call ((d__law_one_of T).up (by decide)) gx (by rfl) T.g__law_one_of T.F__law_one_of.kp T.b__law_one_of (da_cons (de_var 0) (da_cons (de_lst (da_cons (de_call ((d__law_pick T).up (by decide)) gx (by rfl) T.g__law_pick T.F__law_pick.kp T.b__law_pick (da_cons (de_var 0) (da_cons de_int da_nil)) (hn := (aCons_n (aCons_n aNil_n)))) (da_cons (de_op ok_add de_int (de_call ((d__law_pick T).up (by decide)) gx (by rfl) T.g__law_pick T.F__law_pick.kp T.b__law_pick (da_cons (de_var 0) (da_cons de_int da_nil)) (hn := (aCons_n (aCons_n aNil_n))))) da_nil))) da_nil)) (hn := (aCons_n (aCons_n aNil_n))))) (dg_name 4 gx.nd)) (ds_one (ds_ret (de_tup (da_cons de_str (da_cons (de_var 2) (da_cons (de_callTy (T := "tuple") ok_tuple (by rfl) T.n_tuple (by decide +kernel) (da_cons (de_lc (own := [("turn", 5)]) gx.calm gx.nd (di_range1 (by rfl) T.n_range (da_cons (de_var 4) da_nil)) (blkOk_by (N := N__law_test) (sc := defScope s__law_test) (by decide +kernel)) (tg1 5) (fun _ _ _ _ _ => (pg_name (i := 5) gx.nd rfl (.inl rfl))) (fun _ _ _ _ _ => dts_nil) (fun _ _ _ _ _ => (de_call ((d__law_value T).up (by decide)) gx.blk (by rfl) T.g__law_value T.F__law_value.kp T.b__law_value (da_cons (de_var 0) da_nil) (hn := (aCons_n aNil_n))))) da_nil)) da_nil))))))))))))
noncomputable def g__law_condition (rec_ : FM) : FS := (sSeq (sAsg (fCall m__law_pick (aCons (fVar 0) (aCons (fC (.int 6)) aNil))) (gN 3)) (sSeq (sIf (fOrT (fTest (fOp opEq (fVar 2) (fC (.int 0)))) (fTest (fOp opLt (fVar 3) (fC (.int 2))))) (sRet (fCall m__law_test (aCons (fVar 0) (aCons (fVar 1) aNil)))) sNil) (sSeq (sIf (fTest (fOp opEq (fVar 3) (fC (.int 2)))) (sRet (fMk mkTup (aCons (fC (.str (Str.ofString "not"))) (aCons (fCall rec_ (aCons (fVar 0) (aCons (fVar 1) (aCons (fOp subI (fVar 2) (fC (.int 1))) aNil)))) aNil)))) sNil) (sSeq (sAsg (fMk mkTup (aCons (fCall rec_ (aCons (fVar 0) (aCons (fVar 1) (aCons (fOp subI (fVar 2) (fC (.int 1))) aNil)))) (aCons (fCall rec_ (aCons (fVar 0) (aCons (fVar 1) (aCons (fOp subI (fVar 2) (fC (.int 1))) aNil)))) aNil))) (gN 4)) (sRet (fOp opAdd (fMk mkTup (aCons (fCall m__law_one_of (aCons (fVar 0) (aCons (fMk mkLst (aCons (fC (.str (Str.ofString "and"))) (aCons (fC (.str (Str.ofString "or"))) aNil))) aNil))) aNil)) (fVar 4)))))))
noncomputable def m__law_condition : Nat → FM
  | 0 => fun _ _ => none
  | n + 1 => mOf N__law_condition.length (g__law_condition (m__law_condition n))
theorem d__law_condition (T : Txt K mg) : ∀ n : Nat, FnD P w K mg base (4 + n) T.a__law_condition T.f__law_condition ["tape", "width", "depth"] (m__law_condition n)
  | 0 => FnD.nil
  | n + 1 => by
    have ih : FnD P w K mg base (4 + n) T.a__law_condition T.f__law_condition ["tape", "width", "depth"] (m__law_condition n) := d__law_condition T n
    exact FnD.of (k := 4 + n) T.F__law_condition sc__law_condition fun cd A outer s H gx => (ds_cons (ds_asg (de_call ((d__law_pick T).up (by omega)) gx (by rfl) T.g__law_pick T.F__law_pick.kp T.b__law_pick (da_cons (de_var 0) (da_cons de_int da_nil)) (hn := (aCons_n (aCons_n aNil_n)))) (dg_name 3 gx.nd)) (ds_cons (ds_if (dt_w (dw_or (dt_cmp (ok_eq gx) (de_var 2) de_int) (dw_or1 (dt_cmp ok_lt (de_var 3) de_int)))) (ds_one (ds_ret (de_call ((d__law_test T).up (by omega)) gx (by rfl) T.g__law_test T.F__law_test.kp T.b__law_test (da_cons (de_var 0) (da_cons (de_var 1) da_nil)) (hn := (aCons_n (aCons_n aNil_n)))))) ds_nil) (ds_cons (ds_if (dt_cmp (ok_eq gx) (de_var 3) de_int) (ds_one (ds_ret (de_tup (da_cons de_str (da_cons (de_call ih gx (by rfl) T.g__law_condition T.F__law_condition.kp T.b__law_condition (da_cons (de_var 0) (da_cons (de_var 1) (da_cons (de_op ok_subI (de_var 2) de_int) da_nil))) (hn := (aCons_n (aCons_n (aCons_n aNil_n))))) da_nil))))) ds_nil) (ds_cons (ds_asg (de_tup (da_cons (de_call ih gx (by rfl) T.g__law_condition T.F__law_condition.kp T.b__law_condition (da_cons (de_var 0) (da_cons (de_var 1) (da_cons (de_op ok_subI (de_var 2) de_int) da_nil))) (hn := (aCons_n (aCons_n (aCons_n aNil_n))))) (da_cons (de_call ih gx (by rfl) T.g__law_condition T.F__law_condition.kp T.b__law_condition (da_cons (de_var 0) (da_cons (de_var 1) (da_cons (de_op ok_subI (de_var 2) de_int) da_nil))) (hn := (aCons_n (aCons_n (aCons_n aNil_n))))) da_nil))) (dg_name 4 gx.nd)) (ds_one (ds_ret (de_op ok_add (de_tup (da_cons (de_call ((d__law_one_of T).up (by omega)) gx (by rfl) T.g__law_one_of T.F__law_one_of.kp T.b__law_one_of (da_cons (de_var 0) (da_cons (de_lst (da_cons de_str (da_cons de_str da_nil))) da_nil)) (hn := (aCons_n (aCons_n aNil_n)))) da_nil)) (de_var 4))))))))
noncomputable def g__law_view : FS := (sSeq (sAsg (fMk mkTup (aCons (fC (.str (Str.ofString "all"))) aNil)) (gN 2)) (sSeq (sIf (fTest (fOp opEq (fCall m__law_pick (aCons (fVar 0) (aCons (fC (.int 2)) aNil))) (fC (.int 0)))) (sAsg (fCall (m__law_condition 3) (aCons (fVar 0) (aCons (fVar 1) (aCons (fC (.int 2)) aNil)))) (gN 2)) sNil) (sSeq (sAsg (fNewL aNil) (gN 3)) (sSeq (sFor (iOfA asR1 (aCons (fCall m__law_pick (aCons (fVar 0) (aCons (fC (.int 7)) aNil))) aNil)) (gN 4) (sSeq (sAsg (fCall m__law_pick (aCons (fVar 0) (aCons (fVar 1) aNil))) (gN 5)) (sIf (fAndT (fTest (fOp opLt (fMk bLen (aCons (fVar 3) aNil)) (fC (.int 4)))) (fTest (fOp (inSeq true) (fVar 5) (fCompG (iRefL (fVar 3)) [7] b1 tTrue (fSub (fVar 7) (fC (.int 0))))))) (sDrop (fApp (fVar 3) (fMk mkTup (aCons (fVar 5) (aCons (fOp opEq (fCall m__law_pick (aCons (fVar 0) (aCons (fC (.int 2)) aNil))) (fC (.int 0))) aNil))))) sNil))) (sSeq (sAsg (fMk bTuple (aCons (fComp (iOfA asR1 (aCons (fVar 1) aNil)) [5] b1 (fTest (fOp opGt (fCall m__law_pick (aCons (fVar 0) (aCons (fC (.int 3)) aNil))) (fC (.int 0)))) (fVar 5)) aNil)) (gN 6)) (sRet (fMk mkTup (aCons (fVar 2) (aCons (fMk bTuple (aCons (fVar 3) aNil)) (aCons (fVar 6) aNil))))))))))
noncomputable def m__law_view : FM := mOf N__law_view.length g__law_view
theorem d__law_view (T : Txt K mg) : FnD P w K mg base 8 T.a__law_view T.f__law_view ["tape", "width"] m__law_view := FnD.of T.F__law_view sc__law_view fun cd A outer s H gx => (ds_cons (ds_asg (de_tup (da_cons de_str da_nil)) (dg_name 2 gx.nd)) (ds_cons (ds_if (dt_cmp (ok_eq gx) (de_call ((d__law_pick T).up (by decide)) gx (by rfl) T.g__law_pick T.F__law_pick.kp T.b__law_pick (da_cons (de_var 0) (da_cons de_int da_nil)) (hn := (aCons_n (aCons_n aNil_n)))) de_int) (ds_one (ds_asg (de_call ((d__law_condition T 3).up (by decide)) gx (by rfl) T.g__law_condition T.F__law_condition.kp T.b__law_condition (da_cons (de_var 0) (da_cons (de_var 1) (da_cons de_int da_nil))) (hn := (aCons_n (aCons_n (aCons_n aNil_n))))) (dg_name 2 gx.nd))) ds_nil) (ds_cons (ds_asg (de_newL da_nil) (dg_name 3 gx.nd)) (ds_cons (ds_forR PassesOwn.never gx.calm (di_range1 (by rfl) T.n_range (da_cons (de_call ((d__law_pick T).up (by decide)) gx (by rfl) T.g__law_pick T.F__law_pick.kp T.b__law_pick (da_cons (de_var 0) (da_cons de_int da_nil)) (hn := (aCons_n (aCons_n aNil_n)))) da_nil)) (dg_name 4 gx.nd) (ds_cons (ds_asg (de_call ((d__law_pick T).up (by decide)) gx (by rfl) T.g__law_pick T.F__law_pick.kp T.b__law_pick (da_cons (de_var 0) (da_cons (de_var 1) da_nil)) (hn := (aCons_n (aCons_n aNil_n)))) (dg_name 5 gx.nd)) (ds_one (ds_if (dt_w (dw_and (dt_cmp ok_lt (de_callB (id := "len") ok_len (by rfl) T.n_len (by decide +kernel) (da_cons (de_var 3) da_nil)) de_int) (dw_and1 (dt_cmp ok_notin (de_var 5) (de_lcG (own := [("pair", 7)]) gx.calm gx.nd (di_refL (de_var 3)) (blkOk_by (N := N__law_view) (sc := defScope s__law_view) (by decide +kernel)) (tg1 7) (fun _ _ _ _ _ => (pg_name (i := 7) gx.nd rfl (.inl rfl))) (fun _ _ _ _ _ => dts_nil) (fun _ _ _ _ _ => (de_sub gx.blk (de_var 7) de_int))))))) (ds_one (ds_expr (de_append (de_var 3) (de_tup (da_cons (de_var 5) (da_cons (de_cmp (ok_eq gx) (de_call ((d__law_pick T).up (by decide)) gx (by rfl) T.g__law_pick T.F__law_pick.kp T.b__law_pick (da_cons (de_var 0) (da_cons de_int da_nil)) (hn := (aCons_n (aCons_n aNil_n)))) de_int) da_nil)))))) ds_nil)))) (ds_cons (ds_asg (de_callTy (T := "tuple") ok_tuple (by rfl) T.n_tuple (by decide +kernel) (da_cons (de_lc (own := [("column", 5)]) gx.calm gx.nd (di_range1 (by rfl) T.n_range (da_cons (de_var 1) da_nil)) (blkOk_by (N := N__law_view) (sc := defScope s__law_view) (by decide +kernel)) (tg1 5) (fun _ _ _ _ _ => (pg_name (i := 5) gx.nd rfl (.inl rfl))) (fun _ _ _ _ _ => (dts_one (dt_cmp ok_gt (de_call ((d__law_pick T).up (by decide)) gx.blk (by rfl) T.g__law_pick T.F__law_pick.kp T.b__law_pick (da_cons (de_var 0) (da_cons de_int da_nil)) (hn := (aCons_n (aCons_n aNil_n)))) de_int))) (fun _ _ _ _ _ => (de_var 5))) da_nil)) (dg_name 6 gx.nd)) (ds_one (ds_ret (de_tup (da_cons (de_var 2) (da_cons (de_callTy (T := "tuple") ok_tuple (by rfl) T.n_tuple (by decide +kernel) (da_cons (de_var 3) da_nil)) (da_cons (de_var 6) da_nil)))))))))))
noncomputable def g__law_rank : FS := (sSeq (sIf (fTest (fOp opIs (fVar 0) (fC .non))) (sRet (fMk mkTup (aCons (fC (.int 0)) (aCons (fC (.int 0)) aNil)))) sNil) (sRet (fIfE (fTest (fIsi "str" (fVar 0))) (fMk mkTup (aCons (fC (.int 2)) (aCons (fVar 0) aNil))) (fMk mkTup (aCons (fC (.int 1)) (aCons (fVar 0) aNil))))))
noncomputable def m__law_rank : FM := mOf N__law_rank.length g__law_rank
theorem d__law_rank (T : Txt K mg) : FnD P w K mg base 1 T.a__law_rank T.f__law_rank ["value"] m__law_rank := FnD.of T.F__law_rank sc__law_rank fun cd A outer s H gx => (ds_cons (ds_if (dt_cmp ok_is (de_var 0) de_non) (ds_one (ds_ret (de_tup (da_cons de_int (da_cons de_int da_nil))))) ds_nil) (ds_one (ds_ret (de_if (dt_val (de_isi (T := "str") (de_var 0) (by decide) (by rfl) T.n_isinstance (by rfl) T.n_str (by decide +kernel))) (de_tup (da_cons de_int (da_cons (de_var 0) da_nil))) (de_tup (da_cons de_int (da_cons (de_var 0) da_nil)))))))
noncomputable def g__law_key : FS := (sRet (fOp opAdd (fMk bTuple (aCons (fComp (iOf asT (fSub (fVar 0) (fC (.int 1)))) [3, 4] (bTup 2 (bCons b1 (bCons b1 bNil))) tTrue (fSub (fVar 2) (fVar 3))) aNil)) (fMk mkTup (aCons (fVar 1) aNil))))
noncomputable def m__law_key : FM := mOf N__law_key.length g__law_key
theorem d__law_key (T : Txt K mg) : FnD P w K mg base 1 T.a__law_key T.f__law_key ["view", "number", "values"] m__law_key := FnD.of T.F__law_key sc__law_key fun cd A outer s H gx => (ds_one (ds_ret (de_op ok_add (de_callTy (T := "tuple") ok_tuple (by rfl) T.n_tuple (by decide +kernel) (da_cons (de_lc (own := [("column", 3), ("falling", 4)]) gx.calm gx.nd (di_tup (de_sub gx (de_var 0) de_int)) (blkOk_by (N := N__law_key) (sc := defScope s__law_key) (by decide +kernel)) (tg_tupR (n := 2) (tgs_cons (tg1 3) b1_n (tgs_cons (tg1 4) b1_n tgs_nil))) (fun _ _ _ _ _ => (pg_tup (n := 2) gx.calm (pgs_cons (pg_name (i := 3) gx.nd rfl (.inl rfl)) (pgs_cons (pg_name (i := 4) gx.nd rfl (.inl rfl)) pgs_nil)))) (fun _ _ _ _ _ => dts_nil) (fun _ _ _ _ _ => (de_sub gx.blk (de_var 2) (de_var 3)))) da_nil)) (de_tup (da_cons (de_var 1) da_nil)))))
noncomputable def g__law_sign : FS := (sSeq (sFor (iOfA asEnT (aCons (fSub (fVar 0) (fC (.int 1))) aNil)) (gT 2 (gCons' (gN 3) (gCons' (gN 4) gNil'))) (sSeq (sPar (par2 5 6) (aCons (fCall m__law_rank (aCons (fSub (fVar 1) (fVar 3)) aNil)) (aCons (fCall m__law_rank (aCons (fSub (fVar 2) (fVar 3)) aNil)) aNil))) (sIf (fTest (fOp opNe (fVar 5) (fVar 6))) (sRet (fIfE (fTest (fOp opEq (fOp opLtD (fVar 5) (fVar 6)) (fSub (fVar 4) (fC (.int 1))))) (fC (.int 1)) (fOp subI (fC (.int 0)) (fC (.int 1))))) sNil))) (sRet (fOp subB (fOp opGt (fSub (fVar 1) (fUn negI (fC (.int 1)))) (fSub (fVar 2) (fUn negI (fC (.int 1))))) (fOp opLt (fSub (fVar 1) (fUn negI (fC (.int 1)))) (fSub (fVar 2) (fUn negI (fC (.int 1))))))))
noncomputable def m__law_sign : FM := mOf N__law_sign.length g__law_sign
theorem d__law_sign (T : Txt K mg) : FnD P w K mg base 2 T.a__law_sign T.f__law_sign ["view", "first", "second"] m__law_sign := FnD.of T.F__law_sign sc__law_sign fun cd A outer s H gx => (ds_cons (ds_forR PassesOwn.never gx.calm (di_enumT (by rfl) T.n_enumerate (da_cons (de_sub gx (de_var 0) de_int) da_nil)) (dg_tupI gx.calm (dgs_cons (dg_name 3 gx.nd) (dgs_cons (dg_name 4 gx.nd) dgs_nil))) (ds_cons (ds_par2 5 6 gx rfl rfl (by decide) rfl rfl (da_cons (de_call ((d__law_rank T).up (by decide)) gx (by rfl) T.g__law_rank T.F__law_rank.kp T.b__law_rank (da_cons (de_sub gx (de_var 1) (de_var 3)) da_nil) (hn := (aCons_n aNil_n))) (da_cons (de_call ((d__law_rank T).up (by decide)) gx (by rfl) T.g__law_rank T.F__law_rank.kp T.b__law_rank (da_cons (de_sub gx (de_var 2) (de_var 3)) da_nil) (hn := (aCons_n aNil_n))) da_nil))) (ds_one (ds_if (dt_cmp (ok_ne gx) (de_var 5) (de_var 6)) (ds_one (ds_ret (de_if (dt_cmp (ok_eq gx) (de_cmp (ok_ltD gx) (de_var 5) (de_var 6)) (de_sub gx (de_var 4) de_int)) de_int (de_op ok_subI de_int de_int)))) ds_nil)))) (ds_one (ds_ret (de_op ok_subB (de_cmp ok_gt (de_sub gx (de_var 1) (de_neg de_int)) (de_sub gx (de_var 2) (de_neg de_int))) (de_cmp ok_lt (de_sub gx (de_var 1) (de_neg de_int)) (de_sub gx (de_var 2) (de_neg de_int)))))))
noncomputable def g__law_mark : FS := (sSeq (sAsg (fCall m__law_pick (aCons (fVar 0) (aCons (fC (.int 7)) aNil))) (gN 3)) (sSeq (sIf (fTest (fOp opLt (fVar 3) (fC (.int 2)))) (sRet (fSub (fMk mkLst (aCons (fMk mkTup (aCons (fC (.str (Str.ofString "start"))) aNil)) (aCons (fMk mkTup (aCons (fC (.str (Str.ofString "end"))) aNil)) aNil))) (fVar 3))) sNil) (sSeq (sAsg (fCall m__law_key (aCons (fVar 1) (aCons (fOp opAdd (fC (.int 1)) (fCall m__law_pick (aCons (fVar 0) (aCons (fC (.int 9)) aNil)))) (aCons (fCall m__law_values (aCons (fVar 0) (aCons (fVar 2) aNil))) aNil)))) (gN 4)) (sRet (fMk mkTup (aCons (fCall m__law_one_of (aCons (fVar 0) (aCons (fMk mkLst (aCons (fC (.str (Str.ofString "before"))) (aCons (fC (.str (Str.ofString "after"))) aNil))) aNil))) (aCons (fVar 4) aNil)))))))
noncomputable def m__law_mark : FM := mOf N__law_mark.length g__law_mark
theorem d__law_mark (T : Txt K mg) : FnD P w K mg base 5 T.a__law_mark T.f__law_mark ["tape", "view", "width"] m__law_mark := FnD.of T.F__law_mark sc__law_mark fun cd A outer s H gx => (ds_cons (ds_asg (de_call ((d__law_pick T).up (by decide)) gx (by rfl) T.g__law_pick T.F__law_pick.kp T.b__law_pick (da_cons (de_var 0) (da_cons de_int da_nil)) (hn := (aCons_n (aCons_n aNil_n)))) (dg_name 3 gx.nd)) (ds_cons (ds_if (dt_cmp ok_lt (de_var 3) de_int) (ds_one (ds_ret (de_sub gx (de_lst (da_cons (de_tup (da_cons de_str da_nil)) (da_cons (de_tup (da_cons de_str da_nil)) da_nil))) (de_var 3)))) ds_nil) (ds_cons (ds_asg (de_call ((d__law_key T).up (by decide)) gx (by rfl) T.g__law_key T.F__law_key.kp T.b__law_key (da_cons (de_var 1) (da_cons (de_op ok_add de_int (de_call ((d__law_pick T).up (by decide)) gx (by rfl) T.g__law_pick T.F__law_pick.kp T.b__law_pick (da_cons (de_var 0) (da_cons de_int da_nil)) (hn := (aCons_n (aCons_n aNil_n))))) (da_cons (de_call ((d__law_values T).up (by decide)) gx (by rfl) T.g__law_values T.F__law_values.kp T.b__law_values (da_cons (de_var 0) (da_cons (de_var 2) da_nil)) (hn := (aCons_n (aCons_n aNil_n)))) da_nil))) (hn := (aCons_n (aCons_n (aCons_n aNil_n))))) (dg_name 4 gx.nd)) (ds_one (ds_ret (de_tup (da_cons (de_call ((d__law_one_of T).up (by decide)) gx (by rfl) T.g__law_one_of T.F__law_one_of.kp T.b__law_one_of (da_cons (de_var 0) (da_cons (de_lst (da_cons de_str (da_cons de_str da_nil))) da_nil)) (hn := (aCons_n (aCons_n aNil_n)))) (da_cons (de_var 4) da_nil))))))))
noncomputable def g__law_marks : FS := (sSeq (sPar (par2 3 4) (aCons (fCall m__law_mark (aCons (fVar 0) (aCons (fVar 1) (aCons (fVar 2) aNil)))) (aCons (fCall m__law_mark (aCons (fVar 0) (aCons (fVar 1) (aCons (fVar 2) aNil)))) aNil))) (sSeq (sIf (fOrT (fTest (fOp opEq (fVar 3) (fMk mkTup (aCons (fC (.str (Str.ofString "end"))) aNil)))) (fTest (fOp opEq (fVar 4) (fMk mkTup (aCons (fC (.str (Str.ofString "start"))) aNil))))) (sRet (fIfE (fAndT (fTest (fOp opNe (fVar 4) (fMk mkTup (aCons (fC (.str (Str.ofString "end"))) aNil)))) (fTest (fOp opNe (fVar 3) (fMk mkTup (aCons (fC (.str (Str.ofString "start"))) aNil))))) (fMk mkTup (aCons (fVar 4) (aCons (fVar 3) aNil))) (fMk mkTup (aCons (fMk mkTup (aCons (fC (.str (Str.ofString "start"))) aNil)) (aCons (fMk mkTup (aCons (fC (.str (Str.ofString "end"))) aNil)) aNil))))) sNil) (sSeq (sIf (fAndT (fTest (fOp opEq (fMk bLen (aCons (fVar 3) aNil)) (fC (.int 2)))) (fTest (fOp opEq (fMk bLen (aCons (fVar 4) aNil)) (fC (.int 2))))) (sSeq (sAsg (fCall m__law_sign (aCons (fVar 1) (aCons (fSub (fVar 3) (fC (.int 1))) (aCons (fSub (fVar 4) (fC (.int 1))) aNil)))) (gN 5)) (sIf (fOrT (fTest (fOp opGt (fVar 5) (fC (.int 0)))) (fAndT (fTest (fOp opEq (fVar 5) (fC (.int 0)))) (fTest (fOp opEq (fSub (fVar 3) (fC (.int 0))) (fC (.str (Str.ofString "after"))))))) (sRet (fMk mkTup (aCons (fVar 4) (aCons (fVar 3) aNil)))) sNil)) sNil) (sRet (fMk mkTup (aCons (fVar 3) (aCons (fVar 4) aNil)))))))
noncomputable def m__law_marks : FM := mOf N__law_marks.length g__law_marks
theorem d__law_marks (T : Txt K mg) : FnD P w K mg base 6 T.a__law_marks T.f__law_marks ["tape", "view", "width"] m__law_marks := FnD.of T.F__law_marks sc__law_marks fun cd A outer s H gx => (ds_cons (ds_par2 3 4 gx rfl rfl (by decide) rfl rfl (da_cons (de_call ((d__law_mark T).up (by decide)) gx (by rfl) T.g__law_mark T.F__law_mark.kp T.b__law_mark (da_cons (de_var 0) (da_cons (de_var 1) (da_cons (de_var 2) da_nil))) (hn := (aCons_n (aCons_n (aCons_n aNil_n))))) (da_cons (de_call ((d__law_mark T).up (by decide)) gx (by rfl) T.g__law_mark T.F__law_mark.kp T.b__law_mark (da_cons (de_var 0) (da_cons (de_var 1) (da_cons (de_var 2) da_nil))) (hn := (aCons_n (aCons_n (aCons_n aNil_n))))) da_nil))) (ds_cons (ds_if (dt_w (dw_or (dt_cmp (ok_eq gx) (de_var 3) (de_tup (da_cons de_str da_nil))) (dw_or1 (dt_cmp (ok_eq gx) (de_var 4) (de_tup (da_cons de_str da_nil)))))) (ds_one (ds_ret (de_if (dt_w (dw_and (dt_cmp (ok_ne gx) (de_var 4) (de_tup (da_cons de_str da_nil))) (dw_and1 (dt_cmp (ok_ne gx) (de_var 3) (de_tup (da_cons de_str da_nil)))))) (de_tup (da_cons (de_var 4) (da_cons (de_var 3) da_nil))) (de_tup (da_cons (de_tup (da_cons de_str da_nil)) (da_cons (de_tup (da_cons de_str da_nil)) da_nil)))))) ds_nil) (ds_cons (ds_if (dt_w (dw_and (dt_cmp (ok_eq gx) (de_callB (id := "len") ok_len (by rfl) T.n_len (by decide +kernel) (da_cons (de_var 3) da_nil)) de_int) (dw_and1 (dt_cmp (ok_eq gx) (de_callB (id := "len") ok_len (by rfl) T.n_len (by decide +kernel) (da_cons (de_var 4) da_nil)) de_int)))) (ds_cons (ds_asg (de_call ((d__law_sign T).up (by decide)) gx (by rfl) T.g__law_sign T.F__law_sign.kp T.b__law_sign (da_cons (de_var 1) (da_cons (de_sub gx (de_var 3) de_int) (da_cons (de_sub gx (de_var 4) de_int) da_nil))) (hn := (aCons_n (aCons_n (aCons_n aNil_n))))) (dg_name 5 gx.nd)) (ds_one (ds_if (dt_w (dw_or (dt_cmp ok_gt (de_var 5) de_int) (dw_or1 (dt_w (dw_and (dt_cmp (ok_eq gx) (de_var 5) de_int) (dw_and1 (dt_cmp (ok_eq gx) (de_sub gx (de_var 3) de_int) de_str))))))) (ds_one (ds_ret (de_tup (da_cons (de_var 4) (da_cons (de_var 3) da_nil))))) ds_nil))) ds_nil) (ds_one (ds_ret (de_tup (da_cons (de_var 3) (da_cons (de_var 4) da_nil))))))))
noncomputable def g__law_integer : FS := (sRet (fAnd (fIsi "int" (fVar 0)) (fAnd (fNot (fIsi "bool" (fVar 0))) (fOp opGe (fVar 0) (fVar 1)))))
noncomputable def m__law_integer : FM := mOf N__law_integer.length g__law_integer
theorem d__law_integer (T : Txt K mg) : FnD P w K mg base 1 T.a__law_integer T.f__law_integer ["thing", "least"] m__law_integer := FnD.of T.F__law_integer sc__law_integer fun cd A outer s H gx => (ds_one (ds_ret (de_and (de_isi (T := "int") (de_var 0) (by decide) (by rfl) T.n_isinstance (by rfl) T.n_int (by decide +kernel)) (de_and (de_not (de_isi (T := "bool") (de_var 0) (by decide) (by rfl) T.n_isinstance (by rfl) T.n_bool (by decide +kernel))) (de_one (de_cmp ok_ge (de_var 0) (de_var 1)))))))
noncomputable def g__law_due : FS := (sSeq (sIf (fOrT (fNotT (fTest (fIsi "tuple" (fVar 0)))) (fOrT (fTest (fOp opLt (fMk bLen (aCons (fVar 0) aNil)) (fC (.int 4)))) (fNotT (fTest (fIsi "str" (fSub (fVar 0) (fC (.int 0)))))))) (sRet (fC (.bl false))) sNil) (sSeq (sIf (fOrT (fNotT (fTest (fCall m_is_view (aCons (fSub (fVar 0) (fC (.int 1))) (aCons (fVar 1) aNil))))) (fNotT (fTest (fCall m__law_integer (aCons (fSub (fVar 0) (fC (.int 2))) (aCons (fC (.int 0)) aNil)))))) (sRet (fC (.bl false))) sNil) (sSeq (sIf (fTest (fOp opEqS (fSub (fVar 0) (fC (.int 0))) (fC (.str (Str.ofString "top"))))) (sRet (fAnd (fOp opEq (fMk bLen (aCons (fVar 0) aNil)) (fC (.int 4))) (fAnd (fCall m__law_integer (aCons (fSub (fVar 0) (fC (.int 3))) (aCons (fC (.int 0)) aNil))) (fOp opLe (fSub (fVar 0) (fC (.int 3))) (fOp powI (fC (.int 10)) (fC (.int 6))))))) sNil) (sSeq (sIf (fOrT (fTest (fOp opNeS (fSub (fVar 0) (fC (.int 0))) (fC (.str (Str.ofString "window"))))) (fTest (fOp opNe (fMk bLen (aCons (fVar 0) aNil)) (fC (.int 5))))) (sRet (fC (.bl false))) sNil) (sSeq (sIf (fOrT (fNotT (fTest (fCall m_is_mark (aCons (fSub (fVar 0) (fC (.int 1))) (aCons (fSub (fVar 0) (fC (.int 3))) aNil))))) (fNotT (fTest (fCall m_is_mark (aCons (fSub (fVar 0) (fC (.int 1))) (aCons (fSub (fVar 0) (fC (.int 4))) aNil)))))) (sRet (fC (.bl false))) sNil) (sRet (fOp opLe (fCall m_compare_marks (aCons (fSub (fVar 0) (fC (.int 1))) (aCons (fSub (fVar 0) (fC (.int 3))) (aCons (fSub (fVar 0) (fC (.int 4))) aNil)))) (fC (.int 0)))))))))
noncomputable def m__law_due : FM := mOf N__law_due.length g__law_due
theorem d__law_due (T : Txt K mg) : FnD P w K mg base 16 T.a__law_due T.f__law_due ["thing", "width"] m__law_due := FnD.of T.F__law_due sc__law_due fun cd A outer s H gx => (ds_cons (ds_if (dt_w (dw_or (dt_not (dt_val (de_isi (T := "tuple") (de_var 0) (by decide) (by rfl) T.n_isinstance (by rfl) T.n_tuple (by decide +kernel)))) (dw_or (dt_cmp ok_lt (de_callB (id := "len") ok_len (by rfl) T.n_len (by decide +kernel) (da_cons (de_var 0) da_nil)) de_int) (dw_or1 (dt_not (dt_val (de_isi (T := "str") (de_sub gx (de_var 0) de_int) (by decide) (by rfl) T.n_isinstance (by rfl) T.n_str (by decide +kernel)))))))) (ds_one (ds_ret de_bl)) ds_nil) (ds_cons (ds_if (dt_w (dw_or (dt_not (dt_val (de_call ((d_is_view T).up (by decide)) gx (by rfl) T.g_is_view T.F_is_view.kp T.b_is_view (da_cons (de_sub gx (de_var 0) de_int) (da_cons (de_var 1) da_nil)) (hn := (aCons_n (aCons_n aNil_n)))))) (dw_or1 (dt_not (dt_val (de_call ((d__law_integer T).up (by decide)) gx (by rfl) T.g__law_integer T.F__law_integer.kp T.b__law_integer (da_cons (de_sub gx (de_var 0) de_int) (da_cons de_int da_nil)) (hn := (aCons_n (aCons_n aNil_n))))))))) (ds_one (ds_ret de_bl)) ds_nil) (ds_cons (ds_if (dt_cmp ok_eqS (de_sub gx (de_var 0) de_int) de_str) (ds_one (ds_ret (de_and (de_cmp (ok_eq gx) (de_callB (id := "len") ok_len (by rfl) T.n_len (by decide +kernel) (da_cons (de_var 0) da_nil)) de_int) (de_and (de_call ((d__law_integer T).up (by decide)) gx (by rfl) T.g__law_integer T.F__law_integer.kp T.b__law_integer (da_cons (de_sub gx (de_var 0) de_int) (da_cons de_int da_nil)) (hn := (aCons_n (aCons_n aNil_n)))) (de_one (de_cmp ok_le (de_sub gx (de_var 0) de_int) (de_op ok_powI de_int de_int))))))) ds_nil) (ds_cons (ds_if (dt_w (dw_or (dt_cmp ok_neS (de_sub gx (de_var 0) de_int) de_str) (dw_or1 (dt_cmp (ok_ne gx) (de_callB (id := "len") ok_len (by rfl) T.n_len (by decide +kernel) (da_cons (de_var 0) da_nil)) de_int)))) (ds_one (ds_ret de_bl)) ds_nil) (ds_cons (ds_if (dt_w (dw_or (dt_not (dt_val (de_call ((d_is_mark T).up (by decide)) gx (by rfl) T.g_is_mark T.F_is_mark.kp T.b_is_mark (da_cons (de_sub gx (de_var 0) de_int) (da_cons (de_sub gx (de_var 0) de_int) da_nil)) (hn := (aCons_n (aCons_n aNil_n)))))) (dw_or1 (dt_not (dt_val (de_call ((d_is_mark T).up (by decide)) gx (by rfl) T.g_is_mark T.F_is_mark.kp T.b_is_mark (da_cons (de_sub gx (de_var 0) de_int) (da_cons (de_sub gx (de_var 0) de_int) da_nil)) (hn := (aCons_n (aCons_n aNil_n))))))))) (ds_one (ds_ret de_bl)) ds_nil) (ds_one (ds_ret (de_cmp ok_le (de_call ((d_compare_marks T).up (by decide)) gx (by rfl) T.g_compare_marks T.F_compare_marks.kp T.b_compare_marks (da_cons (de_sub gx (de_var 0) de_int) (da_cons (de_sub gx (de_var 0) de_int) (da_cons (de_sub gx (de_var 0) de_int) da_nil))) (hn := (aCons_n (aCons_n (aCons_n aNil_n))))) de_int))))))))
noncomputable def g__law_bent (rec_ : FM) : FS := (sSeq (sAsg (fMk mkLst (aCons (fC .non) (aCons (fC (.int 0)) (aCons (fUn negI (fC (.int 1))) (aCons (fC (.bl true)) (aCons (fOp powI (fC (.int 10)) (fC (.int 6))) (aCons (fOp opAdd (fOp powI (fC (.int 10)) (fC (.int 6))) (fC (.int 1))) (aCons (fOp powI (fC (.int 10)) (fC (.int 59))) (aCons (fC (.str (Str.ofString "window"))) (aCons (fC (.str (Str.ofString "top"))) (aCons (fC (.str (Str.ofString ""))) (aCons (fMk mkTup aNil) (aCons (fMk mkLst aNil) (aCons (fMk mkTup (aCons (fC (.str (Str.ofString "start"))) aNil)) (aCons (fMk mkTup (aCons (fC (.str (Str.ofString "end"))) aNil)) (aCons (fC (.dct [])) aNil)))))))))))))))) (gN 2)) (sSeq (sIf (fOrT (fNotT (fTest (fIsi "tuple" (fVar 1)))) (fOrT (fTest (fOp opEqA (fVar 1) (fMk mkTup aNil))) (fTest (fOp opEq (fCall m__law_pick (aCons (fVar 0) (aCons (fC (.int 8)) aNil))) (fC (.int 0)))))) (sRet (fCall m__law_one_of (aCons (fVar 0) (aCons (fVar 2) aNil)))) sNil) (sSeq (sPar (par2 3 4) (aCons (fCall m__law_pick (aCons (fVar 0) (aCons (fMk bLen (aCons (fVar 1) aNil)) aNil))) (aCons (fCall m__law_pick (aCons (fVar 0) (aCons (fC (.int 10)) aNil))) aNil))) (sSeq (sIf (fTest (fOp opEq (fVar 4) (fC (.int 0)))) (sRet (fOp opAdd (fSlice (fVar 1) oNone (oSome (fVar 3))) (fSlice (fVar 1) (oSome (fOp opAdd (fVar 3) (fC (.int 1)))) oNone))) sNil) (sSeq (sIf (fTest (fOp opEq (fVar 4) (fC (.int 1)))) (sRet (fOp opAdd (fSlice (fVar 1) oNone (oSome (fOp opAdd (fVar 3) (fC (.int 1))))) (fSlice (fVar 1) (oSome (fVar 3)) oNone))) sNil) (sSeq (sIf (fTest (fOp opEq (fVar 4) (fC (.int 2)))) (sRet (fOp opAdd (fOp opAdd (fSlice (fVar 1) oNone (oSome (fVar 3))) (fMk mkTup (aCons (fCall m__law_one_of (aCons (fVar 0) (aCons (fVar 1) aNil))) aNil))) (fSlice (fVar 1) (oSome (fOp opAdd (fVar 3) (fC (.int 1)))) oNone))) sNil) (sSeq (sIf (fTest (fOp opEq (fVar 4) (fC (.int 3)))) (sRet (fMk bList (aCons (fVar 1) aNil))) sNil) (sSeq (sIf (fTest (fOp opEq (fVar 4) (fC (.int 4)))) (sRet (fOp opAdd (fSlice (fVar 1) oNone (oSome (fUn negI (fC (.int 2))))) (fRevT (fSlice (fVar 1) (oSome (fUn negI (fC (.int 2)))) oNone)))) sNil) (sRet (fOp opAdd (fOp opAdd (fSlice (fVar 1) oNone (oSome (fVar 3))) (fMk mkTup (aCons (fCall rec_ (aCons (fVar 0) (aCons (fSub (fVar 1) (fVar 3)) aNil))) aNil))) (fSlice (fVar 1) (oSome (fOp opAdd (fVar 3) (fC (.int 1)))) oNone)))))))))))
noncomputable def m__law_bent : Nat → FM
  | 0 => fun _ _ => none
  | n + 1 => mOf N__law_bent.length (g__law_bent (m__law_bent n))
theorem d__law_bent (T : Txt K mg) : ∀ n : Nat, FnD P w K mg base (2 + n) T.a__law_bent T.f__law_bent ["tape", "thing"] (m__law_bent n)
  | 0 => FnD.nil
  | n + 1 => by
    have ih : FnD P w K mg base (2 + n) T.a__law_bent T.f__law_bent ["tape", "thing"] (m__law_bent n) := d__law_bent T n
    exact FnD.of (k := 2 + n) T.F__law_bent sc__law_bent fun cd A outer s H gx => (ds_cons (ds_asg (de_lst (da_cons de_non (da_cons de_int (da_cons (de_neg de_int) (da_cons de_bl (da_cons (de_op ok_powI de_int de_int) (da_cons (de_op ok_add (de_op ok_powI de_int de_int) de_int) (da_cons (de_op ok_powI de_int de_int) (da_cons de_str (da_cons de_str (da_cons de_str (da_cons (de_tup da_nil) (da_cons (de_lst da_nil) (da_cons (de_tup (da_cons de_str da_nil)) (da_cons (de_tup (da_cons de_str da_nil)) (da_cons de_dict0 da_nil)))))))))))))))) (dg_name 2 gx.nd)) (ds_cons (ds_if (dt_w (dw_or (dt_not (dt_val (de_isi (T := "tuple") (de_var 1) (by decide) (by rfl) T.n_isinstance (by rfl) T.n_tuple (by decide +kernel)))) (dw_or (dt_cmp (ok_eqA gx) (de_var 1) (de_tup da_nil)) (dw_or1 (dt_cmp (ok_eq gx) (de_call ((d__law_pick T).up (by omega)) gx (by rfl) T.g__law_pick T.F__law_pick.kp T.b__law_pick (da_cons (de_var 0) (da_cons de_int da_nil)) (hn := (aCons_n (aCons_n aNil_n)))) de_int))))) (ds_one (ds_ret (de_call ((d__law_one_of T).up (by omega)) gx (by rfl) T.g__law_one_of T.F__law_one_of.kp T.b__law_one_of (da_cons (de_var 0) (da_cons (de_var 2) da_nil)) (hn := (aCons_n (aCons_n aNil_n)))))) ds_nil) (ds_cons (ds_par2 3 4 gx rfl rfl (by decide) rfl rfl (da_cons (de_call ((d__law_pick T).up (by omega)) gx (by rfl) T.g__law_pick T.F__law_pick.kp T.b__law_pick (da_cons (de_var 0) (da_cons (de_callB (id := "len") ok_len (by rfl) T.n_len (by decide +kernel) (da_cons (de_var 1) da_nil)) da_nil)) (hn := (aCons_n (aCons_n aNil_n)))) (da_cons (de_call ((d__law_pick T).up (by omega)) gx (by rfl) T.g__law_pick T.F__law_pick.kp T.b__law_pick (da_cons (de_var 0) (da_cons de_int da_nil)) (hn := (aCons_n (aCons_n aNil_n)))) da_nil))) (ds_cons (ds_if (dt_cmp (ok_eq gx) (de_var 4) de_int) (ds_one (ds_ret (de_op ok_add (de_slice (de_var 1) do_none (do_some (de_var 3))) (de_slice (de_var 1) (do_some (de_op ok_add (de_var 3) de_int)) do_none)))) ds_nil) (ds_cons (ds_if (dt_cmp (ok_eq gx) (de_var 4) de_int) (ds_one (ds_ret (de_op ok_add (de_slice (de_var 1) do_none (do_some (de_op ok_add (de_var 3) de_int))) (de_slice (de_var 1) (do_some (de_var 3)) do_none)))) ds_nil) (ds_cons (ds_if (dt_cmp (ok_eq gx) (de_var 4) de_int) (ds_one (ds_ret (de_op ok_add (de_op ok_add (de_slice (de_var 1) do_none (do_some (de_var 3))) (de_tup (da_cons (de_call ((d__law_one_of T).up (by omega)) gx (by rfl) T.g__law_one_of T.F__law_one_of.kp T.b__law_one_of (da_cons (de_var 0) (da_cons (de_var 1) da_nil)) (hn := (aCons_n (aCons_n aNil_n)))) da_nil))) (de_slice (de_var 1) (do_some (de_op ok_add (de_var 3) de_int)) do_none)))) ds_nil) (ds_cons (ds_if (dt_cmp (ok_eq gx) (de_var 4) de_int) (ds_one (ds_ret (de_callTy (T := "list") (ok_list gx) (by rfl) T.n_list (by decide +kernel) (da_cons (de_var 1) da_nil)))) ds_nil) (ds_cons (ds_if (dt_cmp (ok_eq gx) (de_var 4) de_int) (ds_one (ds_ret (de_op ok_add (de_slice (de_var 1) do_none (do_some (de_neg de_int))) (de_revT (de_slice (de_var 1) (do_some (de_neg de_int)) do_none))))) ds_nil) (ds_one (ds_ret (de_op ok_add (de_op ok_add (de_slice (de_var 1) do_none (do_some (de_var 3))) (de_tup (da_cons (de_call ih gx (by rfl) T.g__law_bent T.F__law_bent.kp T.b__law_bent (da_cons (de_var 0) (da_cons (de_sub gx (de_var 1) (de_var 3)) da_nil)) (hn := (aCons_n (aCons_n aNil_n)))) da_nil))) (de_slice (de_var 1) (do_some (de_op ok_add (de_var 3) de_int)) do_none))))))))))))
noncomputable def g_law : FS := (sSeq (sFor (iOfA asR1 (aCons (fMk bMax (aCons (fC (.int 2)) (aCons (fMk bMin (aCons (fC (.int 5)) (aCons (fMk bLen (aCons (fVar 0) aNil)) aNil))) aNil))) aNil)) (gN 1) (sSeq (sAsg (fCall m__law_tape (aCons (fVar 0) (aCons (fVar 1) aNil))) (gN 2)) (sSeq (sAsg (fOp opAdd (fC (.int 1)) (fCall m__law_pick (aCons (fVar 2) (aCons (fC (.int 4)) aNil)))) (gN 3)) (sSeq (sAsg (fCall m__law_view (aCons (fVar 2) (aCons (fVar 3) aNil))) (gN 4)) (sSeq (sAsg (fNewL (aCons (fOp opAdd (fMk mkTup (aCons (fC (.str (Str.ofString "window"))) (aCons (fVar 4) (aCons (fCall m__law_pick (aCons (fVar 2) (aCons (fC (.int 9)) aNil))) aNil)))) (fCall m__law_marks (aCons (fVar 2) (aCons (fVar 4) (aCons (fVar 3) aNil))))) aNil)) (gN 5)) (sSeq (sDrop (fApp (fVar 5) (fMk mkTup (aCons (fC (.str (Str.ofString "top"))) (aCons (fVar 4) (aCons (fCall m__law_pick (aCons (fVar 2) (aCons (fC (.int 9)) aNil))) (aCons (fCall m__law_one_of (aCons (fVar 2) (aCons (fMk mkLst (aCons (fC (.int 0)) (aCons (fC (.int 1)) (aCons (fC (.int 7)) (aCons (fOp powI (fC (.int 10)) (fC (.int 6))) aNil))))) aNil))) aNil))))))) (sSeq (sFrzL 5) (sFor (iOf asL (fVar 5)) (gN 6) (sSeq (sAsg (fNewL (aCons (fVar 6) aNil)) (gN 7)) (sSeq (sFor (iOfA asR1 (aCons (fC (.int 7)) aNil)) (gN 8) (sDrop (fApp (fVar 7) (fCall (m__law_bent 16) (aCons (fVar 2) (aCons (fSub (fVar 7) (fOp fdivI (fOp opMul (fCall m__law_pick (aCons (fVar 2) (aCons (fC (.int 2)) aNil))) (fVar 8)) (fC (.int 4)))) aNil)))))) (sSeq (sFrzL 7) (sFor (iOf asL (fVar 7)) (gN 9) (sSeq (sAsg (fMk bReprA (aCons (fVar 9) aNil)) (gN 10)) (sSeq (sAsg (fCall m_is_token (aCons (fVar 9) (aCons (fVar 3) aNil))) (gN 11)) (sIf (fOrT (fNotT (fTest (fIsi "bool" (fVar 11)))) (fOrT (fTest (fOp opNe (fVar 11) (fCall m__law_due (aCons (fVar 9) (aCons (fVar 3) aNil))))) (fTest (fOp opNeS (fMk bReprA (aCons (fVar 9) aNil)) (fVar 10))))) (sRet (fC (.bl false))) sNil))))))))))))))) (sSeq (sFor (iOf asL (fMk mkLst (aCons (fC .non) (aCons (fC (.int 5)) (aCons (fC (.bl true)) (aCons (fC (.str (Str.ofString "window"))) (aCons (fMk mkTup aNil) (aCons (fMk mkLst aNil) (aCons (fC (.dct [])) (aCons (fMk mkTup (aCons (fC (.str (Str.ofString "window"))) aNil)) (aCons (fMk mkTup (aCons (fC (.str (Str.ofString "top"))) (aCons (fC (.int 1)) aNil))) (aCons (fMk mkTup (aCons (fC (.str (Str.ofString "w"))) (aCons (fMk mkTup (aCons (fMk mkTup (aCons (fC (.str (Str.ofString "all"))) aNil)) (aCons (fMk mkTup aNil) (aCons (fMk mkTup aNil) aNil)))) (aCons (fC (.int 0)) (aCons (fC (.int 0)) aNil))))) aNil)))))))))))) (gN 9) (sIf (fTest (fOp opIsnt (fCall m_is_token (aCons (fVar 9) (aCons (fC (.int 3)) aNil))) (fC (.bl false)))) (sRet (fC (.bl false))) sNil)) (sRet (fOp opIs (fCall m_is_token (aCons (fMk mkTup (aCons (fC (.str (Str.ofString "top"))) (aCons (fMk mkTup (aCons (fMk mkTup (aCons (fC (.str (Str.ofString "all"))) aNil)) (aCons (fMk mkTup aNil) (aCons (fMk mkTup aNil) aNil)))) (aCons (fC (.int 0)) (aCons (fC (.int 0)) aNil))))) (aCons (fC (.int 1)) aNil))) (fC (.bl true))))))
noncomputable def m_law : FM := mOf N_law.length g_law
theorem d_law (T : Txt K mg) : FnD P w K mg base 19 T.a_law T.f_law ["script"] m_law := FnD.of T.F_law sc_law fun cd A outer s H gx => (ds_cons (ds_forR PassesOwn.never gx.calm (di_range1 (by rfl) T.n_range (da_cons (de_callB (id := "max") (ok_max gx) (by rfl) T.n_max (by decide +kernel) (da_cons de_int (da_cons (de_callB (id := "min") (ok_min gx) (by rfl) T.n_min (by decide +kernel) (da_cons de_int (da_cons (de_callB (id := "len") ok_len (by rfl) T.n_len (by decide +kernel) (da_cons (de_var 0) da_nil)) da_nil))) da_nil))) da_nil)) (dg_name 1 gx.nd) (ds_cons (ds_asg (de_call ((d__law_tape T).up (by decide)) gx (by rfl) T.g__law_tape T.F__law_tape.kp T.b__law_tape (da_cons (de_var 0) (da_cons (de_var 1) da_nil)) (hn := (aCons_n (aCons_n aNil_n)))) (dg_name 2 gx.nd)) (ds_cons (ds_asg (de_op ok_add de_int (de_call ((d__law_pick T).up (by decide)) gx (by rfl) T.g__law_pick T.F__law_pick.kp T.b__law_pick (da_cons (de_var 2) (da_cons de_int da_nil)) (hn := (aCons_n (aCons_n aNil_n))))) (dg_name 3 gx.nd)) (ds_cons (ds_asg (de_call ((d__law_view T).up (by decide)) gx (by rfl) T.g__law_view T.F__law_view.kp T.b__law_view (da_cons (de_var 2) (da_cons (de_var 3) da_nil)) (hn := (aCons_n (aCons_n aNil_n)))) (dg_name 4 gx.nd)) (ds_cons (ds_asg (de_newL (da_cons (de_op ok_add (de_tup (da_cons de_str (da_cons (de_var 4) (da_cons (de_call ((d__law_pick T).up (by decide)) gx (by rfl) T.g__law_pick T.F__law_pick.kp T.b__law_pick (da_cons (de_var 2) (da_cons de_int da_nil)) (hn := (aCons_n (aCons_n aNil_n)))) da_nil)))) (de_call ((d__law_marks T).up (by decide)) gx (by rfl) T.g__law_marks T.F__law_marks.kp T.b__law_marks (da_cons (de_var 2) (da_cons (de_var 4) (da_cons (de_var 3) da_nil))) (hn := (aCons_n (aCons_n (aCons_n aNil_n)))))) da_nil)) (dg_name 5 gx.nd)) (ds_cons (ds_expr (de_append (de_var 5) (de_tup (da_cons de_str (da_cons (de_var 4) (da_cons (de_call ((d__law_pick T).up (by decide)) gx (by rfl) T.g__law_pick T.F__law_pick.kp T.b__law_pick (da_cons (de_var 2) (da_cons de_int da_nil)) (hn := (aCons_n (aCons_n aNil_n)))) (da_cons (de_call ((d__law_one_of T).up (by decide)) gx (by rfl) T.g__law_one_of T.F__law_one_of.kp T.b__law_one_of (da_cons (de_var 2) (da_cons (de_lst (da_cons de_int (da_cons de_int (da_cons de_int (da_cons (de_op ok_powI de_int de_int) da_nil))))) da_nil)) (hn := (aCons_n (aCons_n aNil_n)))) da_nil))))))) (ds_one (ds_frzL 5 (ds_forR PassesOwn.never gx.calm (di_lst (de_var 5)) (dg_name 6 gx.nd) (ds_cons (ds_asg (de_newL (da_cons (de_var 6) da_nil)) (dg_name 7 gx.nd)) (ds_cons (ds_forR PassesOwn.never gx.calm (di_range1 (by rfl) T.n_range (da_cons de_int da_nil)) (dg_name 8 gx.nd) (ds_one (ds_expr (de_append (de_var 7) (de_call ((d__law_bent T 16).up (by decide)) gx (by rfl) T.g__law_bent T.F__law_bent.kp T.b__law_bent (da_cons (de_var 2) (da_cons (de_sub gx (de_var 7) (de_op ok_fdivI (de_op ok_mul (de_call ((d__law_pick T).up (by decide)) gx (by rfl) T.g__law_pick T.F__law_pick.kp T.b__law_pick (da_cons (de_var 2) (da_cons de_int da_nil)) (hn := (aCons_n (aCons_n aNil_n)))) (de_var 8)) de_int)) da_nil)) (hn := (aCons_n (aCons_n aNil_n)))))))) (ds_one (ds_frzL 7 (ds_forR PassesOwn.never gx.calm (di_lst (de_var 7)) (dg_name 9 gx.nd) (ds_cons (ds_asg (de_callB (id := "repr") (ok_reprA gx) (by rfl) T.n_repr (by decide +kernel) (da_cons (de_var 9) da_nil)) (dg_name 10 gx.nd)) (ds_cons (ds_asg (de_call ((d_is_token T).up (by decide)) gx (by rfl) T.g_is_token T.F_is_token.kp T.b_is_token (da_cons (de_var 9) (da_cons (de_var 3) da_nil)) (hn := (aCons_n (aCons_n aNil_n)))) (dg_name 11 gx.nd)) (ds_one (ds_if (dt_w (dw_or (dt_not (dt_val (de_isi (T := "bool") (de_var 11) (by decide) (by rfl) T.n_isinstance (by rfl) T.n_bool (by decide +kernel)))) (dw_or (dt_cmp (ok_ne gx) (de_var 11) (de_call ((d__law_due T).up (by decide)) gx (by rfl) T.g__law_due T.F__law_due.kp T.b__law_due (da_cons (de_var 9) (da_cons (de_var 3) da_nil)) (hn := (aCons_n (aCons_n aNil_n))))) (dw_or1 (dt_cmp ok_neS (de_callB (id := "repr") (ok_reprA gx) (by rfl) T.n_repr (by decide +kernel) (da_cons (de_var 9) da_nil)) (de_var 10)))))) (ds_one (ds_ret de_bl)) ds_nil)))))))))))))))))) (ds_cons (ds_forR PassesOwn.never gx.calm (di_lst (de_lst (da_cons de_non (da_cons de_int (da_cons de_bl (da_cons de_str (da_cons (de_tup da_nil) (da_cons (de_lst da_nil) (da_cons de_dict0 (da_cons (de_tup (da_cons de_str da_nil)) (da_cons (de_tup (da_cons de_str (da_cons de_int da_nil))) (da_cons (de_tup (da_cons de_str (da_cons (de_tup (da_cons (de_tup (da_cons de_str da_nil)) (da_cons (de_tup da_nil) (da_cons (de_tup da_nil) da_nil)))) (da_cons de_int (da_cons de_int da_nil))))) da_nil)))))))))))) (dg_name 9 gx.nd) (ds_one (ds_if (dt_cmp ok_isnt (de_call ((d_is_token T).up (by decide)) gx (by rfl) T.g_is_token T.F_is_token.kp T.b_is_token (da_cons (de_var 9) (da_cons de_int da_nil)) (hn := (aCons_n (aCons_n aNil_n)))) de_bl) (ds_one (ds_ret de_bl)) ds_nil))) (ds_one (ds_ret (de_cmp ok_is (de_call ((d_is_token T).up (by decide)) gx (by rfl) T.g_is_token T.F_is_token.kp T.b_is_token (da_cons (de_tup (da_cons de_str (da_cons (de_tup (da_cons (de_tup (da_cons de_str da_nil)) (da_cons (de_tup da_nil) (da_cons (de_tup da_nil) da_nil)))) (da_cons de_int (da_cons de_int da_nil))))) (da_cons de_int da_nil)) (hn := (aCons_n (aCons_n aNil_n)))) de_bl)))))
end LW
namespace LW
open PySem PySem.Spec PyProof.Rows L2 DL TL
theorem e_tape : m__law_tape = mTape := rfl
theorem e_pick : m__law_pick = mPick := rfl
theorem e_one : m__law_one_of = mOne := rfl
def asc (n : Nat) (x : Str) : Bool := decide (x.length ≤ n) && (tl x).all fun c => decide (c < 128)
theorem asc_gs {n : Nat} {x : Str} (h : asc n x = true) : GS n x := by
  unfold asc at h
  rw [Bool.and_eq_true] at h
  exact ⟨of_decide_eq_true h.1, fun c hc => of_decide_eq_true (List.all_eq_true.mp h.2 c hc)⟩
theorem gs_asc {n : Nat} {x : Str} (h : GS n x) : asc n x = true := by
  unfold asc
  rw [Bool.and_eq_true]
  exact ⟨decide_eq_true h.1, List.all_eq_true.mpr fun c hc => decide_eq_true (h.2 c hc)⟩
theorem eqL {a b : Str} {c : Bool} (ha : asc 16 a = true) (hb : asc 16 b = true) (h : (a == b) = c) : opEq (.str a) (.str b) = some (.bl c) := by
  rw [← h]
  exact opEq_fv (m := 16) (n := 16) (a := .str a) (b := .str b) (asc_gs ha) (asc_gs hb)
theorem qs : opEq (.str (Str.ofString "all")) (.str (Str.ofString "all")) = some (.bl true) ∧
  opEq (.str (Str.ofString "all")) (.str (Str.ofString "not")) = some (.bl false) ∧
  opEq (.str (Str.ofString "all")) (.str (Str.ofString "and")) = some (.bl false) ∧
  opEq (.str (Str.ofString "all")) (.str (Str.ofString "or")) = some (.bl false) ∧
  opEq (.str (Str.ofString "all")) (.str (Str.ofString "equal")) = some (.bl false) ∧
  opEq (.str (Str.ofString "all")) (.str (Str.ofString "less")) = some (.bl false) ∧
  opEq (.str (Str.ofString "all")) (.str (Str.ofString "starts")) = some (.bl false) ∧
  opEq (.str (Str.ofString "equal")) (.str (Str.ofString "all")) = some (.bl false) ∧
  opEq (.str (Str.ofString "equal")) (.str (Str.ofString "not")) = some (.bl false) ∧
  opEq (.str (Str.ofString "equal")) (.str (Str.ofString "and")) = some (.bl false) ∧
  opEq (.str (Str.ofString "equal")) (.str (Str.ofString "or")) = some (.bl false) ∧
  opEq (.str (Str.ofString "equal")) (.str (Str.ofString "equal")) = some (.bl true) ∧
  opEq (.str (Str.ofString "equal")) (.str (Str.ofString "less")) = some (.bl false) ∧
  opEq (.str (Str.ofString "equal")) (.str (Str.ofString "starts")) = some (.bl false) ∧
  opEq (.str (Str.ofString "less")) (.str (Str.ofString "all")) = some (.bl false) ∧
  opEq (.str (Str.ofString "less")) (.str (Str.ofString "not")) = some (.bl false) ∧
  opEq (.str (Str.ofString "less")) (.str (Str.ofString "and")) = some (.bl false) ∧
  opEq (.str (Str.ofString "less")) (.str (Str.ofString "or")) = some (.bl false) ∧
  opEq (.str (Str.ofString "less")) (.str (Str.ofString "equal")) = some (.bl false) ∧
  opEq (.str (Str.ofString "less")) (.str (Str.ofString "less")) = some (.bl true) ∧
  opEq (.str (Str.ofString "less")) (.str (Str.ofString "starts")) = some (.bl false) ∧
  opEq (.str (Str.ofString "starts")) (.str (Str.ofString "all")) = some (.bl false) ∧
  opEq (.str (Str.ofString "starts")) (.str (Str.ofString "not")) = some (.bl false) ∧
  opEq (.str (Str.ofString "starts")) (.str (Str.ofString "and")) = some (.bl false) ∧
  opEq (.str (Str.ofString "starts")) (.str (Str.ofString "or")) = some (.bl false) ∧
  opEq (.str (Str.ofString "starts")) (.str (Str.ofString "equal")) = some (.bl false) ∧
  opEq (.str (Str.ofString "starts")) (.str (Str.ofString "less")) = some (.bl false) ∧
  opEq (.str (Str.ofString "starts")) (.str (Str.ofString "starts")) = some (.bl true) ∧
  opEq (.str (Str.ofString "one_of")) (.str (Str.ofString "all")) = some (.bl false) ∧
  opEq (.str (Str.ofString "one_of")) (.str (Str.ofString "not")) = some (.bl false) ∧
  opEq (.str (Str.ofString "one_of")) (.str (Str.ofString "and")) = some (.bl false) ∧
  opEq (.str (Str.ofString "one_of")) (.str (Str.ofString "or")) = some (.bl false) ∧
  opEq (.str (Str.ofString "one_of")) (.str (Str.ofString "equal")) = some (.bl false) ∧
  opEq (.str (Str.ofString "one_of")) (.str (Str.ofString "less")) = some (.bl false) ∧
  opEq (.str (Str.ofString "one_of")) (.str (Str.ofString "starts")) = some (.bl false) ∧
  opEq (.str (Str.ofString "not")) (.str (Str.ofString "all")) = some (.bl false) ∧
  opEq (.str (Str.ofString "not")) (.str (Str.ofString "not")) = some (.bl true) ∧
  opEq (.str (Str.ofString "not")) (.str (Str.ofString "and")) = some (.bl false) ∧
  opEq (.str (Str.ofString "not")) (.str (Str.ofString "or")) = some (.bl false) ∧
  opEq (.str (Str.ofString "not")) (.str (Str.ofString "equal")) = some (.bl false) ∧
  opEq (.str (Str.ofString "not")) (.str (Str.ofString "less")) = some (.bl false) ∧
  opEq (.str (Str.ofString "not")) (.str (Str.ofString "starts")) = some (.bl false) ∧
  opEq (.str (Str.ofString "and")) (.str (Str.ofString "all")) = some (.bl false) ∧
  opEq (.str (Str.ofString "and")) (.str (Str.ofString "not")) = some (.bl false) ∧
  opEq (.str (Str.ofString "and")) (.str (Str.ofString "and")) = some (.bl true) ∧
  opEq (.str (Str.ofString "and")) (.str (Str.ofString "or")) = some (.bl false) ∧
  opEq (.str (Str.ofString "and")) (.str (Str.ofString "equal")) = some (.bl false) ∧
  opEq (.str (Str.ofString "and")) (.str (Str.ofString "less")) = some (.bl false) ∧
  opEq (.str (Str.ofString "and")) (.str (Str.ofString "starts")) = some (.bl false) ∧
  opEq (.str (Str.ofString "or")) (.str (Str.ofString "all")) = some (.bl false) ∧
  opEq (.str (Str.ofString "or")) (.str (Str.ofString "not")) = some (.bl false) ∧
  opEq (.str (Str.ofString "or")) (.str (Str.ofString "and")) = some (.bl false) ∧
  opEq (.str (Str.ofString "or")) (.str (Str.ofString "or")) = some (.bl true) ∧
  opEq (.str (Str.ofString "or")) (.str (Str.ofString "equal")) = some (.bl false) ∧
  opEq (.str (Str.ofString "or")) (.str (Str.ofString "less")) = some (.bl false) ∧
  opEq (.str (Str.ofString "or")) (.str (Str.ofString "starts")) = some (.bl false) :=
  ⟨eqL (by decide +kernel) (by decide +kernel) (by decide +kernel), eqL (by decide +kernel) (by decide +kernel) (by decide +kernel), eqL (by decide +kernel) (by decide +kernel) (by decide +kernel), eqL (by decide +kernel) (by decide +kernel) (by decide +kernel), eqL (by decide +kernel) (by decide +kernel) (by decide +kernel), eqL (by decide +kernel) (by decide +kernel) (by decide +kernel), eqL (by decide +kernel) (by decide +kernel) (by decide +kernel), eqL (by decide +kernel) (by decide +kernel) (by decide +kernel), eqL (by decide +kernel) (by decide +kernel) (by decide +kernel), eqL (by decide +kernel) (by decide +kernel) (by decide +kernel), eqL (by decide +kernel) (by decide +kernel) (by decide +kernel), eqL (by decide +kernel) (by decide +kernel) (by decide +kernel), eqL (by decide +kernel) (by decide +kernel) (by decide +kernel), eqL (by decide +kernel) (by decide +kernel) (by decide +kernel), eqL (by decide +kernel) (by decide +kernel) (by decide +kernel), eqL (by decide +kernel) (by decide +kernel) (by decide +kernel), eqL (by decide +kernel) (by decide +kernel) (by decide +kernel), eqL (by decide +kernel) (by decide +kernel) (by decide +kernel), eqL (by decide +kernel) (by decide +kernel) (by decide +kernel), eqL (by decide +kernel) (by decide +kernel) (by decide +kernel), eqL (by decide +kernel) (by decide +kernel) (by decide +kernel), eqL (by decide +kernel) (by decide +kernel) (by decide +kernel), eqL (by decide +kernel) (by decide +kernel) (by decide +kernel), eqL (by decide +kernel) (by decide +kernel) (by decide +kernel), eqL (by decide +kernel) (by decide +kernel) (by decide +kernel), eqL (by decide +kernel) (by decide +kernel) (by decide +kernel), eqL (by decide +kernel) (by decide +kernel) (by decide +kernel), eqL (by decide +kernel) (by decide +kernel) (by decide +kernel), eqL (by decide +kernel) (by decide +kernel) (by decide +kernel), eqL (by decide +kernel) (by decide +kernel) (by decide +kernel), eqL (by decide +kernel) (by decide +kernel) (by decide +kernel), eqL (by decide +kernel) (by decide +kernel) (by decide +kernel), eqL (by decide +kernel) (by decide +kernel) (by decide +kernel), eqL (by decide +kernel) (by decide +kernel) (by decide +kernel), eqL (by decide +kernel) (by decide +kernel) (by decide +kernel), eqL (by decide +kernel) (by decide +kernel) (by decide +kernel), eqL (by decide +kernel) (by decide +kernel) (by decide +kernel), eqL (by decide +kernel) (by decide +kernel) (by decide +kernel), eqL (by decide +kernel) (by decide +kernel) (by decide +kernel), eqL (by decide +kernel) (by decide +kernel) (by decide +kernel), eqL (by decide +kernel) (by decide +kernel) (by decide +kernel), eqL (by decide +kernel) (by decide +kernel) (by decide +kernel), eqL (by decide +kernel) (by decide +kernel) (by decide +kernel), eqL (by decide +kernel) (by decide +kernel) (by decide +kernel), eqL (by decide +kernel) (by decide +kernel) (by decide +kernel), eqL (by decide +kernel) (by decide +kernel) (by decide +kernel), eqL (by decide +kernel) (by decide +kernel) (by decide +kernel), eqL (by decide +kernel) (by decide +kernel) (by decide +kernel), eqL (by decide +kernel) (by decide +kernel) (by decide +kernel), eqL (by decide +kernel) (by decide +kernel) (by decide +kernel), eqL (by decide +kernel) (by decide +kernel) (by decide +kernel), eqL (by decide +kernel) (by decide +kernel) (by decide +kernel), eqL (by decide +kernel) (by decide +kernel) (by decide +kernel), eqL (by decide +kernel) (by decide +kernel) (by decide +kernel), eqL (by decide +kernel) (by decide +kernel) (by decide +kernel), eqL (by decide +kernel) (by decide +kernel) (by decide +kernel)⟩
/-- plain values -/
def pvB : D → Bool | .non => true | .int i => decide (-1000000000 ≤ i ∧ i ≤ 1000000000) | .str x => asc 40 x | _ => false
theorem pv_fv : ∀ {d : D}, pvB d = true → FV 40 d
  | .non, _ => trivial
  | .int _, _ => trivial
  | .str x, h => asc_gs h
  | .bl _, h => by cases h
  | .tup _, h => by cases h
  | .lst _, h => by cases h
  | .dct _, h => by cases h
  | .scr _, h => by cases h
  | .ref _, h => by cases h
theorem pv_sm : ∀ {d : D}, pvB d = true → Sm 0 40 d
  | .non, _ => Sm.non.mono (Nat.le_refl _) (Nat.zero_le _)
  | .int i, h => Sm.int (by have := of_decide_eq_true (show decide (-1000000000 ≤ i ∧ i ≤ 1000000000) = true from h); omega)
  | .str x, h => Sm.str (asc_gs h)
  | .bl _, h => by cases h
  | .tup _, h => by cases h
  | .lst _, h => by cases h
  | .dct _, h => by cases h
  | .scr _, h => by cases h
  | .ref _, h => by cases h
def kindP : D → Int | .non => 0 | .str _ => 2 | _ => 1
def vLt : D → D → Bool | .int a, .int b => decide (a < b) | .str a, .str b => decide (tl a < tl b) | _, _ => false
def cmpV (a b : D) : Int := if vEq a b = true then 0 else if kindP a = kindP b then (if vLt a b = true then -1 else 1) else if kindP a < kindP b then -1 else 1
theorem strsD_of : ∀ {vs : List D}, (∀ v ∈ vs, ∃ x, v = .str x ∧ GS 1 x) → ∃ ys, strsD vs = some ys ∧ ys.length = vs.length ∧ ∀ y ∈ ys, GS 1 y
  | [], _ => ⟨[], rfl, rfl, fun _ h => by cases h⟩
  | v :: vs, h => by
    obtain ⟨x, rfl, g⟩ := h v List.mem_cons_self
    obtain ⟨ys, h1, h2, h3⟩ := strsD_of fun w hw => h w (List.mem_cons_of_mem _ hw)
    refine ⟨x :: ys, by simp [strsD, h1], by simp [h2], fun y hy => ?_⟩
    rcases List.mem_cons.mp hy with rfl | hy
    · exact g
    · exact h3 y hy
theorem sum_le {m : Nat} : ∀ {ys : List Str}, (∀ y ∈ ys, GS m y) → (ys.map (·.length)).sum ≤ ys.length * m
  | [], _ => Nat.zero_le _
  | y :: ys, h => by
    have h1 := sum_le fun z hz => h z (List.mem_cons_of_mem _ hz)
    have h2 := (h y List.mem_cons_self).1
    rw [List.map_cons, List.sum_cons, List.length_cons, Nat.succ_mul]
    omega
theorem join_ok {m k : Nat} {vs : List D} (h : ∀ v ∈ vs, ∃ x, v = .str x ∧ GS 1 x) (hl : vs.length ≤ k) (hk : k ≤ 1000) : ∃ z, joinD (.str (Str.ofString "")) [.lst vs] = some (.str z) ∧ GS k z := by
  obtain ⟨ys, h1, h2, h3⟩ := strsD_of h
  have hs := sum_le h3
  have : (ys.map (·.length)).sum + ys.length * (Str.ofString "").length ≤ 16777216 := by
    rw [show (Str.ofString "").length = 0 from rfl]
    omega
  refine ⟨_, by simp only [joinD, h1, Option.bind_some]; rw [if_pos this], ?_⟩
  exact (GS.join h3).mono (by omega)
end LW
namespace LW
open PySem PySem.Spec PyProof.Rows L2 DL TL
theorem pv_str {x : Str} (h : GS 40 x) : pvB (.str x) = true := gs_asc h
theorem bits10 : Builtin.Int.intBits 10 ≤ 32 := bits32 (by decide) (by decide)
theorem pow109 : powI (.int 10) (.int 9) = some (.int 1000000000) := by
  have p := powI_int (a := 10) (b := 9) (by decide) bits10 (by decide)
  simpa using p
theorem mulz (k : Int) (h : 0 ≤ k ∧ k ≤ 1000) : opMul (.str (Str.ofString "z")) (.int k) = some (.str (Txt.mul (Str.ofString "z") k)) := by
  have : (Str.ofString "z").length ≤ 1000 := by decide
  simp [opMul, orD, mulI, onI, mulS, this, h.1, h.2]
theorem addL_ok {xs ys : List D} (h : xs.length + ys.length ≤ 1000) : opAdd (.lst xs) (.lst ys) = some (.lst (xs ++ ys)) := by
  have : xs.length + ys.length ≤ sizeLine := Nat.le_trans h (by decide)
  simp [opAdd, orD, addI, addS, addL, onI, onS, this]
theorem addT_ok {xs ys : List D} (h : xs.length + ys.length ≤ 1000) : opAdd (.tup xs) (.tup ys) = some (.tup (xs ++ ys)) := by
  have : xs.length + ys.length ≤ sizeLine := Nat.le_trans h (by decide)
  simp [opAdd, orD, addI, addS, addL, addT, onI, onS, this]
def someV : List D := [.non, .int 0, .int 1, .int 2, .int (-1), .int 1, .int 2, .int 1000000000, .int (-1000000000), .str (Str.ofString ""), .str (Str.ofString "a"), .str (Str.ofString "ab"), .str (Str.ofString "b"), .str (Str.ofString "a b"), .str (Str.ofString "A"), .str (Str.ofString "~"), .str (Txt.mul (Str.ofString "z") 20)]
def moreV : List D := [.str (Txt.mul (Str.ofString "z") 19), .str (Str.ofString "customer one"), .str (Str.ofString "customer two"), .str (Str.ofString "1"), .str (Str.ofString "-1"), .int 2, .str (Str.ofString "abc"), .str (Str.ofString "abd")]
theorem allV : (someV ++ moreV).all pvB = true := by decide +kernel
abbrev sgn1 : String := " !#$&'()*+,-./0123456789:;<=>?@ABCDEFGHIJKLMNOPQRSTUVWXYZ[]^_{|}~"
abbrev sgn2 : String := "abcdefghijklmnopqrstuvwxyz"
theorem value_ok {st : Store} {n : Nat} (t : Tp st n) : ∃ d st', m__law_value [.ref n] st = some (d, st') ∧ pvB d = true ∧ Tp st' n ∧ Fr n st st' ∧ st'.length = st.length := by
  obtain ⟨r, s1, h1, r0, r8, t1, f1, l1⟩ := pick_ok t (s := 24) (by decide) (by decide)
  by_cases c0 : r = 0
  · subst c0
    let sg : List D := (Str.ofString sgn1 ++ Str.ofString sgn2).cps.toList.map fun c => D.str ⟨#[c]⟩
    have hsg : ∀ v ∈ sg, ∃ x, v = .str x ∧ GS 1 x := fun v hv => by
      obtain ⟨c, hc, rfl⟩ := List.mem_map.mp hv
      refine ⟨_, rfl, Nat.le_refl _, fun y hy => ?_⟩
      have : y = c := by simpa using hy
      subst this
      have := List.all_eq_true.mp (show ((Str.ofString sgn1 ++ Str.ofString sgn2).cps.toList.all fun c => decide (c < 128)) = true by decide +kernel) y hc
      exact of_decide_eq_true this
    have ad : opAdd (.str (Str.ofString sgn1)) (.str (Str.ofString sgn2)) = some (.str (Str.ofString sgn1 ++ Str.ofString sgn2)) := opAdd_str (by decide +kernel)
    have bl : bList [.str (Str.ofString sgn1 ++ Str.ofString sgn2)] = fun _ => some (.lst sg) := by
      funext s
      have : (Str.ofString sgn1 ++ Str.ofString sgn2).length ≤ sizeLine := Nat.le_trans (show _ ≤ 1000 by decide +kernel) (by decide)
      simp [bList, listSeq, listTxt, this, sg]
    obtain ⟨r2, s2, h2, r20, r24, t2, f2, l2⟩ := pick_ok t1 (s := 20) (by decide) (by decide)
    obtain ⟨vs, s3, h3, l3, p3, t3, f3, q3⟩ := loopC_draw2 (is := [3]) (bd := b1) (f := fCall m__law_one_of (aCons (fVar 0) (aCons (fVar 1) aNil))) (n := n) (P := fun v => ∃ x, v = .str x ∧ GS 1 x)
      (env := [some (.ref n), some (.lst sg), none, none]) (ds := rg 0 (1 + r2)) (fun d hd => ⟨[d], rfl, fun s t => by
        obtain ⟨v, s', g1, g2, g3, g4, g5⟩ := one_ok (xs := sg) t (by decide +kernel) (by decide +kernel)
        exact ⟨v, s', by simp [fCall, aCons, aNil, fVar, setL, e_one, g1], hsg v g2, g3, g4, g5⟩⟩) t2
    obtain ⟨w, hw, gw⟩ := join_ok (m := 1) (k := 20) p3 (by rw [l3, rg_len]; omega) (by decide)
    have zc : vs.length ≤ sizeLine := Nat.le_trans (by rw [l3, rg_len]; omega) (show 20 ≤ sizeLine by decide)
    have ra := asR1_ok (n := 1 + r2) (by omega) (by omega)
    refine ⟨.str w, s3, ?_, pv_str (gw.mono (by decide)), t3, (f1.trans f2).trans f3, by rw [q3, l2, l1]⟩
    rw [e_one] at h3
    simp [m__law_value, g__law_value, mOf, outM, startD, sSeq, sAsg, gN, sIf, sRet, sNil, fCall, aCons, aNil, fVar, fC, fTest, fOp, e_pick, h1, opEq_int, asB, ad, fMk, bl, fMt, fComp, iOfA, h2, opAdd_int, ra, wipeL, e_one, h3, zc, hw]
  · have q0 : (r == 0) = false := by simp [c0]
    obtain ⟨d, s2, h2, m2, t2, f2, l2⟩ := one_ok (xs := someV ++ moreV) t1 (by decide) (by decide)
    refine ⟨d, s2, ?_, List.all_eq_true.mp allV d m2, t2, f1.trans f2, by rw [l2, l1]⟩
    have z1 : 17 ≤ sizeLine := by decide
    have z2 : 8 ≤ sizeLine := by decide
    have ad : opAdd (.lst someV) (.lst moreV) = some (.lst (someV ++ moreV)) := addL_ok (by decide)
    simp only [someV, moreV] at ad h2
    simp [m__law_value, g__law_value, mOf, outM, startD, sSeq, sAsg, gN, sIf, sRet, sNil, fCall, aCons, aNil, fVar, fC, fTest, fOp, e_pick, h1, opEq_int, asB, q0, fMk, mkLst, subI_int, pow109, mulz, z1, z2]
    simp at ad h2
    simp [ad, e_one, h2]
end LW
namespace LW
open PySem PySem.Spec PyProof.Rows L2 DL TL
inductive C where
  | all | eq (c : Nat) (v : D) | lt (c : Nat) (v : D) | st (c : Nat) (x : Str) | one (c : Nat) (us : List D) | not (p : C) | and (p q : C) | or (p q : C)
def nm (s : String) : D := .str (Str.ofString s)
def C.d : C → D
  | .all => .tup [.str (Str.ofString "all")]
  | .eq c v => .tup [.str (Str.ofString "equal"), .int c, v]
  | .lt c v => .tup [.str (Str.ofString "less"), .int c, v]
  | .st c x => .tup [.str (Str.ofString "starts"), .int c, .str x]
  | .one c us => .tup [.str (Str.ofString "one_of"), .int c, .tup us]
  | .not p => .tup [.str (Str.ofString "not"), p.d]
  | .and p q => .tup [.str (Str.ofString "and"), p.d, q.d]
  | .or p q => .tup [.str (Str.ofString "or"), p.d, q.d]
def C.ok (w : Nat) : C → Prop
  | .all => True
  | .eq c v => c < w ∧ pvB v = true
  | .lt c v => c < w ∧ pvB v = true
  | .st c x => c < w ∧ GS 10 x ∧ 0 < x.length
  | .one c us => c < w ∧ us.length ≤ 8 ∧ 0 < us.length ∧ ∀ u ∈ us, pvB u = true
  | .not p => p.ok w
  | .and p q => p.ok w ∧ q.ok w
  | .or p q => p.ok w ∧ q.ok w
def C.ht : C → Nat
  | .not p => p.ht + 1
  | .and p q => max p.ht q.ht + 1
  | .or p q => max p.ht q.ht + 1
  | _ => 1
theorem C.ht_pos : ∀ c : C, 1 ≤ c.ht
  | .all => Nat.le_refl _
  | .eq _ _ => Nat.le_refl _
  | .lt _ _ => Nat.le_refl _
  | .st _ _ => Nat.le_refl _
  | .one _ _ => Nat.le_refl _
  | .not _ => Nat.le_add_left _ _
  | .and _ _ => Nat.le_add_left _ _
  | .or _ _ => Nat.le_add_left _ _
theorem sm_name {s : String} (h : asc 16 (Str.ofString s) = true) (dp : Nat) : Sm dp 40 (.str (Str.ofString s)) := (Sm.str (asc_gs h)).mono (Nat.zero_le _) (by decide)
theorem C.sm {w : Nat} (hw : w ≤ 10) : ∀ c : C, c.ok w → Sm (c.ht + 1) (500 * 2 ^ c.ht - 100) c.d
  | .all, _ => (Sm.tup (SmL.cons (sm_name (s := "all") (by decide +kernel) 0) (SmL.nil.mono (Nat.zero_le _) (Nat.le_refl _)))).mono (show _ ≤ 1 + 1 by decide) (show _ ≤ 500 * 2 ^ 1 - 100 by decide)
  | .eq c v, h => (Sm.tup (SmL.cons (sm_name (s := "equal") (by decide +kernel) 0) (SmL.cons (Sm.int (i := c) (by have := h.1; omega)) (SmL.cons (pv_sm h.2) SmL.nil)))).mono (show _ ≤ 1 + 1 by decide) (show _ ≤ 500 * 2 ^ 1 - 100 by decide)
  | .lt c v, h => (Sm.tup (SmL.cons (sm_name (s := "less") (by decide +kernel) 0) (SmL.cons (Sm.int (i := c) (by have := h.1; omega)) (SmL.cons (pv_sm h.2) SmL.nil)))).mono (show _ ≤ 1 + 1 by decide) (show _ ≤ 500 * 2 ^ 1 - 100 by decide)
  | .st c x, h => (Sm.tup (SmL.cons (sm_name (s := "starts") (by decide +kernel) 0) (SmL.cons (Sm.int (i := c) (by have := h.1; omega)) (SmL.cons (Sm.str h.2.1) SmL.nil)))).mono (show _ ≤ 1 + 1 by decide) (show _ ≤ 500 * 2 ^ 1 - 100 by decide)
  | .one c us, h => by
    have h1 : SmL 0 (us.length * 41) us := SmL.all fun u hu => pv_sm (h.2.2.2 u hu)
    have h2 : us.length * 41 ≤ 8 * 41 := Nat.mul_le_mul_right _ h.2.1
    exact (Sm.tup (SmL.cons (sm_name (s := "one_of") (by decide +kernel) 1) (SmL.cons ((Sm.int (i := c) (by have := h.1; omega)).mono (Nat.zero_le _) (Nat.le_refl _)) (SmL.cons (Sm.tup (h1.mono (Nat.le_refl _) h2)) (SmL.nil.mono (Nat.zero_le _) (Nat.le_refl _)))))).mono (show _ ≤ 1 + 1 by decide) (show _ ≤ 500 * 2 ^ 1 - 100 by decide)
  | .not p, h => by
    have hp := C.sm hw p h
    have := C.ht_pos p
    refine (Sm.tup (SmL.cons (sm_name (s := "not") (by decide +kernel) _) (SmL.cons hp (SmL.nil.mono (Nat.zero_le _) (Nat.le_refl _))))).mono (by show p.ht + 1 + 1 ≤ p.ht + 1 + 1; omega) ?_
    have e : C.ht (.not p) = p.ht + 1 := rfl
    have e2 : 2 ^ 1 ≤ 2 ^ p.ht := Nat.pow_le_pow_right (by decide) this
    rw [e, Nat.pow_succ]
    omega
  | .and p q, h => by
    have hp := C.sm hw p h.1
    have hq := C.sm hw q h.2
    have h1 := C.ht_pos p
    have e : C.ht (.and p q) = max p.ht q.ht + 1 := rfl
    have m1 := Nat.le_max_left p.ht q.ht
    have m2 := Nat.le_max_right p.ht q.ht
    rw [e]
    generalize max p.ht q.ht = m at *
    have e1 : 2 ^ p.ht ≤ 2 ^ m := Nat.pow_le_pow_right (by decide) m1
    have e2 : 2 ^ q.ht ≤ 2 ^ m := Nat.pow_le_pow_right (by decide) m2
    have e3 : 2 ^ 1 ≤ 2 ^ p.ht := Nat.pow_le_pow_right (by decide) (by omega)
    have e4 : 2 ^ 1 ≤ 2 ^ q.ht := Nat.pow_le_pow_right (by decide) (C.ht_pos q)
    refine (Sm.tup (SmL.cons (sm_name (s := "and") (by decide +kernel) (m + 1)) (SmL.cons (hp.mono (by omega) (Nat.le_refl _)) (SmL.cons (hq.mono (by omega) (Nat.le_refl _)) (SmL.nil.mono (Nat.zero_le _) (Nat.le_refl _)))))).mono (by omega) ?_
    rw [Nat.pow_succ]
    omega
  | .or p q, h => by
    have hp := C.sm hw p h.1
    have hq := C.sm hw q h.2
    have h1 := C.ht_pos p
    have e : C.ht (.or p q) = max p.ht q.ht + 1 := rfl
    have m1 := Nat.le_max_left p.ht q.ht
    have m2 := Nat.le_max_right p.ht q.ht
    rw [e]
    generalize max p.ht q.ht = m at *
    have e1 : 2 ^ p.ht ≤ 2 ^ m := Nat.pow_le_pow_right (by decide) m1
    have e2 : 2 ^ q.ht ≤ 2 ^ m := Nat.pow_le_pow_right (by decide) m2
    have e3 : 2 ^ 1 ≤ 2 ^ p.ht := Nat.pow_le_pow_right (by decide) (by omega)
    have e4 : 2 ^ 1 ≤ 2 ^ q.ht := Nat.pow_le_pow_right (by decide) (C.ht_pos q)
    refine (Sm.tup (SmL.cons (sm_name (s := "or") (by decide +kernel) (m + 1)) (SmL.cons (hp.mono (by omega) (Nat.le_refl _)) (SmL.cons (hq.mono (by omega) (Nat.le_refl _)) (SmL.nil.mono (Nat.zero_le _) (Nat.le_refl _)))))).mono (by omega) ?_
    rw [Nat.pow_succ]
    omega
def startsV : List D := [.str (Str.ofString "a"), .str (Str.ofString "ab"), .str (Str.ofString "b"), .str (Str.ofString "A"), .str (Str.ofString " "), .str (Str.ofString "1"), .str (Str.ofString "-"), .str (Str.ofString "N"), .str (Str.ofString "customer"), .str (Str.ofString "abc")]
def stB : D → Bool | .str x => asc 10 x && decide (0 < x.length) | _ => false
theorem allSt : startsV.all stB = true := by decide +kernel
theorem test_ok {st : Store} {n : Nat} {w : Int} (t : Tp st n) (h0 : 0 < w) (h1 : w ≤ 10) : ∃ c st', m__law_test [.ref n, .int w] st = some (C.d c, st') ∧ c.ok w.toNat ∧ c.ht = 1 ∧ Tp st' n ∧ Fr n st st' ∧ st'.length = st.length := by
  obtain ⟨co, s1, g1, c0, c1, t1, f1, l1⟩ := pick_ok t (s := w) h0 (by omega)
  obtain ⟨r, s2, g2, r0, r6, t2, f2, l2⟩ := pick_ok t1 (s := 6) (by decide) (by decide)
  have hc : ((co.toNat : Nat) : Int) = co := Int.toNat_of_nonneg c0
  have hlt : co.toNat < w.toNat := by omega
  have z1 : 1 ≤ sizeLine := by decide
  have z3 : 3 ≤ sizeLine := by decide
  have f12 := f1.trans f2
  have l12 : s2.length = st.length := by rw [l2, l1]
  by_cases k0 : r = 0
  · subst k0
    exact ⟨.all, s2, by simp [m__law_test, g__law_test, mOf, outM, startD, sSeq, sPar, par2, fCall, aCons, aNil, fVar, fC, e_pick, g1, g2, sIf, fTest, fOp, opEq_int, asB, sRet, fMk, mkTup, z1, C.d], trivial, rfl, t2, f12, l12⟩
  · have q0 : (r == 0) = false := by simp [k0]
    by_cases k1 : r = 1
    · subst k1
      obtain ⟨v, s3, g3, pv, t3, f3, l3⟩ := value_ok t2
      exact ⟨.eq co.toNat v, s3, by simp [m__law_test, g__law_test, mOf, outM, startD, sSeq, sPar, par2, fCall, aCons, aNil, fVar, fC, e_pick, g1, g2, sIf, sNil, fTest, fOp, opEq_int, asB, sRet, fMk, mkTup, z3, C.d, g3, hc], ⟨hlt, pv⟩, rfl, t3, f12.trans f3, by rw [l3, l12]⟩
    · have q1 : (r == 1) = false := by simp [k1]
      by_cases k4 : r < 4
      · obtain ⟨v, s3, g3, pv, t3, f3, l3⟩ := value_ok t2
        exact ⟨.lt co.toNat v, s3, by simp [m__law_test, g__law_test, mOf, outM, startD, sSeq, sPar, par2, fCall, aCons, aNil, fVar, fC, e_pick, g1, g2, sIf, sNil, fTest, fOp, opEq_int, opLt_int, asB, q0, q1, k4, sRet, fMk, mkTup, z3, C.d, g3, hc], ⟨hlt, pv⟩, rfl, t3, f12.trans f3, by rw [l3, l12]⟩
      · by_cases k5 : r = 4
        · subst k5
          obtain ⟨d, s3, g3, md, t3, f3, l3⟩ := one_ok (xs := startsV) t2 (by decide) (by decide)
          have hs := List.all_eq_true.mp allSt d md
          obtain ⟨x, rfl, gx⟩ : ∃ x, d = .str x ∧ (asc 10 x && decide (0 < x.length)) = true := by
            cases d <;> first
              | exact ⟨_, rfl, hs⟩
              | cases hs
          rw [Bool.and_eq_true] at gx
          have z10 : 10 ≤ sizeLine := by decide
          simp only [startsV] at g3
          exact ⟨.st co.toNat x, s3, by simp [m__law_test, g__law_test, mOf, outM, startD, sSeq, sPar, par2, fCall, aCons, aNil, fVar, fC, e_pick, e_one, g1, g2, sIf, sNil, fTest, fOp, opEq_int, opLt_int, asB, sRet, fMk, mkTup, mkLst, z3, z10, C.d, g3, hc], ⟨hlt, asc_gs gx.1, of_decide_eq_true gx.2⟩, rfl, t3, f12.trans f3, by rw [l3, l12]⟩
        · have q4 : (r == 4) = false := by simp [k5]
          obtain ⟨a, s3, g3, a0, a4, t3, f3, l3⟩ := pick_ok t2 (s := 4) (by decide) (by decide)
          obtain ⟨b, s4, g4, b0, b4, t4, f4, l4⟩ := pick_ok t3 (s := 4) (by decide) (by decide)
          obtain ⟨d, s5, g5, md, t5, f5, l5⟩ := one_ok (xs := [.int a, .int (4 + b)]) t4 (by simp) (by simp)
          obtain ⟨m, rfl, m0, m8⟩ : ∃ m : Int, d = .int m ∧ 0 ≤ m ∧ m < 8 := by
            simp only [List.mem_cons, List.not_mem_nil, or_false] at md
            rcases md with rfl | rfl
            · exact ⟨_, rfl, by omega, by omega⟩
            · exact ⟨_, rfl, by omega, by omega⟩
          obtain ⟨vs, s6, g6, l6, p6, t6, f6, q6⟩ := loopC_draw2 (is := [5]) (bd := b1) (f := fCall m__law_value (aCons (fVar 0) aNil)) (n := n) (P := fun v => pvB v = true)
            (env := [some (.ref n), some (.int w), some (.int co), some (.int r), some (.int (1 + m)), none]) (ds := rg 0 (1 + m)) (fun d hd => ⟨[d], rfl, fun s t => by
              obtain ⟨v, s', x1, x2, x3, x4, x5⟩ := value_ok t
              exact ⟨v, s', by simp [fCall, aCons, aNil, fVar, setL, x1], x2, x3, x4, x5⟩⟩) t5
          rw [rg_len] at l6
          have ra := asR1_ok (n := 1 + m) (by omega) (by omega)
          have z2 : 2 ≤ sizeLine := by decide
          have zc : vs.length ≤ sizeLine := Nat.le_trans (by rw [l6]; omega) (show 10 ≤ sizeLine by decide)
          refine ⟨.one co.toNat vs, s6, ?_, ⟨hlt, by omega, by omega, p6⟩, rfl, t6, (((f12.trans f3).trans f4).trans f5).trans f6, by rw [q6, l5, l4, l3, l12]⟩
          simp [m__law_test, g__law_test, mOf, outM, startD, sSeq, sPar, par2, fCall, aCons, aNil, fVar, fC, e_pick, e_one, g1, g2, g3, g4, sIf, sNil, sAsg, gN, fTest, fOp, opEq_int, opLt_int, opAdd_int, asB, q0, q1, k4, q4, sRet, fMk, mkTup, mkLst, z2, z3, C.d, hc, g5, fComp, iOfA, ra, wipeL]
          simp [g6, zc, bTuple, z3]
theorem cond_ok : ∀ (k : Nat) {st : Store} {n : Nat} {w dp : Int}, Tp st n → 0 < w → w ≤ 10 → 0 ≤ dp → dp < k → ∃ c st', m__law_condition k [.ref n, .int w, .int dp] st = some (C.d c, st') ∧ c.ok w.toNat ∧ c.ht ≤ k ∧ Tp st' n ∧ Fr n st st' ∧ st'.length = st.length
  | 0, _, _, _, _, _, _, _, h, h2 => by omega
  | k + 1, st, n, w, dp, t, h0, h1, h2, h3 => by
    obtain ⟨r, s1, g1, r0, r6, t1, f1, l1⟩ := pick_ok t (s := 6) (by decide) (by decide)
    by_cases c1 : dp = 0 ∨ r < 2
    · obtain ⟨c, s2, g2, ok, hh, t2, f2, l2⟩ := test_ok t1 h0 h1
      refine ⟨c, s2, ?_, ok, by omega, t2, f1.trans f2, by rw [l2, l1]⟩
      rcases c1 with rfl | c1
      · simp [m__law_condition, g__law_condition, mOf, outM, startD, sSeq, sAsg, gN, sIf, sRet, fCall, aCons, aNil, fVar, fC, e_pick, g1, fOrT, fTest, fOp, opEq_int, asB, g2]
      · by_cases z : dp = 0
        · subst z
          simp [m__law_condition, g__law_condition, mOf, outM, startD, sSeq, sAsg, gN, sIf, sRet, fCall, aCons, aNil, fVar, fC, e_pick, g1, fOrT, fTest, fOp, opEq_int, asB, g2]
        · have z' : (dp == 0) = false := by simp [z]
          simp [m__law_condition, g__law_condition, mOf, outM, startD, sSeq, sAsg, gN, sIf, sRet, fCall, aCons, aNil, fVar, fC, e_pick, g1, fOrT, fTest, fOp, opEq_int, opLt_int, c1, z', asB, g2]
    · have c2 : ¬ dp = 0 := fun z => c1 (.inl z)
      have c3 : ¬ r < 2 := fun z => c1 (.inr z)
      have q0 : (dp == 0) = false := by simp [c2]
      have z1 : 1 ≤ sizeLine := by decide
      have z2 : 2 ≤ sizeLine := by decide
      by_cases c4 : r = 2
      · subst c4
        obtain ⟨c, s2, g2, ok, hh, t2, f2, l2⟩ := cond_ok k t1 h0 h1 (show 0 ≤ dp - 1 by omega) (by omega)
        refine ⟨.not c, s2, ?_, ok, Nat.succ_le_succ hh, t2, f1.trans f2, by rw [l2, l1]⟩
        simp [m__law_condition, g__law_condition, mOf, outM, startD, sSeq, sAsg, gN, sIf, sNil, sRet, fCall, aCons, aNil, fVar, fC, e_pick, g1, fOrT, fTest, fOp, opEq_int, opLt_int, subI_int, asB, q0, g2, fMk, mkTup, z2, C.d]
      · have q2 : (r == 2) = false := by simp [c4]
        obtain ⟨c, s2, g2, ok2, hh2, t2, f2, l2⟩ := cond_ok k t1 h0 h1 (show 0 ≤ dp - 1 by omega) (by omega)
        obtain ⟨e, s3, g3, ok3, hh3, t3, f3, l3⟩ := cond_ok k t2 h0 h1 (show 0 ≤ dp - 1 by omega) (by omega)
        obtain ⟨d, s4, g4, md, t4, f4, l4⟩ := one_ok (xs := [.str (Str.ofString "and"), .str (Str.ofString "or")]) t3 (by simp) (by simp)
        have fin : ∀ x : Str, d = .str x → m__law_condition (k + 1) [.ref n, .int w, .int dp] st = some (.tup [.str x, c.d, e.d], s4) := fun x hx => by
          subst hx
          have ad : opAdd (.tup [.str x]) (.tup [c.d, e.d]) = some (.tup [.str x, c.d, e.d]) := addT_ok (by simp)
          simp [m__law_condition, g__law_condition, mOf, outM, startD, sSeq, sAsg, gN, sIf, sNil, sRet, fCall, aCons, aNil, fVar, fC, e_pick, e_one, g1, fOrT, fTest, fOp, opEq_int, opLt_int, subI_int, asB, q0, c3, q2, g2, g3, g4, fMk, mkTup, mkLst, z1, z2, ad]
        have fr := ((f1.trans f2).trans f3).trans f4
        have ln : s4.length = st.length := by rw [l4, l3, l2, l1]
        simp only [List.mem_cons, List.not_mem_nil, or_false] at md
        rcases md with hd | hd
        · exact ⟨.and c e, s4, fin _ hd, ⟨ok2, ok3⟩, Nat.succ_le_succ (Nat.max_le.mpr ⟨hh2, hh3⟩), t4, fr, ln⟩
        · exact ⟨.or c e, s4, fin _ hd, ⟨ok2, ok3⟩, Nat.succ_le_succ (Nat.max_le.mpr ⟨hh2, hh3⟩), t4, fr, ln⟩
end LW
namespace LW
open PySem PySem.Spec PyProof.Rows L2 DL TL
def atV (vs : List D) (c : Nat) : D := (vs[c]?).getD .non
theorem ix0 {a : D} {r : List D} : L2.atI (a :: r) 0 = some a := atI_nat (j := 0) rfl
theorem ix1 {a b : D} {r : List D} : L2.atI (a :: b :: r) 1 = some b := atI_nat (j := 1) rfl
theorem ix2 {a b c : D} {r : List D} : L2.atI (a :: b :: c :: r) 2 = some c := atI_nat (j := 2) rfl
/-- a text that starts so -/
def stV (x : Str) : D → Bool | .str z => Txt.startswith z x | _ => false
/-- what a condition means -/
def sat (vs : List D) : C → Bool
  | .all => true
  | .eq c v => vEq (atV vs c) v
  | .lt c v => decide (cmpV (atV vs c) v < 0)
  | .st c x => stV x (atV vs c)
  | .one c us => us.any fun u => vEq u (atV vs c)
  | .not p => !sat vs p
  | .and p q => sat vs p && sat vs q
  | .or p q => sat vs p || sat vs q
theorem eqF_pv {a b : D} (ha : pvB a = true) (hb : pvB b = true) : eqF a b = some (vEq a b) := by
  cases a <;> cases b <;> first
    | rfl
    | (cases ha; done)
    | (cases hb; done)
theorem flat_pv {a : D} (ha : pvB a = true) : flatD a = true := by
  cases a <;> first
    | rfl
    | (cases ha; done)
theorem anyF_pv {v : D} (hv : pvB v = true) : ∀ {us : List D}, (∀ u ∈ us, pvB u = true) → anyF v us = some (us.any fun u => vEq u v)
  | [], _ => rfl
  | u :: us, h => by
    have := anyF_pv hv fun x hx => h x (List.mem_cons_of_mem _ hx)
    simp [anyF, eqF_pv (h u List.mem_cons_self) hv, this]
theorem at_val {vs : List D} {c : Nat} (h : c < vs.length) : L2.atI vs (c : Int) = some (atV vs c) := by
  rw [atI_nat (List.getElem?_eq_getElem h)]
  simp [atV, List.getElem?_eq_getElem h]
theorem mem_val {vs : List D} {c : Nat} (h : c < vs.length) : atV vs c ∈ vs := by
  simp [atV, List.getElem?_eq_getElem h]
/-! the law's own reading -/
def rkD : D → D
  | .non => .tup [.int 0, .int 0]
  | .str x => .tup [.int 2, .str x]
  | v => .tup [.int 1, v]
theorem rk_sm {v : D} (hv : pvB v = true) : Sm 1 100 (rkD v) := by
  cases v with
  | non => exact (Sm.tup (SmL.cons (Sm.int (i := 0) (by decide)) (SmL.cons (Sm.int (i := 0) (by decide)) SmL.nil))).mono (Nat.le_refl _) (by decide)
  | int i => exact (Sm.tup (SmL.cons (Sm.int (i := 1) (by decide)) (SmL.cons (pv_sm hv) SmL.nil))).mono (Nat.le_refl _) (by decide)
  | str i => exact (Sm.tup (SmL.cons (Sm.int (i := 2) (by decide)) (SmL.cons (pv_sm hv) SmL.nil))).mono (Nat.le_refl _) (by decide)
  | _ => cases hv
/-- the data of a rank -/
def rkP : D → PyData
  | .non => .tuple [.int 0, .int 0]
  | .str x => .tuple [.int 2, .str x]
  | .int i => .tuple [.int 1, .int i]
  | _ => .none
theorem rk_py {v : D} (hv : pvB v = true) : toPy (rkD v) = some (rkP v) := by
  cases v <;> first
    | rfl
    | (cases hv; done)
theorem rk_shaped {v : D} (hv : pvB v = true) : SeqAt.shaped (rkP v) = true := by
  obtain ⟨p, h1, h2⟩ := (rk_sm hv).shaped (by decide)
  rw [rk_py hv] at h1
  cases h1
  exact h2
theorem rk_eqv {v u : D} (hv : pvB v = true) (hu : pvB u = true) : PyData.eqv (rkP v) (rkP u) = vEq v u := by
  cases v <;> cases u <;> first
    | (cases hv; done)
    | (cases hu; done)
    | (simp [rkP, PyData.eqv, PyData.eqvAll, vEq]; done)
    | rfl
theorem rk_eq {v u : D} (hv : pvB v = true) (hu : pvB u = true) : opEq (rkD v) (rkD u) = some (.bl (vEq v u)) := by
  simp [opEq, rk_py hv, rk_py hu, rk_shaped hv, rk_shaped hu, rk_eqv hv hu]
theorem rk_lt {v u : D} (hv : pvB v = true) (hu : pvB u = true) : opLtD (rkD v) (rkD u) = some (.bl (decide (cmpV v u < 0))) := by
  cases v <;> cases u <;> first
    | (cases hv; done)
    | (cases hu; done)
    | skip
  · simp [rkD, opLtD, opLt, orD, ltI, ltS, onI, onS, lt2, eqF, cmpV, vEq]
  · simp [rkD, opLtD, opLt, orD, ltI, ltS, onI, onS, lt2, eqF, cmpV, vEq, kindP]
  · simp [rkD, opLtD, opLt, orD, ltI, ltS, onI, onS, lt2, eqF, cmpV, vEq, kindP]
  · simp [rkD, opLtD, opLt, orD, ltI, ltS, onI, onS, lt2, eqF, cmpV, vEq, kindP]
  · rename_i i j
    by_cases e : i = j
    · simp [rkD, opLtD, opLt, orD, ltI, ltS, onI, onS, lt2, eqF, cmpV, vEq, kindP, vLt, e]
    · by_cases l : i < j <;> simp [rkD, opLtD, opLt, orD, ltI, ltS, onI, onS, lt2, eqF, cmpV, vEq, kindP, vLt, e, l]
  · simp [rkD, opLtD, opLt, orD, ltI, ltS, onI, onS, lt2, eqF, cmpV, vEq, kindP]
  · simp [rkD, opLtD, opLt, orD, ltI, ltS, onI, onS, lt2, eqF, cmpV, vEq, kindP]
  · simp [rkD, opLtD, opLt, orD, ltI, ltS, onI, onS, lt2, eqF, cmpV, vEq, kindP]
  · rename_i i j
    by_cases e : i = j
    · simp [rkD, opLtD, opLt, orD, ltI, ltS, onI, onS, lt2, eqF, cmpV, vEq, kindP, vLt, e]
    · have tt : tl i < tl j ↔ i.cps.toList < j.cps.toList := Iff.rfl
      by_cases l : i.cps.toList < j.cps.toList <;> simp [rkD, opLtD, opLt, orD, ltI, ltS, onI, onS, lt2, eqF, cmpV, vEq, kindP, vLt, e, l, tt]
theorem rk_pyL : ∀ {us : List D}, (∀ u ∈ us, pvB u = true) → toPyL (us.map rkD) = some (us.map rkP)
  | [], _ => rfl
  | u :: us, h => by
    have := rk_pyL fun x hx => h x (List.mem_cons_of_mem _ hx)
    simp [toPyL, rk_py (h u List.mem_cons_self), this]
theorem rk_any {v : D} (hv : pvB v = true) : ∀ {us : List D}, (∀ u ∈ us, pvB u = true) → ((us.map rkP).any fun z => PyData.eqv z (rkP v)) = us.any fun u => vEq u v
  | [], _ => rfl
  | u :: us, h => by
    have := rk_any hv fun x hx => h x (List.mem_cons_of_mem _ hx)
    rw [List.map_cons, List.any_cons, List.any_cons, this, rk_eqv (h u List.mem_cons_self) hv]
theorem rk_in {v : D} (hv : pvB v = true) {us : List D} (hu : ∀ u ∈ us, pvB u = true) : opIn (rkD v) (.lst (us.map rkD)) = some (.bl (us.any fun u => vEq u v)) := by
  have s1 : SmL 1 ((us.map rkD).length * 101) (us.map rkD) := SmL.all fun x hx => by
    obtain ⟨u, h1, rfl⟩ := List.mem_map.mp hx
    exact rk_sm (hu u h1)
  obtain ⟨p, h1, h2⟩ := (Sm.lst s1).shaped (by decide)
  simp only [toPy, rk_pyL hu, Option.map_some, Option.some.injEq] at h1
  subst h1
  have fl : flatD (rkD v) = false := by
    cases v <;> first
      | rfl
      | (cases hv; done)
  simp [opIn, orD, inSeq, fl, inPy, rk_py hv, rk_pyL hu, rk_shaped hv, h2]
  have e := rk_any hv hu
  rw [List.any_map] at e
  exact e
theorem starts_cut {z x : Str} : (cutS z none (some (x.length : Int)) == x) = Txt.startswith z x := by
  have e1 : tl (cutS z none (some (x.length : Int))) = (tl z).take (tl x).length := by
    unfold cutS
    rw [HT.sIx_none, HT.sIx_nat]
    show ((z.cps.toList.drop 0).take (min x.length z.length - 0)).toArray.toList = _
    rw [List.drop_zero, Nat.sub_zero, len_tl x, len_tl z, ← List.take_eq_take_min]
  have e2 : Builtin.Str.subAt z x 0 = ((tl z).take (tl x).length == tl x) := by
    rw [StrLaws.subAt_eq, List.drop_zero, len_tl x]
  unfold Txt.startswith
  rw [e2, len_tl x, len_tl z, Nat.zero_add]
  rw [len_tl x] at e1
  generalize cutS z none (some ((tl x).length : Int)) = q at *
  by_cases h : (tl z).take (tl x).length = tl x
  · have hc : q = x := ext_tl (e1.trans h)
    have hl : (tl x).length ≤ (tl z).length := by
      have := congrArg List.length h
      rw [List.length_take] at this
      omega
    rw [hc, h, beq_self_eq_true, beq_self_eq_true, decide_eq_true hl]
    rfl
  · have hc : ¬ q = x := fun y => h (by rw [← e1, y])
    rw [show (q == x) = false from beq_eq_false_iff_ne.mpr hc, show ((tl z).take (tl x).length == tl x) = false from beq_eq_false_iff_ne.mpr h, Bool.and_false]
theorem cut_gs {n : Nat} {z : Str} (h : GS n z) (hi : Option Int) : GS n (cutS z none hi) := by
  have e : tl (cutS z none hi) = ((tl z).drop (HT.sIx z.length 0 none)).take (HT.sIx z.length z.length hi - HT.sIx z.length 0 none) := rfl
  refine ⟨?_, fun c hc => h.2 c ?_⟩
  · rw [len_tl, e, List.length_take, List.length_drop]
    have := h.1
    rw [len_tl] at this
    omega
  · rw [e] at hc
    exact List.mem_of_mem_drop (List.mem_of_mem_take hc)
theorem kindIn {s : String} {b : Bool} (h1 : opEq (.str (Str.ofString s)) (.str (Str.ofString "and")) = some (.bl true) ∨ True) (h : (Str.ofString "and" == Str.ofString s || Str.ofString "or" == Str.ofString s) = b) :
    inSeq false (.str (Str.ofString s)) (.tup [.str (Str.ofString "and"), .str (Str.ofString "or")]) = some (.bl b) := by
  subst h
  simp [inSeq, flatD, anyF, eqF]
theorem ks : inSeq false (.str (Str.ofString "and")) (.tup [.str (Str.ofString "and"), .str (Str.ofString "or")]) = some (.bl true) ∧ inSeq false (.str (Str.ofString "or")) (.tup [.str (Str.ofString "and"), .str (Str.ofString "or")]) = some (.bl true) ∧
    inSeq false (.str (Str.ofString "equal")) (.tup [.str (Str.ofString "and"), .str (Str.ofString "or")]) = some (.bl false) ∧ inSeq false (.str (Str.ofString "less")) (.tup [.str (Str.ofString "and"), .str (Str.ofString "or")]) = some (.bl false) ∧
    inSeq false (.str (Str.ofString "starts")) (.tup [.str (Str.ofString "and"), .str (Str.ofString "or")]) = some (.bl false) ∧ inSeq false (.str (Str.ofString "one_of")) (.tup [.str (Str.ofString "and"), .str (Str.ofString "or")]) = some (.bl false) :=
  ⟨kindIn (.inr trivial) (by decide +kernel), kindIn (.inr trivial) (by decide +kernel), kindIn (.inr trivial) (by decide +kernel), kindIn (.inr trivial) (by decide +kernel), kindIn (.inr trivial) (by decide +kernel), kindIn (.inr trivial) (by decide +kernel)⟩
theorem cut1 {a : D} {r : List D} : DL.cutD (a :: r) (some 1) none = r := by
  unfold DL.cutD
  rw [show (1 : Int) = ((1 : Nat) : Int) from rfl, HT.sIx_nat, HT.sIx_none]
  simp
end LW
namespace LW
open PySem PySem.Spec PyProof.Rows L2 DL TL
theorem sat_st {v : D} (hv : pvB v = true) {x : Str} (hx : GS 10 x) (env : Lo) (st : Store) (h4 : env[4]? = some (some v)) (h5 : env[5]? = some (some (.str x))) :
    (fAnd (fIsi "str" (fVar 4)) (fOp opEq (fSliceS (fVar 4) oNone (oSome (fMk bLen (aCons (fVar 5) aNil)))) (fVar 5))) env st = some (.bl (stV x v), st) := by
  have z : x.length ≤ sizeLine := Nat.le_trans hx.1 (by decide)
  cases v with
  | str y =>
    have zy : y.length ≤ sizeLine := Nat.le_trans (asc_gs hv).1 (by decide)
    have e := opEq_fv (m := 40) (n := 10) (a := .str (cutS y none (some (x.length : Int)))) (b := .str x) (cut_gs (asc_gs hv) _) hx
    have e2 : vEq (.str (cutS y none (some (x.length : Int)))) (.str x) = Txt.startswith y x := starts_cut
    rw [e2] at e
    simp [fAnd, fIsi, fVar, h4, h5, tyD, isiB, asB, fOp, fSliceS, oNone, oSome, fMk, bLen, lenL, aCons, aNil, z, zy, slS, e, stV]
  | non => simp [fAnd, fIsi, fVar, h4, h5, tyD, isiB, asB, stV]
  | int i => simp [fAnd, fIsi, fVar, h4, h5, tyD, isiB, asB, stV]
  | _ => cases hv
end LW
namespace LW
open PySem PySem.Spec PyProof.Rows L2 DL TL
def signB (c : Nat) : Bool := decide (32 ≤ c ∧ c ≤ 126)
def isInt : D → Bool | .int _ => true | _ => false
def strB : D → Bool | .str x => decide (x.length ≤ 20) && (tl x).all signB | _ => false
def valB : D → Bool | .non => true | .int i => decide (-1000000000 ≤ i ∧ i ≤ 1000000000) | .str x => decide (x.length ≤ 20) && (tl x).all signB | _ => false
def choiceB : D → Bool | .tup us => decide (1 ≤ us.length ∧ us.length ≤ 8) && us.all valB | _ => false
def colB (w : Int) : D → Bool | .int i => decide (0 ≤ i ∧ i < w) | _ => false
def okw (d : D) : Prop := okD d = true ∧ wD d ≤ 200000
theorem okw.mem {ds : List D} (h : okw (.tup ds)) {d : D} (m : d ∈ ds) : okw d := ⟨okL_mem.mp h.1 d m, by have := wL_mem m; have h2 : wL ds ≤ 200000 := h.2; omega⟩
theorem len_wL : ∀ ds : List D, ds.length ≤ wL ds
  | [] => Nat.le_refl _
  | d :: ds => by have := len_wL ds; rw [wL, List.length_cons]; omega
theorem okw.len {ds : List D} (h : okw (.tup ds)) : ds.length ≤ sizeLine := Nat.le_trans (len_wL ds) (Nat.le_trans h.2 (by rw [sizeLine_eq]; decide))
theorem okw.strlen {x : Str} (h : okw (.str x)) : x.length ≤ sizeLine := Nat.le_trans (show x.length ≤ 200000 from h.2) (by rw [sizeLine_eq]; decide)
theorem int_ok {d : D} (h : okw d) (st : Store) : m_is_integer [d] st = some (.bl (isInt d), st) := by
  cases d <;> first
    | (cases h.1; done)
    | (simp [m_is_integer, g_is_integer, mOf, outM, startD, sRet, fAnd, fNot, fIsi, fVar, tyD, isiB, asB, isInt]; done)
theorem lt1 {a b : Nat} (h : a < b) : ([a] : List Nat) < [b] := by simp [List.cons_lt_cons_iff, h]
theorem le1 {a b : Nat} (h : a ≤ b) : ([a] : List Nat) ≤ [b] := List.not_lt.mp (by simp [List.cons_lt_cons_iff]; omega)
theorem chain_sign (c : Nat) (env : Lo) (st : Store) (h : env[1]? = some (some (.str ⟨#[c]⟩))) : fChain opLe opLe (fC (.str (Str.ofString " "))) (fVar 1) (fC (.str (Str.ofString "~"))) env st = some (.bl (signB c), st) := by
  have e1 : (Str.ofString " ").cps.toList = [32] := by decide +kernel
  have e2 : (Str.ofString "~").cps.toList = [126] := by decide +kernel
  have l1 : opLe (.str (Str.ofString " ")) (.str ⟨#[c]⟩) = some (.bl (decide (32 ≤ c))) := by
    by_cases q : 32 ≤ c
    · simp [opLe, orD, leI, leS, onI, onS, e1, q, le1 q]
    · simp [opLe, orD, leI, leS, onI, onS, e1, q, lt1 (show c < 32 by omega)]
  have l2 : opLe (.str ⟨#[c]⟩) (.str (Str.ofString "~")) = some (.bl (decide (c ≤ 126))) := by
    by_cases q : c ≤ 126
    · simp [opLe, orD, leI, leS, onI, onS, e2, q, le1 q]
    · simp [opLe, orD, leI, leS, onI, onS, e2, q, lt1 (show 126 < c by omega)]
  by_cases h1 : 32 ≤ c
  · simp [fChain, fC, fVar, h, l1, l2, asB, h1, signB]
  · simp [fChain, fC, fVar, h, l1, asB, h1, signB]
theorem bools_map : ∀ l : List Bool, bools (l.map .bl) = some l
  | [] => rfl
  | b :: l => by simp [bools, bools_map l]
def signD (c : Nat) : D := .str ⟨#[c]⟩
theorem signs_loop (x : Str) (st : Store) : loopC [1] b1 tTrue (fChain opLe opLe (fC (.str (Str.ofString " "))) (fVar 1) (fC (.str (Str.ofString "~")))) (x.cps.toList.map fun c => .str ⟨#[c]⟩) [some (.str x), none] st = some (((tl x).map signB).map .bl, st) := by
  have key : ∀ l : List Nat, loopC [1] b1 tTrue (fChain opLe opLe (fC (.str (Str.ofString " "))) (fVar 1) (fC (.str (Str.ofString "~")))) (l.map fun c => .str ⟨#[c]⟩) [some (.str x), none] st = some ((l.map signB).map .bl, st) := by
    intro l
    induction l with
    | nil => rfl
    | cons c l ih => simp only [List.map_cons, loopC, b1, Option.bind_some, tTrue, if_true, setL, chain_sign c [some (.str x), some (.str ⟨#[c]⟩)] st rfl, List.set_cons_succ, List.set_cons_zero, ih, Option.map_some]
  exact key (tl x)
theorem tl_len (x : Str) : (tl x).length = x.length := (len_tl x).symm
theorem string_ok {d : D} (h : okw d) (st : Store) : m_is_string [d] st = some (.bl (strB d), st) := by
  cases d with
  | str x =>
    have z := h.strlen
    by_cases c : x.length ≤ 20
    · have c2 : ¬ (20 : Int) < (x.length : Int) := by omega
      have zz : ((tl x).map signB).length ≤ sizeLine := by rw [List.length_map, tl_len]; exact z
      simp only [m_is_string, g_is_string, mOf, outM, startD, sSeq, sIf, sRet, sNil, fOrT, fNotT, fTest, fIsi, fVar, tyD, isiB, asB, fOp, fMk, bLen, lenL, aCons, aNil, fC]
      simp [z, opGt_int, c2, fComp, iOf, fVar, asStr, wipeL]
      rw [signs_loop x st]
      have ba := bools_map ((tl x).map signB)
      simp at ba zz
      simp [zz, ba, bAll, strB, c]
    · have c2 : (20 : Int) < (x.length : Int) := by omega
      simp [m_is_string, g_is_string, mOf, outM, startD, sSeq, sIf, sRet, sNil, fOrT, fNotT, fTest, fIsi, fVar, tyD, isiB, asB, fOp, fMk, bLen, lenL, aCons, aNil, fC, z, opGt_int, c2, strB, c]
  | scr _ => cases h.1
  | ref _ => cases h.1
  | _ => simp [m_is_string, g_is_string, mOf, outM, startD, sSeq, sIf, sRet, fOrT, fNotT, fTest, fIsi, fVar, tyD, isiB, asB, fC, strB]
theorem opLe_int (a b : Int) : opLe (.int a) (.int b) = some (.bl (decide (a ≤ b))) := by simp [opLe, orD, leI, onI]
theorem chain_int {a b c : Int} {fa fb fc : F} {env : Lo} {st : Store} (h1 : fa env st = some (.int a, st)) (h2 : fb env st = some (.int b, st)) (h3 : fc env st = some (.int c, st)) : fChain opLe opLe fa fb fc env st = some (.bl (decide (a ≤ b ∧ b ≤ c)), st) := by
  by_cases q : a ≤ b
  · simp [fChain, h1, h2, h3, opLe_int, asB, q]
  · simp [fChain, h1, h2, opLe_int, asB, q]
theorem isval_ok {d : D} (h : okw d) (st : Store) : m_is_value [d] st = some (.bl (valB d), st) := by
  have k := string_ok h st
  have k2 := int_ok h st
  cases d with
  | int i =>
    have c := chain_int (a := -1000000000) (b := i) (c := 1000000000) (fa := fUn negI (fC (.int 1000000000))) (fb := fVar 0) (fc := fC (.int 1000000000)) (env := [some (.int i)]) (st := st) (by simp [fUn, negI, fC]) (by simp [fVar]) (by simp [fC])
    simp only [m_is_value, g_is_value, mOf, outM, startD, sSeq, sIf, sRet, sNil, fTest, fCall, aCons, aNil, List.map_cons, List.map_nil, List.singleton_append, show N_is_value.length = 1 from rfl, List.length_cons, List.length_nil, show List.replicate (1 - (0 + 1)) (none : Option D) = [] from rfl]
    simp [fVar, k2, isInt, asB]
    rw [show ([some (D.int i)] : Lo) = [some (.int i)] from rfl, c]
    simp [valB]
  | scr _ => cases h.1
  | ref _ => cases h.1
  | _ => simp [m_is_value, g_is_value, mOf, outM, startD, sSeq, sIf, sRet, sNil, fTest, fCall, aCons, aNil, fVar, k2, isInt, asB, fOr, fOp, fC, opIs, orD, isN, isB, DL.isNon, k, strB, valB]
theorem map_loop {is : List Nat} {f : F} {env : Lo} {st : Store} {g : D → Bool} {us : List D} (h : ∀ u ∈ us, f (setL is [u] env) st = some (.bl (g u), st)) : loopC is b1 tTrue f us env st = some ((us.map g).map .bl, st) := by
  have := loopC_map (is := is) (bd := b1) (f := f) (g := fun u => .bl (g u)) (env := env) (st := st) (ds := us) fun d hd => ⟨[d], rfl, h d hd⟩
  rw [this, List.map_map]
  rfl
theorem all_id (g : D → Bool) (us : List D) : (us.map g).all id = us.all g := by
  induction us with
  | nil => rfl
  | cons u us ih => rw [List.map_cons, List.all_cons, List.all_cons, ih]; rfl
theorem choice_ok {d : D} (h : okw d) (st : Store) : m_is_choice [d] st = some (.bl (choiceB d), st) := by
  cases d with
  | tup us =>
    have z := h.len
    have c := chain_int (a := 1) (b := us.length) (c := 8) (fa := fC (.int 1)) (fb := fMk bLen (aCons (fVar 0) aNil)) (fc := fC (.int 8)) (env := [some (.tup us), none]) (st := st) (by simp [fC]) (by simp [fMk, bLen, lenL, aCons, aNil, fVar]) (by simp [fC])
    have lp := map_loop (is := [1]) (f := fCall m_is_value (aCons (fVar 1) aNil)) (env := [some (.tup us), none]) (st := st) (g := valB) (us := us) (fun u hu => by simp [fCall, aCons, aNil, fVar, setL, isval_ok (h.mem hu)])
    by_cases q : 1 ≤ us.length ∧ us.length ≤ 8
    · have q2 : (1 : Int) ≤ us.length ∧ (us.length : Int) ≤ 8 := by omega
      simp [m_is_choice, g_is_choice, mOf, outM, startD, sSeq, sIf, sRet, sNil, fOrT, fNotT, fTest, fIsi, tyD, isiB, asB, fVar, c, q2, fMk, aCons, aNil, fComp, iOf, asT, wipeL, lp, z, bAll, choiceB, q]
      have ba := bools_map (us.map valB)
      have al := all_id valB us
      simp at ba al
      simp [ba, al]
    · have q2 : ¬ ((1 : Int) ≤ us.length ∧ (us.length : Int) ≤ 8) := by omega
      simp only [q2, decide_false] at c
      simp only [m_is_choice, g_is_choice, mOf, outM, startD, sSeq, sIf, sRet, sNil, fOrT, fNotT, fTest, fIsi, tyD, isiB, asB, choiceB]
      simp [fVar, c, fC, q]
  | scr _ => cases h.1
  | ref _ => cases h.1
  | _ => simp [m_is_choice, g_is_choice, mOf, outM, startD, sSeq, sIf, sRet, sNil, fOrT, fNotT, fTest, fIsi, tyD, isiB, asB, fVar, fC, choiceB]
theorem column_ok {d : D} (h : okw d) (w : Int) (st : Store) : m_is_column [d, .int w] st = some (.bl (colB w d), st) := by
  have k2 := int_ok h st
  cases d with
  | int i =>
    by_cases q : 0 ≤ i
    · simp [m_is_column, g_is_column, mOf, outM, startD, sRet, fAnd, fCall, aCons, aNil, fVar, k2, isInt, asB, fChain, fC, opLe_int, q, opLt_int, colB]
    · simp [m_is_column, g_is_column, mOf, outM, startD, sRet, fAnd, fCall, aCons, aNil, fVar, k2, isInt, asB, fChain, fC, opLe_int, q, opLt_int, colB]
  | scr _ => cases h.1
  | ref _ => cases h.1
  | _ => simp [m_is_column, g_is_column, mOf, outM, startD, sRet, fAnd, fCall, aCons, aNil, fVar, k2, isInt, asB, colB]
def isK (s : String) : D → Bool | .str x => x == Str.ofString s | _ => false
theorem isK_str (s : String) (x : Str) : isK s (.str x) = (x == Str.ofString s) := rfl
theorem eqS_ok {d : D} (h : okD d = true) (s : String) : eqS (Str.ofString s) d = some (isK s d) := by
  cases d <;> first
    | rfl
    | (cases h; done)
theorem eqA_k {d : D} (h : okD d = true) (s : String) : opEqA d (.str (Str.ofString s)) = some (.bl (isK s d)) := by
  simp [opEqA, orD, DL.eqT, eqS_ok h s]
theorem inA_k {d : D} (h : okD d = true) (a b : String) : opInA d (.tup [.str (Str.ofString a), .str (Str.ofString b)]) = some (.bl (isK a d || isK b d)) := by
  simp [opInA, orD, inStr, strsD, anyS, eqS_ok h]
def operB (k : D) (d : D) : Bool := if isK "equal" k || isK "less" k then valB d else if isK "starts" k then (strB d && !isK "" d) else isK "one_of" k && choiceB d
theorem oper_ok {k d : D} (hk : okw k) (h : okw d) (st : Store) : m_is_operand [k, d] st = some (.bl (operB k d), st) := by
  have z2 : 2 ≤ sizeLine := by decide
  have e1 := inA_k hk.1 "equal" "less"
  have e2 := eqA_k hk.1 "starts"
  have e3 := eqA_k hk.1 "one_of"
  by_cases q : (isK "equal" k || isK "less" k) = true
  · rw [q] at e1
    simp [m_is_operand, g_is_operand, mOf, outM, startD, sSeq, sIf, sRet, sNil, fTest, fOp, fVar, fC, fMk, mkTup, aCons, aNil, z2, e1, asB, fCall, isval_ok h, operB, q]
  · simp only [Bool.not_eq_true] at q
    rw [q] at e1
    cases q2 : isK "starts" k with
    | true =>
      rw [q2] at e2
      have s := string_ok h st
      cases d with
      | str x =>
        have gx : GS x.length x := ⟨Nat.le_refl _, fun c hc => of_decide_eq_true (List.all_eq_true.mp h.1 c hc)⟩
        have ne := opNe_fv (m := x.length) (n := 0) (a := .str x) (b := .str (Str.ofString "")) gx (asc_gs (by decide +kernel))
        cases sb : strB (.str x) <;> simp [m_is_operand, g_is_operand, mOf, outM, startD, sSeq, sIf, sRet, sNil, fTest, fOp, fVar, fC, fMk, mkTup, aCons, aNil, z2, e1, e2, asB, fCall, fAnd, s, sb, ne, operB, q, q2, vEq, isK_str]
      | scr _ => cases h.1
      | ref _ => cases h.1
      | _ => simp [m_is_operand, g_is_operand, mOf, outM, startD, sSeq, sIf, sRet, sNil, fTest, fOp, fVar, fC, fMk, mkTup, aCons, aNil, z2, e1, e2, asB, fCall, fAnd, s, strB, operB, q, q2]
    | false =>
      rw [q2] at e2
      cases q3 : isK "one_of" k with
      | true =>
        rw [q3] at e3
        simp [m_is_operand, g_is_operand, mOf, outM, startD, sSeq, sIf, sRet, sNil, fTest, fOp, fVar, fC, fMk, mkTup, aCons, aNil, z2, e1, e2, e3, asB, fCall, fAnd, choice_ok h, operB, q, q2, q3]
      | false =>
        rw [q3] at e3
        simp [m_is_operand, g_is_operand, mOf, outM, startD, sSeq, sIf, sRet, sNil, fTest, fOp, fVar, fC, fMk, mkTup, aCons, aNil, z2, e1, e2, e3, asB, fCall, fAnd, operB, q, q2, q3]
def cw (w : Int) : Nat → D → Bool
  | k + 1, .tup (h :: r) => if isK "all" h then r.isEmpty else if isK "not" h then (match r with | [p] => cw w k p | _ => false) else (match r with | [p, q] => if isK "and" h || isK "or" h then cw w k p && cw w k q else colB w p && operB h q | _ => false)
  | _, _ => false
theorem within_ok (w : Int) : ∀ (k : Nat) {d : D}, okw d → ∀ (dp : Int), dp = k → ∀ st : Store, m_is_condition_within (k + 1) [d, .int w, .int dp] st = some (.bl (cw w k d), st)
  | 0, d, h, dp, e, st => by
    subst e
    have : cw w 0 d = false := by cases d <;> rfl
    simp [m_is_condition_within, g_is_condition_within, mOf, outM, startD, sSeq, sIf, sRet, fOrT, fTest, fOp, fVar, fC, opEq_int, asB, this]
  | k + 1, d, h, dp, e, st => by
    have ne : (dp == 0) = false := by
      rw [e]
      exact beq_eq_false_iff_ne.mpr (by omega)
    have sub : dp - 1 = (k : Int) := by omega
    cases d with
    | tup ds =>
      cases ds with
      | nil => simp [m_is_condition_within, g_is_condition_within, mOf, outM, startD, sSeq, sIf, sRet, fOrT, fNotT, fTest, fOp, fVar, fC, opEq_int, asB, ne, fIsi, tyD, isiB, fMk, bLen, lenL, aCons, aNil, cw]
      | cons a r =>
        have oa : okw a := h.mem List.mem_cons_self
        have e1 := eqA_k oa.1 "all"
        have e2 := eqA_k oa.1 "not"
        have e3 := inA_k oa.1 "and" "or"
        have z2 : 2 ≤ sizeLine := by decide
        have nz : (((r.length : Int) + 1) == 0) = false := beq_eq_false_iff_ne.mpr (by omega)
        cases q1 : isK "all" a with
        | true =>
          rw [q1] at e1
          have : (((r.length : Int) + 1) == 1) = r.isEmpty := by
            cases r with
            | nil => rfl
            | cons b t =>
              rw [List.isEmpty_cons, List.length_cons]
              exact beq_eq_false_iff_ne.mpr (by omega)
          simp [m_is_condition_within, g_is_condition_within, mOf, outM, startD, sSeq, sIf, sRet, sNil, sAsg, gN, fOrT, fNotT, fTest, fOp, fVar, fC, opEq_int, asB, ne, fIsi, tyD, isiB, fMk, bLen, lenL, aCons, aNil, nz, fSub, ixD, ix0, e1, this, cw, q1]
        | false =>
          rw [q1] at e1
          cases q2 : isK "not" a with
          | true =>
            rw [q2] at e2
            match r, h with
            | [], h => simp [m_is_condition_within, g_is_condition_within, mOf, outM, startD, sSeq, sIf, sRet, sNil, sAsg, gN, fOrT, fNotT, fTest, fOp, fVar, fC, opEq_int, asB, ne, fIsi, tyD, isiB, fMk, bLen, lenL, aCons, aNil, fSub, ixD, ix0, e1, e2, fAnd, cw, q1, q2]
            | [p], h =>
              have op : okw p := h.mem (List.mem_cons_of_mem _ List.mem_cons_self)
              have ih := within_ok w k op (dp - 1) sub st
              rw [show m_is_condition_within (k + 1 + 1) = mOf N_is_condition_within.length (g_is_condition_within (m_is_condition_within (k + 1))) from rfl]
              generalize m_is_condition_within (k + 1) = M at ih ⊢
              simp [g_is_condition_within, mOf, outM, startD, sSeq, sIf, sRet, sNil, sAsg, gN, fOrT, fNotT, fTest, fOp, fVar, fC, opEq_int, asB, ne, fIsi, tyD, isiB, fMk, bLen, lenL, aCons, aNil, fSub, ixD, ix0, ix1, e1, e2, fAnd, cw, q1, q2, fCall, subI_int, ih]
            | p :: q :: t, h =>
              have n2 : (((t.length : Int) + 1 + 1 + 1) == 2) = false := beq_eq_false_iff_ne.mpr (by omega)
              have n0 : (((t.length : Int) + 1 + 1 + 1) == 0) = false := beq_eq_false_iff_ne.mpr (by omega)
              simp [m_is_condition_within, g_is_condition_within, mOf, outM, startD, sSeq, sIf, sRet, sNil, sAsg, gN, fOrT, fNotT, fTest, fOp, fVar, fC, opEq_int, asB, ne, fIsi, tyD, isiB, fMk, bLen, lenL, aCons, aNil, fSub, ixD, ix0, e1, e2, fAnd, cw, q1, q2, n0, n2]
          | false =>
            rw [q2] at e2
            match r, h with
            | [p, q], h =>
              have op : okw p := h.mem (List.mem_cons_of_mem _ List.mem_cons_self)
              have oq : okw q := h.mem (List.mem_cons_of_mem _ (List.mem_cons_of_mem _ List.mem_cons_self))
              have ip := within_ok w k op (dp - 1) sub st
              have iq := within_ok w k oq (dp - 1) sub st
              have cp := column_ok op w st
              have oq2 := oper_ok oa oq st
              have f2 : okw (.tup [p, q]) := ⟨okL_mem.mpr fun d hd => okL_mem.mp h.1 d (List.mem_cons_of_mem _ hd), by
                have h2 : wL [a, p, q] ≤ 200000 := h.2
                rw [wL] at h2
                show wL [p, q] ≤ 200000
                omega⟩
              rw [show m_is_condition_within (k + 1 + 1) = mOf N_is_condition_within.length (g_is_condition_within (m_is_condition_within (k + 1))) from rfl]
              generalize m_is_condition_within (k + 1) = M at ip iq ⊢
              cases q3 : (isK "and" a || isK "or" a) with
              | true =>
                rw [q3] at e3
                simp [g_is_condition_within, mOf, outM, startD, sSeq, sIf, sRet, sNil, sAsg, gN, fOrT, fNotT, fTest, fOp, fVar, fC, opEq_int, opNe_int, asB, ne, fIsi, tyD, isiB, fMk, bLen, lenL, aCons, aNil, fSub, ixD, ix0, e1, e2, cw, q1, q2, q3, mkTup, z2, e3, fComp, iOf, asT, fSlice, oSome, oNone, slD, cut1, wipeL, loopC, b1, tTrue, setL, fCall, subI_int, ip, iq, bAll, bools]
              | false =>
                rw [q3] at e3
                cases q4 : colB w p with
                | true =>
                  rw [q4] at cp
                  simp [g_is_condition_within, mOf, outM, startD, sSeq, sIf, sRet, sNil, sAsg, gN, fOrT, fNotT, fTest, fOp, fVar, fC, opEq_int, opNe_int, asB, ne, fIsi, tyD, isiB, fMk, bLen, lenL, aCons, aNil, fSub, ixD, ix0, ix1, ix2, e1, e2, cw, q1, q2, q3, q4, mkTup, z2, e3, fAnd, fCall, cp, oq2]
                | false =>
                  rw [q4] at cp
                  simp [g_is_condition_within, mOf, outM, startD, sSeq, sIf, sRet, sNil, sAsg, gN, fOrT, fNotT, fTest, fOp, fVar, fC, opEq_int, opNe_int, asB, ne, fIsi, tyD, isiB, fMk, bLen, lenL, aCons, aNil, fSub, ixD, ix0, ix1, ix2, e1, e2, cw, q1, q2, q3, q4, mkTup, z2, e3, fAnd, fCall, cp]
            | [], h => simp [m_is_condition_within, g_is_condition_within, mOf, outM, startD, sSeq, sIf, sRet, sNil, sAsg, gN, fOrT, fNotT, fTest, fOp, fVar, fC, opEq_int, opNe_int, asB, ne, fIsi, tyD, isiB, fMk, bLen, lenL, aCons, aNil, fSub, ixD, ix0, e1, e2, cw, q1, q2]
            | [p], h => simp [m_is_condition_within, g_is_condition_within, mOf, outM, startD, sSeq, sIf, sRet, sNil, sAsg, gN, fOrT, fNotT, fTest, fOp, fVar, fC, opEq_int, opNe_int, asB, ne, fIsi, tyD, isiB, fMk, bLen, lenL, aCons, aNil, fSub, ixD, ix0, e1, e2, cw, q1, q2]
            | p :: q :: b :: t, h =>
              have n2 : (((t.length : Int) + 1 + 1 + 1 + 1) == 3) = false := beq_eq_false_iff_ne.mpr (by omega)
              have n0 : (((t.length : Int) + 1 + 1 + 1 + 1) == 0) = false := beq_eq_false_iff_ne.mpr (by omega)
              simp [m_is_condition_within, g_is_condition_within, mOf, outM, startD, sSeq, sIf, sRet, sNil, sAsg, gN, fOrT, fNotT, fTest, fOp, fVar, fC, opEq_int, opNe_int, asB, ne, fIsi, tyD, isiB, fMk, bLen, lenL, aCons, aNil, fSub, ixD, ix0, e1, e2, cw, q1, q2, n0, n2]
    | scr _ => cases h.1
    | ref _ => cases h.1
    | _ => simp [m_is_condition_within, g_is_condition_within, mOf, outM, startD, sSeq, sIf, sRet, fOrT, fNotT, fTest, fOp, fVar, fC, opEq_int, asB, ne, fIsi, tyD, isiB, cw]
theorem cond_is {d : D} (h : okw d) (w : Int) (st : Store) : m_is_condition [d, .int w] st = some (.bl (cw w 8 d), st) := by
  have := within_ok w 8 h 8 rfl st
  simp [m_is_condition, g_is_condition, mOf, outM, startD, sRet, fCall, aCons, aNil, fVar, fC, this]
def rngB (a b : Int) : D → Bool | .int i => decide (a ≤ i ∧ i ≤ b) | _ => false
theorem bad_loop (x : Str) (st : Store) : loopC [1] b1 (fNotT (fTest (fChain opLe opLe (fC (.str (Str.ofString " "))) (fVar 1) (fC (.str (Str.ofString "~")))))) (fVar 1) (x.cps.toList.map fun c => .str ⟨#[c]⟩) [some (.str x), none] st = some (((tl x).filter fun c => !signB c).map fun c => .str ⟨#[c]⟩, st) := by
  have key : ∀ l : List Nat, loopC [1] b1 (fNotT (fTest (fChain opLe opLe (fC (.str (Str.ofString " "))) (fVar 1) (fC (.str (Str.ofString "~")))))) (fVar 1) (l.map fun c => .str ⟨#[c]⟩) [some (.str x), none] st = some ((l.filter fun c => !signB c).map fun c => .str ⟨#[c]⟩, st) := by
    intro l
    induction l with
    | nil => rfl
    | cons c l ih =>
      have e := chain_sign c [some (.str x), some (.str ⟨#[c]⟩)] st rfl
      rw [List.map_cons, List.filter_cons]
      cases q : signB c with
      | true =>
        rw [q] at e
        simp only [loopC, b1, Option.bind_some, setL, List.set_cons_succ, List.set_cons_zero, fNotT, fTest, e, asB, Option.map_some, Bool.not_true, Bool.false_eq_true, if_false]
        exact ih
      | false =>
        rw [q] at e
        simp only [loopC, b1, Option.bind_some, setL, List.set_cons_succ, List.set_cons_zero, fNotT, fTest, e, asB, Option.map_some, Bool.not_false, if_true]
        rw [show fVar 1 [some (D.str x), some (D.str ⟨#[c]⟩)] st = some (.str ⟨#[c]⟩, st) from rfl]
        simp only [Option.bind_some]
        rw [show loopC [1] b1 (fNotT (fTest (fChain opLe opLe (fC (.str (Str.ofString " "))) (fVar 1) (fC (.str (Str.ofString "~")))))) (fVar 1) (l.map fun c => .str ⟨#[c]⟩) [some (.str x), none] st = _ from ih]
        rfl
  exact key (tl x)
theorem signs_nil {l : List Nat} (h : ∀ c ∈ l, c < 128) : opEq (.lst (l.map fun c => .str ⟨#[c]⟩)) (.lst []) = some (.bl l.isEmpty) := by
  have s1 : SmL 0 ((l.map fun c => D.str ⟨#[c]⟩).length * 2) (l.map fun c => D.str ⟨#[c]⟩) := SmL.all fun d hd => by
    obtain ⟨c, hc, rfl⟩ := List.mem_map.mp hd
    exact Sm.str ⟨Nat.le_refl _, fun y hy => by
      have : y = c := by simpa using hy
      subst this
      exact h y hc⟩
  obtain ⟨p, h1, h2⟩ := (Sm.lst s1).shaped (by decide)
  obtain ⟨ps, h3, h4⟩ := Option.map_eq_some_iff.mp (show (toPyL _).map PyData.list = some p from h1)
  subst h4
  have e : PyData.eqv (.list ps) (.list []) = l.isEmpty := by
    cases l with
    | nil => cases h3; rfl
    | cons c l =>
      obtain ⟨q, g1, g2⟩ := Option.bind_eq_some_iff.mp (show ((toPy _).bind fun p => (toPyL _).map fun q => p :: q) = some ps from h3)
      obtain ⟨qs, g3, g4⟩ := Option.map_eq_some_iff.mp g2
      subst g4
      rfl
  have e2 : toPy (.lst []) = some (.list []) := rfl
  have e3 : SeqAt.shaped (.list []) = true := by decide
  simp only [opEq, h1, e2, Option.bind_some, h2, e3, and_self, if_true, e]
theorem filter_nil (l : List Nat) : (l.filter fun c => !signB c).isEmpty = l.all signB := by
  induction l with
  | nil => rfl
  | cons c l ih => cases q : signB c <;> simp [List.filter_cons, q, ih]
theorem cutTo {xs : List D} {i : Int} (h0 : 0 ≤ i) (h1 : i ≤ xs.length) : DL.cutD xs none (some i) = xs.take i.toNat := by
  unfold DL.cutD
  rw [show i = ((i.toNat : Nat) : Int) from (Int.toNat_of_nonneg h0).symm, HT.sIx_nat, HT.sIx_none, Int.toNat_natCast]
  simp
theorem cutFrom {xs : List D} {i : Int} (h0 : 0 ≤ i) (h1 : i ≤ xs.length) : DL.cutD xs (some i) none = xs.drop i.toNat := by
  unfold DL.cutD
  rw [show i = ((i.toNat : Nat) : Int) from (Int.toNat_of_nonneg h0).symm, HT.sIx_nat, HT.sIx_none, Int.toNat_natCast]
  rw [Nat.min_eq_left (by omega), List.take_of_length_le (by rw [List.length_drop]; exact Nat.le_refl _)]
theorem addT_any {xs ys : List D} (h : xs.length + ys.length ≤ 1000000) : opAdd (.tup xs) (.tup ys) = some (.tup (xs ++ ys)) := by
  have : xs.length + ys.length ≤ sizeLine := Nat.le_trans h (by rw [sizeLine_eq]; decide)
  simp [opAdd, orD, addI, addS, addL, addT, onI, onS, this]
theorem wL_cut (xs : List D) (i : Nat) : wL (xs.take i) + wL (xs.drop i) = wL xs := by rw [← wL_append, List.take_append_drop]
theorem wL_drop (xs : List D) (i : Nat) : wL (xs.drop (i + 1)) ≤ wL (xs.drop i) := by
  have := wL_cut (xs.drop i) 1
  rw [List.drop_drop] at this
  omega
theorem wL_at {xs : List D} {i : Nat} {x : D} (h : xs[i]? = some x) : wL (xs.take i) + (wD x + 1) + wL (xs.drop (i + 1)) = wL xs := by
  obtain ⟨hi, e⟩ := List.getElem?_eq_some_iff.mp h
  have := wL_cut xs i
  rw [List.drop_eq_getElem_cons hi, e, wL] at this
  omega
end LW
/-! What simp knows of the data level. -/
namespace DL
open PySem PySem.Spec PyProof.Rows L2 TL
@[simp] theorem u_mOf (n : Nat) (g : FS) (ds : List D) (st : Store) : mOf n g ds st = outM (g (startD n ds) st) := rfl
@[simp] theorem u_outM1 (d : D) (e : Lo) (s : Store) : outM (some (.rt d, e, s)) = some (d, s) := rfl
@[simp] theorem u_outM2 (e : Lo) (s : Store) : outM (some (.nx, e, s)) = some (.non, s) := rfl
@[simp] theorem u_startD (n : Nat) (ds : List D) : startD n ds = ds.map some ++ List.replicate (n - ds.length) none := rfl
@[simp] theorem u_sSeq (g h : FS) (env : Lo) (st : Store) : sSeq g h env st = (g env st).bind fun p => match p with | (.nx, e1, s1) => h e1 s1 | q => some q := rfl
@[simp] theorem u_sAsg (f : F) (g : FG) (env : Lo) (st : Store) : sAsg f g env st = (f env st).bind fun p => (g p.1 env).map fun e1 => (.nx, e1, p.2) := rfl
@[simp] theorem u_gN (i : Nat) (d : D) (env : Lo) : gN i d env = some (env.set i (some d)) := rfl
@[simp] theorem u_gT (n : Nat) (h : FGs) (ds : List D) (env : Lo) : gT n h (.tup ds) env = if ds.length = n then h ds env else none := rfl
@[simp] theorem u_gNil (env : Lo) : gNil' [] env = some env := rfl
@[simp] theorem u_gCons (g : FG) (h : FGs) (d : D) (r : List D) (env : Lo) : gCons' g h (d :: r) env = (g d env).bind fun e1 => h r e1 := rfl
@[simp] theorem u_sIf (t : FT) (g h : FS) (env : Lo) (st : Store) : sIf t g h env st = (t env st).bind fun p => if p.1 = true then g env p.2 else h env p.2 := rfl
@[simp] theorem u_sNil (env : Lo) (st : Store) : sNil env st = some (.nx, env, st) := rfl
@[simp] theorem u_sRet (f : F) (env : Lo) (st : Store) : sRet f env st = (f env st).map fun p => (.rt p.1, env, p.2) := rfl
@[simp] theorem u_sDrop (f : F) (env : Lo) (st : Store) : sDrop f env st = (f env st).map fun p => (.nx, env, p.2) := rfl
@[simp] theorem u_sRetN (env : Lo) (st : Store) : sRetN env st = some (.rt .non, env, st) := rfl
@[simp] theorem u_sBrk (env : Lo) (st : Store) : sBrk env st = some (.bk, env, st) := rfl
@[simp] theorem u_sCnt (env : Lo) (st : Store) : sCnt env st = some (.ct, env, st) := rfl
@[simp] theorem u_fVar (i : Nat) (env : Lo) (st : Store) : fVar i env st = match env[i]? with | some (some d) => some (d, st) | _ => none := rfl
@[simp] theorem u_fC (d : D) (env : Lo) (st : Store) : fC d env st = some (d, st) := rfl
@[simp] theorem u_fOp (g : D → D → Option D) (fa fb : F) (env : Lo) (st : Store) : fOp g fa fb env st = (fa env st).bind fun p => (fb env p.2).bind fun q => (g p.1 q.1).map fun d => (d, q.2) := rfl
@[simp] theorem u_fTest (f : F) (env : Lo) (st : Store) : fTest f env st = (f env st).bind fun p => (asB p.1).map fun b => (b, p.2) := rfl
@[simp] theorem u_asB (b : Bool) : asB (.bl b) = some b := rfl
@[simp] theorem u_fMk (g : List D → Store → Option D) (fa : FA) (env : Lo) (st : Store) : fMk g fa env st = (fa env st).bind fun p => (g p.1 p.2).map fun d => (d, p.2) := rfl
@[simp] theorem u_aNil (env : Lo) (st : Store) : aNil env st = some ([], st) := rfl
@[simp] theorem u_aCons (f : F) (g : FA) (env : Lo) (st : Store) : aCons f g env st = (f env st).bind fun p => (g env p.2).map fun q => (p.1 :: q.1, q.2) := rfl
@[simp] theorem u_aStar (f : F) (g : FA) (env : Lo) (st : Store) : aStar f g env st = (f env st).bind fun p => (asSeq p.1 p.2).bind fun ds => (g env p.2).map fun q => (ds ++ q.1, q.2) := rfl
@[simp] theorem u_asSeqL (ds : List D) (st : Store) : asSeq (.lst ds) st = some ds := rfl
@[simp] theorem u_asSeqT (ds : List D) (st : Store) : asSeq (.tup ds) st = some ds := rfl
@[simp] theorem u_fCall (m : FM) (fa : FA) (env : Lo) (st : Store) : fCall m fa env st = (fa env st).bind fun p => m p.1 p.2 := rfl
@[simp] theorem u_fAndT (f g : FT) (env : Lo) (st : Store) : fAndT f g env st = (f env st).bind fun p => if p.1 = true then g env p.2 else some (false, p.2) := rfl
@[simp] theorem u_fOrT (f g : FT) (env : Lo) (st : Store) : fOrT f g env st = (f env st).bind fun p => if p.1 = true then some (true, p.2) else g env p.2 := rfl
@[simp] theorem u_fNotT (f : FT) (env : Lo) (st : Store) : fNotT f env st = (f env st).map fun p => (!p.1, p.2) := rfl
@[simp] theorem u_fAnd (f g : F) (env : Lo) (st : Store) : fAnd f g env st = (f env st).bind fun p => (asB p.1).bind fun b => if b = true then g env p.2 else some (.bl false, p.2) := rfl
@[simp] theorem u_fOr (f g : F) (env : Lo) (st : Store) : fOr f g env st = (f env st).bind fun p => (asB p.1).bind fun b => if b = true then some (.bl true, p.2) else g env p.2 := rfl
@[simp] theorem u_fNot (f : F) (env : Lo) (st : Store) : fNot f env st = (f env st).bind fun p => (asB p.1).map fun b => (.bl (!b), p.2) := rfl
@[simp] theorem u_fIfE (t : FT) (f g : F) (env : Lo) (st : Store) : fIfE t f g env st = (t env st).bind fun p => if p.1 = true then f env p.2 else g env p.2 := rfl
@[simp] theorem u_fChain (g g' : D → D → Option D) (fa fb fc : F) (env : Lo) (st : Store) : fChain g g' fa fb fc env st = (fa env st).bind fun p => (fb env p.2).bind fun q => (g p.1 q.1).bind fun z => (asB z).bind fun k => if k = true then (fc env q.2).bind fun w => (g' q.1 w.1).map fun d => (d, w.2) else some (.bl false, q.2) := rfl
@[simp] theorem u_fSub (fa fb : F) (env : Lo) (st : Store) : fSub fa fb env st = (fa env st).bind fun p => (fb env p.2).bind fun q => (ixD p.1 q.1 q.2).map fun d => (d, q.2) := rfl
@[simp] theorem u_ixT (ds : List D) (i : Int) (st : Store) : ixD (.tup ds) (.int i) st = atI ds i := rfl
@[simp] theorem u_ixL (ds : List D) (i : Int) (st : Store) : ixD (.lst ds) (.int i) st = atI ds i := rfl
@[simp] theorem u_fSlice (fa : F) (lo hi : FO) (env : Lo) (st : Store) : fSlice fa lo hi env st = (fa env st).bind fun p => (lo env p.2).bind fun q => (hi env q.2).bind fun w => (slD p.1 q.1 w.1).map fun d => (d, w.2) := rfl
@[simp] theorem u_oNone (env : Lo) (st : Store) : oNone env st = some (none, st) := rfl
@[simp] theorem u_oSome (f : F) (env : Lo) (st : Store) : oSome f env st = (f env st).bind fun p => match p.1 with | .int i => some (some i, p.2) | _ => none := rfl
@[simp] theorem u_fMt (g : D → List D → Option D) (fo : F) (fa : FA) (env : Lo) (st : Store) : fMt g fo fa env st = (fo env st).bind fun p => (fa env p.2).bind fun q => (g p.1 q.1).map fun d => (d, q.2) := rfl
@[simp] theorem u_fUn (g : D → Option D) (fa : F) (env : Lo) (st : Store) : fUn g fa env st = (fa env st).bind fun p => (g p.1).map fun d => (d, p.2) := rfl
@[simp] theorem u_negI (i : Int) : negI (.int i) = some (.int (-i)) := rfl
@[simp] theorem u_fIsi (T : String) (f : F) (env : Lo) (st : Store) : fIsi T f env st = (f env st).bind fun p => (tyD p.1 p.2).map fun a => (.bl (isiB a T), p.2) := rfl
@[simp] theorem u_sPar (f : List D → Lo → Option Lo) (fa : FA) (env : Lo) (st : Store) : sPar f fa env st = (fa env st).bind fun p => (f p.1 env).map fun e => (.nx, e, p.2) := rfl
@[simp] theorem u_par2 (i j : Nat) (x y : D) (env : Lo) : par2 i j [x, y] env = some ((env.set i (some x)).set j (some y)) := rfl
@[simp] theorem u_par3 (i j l : Nat) (x y z : D) (env : Lo) : par3 i j l [x, y, z] env = some (((env.set i (some x)).set j (some y)).set l (some z)) := rfl
@[simp] theorem u_mkTup (ds : List D) (st : Store) : mkTup ds st = if ds.length ≤ sizeLine then some (.tup ds) else none := rfl
@[simp] theorem u_mkLst (ds : List D) (st : Store) : mkLst ds st = if ds.length ≤ sizeLine then some (.lst ds) else none := rfl
@[simp] theorem u_sFor (fi : FI) (tg : FG) (body : FS) (env : Lo) (st : Store) : sFor fi tg body env st = (fi env st).bind fun p => loopS tg body p.1 env p.2 := rfl
@[simp] theorem u_sForG (fi : FIg) (tg : FG) (body : FS) (env : Lo) (st : Store) : sForG fi tg body env st = (fi env st).bind fun p => loopSG p.2.1 tg body p.1 env p.2.2 := rfl
@[simp] theorem u_iOf (a : D → Option (List D)) (f : F) (env : Lo) (st : Store) : iOf a f env st = (f env st).bind fun p => (a p.1).map fun ds => (ds, p.2) := rfl
@[simp] theorem u_asL (ds : List D) : asL (.lst ds) = some ds := rfl
@[simp] theorem u_asT (ds : List D) : asT (.tup ds) = some ds := rfl
@[simp] theorem u_iOfA (a : List D → Option (List D)) (f : FA) (env : Lo) (st : Store) : iOfA a f env st = (f env st).bind fun p => (a p.1).map fun ds => (ds, p.2) := rfl
@[simp] theorem u_fComp (fi : FI) (is : List Nat) (bd : FB) (t : FT) (f : F) (env : Lo) (st : Store) : fComp fi is bd t f env st = (fi env st).bind fun p => (loopC is bd t f p.1 (wipeL env is) p.2).bind fun q => if q.1.length ≤ sizeLine then some (.lst q.1, q.2) else none := rfl
@[simp] theorem u_fCompG (fi : FIg) (is : List Nat) (bd : FB) (t : FT) (f : F) (env : Lo) (st : Store) : fCompG fi is bd t f env st = (fi env st).bind fun p => (loopCG p.2.1 is bd t f p.1 (wipeL env is) p.2.2).bind fun q => if q.1.length ≤ sizeLine then some (.lst q.1, q.2) else none := rfl
@[simp] theorem u_wipe0 (env : Lo) : wipeL env [] = env := rfl
@[simp] theorem u_wipe1 (env : Lo) (i : Nat) (is : List Nat) : wipeL env (i :: is) = (wipeL env is).set i none := rfl
@[simp] theorem u_setL0 {α : Type} (vs : List α) (env : List (Option α)) : setL [] vs env = env := rfl
@[simp] theorem u_setL1 {α : Type} (i : Nat) (is : List Nat) (v : α) (vs : List α) (env : List (Option α)) : setL (i :: is) (v :: vs) env = setL is vs (env.set i (some v)) := rfl
@[simp] theorem u_b1 (d : D) : b1 d = some [d] := rfl
@[simp] theorem u_bTup (n : Nat) (c : List D → Option (List D)) (ds : List D) : bTup n c (.tup ds) = if ds.length = n then c ds else none := rfl
@[simp] theorem u_bCons (b : FB) (c : List D → Option (List D)) (d : D) (r : List D) : bCons b c (d :: r) = (b d).bind fun x => (c r).map fun y => x ++ y := rfl
@[simp] theorem u_bNil : bNil [] = some [] := rfl
@[simp] theorem u_tTrue (env : Lo) (st : Store) : tTrue env st = some (true, st) := rfl
@[simp] theorem u_bTupleL (xs : List D) (st : Store) : bTuple [.lst xs] st = some (.tup xs) := rfl
@[simp] theorem u_bTupleT (xs : List D) (st : Store) : bTuple [.tup xs] st = some (.tup xs) := rfl
@[simp] theorem u_bTupleR (n : Nat) (st : Store) : bTuple [.ref n] st = match st[n]? with | some (.lst xs) => some (.tup xs) | _ => none := rfl
@[simp] theorem u_lenL (xs : List D) (st : Store) : bLen [.lst xs] st = some (.int xs.length) := rfl
@[simp] theorem u_lenT (xs : List D) (st : Store) : bLen [.tup xs] st = some (.int xs.length) := rfl
theorem len_ref {n : Nat} {st : Store} {xs : List D} (h : st[n]? = some (.lst xs)) : bLen [.ref n] st = some (.int xs.length) := by simp [bLen, lenL, lenK, h]
@[simp] theorem u_fNewL (fa : FA) (env : Lo) (st : Store) : fNewL fa env st = (fa env st).bind fun p => if p.1.length ≤ sizeLine then some (.ref p.2.length, p.2 ++ [.lst p.1]) else none := rfl
@[simp] theorem u_addI (a b : Int) : opAdd (.int a) (.int b) = some (.int (a + b)) := opAdd_int a b
@[simp] theorem u_subI (a b : Int) : subI (.int a) (.int b) = some (.int (a - b)) := subI_int a b
@[simp] theorem u_ltI (a b : Int) : opLt (.int a) (.int b) = some (.bl (decide (a < b))) := opLt_int a b
@[simp] theorem u_leI (a b : Int) : opLe (.int a) (.int b) = some (.bl (decide (a ≤ b))) := opLe_int a b
@[simp] theorem u_gtI (a b : Int) : opGt (.int a) (.int b) = some (.bl (decide (b < a))) := opGt_int a b
@[simp] theorem u_geI (a b : Int) : opGe (.int a) (.int b) = some (.bl (decide (b ≤ a))) := opGe_int a b
@[simp] theorem sl0 : 0 ≤ sizeLine := Nat.zero_le _
@[simp] theorem sl1 : 1 ≤ sizeLine := by decide
@[simp] theorem sl2 : 2 ≤ sizeLine := by decide
@[simp] theorem sl3 : 3 ≤ sizeLine := by decide
@[simp] theorem sl4 : 4 ≤ sizeLine := by decide
@[simp] theorem sl5 : 5 ≤ sizeLine := by decide
@[simp] theorem sl6 : 6 ≤ sizeLine := by decide
@[simp] theorem sl7 : 7 ≤ sizeLine := by decide
@[simp] theorem sl8 : 8 ≤ sizeLine := by decide
@[simp] theorem sl9 : 9 ≤ sizeLine := by decide
@[simp] theorem sl10 : 10 ≤ sizeLine := by decide
theorem sl_of {n : Nat} (h : n ≤ 1000000) : n ≤ sizeLine := Nat.le_trans h (by decide)
/-! data whose repr goes through -/
theorem okL_all : ∀ {ds : List D}, (∀ d ∈ ds, okD d = true) → okL ds = true
  | [], _ => rfl
  | d :: ds, h => by
    show (okD d && okL ds) = true
    rw [h d List.mem_cons_self, okL_all fun x hx => h x (List.mem_cons_of_mem _ hx)]; rfl
theorem wL_all {m : Nat} : ∀ {ds : List D}, (∀ d ∈ ds, wD d ≤ m) → wL ds ≤ ds.length * (m + 1)
  | [], _ => by simp [wL]
  | d :: ds, h => by
    have h1 := h d List.mem_cons_self
    have h2 := wL_all fun x hx => h x (List.mem_cons_of_mem _ hx)
    show wD d + 1 + wL ds ≤ _
    rw [List.length_cons, Nat.succ_mul]
    omega
theorem hL_all {m : Nat} : ∀ {ds : List D}, (∀ d ∈ ds, hD d ≤ m) → hL ds ≤ m
  | [], _ => by simp [hL]
  | d :: ds, h => by
    show max (hD d) (hL ds) ≤ m
    exact Nat.max_le.mpr ⟨h d List.mem_cons_self, hL_all fun x hx => h x (List.mem_cons_of_mem _ hx)⟩
/-- fit for repr: all at once -/
structure Fit (d : D) (h w : Nat) : Prop where
  ok : okD d = true
  hd : hD d ≤ h
  wd : wD d ≤ w
theorem Fit.mono {d : D} {h w h' w' : Nat} (f : Fit d h w) (a : h ≤ h') (b : w ≤ w') : Fit d h' w' := ⟨f.ok, Nat.le_trans f.hd a, Nat.le_trans f.wd b⟩
structure FitL (ds : List D) (h w : Nat) : Prop where
  ok : okL ds = true
  hd : hL ds ≤ h
  wd : wL ds ≤ w
theorem FitL.nil : FitL [] 0 0 := ⟨rfl, Nat.le_refl _, Nat.le_refl _⟩
theorem FitL.cons {d : D} {ds : List D} {h1 h2 w1 w2 : Nat} (a : Fit d h1 w1) (b : FitL ds h2 w2) : FitL (d :: ds) (max h1 h2) (w1 + 1 + w2) :=
  ⟨by show (okD d && okL ds) = true; rw [a.ok, b.ok]; rfl, Nat.max_le.mpr ⟨Nat.le_trans a.hd (Nat.le_max_left _ _), Nat.le_trans b.hd (Nat.le_max_right _ _)⟩, Nat.add_le_add (Nat.add_le_add a.wd (Nat.le_refl 1)) b.wd⟩
theorem FitL.all {ds : List D} {h w : Nat} (a : ∀ d ∈ ds, Fit d h w) : FitL ds h (ds.length * (w + 1)) := ⟨okL_all fun d hd => (a d hd).ok, hL_all fun d hd => (a d hd).hd, wL_all fun d hd => (a d hd).wd⟩
theorem FitL.mono {ds : List D} {h w h' w' : Nat} (f : FitL ds h w) (a : h ≤ h') (b : w ≤ w') : FitL ds h' w' := ⟨f.ok, Nat.le_trans f.hd a, Nat.le_trans f.wd b⟩
theorem FitL.append {ds es : List D} {h1 h2 w1 w2 : Nat} (a : FitL ds h1 w1) (b : FitL es h2 w2) : FitL (ds ++ es) (max h1 h2) (w1 + w2) := by
  induction ds generalizing w1 with
  | nil => exact b.mono (Nat.le_max_right _ _) (Nat.le_add_left _ _)
  | cons d ds ih =>
    obtain ⟨o1, o2⟩ := Bool.and_eq_true_iff.mp (show (okD d && okL ds) = true from a.ok)
    have hh := Nat.max_le.mp (show max (hD d) (hL ds) ≤ h1 from a.hd)
    have ww : wD d + 1 + wL ds ≤ w1 := a.wd
    have := ih (w1 := wL ds) ⟨o2, hh.2, Nat.le_refl _⟩
    exact ⟨by show (okD d && okL (ds ++ es)) = true; rw [o1, this.ok]; rfl, Nat.max_le.mpr ⟨Nat.le_trans hh.1 (Nat.le_max_left _ _), this.hd⟩, by
      have := this.wd
      show wD d + 1 + wL (ds ++ es) ≤ _
      omega⟩
theorem Fit.tup {ds : List D} {h w : Nat} (f : FitL ds h w) : Fit (.tup ds) (h + 1) w := ⟨f.ok, Nat.succ_le_succ f.hd, f.wd⟩
theorem Fit.lst {ds : List D} {h w : Nat} (f : FitL ds h w) : Fit (.lst ds) (h + 1) w := ⟨f.ok, Nat.succ_le_succ f.hd, f.wd⟩
theorem Fit.non : Fit .non 0 0 := ⟨rfl, Nat.le_refl _, Nat.le_refl _⟩
theorem Fit.bl (b : Bool) : Fit (.bl b) 0 0 := ⟨rfl, Nat.le_refl _, Nat.le_refl _⟩
theorem Fit.int {i : Int} (h : -1000000000000000 < i ∧ i < 1000000000000000) : Fit (.int i) 0 210 := by
  refine ⟨decide_eq_true (show i.natAbs < 10 ^ 62 from ?_), Nat.le_refl _, Nat.le_refl _⟩
  have : (1000000000000000 : Nat) ≤ 10 ^ 62 := by decide
  omega
theorem Fit.str {n : Nat} {x : Str} (h : GS n x) : Fit (.str x) 0 n := ⟨List.all_eq_true.mpr fun c hc => decide_eq_true (h.2 c hc), Nat.le_refl _, h.1⟩
theorem Fit.repr {d : D} {h w : Nat} (f : Fit d h w) (l : h ≤ 64) (m : w ≤ 200000) : ∃ x, ∀ st, bReprA [d] st = some (.str x) := repr_any f.ok (Nat.le_trans f.hd l) (Nat.le_trans f.wd m)
/-- a comprehension over data that are images -/
theorem loopC_over {α : Type} {is : List Nat} {bd : FB} {f : F} {φ ψ : α → D} {env : Lo} {st : Store} : ∀ {l : List α}, (∀ x ∈ l, ∃ vs, bd (φ x) = some vs ∧ f (setL is vs env) st = some (ψ x, st)) → loopC is bd tTrue f (l.map φ) env st = some (l.map ψ, st)
  | [], _ => rfl
  | x :: l, h => by
    obtain ⟨ws, hb, hf⟩ := h x List.mem_cons_self
    have := loopC_over (l := l) fun d hd => h d (List.mem_cons_of_mem _ hd)
    simp [loopC, hb, tTrue, hf, this]
/-! one statement behind the other -/
theorem seq_step {g h : FS} {env e1 : Lo} {st s1 : Store} (x : g env st = some (.nx, e1, s1)) : sSeq g h env st = h e1 s1 := by rw [u_sSeq, x]; rfl
theorem seq_ret {g h : FS} {env e1 : Lo} {st s1 : Store} {d : D} (x : g env st = some (.rt d, e1, s1)) : sSeq g h env st = some (.rt d, e1, s1) := by rw [u_sSeq, x]; rfl
theorem for_step {fi : FI} {tg : FG} {body : FS} {env : Lo} {st s1 : Store} {ds : List D} (x : fi env st = some (ds, s1)) : sFor fi tg body env st = loopS tg body ds env s1 := by rw [u_sFor, x]; rfl
/-- .. with the number of turns told -/
theorem loopS_cnt {tg : FG} {body : FS} {I : Nat → Lo → Store → Prop} : ∀ {ds : List D} {k : Nat}, (∀ m, m < k + ds.length → k ≤ m → ∀ d ∈ ds, ∀ env st, I m env st → ∃ e1, tg d env = some e1 ∧ ∃ e2 s2, body e1 st = some (.nx, e2, s2) ∧ I (m + 1) e2 s2) →
    ∀ {env : Lo} {st : Store}, I k env st → ∃ e2 s2, loopS tg body ds env st = some (.nx, e2, s2) ∧ I (k + ds.length) e2 s2
  | [], k, _, env, st, i => ⟨env, st, rfl, i⟩
  | d :: ds, k, h, env, st, i => by
    obtain ⟨e1, h1, e2, s2, h2, h4⟩ := h k (by simp) (Nat.le_refl _) d List.mem_cons_self env st i
    obtain ⟨e3, s3, h5, h6⟩ := loopS_cnt (ds := ds) (k := k + 1) (fun m hm hk d hd => h m (by simp at *; omega) (by omega) d (List.mem_cons_of_mem _ hd)) h4
    refine ⟨e3, s3, ?_, by rw [List.length_cons, Nat.add_comm ds.length 1, ← Nat.add_assoc]; exact h6⟩
    simp [loopS, h1, h2, h5]
theorem loopSG_inv {P : Store → Prop} {tg : FG} {body : FS} (I : Lo → Store → Prop) (hP : ∀ env st, I env st → P st) : ∀ {ds : List D}, (∀ d ∈ ds, ∀ env st, I env st → ∃ e1, tg d env = some e1 ∧ ∃ o e2 s2, body e1 st = some (o, e2, s2) ∧ (o = .nx ∨ o = .ct) ∧ I e2 s2) →
    ∀ {env : Lo} {st : Store}, I env st → ∃ e2 s2, loopSG P tg body ds env st = some (.nx, e2, s2) ∧ I e2 s2
  | [], _, env, st, i => ⟨env, st, by rw [loopSG, if_pos (okP_t (hP env st i))], i⟩
  | d :: ds, h, env, st, i => by
    obtain ⟨e1, h1, o, e2, s2, h2, h3, h4⟩ := h d List.mem_cons_self env st i
    obtain ⟨e3, s3, h5, h6⟩ := loopSG_inv I hP (ds := ds) (fun d hd => h d (List.mem_cons_of_mem _ hd)) h4
    refine ⟨e3, s3, ?_, h6⟩
    rw [loopSG, if_pos (okP_t (hP env st i)), h1, Option.bind_some, h2, Option.bind_some]
    rcases h3 with rfl | rfl
    · exact h5
    · exact h5
theorem forG_step {fi : FIg} {tg : FG} {body : FS} {env : Lo} {st s1 : Store} {ds : List D} {P : Store → Prop} (x : fi env st = some (ds, P, s1)) : sForG fi tg body env st = loopSG P tg body ds env s1 := by rw [u_sForG, x]; rfl
/-! ints looked for among ints -/
theorem anyF_ints {a : Int} : ∀ ns : List Int, anyF (.int a) (ns.map D.int) = some (ns.contains a)
  | [] => rfl
  | n :: ns => by
    have ih := anyF_ints (a := a) ns
    simp [anyF, eqF, ih]
    by_cases e : n = a
    · simp [e]
    · have e' : ¬ a = n := fun z => e z.symm
      simp [e, e']
theorem inSeq_ints (neg : Bool) (a : Int) (ns : List Int) : inSeq neg (.int a) (.lst (ns.map .int)) = some (.bl (if neg then !ns.contains a else ns.contains a)) := by
  simp [inSeq, flatD, anyF_ints]
/-! the tape's frame, the store growing -/
theorem Tp.app {st : Store} {n : Nat} (t : Tp st n) (o : Ob) : Tp (st ++ [o]) n := by
  obtain ⟨a, b, h, x⟩ := t.at_
  exact ⟨a, b, by rw [List.getElem?_append_left t.lt]; exact h, x⟩
theorem Fr.app {n : Nat} {st : Store} (o : Ob) : Fr n st (st ++ [o]) := ⟨by simp, fun m _ h => by rw [List.getElem?_append_left h]⟩
theorem get_app {st : Store} {o : Ob} : (st ++ [o])[st.length]? = some o := by simp
theorem Tp.setNe {st : Store} {n k : Nat} (t : Tp st n) (h : k ≠ n) (o : Ob) : Tp (st.set k o) n := by
  obtain ⟨a, b, e, x⟩ := t.at_
  exact ⟨a, b, by rw [List.getElem?_set_ne h]; exact e, x⟩
end DL
namespace LW
open PySem PySem.Spec PyProof.Rows L2 DL TL
/-! things bent; the longest of a thing's tuples and lists -/
mutual
def nlD : D → Nat
  | .tup ds => max ds.length (nlL ds)
  | .lst ds => max ds.length (nlL ds)
  | _ => 0
def nlL : List D → Nat
  | [] => 0
  | d :: ds => max (nlD d) (nlL ds)
end
theorem nlL_le {m : Nat} : ∀ {ds : List D}, nlL ds ≤ m ↔ ∀ d ∈ ds, nlD d ≤ m
  | [] => by simp [nlL]
  | d :: ds => by
    rw [nlL, Nat.max_le, nlL_le]
    simp
theorem nl_mem {ds : List D} {d : D} (h : d ∈ ds) : nlD d ≤ nlL ds := nlL_le.mp (Nat.le_refl _) d h
def thB (d : D) : Bool := (okD d && (decide (wD d ≤ 300) && decide (hD d ≤ 1))) && decide (nlD d ≤ 1)
def p59 : Int := 100000000000000000000000000000000000000000000000000000000000
def o1 : List D := [.non, .int 0, .int (-1), .bl true, .int 1000000, .int 1000001, .int p59, .str (Str.ofString "window"), .str (Str.ofString "top"), .str (Str.ofString ""), .tup [], .lst [], .tup [.str (Str.ofString "start")], .tup [.str (Str.ofString "end")], .dct []]
theorem allO : o1.all thB = true := by decide +kernel
theorem pow106 : powI (.int 10) (.int 6) = some (.int 1000000) := by
  have h : ((Builtin.Int.intBits 10 : Nat) : Int) * 6 ≤ 134217728 := by have := bits10; omega
  simp [powI, onI, h]
theorem pow1059 : powI (.int 10) (.int 59) = some (.int p59) := by
  have h : ((Builtin.Int.intBits 10 : Nat) : Int) * 59 ≤ 134217728 := by have := bits10; omega
  simp [powI, onI, h, p59]
noncomputable abbrev gbT (rec_ : FM) : FS := (sSeq (sIf (fOrT (fNotT (fTest (fIsi "tuple" (fVar 1)))) (fOrT (fTest (fOp opEqA (fVar 1) (fMk mkTup aNil))) (fTest (fOp opEq (fCall m__law_pick (aCons (fVar 0) (aCons (fC (.int 8)) aNil))) (fC (.int 0)))))) (sRet (fCall m__law_one_of (aCons (fVar 0) (aCons (fVar 2) aNil)))) sNil) (sSeq (sPar (par2 3 4) (aCons (fCall m__law_pick (aCons (fVar 0) (aCons (fMk bLen (aCons (fVar 1) aNil)) aNil))) (aCons (fCall m__law_pick (aCons (fVar 0) (aCons (fC (.int 10)) aNil))) aNil))) (sSeq (sIf (fTest (fOp opEq (fVar 4) (fC (.int 0)))) (sRet (fOp opAdd (fSlice (fVar 1) oNone (oSome (fVar 3))) (fSlice (fVar 1) (oSome (fOp opAdd (fVar 3) (fC (.int 1)))) oNone))) sNil) (sSeq (sIf (fTest (fOp opEq (fVar 4) (fC (.int 1)))) (sRet (fOp opAdd (fSlice (fVar 1) oNone (oSome (fOp opAdd (fVar 3) (fC (.int 1))))) (fSlice (fVar 1) (oSome (fVar 3)) oNone))) sNil) (sSeq (sIf (fTest (fOp opEq (fVar 4) (fC (.int 2)))) (sRet (fOp opAdd (fOp opAdd (fSlice (fVar 1) oNone (oSome (fVar 3))) (fMk mkTup (aCons (fCall m__law_one_of (aCons (fVar 0) (aCons (fVar 1) aNil))) aNil))) (fSlice (fVar 1) (oSome (fOp opAdd (fVar 3) (fC (.int 1)))) oNone))) sNil) (sSeq (sIf (fTest (fOp opEq (fVar 4) (fC (.int 3)))) (sRet (fMk bList (aCons (fVar 1) aNil))) sNil) (sSeq (sIf (fTest (fOp opEq (fVar 4) (fC (.int 4)))) (sRet (fOp opAdd (fSlice (fVar 1) oNone (oSome (fUn negI (fC (.int 2))))) (fRevT (fSlice (fVar 1) (oSome (fUn negI (fC (.int 2)))) oNone)))) sNil) (sRet (fOp opAdd (fOp opAdd (fSlice (fVar 1) oNone (oSome (fVar 3))) (fMk mkTup (aCons (fCall rec_ (aCons (fVar 0) (aCons (fSub (fVar 1) (fVar 3)) aNil))) aNil))) (fSlice (fVar 1) (oSome (fOp opAdd (fVar 3) (fC (.int 1)))) oNone))))))))))
theorem bent_step (k n : Nat) (d : D) (st : Store) : m__law_bent (k + 1) [.ref n, d] st = outM (gbT (m__law_bent k) [some (.ref n), some d, some (.lst o1), none, none] st) := by
  have z : ∀ k : Nat, k ≤ 20 → k ≤ sizeLine := fun k hk => Nat.le_trans hk (by decide)
  have e1 : (fMk mkLst (aCons (fC .non) (aCons (fC (.int 0)) (aCons (fUn negI (fC (.int 1))) (aCons (fC (.bl true)) (aCons (fOp powI (fC (.int 10)) (fC (.int 6))) (aCons (fOp opAdd (fOp powI (fC (.int 10)) (fC (.int 6))) (fC (.int 1))) (aCons (fOp powI (fC (.int 10)) (fC (.int 59))) (aCons (fC (.str (Str.ofString "window"))) (aCons (fC (.str (Str.ofString "top"))) (aCons (fC (.str (Str.ofString ""))) (aCons (fMk mkTup aNil) (aCons (fMk mkLst aNil) (aCons (fMk mkTup (aCons (fC (.str (Str.ofString "start"))) aNil)) (aCons (fMk mkTup (aCons (fC (.str (Str.ofString "end"))) aNil)) (aCons (fC (.dct [])) aNil)))))))))))))))) = fC (.lst o1) := by
    funext env st
    simp [fMk, mkLst, mkTup, aCons, aNil, fC, fOp, fUn, negI, pow106, pow1059, opAdd_int, z, o1]
  show mOf N__law_bent.length (g__law_bent (m__law_bent k)) [.ref n, d] st = _
  simp only [g__law_bent, e1]
  simp only [mOf, startD, sSeq, sAsg, gN, fC]
  rfl
theorem thing_ok {st : Store} {n : Nat} (t : Tp st n) : ∃ d st', m__law_one_of [.ref n, .lst o1] st = some (d, st') ∧ okD d = true ∧ wD d ≤ 300 ∧ hD d ≤ 1 ∧ nlD d ≤ 1 ∧ Tp st' n ∧ Fr n st st' ∧ st'.length = st.length := by
  obtain ⟨d, s1, h1, m1, tt, f1, l1⟩ := one_ok (xs := o1) t (by decide) (by decide)
  have hb := List.all_eq_true.mp allO d m1
  unfold thB at hb
  rw [Bool.and_eq_true, Bool.and_eq_true, Bool.and_eq_true] at hb
  exact ⟨d, s1, by rw [e_one]; exact h1, hb.1.1, of_decide_eq_true hb.1.2.1, of_decide_eq_true hb.1.2.2, of_decide_eq_true hb.2, tt, f1, l1⟩
theorem opEqA_nil (r : List D) : opEqA (.tup r) (.tup []) = some (.bl r.isEmpty) := by
  have e : (r.length == 0) = r.isEmpty := by cases r <;> rfl
  simp [opEqA, orD, DL.eqT, eqNil, e]
structure Bent (d e : D) : Prop where
  ok : okD e = true
  w : wD e ≤ 2 * wD d + 2600
  h : hD e ≤ hD d + 4
  nl : nlD e ≤ max (nlD d) 3 + 1
theorem mixT {xs ys : List D} (hx : okD (.tup xs) = true) (hm : ∀ y ∈ ys, y ∈ xs ∨ (okD y = true ∧ hD y ≤ hL xs + 4 ∧ nlD y ≤ max (nlD (.tup xs)) 3 + 1)) (hl : ys.length ≤ xs.length + 1) (hw : wL ys ≤ 2 * wL xs + 2600) : Bent (.tup xs) (.tup ys) := by
  have ok := okL_mem.mp (show okL xs = true from hx)
  refine ⟨okL_mem.mpr fun y hy => (hm y hy).elim (ok y) fun z => z.1, hw, ?_, ?_⟩
  · show hL ys + 1 ≤ hL xs + 1 + 4
    have : hL ys ≤ hL xs + 4 := hL_le.mpr fun y hy => (hm y hy).elim (fun z => Nat.le_trans (hL_le.mp (Nat.le_refl _) y z) (Nat.le_add_right _ _)) fun z => z.2.1
    omega
  · have n1 : xs.length ≤ nlD (.tup xs) := Nat.le_max_left _ _
    have n2 : nlL xs ≤ nlD (.tup xs) := Nat.le_max_right _ _
    have : nlL ys ≤ max (nlD (.tup xs)) 3 + 1 := nlL_le.mpr fun y hy => (hm y hy).elim (fun z => by have := nl_mem z; omega) fun z => z.2.2
    show max ys.length (nlL ys) ≤ _
    omega
theorem wL_rev : ∀ xs : List D, wL xs.reverse = wL xs
  | [] => rfl
  | x :: xs => by rw [List.reverse_cons, wL_append, wL_rev xs, wL, wL, wL]; omega
theorem cutM2 (xs : List D) : ∃ j, DL.cutD xs none (some (-2)) = xs.take j ∧ DL.cutD xs (some (-2)) none = xs.drop j := by
  refine ⟨((-2 : Int) + (xs.length : Int)).toNat, ?_, ?_⟩
  · simp [DL.cutD, HT.sIx]
  · simp [DL.cutD, HT.sIx]
    rw [List.take_of_length_le]
    simp
theorem bent_ok : ∀ (k : Nat) {st : Store} {n : Nat} {d : D}, Tp st n → okD d = true → wD d ≤ 200000 → hD d < k → ∃ e st', m__law_bent k [.ref n, d] st = some (e, st') ∧ Bent d e ∧ Tp st' n ∧ Fr n st st' ∧ st'.length = st.length
  | 0, _, _, _, _, _, _, h => by omega
  | k + 1, st, n, d, t, hok, hw, hk => by
    have small : ∀ {e : D}, okD e = true → wD e ≤ 300 → hD e ≤ 1 → nlD e ≤ 1 → Bent d e := fun a b c x => ⟨a, by omega, by omega, by omega⟩
    have z1 : 1 ≤ sizeLine := by decide
    rw [bent_step]
    by_cases ht : ∃ xs, d = .tup xs ∧ xs ≠ []
    case neg =>
      obtain ⟨e, s1, g1, o1', w1, h1, x1, t1, f1, l1⟩ := thing_ok t
      rw [e_one] at g1
      refine ⟨e, s1, ?_, small o1' w1 h1 x1, t1, f1, l1⟩
      cases d with
      | tup xs =>
        cases xs with
        | nil => simp [outM, sSeq, sIf, sRet, fOrT, fNotT, fTest, fIsi, fVar, tyD, isiB, asB, fOp, fMk, mkTup, aCons, aNil, opEqA_nil, fCall, e_one, g1]
        | cons a r => exact absurd ⟨_, rfl, by simp⟩ ht
      | scr _ => cases hok
      | ref _ => cases hok
      | _ => simp [outM, sSeq, sIf, sRet, fOrT, fNotT, fTest, fIsi, fVar, tyD, isiB, asB, fCall, aCons, aNil, e_one, g1]
    obtain ⟨xs, rfl, hne⟩ := ht
    have hpos : 0 < xs.length := List.length_pos_iff.mpr hne
    have hlen : xs.length ≤ 200000 := Nat.le_trans (len_wL xs) hw
    have hemp : xs.isEmpty = false := by cases xs with | nil => exact absurd rfl hne | cons _ _ => rfl
    obtain ⟨r, s1, g1, r0, r8, t1, f1, l1⟩ := pick_ok t (s := 8) (by decide) (by decide)
    by_cases c0 : r = 0
    · subst c0
      obtain ⟨e, s2, g2, o1', w1, h1, x1, t2, f2, l2⟩ := thing_ok t1
      rw [e_one] at g2
      exact ⟨e, s2, by simp [outM, sSeq, sIf, sRet, fOrT, fNotT, fTest, fIsi, fVar, tyD, isiB, asB, fOp, fMk, mkTup, aCons, aNil, opEqA_nil, hemp, fCall, e_pick, e_one, fC, g1, opEq_int, g2], small o1' w1 h1 x1, t2, f1.trans f2, by rw [l2, l1]⟩
    have q0 : (r == 0) = false := by simp [c0]
    obtain ⟨a, s2, g2, a0, a1, t2, f2, l2⟩ := pick_ok t1 (s := (xs.length : Int)) (by omega) (by omega)
    obtain ⟨y, s3, g3, y0, y1, t3, f3, l3⟩ := pick_ok t2 (s := 10) (by decide) (by decide)
    have f13 := (f1.trans f2).trans f3
    have l13 : s3.length = st.length := by rw [l3, l2, l1]
    have ca := cutTo (xs := xs) (i := a) a0 (by omega)
    have cb := cutFrom (xs := xs) (i := a) a0 (by omega)
    have cc := cutTo (xs := xs) (i := a + 1) (by omega) (by omega)
    have cd := cutFrom (xs := xs) (i := a + 1) (by omega) (by omega)
    have ea : (a + 1).toNat = a.toNat + 1 := by omega
    rw [ea] at cc cd
    have mt : ∀ i, ∀ z ∈ xs.take i, z ∈ xs := fun i z => List.mem_of_mem_take
    have md : ∀ i, ∀ z ∈ xs.drop i, z ∈ xs := fun i z => List.mem_of_mem_drop
    have lt : ∀ i, (xs.take i).length ≤ 200000 := fun i => by rw [List.length_take]; omega
    have ld : ∀ i, (xs.drop i).length ≤ 200000 := fun i => by rw [List.length_drop]; omega
    have w0 := wL_cut xs a.toNat
    have w1 := wL_cut xs (a.toNat + 1)
    have wd := wL_drop xs a.toNat
    by_cases k0 : y = 0
    · subst k0
      refine ⟨.tup (xs.take a.toNat ++ xs.drop (a.toNat + 1)), s3, ?_, mixT hok (fun z hz => .inl ((List.mem_append.mp hz).elim (mt _ z) (md _ z))) (by simp; omega) (by rw [wL_append]; omega), t3, f13, l13⟩
      have ad := addT_any (xs := xs.take a.toNat) (ys := xs.drop (a.toNat + 1)) (by have := lt a.toNat; have := ld (a.toNat + 1); omega)
      simp [outM, sSeq, sIf, sRet, sNil, sPar, par2, fOrT, fNotT, fTest, fIsi, fVar, tyD, isiB, asB, fOp, fMk, mkTup, z1, aCons, aNil, opEqA_nil, hemp, fCall, e_pick, e_one, fC, g1, opEq_int, q0, bLen, lenL, g2, g3, fSlice, oNone, oSome, slD, ca, opAdd_int, cd, ad]
    have q1 : (y == 0) = false := by simp [k0]
    by_cases k1 : y = 1
    · subst k1
      refine ⟨.tup (xs.take (a.toNat + 1) ++ xs.drop a.toNat), s3, ?_, mixT hok (fun z hz => .inl ((List.mem_append.mp hz).elim (mt _ z) (md _ z))) (by simp; omega) (by rw [wL_append]; omega), t3, f13, l13⟩
      have ad := addT_any (xs := xs.take (a.toNat + 1)) (ys := xs.drop a.toNat) (by have := lt (a.toNat + 1); have := ld a.toNat; omega)
      simp [outM, sSeq, sIf, sRet, sNil, sPar, par2, fOrT, fNotT, fTest, fIsi, fVar, tyD, isiB, asB, fOp, fMk, mkTup, z1, aCons, aNil, opEqA_nil, hemp, fCall, e_pick, e_one, fC, g1, opEq_int, q0, bLen, lenL, g2, g3, fSlice, oNone, oSome, slD, cb, opAdd_int, cc, ad]
    have q2 : (y == 1) = false := by simp [k1]
    by_cases k3 : y = 2
    · subst k3
      obtain ⟨e, s4, g4, m4, t4, f4, l4⟩ := one_okT (xs := xs) t3 hpos (by omega)
      have we := wL_mem m4
      refine ⟨.tup (xs.take a.toNat ++ [e] ++ xs.drop (a.toNat + 1)), s4, ?_, mixT hok (fun z hz => .inl ?_) (by simp; omega) (by rw [wL_append, wL_append, wL, wL]; omega), t4, f13.trans f4, by rw [l4, l13]⟩
      · have ad := addT_any (xs := xs.take a.toNat) (ys := [e]) (by have := lt a.toNat; simp; omega)
        have ad2 := addT_any (xs := xs.take a.toNat ++ [e]) (ys := xs.drop (a.toNat + 1)) (by have := lt a.toNat; have := ld (a.toNat + 1); simp at *; omega)
        simp [outM, sSeq, sIf, sRet, sNil, sPar, par2, fOrT, fNotT, fTest, fIsi, fVar, tyD, isiB, asB, fOp, fMk, mkTup, z1, aCons, aNil, opEqA_nil, hemp, fCall, e_pick, e_one, fC, g1, opEq_int, q0, q1, q2, bLen, lenL, g2, g3, fSlice, oNone, oSome, slD, ca, cd, opAdd_int, g4, ad]
        simp at ad2
        simp [ad2]
      · rcases List.mem_append.mp hz with hz | hz
        · rcases List.mem_append.mp hz with hz | hz
          · exact mt _ z hz
          · rw [List.mem_singleton.mp hz]
            exact m4
        · exact md _ z hz
    have q4 : (y == 2) = false := by simp [k3]
    by_cases k4 : y = 3
    · subst k4
      refine ⟨.lst xs, s3, ?_, ⟨hok, by show wL xs ≤ 2 * wL xs + 2600; omega, by show hL xs + 1 ≤ hL xs + 1 + 4; omega, by show max xs.length (nlL xs) ≤ max (max xs.length (nlL xs)) 3 + 1; omega⟩, t3, f13, l13⟩
      simp [outM, sSeq, sIf, sRet, sNil, sPar, par2, fOrT, fNotT, fTest, fIsi, fVar, tyD, isiB, asB, fOp, fMk, mkTup, z1, aCons, aNil, opEqA_nil, hemp, fCall, e_pick, e_one, fC, g1, opEq_int, q0, q1, q2, q4, bLen, lenL, g2, g3, bList, listSeq]
    have q5 : (y == 3) = false := by simp [k4]
    by_cases k6 : y = 4
    · subst k6
      obtain ⟨j, j1, j2⟩ := cutM2 xs
      have wj := wL_cut xs j
      refine ⟨.tup (xs.take j ++ (xs.drop j).reverse), s3, ?_, mixT hok (fun z hz => .inl ((List.mem_append.mp hz).elim (mt _ z) fun q => md _ z (List.mem_reverse.mp q))) (by simp; omega) (by rw [wL_append, wL_rev]; omega), t3, f13, l13⟩
      have ad := addT_any (xs := xs.take j) (ys := (xs.drop j).reverse) (by have := lt j; have := ld j; simp at *; omega)
      simp [outM, sSeq, sIf, sRet, sNil, sPar, par2, fOrT, fNotT, fTest, fIsi, fVar, tyD, isiB, asB, fOp, fMk, mkTup, z1, aCons, aNil, opEqA_nil, hemp, fCall, e_pick, e_one, fC, g1, opEq_int, q0, bLen, lenL, g2, g3, fSlice, oNone, oSome, slD, fUn, negI, j1, j2, fRevT, ad]
    have q6 : (y == 4) = false := by simp [k6]
    obtain ⟨x, hx⟩ : ∃ x, xs[a.toNat]? = some x := ⟨xs[a.toNat]'(by omega), List.getElem?_eq_getElem (by omega)⟩
    have hat : L2.atI xs a = some x := by
      have := atI_nat hx
      rwa [Int.toNat_of_nonneg a0] at this
    have mx : x ∈ xs := List.mem_of_getElem? hx
    have hh : hD x ≤ hL xs := hL_le.mp (Nat.le_refl _) x mx
    have wx := wL_mem mx
    have hwx : wL xs ≤ 200000 := hw
    have hkx : hL xs + 1 < k + 1 := hk
    obtain ⟨e, s4, g4, b4, t4, f4, l4⟩ := bent_ok k t3 (okL_mem.mp (show okL xs = true from hok) x mx) (by omega) (by omega)
    have wa := wL_at hx
    have hb := b4.w
    have hc := b4.h
    refine ⟨.tup (xs.take a.toNat ++ [e] ++ xs.drop (a.toNat + 1)), s4, ?_, mixT hok (fun z hz => ?_) (by simp; omega) (by rw [wL_append, wL_append, wL, wL]; omega), t4, f13.trans f4, by rw [l4, l13]⟩
    · have ad := addT_any (xs := xs.take a.toNat) (ys := [e]) (by have := lt a.toNat; simp; omega)
      have ad2 := addT_any (xs := xs.take a.toNat ++ [e]) (ys := xs.drop (a.toNat + 1)) (by have := lt a.toNat; have := ld (a.toNat + 1); simp at *; omega)
      simp [outM, sSeq, sIf, sRet, sNil, sPar, par2, fOrT, fNotT, fTest, fIsi, fVar, tyD, isiB, asB, fOp, fMk, mkTup, z1, aCons, aNil, opEqA_nil, hemp, fCall, e_pick, e_one, fC, g1, opEq_int, q0, q1, q2, q4, q5, q6, bLen, lenL, g2, g3, fSlice, oNone, oSome, slD, ca, cd, opAdd_int, fSub, ixD, hat, g4, ad]
      simp at ad2
      simp [ad2]
    · rcases List.mem_append.mp hz with hz | hz
      · rcases List.mem_append.mp hz with hz | hz
        · exact .inl (mt _ z hz)
        · rw [List.mem_singleton.mp hz]
          exact .inr ⟨b4.ok, by omega, by have := b4.nl; have := nl_mem mx; have n2 : nlL xs ≤ nlD (.tup xs) := Nat.le_max_right _ _; omega⟩
      · exact .inl (md _ z hz)
end LW
namespace LW
open PySem PySem.Spec PyProof.Rows L2 DL TL
/-! views drawn -/
def vOrd (o : List (Nat × Bool)) : List D := o.map fun p => .tup [.int p.1, .bl p.2]
def vD (c : C) (o : List (Nat × Bool)) (sh : List Nat) : D := .tup [c.d, .tup (vOrd o), .tup (sh.map fun n : Nat => .int n)]
structure VOk (w : Nat) (c : C) (o : List (Nat × Bool)) (sh : List Nat) : Prop where
  co : c.ok w
  ch : c.ht ≤ 3
  ol : o.length ≤ 4
  oc : ∀ p ∈ o, p.1 < w
  sc : ∀ n ∈ sh, n < w
  sl : sh.length ≤ w
theorem loopC_pick {is : List Nat} {bd : FB} {t : FT} {f : F} {n : Nat} {P : D → Prop} {env : Lo} : ∀ {ds : List D}, (∀ d ∈ ds, ∃ vs, bd d = some vs ∧ ∀ st, Tp st n → ∃ b v st', t (setL is vs env) st = some (b, st') ∧ (b = true → f (setL is vs env) st' = some (v, st') ∧ P v) ∧ Tp st' n ∧ Fr n st st' ∧ st'.length = st.length) →
    ∀ {st : Store}, Tp st n → ∃ vs st', loopC is bd t f ds env st = some (vs, st') ∧ vs.length ≤ ds.length ∧ (∀ v ∈ vs, P v) ∧ Tp st' n ∧ Fr n st st' ∧ st'.length = st.length
  | [], _, st, tp => ⟨[], st, rfl, Nat.le_refl _, fun _ h => (by cases h), tp, .refl _ _, rfl⟩
  | d :: ds, h, st, tp => by
    obtain ⟨ws, hb, h1⟩ := h d List.mem_cons_self
    obtain ⟨b, v, s1, e1, e2, t1, f1, l1⟩ := h1 st tp
    obtain ⟨vs, s2, g1, g2, g3, g4, g5, g6⟩ := loopC_pick (fun d hd => h d (List.mem_cons_of_mem _ hd)) t1
    cases b with
    | false => exact ⟨vs, s2, by simp [loopC, hb, e1, g1], Nat.le_succ_of_le g2, g3, g4, f1.trans g5, by rw [g6, l1]⟩
    | true =>
      obtain ⟨e3, pv⟩ := e2 rfl
      exact ⟨v :: vs, s2, by simp [loopC, hb, e1, e3, g1], Nat.succ_le_succ g2, fun z hz => (List.mem_cons.mp hz).elim (fun y => y ▸ pv) (g3 z), g4, f1.trans g5, by rw [g6, l1]⟩
theorem nats_of : ∀ {vs : List D} {w : Nat}, (∀ v ∈ vs, ∃ k : Nat, v = .int k ∧ k < w) → ∃ sh : List Nat, vs = sh.map (fun n : Nat => D.int n) ∧ ∀ k ∈ sh, k < w
  | [], _, _ => ⟨[], rfl, fun _ h => by cases h⟩
  | v :: vs, w, h => by
    obtain ⟨k, rfl, hk⟩ := h v List.mem_cons_self
    obtain ⟨sh, rfl, hs⟩ := nats_of fun u hu => h u (List.mem_cons_of_mem _ hu)
    exact ⟨k :: sh, rfl, fun j hj => (List.mem_cons.mp hj).elim (fun e => e ▸ hk) (hs j)⟩
noncomputable abbrev bOrdL : FS := (sSeq (sAsg (fCall m__law_pick (aCons (fVar 0) (aCons (fVar 1) aNil))) (gN 5)) (sIf (fAndT (fTest (fOp opLt (fMk bLen (aCons (fVar 3) aNil)) (fC (.int 4)))) (fTest (fOp (inSeq true) (fVar 5) (fCompG (iRefL (fVar 3)) [7] b1 tTrue (fSub (fVar 7) (fC (.int 0))))))) (sDrop (fApp (fVar 3) (fMk mkTup (aCons (fVar 5) (aCons (fOp opEq (fCall m__law_pick (aCons (fVar 0) (aCons (fC (.int 2)) aNil))) (fC (.int 0))) aNil))))) sNil))
theorem ordL_ok {x2 x4 x5 x6 x7 : Option D} {n k : Nat} {w : Int} {o : List (Nat × Bool)} {st : Store} (t : Tp st n) (hn : k ≠ n) (h0 : 0 < w) (h1 : w ≤ 10) (hk : st[k]? = some (.lst (vOrd o))) (ol : o.length ≤ 4) (oc : ∀ p ∈ o, p.1 < w.toNat) :
    ∃ st' y5 o', bOrdL [some (.ref n), some (.int w), x2, some (.ref k), x4, x5, x6, x7] st = some (.nx, [some (.ref n), some (.int w), x2, some (.ref k), x4, y5, x6, x7], st') ∧ Tp st' n ∧ st'[k]? = some (.lst (vOrd o')) ∧ o'.length ≤ 4 ∧ (∀ p ∈ o', p.1 < w.toNat) ∧ st'.length = st.length ∧ ∀ m, m ≠ n → m ≠ k → m < st.length → st'[m]? = st[m]? := by
  have kl : k < st.length := (List.getElem?_eq_some_iff.mp hk).1
  obtain ⟨c, s1, g1, c0, c1, t1, f1, l1⟩ := pick_ok t (s := w) h0 (by omega)
  have hk1 : s1[k]? = some (.lst (vOrd o)) := by rw [f1.at_ k hn kl, hk]
  have ln := len_ref hk1
  have vl : (vOrd o).length = o.length := by simp [vOrd]
  have keep0 : ∀ m, m ≠ n → m ≠ k → m < st.length → s1[m]? = st[m]? := fun m a _ b => f1.at_ m a b
  by_cases c4 : o.length < 4
  case neg =>
    have c4' : ¬ ((o.length : Int) < 4) := by omega
    refine ⟨s1, some (.int c), o, ?_, t1, hk1, ol, oc, l1, keep0⟩
    simp [bOrdL, e_pick, g1, ln, vl, c4']
  case pos =>
    have c4' : ((o.length : Int) < 4) := by omega
    have lc := loopCG_map (P := fun s : Store => s[k]? = some (.lst (vOrd o))) (is := [7]) (bd := b1) (f := fSub (fVar 7) (fC (.int 0))) (g := fun d => match d with | .tup (a :: _) => a | _ => .non) (env := [some (.ref n), some (.int w), x2, some (.ref k), x4, some (.int c), x6, none]) (st := s1) hk1 (ds := vOrd o) (fun d hd => by
      obtain ⟨p, _, rfl⟩ := List.mem_map.mp hd
      exact ⟨_, rfl, by simp [ix0]⟩)
    have mp : (vOrd o).map (fun d => match d with | .tup (a :: _) => a | _ => .non) = (o.map fun p => (p.1 : Int)).map D.int := by simp [vOrd, Function.comp_def]
    rw [mp] at lc
    have z : o.length ≤ sizeLine := sl_of (by omega)
    have iq := inSeq_ints true c (o.map fun p => (p.1 : Int))
    by_cases cm : (o.map fun p => (p.1 : Int)).contains c = true
    · refine ⟨s1, some (.int c), o, ?_, t1, hk1, ol, oc, l1, keep0⟩
      rw [cm] at iq
      simp only [bOrdL, u_sSeq, u_sAsg, u_fCall, u_aCons, u_aNil, u_fVar, e_pick, u_gN]
      simp [g1, ln, vl, c4', iRefL, hk1]
      simp at lc iq
      simp [lc, z, iq]
    · simp only [Bool.not_eq_true] at cm
      rw [cm] at iq
      obtain ⟨b, s2, g2, b0, b2, t2, f2, l2⟩ := pick_ok t1 (s := 2) (by decide) (by decide)
      have hk2 : s2[k]? = some (.lst (vOrd o)) := by rw [f2.at_ k hn (by rw [l1]; exact kl), hk1]
      have kl2 : k < s2.length := by rw [l2, l1]; exact kl
      have zl : (vOrd o).length < sizeLine := by rw [vl]; exact Nat.lt_of_lt_of_le c4 (by decide)
      refine ⟨s2.set k (.lst (vOrd o ++ [.tup [.int c, .bl (b == 0)]])), some (.int c), o ++ [(c.toNat, b == 0)], ?_, t2.setNe hn _, ?_, by simp; omega, fun p hp => ?_, by rw [List.length_set, l2, l1], fun m a e d => ?_⟩
      · simp only [bOrdL, u_sSeq, u_sAsg, u_fCall, u_aCons, u_aNil, u_fVar, e_pick, u_gN]
        simp [g1, ln, vl, c4', iRefL, hk1]
        simp at lc iq
        simp [lc, z, iq, fApp, isLs, appAt, hk1, hk2, zl, g2, opEq_int]
      · rw [List.getElem?_set_self kl2]
        have : ((c.toNat : Nat) : Int) = c := Int.toNat_of_nonneg c0
        simp [vOrd, this]
      · rcases List.mem_append.mp hp with hp | hp
        · exact oc p hp
        · rw [List.mem_singleton.mp hp]
          show c.toNat < w.toNat
          omega
      · rw [List.getElem?_set_ne (fun z => e z.symm), f2.at_ m a (by rw [l1]; exact d), f1.at_ m a d]
theorem view_ok {n : Nat} {w : Int} {st : Store} (t : Tp st n) (h0 : 0 < w) (h1 : w ≤ 10) :
    ∃ c o sh st', m__law_view [.ref n, .int w] st = some (vD c o sh, st') ∧ VOk w.toNat c o sh ∧ Tp st' n ∧ Fr n st st' := by
  obtain ⟨r, s1, g1, r0, r2, t1, f1, l1⟩ := pick_ok t (s := 2) (by decide) (by decide)
  -- the condition
  obtain ⟨c, s2, gc, ok, hh, t2, f2, l2⟩ : ∃ c s2, (sIf (fTest (fOp opEq (fCall m__law_pick (aCons (fVar 0) (aCons (fC (.int 2)) aNil))) (fC (.int 0)))) (sAsg (fCall (m__law_condition 3) (aCons (fVar 0) (aCons (fVar 1) (aCons (fC (.int 2)) aNil)))) (gN 2)) sNil) [some (.ref n), some (.int w), some (.tup [.str (Str.ofString "all")]), none, none, none, none, none] st = some (.nx, [some (.ref n), some (.int w), some (C.d c), none, none, none, none, none], s2) ∧ c.ok w.toNat ∧ c.ht ≤ 3 ∧ Tp s2 n ∧ Fr n st s2 ∧ s2.length = st.length := by
    by_cases e : r = 0
    · subst e
      obtain ⟨c, s2, g2, ok, hh, t2, f2, l2⟩ := cond_ok 3 t1 (w := w) (dp := 2) h0 h1 (by decide) (by decide)
      exact ⟨c, s2, by simp [e_pick, g1, opEq_int, g2], ok, hh, t2, f1.trans f2, by rw [l2, l1]⟩
    · have e' : (r == 0) = false := by simp [e]
      exact ⟨.all, s1, by simp [e_pick, g1, opEq_int, e', C.d], trivial, by decide, t1, f1, l1⟩
  -- the order
  have hk : (s2 ++ [Ob.lst []])[s2.length]? = some (.lst (vOrd [])) := get_app
  have kn : s2.length ≠ n := fun z => by have := t2.lt; omega
  obtain ⟨j, s4, g4, j0, j7, t4, f4, l4⟩ := pick_ok (t2.app (.lst [])) (s := 7) (by decide) (by decide)
  have hk4 : s4[s2.length]? = some (.lst (vOrd [])) := by rw [f4.at_ _ kn (by simp), hk]
  have len4 : s4.length = s2.length + 1 := by rw [l4]; simp
  obtain ⟨e5, s5, g5, ⟨y4, y5, _, he5, _⟩, t5, ⟨o, hk5, ol, oc⟩, l5, fr5⟩ := loopS_inv (tg := gN 4) (body := bOrdL) (fun env s => (∃ y4 y5 o, env = [some (.ref n), some (.int w), some (C.d c), some (.ref s2.length), y4, y5, none, none] ∧ True) ∧ Tp s n ∧ (∃ o, s[s2.length]? = some (.lst (vOrd o)) ∧ o.length ≤ 4 ∧ ∀ p ∈ o, p.1 < w.toNat) ∧ s.length = s2.length + 1 ∧ ∀ m, m ≠ n → m < s2.length → s[m]? = s2[m]?) (ds := rg 0 j) (fun d hd env s i => by
    obtain ⟨⟨y4, y5, o', rfl, _⟩, tp, ⟨o, ho, ol, oc⟩, ln, fr⟩ := i
    obtain ⟨s', z5, o2, b1, b2, b3, b4, b5, b6, b7⟩ := ordL_ok (x2 := some (C.d c)) (x4 := some d) (x5 := y5) (x6 := none) (x7 := none) tp kn h0 h1 ho ol oc
    exact ⟨[some (.ref n), some (.int w), some (C.d c), some (.ref s2.length), some d, y5, none, none], by simp, .nx, _, s', b1, .inl rfl, ⟨_, _, o2, rfl, trivial⟩, b2, ⟨o2, b3, b4, b5⟩, by rw [b6, ln], fun m a b => by rw [b7 m a (by omega) (by omega), fr m a b]⟩)
    (env := [some (.ref n), some (.int w), some (C.d c), some (.ref s2.length), none, none, none, none]) (st := s4) ⟨⟨_, _, ([] : List (Nat × Bool)), rfl, trivial⟩, t4, ⟨[], hk4, by simp, fun _ h => by cases h⟩, len4, fun m a b => by rw [f4.at_ m a (by simp; omega), List.getElem?_append_left b]⟩
  subst he5
  -- the shown columns
  obtain ⟨vs, s6, g6, lv, pv, t6, f6, l6⟩ := loopC_pick (is := [5]) (bd := b1) (t := fTest (fOp opGt (fCall m__law_pick (aCons (fVar 0) (aCons (fC (.int 3)) aNil))) (fC (.int 0)))) (f := fVar 5) (n := n) (P := fun v => ∃ k : Nat, v = .int k ∧ k < w.toNat)
    (env := [some (.ref n), some (.int w), some (C.d c), some (.ref s2.length), y4, none, none, none]) (ds := rg 0 w) (fun d hd => by
      obtain ⟨i, rfl, i0, i1⟩ := rg_mem hd
      refine ⟨[.int i], rfl, fun s tp => ?_⟩
      obtain ⟨b, s', q1, q2, q3, q4, q5, q6⟩ := pick_ok tp (s := 3) (by decide) (by decide)
      exact ⟨decide (0 < b), .int i, s', by simp [e_pick, q1], fun _ => ⟨by simp, i.toNat, by rw [Int.toNat_of_nonneg i0], by omega⟩, q4, q5, q6⟩) t5
  obtain ⟨sh, rfl, hsh⟩ := nats_of pv
  rw [rg_len] at lv
  have ra := asR1_ok (n := w) (by omega) (by omega)
  have rj := asR1_ok (n := j) j0 (by omega)
  have zs : sh.length ≤ sizeLine := sl_of (by simp at lv; omega)
  have hk6 : s6[s2.length]? = some (.lst (vOrd o)) := by rw [f6.at_ _ kn (by rw [l5]; omega), hk5]
  refine ⟨c, o, sh, s6, ?_, ⟨ok, hh, ol, oc, hsh, by simp at lv; omega⟩, t6, ⟨by rw [l6, l5, l2]; omega, fun m a b => ?_⟩⟩
  · have q0 : (sAsg (fMk mkTup (aCons (fC (.str (Str.ofString "all"))) aNil)) (gN 2)) [some (.ref n), some (.int w), none, none, none, none, none, none] st = some (.nx, [some (.ref n), some (.int w), some (.tup [.str (Str.ofString "all")]), none, none, none, none, none], st) := by simp
    have q1 : (sAsg (fNewL aNil) (gN 3)) [some (.ref n), some (.int w), some (C.d c), none, none, none, none, none] s2 = some (.nx, [some (.ref n), some (.int w), some (C.d c), some (.ref s2.length), none, none, none, none], s2 ++ [.lst []]) := by simp
    have q2 : (iOfA asR1 (aCons (fCall m__law_pick (aCons (fVar 0) (aCons (fC (.int 7)) aNil))) aNil)) [some (.ref n), some (.int w), some (C.d c), some (.ref s2.length), none, none, none, none] (s2 ++ [.lst []]) = some (rg 0 j, s4) := by simp [e_pick, g4, rj]
    rw [show m__law_view [.ref n, .int w] st = outM (g__law_view [some (.ref n), some (.int w), none, none, none, none, none, none] st) from rfl, g__law_view, seq_step q0, seq_step gc, seq_step q1, seq_step ((for_step q2).trans g5)]
    simp [ra]
    simp [g6, zs, hk6, vD]
  · rw [f6.at_ m a (by rw [l5]; omega), fr5 m a (by rw [l2]; exact b), f2.at_ m a b]
end LW
namespace LW
open PySem PySem.Spec PyProof.Rows L2 DL TL
theorem fit_pv {d : D} (h : pvB d = true) : Fit d 0 210 := by
  cases d with
  | non => exact Fit.non.mono (Nat.le_refl _) (by decide)
  | int i => exact Fit.int (by have := of_decide_eq_true (show decide (-1000000000 ≤ i ∧ i ≤ 1000000000) = true from h); omega)
  | str x => exact (Fit.str (asc_gs h)).mono (Nat.le_refl _) (by decide)
  | _ => cases h
theorem fit_nm {s : String} (h : asc 16 (Str.ofString s) = true) : Fit (.str (Str.ofString s)) 0 16 := Fit.str (asc_gs h)
theorem fit_nat {n m : Nat} (h : n < m) (hm : m ≤ 1000000) : Fit (.int n) 0 210 := Fit.int (by omega)
theorem C.fit {w : Nat} (hw : w ≤ 10) : ∀ c : C, c.ok w → Fit c.d (c.ht + 1) (2500 * 2 ^ c.ht - 300)
  | .all, _ => (Fit.tup (FitL.cons (fit_nm (s := "all") (by decide +kernel)) FitL.nil)).mono (show _ ≤ 1 + 1 by decide) (show _ ≤ 2500 * 2 ^ 1 - 300 by decide)
  | .eq c v, h => (Fit.tup (FitL.cons (fit_nm (s := "equal") (by decide +kernel)) (FitL.cons (fit_nat h.1 (by omega)) (FitL.cons (fit_pv h.2) FitL.nil)))).mono (show _ ≤ 1 + 1 by decide) (show _ ≤ 2500 * 2 ^ 1 - 300 by decide)
  | .lt c v, h => (Fit.tup (FitL.cons (fit_nm (s := "less") (by decide +kernel)) (FitL.cons (fit_nat h.1 (by omega)) (FitL.cons (fit_pv h.2) FitL.nil)))).mono (show _ ≤ 1 + 1 by decide) (show _ ≤ 2500 * 2 ^ 1 - 300 by decide)
  | .st c x, h => (Fit.tup (FitL.cons (fit_nm (s := "starts") (by decide +kernel)) (FitL.cons (fit_nat h.1 (by omega)) (FitL.cons (Fit.str h.2.1) FitL.nil)))).mono (show _ ≤ 1 + 1 by decide) (show _ ≤ 2500 * 2 ^ 1 - 300 by decide)
  | .one c us, h => by
    have h1 : FitL us 0 (us.length * 211) := FitL.all fun u hu => fit_pv (h.2.2.2 u hu)
    have h2 : us.length * 211 ≤ 8 * 211 := Nat.mul_le_mul_right _ h.2.1
    exact (Fit.tup (FitL.cons (fit_nm (s := "one_of") (by decide +kernel)) (FitL.cons (fit_nat h.1 (by omega)) (FitL.cons (Fit.tup (h1.mono (Nat.le_refl _) h2)) FitL.nil)))).mono (show _ ≤ 1 + 1 by decide) (show _ ≤ 2500 * 2 ^ 1 - 300 by decide)
  | .not p, h => by
    have hp := C.fit hw p h
    have e2 : 2 ^ 1 ≤ 2 ^ p.ht := Nat.pow_le_pow_right (by decide) (C.ht_pos p)
    refine (Fit.tup (FitL.cons (fit_nm (s := "not") (by decide +kernel)) (FitL.cons hp FitL.nil))).mono (by show max 0 (max (p.ht + 1) 0) + 1 ≤ p.ht + 1 + 1; omega) ?_
    rw [show C.ht (.not p) = p.ht + 1 from rfl, Nat.pow_succ]
    omega
  | .and p q, h => by
    have hp := C.fit hw p h.1
    have hq := C.fit hw q h.2
    have m1 := Nat.le_max_left p.ht q.ht
    have m2 := Nat.le_max_right p.ht q.ht
    rw [show C.ht (.and p q) = max p.ht q.ht + 1 from rfl]
    have a1 := C.ht_pos p
    have a2 := C.ht_pos q
    generalize max p.ht q.ht = m at *
    have e1 : 2 ^ p.ht ≤ 2 ^ m := Nat.pow_le_pow_right (by decide) m1
    have e2 : 2 ^ q.ht ≤ 2 ^ m := Nat.pow_le_pow_right (by decide) m2
    have e3 : 2 ^ 1 ≤ 2 ^ p.ht := Nat.pow_le_pow_right (by decide) a1
    have e4 : 2 ^ 1 ≤ 2 ^ q.ht := Nat.pow_le_pow_right (by decide) a2
    refine (Fit.tup (FitL.cons (fit_nm (s := "and") (by decide +kernel)) (FitL.cons hp (FitL.cons hq FitL.nil)))).mono (by omega) ?_
    rw [Nat.pow_succ]
    omega
  | .or p q, h => by
    have hp := C.fit hw p h.1
    have hq := C.fit hw q h.2
    have m1 := Nat.le_max_left p.ht q.ht
    have m2 := Nat.le_max_right p.ht q.ht
    rw [show C.ht (.or p q) = max p.ht q.ht + 1 from rfl]
    have a1 := C.ht_pos p
    have a2 := C.ht_pos q
    generalize max p.ht q.ht = m at *
    have e1 : 2 ^ p.ht ≤ 2 ^ m := Nat.pow_le_pow_right (by decide) m1
    have e2 : 2 ^ q.ht ≤ 2 ^ m := Nat.pow_le_pow_right (by decide) m2
    have e3 : 2 ^ 1 ≤ 2 ^ p.ht := Nat.pow_le_pow_right (by decide) a1
    have e4 : 2 ^ 1 ≤ 2 ^ q.ht := Nat.pow_le_pow_right (by decide) a2
    refine (Fit.tup (FitL.cons (fit_nm (s := "or") (by decide +kernel)) (FitL.cons hp (FitL.cons hq FitL.nil)))).mono (by omega) ?_
    rw [Nat.pow_succ]
    omega
theorem VOk.fit {w : Nat} (hw : w ≤ 10) {c : C} {o : List (Nat × Bool)} {sh : List Nat} (h : VOk w c o sh) : Fit (vD c o sh) 8 30000 := by
  have f1 := C.fit hw c h.co
  have e1 : 2 ^ c.ht ≤ 2 ^ 3 := Nat.pow_le_pow_right (by decide) h.ch
  have f2 : FitL (vOrd o) 1 ((vOrd o).length * 300) := FitL.all fun d hd => by
    obtain ⟨p, hp, rfl⟩ := List.mem_map.mp hd
    exact (Fit.tup (FitL.cons (fit_nat (h.oc p hp) (by omega)) (FitL.cons (Fit.bl p.2) FitL.nil))).mono (by decide) (by decide)
  have f3 : FitL (sh.map fun n : Nat => D.int n) 0 ((sh.map fun n : Nat => D.int n).length * 211) := FitL.all fun d hd => by
    obtain ⟨p, hp, rfl⟩ := List.mem_map.mp hd
    exact fit_nat (h.sc p hp) (by omega)
  have l2 : (vOrd o).length * 300 ≤ 4 * 300 := Nat.mul_le_mul_right _ (by simp [vOrd]; exact h.ol)
  have l3 : (sh.map fun n : Nat => D.int n).length * 211 ≤ 10 * 211 := Nat.mul_le_mul_right _ (by simp; exact Nat.le_trans h.sl hw)
  have hh := h.ch
  exact (Fit.tup (FitL.cons f1 (FitL.cons (Fit.tup f2) (FitL.cons (Fit.tup f3) FitL.nil)))).mono (by omega) (by omega)
/-! keys -/
def kD (o : List (Nat × Bool)) (vs : List D) (i : Int) : D := .tup ((o.map fun p => atV vs p.1) ++ [.int i])
def shD (sh : List Nat) (vs : List D) : D := .tup (sh.map fun n => atV vs n)
theorem shown_ok {sh : List Nat} {vs : List D} {env : Lo} {st : Store} {i j : Nat} (hs : ∀ n ∈ sh, n < vs.length) (hl : sh.length ≤ 10) (hj : ∀ d, (setL [j] [d] (wipeL env [j]))[i]? = some (some (.tup vs))) (hj2 : ∀ d, (setL [j] [d] (wipeL env [j]))[j]? = some (some d)) :
    loopC [j] b1 tTrue (fSub (fVar i) (fVar j)) (sh.map fun n : Nat => D.int n) (wipeL env [j]) st = some (sh.map fun n => atV vs n, st) :=
  loopC_over (φ := fun n : Nat => D.int n) (ψ := fun n => atV vs n) (l := sh) fun n hn => ⟨[.int n], rfl, by
    have a := hj (.int n)
    have b := hj2 (.int n)
    simp only [u_fSub, u_fVar, a, b, Option.bind_some, u_ixT, at_val (hs n hn), Option.map_some]⟩
theorem row_fit {o : List (Nat × Bool)} {sh : List Nat} {vs : List D} {i : Int} (ol : o.length ≤ 4) (sl : sh.length ≤ 10) (oc : ∀ p ∈ o, p.1 < vs.length) (hs : ∀ n ∈ sh, n < vs.length) (hv : ∀ v ∈ vs, pvB v = true) (hi : -1000000000000000 < i ∧ i < 1000000000000000) : Fit (.tup [kD o vs i, shD sh vs]) 2 5000 := by
  have f1 : FitL (o.map fun p => atV vs p.1) 0 ((o.map fun p => atV vs p.1).length * 211) := FitL.all fun d hd => by
    obtain ⟨p, hp, rfl⟩ := List.mem_map.mp hd
    exact fit_pv (hv _ (mem_val (oc p hp)))
  have f2 : FitL (sh.map fun n => atV vs n) 0 ((sh.map fun n => atV vs n).length * 211) := FitL.all fun d hd => by
    obtain ⟨p, hp, rfl⟩ := List.mem_map.mp hd
    exact fit_pv (hv _ (mem_val (hs p hp)))
  have l1 : (o.map fun p => atV vs p.1).length * 211 ≤ 4 * 211 := Nat.mul_le_mul_right _ (by simp; exact ol)
  have l2 : (sh.map fun n => atV vs n).length * 211 ≤ 10 * 211 := Nat.mul_le_mul_right _ (by simp; exact sl)
  exact (Fit.tup (FitL.cons (Fit.tup (f1.append (FitL.cons (Fit.int hi) FitL.nil))) (FitL.cons (Fit.tup f2) FitL.nil))).mono (by decide) (by omega)
end LW
namespace LW
open PySem PySem.Spec PyProof.Rows L2 DL TL
/-! what is a view -/
theorem opNe_int (a b : Int) : opNe (.int a) (.int b) = some (.bl (!(a == b))) := by
  have h1 : SeqAt.shaped (.int a) = true := rfl
  have h2 : SeqAt.shaped (.int b) = true := rfl
  simp [opNe, toPy, h1, h2, PyData.eqv]
def isBl : D → Bool | .bl _ => true | _ => false
def pairB (w : Int) : D → Bool | .tup [a, b] => colB w a && isBl b | _ => false
def colI : D → Int | .tup (.int k :: _) => k | _ => 0
def intI : D → Int | .int k => k | _ => 0
def ordB (w : Int) : D → Bool | .tup us => decide (us.length ≤ 4) && (us.all (pairB w) && decide ((us.map colI).Nodup)) | _ => false
def shB (w : Int) : D → Bool | .tup us => us.all (colB w) && decide ((us.map intI).Pairwise (· < ·)) | _ => false
def viewB (w : Int) : D → Bool | .tup [c, o, s] => cw w 8 c && (ordB w o && shB w s) | _ => false
theorem col_int {w : Int} {d : D} (h : colB w d = true) : d = .int (intI d) ∧ 0 ≤ intI d ∧ intI d < w := by
  cases d with
  | int k => exact ⟨rfl, of_decide_eq_true h⟩
  | _ => cases h
theorem pair_ok {w : Int} {d : D} (h : okw d) (st : Store) : m_is_order_pair [d, .int w] st = some (.bl (pairB w d), st) := by
  cases d with
  | tup us =>
    by_cases q : us.length = 2
    · obtain ⟨a, b, rfl⟩ : ∃ a b, us = [a, b] := by
        cases us with
        | nil => cases q
        | cons a r => cases r with
          | nil => simp at q
          | cons b r => cases r with
            | nil => exact ⟨a, b, rfl⟩
            | cons _ _ => simp at q
      have oa : okw a := h.mem (by simp)
      have ob : okw b := h.mem (by simp)
      have k := column_ok oa w st
      cases b with
      | scr _ => cases ob.1
      | ref _ => cases ob.1
      | _ => cases e : colB w a <;> simp [m_is_order_pair, g_is_order_pair, tyD, isiB, opNe_int, ix0, ix1, k, pairB, isBl, e]
    · have q2 : ((us.length : Int) == 2) = false := by simp; omega
      have pb : pairB w (.tup us) = false := by
        cases us with
        | nil => rfl
        | cons a r => cases r with
          | nil => rfl
          | cons b r => cases r with
            | nil => simp at q
            | cons _ _ => rfl
      simp [m_is_order_pair, g_is_order_pair, tyD, isiB, opNe_int, q2, pb]
  | scr _ => cases h.1
  | ref _ => cases h.1
  | _ => simp [m_is_order_pair, g_is_order_pair, tyD, isiB, pairB]
theorem cnt_nd : ∀ l : List Int, (cntI l = l.length ↔ l.Nodup)
  | [] => by simp [cntI]
  | k :: l => by
    have ih := cnt_nd l
    have le := cntI_le l
    rw [cntI, List.nodup_cons, List.length_cons]
    by_cases h : k ∈ l
    · rw [if_pos h]
      constructor
      · intro e; omega
      · intro e; exact absurd h e.1
    · rw [if_neg h, ← ih]
      constructor
      · intro e; exact ⟨h, by omega⟩
      · intro e; omega
theorem pair_col {w : Int} {d : D} (h : pairB w d = true) : ∃ b : Bool, d = .tup [.int (colI d), .bl b] := by
  cases d with
  | tup us =>
    cases us with
    | nil => cases h
    | cons a r => cases r with
      | nil => cases h
      | cons b r => cases r with
        | cons _ _ => cases h
        | nil =>
          obtain ⟨h1, h2⟩ := Bool.and_eq_true_iff.mp (show (colB w a && isBl b) = true from h)
          cases a with
          | int k => cases b with
            | bl b => exact ⟨b, rfl⟩
            | _ => cases h2
          | _ => cases h1
  | _ => cases h
theorem order_ok {w : Int} {d : D} (h : okw d) (st : Store) : m_is_order [d, .int w] st = some (.bl (ordB w d), st) := by
  cases d with
  | tup us =>
    by_cases q : us.length ≤ 4
    · have q1 : ¬ (4 : Int) < us.length := by omega
      have lp := map_loop (is := [2]) (f := fCall m_is_order_pair (aCons (fVar 2) (aCons (fVar 1) aNil))) (env := [some (.tup us), some (.int w), none]) (st := st) (g := pairB w) (us := us) (fun u hu => by simp [pair_ok (h.mem hu)])
      have z : us.length ≤ sizeLine := sl_of (by omega)
      have ba := bools_map (us.map (pairB w))
      have al := all_id (pairB w) us
      have ba1 : bAll [.lst ((us.map (pairB w)).map .bl)] st = some (.bl (us.all (pairB w))) := by
        simp only [bAll, ba, Option.map_some, al]
      have ob : ordB w (.tup us) = (us.all (pairB w) && decide ((us.map colI).Nodup)) := by simp [ordB, q]
      rw [ob]
      cases qq : us.all (pairB w) with
      | false =>
        rw [qq] at ba1
        simp at lp ba1
        simp [m_is_order, g_is_order, tyD, isiB, q1, lp, z, ba1]
      | true =>
        rw [qq] at ba1
        have hp := List.all_eq_true.mp qq
        have lc : loopC [2] b1 tTrue (fSub (fVar 2) (fC (.int 0))) us [some (.tup us), some (.int w), none] st = some ((us.map colI).map D.int, st) := by
          rw [List.map_map]
          have := loopC_over (φ := fun d : D => d) (ψ := fun d => D.int (colI d)) (is := [2]) (bd := b1) (f := fSub (fVar 2) (fC (.int 0))) (env := [some (.tup us), some (.int w), none]) (st := st) (l := us) (fun d hd => ⟨[d], rfl, by
            obtain ⟨b, e⟩ := pair_col (hp d hd)
            rw [e]
            simp [ix0, colI]⟩)
          rw [List.map_id'] at this
          exact this
        have le : (us.map colI).length ≤ 4000 := by rw [List.length_map]; omega
        have fl : fLenSc (iOf asT (fVar 0)) [2] b1 tTrue (fSub (fVar 2) (fC (.int 0))) [some (.tup us), some (.int w), none] st = some (.int (cntI (us.map colI).reverse), st) := by
          simp only [fLenSc, u_iOf, u_fVar, List.getElem?_cons_zero, Option.bind_some, u_asT, Option.map_some, u_wipe1, u_wipe0, List.set_cons_succ, List.set_cons_zero, lc, intsD_map, if_pos le]
        have e : ((cntI (us.map colI).reverse : Int) == (us.length : Int)) = decide ((us.map colI).Nodup) := by
          have := cnt_nd (us.map colI).reverse
          rw [List.length_reverse, List.length_map, (List.reverse_perm (us.map colI)).nodup_iff] at this
          by_cases nd : (us.map colI).Nodup
          · rw [this.mpr nd]; simp [nd]
          · have ne : ¬ cntI (us.map colI).reverse = us.length := fun e => nd (this.mp e)
            simp [nd]; omega
        simp at lp ba1
        simp [m_is_order, g_is_order, tyD, isiB, q1, lp, z, ba1]
        rw [fl]
        simp [opEq_int, e]
    · have q1 : (4 : Int) < us.length := by omega
      simp [m_is_order, g_is_order, tyD, isiB, q1, ordB, q]
  | scr _ => cases h.1
  | ref _ => cases h.1
  | _ => simp [m_is_order, g_is_order, tyD, isiB, ordB]
theorem all_cols {w : Int} : ∀ {us : List D}, us.all (colB w) = true → us = (us.map intI).map D.int
  | [], _ => rfl
  | d :: us, h => by
    obtain ⟨h1, h2⟩ := Bool.and_eq_true_iff.mp (show (colB w d && us.all (colB w)) = true from h)
    rw [List.map_cons, List.map_cons, ← all_cols h2, ← (col_int h1).1]
theorem ints_eqv : ∀ ks ls : List Int, PyData.eqvAll (ks.map PyData.int) (ls.map PyData.int) = decide (ks = ls)
  | [], [] => by simp [PyData.eqvAll]
  | [], _ :: _ => by simp [PyData.eqvAll]
  | _ :: _, [] => by simp [PyData.eqvAll]
  | k :: ks, l :: ls => by
    have ih := ints_eqv ks ls
    simp only [List.map_cons, PyData.eqvAll, PyData.eqv, ih]
    by_cases z : k = l <;> simp [z]
theorem ints_py : ∀ ks : List Int, toPyL (ks.map D.int) = some (ks.map PyData.int)
  | [] => rfl
  | k :: ks => by
    have ih := ints_py ks
    simp [toPyL, toPy, ih]
theorem ints_list {ks : List Int} (h : ∀ k ∈ ks, 0 ≤ k ∧ k < 1000000) (l : ks.length ≤ 64) : toPy (.lst (ks.map D.int)) = some (.list (ks.map PyData.int)) ∧ SeqAt.shaped (.list (ks.map PyData.int)) = true := by
  have e : toPy (.lst (ks.map D.int)) = some (.list (ks.map PyData.int)) := by
    show (toPyL _).map PyData.list = _
    rw [ints_py]; rfl
  refine ⟨e, ?_⟩
  have s1 : SmL 0 ((ks.map D.int).length * 41) (ks.map D.int) := SmL.all fun y hy => by
    obtain ⟨k, hk, rfl⟩ := List.mem_map.mp hy
    have := h k hk
    exact Sm.int (by omega)
  have l1 : (ks.map D.int).length * 41 ≤ 64 * 41 := Nat.mul_le_mul_right _ (by rw [List.length_map]; exact l)
  obtain ⟨p, h1, h2⟩ := (Sm.lst (s1.mono (Nat.le_refl _) l1)).shaped (by decide)
  rw [e] at h1
  cases h1
  exact h2
theorem srt_self {ks : List Int} : (ks = srt ks) ↔ ks.Pairwise (· < ·) :=
  ⟨fun h => by rw [h]; exact srt_pw ks, fun h => pw_eq h (srt_pw ks) fun j => srt_mem.symm⟩
theorem srt_len : ∀ ks : List Int, (srt ks).length ≤ ks.length
  | [] => Nat.le_refl _
  | k :: ks => by
    have il : ∀ (l : List Int), (ins k l).length ≤ l.length + 1 := fun l => by
      induction l with
      | nil => exact Nat.le_refl _
      | cons a l ih =>
        unfold ins
        split
        · simp
        · split <;> simp <;> omega
    have ih := srt_len ks
    have := il (srt ks)
    show (ins k (srt ks)).length ≤ ks.length + 1
    omega
theorem isshown_ok {w : Int} (hw : w ≤ 1000) {d : D} (h : okw d) (hn : nlD d ≤ 60) (st : Store) : m_is_shown [d, .int w] st = some (.bl (shB w d), st) := by
  cases d with
  | tup us =>
    have ul : us.length ≤ 60 := Nat.le_trans (Nat.le_max_left _ _) hn
    have lp := map_loop (is := [2]) (f := fCall m_is_column (aCons (fVar 2) (aCons (fVar 1) aNil))) (env := [some (.tup us), some (.int w), none]) (st := st) (g := colB w) (us := us) (fun u hu => by simp [column_ok (h.mem hu)])
    have z : us.length ≤ sizeLine := sl_of (by omega)
    have ba1 : bAll [.lst ((us.map (colB w)).map .bl)] st = some (.bl (us.all (colB w))) := by
      simp only [bAll, bools_map, Option.map_some, all_id]
    have sb : shB w (.tup us) = (us.all (colB w) && decide ((us.map intI).Pairwise (· < ·))) := rfl
    rw [sb]
    cases qq : us.all (colB w) with
    | false =>
      rw [qq] at ba1
      simp at lp ba1
      simp [m_is_shown, g_is_shown, tyD, isiB, lp, z, ba1]
    | true =>
      rw [qq] at ba1
      have hp := List.all_eq_true.mp qq
      have eu := all_cols qq
      have kb : ∀ k ∈ us.map intI, 0 ≤ k ∧ k < 1000000 := fun k hk => by
        obtain ⟨d, hd, rfl⟩ := List.mem_map.mp hk
        have := (col_int (hp d hd)).2
        omega
      have kl : (us.map intI).length ≤ 60 := by rw [List.length_map]; exact ul
      generalize us.map intI = ks at *
      have z64 : ks.length < 64 := by omega
      have fs : fSortSet (fVar 0) [some (.tup us), some (.int w), none] st = some (.lst ((srt ks).map D.int), st) := by
        simp only [fSortSet, u_fVar, List.getElem?_cons_zero, Option.bind_some]
        rw [eu]
        simp only [intsD_map, Option.bind_some, if_pos z64]
      have bl : bList [.tup us] st = some (.lst (ks.map D.int)) := by rw [← eu]; rfl
      obtain ⟨y1, y2⟩ := ints_list kb (by omega)
      obtain ⟨y3, y4⟩ := ints_list (ks := srt ks) (fun k hk => kb k (srt_mem.mp hk)) (by have := srt_len ks; omega)
      have eq : opEq (.lst (ks.map D.int)) (.lst ((srt ks).map D.int)) = some (.bl (decide (ks.Pairwise (· < ·)))) := by
        simp only [opEq, y1, y3, Option.bind_some, y2, y4, and_self, if_true]
        rw [PyData.eqv, ints_eqv]
        congr 2
        exact decide_eq_decide.mpr srt_self
      simp at lp ba1
      simp [m_is_shown, g_is_shown, tyD, isiB, lp, z, ba1, bl]
      rw [fs]
      simp [eq]
  | scr _ => cases h.1
  | ref _ => cases h.1
  | _ => simp [m_is_shown, g_is_shown, tyD, isiB, shB]
theorem view_is {w : Int} (hw : w ≤ 1000) {d : D} (h : okw d) (hn : nlD d ≤ 60) (st : Store) : m_is_view [d, .int w] st = some (.bl (viewB w d), st) := by
  cases d with
  | tup us =>
    by_cases q : us.length = 3
    · obtain ⟨a, b, c, rfl⟩ : ∃ a b c, us = [a, b, c] := by
        cases us with
        | nil => cases q
        | cons a r => cases r with
          | nil => simp at q
          | cons b r => cases r with
            | nil => simp at q
            | cons c r => cases r with
              | nil => exact ⟨a, b, c, rfl⟩
              | cons _ _ => simp at q
      have k1 := cond_is (h.mem (d := a) (by simp)) w st
      have k2 := order_ok (w := w) (h.mem (d := b) (by simp)) st
      have nc : nlD c ≤ 60 := Nat.le_trans (nl_mem (ds := [a, b, c]) (by simp)) (Nat.le_trans (Nat.le_max_right _ _) hn)
      have k3 := isshown_ok hw (h.mem (d := c) (by simp)) nc st
      have vb : viewB w (.tup [a, b, c]) = (cw w 8 a && (ordB w b && shB w c)) := rfl
      rw [vb]
      cases e1 : cw w 8 a
      · simp [m_is_view, g_is_view, tyD, isiB, opNe_int, k1, e1]
      · cases e2 : ordB w b
        · simp [m_is_view, g_is_view, tyD, isiB, opNe_int, k1, e1, k2, e2]
        · simp [m_is_view, g_is_view, tyD, isiB, opNe_int, k1, e1, k2, e2, k3]
    · have q2 : ((us.length : Int) == 3) = false := by simp; omega
      have vb : viewB w (.tup us) = false := by
        cases us with
        | nil => rfl
        | cons a r => cases r with
          | nil => rfl
          | cons b r => cases r with
            | nil => rfl
            | cons c r => cases r with
              | nil => simp at q
              | cons _ _ => rfl
      simp [m_is_view, g_is_view, tyD, isiB, opNe_int, q2, vb]
  | scr _ => cases h.1
  | ref _ => cases h.1
  | _ => simp [m_is_view, g_is_view, tyD, isiB, viewB]
end LW
namespace LW
open PySem PySem.Spec PyProof.Rows L2 DL TL
def vX (x : D) (o : List (Nat × Bool)) (y : D) : D := .tup [x, .tup (vOrd o), y]
theorem vX_of (c : C) (o : List (Nat × Bool)) (sh : List Nat) : vD c o sh = vX c.d o (.tup (sh.map fun n : Nat => .int n)) := rfl
theorem kp {m : Nat} {d : D} (h : FV m d) (st : Store) : m_kind_place [d] st = some (.int (kindP d), st) := by
  cases d <;> first
    | exact h.elim
    | (simp [m_kind_place, g_kind_place, mOf, outM, startD, sSeq, sIf, sRet, sNil, fVar, fC, fOp, fTest, asB, fIsi, tyD, isiB, orD, opIs, isN, isB, DL.isNon]; rfl)
theorem values_ok {st : Store} {n : Nat} {w : Int} (t : Tp st n) (h0 : 0 ≤ w) (h1 : w ≤ 10) : ∃ vs st', m__law_values [.ref n, .int w] st = some (.tup vs, st') ∧ (vs.length : Int) = w ∧ (∀ v ∈ vs, pvB v = true) ∧ Tp st' n ∧ Fr n st st' ∧ st'.length = st.length := by
  obtain ⟨vs, s3, h3, l3, p3, t3, f3, q3⟩ := loopC_draw2 (is := [2]) (bd := b1) (f := fCall m__law_value (aCons (fVar 0) aNil)) (n := n) (P := fun v => pvB v = true)
    (env := [some (.ref n), some (.int w), none]) (ds := rg 0 w) (fun d hd => ⟨[d], rfl, fun s t => by
      obtain ⟨v, s', g1, g2, g3, g4, g5⟩ := value_ok t
      exact ⟨v, s', by simp [fCall, aCons, aNil, fVar, setL, g1], g2, g3, g4, g5⟩⟩) t
  rw [rg_len] at l3
  have zc : vs.length ≤ sizeLine := Nat.le_trans (by rw [l3]; omega) (show 10 ≤ sizeLine by decide)
  have ra := asR1_ok (n := w) h0 (by omega)
  refine ⟨vs, s3, ?_, by omega, p3, t3, f3, q3⟩
  simp [m__law_values, g__law_values, mOf, outM, startD, sRet, fMk, aCons, aNil, fComp, iOfA, fVar, ra, wipeL, h3, zc, bTuple]
theorem rank_ok {v : D} (hv : pvB v = true) (st : Store) : m__law_rank [v] st = some (rkD v, st) := by
  have z2 : 2 ≤ sizeLine := by decide
  cases v with
  | non => simp [m__law_rank, g__law_rank, mOf, outM, startD, sSeq, sIf, sRet, sNil, fVar, fC, fTest, fOp, opIs, orD, isN, isB, DL.isNon, asB, fMk, mkTup, aCons, aNil, z2, rkD]
  | int i => simp [m__law_rank, g__law_rank, mOf, outM, startD, sSeq, sIf, sRet, sNil, fVar, fC, fTest, fOp, opIs, orD, isN, isB, DL.isNon, asB, fMk, mkTup, aCons, aNil, z2, rkD, fIfE, fIsi, tyD, isiB]
  | str i => simp [m__law_rank, g__law_rank, mOf, outM, startD, sSeq, sIf, sRet, sNil, fVar, fC, fTest, fOp, opIs, orD, isN, isB, DL.isNon, asB, fMk, mkTup, aCons, aNil, z2, rkD, fIfE, fIsi, tyD, isiB]
  | _ => cases hv
theorem lkey_ok {xv : D} {o : List (Nat × Bool)} {yv : D} {vs : List D} {i : Int} (st : Store) (oc : ∀ p ∈ o, p.1 < vs.length) (ol : o.length ≤ 4) : m__law_key [vX xv o yv, .int i, .tup vs] st = some (kD o vs i, st) := by
  have lc := loopC_over (φ := fun p : Nat × Bool => D.tup [.int p.1, .bl p.2]) (ψ := fun p => atV vs p.1) (is := [3, 4]) (bd := bTup 2 (bCons b1 (bCons b1 bNil))) (f := fSub (fVar 2) (fVar 3)) (env := [some (vX xv o yv), some (.int i), some (.tup vs), none, none]) (st := st) (l := o) (fun p hp => ⟨[.int p.1, .bl p.2], by simp, by simp [at_val (oc p hp)]⟩)
  have z : o.length ≤ sizeLine := sl_of (by omega)
  have z1 : o.length + 1 ≤ sizeLine := sl_of (by omega)
  have ad : opAdd (.tup (o.map fun p => atV vs p.1)) (.tup [.int i]) = some (kD o vs i) := by rw [addT_ok (by simp; omega)]; rfl
  simp only [vX, vOrd] at lc ⊢
  simp [m__law_key, g__law_key, ix1]
  simp [lc, z, z1, ad]
def plD : D → Bool → D
  | .int i, false => .tup [.int 1, .int i]
  | .int i, true => .tup [.int (-1), .int (-i)]
  | .str x, false => .tup [.int 2, .str x]
  | .str x, true => .tup [.int (-2), .tup ((tl x).map (fun c : Nat => .int (-(c : Int))) ++ [.int 1])]
  | _, _ => .tup [.int 0]
theorem len_tlx (x : Str) : (tl x).length = x.length := (len_tl x).symm
theorem value_place_ok {v : D} (hv : pvB v = true) (d : Bool) (st : Store) : m_value_place [v, .bl d] st = some (plD v d, st) := by
  have k := kp (pv_fv hv) st
  cases v with
  | non => 
    have k' : m_kind_place [.non] st = some (.int 0, st) := k
    cases d <;> simp [m_value_place, g_value_place, k', opIs, orD, isN, isB, DL.isNon, plD]
  | int i =>
    have k' : m_kind_place [.int i] st = some (.int 1, st) := k
    cases d <;> simp [m_value_place, g_value_place, k', opIs, orD, isN, isB, DL.isNon, plD, tyD, isiB]
  | str x =>
    have k' : m_kind_place [.str x] st = some (.int 2, st) := k
    cases d with
    | false => simp [m_value_place, g_value_place, k', opIs, orD, isN, isB, DL.isNon, plD]
    | true =>
      have gx : GS 40 x := asc_gs hv
      have lc := loopC_over (φ := fun c : Nat => D.str ⟨#[c]⟩) (ψ := fun c : Nat => D.int (-(c : Int))) (is := [4]) (bd := b1) (f := fUn negI (fMk bOrd (aCons (fVar 4) aNil))) (env := [some (.str x), some (.bl true), some (.int 2), none, none]) (st := st) (l := tl x) (fun c hc => ⟨[.str ⟨#[c]⟩], rfl, by
        simp [bOrd, show (⟨#[c]⟩ : Str).length = 1 from rfl]⟩)
      have z : (tl x).length ≤ sizeLine := sl_of (by rw [len_tlx]; have := gx.1; omega)
      have z1 : (tl x).length + 1 ≤ sizeLine := sl_of (by rw [len_tlx]; have := gx.1; omega)
      have as : asStr (.str x) = some ((tl x).map fun c : Nat => D.str ⟨#[c]⟩) := rfl
      simp [m_value_place, g_value_place, k', opIs, orD, isN, isB, DL.isNon, plD, tyD, isiB, as]
      have zs : x.cps.size ≤ sizeLine := z
      have zs1 : x.cps.size + 1 ≤ sizeLine := z1
      simp [lc, zs, zs1]
  | _ => cases hv
def KD (ks : List D) (i : Int) : D := .tup (ks ++ [.int i])
def kpD (ks : List D) (o : List (Nat × Bool)) (i : Int) : D := .tup ((ks.zip o).map (fun x => plD x.1 x.2.2) ++ [.int i])
theorem pairs2_zip : ∀ {ks : List D} {o : List (Nat × Bool)} (r : List D), ks.length = o.length → pairs2 (ks ++ r) (vOrd o) = (ks.zip o).map fun x => .tup [x.1, .tup [.int x.2.1, .bl x.2.2]]
  | [], [], r, _ => by cases r <;> rfl
  | k :: ks, p :: o, r, h => by
    show D.tup [k, .tup [.int p.1, .bl p.2]] :: pairs2 (ks ++ r) (vOrd o) = _
    rw [pairs2_zip r (Nat.succ.inj h)]
    rfl
  | [], _ :: _, _, h => by cases h
  | _ :: _, [], _, h => by cases h
theorem last_at (ks : List D) (i : Int) : L2.atI (ks ++ [.int i]) (-1) = some (.int i) := by
  unfold L2.atI
  have : ixN (ks.length + 1) (-1) = some ks.length := by
    simp [ixN]
    omega
  simp [this]
theorem key_place_ok {xv : D} {o : List (Nat × Bool)} {yv : D} {ks : List D} {i : Int} (st : Store) (hl : ks.length = o.length) (ol : o.length ≤ 4) (hv : ∀ v ∈ ks, pvB v = true) : m_key_place [vX xv o yv, KD ks i] st = some (kpD ks o i, st) := by
  have lc := loopC_over (φ := fun x : D × (Nat × Bool) => D.tup [x.1, .tup [.int x.2.1, .bl x.2.2]]) (ψ := fun x => plD x.1 x.2.2) (is := [3, 4, 5]) (bd := bTup 2 (bCons b1 (bCons (bTup 2 (bCons b1 (bCons b1 bNil))) bNil))) (f := fCall m_value_place (aCons (fVar 3) (aCons (fVar 5) aNil))) (env := [some (vX xv o yv), some (KD ks i), none, none, none, none]) (st := st) (l := ks.zip o)
    (fun x hx => ⟨[x.1, .int x.2.1, .bl x.2.2], by simp, by simp [value_place_ok (hv x.1 (List.of_mem_zip hx).1)]⟩)
  have zl : (ks.zip o).length ≤ 4 := by rw [List.length_zip]; omega
  have z : (ks.zip o).length ≤ sizeLine := sl_of (by omega)
  have z1 : (ks.zip o).length + 1 ≤ sizeLine := sl_of (by omega)
  have p2 := pairs2_zip (ks := ks) (o := o) [.int i] hl
  have la := last_at ks i
  simp only [vX, KD] at lc ⊢
  simp [m_key_place, g_key_place, ix1, asZip, p2]
  simp at lc z z1
  simp [lc, z, z1, kpD, la]
def plP : D → Bool → PyData
  | .int i, false => .tuple [.int 1, .int i]
  | .int i, true => .tuple [.int (-1), .int (-i)]
  | .str x, false => .tuple [.int 2, .str x]
  | .str x, true => .tuple [.int (-2), .tuple ((tl x).map (fun c : Nat => .int (-(c : Int))) ++ [.int 1])]
  | _, _ => .tuple [.int 0]
theorem toPyL_ints {α : Type} (f : α → Int) : ∀ l : List α, toPyL (l.map fun c => D.int (f c)) = some (l.map fun c => PyData.int (f c))
  | [] => rfl
  | c :: l => by
    have ih := toPyL_ints f l
    simp [toPyL, toPy, ih]
theorem toPyL_app : ∀ {xs ys : List D} {ps qs : List PyData}, toPyL xs = some ps → toPyL ys = some qs → toPyL (xs ++ ys) = some (ps ++ qs)
  | [], _, _, _, h1, h2 => by cases h1; exact h2
  | x :: xs, ys, ps, qs, h1, h2 => by
    obtain ⟨p, h3, h4⟩ := Option.bind_eq_some_iff.mp (show ((toPy x).bind fun p => (toPyL xs).map fun q => p :: q) = some ps from h1)
    obtain ⟨q, h5, h6⟩ := Option.map_eq_some_iff.mp h4
    subst h6
    have := toPyL_app h5 h2
    show ((toPy x).bind fun p => (toPyL (xs ++ ys)).map fun q => p :: q) = _
    rw [h3, this]; rfl
theorem pl_py {v : D} (hv : pvB v = true) (d : Bool) : toPy (plD v d) = some (plP v d) := by
  cases v with
  | non => cases d <;> rfl
  | int i => cases d <;> rfl
  | str x =>
    cases d with
    | false => rfl
    | true =>
      have h := toPyL_app (toPyL_ints (fun c : Nat => -(c : Int)) (tl x)) (show toPyL [.int 1] = some [.int 1] from rfl)
      simp [plD, plP, toPy, toPyL, h]
  | _ => cases hv
theorem pl_sm {v : D} (hv : pvB v = true) (d : Bool) : Sm 2 3000 (plD v d) := by
  cases v with
  | non => cases d <;> exact (Sm.tup (SmL.cons (Sm.int (i := 0) (by decide)) SmL.nil)).mono (by decide) (by decide)
  | int i =>
    have hi := of_decide_eq_true (show decide (-1000000000 ≤ i ∧ i ≤ 1000000000) = true from hv)
    cases d with
    | false => exact (Sm.tup (SmL.cons (Sm.int (i := 1) (by decide)) (SmL.cons (Sm.int (i := i) (by omega)) SmL.nil))).mono (by decide) (by decide)
    | true => exact (Sm.tup (SmL.cons (Sm.int (i := -1) (by decide)) (SmL.cons (Sm.int (i := -i) (by omega)) SmL.nil))).mono (by decide) (by decide)
  | str x =>
    have gx : GS 40 x := asc_gs hv
    cases d with
    | false => exact (Sm.tup (SmL.cons (Sm.int (i := 2) (by decide)) (SmL.cons (Sm.str gx) SmL.nil))).mono (by decide) (by decide)
    | true =>
      have h1 : SmL 0 (((tl x).map (fun c : Nat => D.int (-(c : Int))) ++ [D.int 1]).length * 41) ((tl x).map (fun c : Nat => D.int (-(c : Int))) ++ [D.int 1]) := SmL.all fun y hy => by
        rcases List.mem_append.mp hy with hy | hy
        · obtain ⟨c, hc, rfl⟩ := List.mem_map.mp hy
          have := gx.2 c hc
          exact Sm.int (by omega)
        · rw [List.mem_singleton.mp hy]
          exact Sm.int (by decide)
      have l1 : ((tl x).map (fun c : Nat => D.int (-(c : Int))) ++ [D.int 1]).length * 41 ≤ 41 * 41 := Nat.mul_le_mul_right _ (by have h : x.cps.size ≤ 40 := gx.1; simp; omega)
      exact (Sm.tup (SmL.cons ((Sm.int (i := -2) (by decide)).mono (Nat.zero_le 1) (Nat.le_refl _)) (SmL.cons (Sm.tup (h1.mono (Nat.le_refl _) l1)) (SmL.nil.mono (Nat.zero_le 1) (Nat.le_refl _))))).mono (by decide) (by decide)
  | _ => cases hv
theorem codes_eqv : ∀ as bs : List Nat, PyData.eqvAll (as.map (fun c : Nat => PyData.int (-(c : Int))) ++ [.int 1]) (bs.map (fun c : Nat => PyData.int (-(c : Int))) ++ [.int 1]) = decide (as = bs)
  | [], [] => by simp [PyData.eqvAll, PyData.eqv]
  | [], b :: bs => by
    have : ¬ (1 : Int) = -(b : Int) := by omega
    simp [PyData.eqvAll, PyData.eqv, this]
  | a :: as, [] => by
    have : ¬ -(a : Int) = (1 : Int) := by omega
    simp [PyData.eqvAll, PyData.eqv, this]
  | a :: as, b :: bs => by
    have ih := codes_eqv as bs
    have e : (-(a : Int) == -(b : Int)) = decide (a = b) := by
      by_cases z : a = b
      · simp [z]
      · have : ¬ -(a : Int) = -(b : Int) := by omega
        simp [z, this]
    simp only [List.map_cons, List.cons_append, PyData.eqvAll, PyData.eqv, ih, e]
    by_cases z : a = b <;> simp [z]
theorem codes_lt : ∀ as bs : List Nat, pyLtL (as.map (fun c : Nat => PyData.int (-(c : Int))) ++ [.int 1]) (bs.map (fun c : Nat => PyData.int (-(c : Int))) ++ [.int 1]) = some (decide (bs < as))
  | [], [] => by simp [pyLtL, PyData.eqv]
  | [], b :: bs => by
    have h1 : ¬ (1 : Int) = -(b : Int) := by omega
    have h2 : ¬ (1 : Int) < -(b : Int) := by omega
    simp [pyLtL, PyData.eqv, h1, pyLt, h2]
  | a :: as, [] => by
    have h1 : ¬ -(a : Int) = (1 : Int) := by omega
    have h2 : -(a : Int) < (1 : Int) := by omega
    simp [pyLtL, PyData.eqv, h1, pyLt, h2]
  | a :: as, b :: bs => by
    have ih := codes_lt as bs
    simp only [List.map_cons, List.cons_append, pyLtL, PyData.eqv]
    by_cases z : a = b
    · subst z
      simp [ih, List.cons_lt_cons_iff]
    · have h1 : ¬ -(a : Int) = -(b : Int) := by omega
      have h2 : (-(a : Int) < -(b : Int)) ↔ b < a := by omega
      have h3 : ¬ b = a := fun y => z y.symm
      simp [h1, pyLt, h2, List.cons_lt_cons_iff, h3]
theorem pl_eqv {v u : D} (hv : pvB v = true) (hu : pvB u = true) (d : Bool) : PyData.eqv (plP v d) (plP u d) = vEq v u := by
  cases v <;> cases u <;> first
    | (cases hv; done)
    | (cases hu; done)
    | skip
  · cases d <;> simp [plP, PyData.eqv, PyData.eqvAll, vEq]
  · cases d <;> simp [plP, PyData.eqv, PyData.eqvAll, vEq]
  · cases d <;> simp [plP, PyData.eqv, PyData.eqvAll, vEq]
  · cases d <;> simp [plP, PyData.eqv, PyData.eqvAll, vEq]
  · rename_i i j
    cases d with
    | false => simp [plP, PyData.eqv, PyData.eqvAll, vEq]
    | true =>
      simp [plP, PyData.eqv, PyData.eqvAll, vEq]
      by_cases z : i = j
      · simp [z]
      · have : ¬ -i = -j := by omega
        rw [show (-i == -j) = false from beq_eq_false_iff_ne.mpr this, show (i == j) = false from beq_eq_false_iff_ne.mpr z]
  · cases d <;> simp [plP, PyData.eqv, PyData.eqvAll, vEq]
  · cases d <;> simp [plP, PyData.eqv, PyData.eqvAll, vEq]
  · cases d <;> simp [plP, PyData.eqv, PyData.eqvAll, vEq]
  · rename_i x y
    cases d with
    | false => simp [plP, PyData.eqv, PyData.eqvAll, vEq]
    | true =>
      have ce := codes_eqv (tl x) (tl y)
      simp [plP, PyData.eqv, PyData.eqvAll, vEq]
      rw [ce]
      by_cases z : x = y
      · simp [z]
      · have : ¬ tl x = tl y := fun q => z (ext_tl q)
        simp [z, this]
theorem pl_lt {v u : D} (hv : pvB v = true) (hu : pvB u = true) (d : Bool) (ne : vEq v u = false) : pyLt (plP v d) (plP u d) = some (decide (cmpV v u < 0) != d) := by
  cases v <;> cases u <;> first
    | (cases hv; done)
    | (cases hu; done)
    | skip
  · cases ne
  · cases d <;> simp [plP, pyLt, pyLtL, PyData.eqv, cmpV, vEq, kindP]
  · cases d <;> simp [plP, pyLt, pyLtL, PyData.eqv, cmpV, vEq, kindP]
  · cases d <;> simp [plP, pyLt, pyLtL, PyData.eqv, cmpV, vEq, kindP]
  · rename_i i j
    have z : ¬ i = j := by simpa [vEq] using ne
    cases d with
    | false => by_cases l : i < j <;> simp [plP, pyLt, pyLtL, PyData.eqv, cmpV, vEq, kindP, vLt, z, l]
    | true =>
      have z' : ¬ -i = -j := by omega
      by_cases l : i < j
      · have l' : ¬ -i < -j := by omega
        simp [plP, pyLt, pyLtL, PyData.eqv, cmpV, vEq, kindP, vLt, z, z', l, l']
      · have l' : -i < -j := by omega
        simp [plP, pyLt, pyLtL, PyData.eqv, cmpV, vEq, kindP, vLt, z, z', l, l']
  · cases d <;> simp [plP, pyLt, pyLtL, PyData.eqv, cmpV, vEq, kindP]
  · cases d <;> simp [plP, pyLt, pyLtL, PyData.eqv, cmpV, vEq, kindP]
  · cases d <;> simp [plP, pyLt, pyLtL, PyData.eqv, cmpV, vEq, kindP]
  · rename_i x y
    have z : ¬ x = y := by simpa [vEq] using ne
    have zt : ¬ tl x = tl y := fun q => z (ext_tl q)
    cases d with
    | false => by_cases l : tl x < tl y <;> simp [plP, pyLt, pyLtL, PyData.eqv, cmpV, vEq, kindP, vLt, z, l, show x.cps.toList = tl x from rfl, show y.cps.toList = tl y from rfl]
    | true =>
      have ce := codes_eqv (tl x) (tl y)
      have cl := codes_lt (tl x) (tl y)
      have tri : tl x < tl y ↔ ¬ tl y < tl x := ⟨fun a b => absurd b (List.lt_asymm a), fun h => (by
        rcases Classical.em (tl x < tl y) with q | q
        · exact q
        · exact absurd (List.le_antisymm (List.not_lt.mp h) (List.not_lt.mp q)) zt)⟩
      by_cases l : tl x < tl y
      · have l' := tri.mp l
        simp [plP, pyLt, pyLtL, PyData.eqv, cmpV, vEq, kindP, vLt, z, l, ce, zt, cl, l']
      · have l' : tl y < tl x := Classical.byContradiction fun q => l (tri.mpr q)
        simp [plP, pyLt, pyLtL, PyData.eqv, cmpV, vEq, kindP, vLt, z, l, ce, zt, cl, l']
def sgn : List (Bool × D × D) → Int → Int → Int
  | [], i, j => (if j < i then 1 else 0) - (if i < j then 1 else 0)
  | (d, a, b) :: r, i, j => if vEq a b = true then sgn r i j else if (decide (cmpV a b < 0) == d) = true then 1 else -1
def tri (ks ls : List D) (o : List (Nat × Bool)) : List (Bool × D × D) := ((ks.zip ls).zip o).map fun x => (x.2.2, x.1.1, x.1.2)
theorem tri_cons (a b : D) (ks ls : List D) (p : Nat × Bool) (o : List (Nat × Bool)) : tri (a :: ks) (b :: ls) (p :: o) = (p.2, a, b) :: tri ks ls o := rfl
def plL (ks : List D) (o : List (Nat × Bool)) : List PyData := (ks.zip o).map fun x => plP x.1 x.2.2
theorem plL_cons (a : D) (ks : List D) (p : Nat × Bool) (o : List (Nat × Bool)) : plL (a :: ks) (p :: o) = plP a p.2 :: plL ks o := rfl
theorem sgn_eqv : ∀ {ks ls : List D} {o : List (Nat × Bool)} (i j : Int), ks.length = o.length → ls.length = o.length → (∀ v ∈ ks, pvB v = true) → (∀ v ∈ ls, pvB v = true) →
    PyData.eqvAll (plL ks o ++ [.int i]) (plL ls o ++ [.int j]) = decide (sgn (tri ks ls o) i j = 0) ∧
    (sgn (tri ks ls o) i j ≠ 0 → pyLtL (plL ks o ++ [.int i]) (plL ls o ++ [.int j]) = some (decide (sgn (tri ks ls o) i j = -1))) ∧ (sgn (tri ks ls o) i j = 0 ∨ sgn (tri ks ls o) i j = 1 ∨ sgn (tri ks ls o) i j = -1)
  | [], [], [], i, j, _, _, _, _ => by
    show PyData.eqvAll [.int i] [.int j] = decide (sgn [] i j = 0) ∧ (sgn [] i j ≠ 0 → pyLtL [.int i] [.int j] = some (decide (sgn [] i j = -1))) ∧ (sgn [] i j = 0 ∨ sgn [] i j = 1 ∨ sgn [] i j = -1)
    by_cases e : i = j
    · subst e
      simp [sgn, PyData.eqvAll, PyData.eqv]
    · by_cases l : i < j
      · have l2 : ¬ j < i := by omega
        simp [sgn, PyData.eqvAll, PyData.eqv, pyLtL, pyLt, e, l, l2]
      · have l2 : j < i := by omega
        simp [sgn, PyData.eqvAll, PyData.eqv, pyLtL, pyLt, e, l, l2]
  | a :: ks, b :: ls, p :: o, i, j, h1, h2, hk, hl => by
    obtain ⟨g1, g2, g3⟩ := sgn_eqv (ks := ks) (ls := ls) (o := o) i j (Nat.succ.inj h1) (Nat.succ.inj h2) (fun v hv => hk v (List.mem_cons_of_mem _ hv)) fun v hv => hl v (List.mem_cons_of_mem _ hv)
    have ha := hk a List.mem_cons_self
    have hb := hl b List.mem_cons_self
    have e1 := pl_eqv ha hb p.2
    rw [tri_cons, plL_cons, plL_cons, List.cons_append, List.cons_append]
    by_cases e : vEq a b = true
    · have s : sgn ((p.2, a, b) :: tri ks ls o) i j = sgn (tri ks ls o) i j := if_pos e
      rw [s, PyData.eqvAll, e1, e, g1, pyLtL_cons, e1, if_pos e]
      exact ⟨Bool.true_and _, g2, g3⟩
    · simp only [Bool.not_eq_true] at e
      have e2 := pl_lt ha hb p.2 e
      have s : sgn ((p.2, a, b) :: tri ks ls o) i j = if (decide (cmpV a b < 0) == p.2) = true then 1 else -1 := if_neg (by rw [e]; exact Bool.false_ne_true)
      rw [s, PyData.eqvAll, e1, e, pyLtL_cons, e1, e, if_neg Bool.false_ne_true, e2]
      cases q : decide (cmpV a b < 0) <;> cases p.2 <;> simp
  | [], [], _ :: _, _, _, h, _, _, _ => by cases h
  | [], _ :: _, [], _, _, _, h, _, _ => by cases h
  | [], _ :: _, _ :: _, _, _, h, _, _, _ => by cases h
  | _ :: _, [], [], _, _, h, _, _, _ => by cases h
  | _ :: _, [], _ :: _, _, _, _, h, _, _ => by cases h
  | _ :: _, _ :: _, [], _, _, h, _, _, _ => by cases h
structure KOk (o : List (Nat × Bool)) (ks : List D) (i : Int) : Prop where
  l : ks.length = o.length
  v : ∀ v ∈ ks, pvB v = true
  i0 : -1000000 ≤ i
  i1 : i ≤ 1000000
theorem kp_py {o : List (Nat × Bool)} {ks : List D} {i : Int} (k : KOk o ks i) : toPy (kpD ks o i) = some (.tuple (plL ks o ++ [.int i])) := by
  have h : ∀ l : List (D × Nat × Bool), (∀ x ∈ l, pvB x.1 = true) → toPyL (l.map fun x => plD x.1 x.2.2) = some (l.map fun x => plP x.1 x.2.2) := by
    intro l
    induction l with
    | nil => intro _; rfl
    | cons x l ih =>
      intro hh
      show ((toPy (plD x.1 x.2.2)).bind fun p => (toPyL (l.map fun x => plD x.1 x.2.2)).map fun q => p :: q) = _
      rw [pl_py (hh x List.mem_cons_self), ih fun y hy => hh y (List.mem_cons_of_mem _ hy)]
      rfl
  have h1 := toPyL_app (h (ks.zip o) fun x hx => k.v x.1 (List.of_mem_zip hx).1) (show toPyL [.int i] = some [.int i] from rfl)
  show (toPyL _).map PyData.tuple = _
  rw [h1]; rfl
theorem kp_sm {o : List (Nat × Bool)} {ks : List D} {i : Int} (k : KOk o ks i) (ol : o.length ≤ 4) : Sm 3 20000 (kpD ks o i) := by
  have h1 : SmL 2 (((ks.zip o).map (fun x => plD x.1 x.2.2) ++ [D.int i]).length * 3001) ((ks.zip o).map (fun x => plD x.1 x.2.2) ++ [D.int i]) := SmL.all fun y hy => by
    rcases List.mem_append.mp hy with hy | hy
    · obtain ⟨x, hx, rfl⟩ := List.mem_map.mp hy
      exact pl_sm (k.v x.1 (List.of_mem_zip hx).1) x.2.2
    · rw [List.mem_singleton.mp hy]
      exact (Sm.int (by have := k.i0; have := k.i1; omega)).mono (by decide) (by decide)
  have hz : ((ks.zip o).map (fun x => plD x.1 x.2.2) ++ [D.int i]).length ≤ 5 := by simp; omega
  exact (Sm.tup h1).mono (by decide) (Nat.le_trans (Nat.mul_le_mul_right _ hz) (by decide))
theorem kp_shaped {o : List (Nat × Bool)} {ks : List D} {i : Int} (k : KOk o ks i) (ol : o.length ≤ 4) : SeqAt.shaped (.tuple (plL ks o ++ [.int i])) = true := by
  obtain ⟨p, h1, h2⟩ := (kp_sm k ol).shaped (by decide)
  rw [kp_py k] at h1
  cases h1
  exact h2
theorem compare_places_ok {o : List (Nat × Bool)} {ks ls : List D} {i j : Int} (k : KOk o ks i) (l : KOk o ls j) (ol : o.length ≤ 4) (st : Store) : m_compare_places [kpD ks o i, kpD ls o j] st = some (.int (sgn (tri ks ls o) i j), st) := by
  obtain ⟨g1, g2, g3⟩ := sgn_eqv i j k.l l.l k.v l.v
  have s1 := kp_shaped k ol
  have s2 := kp_shaped l ol
  have q1 : opEq (kpD ks o i) (kpD ls o j) = some (.bl (decide (sgn (tri ks ls o) i j = 0))) := by
    simp only [opEq, kp_py k, kp_py l, Option.bind_some, s1, s2, and_self, if_true]
    rw [PyData.eqv, g1]
  by_cases e : sgn (tri ks ls o) i j = 0
  · simp [m_compare_places, g_compare_places, q1, e]
  · have q2 : ltN (kpD ks o i) (kpD ls o j) = some (.bl (decide (sgn (tri ks ls o) i j = -1))) := by
      simp only [ltN, kp_py k, kp_py l, Option.bind_some, s1, s2, and_self, if_true, pyLt_tup, g2 e, Option.map_some]
    rcases g3 with g3 | g3 | g3
    · exact absurd g3 e
    · simp [m_compare_places, g_compare_places, q1, q2, g3]
    · simp [m_compare_places, g_compare_places, q1, q2, g3]
theorem rk_ne {v u : D} (hv : pvB v = true) (hu : pvB u = true) : opNe (rkD v) (rkD u) = some (.bl (!vEq v u)) := by
  simp [opNe, rk_py hv, rk_py hu, rk_shaped hv, rk_shaped hu, rk_eqv hv hu]
noncomputable abbrev bSign : FS := (sSeq (sPar (par2 5 6) (aCons (fCall m__law_rank (aCons (fSub (fVar 1) (fVar 3)) aNil)) (aCons (fCall m__law_rank (aCons (fSub (fVar 2) (fVar 3)) aNil)) aNil))) (sIf (fTest (fOp opNe (fVar 5) (fVar 6))) (sRet (fIfE (fTest (fOp opEq (fOp opLtD (fVar 5) (fVar 6)) (fSub (fVar 4) (fC (.int 1))))) (fC (.int 1)) (fOp subI (fC (.int 0)) (fC (.int 1))))) sNil))
theorem opEq_bl (a b : Bool) : opEq (.bl a) (.bl b) = some (.bl (a == b)) := by cases a <;> cases b <;> rfl
theorem sign_loop {view : Option D} {K L : List D} {i j : Int} {st : Store} : ∀ {ks ls : List D} {o : List (Nat × Bool)} (n : Nat) (x3 x4 x5 x6 : Option D), ks.length = o.length → ls.length = o.length → (∀ v ∈ ks, pvB v = true) → (∀ v ∈ ls, pvB v = true) → K.drop n = ks ++ [.int i] → L.drop n = ls ++ [.int j] →
    ∃ y3 y4 y5 y6, loopS (gT 2 (gCons' (gN 3) (gCons' (gN 4) gNil'))) bSign (pairUp n (vOrd o)) [view, some (.tup K), some (.tup L), x3, x4, x5, x6] st = some (if (∀ x ∈ tri ks ls o, vEq x.2.1 x.2.2 = true) then .nx else .rt (.int (sgn (tri ks ls o) i j)), [view, some (.tup K), some (.tup L), y3, y4, y5, y6], st)
  | [], [], [], n, x3, x4, x5, x6, _, _, _, _, _, _ => ⟨x3, x4, x5, x6, by
    have : ∀ x ∈ tri [] [] [], vEq x.2.1 x.2.2 = true := fun x hx => by simp [tri] at hx
    rw [if_pos this]; rfl⟩
  | a :: ks, b :: ls, p :: o, n, x3, x4, x5, x6, h1, h2, hk, hl, dK, dL => by
    have ha := hk a List.mem_cons_self
    have hb := hl b List.mem_cons_self
    have aK : L2.atI K (n : Int) = some a := atI_nat (j := n) (by
      have := List.getElem?_drop (xs := K) (i := n) (j := 0)
      rw [dK] at this
      simpa using this.symm)
    have aL : L2.atI L (n : Int) = some b := atI_nat (j := n) (by
      have := List.getElem?_drop (xs := L) (i := n) (j := 0)
      rw [dL] at this
      simpa using this.symm)
    have step : (gT 2 (gCons' (gN 3) (gCons' (gN 4) gNil'))) (.tup [.int (n : Int), .tup [.int p.1, .bl p.2]]) [view, some (.tup K), some (.tup L), x3, x4, x5, x6] = some [view, some (.tup K), some (.tup L), some (.int n), some (.tup [.int p.1, .bl p.2]), x5, x6] := by simp
    have pu : pairUp n (vOrd (p :: o)) = .tup [.int (n : Int), .tup [.int p.1, .bl p.2]] :: pairUp (n + 1) (vOrd o) := rfl
    by_cases e : vEq a b = true
    · obtain ⟨y3, y4, y5, y6, ih⟩ := sign_loop (view := view) (K := K) (L := L) (i := i) (j := j) (st := st) (ks := ks) (ls := ls) (o := o) (n + 1) (some (.int n)) (some (.tup [.int p.1, .bl p.2])) (some (rkD a)) (some (rkD b)) (Nat.succ.inj h1) (Nat.succ.inj h2) (fun v hv => hk v (List.mem_cons_of_mem _ hv)) (fun v hv => hl v (List.mem_cons_of_mem _ hv)) (by rw [← List.drop_drop, dK]; rfl) (by rw [← List.drop_drop, dL]; rfl)
      have body : bSign [view, some (.tup K), some (.tup L), some (.int n), some (.tup [.int p.1, .bl p.2]), x5, x6] st = some (.nx, [view, some (.tup K), some (.tup L), some (.int n), some (.tup [.int p.1, .bl p.2]), some (rkD a), some (rkD b)], st) := by
        simp [aK, aL, rank_ok ha, rank_ok hb, rk_ne ha hb, e]
      refine ⟨y3, y4, y5, y6, ?_⟩
      rw [pu, loopS, step, Option.bind_some, body, Option.bind_some]
      simp only []
      rw [ih, tri_cons]
      have s : sgn ((p.2, a, b) :: tri ks ls o) i j = sgn (tri ks ls o) i j := if_pos e
      rw [s]
      have q : (∀ x ∈ (p.2, a, b) :: tri ks ls o, vEq x.2.1 x.2.2 = true) ↔ ∀ x ∈ tri ks ls o, vEq x.2.1 x.2.2 = true := ⟨fun h x hx => h x (List.mem_cons_of_mem _ hx), fun h x hx => (List.mem_cons.mp hx).elim (fun y => by rw [y]; exact e) (h x)⟩
      simp only [q]
    · simp only [Bool.not_eq_true] at e
      have lt := rk_lt ha hb
      have body : bSign [view, some (.tup K), some (.tup L), some (.int n), some (.tup [.int p.1, .bl p.2]), x5, x6] st = some (.rt (.int (if (decide (cmpV a b < 0) == p.2) = true then 1 else -1)), [view, some (.tup K), some (.tup L), some (.int n), some (.tup [.int p.1, .bl p.2]), some (rkD a), some (rkD b)], st) := by
        cases q : (decide (cmpV a b < 0) == p.2) <;> simp [aK, aL, rank_ok ha, rank_ok hb, rk_ne ha hb, e, lt, ix1, opEq_bl, q]
      refine ⟨some (.int n), some (.tup [.int p.1, .bl p.2]), some (rkD a), some (rkD b), ?_⟩
      rw [pu, loopS, step, Option.bind_some, body, Option.bind_some]
      simp only []
      have s : sgn (tri (a :: ks) (b :: ls) (p :: o)) i j = if (decide (cmpV a b < 0) == p.2) = true then 1 else -1 := if_neg (by rw [e]; exact Bool.false_ne_true)
      have nq : ¬ ∀ x ∈ tri (a :: ks) (b :: ls) (p :: o), vEq x.2.1 x.2.2 = true := fun h => by
        have := h (p.2, a, b) List.mem_cons_self
        rw [e] at this
        cases this
      rw [if_neg nq, s]
  | [], [], _ :: _, _, _, _, _, _, h, _, _, _, _, _ => by cases h
  | [], _ :: _, [], _, _, _, _, _, _, h, _, _, _, _ => by cases h
  | [], _ :: _, _ :: _, _, _, _, _, _, h, _, _, _, _, _ => by cases h
  | _ :: _, [], [], _, _, _, _, _, h, _, _, _, _, _ => by cases h
  | _ :: _, [], _ :: _, _, _, _, _, _, _, h, _, _, _, _ => by cases h
  | _ :: _, _ :: _, [], _, _, _, _, _, h, _, _, _, _, _ => by cases h
theorem sgn_all : ∀ {l : List (Bool × D × D)} {i j : Int}, (∀ x ∈ l, vEq x.2.1 x.2.2 = true) → sgn l i j = (if j < i then 1 else 0) - (if i < j then 1 else 0)
  | [], _, _, _ => rfl
  | x :: l, i, j, h => by
    obtain ⟨d, a, b⟩ := x
    have e : vEq a b = true := h (d, a, b) List.mem_cons_self
    rw [sgn, if_pos e]
    exact sgn_all fun y hy => h y (List.mem_cons_of_mem _ hy)
theorem sign_ok {xv : D} {yv : D} {o : List (Nat × Bool)} {ks ls : List D} {i j : Int} (k : KOk o ks i) (l : KOk o ls j) (st : Store) : m__law_sign [vX xv o yv, KD ks i, KD ls j] st = some (.int (sgn (tri ks ls o) i j), st) := by
  obtain ⟨y3, y4, y5, y6, h⟩ := sign_loop (view := some (vX xv o yv)) (K := ks ++ [.int i]) (L := ls ++ [.int j]) (i := i) (j := j) (st := st) 0 none none none none k.l l.l k.v l.v rfl rfl
  have q1 : (iOfA asEnT (aCons (fSub (fVar 0) (fC (.int 1))) aNil)) [some (vX xv o yv), some (KD ks i), some (KD ls j), none, none, none, none] st = some (pairUp 0 (vOrd o), st) := by
    simp [vX, ix1, asEnT]
  rw [show m__law_sign [vX xv o yv, KD ks i, KD ls j] st = outM (g__law_sign [some (vX xv o yv), some (KD ks i), some (KD ls j), none, none, none, none] st) from rfl, g__law_sign]
  by_cases e : ∀ x ∈ tri ks ls o, vEq x.2.1 x.2.2 = true
  · rw [if_pos e] at h
    rw [seq_step ((for_step q1).trans h), sgn_all e]
    have la := last_at ks i
    have lb := last_at ls j
    by_cases h1 : j < i <;> by_cases h2 : i < j <;> simp [la, lb, DL.subB, h1, h2]
  · rw [if_neg e] at h
    rw [seq_ret ((for_step q1).trans h)]
    rfl
theorem opNe_bl (a b : Bool) : opNe (.bl a) (.bl b) = some (.bl (!(a == b))) := by cases a <;> cases b <;> rfl
theorem cutLast {us : List D} {m : Nat} (h : us.length = m + 1) : DL.cutD us none (some (-1)) = us.take m := by
  have e : HT.sIx us.length us.length (some (-1)) = m := by
    unfold HT.sIx
    simp only []
    rw [if_pos (by decide)]; omega
  unfold DL.cutD
  rw [HT.sIx_none, e]
  simp
theorem atLast {us : List D} {m : Nat} (h : us.length = m + 1) : L2.atI us (-1) = some (atV us m) := by
  have hm : m < us.length := by omega
  unfold L2.atI
  have : ixN us.length (-1) = some m := by
    simp [ixN]
    omega
  simp [this, atV, List.getElem?_eq_getElem hm]
def keyB (m : Nat) : D → Bool | .tup us => decide (us.length = m + 1) && ((us.take m).all valB && rngB 1 1000000 (atV us m)) | _ => false
def markB (m : Nat) : D → Bool
  | .tup [a] => isK "start" a || isK "end" a
  | .tup [a, k] => (isK "before" a || isK "after" a) && keyB m k
  | _ => false
theorem rng_int {a b : Int} {d : D} (h : isInt d = false) : rngB a b d = false := by cases d <;> first | rfl | (cases h; done)
theorem rowid_ok {d : D} (h : okw d) (st : Store) : m_is_row_id [d] st = some (.bl (rngB 1 1000000 d), st) := by
  have k := int_ok h st
  cases d with
  | int i =>
    by_cases q : 1 ≤ i
    · simp [m_is_row_id, g_is_row_id, k, isInt, q, rngB]
    · simp [m_is_row_id, g_is_row_id, k, isInt, q, rngB]
  | scr _ => cases h.1
  | ref _ => cases h.1
  | _ => simp [m_is_row_id, g_is_row_id, k, isInt, rngB]
theorem ix1v (xv : D) (o : List (Nat × Bool)) (yv : D) : L2.atI [xv, .tup (vOrd o), yv] 1 = some (.tup (vOrd o)) := ix1
theorem len_ord (o : List (Nat × Bool)) : (vOrd o).length = o.length := by simp [vOrd]
theorem is_key_ok {xv : D} {o : List (Nat × Bool)} {yv : D} {d : D} (h : okw d) (st : Store) : m_is_key [vX xv o yv, d] st = some (.bl (keyB o.length d), st) := by
  cases d with
  | tup us =>
    by_cases q : us.length = o.length + 1
    · have c1 := cutLast q
      have a1 := atLast q
      have hm : ∀ u ∈ us.take o.length, okw u := fun u hu => h.mem (List.mem_of_mem_take hu)
      have hv : okw (atV us o.length) := h.mem (mem_val (by omega))
      have lp := map_loop (is := [2]) (f := fCall m_is_value (aCons (fVar 2) aNil)) (env := [some (vX xv o yv), some (.tup us), none]) (st := st) (g := valB) (us := us.take o.length) (fun u hu => by simp [isval_ok (hm u hu)])
      have z : (us.take o.length).length ≤ sizeLine := Nat.le_trans (by rw [List.length_take]; omega) h.len
      have ba := bools_map ((us.take o.length).map valB)
      have al := all_id valB (us.take o.length)
      have ri := rowid_ok hv st
      have q2 : ((us.length : Int) == (o.length : Int) + 1) = true := by simp; omega
      have kb : keyB o.length (.tup us) = ((us.take o.length).all valB && rngB 1 1000000 (atV us o.length)) := by simp [keyB, q]
      rw [kb]
      clear kb hm
      generalize us.take o.length = ts at *
      simp only [vX] at lp ⊢
      simp [m_is_key, g_is_key, tyD, isiB, ix1v, len_ord, opNe_int, q2, slD, c1, a1]
      simp at lp z ba al
      by_cases qq : ∀ x ∈ ts, valB x = true
      · rw [show ts.all valB = true from List.all_eq_true.mpr qq]
        simp [lp, z, bAll, ba, ri]
        rw [if_pos qq]; simp
      · rw [show ts.all valB = false from Bool.eq_false_iff.mpr fun e => qq (List.all_eq_true.mp e)]
        simp [lp, z, bAll, ba, ri]
        rw [if_neg qq]; simp
    · have q2 : ((us.length : Int) == (o.length : Int) + 1) = false := by simp; omega
      simp only [vX]
      simp [m_is_key, g_is_key, tyD, isiB, ix1v, len_ord, opNe_int, q2, keyB, q]
  | scr _ => cases h.1
  | ref _ => cases h.1
  | _ => simp [m_is_key, g_is_key, tyD, isiB, keyB]
theorem k_ne {a b : String} (h : (Str.ofString a == Str.ofString b) = false) {d : D} (e : isK a d = true) : isK b d = false := by
  cases d with
  | str x =>
    have z : x = Str.ofString a := by simpa [isK] using e
    subst z
    exact h
  | _ => cases e
theorem k4 {d : D} (e : (isK "start" d || isK "end" d) = true) : (isK "before" d || isK "after" d) = false := by
  rcases Bool.or_eq_true_iff.mp e with e | e
  · rw [k_ne (b := "before") (by decide +kernel) e, k_ne (b := "after") (by decide +kernel) e]; rfl
  · rw [k_ne (b := "before") (by decide +kernel) e, k_ne (b := "after") (by decide +kernel) e]; rfl
theorem is_mark_ok {xv : D} {o : List (Nat × Bool)} {yv : D} {d : D} (h : okw d) (st : Store) : m_is_mark [vX xv o yv, d] st = some (.bl (markB o.length d), st) := by
  cases d with
  | tup us =>
    cases us with
    | nil => simp [m_is_mark, g_is_mark, tyD, isiB, opEq_int, markB]
    | cons a r =>
      have oa : okw a := h.mem List.mem_cons_self
      have i1 := inA_k oa.1 "start" "end"
      have i2 := inA_k oa.1 "before" "after"
      have l0 : (((r.length : Int) + 1) == 0) = false := by simp; omega
      cases q : (isK "start" a || isK "end" a) with
      | true =>
        have q' := k4 q
        rw [q] at i1
        have mk : markB o.length (.tup (a :: r)) = decide (r.length = 0) := by
          cases r with
          | nil => exact q
          | cons b r => cases r with
            | nil => simp [markB, q']
            | cons _ _ => rfl
        have l1 : (((r.length : Int) + 1) == 1) = decide (r.length = 0) := by
          by_cases z : r.length = 0
          · simp [z]
          · simp [z]; omega
        simp [m_is_mark, g_is_mark, tyD, isiB, opEq_int, l0, ix0, i1, mk, l1]
      | false =>
        rw [q] at i1
        cases q2 : (isK "before" a || isK "after" a) with
        | false =>
          rw [q2] at i2
          have mk : markB o.length (.tup (a :: r)) = false := by
            cases r with
            | nil => exact q
            | cons b r => cases r with
              | nil => simp [markB, q2]
              | cons _ _ => rfl
          simp [m_is_mark, g_is_mark, tyD, isiB, opEq_int, l0, ix0, i1, i2, mk]
        | true =>
          rw [q2] at i2
          by_cases l2 : r.length = 1
          · cases r with
            | nil => cases l2
            | cons b r =>
              cases r with
              | cons _ _ => simp at l2
              | nil =>
                have ob : okw b := h.mem (by simp)
                have ik := is_key_ok (xv := xv) (o := o) (yv := yv) ob st
                simp [m_is_mark, g_is_mark, tyD, isiB, opEq_int, ix0, ix1, i1, i2, ik, markB, q2]
          · have l3 : (((r.length : Int) + 1) == 2) = false := by simp; omega
            have mk : markB o.length (.tup (a :: r)) = false := by
              cases r with
              | nil => exact q
              | cons b r => cases r with
                | nil => simp at l2
                | cons _ _ => rfl
            simp [m_is_mark, g_is_mark, tyD, isiB, opEq_int, l0, ix0, i1, i2, l3, mk]
  | scr _ => cases h.1
  | ref _ => cases h.1
  | _ => simp [m_is_mark, g_is_mark, tyD, isiB, markB]
theorem noFalse (l : List Bool) : inSeq true (.bl false) (.lst (l.map .bl)) = some (.bl (l.all id)) := by
  have key : ∀ l : List Bool, anyF (.bl false) (l.map .bl) = some (!(l.all id)) := by
    intro l
    induction l with
    | nil => rfl
    | cons b l ih => cases b <;> simp [anyF, eqF, ih]
  have := key l
  simp only [inSeq, flatD, if_true, this, Option.map_some, Bool.not_not]
theorem in2 (neg : Bool) (a b : String) (x : Str) : inSeq neg (.str x) (.tup [.str (Str.ofString a), .str (Str.ofString b)]) = some (.bl (if neg = true then !(isK a (.str x) || isK b (.str x)) else (isK a (.str x) || isK b (.str x)))) := by
  have e : ∀ s : String, (Str.ofString s == x) = isK s (.str x) := fun s => by rw [isK_str]; exact Bool.beq_comm
  cases neg <;> simp [inSeq, flatD, anyF, eqF, e]
theorem len12 (k : Nat) : inSeq true (.int k) (.tup [.int 1, .int 2]) = some (.bl (!(decide (k = 1) || decide (k = 2)))) := by
  have e1 : ((1 : Int) == (k : Int)) = decide (k = 1) := by by_cases z : k = 1 <;> simp [z] <;> omega
  have e2 : ((2 : Int) == (k : Int)) = decide (k = 2) := by by_cases z : k = 2 <;> simp [z] <;> omega
  simp [inSeq, flatD, anyF, eqF, e1, e2]
theorem str_or {a : D} (h : okw a) : (∃ x, a = .str x) ∨ (tyD a [] = tyD a [] ∧ ∀ s, isK s a = false) := by
  cases a <;> first | exact .inl ⟨_, rfl⟩ | exact .inr ⟨rfl, fun _ => rfl⟩
theorem vEq_eq {a b : D} (ha : pvB a = true) (hb : pvB b = true) (e : vEq a b = true) : a = b := by
  cases a <;> cases b <;> first
    | rfl
    | (cases ha; done)
    | (cases hb; done)
    | (cases e; done)
    | (simp only [vEq] at e; rw [eq_of_beq e])
theorem vEq_self {a : D} (ha : pvB a = true) : vEq a a = true := by
  cases a <;> first
    | rfl
    | (cases ha; done)
    | exact beq_self_eq_true _
def lo : D → D → Bool
  | .non, .non => false
  | .non, _ => true
  | .int i, .int j => decide (i < j)
  | .int _, .str _ => true
  | .str x, .str y => decide (tl x < tl y)
  | _, _ => false
theorem cmp_lo {a b : D} (ha : pvB a = true) (hb : pvB b = true) (ne : vEq a b = false) : decide (cmpV a b < 0) = lo a b := by
  cases a <;> cases b <;> first
    | (cases ha; done)
    | (cases hb; done)
    | (cases ne; done)
    | skip
  · simp [cmpV, vEq, kindP, lo]
  · simp [cmpV, vEq, kindP, lo]
  · simp [cmpV, vEq, kindP, lo]
  · rename_i i j
    have z : ¬ i = j := by simpa [vEq] using ne
    by_cases l : i < j <;> simp [cmpV, vEq, kindP, vLt, z, l, lo]
  · simp [cmpV, vEq, kindP, lo]
  · simp [cmpV, vEq, kindP, lo]
  · simp [cmpV, vEq, kindP, lo]
  · rename_i x y
    have z : ¬ x = y := by simpa [vEq] using ne
    by_cases l : tl x < tl y <;> simp [cmpV, vEq, kindP, vLt, z, l, lo]
theorem lo_trans {a b c : D} (h1 : lo a b = true) (h2 : lo b c = true) : lo a c = true := by
  cases a <;> cases b <;> first
    | (cases h1; done)
    | skip
  all_goals (cases c <;> first
    | (cases h2; done)
    | rfl
    | skip)
  · have h1 := of_decide_eq_true h1
    have h2 := of_decide_eq_true h2
    exact decide_eq_true (by omega)
  · have h1 := of_decide_eq_true h1
    have h2 := of_decide_eq_true h2
    exact decide_eq_true (List.lt_trans h1 h2)
theorem lo_asym {a b : D} (h1 : lo a b = true) : lo b a = false := by
  cases a <;> cases b <;> first
    | (cases h1; done)
    | rfl
    | skip
  · have h1 := of_decide_eq_true h1
    exact decide_eq_false (by omega)
  · have h1 := of_decide_eq_true h1
    exact decide_eq_false (List.lt_asymm h1)
theorem lo_tot {a b : D} (ha : pvB a = true) (hb : pvB b = true) (ne : vEq a b = false) (h1 : lo a b = false) : lo b a = true := by
  cases a <;> cases b <;> first
    | (cases ha; done)
    | (cases hb; done)
    | (cases ne; done)
    | (cases h1; done)
    | rfl
    | skip
  · rename_i i j
    have z : ¬ i = j := by simpa [vEq] using ne
    have h1 := of_decide_eq_false h1
    exact decide_eq_true (by omega)
  · rename_i x y
    have z : ¬ x = y := by simpa [vEq] using ne
    have h1 := of_decide_eq_false h1
    exact decide_eq_true (Classical.byContradiction fun q => z (ext_tl (List.le_antisymm (List.not_lt.mp q) (List.not_lt.mp h1))))
abbrev Kt := List D × Int
def S (o : List (Nat × Bool)) (p q : Kt) : Int := sgn (tri p.1 q.1 o) p.2 q.2
theorem sgn_cons (d : Bool) (a b : D) (r : List (Bool × D × D)) (i j : Int) : sgn ((d, a, b) :: r) i j = if vEq a b = true then sgn r i j else if (decide (cmpV a b < 0) == d) = true then 1 else -1 := rfl
theorem sgn_trans : ∀ {ks ls ms : List D} {o : List (Nat × Bool)} (i j k : Int), ks.length = o.length → ls.length = o.length → ms.length = o.length → (∀ v ∈ ks, pvB v = true) → (∀ v ∈ ls, pvB v = true) → (∀ v ∈ ms, pvB v = true) →
    sgn (tri ks ls o) i j ≤ 0 → sgn (tri ls ms o) j k ≤ 0 → sgn (tri ks ms o) i k ≤ 0 ∧ (sgn (tri ks ls o) i j < 0 ∨ sgn (tri ls ms o) j k < 0 → sgn (tri ks ms o) i k < 0)
  | [], [], [], [], i, j, k, _, _, _, _, _, _ => by
    show (if j < i then 1 else 0) - (if i < j then 1 else 0) ≤ (0 : Int) → (if k < j then 1 else 0) - (if j < k then 1 else 0) ≤ (0 : Int) → (if k < i then 1 else 0) - (if i < k then 1 else 0) ≤ (0 : Int) ∧ ((if j < i then 1 else 0) - (if i < j then 1 else 0) < (0 : Int) ∨ (if k < j then 1 else 0) - (if j < k then 1 else 0) < (0 : Int) → (if k < i then 1 else 0) - (if i < k then 1 else 0) < (0 : Int))
    omega
  | a :: ks, b :: ls, c :: ms, p :: o, i, j, k, h1, h2, h3, hk, hl, hm => by
    have ih := sgn_trans (ks := ks) (ls := ls) (ms := ms) (o := o) i j k (Nat.succ.inj h1) (Nat.succ.inj h2) (Nat.succ.inj h3) (fun v hv => hk v (List.mem_cons_of_mem _ hv)) (fun v hv => hl v (List.mem_cons_of_mem _ hv)) fun v hv => hm v (List.mem_cons_of_mem _ hv)
    have ha := hk a List.mem_cons_self
    have hb := hl b List.mem_cons_self
    have hc := hm c List.mem_cons_self
    rw [tri_cons, tri_cons, tri_cons, sgn_cons, sgn_cons, sgn_cons]
    by_cases e1 : vEq a b = true
    · have := vEq_eq ha hb e1
      subst this
      rw [if_pos e1]
      by_cases e2 : vEq a c = true
      · rw [if_pos e2, if_pos e2]
        exact ih
      · rw [if_neg e2, if_neg e2]
        intro _ q
        exact ⟨q, fun _ => by
          revert q
          split <;> intro q
          · omega
          · decide⟩
    · have n1 : vEq a b = false := by simpa using e1
      rw [if_neg e1, cmp_lo ha hb n1]
      by_cases e2 : vEq b c = true
      · have := vEq_eq hb hc e2
        subst this
        rw [if_pos e2, if_neg e1, cmp_lo ha hb n1]
        intro q _
        exact ⟨q, fun _ => by
          revert q
          split <;> intro q
          · omega
          · decide⟩
      · have n2 : vEq b c = false := by simpa using e2
        rw [if_neg e2, cmp_lo hb hc n2]
        intro q1 q2
        have t1 : (lo a b == p.2) = false := by
          cases z : (lo a b == p.2) with
          | false => rfl
          | true => rw [z, if_pos rfl] at q1; omega
        have t2 : (lo b c == p.2) = false := by
          cases z : (lo b c == p.2) with
          | false => rfl
          | true => rw [z, if_pos rfl] at q2; omega
        have n3 : vEq a c = false := by
          cases z : vEq a c with
          | false => rfl
          | true =>
            have := vEq_eq ha hc z
            subst this
            exfalso
            cases hp : p.2 <;> rw [hp] at t1 t2
            · have l1 : lo a b = true := by simpa using t1
              have l2 : lo b a = true := by simpa using t2
              rw [lo_asym l1] at l2
              cases l2
            · have l1 : lo a b = false := by simpa using t1
              have l2 : lo b a = false := by simpa using t2
              rw [lo_tot ha hb n1 l1] at l2
              cases l2
        have t3 : (lo a c == p.2) = false := by
          cases hp : p.2 <;> rw [hp] at t1 t2
          · have l1 : lo a b = true := by simpa using t1
            have l2 : lo b c = true := by simpa using t2
            rw [lo_trans l1 l2]; rfl
          · have l1 : lo a b = false := by simpa using t1
            have l2 : lo b c = false := by simpa using t2
            have l3 := lo_trans (lo_tot hb hc n2 l2) (lo_tot ha hb n1 l1)
            rw [lo_asym l3]; rfl
        rw [if_neg (by rw [n3]; exact Bool.false_ne_true), cmp_lo ha hc n3, if_neg (by rw [t3]; exact Bool.false_ne_true)]
        exact ⟨by decide, fun _ => by decide⟩
  | [], [], [], _ :: _, _, _, _, h, _, _, _, _, _ => by cases h
  | [], _, _ :: _, [], _, _, _, _, _, h, _, _, _ => by cases h
  | [], _ :: _, _, [], _, _, _, _, h, _, _, _, _ => by cases h
  | _ :: _, _, _, [], _, _, _, h, _, _, _, _, _ => by cases h
  | [], _ :: _, _, _ :: _, _, _, _, h, _, _, _, _, _ => by cases h
  | [], _, _ :: _, _ :: _, _, _, _, h, _, _, _, _, _ => by cases h
  | _ :: _, [], _, _ :: _, _, _, _, _, h, _, _, _, _ => by cases h
  | _ :: _, _, [], _ :: _, _, _, _, _, _, h, _, _, _ => by cases h
theorem vEq_comm {a b : D} (ha : pvB a = true) (hb : pvB b = true) : vEq b a = vEq a b := by
  cases a <;> cases b <;> first
    | (cases ha; done)
    | (cases hb; done)
    | rfl
    | (simp only [vEq]; exact Bool.beq_comm)
theorem str_tri {x y : Str} (z : ¬ x = y) : tl y < tl x ↔ ¬ tl x < tl y := ⟨fun a b => absurd b (List.lt_asymm a), fun h => (by
  rcases Classical.em (tl y < tl x) with q | q
  · exact q
  · exact absurd (ext_tl (List.le_antisymm (List.not_lt.mp q) (List.not_lt.mp h))) z)⟩
theorem cmp_anti {a b : D} (ha : pvB a = true) (hb : pvB b = true) (ne : vEq a b = false) : decide (cmpV b a < 0) = !decide (cmpV a b < 0) := by
  cases a <;> cases b <;> first
    | (cases ha; done)
    | (cases hb; done)
    | (cases ne; done)
    | skip
  · simp [cmpV, vEq, kindP]
  · simp [cmpV, vEq, kindP]
  · simp [cmpV, vEq, kindP]
  · rename_i i j
    have z : ¬ i = j := by simpa [vEq] using ne
    have z' : ¬ j = i := fun q => z q.symm
    by_cases l : i < j
    · have l2 : ¬ j < i := by omega
      simp [cmpV, vEq, kindP, vLt, z, z', l, l2]
    · have l2 : j < i := by omega
      simp [cmpV, vEq, kindP, vLt, z, z', l, l2]
  · simp [cmpV, vEq, kindP]
  · simp [cmpV, vEq, kindP]
  · simp [cmpV, vEq, kindP]
  · rename_i x y
    have z : ¬ x = y := by simpa [vEq] using ne
    have z' : ¬ y = x := fun q => z q.symm
    have t := str_tri z
    by_cases l : tl x < tl y
    · have l2 : ¬ tl y < tl x := fun q => t.mp q l
      simp [cmpV, vEq, kindP, vLt, z, z', l, l2]
    · have l2 : tl y < tl x := t.mpr l
      simp [cmpV, vEq, kindP, vLt, z, z', l, l2]
theorem sgn_anti : ∀ {ks ls : List D} {o : List (Nat × Bool)} (i j : Int), ks.length = o.length → ls.length = o.length → (∀ v ∈ ks, pvB v = true) → (∀ v ∈ ls, pvB v = true) → sgn (tri ls ks o) j i = - sgn (tri ks ls o) i j
  | [], [], [], i, j, _, _, _, _ => by
    show (if i < j then 1 else 0) - (if j < i then 1 else 0) = -((if j < i then 1 else 0) - (if i < j then (1 : Int) else 0))
    omega
  | a :: ks, b :: ls, p :: o, i, j, h1, h2, hk, hl => by
    have ih := sgn_anti (ks := ks) (ls := ls) (o := o) i j (Nat.succ.inj h1) (Nat.succ.inj h2) (fun v hv => hk v (List.mem_cons_of_mem _ hv)) fun v hv => hl v (List.mem_cons_of_mem _ hv)
    have ha := hk a List.mem_cons_self
    have hb := hl b List.mem_cons_self
    rw [tri_cons, tri_cons, sgn, sgn, vEq_comm ha hb]
    by_cases e : vEq a b = true
    · rw [if_pos e, if_pos e, ih]
    · rw [if_neg e, if_neg e, cmp_anti ha hb (by simpa using e)]
      cases decide (cmpV a b < 0) <;> cases p.2 <;> rfl
  | [], [], _ :: _, _, _, h, _, _, _ => by cases h
  | [], _ :: _, [], _, _, _, h, _, _ => by cases h
  | [], _ :: _, _ :: _, _, _, h, _, _, _ => by cases h
  | _ :: _, [], [], _, _, h, _, _, _ => by cases h
  | _ :: _, [], _ :: _, _, _, _, h, _, _ => by cases h
  | _ :: _, _ :: _, [], _, _, h, _, _, _ => by cases h
abbrev KL := List (List D × Int)
def kls (l : KL) : List D := l.map fun p => KD p.1 p.2
def KOks (o : List (Nat × Bool)) (l : KL) : Prop := ∀ p ∈ l, KOk o p.1 p.2
theorem KD_sm {o : List (Nat × Bool)} {ks : List D} {i : Int} (k : KOk o ks i) (ol : o.length ≤ 4) : Sm 1 300 (KD ks i) := by
  have h1 : SmL 0 ((ks ++ [D.int i]).length * 41) (ks ++ [D.int i]) := SmL.all fun y hy => by
    rcases List.mem_append.mp hy with hy | hy
    · exact pv_sm (k.v y hy)
    · rw [List.mem_singleton.mp hy]
      exact Sm.int (by have := k.i0; have := k.i1; omega)
  have hz : (ks ++ [D.int i]).length ≤ 5 := by have := k.l; simp; omega
  exact (Sm.tup h1).mono (by decide) (Nat.le_trans (Nat.mul_le_mul_right _ hz) (by decide))
theorem kls_ne {o : List (Nat × Bool)} {l : KL} {k : Nat} {st : Store} (ok : KOks o l) (ol : o.length ≤ 4) (hk : st[k]? = some (.lst (kls l))) : ∃ p, pyOf (.ref k) st = some p ∧ SeqAt.shaped p = true ∧ PyData.eqv p (.list []) = l.isEmpty := by
  have s1 : SmL 1 ((kls l).length * 301) (kls l) := SmL.all fun y hy => by
    obtain ⟨p, hp, rfl⟩ := List.mem_map.mp hy
    exact KD_sm (ok p hp) ol
  obtain ⟨p, h1, h2⟩ := (Sm.lst s1).shaped (by decide)
  obtain ⟨ps, h3, h4⟩ := Option.map_eq_some_iff.mp (show (toPyL (kls l)).map PyData.list = some p from h1)
  subst h4
  refine ⟨_, ?_, h2, ?_⟩
  · simp [pyOf, hk, h3]
  · cases l with
    | nil =>
      cases h3
      simp [PyData.eqv, PyData.eqvAll]
    | cons a r =>
      obtain ⟨q, h5, h6⟩ := Option.bind_eq_some_iff.mp (show ((toPy (KD a.1 a.2)).bind fun p => (toPyL (kls r)).map fun q => p :: q) = some ps from h3)
      obtain ⟨qs, h7, h8⟩ := Option.map_eq_some_iff.mp h6
      subst h8
      simp [PyData.eqv, PyData.eqvAll]
theorem starts_rg {ns : List Int} {m k : Int} {env : Lo} (h0 : 0 ≤ m) (hm : m ≤ 100) (hk : k ≤ 100) (he : env[0]? = some (some (.scr ns))) (hl : ns.length ≤ 63) : ∃ j : Int, (iOfA asR1 (aCons (fMk bMax (aCons (fC (.int m)) (aCons (fMk bMin (aCons (fC (.int k)) (aCons (fMk bLen (aCons (fVar 0) aNil)) aNil))) aNil))) aNil)) env [] = some (rg 0 j, []) ∧ j ≤ 100 := by
  refine ⟨if (if (ns.length : Int) < k then (ns.length : Int) else k) > m then (if (ns.length : Int) < k then (ns.length : Int) else k) else m, ?_, by split <;> (try split) <;> omega⟩
  generalize hq : (if (if (ns.length : Int) < k then (ns.length : Int) else k) > m then (if (ns.length : Int) < k then (ns.length : Int) else k) else m) = q
  have q0 : 0 ≤ q ∧ q ≤ 100 := by
    subst hq
    split <;> (try split) <;> omega
  have := asR1_ok (n := q) q0.1 (by omega)
  simp [he, bMax, bMin, bLen, lenL]
  simp at hq
  rw [hq, this]
inductive Mk where
  | st | en | k (p : Kt) (f : Bool)
def Mk.d : Mk → D
  | .st => .tup [nm "start"]
  | .en => .tup [nm "end"]
  | .k p false => .tup [nm "before", KD p.1 p.2]
  | .k p true => .tup [nm "after", KD p.1 p.2]
def Mk.pl (o : List (Nat × Bool)) : Mk → D
  | .st => .tup [.int 0]
  | .en => .tup [.int 2]
  | .k p false => .tup [.int 1, kpD p.1 o p.2, .int 0]
  | .k p true => .tup [.int 1, kpD p.1 o p.2, .int 1]
def Mk.ok (o : List (Nat × Bool)) : Mk → Prop
  | .k p _ => KOk o p.1 p.2
  | _ => True
theorem nmq : opEq (nm "start") (nm "start") = some (.bl true) ∧ opEq (nm "end") (nm "start") = some (.bl false) ∧ opEq (nm "end") (nm "end") = some (.bl true) ∧ opEq (nm "before") (nm "start") = some (.bl false) ∧ opEq (nm "before") (nm "end") = some (.bl false) ∧
    opEq (nm "before") (nm "before") = some (.bl true) ∧ opEq (nm "after") (nm "start") = some (.bl false) ∧ opEq (nm "after") (nm "end") = some (.bl false) ∧ opEq (nm "after") (nm "before") = some (.bl false) ∧ opEq (nm "start") (nm "end") = some (.bl false) ∧ opEq (nm "before") (nm "after") = some (.bl false) ∧ opEq (nm "after") (nm "after") = some (.bl true) :=
  ⟨eqL (by decide) (by decide) (by decide +kernel), eqL (by decide) (by decide) (by decide +kernel), eqL (by decide) (by decide) (by decide +kernel), eqL (by decide) (by decide) (by decide +kernel), eqL (by decide) (by decide) (by decide +kernel), eqL (by decide) (by decide) (by decide +kernel), eqL (by decide) (by decide) (by decide +kernel), eqL (by decide) (by decide) (by decide +kernel), eqL (by decide) (by decide) (by decide +kernel), eqL (by decide) (by decide) (by decide +kernel), eqL (by decide) (by decide) (by decide +kernel), eqL (by decide) (by decide) (by decide +kernel)⟩
theorem mark_place_ok {xv : D} {o : List (Nat × Bool)} {yv : D} {a : Mk} (h : a.ok o) (ol : o.length ≤ 4) (st : Store) : m_mark_place [vX xv o yv, a.d] st = some (a.pl o, st) := by
  obtain ⟨n1, n2, n3, n4, n5, n6, n7, n8, n9, n10, n11, n12⟩ := nmq
  simp only [nm] at *
  cases a with
  | st => simp [m_mark_place, g_mark_place, Mk.d, Mk.pl, nm, ix0, n1]
  | en => simp [m_mark_place, g_mark_place, Mk.d, Mk.pl, nm, ix0, n2, n3]
  | k p f =>
    have kp := key_place_ok (xv := xv) (yv := yv) (i := p.2) st (KOk.l h) ol (KOk.v h)
    cases f with
    | false => simp [m_mark_place, g_mark_place, Mk.d, Mk.pl, nm, ix0, ix1, n4, n5, n6, kp]
    | true => simp [m_mark_place, g_mark_place, Mk.d, Mk.pl, nm, ix0, ix1, n7, n8, n9, kp]
def Mk.py (o : List (Nat × Bool)) : Mk → PyData
  | .st => .tuple [.int 0]
  | .en => .tuple [.int 2]
  | .k p false => .tuple [.int 1, .tuple (plL p.1 o ++ [.int p.2]), .int 0]
  | .k p true => .tuple [.int 1, .tuple (plL p.1 o ++ [.int p.2]), .int 1]
theorem pl_toPy {o : List (Nat × Bool)} {a : Mk} (h : a.ok o) : toPy (a.pl o) = some (a.py o) := by
  cases a with
  | st => rfl
  | en => rfl
  | k p f =>
    have kp := kp_py (show KOk o p.1 p.2 from h)
    cases f <;> simp [Mk.pl, Mk.py, toPy, toPyL, kp]
theorem pl_sm' {o : List (Nat × Bool)} {a : Mk} (h : a.ok o) (ol : o.length ≤ 4) : Sm 4 70000 (a.pl o) := by
  cases a with
  | st => exact (Sm.tup (SmL.cons (Sm.int (i := 0) (by decide)) SmL.nil)).mono (by decide) (by decide)
  | en => exact (Sm.tup (SmL.cons (Sm.int (i := 2) (by decide)) SmL.nil)).mono (by decide) (by decide)
  | k p f =>
    have ks := kp_sm (show KOk o p.1 p.2 from h) ol
    have one : ∀ i : Int, -1000 ≤ i ∧ i ≤ 1000 → Sm 3 20000 (.int i) := fun i hi => (Sm.int (by omega)).mono (by decide) (by decide)
    cases f with
    | false => exact (Sm.tup (SmL.all (wt := 20000) (ds := [.int 1, kpD p.1 o p.2, .int 0]) fun y hy => by
        rcases List.mem_cons.mp hy with e | hy
        · rw [e]; exact one 1 (by decide)
        · rcases List.mem_cons.mp hy with e | hy
          · rw [e]; exact ks
          · rw [List.mem_singleton.mp hy]; exact one 0 (by decide))).mono (by decide) (show 3 * 20001 ≤ 70000 by decide)
    | true => exact (Sm.tup (SmL.all (wt := 20000) (ds := [.int 1, kpD p.1 o p.2, .int 1]) fun y hy => by
        rcases List.mem_cons.mp hy with e | hy
        · rw [e]; exact one 1 (by decide)
        · rcases List.mem_cons.mp hy with e | hy
          · rw [e]; exact ks
          · rw [List.mem_singleton.mp hy]; exact one 1 (by decide))).mono (by decide) (show 3 * 20001 ≤ 70000 by decide)
theorem pl_shaped' {o : List (Nat × Bool)} {a : Mk} (h : a.ok o) (ol : o.length ≤ 4) : SeqAt.shaped (a.py o) = true := by
  obtain ⟨p, h1, h2⟩ := (pl_sm' h ol).shaped (by decide)
  rw [pl_toPy h] at h1
  cases h1
  exact h2
theorem cplaces {x y : D} {px py : PyData} {e l : Bool} (hx : toPy x = some px) (hy : toPy y = some py) (sx : SeqAt.shaped px = true) (sy : SeqAt.shaped py = true) (ev : PyData.eqv px py = e) (lt : e = false → pyLt px py = some l) (st : Store) :
    m_compare_places [x, y] st = some (.int (if e = true then 0 else if l = true then -1 else 1), st) := by
  have q1 : opEq x y = some (.bl e) := by
    simp only [opEq, hx, hy, Option.bind_some, sx, sy, and_self, if_true]
    rw [ev]
  cases e with
  | true => simp [m_compare_places, g_compare_places, q1]
  | false =>
    have q2 : ltN x y = some (.bl l) := by
      simp only [ltN, hx, hy, Option.bind_some, sx, sy, and_self, if_true, lt rfl, Option.map_some]
    cases l <;> simp [m_compare_places, g_compare_places, q1, q2]
def cmpI (f g : Bool) : Int := if f = g then 0 else if f = true then 1 else -1
def cmpM (o : List (Nat × Bool)) : Mk → Mk → Int
  | .st, .st => 0
  | .st, .en => -1
  | .st, .k _ _ => -1
  | .en, .st => 1
  | .en, .en => 0
  | .en, .k _ _ => 1
  | .k _ _, .st => 1
  | .k _ _, .en => -1
  | .k p f, .k q g => if S o p q = 0 then cmpI f g else S o p q
theorem compare_marks_ok {xv : D} {o : List (Nat × Bool)} {yv : D} {a b : Mk} (ha : a.ok o) (hb : b.ok o) (ol : o.length ≤ 4) (st : Store) : m_compare_marks [vX xv o yv, a.d, b.d] st = some (.int (cmpM o a b), st) := by
  have m1 := mark_place_ok (xv := xv) (yv := yv) ha ol st
  have m2 := mark_place_ok (xv := xv) (yv := yv) hb ol st
  have main : m_compare_places [a.pl o, b.pl o] st = some (.int (cmpM o a b), st) := by
    have t := fun e l ev lt => cplaces (e := e) (l := l) (pl_toPy ha) (pl_toPy hb) (pl_shaped' ha ol) (pl_shaped' hb ol) ev lt st
    cases a with
    | st =>
      cases b with
      | st => exact t true true (by simp [Mk.py, PyData.eqv, PyData.eqvAll]) (fun z => by cases z)
      | en => exact t false true (by simp [Mk.py, PyData.eqv, PyData.eqvAll]) (fun _ => by simp [Mk.py, pyLt_tup, pyLtL_cons, PyData.eqv, pyLt])
      | k q g => cases g <;> exact t false true (by simp [Mk.py, PyData.eqv, PyData.eqvAll]) (fun _ => by simp [Mk.py, pyLt_tup, pyLtL_cons, PyData.eqv, pyLt])
    | en =>
      cases b with
      | st => exact t false false (by simp [Mk.py, PyData.eqv, PyData.eqvAll]) (fun _ => by simp [Mk.py, pyLt_tup, pyLtL_cons, PyData.eqv, pyLt])
      | en => exact t true true (by simp [Mk.py, PyData.eqv, PyData.eqvAll]) (fun z => by cases z)
      | k q g => cases g <;> exact t false false (by simp [Mk.py, PyData.eqv, PyData.eqvAll]) (fun _ => by simp [Mk.py, pyLt_tup, pyLtL_cons, PyData.eqv, pyLt])
    | k p f =>
      cases b with
      | st => cases f <;> exact t false false (by simp [Mk.py, PyData.eqv, PyData.eqvAll]) (fun _ => by simp [Mk.py, pyLt_tup, pyLtL_cons, PyData.eqv, pyLt])
      | en => cases f <;> exact t false true (by simp [Mk.py, PyData.eqv, PyData.eqvAll]) (fun _ => by simp [Mk.py, pyLt_tup, pyLtL_cons, PyData.eqv, pyLt])
      | k q g =>
        obtain ⟨g1, g2, g3⟩ := sgn_eqv (ks := p.1) (ls := q.1) (o := o) p.2 q.2 (KOk.l ha) (KOk.l hb) (KOk.v ha) (KOk.v hb)
        by_cases z : sgn (tri p.1 q.1 o) p.2 q.2 = 0
        · rw [z] at g1
          simp only [decide_true] at g1
          have e : cmpM o (.k p f) (.k q g) = cmpI f g := if_pos z
          rw [e]
          cases f <;> cases g
          · exact t true true (by simp [Mk.py, PyData.eqv, PyData.eqvAll, g1]) (fun z => by cases z)
          · exact t false true (by simp [Mk.py, PyData.eqv, PyData.eqvAll, g1]) (fun _ => by simp [Mk.py, pyLt_tup, pyLtL_cons, PyData.eqv, pyLt, g1])
          · exact t false false (by simp [Mk.py, PyData.eqv, PyData.eqvAll, g1]) (fun _ => by simp [Mk.py, pyLt_tup, pyLtL_cons, PyData.eqv, pyLt, g1])
          · exact t true true (by simp [Mk.py, PyData.eqv, PyData.eqvAll, g1]) (fun z => by cases z)
        · have g2 := g2 z
          simp only [z, decide_false] at g1
          have e : cmpM o (.k p f) (.k q g) = sgn (tri p.1 q.1 o) p.2 q.2 := if_neg z
          rw [e]
          have tt := t false (decide (sgn (tri p.1 q.1 o) p.2 q.2 = -1)) (by cases f <;> cases g <;> simp [Mk.py, PyData.eqv, PyData.eqvAll, g1]) (fun _ => by cases f <;> cases g <;> simp [Mk.py, pyLt_tup, pyLtL_cons, PyData.eqv, g1, g2])
          rw [tt]
          rcases g3 with g3 | g3 | g3
          · exact absurd g3 z
          · simp [g3]
          · simp [g3]
  simp [m_compare_marks, g_compare_marks, m1, m2, main]
theorem sgn_self : ∀ {ks : List D} {o : List (Nat × Bool)} (i : Int), (∀ v ∈ ks, pvB v = true) → sgn (tri ks ks o) i i = 0
  | [], _, i, _ => by
    show (if i < i then 1 else 0) - (if i < i then 1 else 0) = (0 : Int)
    omega
  | _ :: _, [], i, _ => by
    show (if i < i then 1 else 0) - (if i < i then 1 else 0) = (0 : Int)
    omega
  | a :: ks, p :: o, i, h => by
    rw [tri_cons, sgn_cons, if_pos (vEq_self (h a List.mem_cons_self))]
    exact sgn_self i fun v hv => h v (List.mem_cons_of_mem _ hv)
def cnt (o : List (Nat × Bool)) (ks : List Kt) (p : Kt) : Nat := (ks.filter fun q => decide (S o q p < 0)).length
theorem filter_le {α : Type} {f g : α → Bool} : ∀ {l : List α}, (∀ x ∈ l, f x = true → g x = true) → (l.filter f).length ≤ (l.filter g).length
  | [], _ => Nat.le_refl _
  | a :: l, h => by
    have ih := filter_le (f := f) (g := g) (l := l) fun x hx => h x (List.mem_cons_of_mem _ hx)
    have ha := h a List.mem_cons_self
    rw [List.filter_cons, List.filter_cons]
    cases fa : f a with
    | true => rw [ha fa]; simp only [if_true, List.length_cons]; omega
    | false => cases g a <;> simp <;> omega
theorem filter_lt {α : Type} {f g : α → Bool} : ∀ {l : List α}, (∀ x ∈ l, f x = true → g x = true) → (∃ y ∈ l, f y = false ∧ g y = true) → (l.filter f).length < (l.filter g).length
  | [], _, h => by obtain ⟨y, hy, _⟩ := h; cases hy
  | a :: l, h, ⟨y, hy, fy, gy⟩ => by
    have le := filter_le (f := f) (g := g) (l := l) fun x hx => h x (List.mem_cons_of_mem _ hx)
    have ha := h a List.mem_cons_self
    rw [List.filter_cons, List.filter_cons]
    rcases List.mem_cons.mp hy with e | hy
    · subst e
      rw [fy, gy]
      simp; omega
    · have ih := filter_lt (f := f) (g := g) (l := l) (fun x hx => h x (List.mem_cons_of_mem _ hx)) ⟨y, hy, fy, gy⟩
      cases fa : f a with
      | true => rw [ha fa]; simp only [if_true, List.length_cons]; omega
      | false => cases g a <;> simp <;> omega
theorem S_trans {o : List (Nat × Bool)} {p q r : Kt} (hp : KOk o p.1 p.2) (hq : KOk o q.1 q.2) (hr : KOk o r.1 r.2) (h1 : S o p q ≤ 0) (h2 : S o q r ≤ 0) : S o p r ≤ 0 ∧ (S o p q < 0 ∨ S o q r < 0 → S o p r < 0) :=
  sgn_trans p.2 q.2 r.2 hp.l hq.l hr.l hp.v hq.v hr.v h1 h2
theorem S_anti {o : List (Nat × Bool)} {p q : Kt} (hp : KOk o p.1 p.2) (hq : KOk o q.1 q.2) : S o q p = - S o p q := sgn_anti p.2 q.2 hp.l hq.l hp.v hq.v
theorem S_self {o : List (Nat × Bool)} {p : Kt} (hp : KOk o p.1 p.2) : S o p p = 0 := sgn_self p.2 hp.v
theorem cnt_lt {o : List (Nat × Bool)} {ks : List Kt} (ok : KOks o ks) {p q : Kt} (mp : p ∈ ks) (mq : q ∈ ks) (h : S o p q < 0) : cnt o ks p < cnt o ks q := by
  refine filter_lt (fun x hx e => ?_) ⟨p, mp, ?_, decide_eq_true h⟩
  · have e := of_decide_eq_true e
    exact decide_eq_true ((S_trans (ok x hx) (ok p mp) (ok q mq) (by omega) (by omega)).2 (.inl e))
  · rw [S_self (ok p mp)]; rfl
theorem cnt_eq {o : List (Nat × Bool)} {ks : List Kt} (ok : KOks o ks) {p q : Kt} (mp : p ∈ ks) (mq : q ∈ ks) (h : S o p q = 0) : cnt o ks p = cnt o ks q := by
  have h' : S o q p = 0 := by rw [S_anti (ok p mp) (ok q mq), h]; rfl
  refine Nat.le_antisymm (filter_le fun x hx e => ?_) (filter_le fun x hx e => ?_)
  · have e := of_decide_eq_true e
    exact decide_eq_true ((S_trans (ok x hx) (ok p mp) (ok q mq) (by omega) (by omega)).2 (.inl e))
  · have e := of_decide_eq_true e
    exact decide_eq_true ((S_trans (ok x hx) (ok q mq) (ok p mp) (by omega) (by omega)).2 (.inl e))
def place (o : List (Nat × Bool)) (ks : List Kt) : Mk → Int
  | .st => -1
  | .en => 1000000
  | .k p false => 2 * cnt o ks p + 0
  | .k p true => 2 * cnt o ks p + 1
def Mk.of (ks : List Kt) : Mk → Prop
  | .k p _ => p ∈ ks
  | _ => True
theorem cnt_le (o : List (Nat × Bool)) (ks : List Kt) (p : Kt) : cnt o ks p ≤ ks.length := List.length_filter_le _ _
def tri3 (x y : Int) : Int := if x = y then 0 else if y < x then 1 else -1
theorem t_eq {x y : Int} (h : x = y) : tri3 x y = 0 := if_pos h
theorem t_gt {x y : Int} (h : y < x) : tri3 x y = 1 := by unfold tri3; rw [if_neg (by omega), if_pos h]
theorem t_lt {x y : Int} (h : x < y) : tri3 x y = -1 := by unfold tri3; rw [if_neg (by omega), if_neg (by omega)]
theorem cmp_place {o : List (Nat × Bool)} {ks : List Kt} (ok : KOks o ks) (kl : ks.length ≤ 100) {a b : Mk} (ha : a.of ks) (hb : b.of ks) : cmpM o a b = tri3 (place o ks a) (place o ks b) := by
  have cl : ∀ p, cnt o ks p ≤ 100 := fun p => Nat.le_trans (cnt_le o ks p) kl
  have pf : ∀ p, place o ks (.k p false) = 2 * cnt o ks p := fun p => by show (2 * (cnt o ks p : Int) + 0) = _; omega
  have pt : ∀ p, place o ks (.k p true) = 2 * cnt o ks p + 1 := fun p => rfl
  have ps : place o ks .st = -1 := rfl
  have pe : place o ks .en = 1000000 := rfl
  cases a with
  | st =>
    cases b with
    | st => exact (t_eq rfl).symm
    | en => exact (t_lt (by rw [ps, pe]; decide)).symm
    | k q g =>
      have := cl q
      cases g
      · exact (t_lt (by rw [ps, pf]; omega)).symm
      · exact (t_lt (by rw [ps, pt]; omega)).symm
  | en =>
    cases b with
    | st => exact (t_gt (by rw [ps, pe]; decide)).symm
    | en => exact (t_eq rfl).symm
    | k q g =>
      have := cl q
      cases g
      · exact (t_gt (by rw [pe, pf]; omega)).symm
      · exact (t_gt (by rw [pe, pt]; omega)).symm
  | k p f =>
    have := cl p
    cases b with
    | st =>
      cases f
      · exact (t_gt (by rw [ps, pf]; omega)).symm
      · exact (t_gt (by rw [ps, pt]; omega)).symm
    | en =>
      cases f
      · exact (t_lt (by rw [pe, pf]; omega)).symm
      · exact (t_lt (by rw [pe, pt]; omega)).symm
    | k q g =>
      have g3 : S o p q = 0 ∨ S o p q = 1 ∨ S o p q = -1 := (sgn_eqv (ks := p.1) (ls := q.1) (o := o) p.2 q.2 (ok p ha).l (ok q hb).l (ok p ha).v (ok q hb).v).2.2
      rcases g3 with z | z | z
      · have ce := cnt_eq ok ha hb z
        have e : cmpM o (.k p f) (.k q g) = cmpI f g := if_pos z
        rw [e]
        cases f <;> cases g
        · exact (t_eq (by rw [pf, pf, ce])).symm
        · exact (t_lt (by rw [pf, pt, ce]; omega)).symm
        · exact (t_gt (by rw [pf, pt, ce]; omega)).symm
        · exact (t_eq (by rw [pt, pt, ce])).symm
      · have h2 : S o q p < 0 := by rw [S_anti (ok p ha) (ok q hb), z]; decide
        have ce := cnt_lt ok hb ha h2
        have e : cmpM o (.k p f) (.k q g) = 1 := (if_neg (by rw [z]; decide)).trans z
        rw [e]
        cases f <;> cases g
        · exact (t_gt (by rw [pf, pf]; omega)).symm
        · exact (t_gt (by rw [pf, pt]; omega)).symm
        · exact (t_gt (by rw [pf, pt]; omega)).symm
        · exact (t_gt (by rw [pt, pt]; omega)).symm
      · have ce := cnt_lt ok ha hb (by rw [z]; decide)
        have e : cmpM o (.k p f) (.k q g) = -1 := (if_neg (by rw [z]; decide)).trans z
        rw [e]
        cases f <;> cases g
        · exact (t_lt (by rw [pf, pf]; omega)).symm
        · exact (t_lt (by rw [pf, pt]; omega)).symm
        · exact (t_lt (by rw [pf, pt]; omega)).symm
        · exact (t_lt (by rw [pt, pt]; omega)).symm
end LW
namespace LW
open PySem PySem.Spec PyProof.Rows L2 DL TL
/-! what is a view, a mark -/
theorem pair_nat {w : Int} {d : D} (h : pairB w d = true) : ∃ (n : Nat) (b : Bool), d = .tup [.int n, .bl b] := by
  obtain ⟨b, e⟩ := pair_col h
  rw [e] at h
  have h1 : (colB w (.int (colI d)) && isBl (.bl b)) = true := h
  rw [Bool.and_eq_true] at h1
  obtain ⟨a1, a2, a3⟩ := col_int h1.1
  have : ((colI d).toNat : Int) = colI d := Int.toNat_of_nonneg a2
  exact ⟨(colI d).toNat, b, by rw [this]; exact e⟩
theorem ords_of {w : Int} : ∀ {us : List D}, us.all (pairB w) = true → ∃ o, us = vOrd o
  | [], _ => ⟨[], rfl⟩
  | d :: us, h => by
    rw [List.all_cons, Bool.and_eq_true] at h
    obtain ⟨n, b, rfl⟩ := pair_nat h.1
    obtain ⟨o, rfl⟩ := ords_of h.2
    exact ⟨(n, b) :: o, rfl⟩
theorem vX_of_view {w : Int} {d : D} (h : viewB w d = true) : ∃ x o y, d = vX x o y ∧ o.length ≤ 4 := by
  unfold viewB at h
  split at h
  · rename_i c od s
    rw [Bool.and_eq_true, Bool.and_eq_true] at h
    have h2 := h.2.1
    unfold ordB at h2
    split at h2
    · rename_i us
      rw [Bool.and_eq_true, Bool.and_eq_true] at h2
      obtain ⟨o, rfl⟩ := ords_of h2.2.1
      refine ⟨c, o, s, rfl, ?_⟩
      have := of_decide_eq_true h2.1
      rwa [len_ord] at this
    · cases h2
  · cases h
theorem valB_pv {d : D} (h : valB d = true) : pvB d = true := by
  cases d with
  | str x =>
    have h1 : (decide (x.length ≤ 20) && (tl x).all signB) = true := h
    rw [Bool.and_eq_true] at h1
    have a := of_decide_eq_true h1.1
    show asc 40 x = true
    unfold asc
    rw [Bool.and_eq_true]
    refine ⟨decide_eq_true (by omega), List.all_eq_true.mpr fun c hc => ?_⟩
    have := of_decide_eq_true (List.all_eq_true.mp h1.2 c hc)
    exact decide_eq_true (by omega)
  | _ => exact h
theorem isK_nm {s : String} {d : D} (h : isK s d = true) : d = nm s := by
  cases d with
  | str x =>
    have : (x == Str.ofString s) = true := h
    rw [eq_of_beq this, nm]
  | _ => cases h
theorem mk_of {o : List (Nat × Bool)} {d : D} (h : markB o.length d = true) : ∃ a : Mk, d = a.d ∧ a.ok o := by
  unfold markB at h
  split at h
  · rename_i a
    rw [Bool.or_eq_true] at h
    rcases h with h | h
    · exact ⟨.st, by rw [isK_nm h]; rfl, trivial⟩
    · exact ⟨.en, by rw [isK_nm h]; rfl, trivial⟩
  · rename_i a k
    rw [Bool.and_eq_true, Bool.or_eq_true] at h
    have h2 := h.2
    unfold keyB at h2
    split at h2
    · rename_i us
      rw [Bool.and_eq_true, Bool.and_eq_true] at h2
      have l := of_decide_eq_true h2.1
      have r := h2.2.2
      obtain ⟨i, hi, i0, i1⟩ : ∃ i, atV us o.length = .int i ∧ 1 ≤ i ∧ i ≤ 1000000 := by
        generalize atV us o.length = z at r
        cases z with
        | int i => exact ⟨i, rfl, of_decide_eq_true r⟩
        | _ => cases r
      have e : us = us.take o.length ++ [.int i] := by
        rw [← hi]
        refine List.ext_getElem? fun j => ?_
        by_cases z : j < o.length
        · rw [List.getElem?_append_left (by rw [List.length_take]; omega), List.getElem?_take_of_lt z]
        · rw [List.getElem?_append_right (by rw [List.length_take]; omega), List.length_take]
          by_cases z2 : j = o.length
          · subst z2
            have : o.length - min o.length us.length = 0 := by omega
            rw [this]
            unfold atV
            have : o.length < us.length := by omega
            rw [List.getElem?_eq_getElem this]
            rfl
          · rw [List.getElem?_eq_none (by omega), List.getElem?_eq_none (by simp; omega)]
      have ok : KOk o (us.take o.length) i := ⟨by rw [List.length_take]; omega, fun v hv => valB_pv (List.all_eq_true.mp h2.2.1 v hv), by omega, by omega⟩
      have e2 : D.tup us = KD (us.take o.length) i := by unfold KD; rw [← e]
      rcases h.1 with q | q
      · exact ⟨.k (us.take o.length, i) false, by rw [isK_nm q, e2]; rfl, ok⟩
      · exact ⟨.k (us.take o.length, i) true, by rw [isK_nm q, e2]; rfl, ok⟩
    · cases h2
  · cases h
/-- two values that stand for marks of a view: both are asked, and then compared -/
theorem two_marks {w : Int} {v lo hi : D} (hv : viewB w v = true) (ol : okw lo) (oh : okw hi) : ∃ (a b : Bool) (z : Int), (∀ st, m_is_mark [v, lo] st = some (.bl a, st)) ∧ (∀ st, m_is_mark [v, hi] st = some (.bl b, st)) ∧
    (a = true → b = true → ∀ st, m_compare_marks [v, lo, hi] st = some (.int z, st)) := by
  obtain ⟨x, o, y, rfl, l⟩ := vX_of_view hv
  have k1 := fun st => is_mark_ok (xv := x) (o := o) (yv := y) ol st
  have k2 := fun st => is_mark_ok (xv := x) (o := o) (yv := y) oh st
  by_cases c : markB o.length lo = true ∧ markB o.length hi = true
  · obtain ⟨a, rfl, ha⟩ := mk_of c.1
    obtain ⟨b, rfl, hb⟩ := mk_of c.2
    exact ⟨_, _, cmpM o a b, k1, k2, fun _ _ st => compare_marks_ok ha hb l st⟩
  · exact ⟨_, _, 0, k1, k2, fun p q => absurd ⟨p, q⟩ c⟩
def geB (l : Int) : D → Bool | .int i => decide (l ≤ i) | _ => false
theorem linteger_ok {d : D} (h : okw d) (l : Int) (st : Store) : m__law_integer [d, .int l] st = some (.bl (geB l d), st) := by
  cases d with
  | int i => simp [m__law_integer, g__law_integer, mOf, outM, startD, sRet, fAnd, fIsi, fVar, tyD, isiB, asB, fNot, fOp, opGe, orD, geI, onI, geB]
  | ref _ => cases h.1
  | scr _ => cases h.1
  | _ => simp [m__law_integer, g__law_integer, mOf, outM, startD, sRet, fAnd, fIsi, fVar, tyD, isiB, asB, fNot, geB]
theorem top_ok {d : D} (h : okw d) (st : Store) : m_is_top_count [d] st = some (.bl (rngB 0 1000000 d), st) := by
  have k := int_ok h st
  cases d with
  | int i =>
    have c := chain_int (fa := fC (.int 0)) (fb := fVar 0) (fc := fC (.int 1000000)) (env := [some (.int i)]) (st := st) (a := 0) (b := i) (c := 1000000) rfl rfl rfl
    simp only [isInt] at k
    simp [m_is_top_count, g_is_top_count, mOf, outM, startD, sRet, fAnd, fCall, aCons, aNil, fVar, k, asB]
    simp at c
    simp [c, rngB]
  | _ =>
    simp only [isInt] at k
    simp [m_is_top_count, g_is_top_count, mOf, outM, startD, sRet, fAnd, fCall, aCons, aNil, fVar, k, asB, rngB]
end LW
namespace LW
open PySem PySem.Spec PyProof.Rows L2 DL TL
def isS : D → Bool | .str _ => true | _ => false
theorem isS_of {a : D} (h : ¬ ∃ x, a = .str x) : ¬ isS a = true := fun z => by
  cases a with
  | str x => exact h ⟨x, rfl⟩
  | _ => cases z
theorem ix3 {a b c d : D} {r : List D} : L2.atI (a :: b :: c :: d :: r) 3 = some d := atI_nat (j := 3) rfl
theorem ix4 {a b c d e : D} {r : List D} : L2.atI (a :: b :: c :: d :: e :: r) 4 = some e := atI_nat (j := 4) rfl
theorem eqS_k (s : String) (x : Str) : opEqS (.str x) (.str (Str.ofString s)) = some (.bl (isK s (.str x))) := by
  simp [opEqS, onS, isK_str]
  by_cases h : x = Str.ofString s
  · subst h; simp
  · simp [h]
theorem neS_k (s : String) (x : Str) : opNeS (.str x) (.str (Str.ofString s)) = some (.bl (!isK s (.str x))) := by
  simp [opNeS, onS, isK_str]
  by_cases h : x = Str.ofString s
  · subst h; simp
  · simp [h]
theorem kk_no {x : Str} (h : isK "window" (.str x) = true) : isK "top" (.str x) = false := k_ne (a := "window") (b := "top") (by decide +kernel) h
/-- both judges agree -/
theorem token_ok {w : Int} (hw : w ≤ 1000) {d : D} (h : okw d) (hn : nlD d ≤ 60) : ∃ b, ∀ st, m_is_token [d, .int w] st = some (.bl b, st) ∧ m__law_due [d, .int w] st = some (.bl b, st) := by
  have z1 : 1 ≤ sizeLine := by decide
  by_cases ht : ∃ us, d = .tup us
  case neg =>
    refine ⟨false, fun st => ?_⟩
    cases d with
    | tup us => exact absurd ⟨us, rfl⟩ ht
    | ref _ => cases h.1
    | scr _ => cases h.1
    | _ => constructor <;> simp [m_is_token, g_is_token, m__law_due, g__law_due, mOf, outM, startD, sSeq, sIf, sRet, fOrT, fNotT, fTest, fIsi, fVar, fC, tyD, isiB, asB]
  obtain ⟨us, rfl⟩ := ht
  have hm : ∀ u ∈ us, okw u ∧ nlD u ≤ 60 := fun u hu => ⟨h.mem hu, by
    have a := nl_mem hu
    have : nlL us ≤ nlD (.tup us) := Nat.le_max_right _ _
    omega⟩
  match us, hm with
  | [], _ => exact ⟨false, fun st => by constructor <;> simp [m_is_token, g_is_token, m__law_due, g__law_due, mOf, outM, startD, sSeq, sIf, sRet, fOrT, fNotT, fTest, fIsi, fVar, fC, tyD, isiB, asB, fOp, fMk, aCons, aNil, bLen, lenL, opLt_int]⟩
  | [a], _ => exact ⟨false, fun st => by constructor <;> simp [m_is_token, g_is_token, m__law_due, g__law_due, mOf, outM, startD, sSeq, sIf, sRet, fOrT, fNotT, fTest, fIsi, fVar, fC, tyD, isiB, asB, fOp, fMk, aCons, aNil, bLen, lenL, opLt_int]⟩
  | [a, b], _ => exact ⟨false, fun st => by constructor <;> simp [m_is_token, g_is_token, m__law_due, g__law_due, mOf, outM, startD, sSeq, sIf, sRet, fOrT, fNotT, fTest, fIsi, fVar, fC, tyD, isiB, asB, fOp, fMk, aCons, aNil, bLen, lenL, opLt_int]⟩
  | a :: b :: c :: r, hm =>
    obtain ⟨oa, -⟩ := hm a (by simp)
    obtain ⟨ob, nb⟩ := hm b (by simp)
    obtain ⟨oc, -⟩ := hm c (by simp)
    have kv := fun st => view_is hw ob nb st
    have ki := fun st => int_ok oc st
    have kl := fun st => linteger_ok oc 0 st
    have ea1 := eqA_k oa.1 "window"
    have ea2 := eqA_k oa.1 "top"
    have hl : ∀ st, bLen [.tup (a :: b :: c :: r)] st = some (.int ((r.length : Int) + 3)) := fun st => by simp [bLen, lenL]; omega
    have l3 : decide ((r.length : Int) + 3 < 3) = false := by simp; omega
    -- the common part
    have com : ∀ st, m_is_token [.tup (a :: b :: c :: r), .int w] st = outM (if viewB w b = true ∧ geB 0 c = true then
        (sSeq (sIf (fTest (fOp opEqA (fSub (fVar 0) (fC (.int 0))) (fC (.str (Str.ofString "window"))))) (sRet (fAnd (fOp opEq (fMk bLen (aCons (fVar 0) aNil)) (fC (.int 5))) (fCall m_are_window_marks (aCons (fSub (fVar 0) (fC (.int 1))) (aCons (fSub (fVar 0) (fC (.int 3))) (aCons (fSub (fVar 0) (fC (.int 4))) aNil)))))) sNil) (sRet (fAnd (fOp opEqA (fSub (fVar 0) (fC (.int 0))) (fC (.str (Str.ofString "top")))) (fAnd (fOp opEq (fMk bLen (aCons (fVar 0) aNil)) (fC (.int 4))) (fCall m_is_top_count (aCons (fSub (fVar 0) (fC (.int 3))) aNil)))))) [some (.tup (a :: b :: c :: r)), some (.int w)] st
        else some (.rt (.bl false), [some (.tup (a :: b :: c :: r)), some (.int w)], st)) := fun st => by
      cases hv : viewB w b with
      | false =>
        have kv' := kv st
        rw [hv] at kv'
        simp [m_is_token, g_is_token, mOf, outM, startD, sSeq, sIf, sRet, sNil, fOrT, fNotT, fTest, fIsi, fVar, fC, tyD, isiB, asB, fOp, fMk, aCons, aNil, hl, opLt_int, l3, fCall, fSub, ixD, ix1, kv']
      | true =>
        have kv' := kv st
        have ki' := ki st
        rw [hv] at kv'
        cases c with
        | int k =>
          simp only [isInt] at ki'
          by_cases hk : k < 0
          · have g : geB 0 (.int k) = false := by simp [geB]; omega
            simp [m_is_token, g_is_token, mOf, outM, startD, sSeq, sIf, sRet, sNil, fOrT, fNotT, fTest, fIsi, fVar, fC, tyD, isiB, asB, fOp, fMk, aCons, aNil, hl, opLt_int, l3, fCall, fSub, ixD, ix1, ix2, kv', ki', hk, g]
          · have g : geB 0 (.int k) = true := by simp [geB]; omega
            simp [m_is_token, g_is_token, mOf, outM, startD, sSeq, sIf, sRet, sNil, fOrT, fNotT, fTest, fIsi, fVar, fC, tyD, isiB, asB, fOp, fMk, aCons, aNil, hl, opLt_int, l3, fCall, fSub, ixD, ix1, ix2, kv', ki', hk, g]
        | _ =>
          simp only [isInt] at ki'
          simp [m_is_token, g_is_token, mOf, outM, startD, sSeq, sIf, sRet, sNil, fOrT, fNotT, fTest, fIsi, fVar, fC, tyD, isiB, asB, fOp, fMk, aCons, aNil, hl, opLt_int, l3, fCall, fSub, ixD, ix1, ix2, kv', ki', geB]
    have due : ∀ st, ∀ hl4 : decide ((r.length : Int) + 3 < 4) = false, m__law_due [.tup (a :: b :: c :: r), .int w] st = outM (if isS a = true ∧ viewB w b = true ∧ geB 0 c = true then
        (sSeq (sIf (fTest (fOp opEqS (fSub (fVar 0) (fC (.int 0))) (fC (.str (Str.ofString "top"))))) (sRet (fAnd (fOp opEq (fMk bLen (aCons (fVar 0) aNil)) (fC (.int 4))) (fAnd (fCall m__law_integer (aCons (fSub (fVar 0) (fC (.int 3))) (aCons (fC (.int 0)) aNil))) (fOp opLe (fSub (fVar 0) (fC (.int 3))) (fOp powI (fC (.int 10)) (fC (.int 6))))))) sNil) (sSeq (sIf (fOrT (fTest (fOp opNeS (fSub (fVar 0) (fC (.int 0))) (fC (.str (Str.ofString "window"))))) (fTest (fOp opNe (fMk bLen (aCons (fVar 0) aNil)) (fC (.int 5))))) (sRet (fC (.bl false))) sNil) (sSeq (sIf (fOrT (fNotT (fTest (fCall m_is_mark (aCons (fSub (fVar 0) (fC (.int 1))) (aCons (fSub (fVar 0) (fC (.int 3))) aNil))))) (fNotT (fTest (fCall m_is_mark (aCons (fSub (fVar 0) (fC (.int 1))) (aCons (fSub (fVar 0) (fC (.int 4))) aNil)))))) (sRet (fC (.bl false))) sNil) (sRet (fOp opLe (fCall m_compare_marks (aCons (fSub (fVar 0) (fC (.int 1))) (aCons (fSub (fVar 0) (fC (.int 3))) (aCons (fSub (fVar 0) (fC (.int 4))) aNil)))) (fC (.int 0))))))) [some (.tup (a :: b :: c :: r)), some (.int w)] st
        else some (.rt (.bl false), [some (.tup (a :: b :: c :: r)), some (.int w)], st)) := fun st hl4 => by
      have kv' := kv st
      have kl' := kl st
      by_cases hs : ∃ x, a = .str x
      case neg =>
        rw [if_neg (fun z => isS_of hs z.1)]
        cases a with
        | str x => exact absurd ⟨x, rfl⟩ hs
        | ref _ => cases oa.1
        | scr _ => cases oa.1
        | _ => simp [m__law_due, g__law_due, mOf, outM, startD, sSeq, sIf, sRet, sNil, fOrT, fNotT, fTest, fIsi, fVar, fC, tyD, isiB, asB, fOp, fMk, aCons, aNil, hl, opLt_int, hl4, fSub, ixD, ix0]
      obtain ⟨x, rfl⟩ := hs
      cases hv : viewB w b with
      | false =>
        rw [hv] at kv'
        rw [if_neg (fun z => by cases z.2.1)]
        simp [m__law_due, g__law_due, mOf, outM, startD, sSeq, sIf, sRet, sNil, fOrT, fNotT, fTest, fIsi, fVar, fC, tyD, isiB, asB, fOp, fMk, aCons, aNil, hl, opLt_int, hl4, fSub, ixD, ix0, ix1, fCall, kv']
      | true =>
        rw [hv] at kv'
        cases hg : geB 0 c with
        | false =>
          rw [hg] at kl'
          rw [if_neg (fun z => by cases z.2.2)]
          simp [m__law_due, g__law_due, mOf, outM, startD, sSeq, sIf, sRet, sNil, fOrT, fNotT, fTest, fIsi, fVar, fC, tyD, isiB, asB, fOp, fMk, aCons, aNil, hl, opLt_int, hl4, fSub, ixD, ix0, ix1, ix2, fCall, kv', kl']
        | true =>
          rw [hg] at kl'
          rw [if_pos ⟨rfl, rfl, rfl⟩]
          simp only [m__law_due, g__law_due, mOf, startD]
          rw [seq_step (e1 := [some (.tup (.str x :: b :: c :: r)), some (.int w)]) (s1 := st) (by simp [sIf, sRet, sNil, fOrT, fNotT, fTest, fIsi, fVar, fC, tyD, isiB, asB, fOp, fMk, aCons, aNil, hl, opLt_int, hl4, fSub, ixD, ix0, ix1, ix2, fCall]),
            seq_step (e1 := [some (.tup (.str x :: b :: c :: r)), some (.int w)]) (s1 := st) (by simp [sIf, sRet, sNil, fOrT, fNotT, fTest, fIsi, fVar, fC, tyD, isiB, asB, fOp, fMk, aCons, aNil, fSub, ixD, ix0, ix1, ix2, fCall, kv', kl'])]
    by_cases good : viewB w b = true ∧ geB 0 c = true
    case neg =>
      refine ⟨false, fun st => ⟨by rw [com st, if_neg good]; rfl, ?_⟩⟩
      by_cases l4 : decide ((r.length : Int) + 3 < 4) = true
      · simp [m__law_due, g__law_due, mOf, outM, startD, sSeq, sIf, sRet, sNil, fOrT, fNotT, fTest, fIsi, fVar, fC, tyD, isiB, asB, fOp, fMk, aCons, aNil, hl, opLt_int, l4]
      · rw [due st (by simpa using l4), if_neg (fun z => good z.2)]
        rfl
    match r, hm with
    | [], hm =>
      refine ⟨false, fun st => ⟨?_, by simp [m__law_due, g__law_due, mOf, outM, startD, sSeq, sIf, sRet, sNil, fOrT, fNotT, fTest, fIsi, fVar, fC, tyD, isiB, asB, fOp, fMk, aCons, aNil, bLen, lenL, opLt_int]⟩⟩
      rw [com st, if_pos good]
      cases e1 : isK "window" a <;> cases e2 : isK "top" a <;> (rw [e1] at ea1; rw [e2] at ea2; simp [outM, sSeq, sIf, sRet, sNil, fTest, fVar, fC, asB, fOp, fMk, aCons, aNil, fSub, ixD, ix0, ea1, ea2, fAnd, bLen, lenL, opEq_int])
    | [e], hm =>
      obtain ⟨oe, -⟩ := hm e (by simp)
      have kt := fun st => top_ok oe st
      have kg := fun st => linteger_ok oe 0 st
      refine ⟨isK "top" a && rngB 0 1000000 e, fun st => ⟨?_, ?_⟩⟩
      · rw [com st, if_pos good]
        cases e1 : isK "window" a with
        | true =>
          have e2 : isK "top" a = false := by
            cases a with
            | str x => exact kk_no e1
            | _ => rfl
          rw [e1] at ea1
          simp [outM, sSeq, sIf, sRet, sNil, fTest, fVar, fC, asB, fOp, fMk, aCons, aNil, fSub, ixD, ix0, ea1, fAnd, bLen, lenL, opEq_int, e2]
        | false =>
          rw [e1] at ea1
          cases e2 : isK "top" a <;> (rw [e2] at ea2; simp [outM, sSeq, sIf, sRet, sNil, fTest, fVar, fC, asB, fOp, fMk, aCons, aNil, fSub, ixD, ix0, ix3, ea1, ea2, fAnd, bLen, lenL, opEq_int, fCall, kt])
      · rw [due st (by simp)]
        by_cases hs : ∃ x, a = .str x
        case neg =>
          rw [if_neg (fun z => isS_of hs z.1)]
          have : isK "top" a = false := by cases a with | str x => exact absurd ⟨x, rfl⟩ hs | _ => rfl
          rw [this]
          rfl
        obtain ⟨x, rfl⟩ := hs
        rw [if_pos ⟨rfl, good⟩]
        have es := eqS_k "top" x
        have ns := neS_k "window" x
        cases e2 : isK "top" (.str x) with
        | true =>
          rw [e2] at es
          have kg' := kg st
          cases e with
          | int k =>
            by_cases hk : 0 ≤ k
            · have g : geB 0 (.int k) = true := by simp [geB, hk]
              rw [g] at kg'
              simp [outM, sSeq, sIf, sRet, sNil, fTest, fVar, fC, asB, fOp, fMk, aCons, aNil, fSub, ixD, ix0, ix3, es, fAnd, bLen, lenL, opEq_int, fCall, kg', pow106, opLe_int, rngB, hk]
            · have g : geB 0 (.int k) = false := by simp [geB]; omega
              rw [g] at kg'
              have g2 : rngB 0 1000000 (.int k) = false := by simp [rngB]; omega
              simp [outM, sSeq, sIf, sRet, sNil, fTest, fVar, fC, asB, fOp, fMk, aCons, aNil, fSub, ixD, ix0, ix3, es, fAnd, bLen, lenL, opEq_int, fCall, kg', g2]
          | _ => simp [outM, sSeq, sIf, sRet, sNil, fTest, fVar, fC, asB, fOp, fMk, aCons, aNil, fSub, ixD, ix0, ix3, es, fAnd, bLen, lenL, opEq_int, fCall, kg', geB, rngB]
        | false =>
          rw [e2] at es
          cases e1 : isK "window" (.str x) <;> (rw [e1] at ns; simp [outM, sSeq, sIf, sRet, sNil, fTest, fOrT, fVar, fC, asB, fOp, fMk, aCons, aNil, fSub, ixD, ix0, es, ns, bLen, lenL, opNe_int])
    | [e, f], hm =>
      obtain ⟨oe, -⟩ := hm e (by simp)
      obtain ⟨of, -⟩ := hm f (by simp)
      obtain ⟨p, q, z, k1, k2, k3⟩ := two_marks good.1 oe of
      refine ⟨isK "window" a && (p && (q && decide (z ≤ 0))), fun st => ⟨?_, ?_⟩⟩
      · rw [com st, if_pos good]
        have kw : isK "window" a = true → m_are_window_marks [b, e, f] st = some (.bl (p && (q && decide (z ≤ 0))), st) := fun _ => by
          cases p with
          | false => simp [m_are_window_marks, g_are_window_marks, mOf, outM, startD, sRet, fAnd, fCall, aCons, aNil, fVar, k1, asB]
          | true =>
            cases q with
            | false => simp [m_are_window_marks, g_are_window_marks, mOf, outM, startD, sRet, fAnd, fCall, aCons, aNil, fVar, k1, k2, asB]
            | true => simp [m_are_window_marks, g_are_window_marks, mOf, outM, startD, sRet, fAnd, fCall, aCons, aNil, fVar, k1, k2, k3 rfl rfl st, asB, fOp, fC, opLe_int]
        cases e1 : isK "window" a with
        | true =>
          rw [e1] at ea1
          simp [outM, sSeq, sIf, sRet, sNil, fTest, fVar, fC, asB, fOp, fMk, aCons, aNil, fSub, ixD, ix0, ix1, ix3, ix4, ea1, fAnd, bLen, lenL, opEq_int, fCall, kw e1]
        | false =>
          rw [e1] at ea1
          cases e2 : isK "top" a <;> (rw [e2] at ea2; simp [outM, sSeq, sIf, sRet, sNil, fTest, fVar, fC, asB, fOp, fMk, aCons, aNil, fSub, ixD, ix0, ix3, ea1, ea2, fAnd, bLen, lenL, opEq_int])
      · rw [due st (by simp)]
        by_cases hs : ∃ x, a = .str x
        case neg =>
          rw [if_neg (fun z => isS_of hs z.1)]
          have : isK "window" a = false := by cases a with | str x => exact absurd ⟨x, rfl⟩ hs | _ => rfl
          rw [this]
          rfl
        obtain ⟨x, rfl⟩ := hs
        rw [if_pos ⟨rfl, good⟩]
        have es := eqS_k "top" x
        have ns := neS_k "window" x
        cases e2 : isK "top" (.str x) with
        | true =>
          rw [e2] at es
          have e1 : isK "window" (.str x) = false := by
            cases e1 : isK "window" (.str x) with
            | false => rfl
            | true => rw [kk_no e1] at e2; cases e2
          simp [outM, sSeq, sIf, sRet, sNil, fTest, fVar, fC, asB, fOp, fMk, aCons, aNil, fSub, ixD, ix0, es, fAnd, bLen, lenL, opEq_int, e1]
        | false =>
          rw [e2] at es
          cases e1 : isK "window" (.str x) with
          | false =>
            rw [e1] at ns
            simp [outM, sSeq, sIf, sRet, sNil, fTest, fOrT, fVar, fC, asB, fOp, fMk, aCons, aNil, fSub, ixD, ix0, es, ns]
          | true =>
            rw [e1] at ns
            cases p with
            | false => simp [outM, sSeq, sIf, sRet, sNil, fTest, fOrT, fNotT, fVar, fC, asB, fOp, fMk, aCons, aNil, fSub, ixD, ix0, ix1, ix3, ix4, es, ns, bLen, lenL, opNe_int, fCall, k1]
            | true =>
              cases q with
              | false => simp [outM, sSeq, sIf, sRet, sNil, fTest, fOrT, fNotT, fVar, fC, asB, fOp, fMk, aCons, aNil, fSub, ixD, ix0, ix1, ix3, ix4, es, ns, bLen, lenL, opNe_int, fCall, k1, k2]
              | true => simp [outM, sSeq, sIf, sRet, sNil, fTest, fOrT, fNotT, fVar, fC, asB, fOp, fMk, aCons, aNil, fSub, ixD, ix0, ix1, ix3, ix4, es, ns, bLen, lenL, opNe_int, fCall, k1, k2, k3 rfl rfl st, opLe_int]
    | e :: f :: g :: r, hm =>
      have d1 : decide (((e :: f :: g :: r).length : Int) + 3 < 4) = false := by simp; omega
      have n4 : (((e :: f :: g :: r).length : Int) + 3 == 4) = false := by simp; omega
      have n5 : (((e :: f :: g :: r).length : Int) + 3 == 5) = false := by simp; omega
      have due' := fun st => due st d1
      clear due d1 l3
      generalize ((e :: f :: g :: r).length : Int) + 3 = n at hl n4 n5
      refine ⟨false, fun st => ⟨?_, ?_⟩⟩
      · rw [com st, if_pos good]
        cases e1 : isK "window" a <;> cases e2 : isK "top" a <;> (rw [e1] at ea1; rw [e2] at ea2; simp [outM, sSeq, sIf, sRet, sNil, fTest, fVar, fC, asB, fOp, fMk, aCons, aNil, fSub, ixD, ix0, ea1, ea2, fAnd, hl, opEq_int, n4, n5])
      · rw [due' st]
        by_cases hs : ∃ x, a = .str x
        case neg => rw [if_neg (fun z => isS_of hs z.1)]; rfl
        obtain ⟨x, rfl⟩ := hs
        rw [if_pos ⟨rfl, good⟩]
        have es := eqS_k "top" x
        have ns := neS_k "window" x
        cases e2 : isK "top" (.str x) <;> cases e1 : isK "window" (.str x) <;> (rw [e2] at es; rw [e1] at ns; simp [outM, sSeq, sIf, sRet, sNil, fTest, fOrT, fVar, fC, asB, fOp, fMk, aCons, aNil, fSub, ixD, ix0, es, ns, fAnd, hl, opEq_int, opNe_int, n4, n5])
end LW
/-! Locals by their slots: what stays; loops with the turn's number told. -/
namespace DL
open PySem PySem.Spec PyProof.Rows L2
/-- the first k slots are as they were -/
structure Ag (k : Nat) (e0 e : Lo) : Prop where
  len : e.length = e0.length
  at_ : ∀ i, i < k → e[i]? = e0[i]?
theorem Ag.refl (k : Nat) (e : Lo) : Ag k e e := ⟨rfl, fun _ _ => rfl⟩
theorem Ag.trans {k : Nat} {a b c : Lo} (h : Ag k a b) (g : Ag k b c) : Ag k a c := ⟨g.len.trans h.len, fun i hi => (g.at_ i hi).trans (h.at_ i hi)⟩
theorem Ag.mono {j k : Nat} {a b : Lo} (h : Ag k a b) (l : j ≤ k) : Ag j a b := ⟨h.len, fun i hi => h.at_ i (Nat.lt_of_lt_of_le hi l)⟩
theorem Ag.set {k j : Nat} {e0 e : Lo} (h : Ag k e0 e) (l : k ≤ j) (x : Option D) : Ag k e0 (e.set j x) := ⟨by rw [List.length_set]; exact h.len, fun i hi => by rw [List.getElem?_set_ne (by omega)]; exact h.at_ i hi⟩
theorem Ag.of {k i : Nat} {e0 e : Lo} {x : Option (Option D)} (h : Ag k e0 e) (h0 : e0[i]? = x) (l : i < k := by decide) : e[i]? = x := (h.at_ i l).trans h0
theorem loopS_at {tg : FG} {body : FS} {I : Nat → Lo → Store → Prop} : ∀ {ds : List D} {k : Nat}, (∀ m d, ds[m]? = some d → ∀ env st, I (k + m) env st → ∃ e1, tg d env = some e1 ∧ ∃ e2 s2, body e1 st = some (.nx, e2, s2) ∧ I (k + m + 1) e2 s2) →
    ∀ {env : Lo} {st : Store}, I k env st → ∃ e2 s2, loopS tg body ds env st = some (.nx, e2, s2) ∧ I (k + ds.length) e2 s2
  | [], k, _, env, st, i => ⟨env, st, rfl, i⟩
  | d :: ds, k, h, env, st, i => by
    obtain ⟨e1, h1, e2, s2, h2, i2⟩ := h 0 d rfl env st i
    obtain ⟨e3, s3, h3, i3⟩ := loopS_at (ds := ds) (k := k + 1) (fun m d hd env st j => by
      have := h (m + 1) d (by simpa using hd) env st (by rw [show k + (m + 1) = k + 1 + m by omega]; exact j)
      rwa [show k + (m + 1) + 1 = k + 1 + m + 1 by omega] at this) i2
    refine ⟨e3, s3, by simp [loopS, h1, h2, h3], ?_⟩
    rw [List.length_cons, show k + (ds.length + 1) = k + 1 + ds.length by omega]
    exact i3
theorem rg_at {hi : Int} {m : Nat} {d : D} (h : (rg 0 hi)[m]? = some d) : d = .int m ∧ (m : Int) < hi := by
  unfold rg at h
  rw [List.getElem?_map] at h
  obtain ⟨j, hj, rfl⟩ := Option.map_eq_some_iff.mp h
  obtain ⟨hl, e⟩ := List.getElem?_eq_some_iff.mp hj
  rw [List.length_range] at hl
  rw [List.getElem_range] at e
  subst e
  refine ⟨by simp, by omega⟩
end DL
namespace LW
open PySem PySem.Spec PyProof.Rows L2 DL TL
noncomputable abbrev bCheck : FS := (sSeq (sAsg (fMk bReprA (aCons (fVar 9) aNil)) (gN 10)) (sSeq (sAsg (fCall m_is_token (aCons (fVar 9) (aCons (fVar 3) aNil))) (gN 11)) (sIf (fOrT (fNotT (fTest (fIsi "bool" (fVar 11)))) (fOrT (fTest (fOp opNe (fVar 11) (fCall m__law_due (aCons (fVar 9) (aCons (fVar 3) aNil))))) (fTest (fOp opNeS (fMk bReprA (aCons (fVar 9) aNil)) (fVar 10))))) (sRet (fC (.bl false))) sNil)))
noncomputable abbrev bBend : FS := (sDrop (fApp (fVar 7) (fCall (m__law_bent 16) (aCons (fVar 2) (aCons (fSub (fVar 7) (fOp fdivI (fOp opMul (fCall m__law_pick (aCons (fVar 2) (aCons (fC (.int 2)) aNil))) (fVar 8)) (fC (.int 4)))) aNil)))))
noncomputable abbrev bTok : FS := (sSeq (sAsg (fNewL (aCons (fVar 6) aNil)) (gN 7)) (sSeq (sFor (iOfA asR1 (aCons (fC (.int 7)) aNil)) (gN 8) bBend) (sSeq (sFrzL 7) (sFor (iOf asL (fVar 7)) (gN 9) bCheck))))
noncomputable abbrev bStart : FS := (sSeq (sAsg (fCall m__law_tape (aCons (fVar 0) (aCons (fVar 1) aNil))) (gN 2)) (sSeq (sAsg (fOp opAdd (fC (.int 1)) (fCall m__law_pick (aCons (fVar 2) (aCons (fC (.int 4)) aNil)))) (gN 3)) (sSeq (sAsg (fCall m__law_view (aCons (fVar 2) (aCons (fVar 3) aNil))) (gN 4)) (sSeq (sAsg (fNewL (aCons (fOp opAdd (fMk mkTup (aCons (fC (.str (Str.ofString "window"))) (aCons (fVar 4) (aCons (fCall m__law_pick (aCons (fVar 2) (aCons (fC (.int 9)) aNil))) aNil)))) (fCall m__law_marks (aCons (fVar 2) (aCons (fVar 4) (aCons (fVar 3) aNil))))) aNil)) (gN 5)) (sSeq (sDrop (fApp (fVar 5) (fMk mkTup (aCons (fC (.str (Str.ofString "top"))) (aCons (fVar 4) (aCons (fCall m__law_pick (aCons (fVar 2) (aCons (fC (.int 9)) aNil))) (aCons (fCall m__law_one_of (aCons (fVar 2) (aCons (fMk mkLst (aCons (fC (.int 0)) (aCons (fC (.int 1)) (aCons (fC (.int 7)) (aCons (fOp powI (fC (.int 10)) (fC (.int 6))) aNil))))) aNil))) aNil))))))) (sSeq (sFrzL 5) (sFor (iOf asL (fVar 5)) (gN 6) bTok)))))))
noncomputable abbrev bLast : FS := (sIf (fTest (fOp opIsnt (fCall m_is_token (aCons (fVar 9) (aCons (fC (.int 3)) aNil))) (fC (.bl false)))) (sRet (fC (.bl false))) sNil)
/-- how great a thing is, bent k times -/
structure Th (d : D) (k : Nat) : Prop where
  ok : okD d = true
  w : wD d ≤ 47600 * 2 ^ k - 2600
  h : hD d ≤ 9 + 4 * k
  nl : nlD d ≤ 10 + k
theorem Th.bent {d e : D} {k : Nat} (t : Th d k) (b : Bent d e) : Th e (k + 1) := by
  have e2 : 47600 * 2 ^ (k + 1) = 2 * (47600 * 2 ^ k) := by rw [Nat.pow_succ]; omega
  have : 1 ≤ 2 ^ k := Nat.one_le_two_pow
  exact ⟨b.ok, by have := b.w; have := t.w; rw [e2]; omega, by have := b.h; have := t.h; omega, by have := b.nl; have := t.nl; omega⟩
theorem Th.mono {d : D} {j k : Nat} (t : Th d j) (l : j ≤ k) : Th d k := by
  have : 2 ^ j ≤ 2 ^ k := Nat.pow_le_pow_right (by decide) l
  exact ⟨t.ok, by have := t.w; omega, by have := t.h; omega, by have := t.nl; omega⟩
theorem Th.okw {d : D} (t : Th d 2) : okw d := ⟨t.ok, by have := t.w; omega⟩
theorem opNe_bl' (a : Bool) : opNe (.bl a) (.bl a) = some (.bl false) := by cases a <;> rfl
theorem check_turn {env : Lo} {w : Int} {d : D} {st : Store} (hl : env.length = 12) (hw : w ≤ 1000) (h3 : env[3]? = some (some (.int w))) (h9 : env[9]? = some (some d)) (t : Th d 2) :
    ∃ x y, bCheck env st = some (.nx, (env.set 10 (some x)).set 11 (some y), st) := by
  obtain ⟨x, hx⟩ := repr_any t.ok (by have := t.h; omega) t.okw.2
  obtain ⟨b, hb⟩ := token_ok hw t.okw (by have := t.nl; omega)
  refine ⟨.str x, .bl b, ?_⟩
  have h10 : 10 < env.length := by rw [hl]; decide
  have h11 : 11 < env.length := by rw [hl]; decide
  simp [h3, h9, h10, h11, hx, (hb st).1, (hb st).2, tyD, isiB, opNe_bl', opNeS_same]
theorem checks_ok {env : Lo} {w : Int} {xs : List D} {st : Store} (hl : env.length = 12) (hw : w ≤ 1000) (h3 : env[3]? = some (some (.int w))) (h7 : env[7]? = some (some (.lst xs))) (t : ∀ x ∈ xs, Th x 2) :
    ∃ e, sFor (iOf asL (fVar 7)) (gN 9) bCheck env st = some (.nx, e, st) ∧ Ag 9 env e := by
  obtain ⟨e, s, h, a, rfl⟩ := loopS_inv (tg := gN 9) (body := bCheck) (fun e s => Ag 9 env e ∧ s = st) (ds := xs) (fun d hd e s i => by
    obtain ⟨a, rfl⟩ := i
    obtain ⟨x, y, q⟩ := check_turn (env := e.set 9 (some d)) (d := d) (st := s) (by rw [List.length_set, a.len, hl]) hw (by rw [List.getElem?_set_ne (by decide)]; exact a.of h3) (by rw [List.getElem?_set_self (by rw [a.len, hl]; decide)]) (t d hd)
    exact ⟨e.set 9 (some d), rfl, .nx, _, s, q, .inl rfl, ((a.set (by decide) _).set (by decide) _).set (by decide) _, rfl⟩) (env := env) (st := st) ⟨.refl _ _, rfl⟩
  exact ⟨e, (for_step (by simp [h7])).trans h, a⟩
/-- what has been bent so far -/
def Bends (xs : List D) : Prop := ∀ j x, xs[j]? = some x → Th x (min j 2)
theorem bend_turn {env : Lo} {n k i : Nat} {xs : List D} {st : Store} (hl : env.length = 12) (h2 : env[2]? = some (some (.ref n))) (h7 : env[7]? = some (some (.ref k))) (h8 : env[8]? = some (some (.int i))) (t : Tp st n) (kn : k ≠ n)
    (hk : st[k]? = some (.lst xs)) (hx : xs.length = i + 1) (hi : i < 7) (b : Bends xs) :
    ∃ e s2, bBend env st = some (.nx, env, s2) ∧ Tp s2 n ∧ s2[k]? = some (.lst (xs ++ [e])) ∧ Bends (xs ++ [e]) := by
  obtain ⟨r, s1, g1, r0, r2, t1, f1, l1⟩ := pick_ok t (s := 2) (by decide) (by decide)
  have hk1 : s1[k]? = some (.lst xs) := by rw [f1.at_ k kn (List.getElem?_eq_some_iff.mp hk).1]; exact hk
  have mu : opMul (.int r) (.int (i : Int)) = some (.int (r * i)) := opMul_int (bits32 r0 (by omega)) (bits32 (by omega) (by omega)) (by decide)
  have dv : fdivI (.int (r * i)) (.int 4) = some (.int (r * i / 4)) := fdivI_int (by decide) (by decide)
  obtain ⟨j, hj, hj2, jb⟩ : ∃ j : Nat, r * i / 4 = j ∧ j ≤ i ∧ j ≤ 1 := by
    have : r = 0 ∨ r = 1 := by omega
    rcases this with rfl | rfl
    · exact ⟨0, by simp, by omega, by omega⟩
    · exact ⟨i / 4, by omega, by omega, by omega⟩
  obtain ⟨x, hxj⟩ : ∃ x, xs[j]? = some x := ⟨xs[j]'(by omega), List.getElem?_eq_getElem (by omega)⟩
  have hat : L2.atI xs (j : Int) = some x := atI_nat hxj
  have tx := b j x hxj
  have tx1 : Th x 1 := tx.mono (by omega)
  obtain ⟨e, s2, g2, be, t2, f2, l2⟩ := bent_ok 16 t1 tx1.ok (by have := tx1.w; omega) (by have := tx1.h; omega)
  have hk2 : s2[k]? = some (.lst xs) := by rw [f2.at_ k kn (List.getElem?_eq_some_iff.mp hk1).1]; exact hk1
  have zl : xs.length < sizeLine := by rw [sizeLine_eq]; omega
  refine ⟨e, s2.set k (.lst (xs ++ [e])), ?_, t2.setNe kn _, by rw [List.getElem?_set_self (List.getElem?_eq_some_iff.mp hk2).1], fun m y hm => ?_⟩
  · simp [h2, h7, h8, fApp, appAt, isLs, ixD, hk, e_pick, g1, mu, dv, hj, hk1, hat, g2, hk2, zl]
  · by_cases z : m < xs.length
    · rw [List.getElem?_append_left z] at hm
      exact b m y hm
    · have em : m = xs.length := by
        have := (List.getElem?_eq_some_iff.mp hm).1
        simp at this
        omega
      subst em
      rw [List.getElem?_append_right (Nat.le_refl _), Nat.sub_self] at hm
      cases hm
      refine (tx.bent be).mono ?_
      omega
theorem token_turn {env : Lo} {n : Nat} {w : Int} {d : D} {st : Store} (hl : env.length = 12) (hw : w ≤ 1000) (h2 : env[2]? = some (some (.ref n))) (h3 : env[3]? = some (some (.int w))) (h6 : env[6]? = some (some d)) (t : Tp st n) (td : Th d 0) :
    ∃ e s2, bTok env st = some (.nx, e, s2) ∧ Ag 7 env e ∧ Tp s2 n := by
  have kn : st.length ≠ n := Nat.ne_of_gt t.lt
  obtain ⟨e1, s1, g1, ⟨a1, xs, x7, hk, hx, b1⟩, t1⟩ := loopS_at (tg := gN 8) (body := bBend) (I := fun m e s => (Ag 7 env e ∧ ∃ xs, e[7]? = some (some (.ref st.length)) ∧ s[st.length]? = some (.lst xs) ∧ xs.length = m + 1 ∧ Bends xs) ∧ Tp s n) (ds := rg 0 7) (k := 0) (fun m x hx e s i => by
    obtain ⟨⟨a, xs, x7, hk, hxl, b⟩, t⟩ := i
    obtain ⟨rfl, hm⟩ := rg_at hx
    have el : e.length = 12 := a.len.trans hl
    obtain ⟨y, s2, q, t2, hk2, b2⟩ := bend_turn (env := e.set 8 (some (.int m))) (n := n) (k := st.length) (i := m) (xs := xs) (st := s) (by rw [List.length_set, el]) (by rw [List.getElem?_set_ne (by decide)]; exact a.of h2) (by rw [List.getElem?_set_ne (by decide)]; exact x7) (by rw [List.getElem?_set_self (by rw [el]; decide)]) t kn hk (by omega) (by omega) b
    exact ⟨e.set 8 (some (.int m)), rfl, _, s2, q, ⟨a.set (by decide) _, _, by rw [List.getElem?_set_ne (by decide)]; exact x7, hk2, by rw [List.length_append, hxl, List.length_singleton], b2⟩, t2⟩)
    (env := env.set 7 (some (.ref st.length))) (st := st ++ [.lst [d]]) ⟨⟨(Ag.refl 7 env).set (by decide) _, [d], by rw [List.getElem?_set_self (by rw [hl]; decide)], by rw [List.getElem?_append_right (Nat.le_refl _), Nat.sub_self]; rfl, rfl, fun j x hj => by
      cases j with
      | zero => cases hj; exact td
      | succ j => cases hj⟩, t.app _⟩
  have tx : ∀ x ∈ xs, Th x 2 := fun x hx => by
    obtain ⟨j, hj⟩ := List.mem_iff_getElem?.mp hx
    exact (b1 j x hj).mono (by omega)
  have l1 : e1.length = 12 := a1.len.trans hl
  obtain ⟨e2, g2, a2⟩ := checks_ok (env := e1.set 7 (some (.lst xs))) (st := s1.set st.length .dead) (by rw [List.length_set, l1]) hw (by rw [List.getElem?_set_ne (by decide)]; exact a1.of h3) (by rw [List.getElem?_set_self (by rw [l1]; decide)]) tx
  have ra := asR1_ok (n := 7) (by decide) (by decide)
  have z1 : 1 ≤ sizeLine := by decide
  refine ⟨e2, s1.set st.length .dead, ?_, (a1.set (by decide) _).trans (a2.mono (by decide)), t1.setNe kn _⟩
  have q1 : (sAsg (fNewL (aCons (fVar 6) aNil)) (gN 7)) env st = some (.nx, env.set 7 (some (.ref st.length)), st ++ [.lst [d]]) := by simp [h6, fNewL, z1]
  have q3 : (sFrzL 7) e1 s1 = some (.nx, e1.set 7 (some (.lst xs)), s1.set st.length .dead) := by simp [sFrzL, x7, hk]
  rw [bTok, seq_step q1, seq_step ((for_step (by simp [ra])).trans g1), seq_step q3]
  exact g2
/-! drawn marks -/
theorem Mk.sm {o : List (Nat × Bool)} {a : Mk} (h : a.ok o) (ol : o.length ≤ 4) : Sm 3 1000 a.d := by
  cases a with
  | st => exact (Sm.tup (SmL.cons (sm_name (s := "start") (by decide +kernel) 0) SmL.nil)).mono (by decide) (by decide)
  | en => exact (Sm.tup (SmL.cons (sm_name (s := "end") (by decide +kernel) 0) SmL.nil)).mono (by decide) (by decide)
  | k p f =>
    have := KD_sm h ol
    cases f with
    | false => exact (Sm.tup (SmL.cons (sm_name (s := "before") (by decide +kernel) 1) (SmL.cons this (SmL.nil.mono (Nat.zero_le _) (Nat.le_refl _))))).mono (by decide) (by decide)
    | true => exact (Sm.tup (SmL.cons (sm_name (s := "after") (by decide +kernel) 1) (SmL.cons this (SmL.nil.mono (Nat.zero_le _) (Nat.le_refl _))))).mono (by decide) (by decide)
theorem eq_sm {a b : D} {m n k l : Nat} (ha : Sm m n a) (hb : Sm k l b) (h1 : m ≤ 64) (h2 : k ≤ 64) : ∃ e, opEq a b = some (.bl e) ∧ opNe a b = some (.bl (!e)) := by
  obtain ⟨p, p1, p2⟩ := ha.shaped h1
  obtain ⟨q, q1, q2⟩ := hb.shaped h2
  exact ⟨PyData.eqv p q, by simp [opEq, p1, q1, p2, q2], by simp [opNe, p1, q1, p2, q2]⟩
theorem mark_ok {st : Store} {n : Nat} {w : Int} {c : C} {o : List (Nat × Bool)} {sh : List Nat} (t : Tp st n) (h0 : 0 < w) (h1 : w ≤ 10) (ok : VOk w.toNat c o sh) :
    ∃ a s2, m__law_mark [.ref n, vD c o sh, .int w] st = some (Mk.d a, s2) ∧ a.ok o ∧ Tp s2 n ∧ Fr n st s2 ∧ s2.length = st.length := by
  obtain ⟨r, s1, g1, r0, r7, t1, f1, l1⟩ := pick_ok t (s := 7) (by decide) (by decide)
  have z1 : 1 ≤ sizeLine := by decide
  have z2 : 2 ≤ sizeLine := by decide
  by_cases c2 : r < 2
  · have : r = 0 ∨ r = 1 := by omega
    rcases this with rfl | rfl
    · exact ⟨.st, s1, by simp [m__law_mark, g__law_mark, mOf, outM, startD, e_pick, g1, opLt_int, z1, z2, ix0, Mk.d, nm], trivial, t1, f1, l1⟩
    · exact ⟨.en, s1, by simp [m__law_mark, g__law_mark, mOf, outM, startD, e_pick, g1, opLt_int, z1, z2, ix1, Mk.d, nm], trivial, t1, f1, l1⟩
  · obtain ⟨i, s2, g2, i0, i9, t2, f2, l2⟩ := pick_ok t1 (s := 9) (by decide) (by decide)
    obtain ⟨vs, s3, g3, lv, pv, t3, f3, l3⟩ := values_ok t2 (w := w) (by omega) h1
    have hl : vs.length = w.toNat := by omega
    have oc : ∀ p ∈ o, p.1 < vs.length := fun p hp => by rw [hl]; exact ok.oc p hp
    have kk : m__law_key [vD c o sh, .int (1 + i), .tup vs] s3 = some (kD o vs (1 + i), s3) := lkey_ok (xv := c.d) (yv := .tup (sh.map fun n : Nat => .int n)) s3 oc ok.ol
    obtain ⟨d, s4, g4, md, t4, f4, l4⟩ := one_ok (xs := [.str (Str.ofString "before"), .str (Str.ofString "after")]) t3 (by simp) (by simp)
    have kok : KOk o (o.map fun p => atV vs p.1) (1 + i) := ⟨by simp, fun v hv => by
      obtain ⟨p, hp, rfl⟩ := List.mem_map.mp hv
      exact pv _ (mem_val (oc p hp)), by omega, by omega⟩
    have run : ∀ x : Str, d = .str x → m__law_mark [.ref n, vD c o sh, .int w] st = some (.tup [.str x, KD (o.map fun p => atV vs p.1) (1 + i)], s4) := fun x hx => by
      subst hx
      simp [m__law_mark, g__law_mark, mOf, outM, startD, e_pick, e_one, g1, opLt_int, c2, opAdd_int, g2, g3, kk, g4, z2]
      rfl
    have fr := ((f1.trans f2).trans f3).trans f4
    have ln : s4.length = st.length := by rw [l4, l3, l2, l1]
    simp only [List.mem_cons, List.not_mem_nil, or_false] at md
    rcases md with hd | hd
    · exact ⟨.k (o.map fun p => atV vs p.1, 1 + i) false, s4, run _ hd, kok, t4, fr, ln⟩
    · exact ⟨.k (o.map fun p => atV vs p.1, 1 + i) true, s4, run _ hd, kok, t4, fr, ln⟩
theorem marks_ok {st : Store} {n : Nat} {w : Int} {c : C} {o : List (Nat × Bool)} {sh : List Nat} (t : Tp st n) (h0 : 0 < w) (h1 : w ≤ 10) (ok : VOk w.toNat c o sh) :
    ∃ a b s2, m__law_marks [.ref n, vD c o sh, .int w] st = some (.tup [Mk.d a, Mk.d b], s2) ∧ a.ok o ∧ b.ok o ∧ Tp s2 n ∧ Fr n st s2 ∧ s2.length = st.length := by
  obtain ⟨a, s1, g1, oa, t1, f1, l1⟩ := mark_ok t h0 h1 ok
  obtain ⟨b, s2, g2, ob, t2, f2, l2⟩ := mark_ok t1 h0 h1 ok
  have z1 : 1 ≤ sizeLine := by decide
  have z2 : 2 ≤ sizeLine := by decide
  have fr := f1.trans f2
  have ln : s2.length = st.length := by rw [l2, l1]
  have sa := Mk.sm oa ok.ol
  have sb := Mk.sm ob ok.ol
  have se : Sm 1 100 (.tup [nm "end"]) := (Sm.tup (SmL.cons (sm_name (s := "end") (by decide +kernel) 0) SmL.nil)).mono (by decide) (by decide)
  have ss : Sm 1 100 (.tup [nm "start"]) := (Sm.tup (SmL.cons (sm_name (s := "start") (by decide +kernel) 0) SmL.nil)).mono (by decide) (by decide)
  obtain ⟨e1, q1, -⟩ := eq_sm sa se (by decide) (by decide)
  obtain ⟨e2, q2, -⟩ := eq_sm sb ss (by decide) (by decide)
  obtain ⟨e3, -, q3⟩ := eq_sm sb se (by decide) (by decide)
  obtain ⟨e4, -, q4⟩ := eq_sm sa ss (by decide) (by decide)
  simp only [nm] at q1 q2 q3 q4
  suffices h : ∃ x y, m__law_marks [.ref n, vD c o sh, .int w] st = some (.tup [Mk.d x, Mk.d y], s2) ∧ x.ok o ∧ y.ok o by
    obtain ⟨x, y, h, h2, h3⟩ := h
    exact ⟨x, y, s2, h, h2, h3, t2, fr, ln⟩
  by_cases c1 : e1 = true ∨ e2 = true
  · have hc : (e1 || e2) = true := by rcases c1 with h | h <;> simp [h]
    cases h3 : e3 <;> cases h4 : e4 <;> subst h3 h4
    · refine ⟨b, a, ?_, ob, oa⟩
      cases e1 with
      | true => simp [m__law_marks, g__law_marks, mOf, outM, startD, g1, g2, z1, z2, q1, q2, q3, q4]
      | false => cases e2 with
        | true => simp [m__law_marks, g__law_marks, mOf, outM, startD, g1, g2, z1, z2, q1, q2, q3, q4]
        | false => cases hc
    all_goals
      refine ⟨.st, .en, ?_, trivial, trivial⟩
      show m__law_marks _ _ = some (.tup [.tup [.str (Str.ofString "start")], .tup [.str (Str.ofString "end")]], s2)
      cases e1 with
      | true => simp [m__law_marks, g__law_marks, mOf, outM, startD, g1, g2, z1, z2, q1, q2, q3, q4]
      | false => cases e2 with
        | true => simp [m__law_marks, g__law_marks, mOf, outM, startD, g1, g2, z1, z2, q1, q2, q3, q4]
        | false => cases hc
  · have h1' : e1 = false := by cases e1 with | false => rfl | true => exact absurd (.inl rfl) c1
    have h2' : e2 = false := by cases e2 with | false => rfl | true => exact absurd (.inr rfl) c1
    subst h1' h2'
    by_cases both : (∃ p f, a = .k p f) ∧ ∃ q g, b = .k q g
    · obtain ⟨⟨p, f, rfl⟩, q, g, rfl⟩ := both
      have sg : m__law_sign [vD c o sh, KD p.1 p.2, KD q.1 q.2] s2 = some (.int (sgn (tri p.1 q.1 o) p.2 q.2), s2) := sign_ok (xv := c.d) (yv := .tup (sh.map fun n : Nat => .int n)) oa ob s2
      generalize sgn (tri p.1 q.1 o) p.2 q.2 = z at sg
      by_cases z0 : 0 < z
      · refine ⟨.k q g, .k p f, ?_, ob, oa⟩
        cases f <;> cases g <;> (simp only [Mk.d, nm] at g1 g2 q1 q2 ⊢; simp [m__law_marks, g__law_marks, mOf, outM, startD, g1, g2, z1, z2, q1, q2, ix0, ix1, opEq_int, sg, opGt, orD, gtI, onI, z0])
      · by_cases zz : z = 0 ∧ f = true
        · obtain ⟨rfl, rfl⟩ := zz
          have af : opEq (.str (Str.ofString "after")) (.str (Str.ofString "after")) = some (.bl true) := eqL (by decide +kernel) (by decide +kernel) (by decide +kernel)
          refine ⟨.k q g, .k p true, ?_, ob, oa⟩
          cases g <;> (simp only [Mk.d, nm] at g1 g2 q1 q2 ⊢; simp [m__law_marks, g__law_marks, mOf, outM, startD, g1, g2, z1, z2, q1, q2, ix0, ix1, opEq_int, sg, opGt, orD, gtI, onI, af])
        · refine ⟨.k p f, .k q g, ?_, oa, ob⟩
          have bf : opEq (.str (Str.ofString "before")) (.str (Str.ofString "after")) = some (.bl false) := eqL (by decide +kernel) (by decide +kernel) (by decide +kernel)
          by_cases ze : z = 0
          · subst ze
            cases f with
            | true => exact absurd ⟨rfl, rfl⟩ zz
            | false => cases g <;> (simp only [Mk.d, nm] at g1 g2 q1 q2 ⊢; simp [m__law_marks, g__law_marks, mOf, outM, startD, g1, g2, z1, z2, q1, q2, ix0, ix1, opEq_int, sg, opGt, orD, gtI, onI, bf])
          · cases f <;> cases g <;> (simp only [Mk.d, nm] at g1 g2 q1 q2 ⊢; simp [m__law_marks, g__law_marks, mOf, outM, startD, g1, g2, z1, z2, q1, q2, ix0, ix1, opEq_int, sg, opGt, orD, gtI, onI, z0, ze])
    · refine ⟨a, b, ?_, oa, ob⟩
      cases a with
      | k p f => cases b with
        | k q g => exact absurd ⟨⟨p, f, rfl⟩, q, g, rfl⟩ both
        | _ => cases f <;> (simp only [Mk.d, nm] at g1 g2 q1 q2 ⊢; simp [m__law_marks, g__law_marks, mOf, outM, startD, g1, g2, z1, z2, q1, q2, opEq_int])
      | _ => cases b with
        | k q g => cases g <;> (simp only [Mk.d, nm] at g1 g2 q1 q2 ⊢; simp [m__law_marks, g__law_marks, mOf, outM, startD, g1, g2, z1, z2, q1, q2, opEq_int])
        | _ => (simp only [Mk.d, nm] at g1 g2 q1 q2 ⊢; simp [m__law_marks, g__law_marks, mOf, outM, startD, g1, g2, z1, z2, q1, q2, opEq_int])
end LW
namespace LW
open PySem PySem.Spec PyProof.Rows L2 DL TL
structure Gd (d : D) : Prop where
  ok : okD d = true
  w : wD d ≤ 30000
  h : hD d ≤ 8
  nl : nlD d ≤ 10
theorem pv_nl {d : D} (h : pvB d = true) : nlD d = 0 := by cases d <;> first | rfl | (cases h; done)
theorem C.nl {w : Nat} : ∀ c : C, c.ok w → nlD c.d ≤ 10
  | .all, _ => by simp [C.d, nlD, nlL]
  | .eq c v, h => by simp [C.d, nlD, nlL, pv_nl h.2]
  | .lt c v, h => by simp [C.d, nlD, nlL, pv_nl h.2]
  | .st c x, h => by simp [C.d, nlD, nlL]
  | .one c us, h => by
    have h1 : nlL us ≤ 10 := nlL_le.mpr fun u hu => by rw [pv_nl (h.2.2.2 u hu)]; omega
    have h2 := h.2.1
    simp [C.d, nlD, nlL]
    omega
  | .not p, h => by
    have hp := C.nl p h
    simp [C.d, nlD, nlL]
    omega
  | .and p q, h => by
    have hp := C.nl p h.1
    have hq := C.nl q h.2
    simp [C.d, nlD, nlL]
    omega
  | .or p q, h => by
    have hp := C.nl p h.1
    have hq := C.nl q h.2
    simp [C.d, nlD, nlL]
    omega
theorem VOk.gd {w : Nat} (hw : w ≤ 10) {c : C} {o : List (Nat × Bool)} {sh : List Nat} (h : VOk w c o sh) : Gd (vD c o sh) := by
  have f := h.fit hw
  refine ⟨f.ok, f.wd, f.hd, ?_⟩
  have h1 := C.nl c h.co
  have h2 : nlL (vOrd o) ≤ 10 := nlL_le.mpr fun u hu => by
    obtain ⟨p, hp, rfl⟩ := List.mem_map.mp hu
    simp [nlD, nlL]
  have h3 : nlL (sh.map fun n : Nat => D.int n) ≤ 10 := nlL_le.mpr fun u hu => by
    obtain ⟨p, hp, rfl⟩ := List.mem_map.mp hu
    simp [nlD]
  have h4 := h.ol
  have h5 := h.sl
  have h6 : (vOrd o).length = o.length := by simp [vOrd]
  have h7 : (sh.map fun n : Nat => D.int n).length = sh.length := List.length_map _
  show max 3 (max (nlD c.d) (max (max (vOrd o).length (nlL (vOrd o))) (max (max (sh.map fun n : Nat => D.int n).length (nlL (sh.map fun n : Nat => D.int n))) 0))) ≤ 10
  omega
theorem Mk.fit {o : List (Nat × Bool)} {a : Mk} (h : a.ok o) (ol : o.length ≤ 4) : Fit a.d 2 6000 := by
  have one : ∀ s : String, asc 16 (Str.ofString s) = true → Fit (.tup [nm s]) 2 6000 := fun s hs => (Fit.tup (FitL.cons (fit_nm hs) FitL.nil)).mono (by decide) (by decide)
  have two : ∀ (s : String) (p : Kt), KOk o p.1 p.2 → asc 16 (Str.ofString s) = true → Fit (.tup [nm s, KD p.1 p.2]) 2 6000 := fun s p hp hs => by
    have ff : FitL (p.1 ++ [D.int p.2]) 0 ((p.1 ++ [D.int p.2]).length * 211) := FitL.all fun d hd => by
      rcases List.mem_append.mp hd with hd | hd
      · exact fit_pv (hp.v d hd)
      · rw [List.mem_singleton.mp hd]
        exact Fit.int (by have := hp.i0; have := hp.i1; omega)
    have l5 : (p.1 ++ [D.int p.2]).length * 211 ≤ 5 * 211 := Nat.mul_le_mul_right _ (by have := hp.l; simp; omega)
    exact (Fit.tup (FitL.cons (fit_nm hs) (FitL.cons ((Fit.tup ff).mono (Nat.le_refl 1) l5) FitL.nil))).mono (by decide) (by decide)
  cases a with
  | st => exact one "start" (by decide)
  | en => exact one "end" (by decide)
  | k p f => cases f with
    | false => exact two "before" p h (by decide)
    | true => exact two "after" p h (by decide)
end LW
namespace LW
open PySem PySem.Spec PyProof.Rows L2 DL TL
def vNil : D := .tup [.tup [.str (Str.ofString "all")], .tup [], .tup []]
theorem vNil_ok : (okw vNil ∧ nlD vNil ≤ 60) ∧ viewB 1 vNil = true ∧ viewB 3 vNil = true := by
  have ok : (((okD vNil && decide (wD vNil ≤ 200000)) && decide (nlD vNil ≤ 60)) && (viewB 1 vNil && viewB 3 vNil)) = true := by decide +kernel
  rw [Bool.and_eq_true, Bool.and_eq_true, Bool.and_eq_true, Bool.and_eq_true] at ok
  exact ⟨⟨⟨ok.1.1.1, of_decide_eq_true ok.1.1.2⟩, of_decide_eq_true ok.1.2⟩, ok.2.1, ok.2.2⟩
theorem zero_okw : okw (.int 0) := ⟨by decide +kernel, by decide⟩
theorem nm_okw (s : String) (h : asc 16 (Str.ofString s) = true) : okw (.str (Str.ofString s)) := by
  have f := fit_nm h
  exact ⟨f.ok, Nat.le_trans f.wd (by decide)⟩
theorem w_is (st : Store) : m_is_token [.tup [.str (Str.ofString "w"), vNil, .int 0, .int 0], .int 3] st = some (.bl false, st) := by
  have kv := view_is (w := 3) (by decide) vNil_ok.1.1 vNil_ok.1.2 st
  rw [vNil_ok.2.2] at kv
  have ki := int_ok zero_okw st
  have e1 := eqA_k (nm_okw "w" (by decide +kernel)).1 "window"
  have e2 := eqA_k (nm_okw "w" (by decide +kernel)).1 "top"
  rw [show isK "window" (.str (Str.ofString "w")) = false by decide +kernel] at e1
  rw [show isK "top" (.str (Str.ofString "w")) = false by decide +kernel] at e2
  simp only [isInt] at ki
  simp [m_is_token, g_is_token, mOf, outM, startD, sSeq, sIf, sRet, sNil, fOrT, fNotT, fTest, fIsi, fVar, fC, tyD, isiB, asB, fOp, fMk, aCons, aNil, bLen, lenL, opLt_int, fCall, fSub, ixD, ix0, ix1, ix2, kv, ki, e1, e2, fAnd]
theorem top_is (st : Store) : m_is_token [.tup [.str (Str.ofString "top"), vNil, .int 0, .int 0], .int 1] st = some (.bl true, st) := by
  have kv := view_is (w := 1) (by decide) vNil_ok.1.1 vNil_ok.1.2 st
  rw [vNil_ok.2.1] at kv
  have ki := int_ok zero_okw st
  have kt := top_ok zero_okw st
  have e1 := eqA_k (nm_okw "top" (by decide +kernel)).1 "window"
  have e2 := eqA_k (nm_okw "top" (by decide +kernel)).1 "top"
  rw [show isK "window" (.str (Str.ofString "top")) = false by decide +kernel] at e1
  rw [show isK "top" (.str (Str.ofString "top")) = true by decide +kernel] at e2
  rw [show rngB 0 1000000 (.int 0) = true by decide] at kt
  simp only [isInt] at ki
  simp [m_is_token, g_is_token, mOf, outM, startD, sSeq, sIf, sRet, sNil, fOrT, fNotT, fTest, fIsi, fVar, fC, tyD, isiB, asB, fOp, fMk, aCons, aNil, bLen, lenL, opLt_int, opEq_int, fCall, fSub, ixD, ix0, ix1, ix2, ix3, kv, ki, kt, e1, e2, fAnd]
def things : List D := [.non, .int 5, .bl true, .str (Str.ofString "window"), .tup [], .lst [], .dct [], .tup [.str (Str.ofString "window")], .tup [.str (Str.ofString "top"), .int 1], .tup [.str (Str.ofString "w"), vNil, .int 0, .int 0]]
theorem things_ok (st : Store) : ∀ v ∈ things, m_is_token [v, .int 3] st = some (.bl false, st) := by
  intro v hv
  simp only [things, List.mem_cons, List.not_mem_nil, or_false] at hv
  rcases hv with rfl | rfl | rfl | rfl | rfl | rfl | rfl | rfl | rfl | rfl
  case inr.inr.inr.inr.inr.inr.inr.inr.inr => exact w_is st
  all_goals simp [m_is_token, g_is_token, mOf, outM, startD, sSeq, sIf, sRet, fOrT, fNotT, fTest, fIsi, fVar, fC, tyD, isiB, asB, fOp, fMk, aCons, aNil, bLen, lenL, opLt_int]
/-! the tokens that are drawn -/
theorem mk_nl {o : List (Nat × Bool)} {a : Mk} (h : a.ok o) (ol : o.length ≤ 4) : nlD a.d ≤ 10 := by
  cases a with
  | st => decide
  | en => decide
  | k p f =>
    have h1 : nlL (p.1 ++ [.int p.2]) ≤ 10 := nlL_le.mpr fun u hu => by
      rcases List.mem_append.mp hu with hu | hu
      · rw [pv_nl (h.v u hu)]; omega
      · rw [List.mem_singleton.mp hu]; simp [nlD]
    have h2 := h.l
    cases f <;> (simp [Mk.d, nm, KD, nlD, nlL]; omega)
theorem win_th {w : Nat} (hw : w ≤ 10) {c : C} {o : List (Nat × Bool)} {sh : List Nat} (h : VOk w c o sh) {r : Int} (r0 : 0 ≤ r) (r9 : r < 9) {a b : Mk} (ha : a.ok o) (hb : b.ok o) : Th (.tup [.str (Str.ofString "window"), vD c o sh, .int r, a.d, b.d]) 0 := by
  have g := h.gd hw
  have fa := Mk.fit ha h.ol
  have fb := Mk.fit hb h.ol
  have fn := fit_nm (s := "window") (by decide +kernel)
  have fi : Fit (.int r) 0 210 := Fit.int (by omega)
  have na := mk_nl ha h.ol
  have nb := mk_nl hb h.ol
  have gn := g.nl
  refine ⟨?_, ?_, ?_, ?_⟩
  · show (okD (.str (Str.ofString "window")) && (okD (vD c o sh) && (okD (.int r) && (okD a.d && (okD b.d && true))))) = true
    rw [fn.ok, g.ok, fi.ok, fa.ok, fb.ok]; rfl
  · show wD _ + 1 + (wD _ + 1 + (wD _ + 1 + (wD _ + 1 + (wD _ + 1 + 0)))) ≤ _
    have := fn.wd; have := g.w; have := fi.wd; have := fa.wd; have := fb.wd
    omega
  · show max _ (max _ (max _ (max _ (max _ 0)))) + 1 ≤ _
    have := fn.hd; have := g.h; have := fi.hd; have := fa.hd; have := fb.hd
    omega
  · show max 5 (max 0 (max _ (max 0 (max _ (max _ 0))))) ≤ _
    omega
theorem top_th {w : Nat} (hw : w ≤ 10) {c : C} {o : List (Nat × Bool)} {sh : List Nat} (h : VOk w c o sh) {r k : Int} (r0 : 0 ≤ r) (r9 : r < 9) (k0 : 0 ≤ k) (k1 : k ≤ 1000000) : Th (.tup [.str (Str.ofString "top"), vD c o sh, .int r, .int k]) 0 := by
  have g := h.gd hw
  have fn := fit_nm (s := "top") (by decide +kernel)
  have fi : Fit (.int r) 0 210 := Fit.int (by omega)
  have fk : Fit (.int k) 0 210 := Fit.int (by omega)
  have gn := g.nl
  refine ⟨?_, ?_, ?_, ?_⟩
  · show (okD (.str (Str.ofString "top")) && (okD (vD c o sh) && (okD (.int r) && (okD (.int k) && true)))) = true
    rw [fn.ok, g.ok, fi.ok, fk.ok]; rfl
  · show wD _ + 1 + (wD _ + 1 + (wD _ + 1 + (wD _ + 1 + 0))) ≤ _
    have := fn.wd; have := g.w; have := fi.wd; have := fk.wd
    omega
  · show max _ (max _ (max _ (max _ 0))) + 1 ≤ _
    have := fn.hd; have := g.h; have := fi.hd; have := fk.hd
    omega
  · show max 4 (max 0 (max _ (max 0 (max 0 0)))) ≤ _
    omega
theorem start_turn {ns : List Int} (hb : ∀ z ∈ ns, Builtin.Int.intBits z ≤ 1048576) {s : Int} (s0 : 0 ≤ s) (s1 : s < 1000) {env : Lo} {st : Store} (hl : env.length = 12) (h0 : env[0]? = some (some (.scr ns))) (h1 : env[1]? = some (some (.int s))) :
    ∃ e s2, bStart env st = some (.nx, e, s2) ∧ Ag 2 env e := by
  obtain ⟨sa, ha, -, ta, -⟩ := tape_ok (st := st) hb s0 s1
  generalize st.length = n at *
  obtain ⟨r, sb, gb, r0, r4, tb, fb, lb⟩ := pick_ok ta (s := 4) (by decide) (by decide)
  obtain ⟨c, o, sh, sc, gc, ok, tc, fc⟩ := view_ok tb (w := 1 + r) (by omega) (by omega)
  obtain ⟨v1, sd, gd, d0, d9, td, fd, ld⟩ := pick_ok tc (s := 9) (by decide) (by decide)
  obtain ⟨a, b, se, ge, oa, ob, te, fe, le⟩ := marks_ok td (w := 1 + r) (by omega) (by omega) ok
  have t5 : Tp (se ++ [.lst [.tup [.str (Str.ofString "window"), vD c o sh, .int v1, a.d, b.d]]]) n := te.app _
  obtain ⟨v2, sf, gf, f0, f9, tf, ff, lf⟩ := pick_ok t5 (s := 9) (by decide) (by decide)
  obtain ⟨d, sg, gg, md, tg, fg, lg⟩ := one_ok (xs := [.int 0, .int 1, .int 7, .int 1000000]) tf (by simp) (by simp)
  obtain ⟨k, rfl, k0, k1⟩ : ∃ k : Int, d = .int k ∧ 0 ≤ k ∧ k ≤ 1000000 := by
    simp only [List.mem_cons, List.not_mem_nil, or_false] at md
    rcases md with rfl | rfl | rfl | rfl <;> exact ⟨_, rfl, by decide, by decide⟩
  have kn : se.length ≠ n := Nat.ne_of_gt te.lt
  have hx : (se ++ [Ob.lst [.tup [.str (Str.ofString "window"), vD c o sh, .int v1, a.d, b.d]]])[se.length]? = some (.lst [.tup [.str (Str.ofString "window"), vD c o sh, .int v1, a.d, b.d]]) := by
    rw [List.getElem?_append_right (Nat.le_refl _), Nat.sub_self]; rfl
  have hg : sg[se.length]? = some (.lst [.tup [.str (Str.ofString "window"), vD c o sh, .int v1, a.d, b.d]]) := by
    rw [(ff.trans fg).at_ _ kn (List.getElem?_eq_some_iff.mp hx).1]; exact hx
  have wt : (1 + r).toNat ≤ 10 := by omega
  -- the tokens
  let tk : List D := [.tup [.str (Str.ofString "window"), vD c o sh, .int v1, a.d, b.d], .tup [.str (Str.ofString "top"), vD c o sh, .int v2, .int k]]
  have th : ∀ x ∈ tk, Th x 0 := fun x hx => by
    rcases List.mem_cons.mp hx with rfl | hx
    · exact win_th wt ok d0 d9 oa ob
    · rw [List.mem_singleton.mp hx]; exact top_th wt ok f0 f9 k0 k1
  let e5 : Lo := (((env.set 2 (some (.ref n))).set 3 (some (.int (1 + r)))).set 4 (some (vD c o sh))).set 5 (some (.ref se.length))
  let e6 : Lo := e5.set 5 (some (.lst tk))
  have l6 : e6.length = 12 := by simp [e6, e5, hl]
  have a6 : e6[2]? = some (some (.ref n)) := by simp [e6, e5, hl]
  have b6 : e6[3]? = some (some (.int (1 + r))) := by simp [e6, e5, hl]
  obtain ⟨e7, s7, g7, ag7, t7⟩ := loopS_inv (tg := gN 6) (body := bTok) (fun e s => Ag 6 e6 e ∧ Tp s n) (ds := tk) (fun d hd e s i => by
    obtain ⟨ag, t⟩ := i
    have el := ag.len.trans l6
    obtain ⟨e2, s2, q, ag2, t2⟩ := token_turn (env := e.set 6 (some d)) (st := s) (by rw [List.length_set, el]) (w := 1 + r) (by omega) (by rw [List.getElem?_set_ne (by decide)]; exact ag.of a6) (by rw [List.getElem?_set_ne (by decide)]; exact ag.of b6) (by rw [List.getElem?_set_self (by rw [el]; decide)]) t (th d hd)
    exact ⟨e.set 6 (some d), rfl, .nx, e2, s2, q, .inl rfl, (ag.set (by decide) _).trans (ag2.mono (by decide)), t2⟩) (env := e6) (st := (sg.set se.length (.lst tk)).set se.length .dead) ⟨.refl _ _, (tg.setNe kn _).setNe kn _⟩
  refine ⟨e7, s7, ?_, ?_⟩
  · have g2 : 2 < env.length := by rw [hl]; decide
    have g3 : 3 < env.length := by rw [hl]; decide
    have g4 : 4 < env.length := by rw [hl]; decide
    have g5 : 5 < env.length := by rw [hl]; decide
    have z1 : 1 ≤ sizeLine := by decide
    have z4 : 4 ≤ sizeLine := by decide
    have z3 : 3 ≤ sizeLine := by decide
    have z1' : 1 < sizeLine := by decide
    have ad : opAdd (.tup [.str (Str.ofString "window"), vD c o sh, .int v1]) (.tup [a.d, b.d]) = some (.tup [.str (Str.ofString "window"), vD c o sh, .int v1, a.d, b.d]) := addT_ok (by simp)
    have q1 : (sAsg (fCall m__law_tape (aCons (fVar 0) (aCons (fVar 1) aNil))) (gN 2)) env st = some (.nx, env.set 2 (some (.ref n)), sa) := by simp [h0, h1, e_tape, ha]
    have q2 : (sAsg (fOp opAdd (fC (.int 1)) (fCall m__law_pick (aCons (fVar 2) (aCons (fC (.int 4)) aNil)))) (gN 3)) (env.set 2 (some (.ref n))) sa = some (.nx, (env.set 2 (some (.ref n))).set 3 (some (.int (1 + r))), sb) := by simp [g2, e_pick, gb]
    have q3 : (sAsg (fCall m__law_view (aCons (fVar 2) (aCons (fVar 3) aNil))) (gN 4)) ((env.set 2 (some (.ref n))).set 3 (some (.int (1 + r)))) sb = some (.nx, ((env.set 2 (some (.ref n))).set 3 (some (.int (1 + r)))).set 4 (some (vD c o sh)), sc) := by simp [g2, g3, gc]
    have q4 : (sAsg (fNewL (aCons (fOp opAdd (fMk mkTup (aCons (fC (.str (Str.ofString "window"))) (aCons (fVar 4) (aCons (fCall m__law_pick (aCons (fVar 2) (aCons (fC (.int 9)) aNil))) aNil)))) (fCall m__law_marks (aCons (fVar 2) (aCons (fVar 4) (aCons (fVar 3) aNil))))) aNil)) (gN 5)) (((env.set 2 (some (.ref n))).set 3 (some (.int (1 + r)))).set 4 (some (vD c o sh))) sc = some (.nx, e5, se ++ [Ob.lst [.tup [.str (Str.ofString "window"), vD c o sh, .int v1, a.d, b.d]]]) := by
      simp [g2, g3, g4, e_pick, gd, ge, z3, ad, fNewL, z1, e5]
    have q5 : (sDrop (fApp (fVar 5) (fMk mkTup (aCons (fC (.str (Str.ofString "top"))) (aCons (fVar 4) (aCons (fCall m__law_pick (aCons (fVar 2) (aCons (fC (.int 9)) aNil))) (aCons (fCall m__law_one_of (aCons (fVar 2) (aCons (fMk mkLst (aCons (fC (.int 0)) (aCons (fC (.int 1)) (aCons (fC (.int 7)) (aCons (fOp powI (fC (.int 10)) (fC (.int 6))) aNil))))) aNil))) aNil))))))) e5 (se ++ [Ob.lst [.tup [.str (Str.ofString "window"), vD c o sh, .int v1, a.d, b.d]]]) = some (.nx, e5, sg.set se.length (.lst tk)) := by
      simp [e5, g2, g3, g4, g5, fApp, isLs, e_pick, e_one, gf, pow106, gg, z4, appAt, hg, z1', tk]
    have q6 : (sFrzL 5) e5 (sg.set se.length (.lst tk)) = some (.nx, e6, (sg.set se.length (.lst tk)).set se.length .dead) := by
      have hlt : se.length < sg.length := (List.getElem?_eq_some_iff.mp hg).1
      simp [sFrzL, e5, e6, g5, hlt]
    rw [bStart, seq_step q1, seq_step q2, seq_step q3, seq_step q4, seq_step q5, seq_step q6, for_step (ds := tk) (s1 := (sg.set se.length (.lst tk)).set se.length .dead) (by simp [e6, e5, g5])]
    exact g7
  · have a1 : Ag 2 env e6 := (((((Ag.refl 2 env).set (by decide) _).set (by decide) _).set (by decide) _).set (by decide) _).set (by decide) _
    exact a1.trans (ag7.mono (by decide))
theorem law_true (ns : List Int) (h : ns.length ≤ 63) (hb : ∀ z ∈ ns, Builtin.Int.intBits z ≤ 1048576) : ∃ st', m_law [.scr ns] [] = some (.bl true, st') := by
  let e0 : Lo := [some (.scr ns), none, none, none, none, none, none, none, none, none, none, none]
  obtain ⟨j, hj, hj2⟩ := starts_rg (ns := ns) (m := 2) (k := 5) (env := e0) (by decide) (by decide) (by decide) rfl h
  obtain ⟨e2, s2, h2, a2⟩ := loopS_inv (tg := gN 1) (body := bStart) (fun env _ => Ag 1 e0 env) (ds := rg 0 j) (fun d hd env st a => by
      obtain ⟨s, rfl, s0, s1⟩ := rg_mem hd
      have el : env.length = 12 := a.len
      obtain ⟨e, s2, q, a2⟩ := start_turn (env := env.set 1 (some (.int s))) (st := st) hb s0 (by omega) (by rw [List.length_set, el]) (by rw [List.getElem?_set_ne (by decide)]; exact a.of rfl) (by rw [List.getElem?_set_self (by rw [el]; decide)])
      exact ⟨env.set 1 (some (.int s)), rfl, .nx, e, s2, q, .inl rfl, (a.set (by decide) _).trans (a2.mono (by decide))⟩) (env := e0) (st := []) (.refl _ _)
  obtain ⟨e3, s3, h3, l3, rfl⟩ := loopS_inv (tg := gN 9) (body := bLast) (fun env q => env.length = 12 ∧ q = s2) (ds := things) (fun d hd env st i => by
      obtain ⟨l, rfl⟩ := i
      have kk := things_ok st d hd
      have g9 : 9 < env.length := by rw [l]; decide
      exact ⟨env.set 9 (some d), rfl, .nx, env.set 9 (some d), st, by simp [g9, kk, opIsnt, orD, isntN, isntB, DL.isNon], .inl rfl, by rw [List.length_set, l], rfl⟩) (env := e2) (st := s2) ⟨a2.len, rfl⟩
  refine ⟨s3, ?_⟩
  have z : ∀ k : Nat, k ≤ 20 → k ≤ sizeLine := fun k hk => Nat.le_trans hk (by decide)
  have it : (iOf asL (fMk mkLst (aCons (fC .non) (aCons (fC (.int 5)) (aCons (fC (.bl true)) (aCons (fC (.str (Str.ofString "window"))) (aCons (fMk mkTup aNil) (aCons (fMk mkLst aNil) (aCons (fC (.dct [])) (aCons (fMk mkTup (aCons (fC (.str (Str.ofString "window"))) aNil)) (aCons (fMk mkTup (aCons (fC (.str (Str.ofString "top"))) (aCons (fC (.int 1)) aNil))) (aCons (fMk mkTup (aCons (fC (.str (Str.ofString "w"))) (aCons (fMk mkTup (aCons (fMk mkTup (aCons (fC (.str (Str.ofString "all"))) aNil)) (aCons (fMk mkTup aNil) (aCons (fMk mkTup aNil) aNil)))) (aCons (fC (.int 0)) (aCons (fC (.int 0)) aNil))))) aNil)))))))))))) e2 s3 = some (things, s3) := by simp [things, z, vNil]
  have kk := top_is s3
  rw [vNil] at kk
  rw [show m_law [.scr ns] [] = outM (g_law e0 []) from rfl, g_law, seq_step ((for_step hj).trans h2), seq_step ((for_step it).trans h3)]
  simp [kk, z, opIs, orD, isN, isB]
end LW
namespace LW
open PySem PySem.Spec PyProof.Rows L2 DL
theorem all_mk {l : PySem.W.OpenLaw} {w : World} {K : PySem.W.Frag} {h : Heap} {mg : Str → Option Value} {fa : Addr} (X : K.In h) (G : h.Ns mainGlobals mg) (hfa : mg "law" = some (.ref fa))
    {p_is_integer : Addr} {od_is_integer an_is_integer : Option Addr} {sl_is_integer : Array (Option Value)} {oc_is_integer kV_is_integer dc_is_integer pm_is_integer cd_is_integer ct_is_integer : Value}
    (a_is_integer : PySem.W.nsIn K mainGlobals "is_integer" = some (some (.ref p_is_integer))) (l_is_integer : K.lookup p_is_integer = some ⟨oc_is_integer, od_is_integer, .func (PySem.W.fnOf "is_integer" "is_integer" (defArgs s_is_integer) (defBody s_is_integer) (defScope s_is_integer) .none kV_is_integer dc_is_integer pm_is_integer an_is_integer cd_is_integer ct_is_integer), sl_is_integer⟩) (c_is_integer : PySem.W.codeIn K cd_is_integer "is_integer" = true) (k_is_integer : PySem.W.keepIn K (.ref p_is_integer) = true)
    {p_is_string : Addr} {od_is_string an_is_string : Option Addr} {sl_is_string : Array (Option Value)} {oc_is_string kV_is_string dc_is_string pm_is_string cd_is_string ct_is_string : Value}
    (a_is_string : PySem.W.nsIn K mainGlobals "is_string" = some (some (.ref p_is_string))) (l_is_string : K.lookup p_is_string = some ⟨oc_is_string, od_is_string, .func (PySem.W.fnOf "is_string" "is_string" (defArgs s_is_string) (defBody s_is_string) (defScope s_is_string) .none kV_is_string dc_is_string pm_is_string an_is_string cd_is_string ct_is_string), sl_is_string⟩) (c_is_string : PySem.W.codeIn K cd_is_string "is_string" = true) (k_is_string : PySem.W.keepIn K (.ref p_is_string) = true)
    {p_is_value : Addr} {od_is_value an_is_value : Option Addr} {sl_is_value : Array (Option Value)} {oc_is_value kV_is_value dc_is_value pm_is_value cd_is_value ct_is_value : Value}
    (a_is_value : PySem.W.nsIn K mainGlobals "is_value" = some (some (.ref p_is_value))) (l_is_value : K.lookup p_is_value = some ⟨oc_is_value, od_is_value, .func (PySem.W.fnOf "is_value" "is_value" (defArgs s_is_value) (defBody s_is_value) (defScope s_is_value) .none kV_is_value dc_is_value pm_is_value an_is_value cd_is_value ct_is_value), sl_is_value⟩) (c_is_value : PySem.W.codeIn K cd_is_value "is_value" = true) (k_is_value : PySem.W.keepIn K (.ref p_is_value) = true)
    {p_kind_place : Addr} {od_kind_place an_kind_place : Option Addr} {sl_kind_place : Array (Option Value)} {oc_kind_place kV_kind_place dc_kind_place pm_kind_place cd_kind_place ct_kind_place : Value}
    (a_kind_place : PySem.W.nsIn K mainGlobals "kind_place" = some (some (.ref p_kind_place))) (l_kind_place : K.lookup p_kind_place = some ⟨oc_kind_place, od_kind_place, .func (PySem.W.fnOf "kind_place" "kind_place" (defArgs s_kind_place) (defBody s_kind_place) (defScope s_kind_place) .none kV_kind_place dc_kind_place pm_kind_place an_kind_place cd_kind_place ct_kind_place), sl_kind_place⟩) (c_kind_place : PySem.W.codeIn K cd_kind_place "kind_place" = true) (k_kind_place : PySem.W.keepIn K (.ref p_kind_place) = true)
    {p_is_row_id : Addr} {od_is_row_id an_is_row_id : Option Addr} {sl_is_row_id : Array (Option Value)} {oc_is_row_id kV_is_row_id dc_is_row_id pm_is_row_id cd_is_row_id ct_is_row_id : Value}
    (a_is_row_id : PySem.W.nsIn K mainGlobals "is_row_id" = some (some (.ref p_is_row_id))) (l_is_row_id : K.lookup p_is_row_id = some ⟨oc_is_row_id, od_is_row_id, .func (PySem.W.fnOf "is_row_id" "is_row_id" (defArgs s_is_row_id) (defBody s_is_row_id) (defScope s_is_row_id) .none kV_is_row_id dc_is_row_id pm_is_row_id an_is_row_id cd_is_row_id ct_is_row_id), sl_is_row_id⟩) (c_is_row_id : PySem.W.codeIn K cd_is_row_id "is_row_id" = true) (k_is_row_id : PySem.W.keepIn K (.ref p_is_row_id) = true)
    {p_is_choice : Addr} {od_is_choice an_is_choice : Option Addr} {sl_is_choice : Array (Option Value)} {oc_is_choice kV_is_choice dc_is_choice pm_is_choice cd_is_choice ct_is_choice : Value}
    (a_is_choice : PySem.W.nsIn K mainGlobals "is_choice" = some (some (.ref p_is_choice))) (l_is_choice : K.lookup p_is_choice = some ⟨oc_is_choice, od_is_choice, .func (PySem.W.fnOf "is_choice" "is_choice" (defArgs s_is_choice) (defBody s_is_choice) (defScope s_is_choice) .none kV_is_choice dc_is_choice pm_is_choice an_is_choice cd_is_choice ct_is_choice), sl_is_choice⟩) (c_is_choice : PySem.W.codeIn K cd_is_choice "is_choice" = true) (k_is_choice : PySem.W.keepIn K (.ref p_is_choice) = true)
    {p_is_operand : Addr} {od_is_operand an_is_operand : Option Addr} {sl_is_operand : Array (Option Value)} {oc_is_operand kV_is_operand dc_is_operand pm_is_operand cd_is_operand ct_is_operand : Value}
    (a_is_operand : PySem.W.nsIn K mainGlobals "is_operand" = some (some (.ref p_is_operand))) (l_is_operand : K.lookup p_is_operand = some ⟨oc_is_operand, od_is_operand, .func (PySem.W.fnOf "is_operand" "is_operand" (defArgs s_is_operand) (defBody s_is_operand) (defScope s_is_operand) .none kV_is_operand dc_is_operand pm_is_operand an_is_operand cd_is_operand ct_is_operand), sl_is_operand⟩) (c_is_operand : PySem.W.codeIn K cd_is_operand "is_operand" = true) (k_is_operand : PySem.W.keepIn K (.ref p_is_operand) = true)
    {p_is_column : Addr} {od_is_column an_is_column : Option Addr} {sl_is_column : Array (Option Value)} {oc_is_column kV_is_column dc_is_column pm_is_column cd_is_column ct_is_column : Value}
    (a_is_column : PySem.W.nsIn K mainGlobals "is_column" = some (some (.ref p_is_column))) (l_is_column : K.lookup p_is_column = some ⟨oc_is_column, od_is_column, .func (PySem.W.fnOf "is_column" "is_column" (defArgs s_is_column) (defBody s_is_column) (defScope s_is_column) .none kV_is_column dc_is_column pm_is_column an_is_column cd_is_column ct_is_column), sl_is_column⟩) (c_is_column : PySem.W.codeIn K cd_is_column "is_column" = true) (k_is_column : PySem.W.keepIn K (.ref p_is_column) = true)
    {p_is_condition_within : Addr} {od_is_condition_within an_is_condition_within : Option Addr} {sl_is_condition_within : Array (Option Value)} {oc_is_condition_within kV_is_condition_within dc_is_condition_within pm_is_condition_within cd_is_condition_within ct_is_condition_within : Value}
    (a_is_condition_within : PySem.W.nsIn K mainGlobals "is_condition_within" = some (some (.ref p_is_condition_within))) (l_is_condition_within : K.lookup p_is_condition_within = some ⟨oc_is_condition_within, od_is_condition_within, .func (PySem.W.fnOf "is_condition_within" "is_condition_within" (defArgs s_is_condition_within) (defBody s_is_condition_within) (defScope s_is_condition_within) .none kV_is_condition_within dc_is_condition_within pm_is_condition_within an_is_condition_within cd_is_condition_within ct_is_condition_within), sl_is_condition_within⟩) (c_is_condition_within : PySem.W.codeIn K cd_is_condition_within "is_condition_within" = true) (k_is_condition_within : PySem.W.keepIn K (.ref p_is_condition_within) = true)
    {p_is_condition : Addr} {od_is_condition an_is_condition : Option Addr} {sl_is_condition : Array (Option Value)} {oc_is_condition kV_is_condition dc_is_condition pm_is_condition cd_is_condition ct_is_condition : Value}
    (a_is_condition : PySem.W.nsIn K mainGlobals "is_condition" = some (some (.ref p_is_condition))) (l_is_condition : K.lookup p_is_condition = some ⟨oc_is_condition, od_is_condition, .func (PySem.W.fnOf "is_condition" "is_condition" (defArgs s_is_condition) (defBody s_is_condition) (defScope s_is_condition) .none kV_is_condition dc_is_condition pm_is_condition an_is_condition cd_is_condition ct_is_condition), sl_is_condition⟩) (c_is_condition : PySem.W.codeIn K cd_is_condition "is_condition" = true) (k_is_condition : PySem.W.keepIn K (.ref p_is_condition) = true)
    {p_is_shown : Addr} {od_is_shown an_is_shown : Option Addr} {sl_is_shown : Array (Option Value)} {oc_is_shown kV_is_shown dc_is_shown pm_is_shown cd_is_shown ct_is_shown : Value}
    (a_is_shown : PySem.W.nsIn K mainGlobals "is_shown" = some (some (.ref p_is_shown))) (l_is_shown : K.lookup p_is_shown = some ⟨oc_is_shown, od_is_shown, .func (PySem.W.fnOf "is_shown" "is_shown" (defArgs s_is_shown) (defBody s_is_shown) (defScope s_is_shown) .none kV_is_shown dc_is_shown pm_is_shown an_is_shown cd_is_shown ct_is_shown), sl_is_shown⟩) (c_is_shown : PySem.W.codeIn K cd_is_shown "is_shown" = true) (k_is_shown : PySem.W.keepIn K (.ref p_is_shown) = true)
    {p_is_order_pair : Addr} {od_is_order_pair an_is_order_pair : Option Addr} {sl_is_order_pair : Array (Option Value)} {oc_is_order_pair kV_is_order_pair dc_is_order_pair pm_is_order_pair cd_is_order_pair ct_is_order_pair : Value}
    (a_is_order_pair : PySem.W.nsIn K mainGlobals "is_order_pair" = some (some (.ref p_is_order_pair))) (l_is_order_pair : K.lookup p_is_order_pair = some ⟨oc_is_order_pair, od_is_order_pair, .func (PySem.W.fnOf "is_order_pair" "is_order_pair" (defArgs s_is_order_pair) (defBody s_is_order_pair) (defScope s_is_order_pair) .none kV_is_order_pair dc_is_order_pair pm_is_order_pair an_is_order_pair cd_is_order_pair ct_is_order_pair), sl_is_order_pair⟩) (c_is_order_pair : PySem.W.codeIn K cd_is_order_pair "is_order_pair" = true) (k_is_order_pair : PySem.W.keepIn K (.ref p_is_order_pair) = true)
    {p_is_order : Addr} {od_is_order an_is_order : Option Addr} {sl_is_order : Array (Option Value)} {oc_is_order kV_is_order dc_is_order pm_is_order cd_is_order ct_is_order : Value}
    (a_is_order : PySem.W.nsIn K mainGlobals "is_order" = some (some (.ref p_is_order))) (l_is_order : K.lookup p_is_order = some ⟨oc_is_order, od_is_order, .func (PySem.W.fnOf "is_order" "is_order" (defArgs s_is_order) (defBody s_is_order) (defScope s_is_order) .none kV_is_order dc_is_order pm_is_order an_is_order cd_is_order ct_is_order), sl_is_order⟩) (c_is_order : PySem.W.codeIn K cd_is_order "is_order" = true) (k_is_order : PySem.W.keepIn K (.ref p_is_order) = true)
    {p_is_view : Addr} {od_is_view an_is_view : Option Addr} {sl_is_view : Array (Option Value)} {oc_is_view kV_is_view dc_is_view pm_is_view cd_is_view ct_is_view : Value}
    (a_is_view : PySem.W.nsIn K mainGlobals "is_view" = some (some (.ref p_is_view))) (l_is_view : K.lookup p_is_view = some ⟨oc_is_view, od_is_view, .func (PySem.W.fnOf "is_view" "is_view" (defArgs s_is_view) (defBody s_is_view) (defScope s_is_view) .none kV_is_view dc_is_view pm_is_view an_is_view cd_is_view ct_is_view), sl_is_view⟩) (c_is_view : PySem.W.codeIn K cd_is_view "is_view" = true) (k_is_view : PySem.W.keepIn K (.ref p_is_view) = true)
    {p_compare_places : Addr} {od_compare_places an_compare_places : Option Addr} {sl_compare_places : Array (Option Value)} {oc_compare_places kV_compare_places dc_compare_places pm_compare_places cd_compare_places ct_compare_places : Value}
    (a_compare_places : PySem.W.nsIn K mainGlobals "compare_places" = some (some (.ref p_compare_places))) (l_compare_places : K.lookup p_compare_places = some ⟨oc_compare_places, od_compare_places, .func (PySem.W.fnOf "compare_places" "compare_places" (defArgs s_compare_places) (defBody s_compare_places) (defScope s_compare_places) .none kV_compare_places dc_compare_places pm_compare_places an_compare_places cd_compare_places ct_compare_places), sl_compare_places⟩) (c_compare_places : PySem.W.codeIn K cd_compare_places "compare_places" = true) (k_compare_places : PySem.W.keepIn K (.ref p_compare_places) = true)
    {p_value_place : Addr} {od_value_place an_value_place : Option Addr} {sl_value_place : Array (Option Value)} {oc_value_place kV_value_place dc_value_place pm_value_place cd_value_place ct_value_place : Value}
    (a_value_place : PySem.W.nsIn K mainGlobals "value_place" = some (some (.ref p_value_place))) (l_value_place : K.lookup p_value_place = some ⟨oc_value_place, od_value_place, .func (PySem.W.fnOf "value_place" "value_place" (defArgs s_value_place) (defBody s_value_place) (defScope s_value_place) .none kV_value_place dc_value_place pm_value_place an_value_place cd_value_place ct_value_place), sl_value_place⟩) (c_value_place : PySem.W.codeIn K cd_value_place "value_place" = true) (k_value_place : PySem.W.keepIn K (.ref p_value_place) = true)
    {p_key_place : Addr} {od_key_place an_key_place : Option Addr} {sl_key_place : Array (Option Value)} {oc_key_place kV_key_place dc_key_place pm_key_place cd_key_place ct_key_place : Value}
    (a_key_place : PySem.W.nsIn K mainGlobals "key_place" = some (some (.ref p_key_place))) (l_key_place : K.lookup p_key_place = some ⟨oc_key_place, od_key_place, .func (PySem.W.fnOf "key_place" "key_place" (defArgs s_key_place) (defBody s_key_place) (defScope s_key_place) .none kV_key_place dc_key_place pm_key_place an_key_place cd_key_place ct_key_place), sl_key_place⟩) (c_key_place : PySem.W.codeIn K cd_key_place "key_place" = true) (k_key_place : PySem.W.keepIn K (.ref p_key_place) = true)
    {p_is_key : Addr} {od_is_key an_is_key : Option Addr} {sl_is_key : Array (Option Value)} {oc_is_key kV_is_key dc_is_key pm_is_key cd_is_key ct_is_key : Value}
    (a_is_key : PySem.W.nsIn K mainGlobals "is_key" = some (some (.ref p_is_key))) (l_is_key : K.lookup p_is_key = some ⟨oc_is_key, od_is_key, .func (PySem.W.fnOf "is_key" "is_key" (defArgs s_is_key) (defBody s_is_key) (defScope s_is_key) .none kV_is_key dc_is_key pm_is_key an_is_key cd_is_key ct_is_key), sl_is_key⟩) (c_is_key : PySem.W.codeIn K cd_is_key "is_key" = true) (k_is_key : PySem.W.keepIn K (.ref p_is_key) = true)
    {p_is_mark : Addr} {od_is_mark an_is_mark : Option Addr} {sl_is_mark : Array (Option Value)} {oc_is_mark kV_is_mark dc_is_mark pm_is_mark cd_is_mark ct_is_mark : Value}
    (a_is_mark : PySem.W.nsIn K mainGlobals "is_mark" = some (some (.ref p_is_mark))) (l_is_mark : K.lookup p_is_mark = some ⟨oc_is_mark, od_is_mark, .func (PySem.W.fnOf "is_mark" "is_mark" (defArgs s_is_mark) (defBody s_is_mark) (defScope s_is_mark) .none kV_is_mark dc_is_mark pm_is_mark an_is_mark cd_is_mark ct_is_mark), sl_is_mark⟩) (c_is_mark : PySem.W.codeIn K cd_is_mark "is_mark" = true) (k_is_mark : PySem.W.keepIn K (.ref p_is_mark) = true)
    {p_mark_place : Addr} {od_mark_place an_mark_place : Option Addr} {sl_mark_place : Array (Option Value)} {oc_mark_place kV_mark_place dc_mark_place pm_mark_place cd_mark_place ct_mark_place : Value}
    (a_mark_place : PySem.W.nsIn K mainGlobals "mark_place" = some (some (.ref p_mark_place))) (l_mark_place : K.lookup p_mark_place = some ⟨oc_mark_place, od_mark_place, .func (PySem.W.fnOf "mark_place" "mark_place" (defArgs s_mark_place) (defBody s_mark_place) (defScope s_mark_place) .none kV_mark_place dc_mark_place pm_mark_place an_mark_place cd_mark_place ct_mark_place), sl_mark_place⟩) (c_mark_place : PySem.W.codeIn K cd_mark_place "mark_place" = true) (k_mark_place : PySem.W.keepIn K (.ref p_mark_place) = true)
    {p_compare_marks : Addr} {od_compare_marks an_compare_marks : Option Addr} {sl_compare_marks : Array (Option Value)} {oc_compare_marks kV_compare_marks dc_compare_marks pm_compare_marks cd_compare_marks ct_compare_marks : Value}
    (a_compare_marks : PySem.W.nsIn K mainGlobals "compare_marks" = some (some (.ref p_compare_marks))) (l_compare_marks : K.lookup p_compare_marks = some ⟨oc_compare_marks, od_compare_marks, .func (PySem.W.fnOf "compare_marks" "compare_marks" (defArgs s_compare_marks) (defBody s_compare_marks) (defScope s_compare_marks) .none kV_compare_marks dc_compare_marks pm_compare_marks an_compare_marks cd_compare_marks ct_compare_marks), sl_compare_marks⟩) (c_compare_marks : PySem.W.codeIn K cd_compare_marks "compare_marks" = true) (k_compare_marks : PySem.W.keepIn K (.ref p_compare_marks) = true)
    {p_are_window_marks : Addr} {od_are_window_marks an_are_window_marks : Option Addr} {sl_are_window_marks : Array (Option Value)} {oc_are_window_marks kV_are_window_marks dc_are_window_marks pm_are_window_marks cd_are_window_marks ct_are_window_marks : Value}
    (a_are_window_marks : PySem.W.nsIn K mainGlobals "are_window_marks" = some (some (.ref p_are_window_marks))) (l_are_window_marks : K.lookup p_are_window_marks = some ⟨oc_are_window_marks, od_are_window_marks, .func (PySem.W.fnOf "are_window_marks" "are_window_marks" (defArgs s_are_window_marks) (defBody s_are_window_marks) (defScope s_are_window_marks) .none kV_are_window_marks dc_are_window_marks pm_are_window_marks an_are_window_marks cd_are_window_marks ct_are_window_marks), sl_are_window_marks⟩) (c_are_window_marks : PySem.W.codeIn K cd_are_window_marks "are_window_marks" = true) (k_are_window_marks : PySem.W.keepIn K (.ref p_are_window_marks) = true)
    {p_is_top_count : Addr} {od_is_top_count an_is_top_count : Option Addr} {sl_is_top_count : Array (Option Value)} {oc_is_top_count kV_is_top_count dc_is_top_count pm_is_top_count cd_is_top_count ct_is_top_count : Value}
    (a_is_top_count : PySem.W.nsIn K mainGlobals "is_top_count" = some (some (.ref p_is_top_count))) (l_is_top_count : K.lookup p_is_top_count = some ⟨oc_is_top_count, od_is_top_count, .func (PySem.W.fnOf "is_top_count" "is_top_count" (defArgs s_is_top_count) (defBody s_is_top_count) (defScope s_is_top_count) .none kV_is_top_count dc_is_top_count pm_is_top_count an_is_top_count cd_is_top_count ct_is_top_count), sl_is_top_count⟩) (c_is_top_count : PySem.W.codeIn K cd_is_top_count "is_top_count" = true) (k_is_top_count : PySem.W.keepIn K (.ref p_is_top_count) = true)
    {p_is_token : Addr} {od_is_token an_is_token : Option Addr} {sl_is_token : Array (Option Value)} {oc_is_token kV_is_token dc_is_token pm_is_token cd_is_token ct_is_token : Value}
    (a_is_token : PySem.W.nsIn K mainGlobals "is_token" = some (some (.ref p_is_token))) (l_is_token : K.lookup p_is_token = some ⟨oc_is_token, od_is_token, .func (PySem.W.fnOf "is_token" "is_token" (defArgs s_is_token) (defBody s_is_token) (defScope s_is_token) .none kV_is_token dc_is_token pm_is_token an_is_token cd_is_token ct_is_token), sl_is_token⟩) (c_is_token : PySem.W.codeIn K cd_is_token "is_token" = true) (k_is_token : PySem.W.keepIn K (.ref p_is_token) = true)
    {p__law_tape : Addr} {od__law_tape an__law_tape : Option Addr} {sl__law_tape : Array (Option Value)} {oc__law_tape kV__law_tape dc__law_tape pm__law_tape cd__law_tape ct__law_tape : Value}
    (a__law_tape : PySem.W.nsIn K mainGlobals "_law_tape" = some (some (.ref p__law_tape))) (l__law_tape : K.lookup p__law_tape = some ⟨oc__law_tape, od__law_tape, .func (PySem.W.fnOf "_law_tape" "_law_tape" (defArgs s__law_tape) (defBody s__law_tape) (defScope s__law_tape) .none kV__law_tape dc__law_tape pm__law_tape an__law_tape cd__law_tape ct__law_tape), sl__law_tape⟩) (c__law_tape : PySem.W.codeIn K cd__law_tape "_law_tape" = true) (k__law_tape : PySem.W.keepIn K (.ref p__law_tape) = true)
    {p__law_pick : Addr} {od__law_pick an__law_pick : Option Addr} {sl__law_pick : Array (Option Value)} {oc__law_pick kV__law_pick dc__law_pick pm__law_pick cd__law_pick ct__law_pick : Value}
    (a__law_pick : PySem.W.nsIn K mainGlobals "_law_pick" = some (some (.ref p__law_pick))) (l__law_pick : K.lookup p__law_pick = some ⟨oc__law_pick, od__law_pick, .func (PySem.W.fnOf "_law_pick" "_law_pick" (defArgs s__law_pick) (defBody s__law_pick) (defScope s__law_pick) .none kV__law_pick dc__law_pick pm__law_pick an__law_pick cd__law_pick ct__law_pick), sl__law_pick⟩) (c__law_pick : PySem.W.codeIn K cd__law_pick "_law_pick" = true) (k__law_pick : PySem.W.keepIn K (.ref p__law_pick) = true)
    {p__law_one_of : Addr} {od__law_one_of an__law_one_of : Option Addr} {sl__law_one_of : Array (Option Value)} {oc__law_one_of kV__law_one_of dc__law_one_of pm__law_one_of cd__law_one_of ct__law_one_of : Value}
    (a__law_one_of : PySem.W.nsIn K mainGlobals "_law_one_of" = some (some (.ref p__law_one_of))) (l__law_one_of : K.lookup p__law_one_of = some ⟨oc__law_one_of, od__law_one_of, .func (PySem.W.fnOf "_law_one_of" "_law_one_of" (defArgs s__law_one_of) (defBody s__law_one_of) (defScope s__law_one_of) .none kV__law_one_of dc__law_one_of pm__law_one_of an__law_one_of cd__law_one_of ct__law_one_of), sl__law_one_of⟩) (c__law_one_of : PySem.W.codeIn K cd__law_one_of "_law_one_of" = true) (k__law_one_of : PySem.W.keepIn K (.ref p__law_one_of) = true)
    {p__law_value : Addr} {od__law_value an__law_value : Option Addr} {sl__law_value : Array (Option Value)} {oc__law_value kV__law_value dc__law_value pm__law_value cd__law_value ct__law_value : Value}
    (a__law_value : PySem.W.nsIn K mainGlobals "_law_value" = some (some (.ref p__law_value))) (l__law_value : K.lookup p__law_value = some ⟨oc__law_value, od__law_value, .func (PySem.W.fnOf "_law_value" "_law_value" (defArgs s__law_value) (defBody s__law_value) (defScope s__law_value) .none kV__law_value dc__law_value pm__law_value an__law_value cd__law_value ct__law_value), sl__law_value⟩) (c__law_value : PySem.W.codeIn K cd__law_value "_law_value" = true) (k__law_value : PySem.W.keepIn K (.ref p__law_value) = true)
    {p__law_values : Addr} {od__law_values an__law_values : Option Addr} {sl__law_values : Array (Option Value)} {oc__law_values kV__law_values dc__law_values pm__law_values cd__law_values ct__law_values : Value}
    (a__law_values : PySem.W.nsIn K mainGlobals "_law_values" = some (some (.ref p__law_values))) (l__law_values : K.lookup p__law_values = some ⟨oc__law_values, od__law_values, .func (PySem.W.fnOf "_law_values" "_law_values" (defArgs s__law_values) (defBody s__law_values) (defScope s__law_values) .none kV__law_values dc__law_values pm__law_values an__law_values cd__law_values ct__law_values), sl__law_values⟩) (c__law_values : PySem.W.codeIn K cd__law_values "_law_values" = true) (k__law_values : PySem.W.keepIn K (.ref p__law_values) = true)
    {p__law_test : Addr} {od__law_test an__law_test : Option Addr} {sl__law_test : Array (Option Value)} {oc__law_test kV__law_test dc__law_test pm__law_test cd__law_test ct__law_test : Value}
    (a__law_test : PySem.W.nsIn K mainGlobals "_law_test" = some (some (.ref p__law_test))) (l__law_test : K.lookup p__law_test = some ⟨oc__law_test, od__law_test, .func (PySem.W.fnOf "_law_test" "_law_test" (defArgs s__law_test) (defBody s__law_test) (defScope s__law_test) .none kV__law_test dc__law_test pm__law_test an__law_test cd__law_test ct__law_test), sl__law_test⟩) (c__law_test : PySem.W.codeIn K cd__law_test "_law_test" = true) (k__law_test : PySem.W.keepIn K (.ref p__law_test) = true)
    {p__law_condition : Addr} {od__law_condition an__law_condition : Option Addr} {sl__law_condition : Array (Option Value)} {oc__law_condition kV__law_condition dc__law_condition pm__law_condition cd__law_condition ct__law_condition : Value}
    (a__law_condition : PySem.W.nsIn K mainGlobals "_law_condition" = some (some (.ref p__law_condition))) (l__law_condition : K.lookup p__law_condition = some ⟨oc__law_condition, od__law_condition, .func (PySem.W.fnOf "_law_condition" "_law_condition" (defArgs s__law_condition) (defBody s__law_condition) (defScope s__law_condition) .none kV__law_condition dc__law_condition pm__law_condition an__law_condition cd__law_condition ct__law_condition), sl__law_condition⟩) (c__law_condition : PySem.W.codeIn K cd__law_condition "_law_condition" = true) (k__law_condition : PySem.W.keepIn K (.ref p__law_condition) = true)
    {p__law_view : Addr} {od__law_view an__law_view : Option Addr} {sl__law_view : Array (Option Value)} {oc__law_view kV__law_view dc__law_view pm__law_view cd__law_view ct__law_view : Value}
    (a__law_view : PySem.W.nsIn K mainGlobals "_law_view" = some (some (.ref p__law_view))) (l__law_view : K.lookup p__law_view = some ⟨oc__law_view, od__law_view, .func (PySem.W.fnOf "_law_view" "_law_view" (defArgs s__law_view) (defBody s__law_view) (defScope s__law_view) .none kV__law_view dc__law_view pm__law_view an__law_view cd__law_view ct__law_view), sl__law_view⟩) (c__law_view : PySem.W.codeIn K cd__law_view "_law_view" = true) (k__law_view : PySem.W.keepIn K (.ref p__law_view) = true)
    {p__law_rank : Addr} {od__law_rank an__law_rank : Option Addr} {sl__law_rank : Array (Option Value)} {oc__law_rank kV__law_rank dc__law_rank pm__law_rank cd__law_rank ct__law_rank : Value}
    (a__law_rank : PySem.W.nsIn K mainGlobals "_law_rank" = some (some (.ref p__law_rank))) (l__law_rank : K.lookup p__law_rank = some ⟨oc__law_rank, od__law_rank, .func (PySem.W.fnOf "_law_rank" "_law_rank" (defArgs s__law_rank) (defBody s__law_rank) (defScope s__law_rank) .none kV__law_rank dc__law_rank pm__law_rank an__law_rank cd__law_rank ct__law_rank), sl__law_rank⟩) (c__law_rank : PySem.W.codeIn K cd__law_rank "_law_rank" = true) (k__law_rank : PySem.W.keepIn K (.ref p__law_rank) = true)
    {p__law_key : Addr} {od__law_key an__law_key : Option Addr} {sl__law_key : Array (Option Value)} {oc__law_key kV__law_key dc__law_key pm__law_key cd__law_key ct__law_key : Value}
    (a__law_key : PySem.W.nsIn K mainGlobals "_law_key" = some (some (.ref p__law_key))) (l__law_key : K.lookup p__law_key = some ⟨oc__law_key, od__law_key, .func (PySem.W.fnOf "_law_key" "_law_key" (defArgs s__law_key) (defBody s__law_key) (defScope s__law_key) .none kV__law_key dc__law_key pm__law_key an__law_key cd__law_key ct__law_key), sl__law_key⟩) (c__law_key : PySem.W.codeIn K cd__law_key "_law_key" = true) (k__law_key : PySem.W.keepIn K (.ref p__law_key) = true)
    {p__law_sign : Addr} {od__law_sign an__law_sign : Option Addr} {sl__law_sign : Array (Option Value)} {oc__law_sign kV__law_sign dc__law_sign pm__law_sign cd__law_sign ct__law_sign : Value}
    (a__law_sign : PySem.W.nsIn K mainGlobals "_law_sign" = some (some (.ref p__law_sign))) (l__law_sign : K.lookup p__law_sign = some ⟨oc__law_sign, od__law_sign, .func (PySem.W.fnOf "_law_sign" "_law_sign" (defArgs s__law_sign) (defBody s__law_sign) (defScope s__law_sign) .none kV__law_sign dc__law_sign pm__law_sign an__law_sign cd__law_sign ct__law_sign), sl__law_sign⟩) (c__law_sign : PySem.W.codeIn K cd__law_sign "_law_sign" = true) (k__law_sign : PySem.W.keepIn K (.ref p__law_sign) = true)
    {p__law_mark : Addr} {od__law_mark an__law_mark : Option Addr} {sl__law_mark : Array (Option Value)} {oc__law_mark kV__law_mark dc__law_mark pm__law_mark cd__law_mark ct__law_mark : Value}
    (a__law_mark : PySem.W.nsIn K mainGlobals "_law_mark" = some (some (.ref p__law_mark))) (l__law_mark : K.lookup p__law_mark = some ⟨oc__law_mark, od__law_mark, .func (PySem.W.fnOf "_law_mark" "_law_mark" (defArgs s__law_mark) (defBody s__law_mark) (defScope s__law_mark) .none kV__law_mark dc__law_mark pm__law_mark an__law_mark cd__law_mark ct__law_mark), sl__law_mark⟩) (c__law_mark : PySem.W.codeIn K cd__law_mark "_law_mark" = true) (k__law_mark : PySem.W.keepIn K (.ref p__law_mark) = true)
    {p__law_marks : Addr} {od__law_marks an__law_marks : Option Addr} {sl__law_marks : Array (Option Value)} {oc__law_marks kV__law_marks dc__law_marks pm__law_marks cd__law_marks ct__law_marks : Value}
    (a__law_marks : PySem.W.nsIn K mainGlobals "_law_marks" = some (some (.ref p__law_marks))) (l__law_marks : K.lookup p__law_marks = some ⟨oc__law_marks, od__law_marks, .func (PySem.W.fnOf "_law_marks" "_law_marks" (defArgs s__law_marks) (defBody s__law_marks) (defScope s__law_marks) .none kV__law_marks dc__law_marks pm__law_marks an__law_marks cd__law_marks ct__law_marks), sl__law_marks⟩) (c__law_marks : PySem.W.codeIn K cd__law_marks "_law_marks" = true) (k__law_marks : PySem.W.keepIn K (.ref p__law_marks) = true)
    {p__law_integer : Addr} {od__law_integer an__law_integer : Option Addr} {sl__law_integer : Array (Option Value)} {oc__law_integer kV__law_integer dc__law_integer pm__law_integer cd__law_integer ct__law_integer : Value}
    (a__law_integer : PySem.W.nsIn K mainGlobals "_law_integer" = some (some (.ref p__law_integer))) (l__law_integer : K.lookup p__law_integer = some ⟨oc__law_integer, od__law_integer, .func (PySem.W.fnOf "_law_integer" "_law_integer" (defArgs s__law_integer) (defBody s__law_integer) (defScope s__law_integer) .none kV__law_integer dc__law_integer pm__law_integer an__law_integer cd__law_integer ct__law_integer), sl__law_integer⟩) (c__law_integer : PySem.W.codeIn K cd__law_integer "_law_integer" = true) (k__law_integer : PySem.W.keepIn K (.ref p__law_integer) = true)
    {p__law_due : Addr} {od__law_due an__law_due : Option Addr} {sl__law_due : Array (Option Value)} {oc__law_due kV__law_due dc__law_due pm__law_due cd__law_due ct__law_due : Value}
    (a__law_due : PySem.W.nsIn K mainGlobals "_law_due" = some (some (.ref p__law_due))) (l__law_due : K.lookup p__law_due = some ⟨oc__law_due, od__law_due, .func (PySem.W.fnOf "_law_due" "_law_due" (defArgs s__law_due) (defBody s__law_due) (defScope s__law_due) .none kV__law_due dc__law_due pm__law_due an__law_due cd__law_due ct__law_due), sl__law_due⟩) (c__law_due : PySem.W.codeIn K cd__law_due "_law_due" = true) (k__law_due : PySem.W.keepIn K (.ref p__law_due) = true)
    {p__law_bent : Addr} {od__law_bent an__law_bent : Option Addr} {sl__law_bent : Array (Option Value)} {oc__law_bent kV__law_bent dc__law_bent pm__law_bent cd__law_bent ct__law_bent : Value}
    (a__law_bent : PySem.W.nsIn K mainGlobals "_law_bent" = some (some (.ref p__law_bent))) (l__law_bent : K.lookup p__law_bent = some ⟨oc__law_bent, od__law_bent, .func (PySem.W.fnOf "_law_bent" "_law_bent" (defArgs s__law_bent) (defBody s__law_bent) (defScope s__law_bent) .none kV__law_bent dc__law_bent pm__law_bent an__law_bent cd__law_bent ct__law_bent), sl__law_bent⟩) (c__law_bent : PySem.W.codeIn K cd__law_bent "_law_bent" = true) (k__law_bent : PySem.W.keepIn K (.ref p__law_bent) = true)
    {p_law : Addr} {od_law an_law : Option Addr} {sl_law : Array (Option Value)} {oc_law kV_law dc_law pm_law cd_law ct_law : Value}
    (a_law : PySem.W.nsIn K mainGlobals "law" = some (some (.ref p_law))) (l_law : K.lookup p_law = some ⟨oc_law, od_law, .func (PySem.W.fnOf "law" "law" (defArgs s_law) (defBody s_law) (defScope s_law) .none kV_law dc_law pm_law an_law cd_law ct_law), sl_law⟩) (c_law : PySem.W.codeIn K cd_law "law" = true) (k_law : PySem.W.keepIn K (.ref p_law) = true)
    (n_all : PySem.W.nsIn K mainGlobals "all" = some none)
    (n_bool : PySem.W.nsIn K mainGlobals "bool" = some none)
    (n_enumerate : PySem.W.nsIn K mainGlobals "enumerate" = some none)
    (n_int : PySem.W.nsIn K mainGlobals "int" = some none)
    (n_isinstance : PySem.W.nsIn K mainGlobals "isinstance" = some none)
    (n_len : PySem.W.nsIn K mainGlobals "len" = some none)
    (n_list : PySem.W.nsIn K mainGlobals "list" = some none)
    (n_max : PySem.W.nsIn K mainGlobals "max" = some none)
    (n_min : PySem.W.nsIn K mainGlobals "min" = some none)
    (n_ord : PySem.W.nsIn K mainGlobals "ord" = some none)
    (n_range : PySem.W.nsIn K mainGlobals "range" = some none)
    (n_repr : PySem.W.nsIn K mainGlobals "repr" = some none)
    (n_set : PySem.W.nsIn K mainGlobals "set" = some none)
    (n_sorted : PySem.W.nsIn K mainGlobals "sorted" = some none)
    (n_str : PySem.W.nsIn K mainGlobals "str" = some none)
    (n_tuple : PySem.W.nsIn K mainGlobals "tuple" = some none)
    (n_zip : PySem.W.nsIn K mainGlobals "zip" = some none)
    {t_GREATEST_DEPTH : Tok} (c_GREATEST_DEPTH : PySem.W.nsIn K mainGlobals "GREATEST_DEPTH" = some (some (.int 8 t_GREATEST_DEPTH)))
    {t_GREATEST_ID : Tok} (c_GREATEST_ID : PySem.W.nsIn K mainGlobals "GREATEST_ID" = some (some (.int 1000000 t_GREATEST_ID)))
    {t_GREATEST_INTEGER : Tok} (c_GREATEST_INTEGER : PySem.W.nsIn K mainGlobals "GREATEST_INTEGER" = some (some (.int 1000000000 t_GREATEST_INTEGER)))
    {t_LONGEST_STRING : Tok} (c_LONGEST_STRING : PySem.W.nsIn K mainGlobals "LONGEST_STRING" = some (some (.int 20 t_LONGEST_STRING)))
    {t_MOST_CHOICES : Tok} (c_MOST_CHOICES : PySem.W.nsIn K mainGlobals "MOST_CHOICES" = some (some (.int 8 t_MOST_CHOICES)))
    {t_MOST_COUNTED : Tok} (c_MOST_COUNTED : PySem.W.nsIn K mainGlobals "MOST_COUNTED" = some (some (.int 1000000 t_MOST_COUNTED)))
    {t_MOST_ORDERED : Tok} (c_MOST_ORDERED : PySem.W.nsIn K mainGlobals "MOST_ORDERED" = some (some (.int 4 t_MOST_ORDERED)))
    : ∃ fd : FuncData, (∀ (s : Shared) (v : Value), BindsTo s fd ⟨[v], []⟩ [("script", v)]) ∧ ∀ base : Heap, K.In base → base.Ns mainGlobals mg → FnD l.prog w K mg base 19 fa fd ["script"] m_law := by
  have e := hfa.symm.trans (PySem.W.mg_of X G a_law)
  cases e
  let T : Txt K mg := { a_is_integer := p_is_integer, f_is_integer := _, F_is_integer := fun_mk (st := s_is_integer) l_is_integer c_is_integer k_is_integer, b_is_integer := (fun_mk (st := s_is_integer) l_is_integer c_is_integer k_is_integer).binds (ps := ["value"]) (fun _ _ _ _ _ _ us hl => (match us, hl with | [_], _ => rfl)), g_is_integer := PySem.W.mg_of X G a_is_integer, a_is_string := p_is_string, f_is_string := _, F_is_string := fun_mk (st := s_is_string) l_is_string c_is_string k_is_string, b_is_string := (fun_mk (st := s_is_string) l_is_string c_is_string k_is_string).binds (ps := ["value"]) (fun _ _ _ _ _ _ us hl => (match us, hl with | [_], _ => rfl)), g_is_string := PySem.W.mg_of X G a_is_string, a_is_value := p_is_value, f_is_value := _, F_is_value := fun_mk (st := s_is_value) l_is_value c_is_value k_is_value, b_is_value := (fun_mk (st := s_is_value) l_is_value c_is_value k_is_value).binds (ps := ["value"]) (fun _ _ _ _ _ _ us hl => (match us, hl with | [_], _ => rfl)), g_is_value := PySem.W.mg_of X G a_is_value, a_kind_place := p_kind_place, f_kind_place := _, F_kind_place := fun_mk (st := s_kind_place) l_kind_place c_kind_place k_kind_place, b_kind_place := (fun_mk (st := s_kind_place) l_kind_place c_kind_place k_kind_place).binds (ps := ["value"]) (fun _ _ _ _ _ _ us hl => (match us, hl with | [_], _ => rfl)), g_kind_place := PySem.W.mg_of X G a_kind_place, a_is_row_id := p_is_row_id, f_is_row_id := _, F_is_row_id := fun_mk (st := s_is_row_id) l_is_row_id c_is_row_id k_is_row_id, b_is_row_id := (fun_mk (st := s_is_row_id) l_is_row_id c_is_row_id k_is_row_id).binds (ps := ["value"]) (fun _ _ _ _ _ _ us hl => (match us, hl with | [_], _ => rfl)), g_is_row_id := PySem.W.mg_of X G a_is_row_id, a_is_choice := p_is_choice, f_is_choice := _, F_is_choice := fun_mk (st := s_is_choice) l_is_choice c_is_choice k_is_choice, b_is_choice := (fun_mk (st := s_is_choice) l_is_choice c_is_choice k_is_choice).binds (ps := ["value"]) (fun _ _ _ _ _ _ us hl => (match us, hl with | [_], _ => rfl)), g_is_choice := PySem.W.mg_of X G a_is_choice, a_is_operand := p_is_operand, f_is_operand := _, F_is_operand := fun_mk (st := s_is_operand) l_is_operand c_is_operand k_is_operand, b_is_operand := (fun_mk (st := s_is_operand) l_is_operand c_is_operand k_is_operand).binds (ps := ["kind", "value"]) (fun _ _ _ _ _ _ us hl => (match us, hl with | [_, _], _ => rfl)), g_is_operand := PySem.W.mg_of X G a_is_operand, a_is_column := p_is_column, f_is_column := _, F_is_column := fun_mk (st := s_is_column) l_is_column c_is_column k_is_column, b_is_column := (fun_mk (st := s_is_column) l_is_column c_is_column k_is_column).binds (ps := ["value", "width"]) (fun _ _ _ _ _ _ us hl => (match us, hl with | [_, _], _ => rfl)), g_is_column := PySem.W.mg_of X G a_is_column, a_is_condition_within := p_is_condition_within, f_is_condition_within := _, F_is_condition_within := fun_mk (st := s_is_condition_within) l_is_condition_within c_is_condition_within k_is_condition_within, b_is_condition_within := (fun_mk (st := s_is_condition_within) l_is_condition_within c_is_condition_within k_is_condition_within).binds (ps := ["value", "width", "depth"]) (fun _ _ _ _ _ _ us hl => (match us, hl with | [_, _, _], _ => rfl)), g_is_condition_within := PySem.W.mg_of X G a_is_condition_within, a_is_condition := p_is_condition, f_is_condition := _, F_is_condition := fun_mk (st := s_is_condition) l_is_condition c_is_condition k_is_condition, b_is_condition := (fun_mk (st := s_is_condition) l_is_condition c_is_condition k_is_condition).binds (ps := ["value", "width"]) (fun _ _ _ _ _ _ us hl => (match us, hl with | [_, _], _ => rfl)), g_is_condition := PySem.W.mg_of X G a_is_condition, a_is_shown := p_is_shown, f_is_shown := _, F_is_shown := fun_mk (st := s_is_shown) l_is_shown c_is_shown k_is_shown, b_is_shown := (fun_mk (st := s_is_shown) l_is_shown c_is_shown k_is_shown).binds (ps := ["value", "width"]) (fun _ _ _ _ _ _ us hl => (match us, hl with | [_, _], _ => rfl)), g_is_shown := PySem.W.mg_of X G a_is_shown, a_is_order_pair := p_is_order_pair, f_is_order_pair := _, F_is_order_pair := fun_mk (st := s_is_order_pair) l_is_order_pair c_is_order_pair k_is_order_pair, b_is_order_pair := (fun_mk (st := s_is_order_pair) l_is_order_pair c_is_order_pair k_is_order_pair).binds (ps := ["value", "width"]) (fun _ _ _ _ _ _ us hl => (match us, hl with | [_, _], _ => rfl)), g_is_order_pair := PySem.W.mg_of X G a_is_order_pair, a_is_order := p_is_order, f_is_order := _, F_is_order := fun_mk (st := s_is_order) l_is_order c_is_order k_is_order, b_is_order := (fun_mk (st := s_is_order) l_is_order c_is_order k_is_order).binds (ps := ["value", "width"]) (fun _ _ _ _ _ _ us hl => (match us, hl with | [_, _], _ => rfl)), g_is_order := PySem.W.mg_of X G a_is_order, a_is_view := p_is_view, f_is_view := _, F_is_view := fun_mk (st := s_is_view) l_is_view c_is_view k_is_view, b_is_view := (fun_mk (st := s_is_view) l_is_view c_is_view k_is_view).binds (ps := ["value", "width"]) (fun _ _ _ _ _ _ us hl => (match us, hl with | [_, _], _ => rfl)), g_is_view := PySem.W.mg_of X G a_is_view, a_compare_places := p_compare_places, f_compare_places := _, F_compare_places := fun_mk (st := s_compare_places) l_compare_places c_compare_places k_compare_places, b_compare_places := (fun_mk (st := s_compare_places) l_compare_places c_compare_places k_compare_places).binds (ps := ["first", "second"]) (fun _ _ _ _ _ _ us hl => (match us, hl with | [_, _], _ => rfl)), g_compare_places := PySem.W.mg_of X G a_compare_places, a_value_place := p_value_place, f_value_place := _, F_value_place := fun_mk (st := s_value_place) l_value_place c_value_place k_value_place, b_value_place := (fun_mk (st := s_value_place) l_value_place c_value_place k_value_place).binds (ps := ["value", "descending"]) (fun _ _ _ _ _ _ us hl => (match us, hl with | [_, _], _ => rfl)), g_value_place := PySem.W.mg_of X G a_value_place, a_key_place := p_key_place, f_key_place := _, F_key_place := fun_mk (st := s_key_place) l_key_place c_key_place k_key_place, b_key_place := (fun_mk (st := s_key_place) l_key_place c_key_place k_key_place).binds (ps := ["view", "key"]) (fun _ _ _ _ _ _ us hl => (match us, hl with | [_, _], _ => rfl)), g_key_place := PySem.W.mg_of X G a_key_place, a_is_key := p_is_key, f_is_key := _, F_is_key := fun_mk (st := s_is_key) l_is_key c_is_key k_is_key, b_is_key := (fun_mk (st := s_is_key) l_is_key c_is_key k_is_key).binds (ps := ["view", "value"]) (fun _ _ _ _ _ _ us hl => (match us, hl with | [_, _], _ => rfl)), g_is_key := PySem.W.mg_of X G a_is_key, a_is_mark := p_is_mark, f_is_mark := _, F_is_mark := fun_mk (st := s_is_mark) l_is_mark c_is_mark k_is_mark, b_is_mark := (fun_mk (st := s_is_mark) l_is_mark c_is_mark k_is_mark).binds (ps := ["view", "value"]) (fun _ _ _ _ _ _ us hl => (match us, hl with | [_, _], _ => rfl)), g_is_mark := PySem.W.mg_of X G a_is_mark, a_mark_place := p_mark_place, f_mark_place := _, F_mark_place := fun_mk (st := s_mark_place) l_mark_place c_mark_place k_mark_place, b_mark_place := (fun_mk (st := s_mark_place) l_mark_place c_mark_place k_mark_place).binds (ps := ["view", "mark"]) (fun _ _ _ _ _ _ us hl => (match us, hl with | [_, _], _ => rfl)), g_mark_place := PySem.W.mg_of X G a_mark_place, a_compare_marks := p_compare_marks, f_compare_marks := _, F_compare_marks := fun_mk (st := s_compare_marks) l_compare_marks c_compare_marks k_compare_marks, b_compare_marks := (fun_mk (st := s_compare_marks) l_compare_marks c_compare_marks k_compare_marks).binds (ps := ["view", "first", "second"]) (fun _ _ _ _ _ _ us hl => (match us, hl with | [_, _, _], _ => rfl)), g_compare_marks := PySem.W.mg_of X G a_compare_marks, a_are_window_marks := p_are_window_marks, f_are_window_marks := _, F_are_window_marks := fun_mk (st := s_are_window_marks) l_are_window_marks c_are_window_marks k_are_window_marks, b_are_window_marks := (fun_mk (st := s_are_window_marks) l_are_window_marks c_are_window_marks k_are_window_marks).binds (ps := ["view", "low", "high"]) (fun _ _ _ _ _ _ us hl => (match us, hl with | [_, _, _], _ => rfl)), g_are_window_marks := PySem.W.mg_of X G a_are_window_marks, a_is_top_count := p_is_top_count, f_is_top_count := _, F_is_top_count := fun_mk (st := s_is_top_count) l_is_top_count c_is_top_count k_is_top_count, b_is_top_count := (fun_mk (st := s_is_top_count) l_is_top_count c_is_top_count k_is_top_count).binds (ps := ["value"]) (fun _ _ _ _ _ _ us hl => (match us, hl with | [_], _ => rfl)), g_is_top_count := PySem.W.mg_of X G a_is_top_count, a_is_token := p_is_token, f_is_token := _, F_is_token := fun_mk (st := s_is_token) l_is_token c_is_token k_is_token, b_is_token := (fun_mk (st := s_is_token) l_is_token c_is_token k_is_token).binds (ps := ["value", "width"]) (fun _ _ _ _ _ _ us hl => (match us, hl with | [_, _], _ => rfl)), g_is_token := PySem.W.mg_of X G a_is_token, a__law_tape := p__law_tape, f__law_tape := _, F__law_tape := fun_mk (st := s__law_tape) l__law_tape c__law_tape k__law_tape, b__law_tape := (fun_mk (st := s__law_tape) l__law_tape c__law_tape k__law_tape).binds (ps := ["script", "start"]) (fun _ _ _ _ _ _ us hl => (match us, hl with | [_, _], _ => rfl)), g__law_tape := PySem.W.mg_of X G a__law_tape, a__law_pick := p__law_pick, f__law_pick := _, F__law_pick := fun_mk (st := s__law_pick) l__law_pick c__law_pick k__law_pick, b__law_pick := (fun_mk (st := s__law_pick) l__law_pick c__law_pick k__law_pick).binds (ps := ["tape", "size"]) (fun _ _ _ _ _ _ us hl => (match us, hl with | [_, _], _ => rfl)), g__law_pick := PySem.W.mg_of X G a__law_pick, a__law_one_of := p__law_one_of, f__law_one_of := _, F__law_one_of := fun_mk (st := s__law_one_of) l__law_one_of c__law_one_of k__law_one_of, b__law_one_of := (fun_mk (st := s__law_one_of) l__law_one_of c__law_one_of k__law_one_of).binds (ps := ["tape", "items"]) (fun _ _ _ _ _ _ us hl => (match us, hl with | [_, _], _ => rfl)), g__law_one_of := PySem.W.mg_of X G a__law_one_of, a__law_value := p__law_value, f__law_value := _, F__law_value := fun_mk (st := s__law_value) l__law_value c__law_value k__law_value, b__law_value := (fun_mk (st := s__law_value) l__law_value c__law_value k__law_value).binds (ps := ["tape"]) (fun _ _ _ _ _ _ us hl => (match us, hl with | [_], _ => rfl)), g__law_value := PySem.W.mg_of X G a__law_value, a__law_values := p__law_values, f__law_values := _, F__law_values := fun_mk (st := s__law_values) l__law_values c__law_values k__law_values, b__law_values := (fun_mk (st := s__law_values) l__law_values c__law_values k__law_values).binds (ps := ["tape", "width"]) (fun _ _ _ _ _ _ us hl => (match us, hl with | [_, _], _ => rfl)), g__law_values := PySem.W.mg_of X G a__law_values, a__law_test := p__law_test, f__law_test := _, F__law_test := fun_mk (st := s__law_test) l__law_test c__law_test k__law_test, b__law_test := (fun_mk (st := s__law_test) l__law_test c__law_test k__law_test).binds (ps := ["tape", "width"]) (fun _ _ _ _ _ _ us hl => (match us, hl with | [_, _], _ => rfl)), g__law_test := PySem.W.mg_of X G a__law_test, a__law_condition := p__law_condition, f__law_condition := _, F__law_condition := fun_mk (st := s__law_condition) l__law_condition c__law_condition k__law_condition, b__law_condition := (fun_mk (st := s__law_condition) l__law_condition c__law_condition k__law_condition).binds (ps := ["tape", "width", "depth"]) (fun _ _ _ _ _ _ us hl => (match us, hl with | [_, _, _], _ => rfl)), g__law_condition := PySem.W.mg_of X G a__law_condition, a__law_view := p__law_view, f__law_view := _, F__law_view := fun_mk (st := s__law_view) l__law_view c__law_view k__law_view, b__law_view := (fun_mk (st := s__law_view) l__law_view c__law_view k__law_view).binds (ps := ["tape", "width"]) (fun _ _ _ _ _ _ us hl => (match us, hl with | [_, _], _ => rfl)), g__law_view := PySem.W.mg_of X G a__law_view, a__law_rank := p__law_rank, f__law_rank := _, F__law_rank := fun_mk (st := s__law_rank) l__law_rank c__law_rank k__law_rank, b__law_rank := (fun_mk (st := s__law_rank) l__law_rank c__law_rank k__law_rank).binds (ps := ["value"]) (fun _ _ _ _ _ _ us hl => (match us, hl with | [_], _ => rfl)), g__law_rank := PySem.W.mg_of X G a__law_rank, a__law_key := p__law_key, f__law_key := _, F__law_key := fun_mk (st := s__law_key) l__law_key c__law_key k__law_key, b__law_key := (fun_mk (st := s__law_key) l__law_key c__law_key k__law_key).binds (ps := ["view", "number", "values"]) (fun _ _ _ _ _ _ us hl => (match us, hl with | [_, _, _], _ => rfl)), g__law_key := PySem.W.mg_of X G a__law_key, a__law_sign := p__law_sign, f__law_sign := _, F__law_sign := fun_mk (st := s__law_sign) l__law_sign c__law_sign k__law_sign, b__law_sign := (fun_mk (st := s__law_sign) l__law_sign c__law_sign k__law_sign).binds (ps := ["view", "first", "second"]) (fun _ _ _ _ _ _ us hl => (match us, hl with | [_, _, _], _ => rfl)), g__law_sign := PySem.W.mg_of X G a__law_sign, a__law_mark := p__law_mark, f__law_mark := _, F__law_mark := fun_mk (st := s__law_mark) l__law_mark c__law_mark k__law_mark, b__law_mark := (fun_mk (st := s__law_mark) l__law_mark c__law_mark k__law_mark).binds (ps := ["tape", "view", "width"]) (fun _ _ _ _ _ _ us hl => (match us, hl with | [_, _, _], _ => rfl)), g__law_mark := PySem.W.mg_of X G a__law_mark, a__law_marks := p__law_marks, f__law_marks := _, F__law_marks := fun_mk (st := s__law_marks) l__law_marks c__law_marks k__law_marks, b__law_marks := (fun_mk (st := s__law_marks) l__law_marks c__law_marks k__law_marks).binds (ps := ["tape", "view", "width"]) (fun _ _ _ _ _ _ us hl => (match us, hl with | [_, _, _], _ => rfl)), g__law_marks := PySem.W.mg_of X G a__law_marks, a__law_integer := p__law_integer, f__law_integer := _, F__law_integer := fun_mk (st := s__law_integer) l__law_integer c__law_integer k__law_integer, b__law_integer := (fun_mk (st := s__law_integer) l__law_integer c__law_integer k__law_integer).binds (ps := ["thing", "least"]) (fun _ _ _ _ _ _ us hl => (match us, hl with | [_, _], _ => rfl)), g__law_integer := PySem.W.mg_of X G a__law_integer, a__law_due := p__law_due, f__law_due := _, F__law_due := fun_mk (st := s__law_due) l__law_due c__law_due k__law_due, b__law_due := (fun_mk (st := s__law_due) l__law_due c__law_due k__law_due).binds (ps := ["thing", "width"]) (fun _ _ _ _ _ _ us hl => (match us, hl with | [_, _], _ => rfl)), g__law_due := PySem.W.mg_of X G a__law_due, a__law_bent := p__law_bent, f__law_bent := _, F__law_bent := fun_mk (st := s__law_bent) l__law_bent c__law_bent k__law_bent, b__law_bent := (fun_mk (st := s__law_bent) l__law_bent c__law_bent k__law_bent).binds (ps := ["tape", "thing"]) (fun _ _ _ _ _ _ us hl => (match us, hl with | [_, _], _ => rfl)), g__law_bent := PySem.W.mg_of X G a__law_bent, a_law := fa, f_law := _, F_law := fun_mk (st := s_law) l_law c_law k_law, b_law := (fun_mk (st := s_law) l_law c_law k_law).binds (ps := ["script"]) (fun _ _ _ _ _ _ us hl => (match us, hl with | [_], _ => rfl)), g_law := PySem.W.mg_of X G a_law, n_all := PySem.W.mg_none_of X G n_all, n_bool := PySem.W.mg_none_of X G n_bool, n_enumerate := PySem.W.mg_none_of X G n_enumerate, n_int := PySem.W.mg_none_of X G n_int, n_isinstance := PySem.W.mg_none_of X G n_isinstance, n_len := PySem.W.mg_none_of X G n_len, n_list := PySem.W.mg_none_of X G n_list, n_max := PySem.W.mg_none_of X G n_max, n_min := PySem.W.mg_none_of X G n_min, n_ord := PySem.W.mg_none_of X G n_ord, n_range := PySem.W.mg_none_of X G n_range, n_repr := PySem.W.mg_none_of X G n_repr, n_set := PySem.W.mg_none_of X G n_set, n_sorted := PySem.W.mg_none_of X G n_sorted, n_str := PySem.W.mg_none_of X G n_str, n_tuple := PySem.W.mg_none_of X G n_tuple, n_zip := PySem.W.mg_none_of X G n_zip, t_GREATEST_DEPTH := t_GREATEST_DEPTH, c_GREATEST_DEPTH := PySem.W.mg_of X G c_GREATEST_DEPTH, t_GREATEST_ID := t_GREATEST_ID, c_GREATEST_ID := PySem.W.mg_of X G c_GREATEST_ID, t_GREATEST_INTEGER := t_GREATEST_INTEGER, c_GREATEST_INTEGER := PySem.W.mg_of X G c_GREATEST_INTEGER, t_LONGEST_STRING := t_LONGEST_STRING, c_LONGEST_STRING := PySem.W.mg_of X G c_LONGEST_STRING, t_MOST_CHOICES := t_MOST_CHOICES, c_MOST_CHOICES := PySem.W.mg_of X G c_MOST_CHOICES, t_MOST_COUNTED := t_MOST_COUNTED, c_MOST_COUNTED := PySem.W.mg_of X G c_MOST_COUNTED, t_MOST_ORDERED := t_MOST_ORDERED, c_MOST_ORDERED := PySem.W.mg_of X G c_MOST_ORDERED }
  exact ⟨_, fun s v => .of_eq rfl, fun base _ _ => d_law T⟩
end LW
open PySem PySem.W PyProof.Rows
set_option maxHeartbeats 0 in
theorem PySem.Challenge.cw_steadypages_k46_what_is_a_token_holds : PySem.Challenge.rw_steadypages_k46_what_is_a_token.Holds := by
  w_on; o_law; k_head; (case hw => w_witness2)
  k_fill
  refine DL.walkD (l := PySem.Challenge.rw_steadypages_k46_what_is_a_token) (n := 63) (k := 19) (x := "script") (m := LW.m_law) rfl (by decide) rfl ⟨rfl, by decide, by decide⟩ (fun w h Y => PySem.W.kIn_of Y) ?F LW.law_true
  case F =>
    intro w mg fa h KX G hmg
    refine' LW.all_mk KX G hmg ?a_is_integer ?l_is_integer ?c_is_integer ?k_is_integer ?a_is_string ?l_is_string ?c_is_string ?k_is_string ?a_is_value ?l_is_value ?c_is_value ?k_is_value ?a_kind_place ?l_kind_place ?c_kind_place ?k_kind_place ?a_is_row_id ?l_is_row_id ?c_is_row_id ?k_is_row_id ?a_is_choice ?l_is_choice ?c_is_choice ?k_is_choice ?a_is_operand ?l_is_operand ?c_is_operand ?k_is_operand ?a_is_column ?l_is_column ?c_is_column ?k_is_column ?a_is_condition_within ?l_is_condition_within ?c_is_condition_within ?k_is_condition_within ?a_is_condition ?l_is_condition ?c_is_condition ?k_is_condition ?a_is_shown ?l_is_shown ?c_is_shown ?k_is_shown ?a_is_order_pair ?l_is_order_pair ?c_is_order_pair ?k_is_order_pair ?a_is_order ?l_is_order ?c_is_order ?k_is_order ?a_is_view ?l_is_view ?c_is_view ?k_is_view ?a_compare_places ?l_compare_places ?c_compare_places ?k_compare_places ?a_value_place ?l_value_place ?c_value_place ?k_value_place ?a_key_place ?l_key_place ?c_key_place ?k_key_place ?a_is_key ?l_is_key ?c_is_key ?k_is_key ?a_is_mark ?l_is_mark ?c_is_mark ?k_is_mark ?a_mark_place ?l_mark_place ?c_mark_place ?k_mark_place ?a_compare_marks ?l_compare_marks ?c_compare_marks ?k_compare_marks ?a_are_window_marks ?l_are_window_marks ?c_are_window_marks ?k_are_window_marks ?a_is_top_count ?l_is_top_count ?c_is_top_count ?k_is_top_count ?a_is_token ?l_is_token ?c_is_token ?k_is_token ?a__law_tape ?l__law_tape ?c__law_tape ?k__law_tape ?a__law_pick ?l__law_pick ?c__law_pick ?k__law_pick ?a__law_one_of ?l__law_one_of ?c__law_one_of ?k__law_one_of ?a__law_value ?l__law_value ?c__law_value ?k__law_value ?a__law_values ?l__law_values ?c__law_values ?k__law_values ?a__law_test ?l__law_test ?c__law_test ?k__law_test ?a__law_condition ?l__law_condition ?c__law_condition ?k__law_condition ?a__law_view ?l__law_view ?c__law_view ?k__law_view ?a__law_rank ?l__law_rank ?c__law_rank ?k__law_rank ?a__law_key ?l__law_key ?c__law_key ?k__law_key ?a__law_sign ?l__law_sign ?c__law_sign ?k__law_sign ?a__law_mark ?l__law_mark ?c__law_mark ?k__law_mark ?a__law_marks ?l__law_marks ?c__law_marks ?k__law_marks ?a__law_integer ?l__law_integer ?c__law_integer ?k__law_integer ?a__law_due ?l__law_due ?c__law_due ?k__law_due ?a__law_bent ?l__law_bent ?c__law_bent ?k__law_bent ?a_law ?l_law ?c_law ?k_law ?n_all ?n_bool ?n_enumerate ?n_int ?n_isinstance ?n_len ?n_list ?n_max ?n_min ?n_ord ?n_range ?n_repr ?n_set ?n_sorted ?n_str ?n_tuple ?n_zip ?c_GREATEST_DEPTH ?c_GREATEST_ID ?c_GREATEST_INTEGER ?c_LONGEST_STRING ?c_MOST_CHOICES ?c_MOST_COUNTED ?c_MOST_ORDERED
    (case a_is_integer => k_is); (case l_is_integer => k_is); (case c_is_integer => k_is); (case k_is_integer => k_is); (case a_is_string => k_is); (case l_is_string => k_is); (case c_is_string => k_is); (case k_is_string => k_is); (case a_is_value => k_is); (case l_is_value => k_is); (case c_is_value => k_is); (case k_is_value => k_is); (case a_kind_place => k_is); (case l_kind_place => k_is); (case c_kind_place => k_is); (case k_kind_place => k_is); (case a_is_row_id => k_is); (case l_is_row_id => k_is); (case c_is_row_id => k_is); (case k_is_row_id => k_is); (case a_is_choice => k_is); (case l_is_choice => k_is); (case c_is_choice => k_is); (case k_is_choice => k_is); (case a_is_operand => k_is); (case l_is_operand => k_is); (case c_is_operand => k_is); (case k_is_operand => k_is); (case a_is_column => k_is); (case l_is_column => k_is); (case c_is_column => k_is); (case k_is_column => k_is); (case a_is_condition_within => k_is); (case l_is_condition_within => k_is); (case c_is_condition_within => k_is); (case k_is_condition_within => k_is); (case a_is_condition => k_is); (case l_is_condition => k_is); (case c_is_condition => k_is); (case k_is_condition => k_is); (case a_is_shown => k_is); (case l_is_shown => k_is); (case c_is_shown => k_is); (case k_is_shown => k_is); (case a_is_order_pair => k_is); (case l_is_order_pair => k_is); (case c_is_order_pair => k_is); (case k_is_order_pair => k_is); (case a_is_order => k_is); (case l_is_order => k_is); (case c_is_order => k_is); (case k_is_order => k_is); (case a_is_view => k_is); (case l_is_view => k_is); (case c_is_view => k_is); (case k_is_view => k_is); (case a_compare_places => k_is); (case l_compare_places => k_is); (case c_compare_places => k_is); (case k_compare_places => k_is); (case a_value_place => k_is); (case l_value_place => k_is); (case c_value_place => k_is); (case k_value_place => k_is); (case a_key_place => k_is); (case l_key_place => k_is); (case c_key_place => k_is); (case k_key_place => k_is); (case a_is_key => k_is); (case l_is_key => k_is); (case c_is_key => k_is); (case k_is_key => k_is); (case a_is_mark => k_is); (case l_is_mark => k_is); (case c_is_mark => k_is); (case k_is_mark => k_is); (case a_mark_place => k_is); (case l_mark_place => k_is); (case c_mark_place => k_is); (case k_mark_place => k_is); (case a_compare_marks => k_is); (case l_compare_marks => k_is); (case c_compare_marks => k_is); (case k_compare_marks => k_is); (case a_are_window_marks => k_is); (case l_are_window_marks => k_is); (case c_are_window_marks => k_is); (case k_are_window_marks => k_is); (case a_is_top_count => k_is); (case l_is_top_count => k_is); (case c_is_top_count => k_is); (case k_is_top_count => k_is); (case a_is_token => k_is); (case l_is_token => k_is); (case c_is_token => k_is); (case k_is_token => k_is); (case a__law_tape => k_is); (case l__law_tape => k_is); (case c__law_tape => k_is); (case k__law_tape => k_is); (case a__law_pick => k_is); (case l__law_pick => k_is); (case c__law_pick => k_is); (case k__law_pick => k_is); (case a__law_one_of => k_is); (case l__law_one_of => k_is); (case c__law_one_of => k_is); (case k__law_one_of => k_is); (case a__law_value => k_is); (case l__law_value => k_is); (case c__law_value => k_is); (case k__law_value => k_is); (case a__law_values => k_is); (case l__law_values => k_is); (case c__law_values => k_is); (case k__law_values => k_is); (case a__law_test => k_is); (case l__law_test => k_is); (case c__law_test => k_is); (case k__law_test => k_is); (case a__law_condition => k_is); (case l__law_condition => k_is); (case c__law_condition => k_is); (case k__law_condition => k_is); (case a__law_view => k_is); (case l__law_view => k_is); (case c__law_view => k_is); (case k__law_view => k_is); (case a__law_rank => k_is); (case l__law_rank => k_is); (case c__law_rank => k_is); (case k__law_rank => k_is); (case a__law_key => k_is); (case l__law_key => k_is); (case c__law_key => k_is); (case k__law_key => k_is); (case a__law_sign => k_is); (case l__law_sign => k_is); (case c__law_sign => k_is); (case k__law_sign => k_is); (case a__law_mark => k_is); (case l__law_mark => k_is); (case c__law_mark => k_is); (case k__law_mark => k_is); (case a__law_marks => k_is); (case l__law_marks => k_is); (case c__law_marks => k_is); (case k__law_marks => k_is); (case a__law_integer => k_is); (case l__law_integer => k_is); (case c__law_integer => k_is); (case k__law_integer => k_is); (case a__law_due => k_is); (case l__law_due => k_is); (case c__law_due => k_is); (case k__law_due => k_is); (case a__law_bent => k_is); (case l__law_bent => k_is); (case c__law_bent => k_is); (case k__law_bent => k_is); (case a_law => k_is); (case l_law => k_is); (case c_law => k_is); (case k_law => k_is); (case n_all => k_is); (case n_bool => k_is); (case n_enumerate => k_is); (case n_int => k_is); (case n_isinstance => k_is); (case n_len => k_is); (case n_list => k_is); (case n_max => k_is); (case n_min => k_is); (case n_ord => k_is); (case n_range => k_is); (case n_repr => k_is); (case n_set => k_is); (case n_sorted => k_is); (case n_str => k_is); (case n_tuple => k_is); (case n_zip => k_is); (case c_GREATEST_DEPTH => k_is); (case c_GREATEST_ID => k_is); (case c_GREATEST_INTEGER => k_is); (case c_LONGEST_STRING => k_is); (case c_MOST_CHOICES => k_is); (case c_MOST_COUNTED => k_is); (case c_MOST_ORDERED => k_is)
