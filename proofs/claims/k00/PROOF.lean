import PyProof.Rows.All
import Wide.All
import OpenK.AllK
import Wide.FinOn
import PySem.Challenge.RW_bannedorders_k00_errors
import HandS.ForMost
import HandS.Flow
import HandS.TupAny
import HandS.More
import HandS.Conv
import HandS.Wide
import HandS.IsInst
import HandS.Strs
import HandS.Style
import HandS.Zip
import HandS.Rev
import HandS.AnyAll
import HandS.EndTab
import HandS.EndOwn
import HandS.ExcInit
import HandS.TupMul
import HandS.SortInts
import HandS.WordsExc
import PyProof.SeqIndex
import KE.KDictKeyed
import KE.DatumOrd
import KE.DatumMoreOrd
import KE.SortData
import KE.DatumIndex
import HandS.SetFor
import HandS.SortKw
import PyProof.GenCompD
import HandS.GenList
import HandS.Deep
import KE.GoesEnum
import HandS.TryOnly
import KE.SortKeyHeap
import KE.KSortKey
import KE.DataMinKey
import KE.KDictZip
import KE.GoesMore
import HandS.CallLocal
import KE.IntBitsLaws
import HandS.TupLen
import HandS.DictComp
import KE.KDictCopyH
import KE.KDictList
import KE.KDictWalk
import KE.KDictDisplayH
import PyProof.AutoSeq1
import HandS.FStr
import HandS.TupSets
import HandS.ExcValue
import KE.KExcIs
import KE.KIsAll
import HandS.ExcIs
set_option Elab.async false
section
set_option Elab.async false
set_option linter.all false
set_option maxRecDepth 100000
/-! SX0: the rules that make tuples, so that their object (with no dict) is known to the abstract heap; methods of tuples. -/
namespace SX
open PySem PySem.Spec PyProof.Rows L2
section
variable {X : Cx} {pins : List (Addr × Obj)} {σ : L2.St} {H : Hp} {s : Shared}
/-- a new tuple, its object known -/
theorem layT {a : Addr} {o : Obj} {n : Nat} {xs : List V} {its : List Value} {h' : Heap} {t' : Nat} (I : Inv X pins σ H s) (k : ∀ b u, s.heap.get? b = some u → h'.get? b = some u) (hp : s.heap.objs.size ≤ a)
    (e : h'.get? a = some o) (hc : o.cls = .type "tuple") (hd : o.data = .seq its.toArray n) (r : Vals xs its) (hz : xs.length ≤ sizeLine) : Inv X pins σ (upd H a (.frz o (.tup xs))) { s with heap := h', toks := t' } :=
  I.laid k hp ⟨e, hz, its, r, ⟨o, e, hc, n, hd⟩⟩
abbrev LayT (xs : List V) (H : Hp) (Q : VK) : Prop := ∀ (p : Addr) (o : Obj), H p = none → o.dict = none → Q (.ref p) (upd H p (.frz o (.tup xs)))
def tTupZ (t : TA) : TE := fun σ H Q => t σ H fun xs H1 => xs.length ≤ sizeLine ∧ LayT xs H1 Q
theorem pe_tupZ {es : List Expr} {t : TA} {pos : Pos} {x1} (h : PA X es t) : PE X (.Tuple es x1 pos) (tTupZ t) := by
  refine ⟨fun pins s σ H Q I hq => ?_⟩
  refine wpAny_Tuple_spliced (thn (h.run pos pins s σ H _ I hq) fun us s1 ⟨xs, H1, I1, r, z, q⟩ => ⟨by rw [← r.length]; exact z, ?_⟩)
  have hf : H1 s1.heap.objs.size = none := I1.hok.fresh (Nat.le_refl _)
  exact ⟨.ref s1.heap.objs.size, _, layT I1 (t' := s1.toks) (fun b u e => Heap.get?_push_of_some _ e) (Nat.le_refl _) (Heap.get?_push_size _ rfl) rfl rfl r z, rfl, q _ _ hf rfl⟩
def rCatZ (K : PySem.W.Frag) : R2 := fun x y H Q => ∃ a b xs ys, x = .ref a ∧ y = .ref b ∧ SqT K H a xs ∧ SqT K H b ys ∧ xs.length + ys.length ≤ sizeLine ∧
  (xs = [] → Q (.ref b) H) ∧ (xs ≠ [] → ys = [] → Q (.ref a) H) ∧ (xs ≠ [] → ys ≠ [] → LayT (xs ++ ys) H Q)
theorem op_catZ : OpR X (binaryOp .Add) (rCatZ X.K) := by
  intro pins s σ H x y v u Q I rx ry h
  obtain ⟨a, b, xs, ys, rfl, rfl, ha, hb, hz, q0, q1, q2⟩ := h
  cases rx
  cases ry
  obtain ⟨its, r1, p1, _⟩ := I.tuple ha
  obtain ⟨its2, r2, p2, _⟩ := I.tuple hb
  by_cases hx : xs = []
  · subst hx
    cases r1
    exact cat_tup0 p1 p2 ⟨.ref b, H, I, rfl, q0 rfl⟩
  · refine HT.cat_tup p1 p2 (fun z => hx (r1.nil_iff.mp z)) (fun z => ⟨.ref a, H, I, rfl, q1 hx (r2.nil_iff.mp z)⟩) (fun z => ?_) (by rw [← r1.length, ← r2.length]; exact hz)
    exact ⟨.ref s.heap.objs.size, _, layT I (t' := s.toks) (fun b ob q => Heap.get?_push_of_some _ q) (Nat.le_refl _) (Heap.get?_push_size _ rfl) rfl rfl (r1.append r2) (by rw [List.length_append]; exact hz), rfl, q2 hx (fun w => z (r2.nil_iff.mpr w)) _ _ (I.hok.fresh (Nat.le_refl _)) rfl⟩
def rSlZ (K : PySem.W.Frag) : V → Option Int → Option Int → Hp → VK → Prop := fun x lo hi H Q => ∃ a xs, x = .ref a ∧ SqT K H a xs ∧
  (HT.sIx xs.length 0 lo = 0 ∧ HT.sIx xs.length xs.length hi = xs.length → Q (.ref a) H) ∧ (¬ (HT.sIx xs.length 0 lo = 0 ∧ HT.sIx xs.length xs.length hi = xs.length) → LayT (cutV xs lo hi) H Q)
theorem sl_tupZ : SlR X (rSlZ X.K) := by
  intro pins s σ H x v vl vu lo hi sl Q I rx hs pl pu h
  obtain ⟨a, xs, rfl, hx, q1, q2⟩ := h
  cases rx
  obtain ⟨its, r, ht, hz⟩ := I.tuple hx
  have hlen : its.toArray.size = xs.length := by rw [List.size_toArray]; exact r.length.symm
  refine ⟨"tuple", _, PyProof.Rows.slot_tuple_getitem.lookup, ht.typeIs, ?_⟩
  by_cases hw : HT.sIx xs.length 0 lo = 0 ∧ HT.sIx xs.length xs.length hi = xs.length
  · exact getItem_tuple_whole ht hs pl pu (by rw [hlen]; exact hw) ⟨.ref a, H, I, rfl, q1 hw⟩
  · refine HT.getItem_tuple_cut ht hs pl pu (by rw [hlen]; exact hw) ?_ (by rw [hlen]; exact hz)
    rw [hlen]
    exact ⟨.ref s.heap.objs.size, _, layT I (t' := s.toks) (fun b ob q => Heap.get?_push_of_some _ q) (Nat.le_refl _) (Heap.get?_push_size _ rfl) rfl rfl ((r.drop (HT.sIx xs.length 0 lo)).take (HT.sIx xs.length xs.length hi - HT.sIx xs.length 0 lo)) (Nat.le_trans (cutV_length xs lo hi) hz), rfl, q2 hw _ _ (I.hok.fresh (Nat.le_refl _)) rfl⟩
/-- tuple(x) of a list: a new tuple; of a tuple: itself -/
def kTupZ (K : PySem.W.Frag) (x : V) (H : Hp) (Q : VK) : Prop :=
  (∃ p xs, x = .ref p ∧ SqL K H p xs ∧ LayT xs H Q) ∨ (∃ p xs, x = .ref p ∧ SqT K H p xs ∧ Q (.ref p) H)
theorem rl_tupleZ (pins : List (Addr × Obj)) (s : Shared) (σ : L2.St) (H : Hp) (x : V) (v : Value) (Q : VK) (I : Inv X pins σ H s) (r : RelV x v) (h : kTupZ X.K x H Q) :
    wpAny (model X.prog X.w) X.A (call (.type "tuple") [v]) (EP X pins σ Q) X.xe s := by
  rcases h with ⟨p, xs, rfl, hs, q⟩ | ⟨p, xs, rfl, hs, q⟩
  · obtain rfl : v = .ref p := r
    obtain ⟨its, rv, pl, hz⟩ := I.list hs
    refine call_tuple_list pl.isList (fun h' hk => ?_) (by rw [List.size_toArray, ← rv.length]; exact hz)
    have I1 : Inv X pins σ H { s with heap := h' } := I.kept (t' := s.toks) hk
    have I2 : Inv X pins σ (upd H h'.objs.size (.frz { cls := .type "tuple", data := .seq its.toArray } (.tup xs))) { s with heap := h'.push { cls := .type "tuple", data := .seq its.toArray } } :=
      layT (s := { s with heap := h' }) I1 (t' := s.toks) (fun b o e => Heap.get?_push_of_some _ e) (Nat.le_refl _) (Heap.get?_push_size _ rfl) rfl rfl rv hz
    exact ⟨.ref h'.objs.size, _, I2, rfl, q _ _ (I1.hok.fresh (Nat.le_refl _)) rfl⟩
  · obtain rfl : v = .ref p := r
    obtain ⟨its, rv, pl, hz⟩ := I.tuple hs
    exact call_tuple_tup pl ⟨.ref p, H, I, rfl, q⟩
theorem pe_tupleOfZ {a : Expr} {ta : TE} {p pos : Pos} (hg : Gl X "tuple") (hm : X.mg "tuple" = none) (ha : PE X a ta) (na : starEach [a] X.env = (false, eval a X.env) :: starEach [] X.env := by rfl) :
    PE X (.Call (.Name "tuple" p) [a] [] pos) (tThen ta (kTupZ X.K)) := by
  refine ⟨fun pins s σ H Q I h => ?_⟩
  exact Call_ (ld_blt I hg hm boot_tuple (PyProof.Rows.callWith_type1 (one_arg ha I h (fun v s2 x H2 I2 r q => rl_tupleZ pins s2 σ H2 x v Q I2 r q) na) na))
def tTupRgZ (te : L2.St → Hp → (Int → Int → Hp → Prop) → Prop) : TE := fun σ H Q => te σ H fun a b H1 => RgOk a b ∧ LayT (rgV a b) H1 Q
theorem pe_tupRgZ {e : Expr} {te : L2.St → Hp → (Int → Int → Hp → Prop) → Prop} {p pos : Pos} (hc : X.calm = true) (hg : Gl X "tuple") (hm : X.mg "tuple" = none) (he : PRg X e te) (na : starEach [e] X.env = (false, eval e X.env) :: starEach [] X.env := by rfl) : PE X (.Call (.Name "tuple" p) [e] [] pos) (tTupRgZ te) := by
  refine ⟨fun pins s σ H Q I h => ?_⟩
  refine Call_ (ld_blt I hg hm boot_tuple (PyProof.Rows.callWith_type1 (args_cons (thn (he pins s σ H _ I h) fun x s1 ⟨r, a, b, t, u, v, H1, ex, hr, I1, ok, q⟩ => args_nil ?_) na) na))
  subst ex
  obtain ⟨b1, b2, b3, b4, b5⟩ := ok
  refine call_tuple_range (n := (b - a).toNat) (I1.ok.hd hc) hr (small_one b1 b2 b3 b4) (rangeSize_nat a b) b5 fun h' tk acc hk hi => ?_
  have I2 : Inv X pins σ H1 { s1 with heap := h', toks := tk } := I1.kept hk
  have I3 : Inv X pins σ (upd H1 h'.objs.size (.frz { cls := .type "tuple", data := .seq acc } (.tup (rgV a b)))) { s1 with heap := h'.push { cls := .type "tuple", data := .seq acc }, toks := tk } :=
    layT (s := { s1 with heap := h', toks := tk }) (its := acc.toList) (n := 0) I2 (t' := tk) (fun c o e => Heap.get?_push_of_some _ e) (Nat.le_refl _) (Heap.get?_push_size _ rfl) rfl (by rw [Array.toArray_toList]) (vals_rg hi) (by rw [rgV_length, sizeLine_eq]; omega)
  exact ⟨.ref h'.objs.size, _, I3, rfl, q _ _ (I2.hok.fresh (Nat.le_refl _)) rfl⟩
end
/-- a tuple whose object has no dict of its own -/
def TpL (K : PySem.W.Frag) (H : Hp) (a : Addr) (xs : List V) : Prop :=
  (∃ o : Obj, H a = some (.frz o (.tup xs)) ∧ o.dict = none) ∨
    ∃ (o : Obj) (its : Array Value) (n : Nat), K.lookup a = some o ∧ o.cls = .type "tuple" ∧ o.dict = none ∧ o.data = .seq its n ∧ its.size ≤ sizeLine ∧ Vals xs its.toList
theorem TpL.sq {K : PySem.W.Frag} {H : Hp} {a : Addr} {xs : List V} (h : TpL K H a xs) : SqT K H a xs := by
  rcases h with ⟨o, h, _⟩ | ⟨o, its, n, h1, h2, _, h3⟩
  · exact .inl (.inr ⟨o, h⟩)
  · exact .inr ⟨o, its, n, h1, h2, h3⟩
section
variable {X : Cx} {pins : List (Addr × Obj)} {σ : L2.St} {H : Hp} {s : Shared}
theorem TpL.is {a : Addr} {xs : List V} (I : Inv X pins σ H s) (h : TpL X.K H a xs) : ∃ (its : List Value), Vals xs its ∧ IsTup s.heap a its.toArray ∧ xs.length ≤ sizeLine ∧ ∃ ob, s.heap.get? a = some ob ∧ ob.dict = none := by
  obtain ⟨its, r, p, z⟩ := I.tuple h.sq
  refine ⟨its, r, p, z, ?_⟩
  rcases h with ⟨o, h, hd⟩ | ⟨o, its, n, h1, h2, hd, h3⟩
  · exact ⟨o, (I.hok a _ h).1, hd⟩
  · exact ⟨o, I.kIn a o h1, hd⟩
/-- o.m(..) of a tuple -/
def tBMT (K : PySem.W.Frag) (r : V → List V → Hp → VK → Prop) (to : TE) (t : TA) : TE := fun σ H Q => to σ H fun x H1 => (∃ a xs, x = .ref a ∧ TpL K H1 a xs) ∧ t σ H1 fun vs H2 => r x vs H2 Q
theorem pe_bmT {e o : Expr} {es : List Expr} {to : TE} {t : TA} {name : Str} {id : String} {r : V → List V → Hp → VK → Prop} {apos cpos : Pos} (slot : Slot "tuple" name id) (hty : typeOf (.builtin id) = pure (.type "method_descriptor")) (hm : MtR X id r) (ho : PE X o to) (ha : PA X (e :: es) t)
    (hbase : attributeBase o name X.env (eval o X.env) = eval o X.env := by rfl)
    (hfew : ((backTo cpos (starEach (e :: es) X.env)).all (fun x => !x.1) && (backToKw cpos (keywordEach [] X.env)).all (fun x => x.1.isSome)
      && decide ((e :: es).length + ([] : List Keyword).length + (if ([] : List Keyword).isEmpty then 0 else 1) < 30)) = true := by rfl)
    (hline : (apos.endLine == cpos.line) = true := by rfl) (hs : starEach (e :: es) X.env = (false, eval e X.env) :: starEach es X.env := by rfl) (hplain : (backTo cpos (starEach es X.env)).any (·.1) = false := by rfl) :
    PE X (.Call (.Attribute o name apos) (e :: es) [] cpos) (tBMT X.K r to t) := by
  refine ⟨fun pins s σ H Q I h => ?_⟩
  refine wpAny_Call_method_late hbase hfew hline rfl (thn (ho.run pins s σ H _ I h) fun v s1 ⟨x, H1, I1, r1, ⟨a, xs, ex, ty⟩, q1⟩ => ?_)
  subst ex
  obtain rfl : v = .ref a := r1
  obtain ⟨its, _, ht, _, hd⟩ := ty.is I1
  refine ⟨"tuple", id, PySem.F.plainAttrs_tuple, slot, hty, ht.typeIs, fun b e => by cases e; exact hd, ?_⟩
  have hA := ha.run cpos pins s1 σ H1 _ I1 q1
  rw [hs] at hA ⊢
  refine Calls.callWith_builtin (by show (false || (backTo cpos (starEach es X.env)).any (·.1)) = false; rw [hplain] <;> rfl) (Calls.evalArgs_plain ?_)
  exact thn hA fun us s2 ⟨vs, H2, I2, r2, q2⟩ => hm pins s2 σ H2 (.ref a) vs (.ref a) us Q I2 rfl r2 q2
/-- t.index(i), t.count(i), t of whole numbers -/
def rTIx (K : PySem.W.Frag) : V → List V → Hp → VK → Prop := fun x xs H Q => ∃ (a : Addr) (ns : List Int) (i : Int), x = .ref a ∧ xs = [.int i] ∧ SqT K H a (ns.map V.int) ∧ i ∈ ns ∧ Q (.int (ns.idxOf i : Nat)) H
theorem mt_tindex : MtR X "tuple.index" (rTIx X.K) := by
  intro pins s σ H x xs v us Q I rx rs h
  obtain ⟨a, ns, i, rfl, rfl, hq, hi, q⟩ := h
  cases rx
  obtain ⟨u, rfl, t, rfl⟩ := vals1 rs
  obtain ⟨its, r, pl, hz⟩ := I.tuple hq
  refine SeqAt.call_tuple_index (vs := its) (ks := ns) (k := i) pl (?_ : SeqAt.ItemsEq _ _ _ _ _ _) hi ⟨.int (ns.idxOf i : Nat), H, I.tok _, ⟨_, rfl⟩, q⟩
  have hl : its.length = ns.length := by rw [← r.length, List.length_map]
  refine ⟨hl, fun j h1 h2 => ?_⟩
  have e1 : (ns.map V.int)[j]? = some (V.int ns[j]) := by rw [List.getElem?_map, List.getElem?_eq_getElem h2]; rfl
  obtain ⟨w, hw, rw'⟩ := r.get e1
  rw [List.getElem?_eq_getElem h1] at hw
  cases hw
  obtain ⟨t', ht'⟩ := rw'
  have := eqAt_V (A := X.A.in1) (s := s) (y := V.int ns[j]) (x := V.int i) (u := its[j]) (v := .int i t) ⟨t', ht'⟩ ⟨t, rfl⟩ rfl rfl
  have e : eqV (V.int ns[j]) (V.int i) = decide (ns[j] = i) := by
    show (ns[j] == i) = _
    by_cases e : ns[j] = i <;> simp [e]
  exact e ▸ this
def rTCt (K : PySem.W.Frag) : V → List V → Hp → VK → Prop := fun x xs H Q => ∃ (a : Addr) (ns : List Int) (i : Int), x = .ref a ∧ xs = [.int i] ∧ SqT K H a (ns.map V.int) ∧ Q (.int (ns.count i : Nat)) H
theorem flat_ints (ns : List Int) : (ns.map V.int).all flatV = true := by
  rw [List.all_map]
  exact List.all_eq_true.mpr fun _ _ => rfl
theorem countP_eqU {i : Int} : ∀ {ns : List Int} {us : List Value}, Vals (ns.map V.int) us → us.countP (eqU (.int i)) = ns.count i
  | [], _, .nil => rfl
  | n :: ns, _, .cons r t => by
    rw [List.countP_cons, countP_eqU t, List.count_cons, eqU_of r rfl]
    rfl
theorem mt_tcount : MtR X "tuple.count" (rTCt X.K) := by
  intro pins s σ H x xs v us Q I rx rs h
  obtain ⟨a, ns, i, rfl, rfl, hq, q⟩ := h
  cases rx
  obtain ⟨u, rfl, t, rfl⟩ := vals1 rs
  obtain ⟨its, r, ⟨⟨cls, dd, dt, sl⟩, ho, hc, n, hd⟩, hz⟩ := I.tuple hq
  simp only at hc hd
  subst hc
  subst hd
  refine call_meets PySem.F.slot_tuple_count ⟨_, ho, rfl⟩ PySem.F.entry_tuple_count (PySem.F.args_tuple_count_2 _ _) (SeqAt.tuple_countAt a its.toArray n dd sl (.int i t) (eqU (.int i)))
    ⟨ho, fun w hw => mem_eqAt (x := .int i) ⟨t, rfl⟩ rfl r (flat_ints ns) w (by simpa using hw), ?_⟩
  rw [show its.toArray.toList.countP (eqU (.int i)) = ns.count i by rw [List.toList_toArray]; exact countP_eqU r]
  exact ⟨.int (ns.count i : Nat), H, I.tok _, ⟨_, rfl⟩, q⟩
end
end SX
end
section
set_option Elab.async false
set_option linter.all false
set_option maxRecDepth 100000
/-! SXa: data by value beside the hand layer: what a value is (D), what an object that changes holds (MO), how both lie in the abstract heap, what a step leaves. -/
namespace SX
open PySem PySem.Spec PyProof.Rows L2
/-- data: lists that nobody changes any more are data too; ref: an object of this run that may change -/
inductive D where
  | non | bl (b : Bool) | int (i : Int) | str (x : Str) | tup (l : List D) | pr (l : List D) | lst (l : List D) | rol (l : List D) | ref (n : Nat) | exc (C : Addr) (c : Nat) (d : D) | adr (a : Addr)
/-- what an object that may change holds -/
inductive MO where
  | lst (l : List D) | dK (kvs : List (D × D)) | dI (kvs : List (Int × D)) | dead
abbrev Ads := List (Option Addr)
/-- a list that stands and that no later step changes -/
def FzL (K : PySem.W.Frag) (A : Ads) (H : Hp) (a : Addr) (xs : List V) : Prop :=
  (Rd H a (.lst xs) ∧ some a ∉ A) ∨
    ∃ (o : Obj) (its : Array Value) (n : Nat), K.lookup a = some o ∧ o.cls = .type "list" ∧ o.dict = none ∧ o.data = .seq its n ∧ its.size ≤ sizeLine ∧ Vals xs its.toList
theorem FzL.sq {K : PySem.W.Frag} {A : Ads} {H : Hp} {a : Addr} {xs : List V} (h : FzL K A H a xs) : SqL K H a xs := h.elim (fun z => .inl z.1) .inr
/-- an error that was caught, at a: its class at C, its own dict at dx -/
def exR (a C dx : Addr) : HO := .ext fun h => ∃ (oe : Obj) (vs : Array Value), h.get? a = some oe ∧ oe.cls = .ref C ∧ oe.dict = some dx ∧ oe.data = .fields vs
/-- what its class must say, so that its value can be read, and be asked of which class it is -/
structure XcF (K : PySem.W.Frag) (C : Addr) : Prop where
  ga : PySem.W.findIn K (.ref C) "__getattribute__" = some (some (.builtin "BaseException.__getattribute__"))
  gg : PySem.W.findIn K (.ref C) "__getattr__" = some none
  ex : PySem.W.subIn K (.ref C) (.type "BaseException") = some true
  hd : PySem.W.hasDictIn K C = true
  nv : PySem.W.findIn K (.ref C) "value" = some none
  cl : PySem.W.findIn K (.ref C) "__class__" = some (some (.builtin "object.__class__"))
  sp : PySem.W.specialIn K (.builtin "object.__class__") "__get__" = some (some (.builtin "getset_descriptor.__get__"))
  tk : PySem.W.takesIn K (.builtin "object.__class__") = some true
  mr : PySem.W.mroIn K C (.type "object") = some true
mutual
inductive Rep (K : PySem.W.Frag) (A : Ads) (H : Hp) : D → V → Prop
  | non : Rep K A H .non .non
  | bl (b : Bool) : Rep K A H (.bl b) (.bl b)
  | int (i : Int) : Rep K A H (.int i) (.int i)
  | str (x : Str) : Rep K A H (.str x) (.str x)
  | tup {a : Addr} {vs : List V} {ds : List D} : TpL K H a vs → Reps K A H ds vs → Rep K A H (.tup ds) (.ref a)
  | pr {a : Addr} {vs : List V} {ds : List D} : SqT K H a vs → Reps K A H ds vs → Rep K A H (.pr ds) (.ref a)
  | lst {a : Addr} {vs : List V} {ds : List D} : H a = some (.lst vs) → some a ∉ A → Reps K A H ds vs → Rep K A H (.lst ds) (.ref a)
  | rol {a : Addr} {vs : List V} {ds : List D} : FzL K A H a vs → Reps K A H ds vs → Rep K A H (.rol ds) (.ref a)
  | ref {n : Nat} {a : Addr} : A[n]? = some (some a) → Rep K A H (.ref n) (.ref a)
  | dead {n : Nat} {v : V} : A[n]? = some none → Rep K A H (.ref n) v
  | exc {a dx C : Addr} {c : Nat} {d : D} {v : V} : H a = some (exR a C dx) → some a ∉ A → H dx = some (.xd [(("value" : Str), v)]) → XcF K C → Rep K A H d v → Rep K A H (.exc C c d) (.ref a)
  | adr {a : Addr} : Rep K A H (.adr a) (.ref a)
inductive Reps (K : PySem.W.Frag) (A : Ads) (H : Hp) : List D → List V → Prop
  | nil : Reps K A H [] []
  | cons {d : D} {v : V} {ds : List D} {vs : List V} : Rep K A H d v → Reps K A H ds vs → Reps K A H (d :: ds) (v :: vs)
end
section
variable {K : PySem.W.Frag} {A A' : Ads} {H H' : Hp}
theorem Reps.length : ∀ {ds : List D} {vs : List V}, Reps K A H ds vs → ds.length = vs.length
  | _, _, .nil => rfl
  | _, _, .cons _ t => by rw [List.length_cons, List.length_cons, Reps.length t]
theorem Reps.get : ∀ {ds : List D} {vs : List V} {i : Nat} {d : D}, Reps K A H ds vs → ds[i]? = some d → ∃ v, vs[i]? = some v ∧ Rep K A H d v
  | _, _, _, _, .nil, e => by simp at e
  | _, _, 0, _, .cons r _, e => by simp at e; subst e; exact ⟨_, rfl, r⟩
  | _, _, i + 1, d, .cons _ t, e => by
    obtain ⟨v, h1, h2⟩ := Reps.get (i := i) (d := d) t (by simpa using e)
    exact ⟨v, by simpa using h1, h2⟩
theorem Reps.getV : ∀ {ds : List D} {vs : List V} {i : Nat} {v : V}, Reps K A H ds vs → vs[i]? = some v → ∃ d, ds[i]? = some d ∧ Rep K A H d v
  | _, _, _, _, .nil, e => by simp at e
  | _, _, 0, _, .cons r _, e => by simp at e; subst e; exact ⟨_, rfl, r⟩
  | _, _, i + 1, v, .cons _ t, e => by
    obtain ⟨d, h1, h2⟩ := Reps.getV (i := i) (v := v) t (by simpa using e)
    exact ⟨d, by simpa using h1, h2⟩
theorem Reps.append : ∀ {ds es : List D} {vs us : List V}, Reps K A H ds vs → Reps K A H es us → Reps K A H (ds ++ es) (vs ++ us)
  | _, _, _, _, .nil, s => s
  | _, _, _, _, .cons r t, s => .cons r (Reps.append t s)
theorem Reps.take : ∀ {ds : List D} {vs : List V} (n : Nat), Reps K A H ds vs → Reps K A H (ds.take n) (vs.take n)
  | _, _, 0, _ => .nil
  | _, _, _ + 1, .nil => .nil
  | _, _, n + 1, .cons r t => .cons r (Reps.take n t)
theorem Reps.drop : ∀ {ds : List D} {vs : List V} (n : Nat), Reps K A H ds vs → Reps K A H (ds.drop n) (vs.drop n)
  | _, _, 0, r => r
  | _, _, _ + 1, .nil => .nil
  | _, _, n + 1, .cons _ t => Reps.drop n t
theorem Reps.set {d : D} {v : V} (r : Rep K A H d v) : ∀ {ds : List D} {vs : List V} (i : Nat), Reps K A H ds vs → Reps K A H (ds.set i d) (vs.set i v)
  | _, _, _, .nil => .nil
  | _, _, 0, .cons _ t => .cons r t
  | _, _, i + 1, .cons q t => .cons q (Reps.set r i t)
theorem Reps.reverse : ∀ {ds : List D} {vs : List V}, Reps K A H ds vs → Reps K A H ds.reverse vs.reverse
  | _, _, .nil => .nil
  | _, _, .cons r t => by
    rw [List.reverse_cons, List.reverse_cons]
    exact (Reps.reverse t).append (.cons r .nil)
theorem Reps.dropLast : ∀ {ds : List D} {vs : List V}, Reps K A H ds vs → Reps K A H ds.dropLast vs.dropLast
  | _, _, .nil => .nil
  | _, _, .cons _ .nil => .nil
  | _, _, .cons r (.cons q t) => .cons r (Reps.dropLast (.cons q t))
theorem Reps.ints : ∀ {ns : List Int} {vs : List V}, Reps K A H (ns.map D.int) vs → vs = ns.map V.int
  | [], _, .nil => rfl
  | n :: ns, _, .cons r t => by
    cases r
    rw [Reps.ints t]
    rfl
theorem Reps.ofInts : ∀ (ns : List Int), Reps K A H (ns.map D.int) (ns.map V.int)
  | [] => .nil
  | n :: ns => .cons (.int n) (Reps.ofInts ns)
end
/-! ### dicts whose keys are tuples, without texts -/
mutual
/-- a key, up to == -/
def keyN : D → Option NestedKey
  | .non => some .none
  | .bl b => some (.num (if b = true then 1 else 0))
  | .int i => some (.num i)
  | .tup l => (keyNs l).map .tup
  | _ => none
def keyNs : List D → Option (List NestedKey)
  | [] => some []
  | d :: r => match keyN d, keyNs r with
    | some k, some ks => some (k :: ks)
    | _, _ => none
end
/-- the dict's own record -/
def DRec (d : Addr) (xs : List (NestedKey × Addr × Value)) (h : Heap) : Prop := ∀ (P : Program) (w : World), ∃ o es ep, h.get? d = some o ∧ o.ExactDict ∧ o.data = .dict es ep ∧ es.toList = xs.map (entryOfKey (nestedKind P w))
inductive KRep (K : PySem.W.Frag) (A : Ads) (H : Hp) : List (D × D) → List (NestedKey × Addr × Value) → Prop
  | nil : KRep K A H [] []
  | cons {l : List D} {v : D} {nk : NestedKey} {ka : Addr} {u : Value} {vv : V} {r : List (D × D)} {s : List (NestedKey × Addr × Value)} : keyN (.tup l) = some nk → nk.depth ≤ 8 → Rep K A H (.tup l) (.ref ka) → RelV vv u → Rep K A H v vv → KRep K A H r s → KRep K A H ((.tup l, v) :: r) ((nk, ka, u) :: s)
/-- how an object that may change lies at a -/
def RepO (K : PySem.W.Frag) (A : Ads) (H : Hp) (a : Addr) : MO → Prop
  | .lst ds => ∃ vs, H a = some (.lst vs) ∧ Reps K A H ds vs
  | .dK kvs => ∃ xs, H a = some (.ext (DRec a xs)) ∧ (a == sysModules) = false ∧ xs.length ≤ sizeLine ∧ (xs.map (·.1)).Nodup ∧ KRep K A H kvs xs
  | .dI kvs => ∃ vs : List V, H a = some (.dK (kvs.zipWith (fun q v => ((Sum.inl q.1 : Key), v)) vs)) ∧ Reps K A H (kvs.map (·.2)) vs
  | .dead => False
/-- the objects of this run, and the tables T of code objects -/
structure Rel (K : PySem.W.Frag) (T : List Addr) (A : Ads) (M : List MO) (H : Hp) : Prop where
  len : A.length = M.length
  inj : ∀ (n m : Nat) (a : Addr), A[n]? = some (some a) → A[m]? = some (some a) → n = m
  ob : ∀ (n : Nat) (a : Addr), A[n]? = some (some a) → ∃ o, M[n]? = some o ∧ RepO K A H a o
  dd : ∀ (n : Nat), A[n]? = some none → M[n]? = some .dead
  tb : ∀ P ∈ T, GxR.TabG H P
theorem RepO.at {K : PySem.W.Frag} {A : Ads} {H : Hp} {a : Addr} : ∀ {o : MO}, RepO K A H a o → ∃ u, H a = some u ∧ ((∃ xs, u = .lst xs) ∨ (∃ φ, u = .ext φ) ∨ ∃ kvs, u = .dK kvs)
  | .lst _, ⟨vs, h, _⟩ => ⟨_, h, .inl ⟨_, rfl⟩⟩
  | .dK _, ⟨xs, h, _⟩ => ⟨_, h, .inr (.inl ⟨_, rfl⟩)⟩
  | .dI _, ⟨xs, h, _⟩ => ⟨_, h, .inr (.inr ⟨_, rfl⟩)⟩
  | .dead, h => h.elim
section
variable {K : PySem.W.Frag} {T : List Addr} {A A' : Ads} {M M' : List MO} {H H' : Hp}
theorem Rel.live (R : Rel K T A M H) {a : Addr} (h : some a ∈ A) : ∃ u, H a = some u ∧ ((∃ xs, u = .lst xs) ∨ (∃ φ, u = .ext φ) ∨ ∃ kvs, u = .dK kvs) := by
  obtain ⟨n, hn, e⟩ := List.getElem_of_mem h
  obtain ⟨o, _, r⟩ := R.ob n a (by rw [List.getElem?_eq_getElem hn, e])
  exact r.at
theorem Rel.tbl (R : Rel K T A M H) {a : Addr} (h : a ∈ T) : ∃ ps, H a = some (.tbl ps) := by
  obtain ⟨ps, e, _⟩ := R.tb a h
  exact ⟨ps, e⟩
end
/-- what a step leaves: objects of this run may have changed, all else that was tracked stands; new ones were free -/
structure Mv (T : List Addr) (A : Ads) (H : Hp) (A' : Ads) (H' : Hp) : Prop where
  ix : ∀ (n : Nat) (x : Option Addr), A[n]? = some x → A'[n]? = some x ∨ A'[n]? = some none
  ext : ∀ a, some a ∈ A' → some a ∈ A ∨ H a = none
  fr : ∀ b o, H b = some o → some b ∉ A → b ∉ T → H' b = some o
  nn : ∀ b, H b ≠ none → H' b ≠ none
/-- a step from (A, H) to (A', M', H') -/
structure Stp (K : PySem.W.Frag) (T : List Addr) (A : Ads) (H : Hp) (A' : Ads) (M' : List MO) (H' : Hp) : Prop where
  rel : Rel K T A' M' H'
  mv : Mv T A H A' H'
section
variable {K : PySem.W.Frag} {T : List Addr} {A A1 A2 : Ads} {M M1 M2 : List MO} {H H1 H2 : Hp}
theorem Mv.refl : Mv T A H A H := ⟨fun _ _ h => .inl h, fun _ h => .inl h, fun _ _ h _ _ => h, fun _ h => h⟩
theorem Mv.trans (a : Mv T A H A1 H1) (b : Mv T A1 H1 A2 H2) : Mv T A H A2 H2 where
  ix := fun n x h => by
    rcases a.ix n x h with h | h
    · exact b.ix n x h
    · rcases b.ix n none h with h | h <;> exact .inr h
  ext := fun c h => by
    rcases b.ext c h with h | h
    · exact a.ext c h
    · refine .inr ?_
      cases e : H c with
      | none => rfl
      | some o => exact absurd h (a.nn c (by rw [e]; simp))
  fr := fun c o h hA hT => by
    refine b.fr c o (a.fr c o h hA hT) (fun z => ?_) hT
    rcases a.ext c z with z | z
    · exact hA z
    · rw [h] at z; cases z
  nn := fun c h => b.nn c (a.nn c h)
theorem Mv.le (s : Mv T A H A1 H1) : A.length ≤ A1.length := by
  rcases Nat.lt_or_ge A1.length A.length with h | h
  · have e : A[A1.length]? = some A[A1.length] := List.getElem?_eq_getElem h
    rcases s.ix _ _ e with q | q <;> exact absurd (List.getElem?_eq_some_iff.mp q).1 (Nat.lt_irrefl _)
  · exact h
theorem Stp.refl (R : Rel K T A M H) : Stp K T A H A M H := ⟨R, .refl⟩
theorem Stp.trans (a : Stp K T A H A1 M1 H1) (b : Stp K T A1 H1 A2 M2 H2) : Stp K T A H A2 M2 H2 := ⟨b.rel, a.mv.trans b.mv⟩
end
section
variable {K : PySem.W.Frag} {T : List Addr} {A A' : Ads} {M M' : List MO} {H H' : Hp}
/-- tuples and lists at rest stay -/
theorem Mv.sqT (R : Rel K T A M H) (s : Mv T A H A' H') {a : Addr} {xs : List V} (h : SqT K H a xs) : SqT K H' a xs := by
  have go : ∀ u, H a = some u → (∀ ys, u ≠ .lst ys) → (∀ φ, u ≠ .ext φ) → (∀ ys, u ≠ .tbl ys) → (∀ kvs, u ≠ .dK kvs) → H' a = some u := fun u e n1 n2 n3 n4 => by
    refine s.fr a u e (fun z => ?_) fun z => ?_
    · obtain ⟨w, e2, q⟩ := R.live z
      rw [e] at e2; cases e2
      rcases q with ⟨ys, q⟩ | ⟨ys, q⟩ | ⟨ys, q⟩
      · exact n1 ys q
      · exact n2 ys q
      · exact n4 ys q
    · obtain ⟨ps, e2⟩ := R.tbl z
      rw [e] at e2; cases e2
      exact n3 ps rfl
  rcases h with (h | ⟨o, h⟩) | h
  · exact .inl (.inl (go _ h (fun _ z => by cases z) (fun _ z => by cases z) (fun _ z => by cases z) fun _ z => by cases z))
  · exact .inl (.inr ⟨o, go _ h (fun _ z => by cases z) (fun _ z => by cases z) (fun _ z => by cases z) fun _ z => by cases z⟩)
  · exact .inr h
theorem Mv.tpL (R : Rel K T A M H) (s : Mv T A H A' H') {a : Addr} {xs : List V} (h : TpL K H a xs) : TpL K H' a xs := by
  rcases h with ⟨o, h, hd⟩ | h
  · refine .inl ⟨o, s.fr a _ h (fun z => ?_) fun z => ?_, hd⟩
    · obtain ⟨w, e2, q⟩ := R.live z
      rw [h] at e2; cases e2
      rcases q with ⟨ys, q⟩ | ⟨ys, q⟩ | ⟨ys, q⟩ <;> cases q
    · obtain ⟨ps, e2⟩ := R.tbl z
      rw [h] at e2; cases e2
  · exact .inr h
theorem Mv.fzL (R : Rel K T A M H) (s : Mv T A H A' H') {a : Addr} {xs : List V} (h : FzL K A H a xs) : FzL K A' H' a xs := by
  rcases h with ⟨h, hA⟩ | h
  · have nT : ∀ u, H a = some u → (∀ ys, u ≠ .tbl ys) → H' a = some u := fun u e n3 => s.fr a u e hA fun z => by
      obtain ⟨ps, e2⟩ := R.tbl z
      rw [e] at e2; cases e2
      exact n3 ps rfl
    refine .inl ⟨?_, fun z => ?_⟩
    · rcases h with h | ⟨o, h⟩
      · exact .inl (nT _ h fun _ z => by cases z)
      · exact .inr ⟨o, nT _ h fun _ z => by cases z⟩
    · rcases s.ext a z with z | z
      · exact hA z
      · rcases h with h | ⟨o, h⟩ <;> (rw [h] at z; cases z)
  · exact .inr h
theorem Mv.lst (R : Rel K T A M H) (s : Mv T A H A' H') {a : Addr} {xs : List V} (h : H a = some (.lst xs)) (hn : some a ∉ A) : H' a = some (.lst xs) := s.fr a _ h hn fun z => by
  obtain ⟨ps, e2⟩ := R.tbl z
  rw [h] at e2; cases e2
theorem Mv.exR (R : Rel K T A M H) (s : Mv T A H A' H') {a C dx : Addr} (h : H a = some (exR a C dx)) (hn : some a ∉ A) : H' a = some (exR a C dx) := s.fr a _ h hn fun z => by
  obtain ⟨ps, e2⟩ := R.tbl z
  rw [h] at e2; cases e2
theorem Mv.xd (R : Rel K T A M H) (s : Mv T A H A' H') {a : Addr} {fs : List (Str × V)} (h : H a = some (.xd fs)) : H' a = some (.xd fs) := by
  refine s.fr a _ h (fun z => ?_) fun z => ?_
  · obtain ⟨w, e2, q⟩ := R.live z
    rw [h] at e2; cases e2
    rcases q with ⟨ys, q⟩ | ⟨ys, q⟩ | ⟨ys, q⟩ <;> cases q
  · obtain ⟨ps, e2⟩ := R.tbl z
    rw [h] at e2; cases e2
mutual
theorem Rep.mv (R : Rel K T A M H) (s : Mv T A H A' H') : ∀ {d : D} {v : V}, Rep K A H d v → Rep K A' H' d v
  | _, _, .non => .non
  | _, _, .bl b => .bl b
  | _, _, .int i => .int i
  | _, _, .str x => .str x
  | _, _, .tup h t => .tup (s.tpL R h) (Reps.mv R s t)
  | _, _, .pr h t => .pr (s.sqT R h) (Reps.mv R s t)
  | _, _, .lst h hn t => .lst (s.lst R h hn) (fun z => (s.ext _ z).elim hn fun q => by rw [h] at q; cases q) (Reps.mv R s t)
  | _, _, .rol h t => .rol (s.fzL R h) (Reps.mv R s t)
  | _, _, .ref h => by
    rcases s.ix _ _ h with h | h
    · exact .ref h
    · exact .dead h
  | _, _, .dead h => by
    rcases s.ix _ _ h with h | h <;> exact .dead h
  | _, _, .exc h1 hn h2 f r => .exc (s.exR R h1 hn) (fun z => (s.ext _ z).elim hn fun q => by rw [h1] at q; cases q) (s.xd R h2) f (Rep.mv R s r)
  | _, _, .adr => .adr
theorem Reps.mv (R : Rel K T A M H) (s : Mv T A H A' H') : ∀ {ds : List D} {vs : List V}, Reps K A H ds vs → Reps K A' H' ds vs
  | _, _, .nil => .nil
  | _, _, .cons r t => .cons (Rep.mv R s r) (Reps.mv R s t)
end
theorem Rep.stp (R : Rel K T A M H) (s : Stp K T A H A' M' H') {d : D} {v : V} (h : Rep K A H d v) : Rep K A' H' d v := h.mv R s.mv
theorem Reps.stp (R : Rel K T A M H) (s : Stp K T A H A' M' H') {ds : List D} {vs : List V} (h : Reps K A H ds vs) : Reps K A' H' ds vs := h.mv R s.mv
theorem KRep.mv (R : Rel K T A M H) (s : Mv T A H A' H') : ∀ {kvs : List (D × D)} {xs : List (NestedKey × Addr × Value)}, KRep K A H kvs xs → KRep K A' H' kvs xs
  | _, _, .nil => .nil
  | _, _, .cons h1 h2 h3 h4 h5 t => .cons h1 h2 (h3.mv R s) h4 (h5.mv R s) (KRep.mv R s t)
/-- an object whose own record stands -/
theorem RepO.mv (R : Rel K T A M H) (s : Mv T A H A' H') {a : Addr} (ha : H' a = H a) : ∀ {o : MO}, RepO K A H a o → RepO K A' H' a o
  | .lst _, ⟨vs, h, r⟩ => ⟨vs, ha.trans h, r.mv R s⟩
  | .dK _, ⟨xs, h, y, z, n, r⟩ => ⟨xs, ha.trans h, y, z, n, r.mv R s⟩
  | .dI _, ⟨xs, h, r⟩ => ⟨xs, ha.trans h, r.mv R s⟩
  | .dead, h => h.elim
theorem nA_of (R : Rel K T A M H) {p : Addr} (hp : H p = none) : some p ∉ A := fun z => by
  obtain ⟨w, e, _⟩ := R.live z
  rw [hp] at e; cases e
/-- something new is laid at p: a tuple, a list at rest -/
theorem Mv.lay {p : Addr} {u : HO} (hp : H p = none) : Mv T A H A (upd H p u) :=
  ⟨fun _ _ h => .inl h, fun _ h => .inl h, fun b o h _ _ => by rw [upd_ne (ne_of_none h hp)]; exact h, fun b h => by
    by_cases e : b = p
    · subst e; rw [upd_same]; simp
    · rw [upd_ne e]; exact h⟩
theorem Stp.lay (R : Rel K T A M H) {p : Addr} {u : HO} (hp : H p = none) : Stp K T A H A M (upd H p u) := by
  have m : Mv T A H A (upd H p u) := .lay hp
  refine ⟨⟨R.len, R.inj, fun n a h => ?_, R.dd, fun P hP => ?_⟩, m⟩
  · obtain ⟨o, e, r⟩ := R.ob n a h
    refine ⟨o, e, r.mv R m (upd_ne fun z => ?_)⟩
    exact nA_of R hp (z ▸ List.mem_of_getElem? h)
  · obtain ⟨ps, e, t⟩ := R.tb P hP
    exact ⟨ps, by rw [upd_ne (ne_of_none e hp)]; exact e, t⟩
/-- a new object that may change -/
theorem Stp.newO (R : Rel K T A M H) {p : Addr} {u : HO} {o : MO} (hp : H p = none)
    (ho : RepO K (A ++ [some p]) (upd H p u) p o) : Stp K T A H (A ++ [some p]) (M ++ [o]) (upd H p u) := by
  have nA := nA_of R hp
  have lt : ∀ {n : Nat} {x : Option Addr}, A[n]? = some x → n < A.length := fun h => (List.getElem?_eq_some_iff.mp h).1
  have split : ∀ {n : Nat} {x : Option Addr}, (A ++ [some p])[n]? = some x → A[n]? = some x ∨ (n = A.length ∧ x = some p) := fun {n x} h => by
    by_cases hn : n < A.length
    · rw [List.getElem?_append_left hn] at h
      exact .inl h
    · rw [List.getElem?_append_right (by omega)] at h
      have h0 : n - A.length = 0 := by
        have := (List.getElem?_eq_some_iff.mp h).1
        simp at this
        omega
      rw [h0] at h
      have h' : some p = x := Option.some.inj h
      exact .inr ⟨by omega, h'.symm⟩
  have m : Mv T A H (A ++ [some p]) (upd H p u) := ⟨fun n x h => .inl (by rw [List.getElem?_append_left (lt h)]; exact h), fun a h => by
      rcases List.mem_append.mp h with h | h
      · exact .inl h
      · have e : a = p := by simpa using h
        subst e
        exact .inr hp, (Mv.lay (T := T) (A := A) hp).fr, (Mv.lay (T := T) (A := A) hp).nn⟩
  refine ⟨⟨by rw [List.length_append, List.length_append, R.len]; rfl, fun n k a h1 h2 => ?_, fun n a h => ?_, fun n h => ?_, fun P hP => ?_⟩, m⟩
  · rcases split h1 with h1 | ⟨e1, x1⟩ <;> rcases split h2 with h2 | ⟨e2, x2⟩
    · exact R.inj n k a h1 h2
    · cases x2; exact absurd (List.mem_of_getElem? h1) nA
    · cases x1; exact absurd (List.mem_of_getElem? h2) nA
    · omega
  · rcases split h with h | ⟨e, x⟩
    · obtain ⟨o', e, r⟩ := R.ob n a h
      have : n < M.length := by rw [← R.len]; exact lt h
      exact ⟨o', by rw [List.getElem?_append_left this]; exact e, r.mv R m (upd_ne fun z => nA (z ▸ List.mem_of_getElem? h))⟩
    · cases x
      refine ⟨o, ?_, ho⟩
      rw [e, R.len, List.getElem?_append_right (Nat.le_refl _), Nat.sub_self]
      rfl
  · rcases split h with h | ⟨e, x⟩
    · have : n < M.length := by rw [← R.len]; exact lt h
      rw [List.getElem?_append_left this]
      exact R.dd n h
    · cases x
  · obtain ⟨ps, e, t⟩ := R.tb P hP
    exact ⟨ps, by rw [upd_ne (ne_of_none e hp)]; exact e, t⟩
/-- an object of this run is written -/
theorem Stp.setO (R : Rel K T A M H) {n : Nat} {a : Addr} {u : HO} {o : MO} (ha : A[n]? = some (some a)) (ho : Mv T A H A (upd H a u) → RepO K A (upd H a u) a o) : Stp K T A H A (M.set n o) (upd H a u) := by
  have hm := List.mem_of_getElem? ha
  obtain ⟨w, hw, _⟩ := R.live hm
  have m : Mv T A H A (upd H a u) := ⟨fun _ _ h => .inl h, fun _ h => .inl h, fun b o h hb _ => by
      rw [upd_ne (fun z => hb (by rw [z]; exact hm))]; exact h, fun b h => by
      by_cases e : b = a
      · subst e; rw [upd_same]; simp
      · rw [upd_ne e]; exact h⟩
  have hn : n < M.length := by rw [← R.len]; exact (List.getElem?_eq_some_iff.mp ha).1
  refine ⟨⟨by rw [List.length_set]; exact R.len, R.inj, fun k b h => ?_, fun k h => ?_, fun P hP => ?_⟩, m⟩
  · by_cases hk : k = n
    · subst hk
      rw [ha] at h
      have e : a = b := Option.some.inj (Option.some.inj h)
      subst e
      exact ⟨o, List.getElem?_set_self hn, ho m⟩
    · obtain ⟨o', e, r⟩ := R.ob k b h
      exact ⟨o', by rw [List.getElem?_set_ne (Ne.symm hk)]; exact e, r.mv R m (upd_ne fun z => hk (R.inj k n a (z ▸ h) ha))⟩
  · have hk : n ≠ k := fun z => by subst z; rw [ha] at h; cases h
    rw [List.getElem?_set_ne hk]
    exact R.dd k h
  · obtain ⟨ps, e, t⟩ := R.tb P hP
    have ne : P ≠ a := fun z => by
      obtain ⟨w', e', q⟩ := R.live hm
      rw [← z, e] at e'
      cases e'
      rcases q with ⟨ys, q⟩ | ⟨ys, q⟩ | ⟨ys, q⟩ <;> cases q
    exact ⟨ps, by rw [upd_ne ne]; exact e, t⟩
/-- an object of this run rests from now on -/
theorem Stp.rest (R : Rel K T A M H) (n : Nat) (hn : n < A.length) : Stp K T A H (A.set n none) (M.set n .dead) H := by
  have hm : n < M.length := by rw [← R.len]; exact hn
  have sub : ∀ b, some b ∈ A.set n none → some b ∈ A := fun b h => by
    obtain ⟨k, hk, e⟩ := List.getElem_of_mem h
    rw [List.getElem_set] at e
    split at e
    · cases e
    · rw [← e]; exact List.getElem_mem _
  have m : Mv T A H (A.set n none) H := ⟨fun k x h => by
      by_cases hk : n = k
      · subst hk; exact .inr (List.getElem?_set_self hn)
      · exact .inl (by rw [List.getElem?_set_ne hk]; exact h), fun b h => .inl (sub b h), fun b o h _ _ => h, fun b h => h⟩
  have of : ∀ {k : Nat} {b : Addr}, (A.set n none)[k]? = some (some b) → A[k]? = some (some b) ∧ n ≠ k := fun {k b} h => by
    by_cases hk : n = k
    · subst hk
      rw [List.getElem?_set_self hn] at h; cases h
    · rw [List.getElem?_set_ne hk] at h
      exact ⟨h, hk⟩
  refine ⟨⟨by rw [List.length_set, List.length_set]; exact R.len, fun k l b h1 h2 => R.inj k l b (of h1).1 (of h2).1, fun k b h => ?_, fun k h => ?_, R.tb⟩, m⟩
  · obtain ⟨h1, h2⟩ := of h
    obtain ⟨o', e, r⟩ := R.ob k b h1
    exact ⟨o', by rw [List.getElem?_set_ne h2]; exact e, r.mv R m rfl⟩
  · by_cases hk : n = k
    · subst hk; exact List.getElem?_set_self hm
    · rw [List.getElem?_set_ne hk] at h ⊢
      exact R.dd k h
end
/-! ### only the objects that stood before a call count behind it -/
mutual
/-- names no object from N on -/
def refsLt (N : Nat) : D → Prop
  | .ref n => n < N
  | .tup l => refsLtL N l
  | .pr l => refsLtL N l
  | .lst l => refsLtL N l
  | .rol l => refsLtL N l
  | .exc _ _ d => refsLt N d
  | _ => True
def refsLtL (N : Nat) : List D → Prop
  | [] => True
  | d :: r => refsLt N d ∧ refsLtL N r
end
def moLt (N : Nat) : MO → Prop
  | .lst l => refsLtL N l
  | .dK kvs => refsLtL N (kvs.map (·.1)) ∧ refsLtL N (kvs.map (·.2))
  | .dI kvs => refsLtL N (kvs.map (·.2))
  | .dead => True
/-- behind a call: of the first N objects those that changed name none of the others -/
def CutOk (N : Nat) (M M' : List MO) : Prop := ∀ i, i < N → ∀ o, M'[i]? = some o → M[i]? = some o ∨ moLt N o
section
variable {K : PySem.W.Frag} {T : List Addr} {A A' B : Ads} {M M' : List MO} {H H' : Hp}
mutual
theorem Rep.lt : ∀ {d : D} {v : V}, Rep K A H d v → refsLt A.length d
  | _, _, .non => by unfold refsLt; trivial
  | _, _, .bl b => by unfold refsLt; trivial
  | _, _, .int i => by unfold refsLt; trivial
  | _, _, .str x => by unfold refsLt; trivial
  | _, _, .tup h t => by unfold refsLt; exact Reps.lt t
  | _, _, .pr h t => by unfold refsLt; exact Reps.lt t
  | _, _, .lst h hn t => by unfold refsLt; exact Reps.lt t
  | _, _, .rol h t => by unfold refsLt; exact Reps.lt t
  | _, _, .ref h => by unfold refsLt; exact (List.getElem?_eq_some_iff.mp h).1
  | _, _, .dead h => by unfold refsLt; exact (List.getElem?_eq_some_iff.mp h).1
  | _, _, .exc _ _ _ _ r => by unfold refsLt; exact Rep.lt r
  | _, _, .adr => by unfold refsLt; trivial
theorem Reps.lt : ∀ {ds : List D} {vs : List V}, Reps K A H ds vs → refsLtL A.length ds
  | _, _, .nil => by unfold refsLtL; trivial
  | _, _, .cons r t => by unfold refsLtL; exact ⟨Rep.lt r, Reps.lt t⟩
end
theorem FzL.sub {a : Addr} {xs : List V} (h : FzL K A H a xs) (hs : ∀ b, some b ∈ B → some b ∈ A) : FzL K B H a xs := h.elim (fun z => .inl ⟨z.1, fun q => z.2 (hs a q)⟩) .inr
mutual
theorem Rep.cut {N : Nat} (hs : ∀ b, some b ∈ B → some b ∈ A) (hi : ∀ n, n < N → B[n]? = A[n]?) : ∀ {d : D} {v : V}, Rep K A H d v → refsLt N d → Rep K B H d v
  | _, _, .non, _ => .non
  | _, _, .bl b, _ => .bl b
  | _, _, .int i, _ => .int i
  | _, _, .str x, _ => .str x
  | _, _, .tup h t, q => .tup h (Reps.cut hs hi t (by unfold refsLt at q; exact q))
  | _, _, .pr h t, q => .pr h (Reps.cut hs hi t (by unfold refsLt at q; exact q))
  | _, _, .lst h hn t, q => .lst h (fun z => hn (hs _ z)) (Reps.cut hs hi t (by unfold refsLt at q; exact q))
  | _, _, .rol h t, q => .rol (h.sub hs) (Reps.cut hs hi t (by unfold refsLt at q; exact q))
  | _, _, .ref h, q => .ref (by unfold refsLt at q; rw [hi _ q]; exact h)
  | _, _, .dead h, q => .dead (by unfold refsLt at q; rw [hi _ q]; exact h)
  | _, _, .exc h1 hn h2 f r, q => .exc h1 (fun z => hn (hs _ z)) h2 f (Rep.cut hs hi r (by unfold refsLt at q; exact q))
  | _, _, .adr, _ => .adr
theorem Reps.cut {N : Nat} (hs : ∀ b, some b ∈ B → some b ∈ A) (hi : ∀ n, n < N → B[n]? = A[n]?) : ∀ {ds : List D} {vs : List V}, Reps K A H ds vs → refsLtL N ds → Reps K B H ds vs
  | _, _, .nil, _ => .nil
  | _, _, .cons r t, q => by
    unfold refsLtL at q
    exact .cons (Rep.cut hs hi r q.1) (Reps.cut hs hi t q.2)
end
theorem KRep.cut {N : Nat} (hs : ∀ b, some b ∈ B → some b ∈ A) (hi : ∀ n, n < N → B[n]? = A[n]?) : ∀ {kvs : List (D × D)} {xs : List (NestedKey × Addr × Value)}, KRep K A H kvs xs → refsLtL N (kvs.map (·.1)) → refsLtL N (kvs.map (·.2)) → KRep K B H kvs xs
  | _, _, .nil, _, _ => .nil
  | _, _, .cons h1 h2 h3 h4 h5 t, q1, q2 => by
    rw [List.map_cons] at q1 q2
    unfold refsLtL at q1 q2
    exact .cons h1 h2 (h3.cut hs hi q1.1) h4 (h5.cut hs hi q2.1) (KRep.cut hs hi t q1.2 q2.2)
theorem KRep.lt : ∀ {kvs : List (D × D)} {xs : List (NestedKey × Addr × Value)}, KRep K A H kvs xs → refsLtL A.length (kvs.map (·.1)) ∧ refsLtL A.length (kvs.map (·.2))
  | _, _, .nil => by constructor <;> (show refsLtL _ []; unfold refsLtL; trivial)
  | _, _, .cons h1 h2 h3 h4 h5 t => by
    have := KRep.lt t
    rw [List.map_cons, List.map_cons]
    constructor
    · unfold refsLtL; exact ⟨h3.lt, this.1⟩
    · unfold refsLtL; exact ⟨h5.lt, this.2⟩
theorem RepO.cut {N : Nat} {a : Addr} (hs : ∀ b, some b ∈ B → some b ∈ A) (hi : ∀ n, n < N → B[n]? = A[n]?) : ∀ {o : MO}, RepO K A H a o → moLt N o → RepO K B H a o
  | .lst _, ⟨vs, h, r⟩, q => ⟨vs, h, r.cut hs hi q⟩
  | .dK _, ⟨xs, h, y, z, n, r⟩, q => ⟨xs, h, y, z, n, r.cut hs hi q.1 q.2⟩
  | .dI _, ⟨xs, h, r⟩, q => ⟨xs, h, r.cut hs hi q⟩
  | .dead, h, _ => h.elim
theorem RepO.lt {a : Addr} : ∀ {o : MO}, RepO K A H a o → moLt A.length o
  | .lst _, ⟨vs, h, r⟩ => r.lt
  | .dK _, ⟨xs, h, y, z, n, r⟩ => r.lt
  | .dI _, ⟨xs, h, r⟩ => r.lt
  | .dead, h => trivial
theorem Stp.cut (R : Rel K T A M H) (s : Stp K T A H A' M' H') (hc : CutOk A.length M M') (hle : A.length ≤ A'.length) : Stp K T A H (A'.take A.length) (M'.take A.length) H' := by
  have sub : ∀ b, some b ∈ A'.take A.length → some b ∈ A' := fun b h => List.mem_of_mem_take h
  have ati : ∀ n, n < A.length → (A'.take A.length)[n]? = A'[n]? := fun n h => by rw [List.getElem?_take, if_pos h]
  have atm : ∀ n, n < A.length → (M'.take A.length)[n]? = M'[n]? := fun n h => by rw [List.getElem?_take, if_pos h]
  have le : ∀ {k : Nat} {x : Option Addr}, (A'.take A.length)[k]? = some x → A'[k]? = some x ∧ k < A.length := fun {k x} h => by
    rw [List.getElem?_take] at h
    split at h
    · exact ⟨h, by assumption⟩
    · cases h
  refine ⟨⟨by rw [List.length_take, List.length_take, s.rel.len], fun n m a h1 h2 => s.rel.inj n m a (le h1).1 (le h2).1, fun n a h => ?_, fun n h => ?_, s.rel.tb⟩, fun n x h => ?_, fun a h => s.mv.ext a (sub a h), s.mv.fr, s.mv.nn⟩
  · obtain ⟨h1, h2⟩ := le h
    obtain ⟨o, e, r⟩ := s.rel.ob n a h1
    refine ⟨o, by rw [atm n h2]; exact e, r.cut sub ati ?_⟩
    rcases hc n h2 o e with q | q
    · have hA : A[n]? = some (some a) := by
        cases hx : A[n]? with
        | none => exact absurd (List.getElem?_eq_none_iff.mp hx) (by omega)
        | some x =>
          rcases s.mv.ix n x hx with z | z <;> rw [h1] at z
          · rw [Option.some.inj z]
          · cases z
      obtain ⟨o', e', r'⟩ := R.ob n a hA
      rw [q] at e'
      cases e'
      exact r'.lt
    · exact q
  · obtain ⟨h1, h2⟩ := le h
    rw [atm n h2]
    exact s.rel.dd n h1
  · have hn : n < A.length := (List.getElem?_eq_some_iff.mp h).1
    rw [ati n hn]
    exact s.mv.ix n x h
/-- .. and a new one that is handed back -/
theorem Stp.cut1 (R : Rel K T A M H) (s : Stp K T A H A' M' H') (hc : CutOk A.length M M') (hle : A.length ≤ A'.length) {n : Nat} {a : Addr} {o : MO} (hn : A.length ≤ n) (ha : A'[n]? = some (some a)) (ho : M'[n]? = some o) (hl : moLt A.length o) :
    Stp K T A H (A'.take A.length ++ [some a]) (M'.take A.length ++ [o]) H' := by
  have c := s.cut R hc hle
  have lA : (A'.take A.length).length = A.length := by rw [List.length_take]; omega
  have lM : (M'.take A.length).length = A.length := by rw [List.length_take, ← s.rel.len]; omega
  have nm : some a ∉ A'.take A.length := fun z => by
    obtain ⟨k, hk, e⟩ := List.getElem_of_mem z
    rw [lA] at hk
    have h1 : A'[k]? = some (some a) := by
      have : (A'.take A.length)[k]? = some (some a) := by rw [List.getElem?_eq_getElem (by rw [lA]; exact hk), e]
      rw [List.getElem?_take, if_pos hk] at this
      exact this
    have := s.rel.inj k n a h1 ha
    omega
  have split : ∀ {k : Nat} {x : Option Addr}, (A'.take A.length ++ [some a])[k]? = some x → ((A'.take A.length)[k]? = some x ∧ k < A.length) ∨ (k = A.length ∧ x = some a) := fun {k x} h => by
    by_cases hk : k < A.length
    · rw [List.getElem?_append_left (by rw [lA]; exact hk)] at h
      exact .inl ⟨h, hk⟩
    · rw [List.getElem?_append_right (by rw [lA]; omega), lA] at h
      have h0 : k - A.length = 0 := by
        have := (List.getElem?_eq_some_iff.mp h).1
        simp at this
        omega
      rw [h0] at h
      exact .inr ⟨by omega, (Option.some.inj h).symm⟩
  have subB : ∀ b, some b ∈ A'.take A.length ++ [some a] → some b ∈ A' := fun b h => by
    rcases List.mem_append.mp h with h | h
    · exact List.mem_of_mem_take h
    · have e : b = a := by simpa using h
      rw [e]
      exact List.mem_of_getElem? ha
  have ati : ∀ k, k < A.length → (A'.take A.length ++ [some a])[k]? = A'[k]? := fun k h => by
    rw [List.getElem?_append_left (by rw [lA]; exact h), List.getElem?_take, if_pos h]
  have m : Mv T A H (A'.take A.length ++ [some a]) H' := ⟨fun k x h => by
      have hk : k < A.length := (List.getElem?_eq_some_iff.mp h).1
      rw [ati k hk]
      exact s.mv.ix k x h, fun b h => s.mv.ext b (subB b h), s.mv.fr, s.mv.nn⟩
  refine ⟨⟨by rw [List.length_append, List.length_append, lA, lM]; rfl, fun k l b h1 h2 => ?_, fun k b h => ?_, fun k h => ?_, s.rel.tb⟩, m⟩
  · rcases split h1 with ⟨h1, k1⟩ | ⟨e1, x1⟩ <;> rcases split h2 with ⟨h2, k2⟩ | ⟨e2, x2⟩
    · exact c.rel.inj k l b h1 h2
    · cases x2; exact absurd (List.mem_of_getElem? h1) nm
    · cases x1; exact absurd (List.mem_of_getElem? h2) nm
    · omega
  · rcases split h with ⟨h, hk⟩ | ⟨e, x⟩
    · rw [List.getElem?_take, if_pos hk] at h
      obtain ⟨o', e, r⟩ := s.rel.ob k b h
      refine ⟨o', by rw [List.getElem?_append_left (by rw [lM]; exact hk), List.getElem?_take, if_pos hk]; exact e, r.cut subB ati ?_⟩
      rcases hc k hk o' e with q | q
      · have hA : A[k]? = some (some b) := by
          cases hx : A[k]? with
          | none => exact absurd (List.getElem?_eq_none_iff.mp hx) (by omega)
          | some x =>
            rcases s.mv.ix k x hx with z | z <;> rw [h] at z
            · rw [Option.some.inj z]
            · cases z
        obtain ⟨o2, e', r'⟩ := R.ob k b hA
        rw [q] at e'
        cases e'
        exact r'.lt
      · exact q
    · cases x
      refine ⟨o, by rw [e, List.getElem?_append_right (by rw [lM]; omega), lM, Nat.sub_self]; rfl, ?_⟩
      obtain ⟨o', e', r⟩ := s.rel.ob n a ha
      rw [ho] at e'
      cases e'
      exact r.cut subB ati hl
  · rcases split h with ⟨h, hk⟩ | ⟨e, x⟩
    · rw [List.getElem?_append_left (by rw [lM]; exact hk)]
      exact c.rel.dd k h
    · cases x
end
end SX
end
section
set_option Elab.async false
set_option linter.all false
set_option maxRecDepth 100000
/-! SXb: what an expression gives, as a function of the data in the slots and of the objects that may change; the judgements; names, constants, operators. -/
namespace SX
open PySem PySem.Spec PyProof.Rows L2
abbrev Env := List (Option D)
/-- what comes of a piece of code: a value; an error of the c-th own class with the value d, the slots as they were; or nothing is said -/
inductive Out (α : Type) where
  | ok (a : α) (M : List MO)
  | ex (c : Nat) (d : D) (e : Env) (M : List MO)
  | no
def Out.bind {α β : Type} (o : Out α) (k : α → List MO → Out β) : Out β := match o with
  | .ok a M => k a M
  | .ex c d e M => .ex c d e M
  | .no => .no
def OutR {α : Type} (o : Out α) (p : α → List MO → Prop) (x : Nat → D → Env → List MO → Prop) : Prop := match o with
  | .ok a M => p a M
  | .ex c d e M => x c d e M
  | .no => False
theorem OutR.of_bind {α β : Type} {o : Out α} {k : α → List MO → Out β} {p x} (h : OutR (o.bind k) p x) : OutR o (fun a M => OutR (k a M) p x) x := by
  cases o <;> exact h
theorem OutR.imp {α : Type} {o : Out α} {p p' : α → List MO → Prop} {x x' : Nat → D → Env → List MO → Prop} (h : OutR o p x) (hp : ∀ a M, o = .ok a M → p a M → p' a M) (hx : ∀ c d e M, o = .ex c d e M → x c d e M → x' c d e M) : OutR o p' x' := by
  cases o with
  | ok a M => exact hp _ _ rfl h
  | ex c d e M => exact hx _ _ _ _ rfl h
  | no => exact h
/-- the slots -/
def RepS (K : PySem.W.Frag) (A : Ads) (H : Hp) (env : Env) (σ : L2.St) : Prop :=
  env.length = σ.length ∧ ∀ (i : Nat) (d : D), env[i]? = some (some d) → ∃ v, σ[i]? = some (some v) ∧ Rep K A H d v
/-- tables of code objects, own classes by number, the wish about errors -/
structure Pm where
  T : List Addr
  cl : Nat → Addr
  W : WX
def Fin (K : PySem.W.Frag) (T : List Addr) (A : Ads) (H : Hp) (Q : VK) (d : D) (M' : List MO) : Prop :=
  ∀ v H' A', Stp K T A H A' M' H' → Rep K A' H' d v → Q v H'
def Exc (K : PySem.W.Frag) (p : Pm) (A : Ads) (H : Hp) (c : Nat) (d : D) (e : Env) (M' : List MO) : Prop :=
  ∀ (v : V) (σ' : L2.St) (H' : Hp) (A' : Ads) (dx : Addr), Stp K p.T A H A' M' H' → RepS K A' H' e σ' → Rep K A' H' d v → H' dx = some (.xd [(("value" : Str), v)]) → p.W (.ref (p.cl c)) (some dx) σ' H'
section
variable {K : PySem.W.Frag} {p : Pm} {A A1 : Ads} {M M1 M' : List MO} {H H1 : Hp} {Q : VK} {d : D} {c : Nat} {e env : Env} {σ : L2.St}
theorem Fin.stp (s : Stp K p.T A H A1 M1 H1) (h : Fin K p.T A H Q d M') : Fin K p.T A1 H1 Q d M' := fun v H' A' s' r => h v H' A' (s.trans s') r
theorem Exc.stp (s : Stp K p.T A H A1 M1 H1) (h : Exc K p A H c d e M') : Exc K p A1 H1 c d e M' := fun v σ' H' A' dx s' => h v σ' H' A' dx (s.trans s')
theorem RepS.stp (R : Rel K p.T A M H) (s : Stp K p.T A H A1 M1 H1) (h : RepS K A H env σ) : RepS K A1 H1 env σ := ⟨h.1, fun i d e => by
  obtain ⟨v, h1, h2⟩ := h.2 i d e
  exact ⟨v, h1, h2.stp R s⟩⟩
theorem RepS.set {i : Nat} {v : V} (h : RepS K A H env σ) (r : Rep K A H d v) : RepS K A H (env.set i (some d)) (σ.set i (some v)) := ⟨by rw [List.length_set, List.length_set]; exact h.1, fun j d' e => by
  by_cases hj : i = j
  · subst hj
    have hi : i < env.length := by have := (List.getElem?_eq_some_iff.mp e).1; rwa [List.length_set] at this
    rw [List.getElem?_set_self hi] at e
    cases e
    exact ⟨v, List.getElem?_set_self (by rw [← h.1]; exact hi), r⟩
  · rw [List.getElem?_set_ne hj] at e ⊢
    exact h.2 j d' e⟩
end
abbrev EvE := Env → List MO → Out D
abbrev EvEs := Env → List MO → Out (List D)
abbrev EvT := Env → List MO → Out Bool
def tE (K : PySem.W.Frag) (p : Pm) (f : EvE) : TE := fun σ H Q => ∃ A M env, Rel K p.T A M H ∧ RepS K A H env σ ∧ OutR (f env M) (Fin K p.T A H Q) (Exc K p A H)
def tEs (K : PySem.W.Frag) (p : Pm) (f : EvEs) : TA := fun σ H Q => ∃ A M env, Rel K p.T A M H ∧ RepS K A H env σ ∧
  OutR (f env M) (fun ds M' => ∀ vs H' A', Stp K p.T A H A' M' H' → Reps K A' H' ds vs → Q vs H') (Exc K p A H)
def tT (K : PySem.W.Frag) (p : Pm) (f : EvT) : TT := fun σ H Q => ∃ A M env, Rel K p.T A M H ∧ RepS K A H env σ ∧
  OutR (f env M) (fun b M' => ∀ H' A', Stp K p.T A H A' M' H' → Q b H') (Exc K p A H)
abbrev SE (X : Cx) (p : Pm) (e : Expr) (f : EvE) : Prop := PE X e (tE X.K p f)
abbrev SA (X : Cx) (p : Pm) (es : List Expr) (f : EvEs) : Prop := PA X es (tEs X.K p f)
abbrev ST (X : Cx) (p : Pm) (e : Expr) (f : EvT) : Prop := PT X e (tT X.K p f)
theorem pe_imp {X : Cx} {e : Expr} {t t' : TE} (h : PE X e t) (hi : ∀ σ H Q, t' σ H Q → t σ H Q) : PE X e t' := ⟨fun pins s σ H Q I q => h.run pins s σ H Q I (hi σ H Q q)⟩
theorem pt_imp {X : Cx} {e : Expr} {t t' : TT} (h : PT X e t) (hi : ∀ σ H Q, t' σ H Q → t σ H Q) : PT X e t' := ⟨fun pins s σ H Q I q => h.run pins s σ H Q I (hi σ H Q q)⟩
theorem pa_imp {X : Cx} {es : List Expr} {t t' : TA} (h : PA X es t) (hi : ∀ σ H Q, t' σ H Q → t σ H Q) : PA X es t' := ⟨fun pos pins s σ H Q I q => h.run pos pins s σ H Q I (hi σ H Q q)⟩
section
variable {K : PySem.W.Frag} {p : Pm} {A : Ads} {M : List MO} {H : Hp} {env : Env} {σ : L2.St}
/-- first f, then what follows -/
theorem seqE {β : Type} {f : EvE} {k : D → List MO → Out β} {okP : β → List MO → Prop} {exP : Nat → D → Env → List MO → Prop} {Q : VK} (R : Rel K p.T A M H) (S : RepS K A H env σ) (hx : ∀ c d e M', exP c d e M' → Exc K p A H c d e M')
    (h : OutR ((f env M).bind k) okP exP) (hk : ∀ d M1 v H1 A1, Stp K p.T A H A1 M1 H1 → Rep K A1 H1 d v → OutR (k d M1) okP exP → Q v H1) : tE K p f σ H Q :=
  ⟨A, M, env, R, S, h.of_bind.imp (fun d M1 _ q v H1 A1 s r => hk d M1 v H1 A1 s r q) fun c d e M' _ q => hx c d e M' q⟩
theorem seqEs {β : Type} {f : EvEs} {k : List D → List MO → Out β} {okP : β → List MO → Prop} {exP : Nat → D → Env → List MO → Prop} {Q : List V → Hp → Prop} (R : Rel K p.T A M H) (S : RepS K A H env σ) (hx : ∀ c d e M', exP c d e M' → Exc K p A H c d e M')
    (h : OutR ((f env M).bind k) okP exP) (hk : ∀ ds M1 vs H1 A1, Stp K p.T A H A1 M1 H1 → Reps K A1 H1 ds vs → OutR (k ds M1) okP exP → Q vs H1) : tEs K p f σ H Q :=
  ⟨A, M, env, R, S, h.of_bind.imp (fun d M1 _ q v H1 A1 s r => hk d M1 v H1 A1 s r q) fun c d e M' _ q => hx c d e M' q⟩
theorem seqT {β : Type} {f : EvT} {k : Bool → List MO → Out β} {okP : β → List MO → Prop} {exP : Nat → D → Env → List MO → Prop} {Q : Bool → Hp → Prop} (R : Rel K p.T A M H) (S : RepS K A H env σ) (hx : ∀ c d e M', exP c d e M' → Exc K p A H c d e M')
    (h : OutR ((f env M).bind k) okP exP) (hk : ∀ b M1 H1 A1, Stp K p.T A H A1 M1 H1 → OutR (k b M1) okP exP → Q b H1) : tT K p f σ H Q :=
  ⟨A, M, env, R, S, h.of_bind.imp (fun b M1 _ q H1 A1 s => hk b M1 H1 A1 s q) fun c d e M' _ q => hx c d e M' q⟩
end
section
variable {X : Cx} {p : Pm} {e a b c : Expr} {f g h : EvE}
/-! ### names, constants -/
def eVar (i : Nat) : EvE := fun env M => match env[i]? with
  | some (some d) => .ok d M
  | _ => .no
theorem se_var {i : Nat} (h : PE X e (tVar i)) : SE X p e (eVar i) := pe_imp h fun σ H Q ⟨A, M, env, R, S, q⟩ => by
  unfold eVar at q
  split at q
  · rename_i d he
    obtain ⟨v, h1, h2⟩ := S.2 i d he
    exact ⟨v, h1, q v H A (.refl R) h2⟩
  · exact q.elim
def eC (d : D) : EvE := fun _ M => .ok d M
theorem se_c {v : V} {d : D} (h : PE X e (tC v)) (hr : ∀ K A H, Rep K A H d v) : SE X p e (eC d) := pe_imp h fun σ H Q ⟨A, M, env, R, S, q⟩ => q v H A (.refl R) (hr _ _ _)
theorem se_int {i : Int} {j : Nat} {pos : Pos} : SE X p (.Constant (.int i) j pos) (eC (.int i)) := se_c pe_int fun _ _ _ => .int i
theorem se_bl {i : Bool} {j : Nat} {pos : Pos} : SE X p (.Constant (.bool i) j pos) (eC (.bl i)) := se_c pe_bl fun _ _ _ => .bl i
theorem se_non {j : Nat} {pos : Pos} : SE X p (.Constant .none j pos) (eC .non) := se_c pe_non fun _ _ _ => .non
theorem se_str {x : Str} {j : Nat} {pos : Pos} : SE X p (.Constant (.str x) j pos) (eC (.str x)) := se_c pe_str fun _ _ _ => .str x
/-- nothing is said of it -/
def eNo : EvE := fun _ _ => .no
theorem se_no : SE X p e eNo := ⟨fun pins s σ H Q I ⟨A, M, env, R, S, q⟩ => q.elim⟩
/-! ### two operands -/
def eBin (op : D → D → List MO → Out D) (f g : EvE) : EvE := fun env M => (f env M).bind fun x M1 => (g env M1).bind fun y M2 => op x y M2
/-- an operation of two values -/
def Ok2 (K : PySem.W.Frag) (r : R2) (op : D → D → List MO → Out D) : Prop := ∀ (T : List Addr) (A : Ads) (M : List MO) (H : Hp) (x y : D) (v w : V) (Q : VK), Rel K T A M H → Rep K A H x v → Rep K A H y w →
  OutR (op x y M) (Fin K T A H Q) (fun _ _ _ _ => False) → r v w H Q
def Ok1 (K : PySem.W.Frag) (r : V → Hp → VK → Prop) (op : D → List MO → Out D) : Prop := ∀ (T : List Addr) (A : Ads) (M : List MO) (H : Hp) (x : D) (v : V) (Q : VK), Rel K T A M H → Rep K A H x v →
  OutR (op x M) (Fin K T A H Q) (fun _ _ _ _ => False) → r v H Q
theorem noex {α : Type} {o : Out α} (hne : ∀ c d e M, o ≠ .ex c d e M) {p : α → List MO → Prop} {x : Nat → D → Env → List MO → Prop} (h : OutR o p x) : OutR o p fun _ _ _ _ => False := h.imp (fun _ _ _ q => q) fun c d e M q _ => hne c d e M q
/-- it raises nothing -/
def Calm2 (op : D → D → List MO → Out D) : Prop := ∀ x y M c d e M', op x y M ≠ .ex c d e M'
theorem se_bin {r : R2} {op : D → D → List MO → Out D} (pe : ∀ ta tb, PE X a ta → PE X b tb → PE X e (tOp r ta tb)) (ok : Ok2 X.K r op) (hc : Calm2 op) (ha : SE X p a f) (hb : SE X p b g) : SE X p e (eBin op f g) :=
  pe_imp (pe _ _ ha hb) fun σ H Q ⟨A, M, env, R, S, q⟩ => seqE R S (fun _ _ _ _ z => z) q fun x M1 v H1 A1 s1 r1 q1 =>
    seqE s1.rel (S.stp R s1) (fun _ _ _ _ z => Exc.stp s1 z) q1 fun y M2 w H2 A2 s2 r2 q2 =>
      ok p.T A2 M2 H2 x y v w Q s2.rel (r1.stp s1.rel s2) r2 ((noex (hc x y M2) q2).imp (fun d M' _ z => Fin.stp (p := p) s2 (Fin.stp (p := p) s1 z)) fun _ _ _ _ _ z => z)
def eUn (op : D → List MO → Out D) (f : EvE) : EvE := fun env M => (f env M).bind op
theorem se_un {r : V → Hp → VK → Prop} {op : D → List MO → Out D} (pe : ∀ ta, PE X a ta → PE X e (fun σ H Q => ta σ H fun x H1 => r x H1 Q)) (ok : Ok1 X.K r op) (hc : ∀ x M c d e M', op x M ≠ .ex c d e M') (ha : SE X p a f) : SE X p e (eUn op f) :=
  pe_imp (pe _ ha) fun σ H Q ⟨A, M, env, R, S, q⟩ => seqE R S (fun _ _ _ _ z => z) q fun x M1 v H1 A1 s1 r1 q1 =>
    ok p.T A1 M1 H1 x v Q s1.rel r1 ((noex (hc x M1) q1).imp (fun d M' _ z => Fin.stp (p := p) s1 z) fun _ _ _ _ _ z => z)
end
/-! ### reading lists and tuples -/
/-- the items of a list -/
def asL (M : List MO) : D → Option (List D)
  | .lst l => some l
  | .rol l => some l
  | .ref n => match M[n]? with
    | some (.lst l) => some l
    | _ => none
  | _ => none
/-- .. that this run has made -/
def asLt (M : List MO) : D → Option (List D)
  | .lst l => some l
  | .ref n => match M[n]? with
    | some (.lst l) => some l
    | _ => none
  | _ => none
def asSeq (M : List MO) : D → Option (List D)
  | .tup l => some l
  | d => asL M d
section
variable {K : PySem.W.Frag} {T : List Addr} {A : Ads} {M : List MO} {H : Hp} {d : D} {v : V} {l : List D}
theorem Rel.ref (R : Rel K T A M H) {n : Nat} {o : MO} (r : Rep K A H (.ref n) v) (e : M[n]? = some o) (hd : o ≠ .dead) : ∃ a, v = .ref a ∧ A[n]? = some (some a) ∧ RepO K A H a o := by
  cases r with
  | ref h =>
    obtain ⟨o', e', q⟩ := R.ob n _ h
    rw [e] at e'
    cases e'
    exact ⟨_, rfl, h, q⟩
  | dead h =>
    have := R.dd n h
    rw [e] at this
    cases this
    exact (hd rfl).elim
theorem asLt_rep (R : Rel K T A M H) (r : Rep K A H d v) (e : asLt M d = some l) : ∃ a vs, v = .ref a ∧ H a = some (.lst vs) ∧ Reps K A H l vs := by
  cases d with
  | lst l' =>
    cases e
    cases r with
    | lst h hn t => exact ⟨_, _, rfl, h, t⟩
  | ref n =>
    have e' : (match M[n]? with | some (.lst l) => some l | _ => none) = some l := e
    cases hm : M[n]? with
    | none => rw [hm] at e'; cases e'
    | some o =>
      rw [hm] at e'
      cases o with
      | lst l' =>
        cases e'
        obtain ⟨a', e1, h1, vs, h2, t⟩ := R.ref r hm (fun z => by cases z)
        exact ⟨a', vs, e1, h2, t⟩
      | _ => cases e'
  | _ => cases e
theorem asL_rep (R : Rel K T A M H) (r : Rep K A H d v) (e : asL M d = some l) : ∃ a vs, v = .ref a ∧ SqL K H a vs ∧ Reps K A H l vs := by
  cases d with
  | rol l' =>
    cases e
    cases r with
    | rol h t => exact ⟨_, _, rfl, h.sq, t⟩
  | lst l' =>
    obtain ⟨a, vs, h1, h2, h3⟩ := asLt_rep R r (show asLt M _ = some l from e)
    exact ⟨a, vs, h1, .of h2, h3⟩
  | ref n =>
    obtain ⟨a, vs, h1, h2, h3⟩ := asLt_rep R r (show asLt M _ = some l from e)
    exact ⟨a, vs, h1, .of h2, h3⟩
  | _ => cases e
theorem asSeq_rep (R : Rel K T A M H) (r : Rep K A H d v) (e : asSeq M d = some l) : ∃ a vs, v = .ref a ∧ (SqL K H a vs ∨ SqT K H a vs) ∧ Reps K A H l vs := by
  cases d with
  | tup l' =>
    cases e
    cases r with
    | tup h t => exact ⟨_, _, rfl, .inr h.sq, t⟩
  | lst l' => obtain ⟨a, vs, h1, h2, h3⟩ := asL_rep R r (show asL M _ = some l from e); exact ⟨a, vs, h1, .inl h2, h3⟩
  | rol l' => obtain ⟨a, vs, h1, h2, h3⟩ := asL_rep R r (show asL M _ = some l from e); exact ⟨a, vs, h1, .inl h2, h3⟩
  | ref n => obtain ⟨a, vs, h1, h2, h3⟩ := asL_rep R r (show asL M _ = some l from e); exact ⟨a, vs, h1, .inl h2, h3⟩
  | _ => cases e
theorem rep_tup {ds : List D} {v : V} (r : Rep K A H (.tup ds) v) : ∃ a vs, v = .ref a ∧ SqT K H a vs ∧ Reps K A H ds vs := by
  cases r with
  | tup h t => exact ⟨_, _, rfl, h.sq, t⟩
theorem rep_tpl {ds : List D} {v : V} (r : Rep K A H (.tup ds) v) : ∃ a vs, v = .ref a ∧ TpL K H a vs ∧ Reps K A H ds vs := by
  cases r with
  | tup h t => exact ⟨_, _, rfl, h, t⟩
theorem rep_pr {ds : List D} {v : V} (r : Rep K A H (.pr ds) v) : ∃ a vs, v = .ref a ∧ SqT K H a vs ∧ Reps K A H ds vs := by
  cases r with
  | pr h t => exact ⟨_, _, rfl, h, t⟩
end
/-! ### what a new list becomes: data at rest, or an object that may change -/
abbrev Mk := List D → List MO → Out D
def mkF : Mk := fun l M => .ok (.lst l) M
def mkN : Mk := fun l M => .ok (.ref M.length) (M ++ [.lst l])
structure MkOk (mk : Mk) : Prop where
  run : ∀ (K : PySem.W.Frag) (T : List Addr) (A : Ads) (M : List MO) (H : Hp) (l : List D) (vs : List V) (a : Addr) (Q : VK), Rel K T A M H → H a = none → Reps K A H l vs → OutR (mk l M) (Fin K T A H Q) (fun _ _ _ _ => False) → Q (.ref a) (upd H a (.lst vs))
  calm : ∀ l M c d e M', mk l M ≠ .ex c d e M'
theorem mkF_ok : MkOk mkF := ⟨fun K T A M H l vs a Q R ha r q => q _ _ A (.lay R ha) (.lst upd_same (nA_of R ha) (r.mv R (.lay ha))), fun _ _ _ _ _ _ h => by cases h⟩
theorem mkN_ok : MkOk mkN := ⟨fun K T A M H l vs a Q R ha r q => by
  have s : Stp K T A H (A ++ [some a]) (M ++ [.lst l]) (upd H a (.lst vs)) := .newO R ha ⟨vs, upd_same, by
    refine r.mv R ⟨fun n x h => .inl ?_, fun b h => ?_, (Mv.lay (T := T) (A := A) ha).fr, (Mv.lay (T := T) (A := A) ha).nn⟩
    · rw [List.getElem?_append_left (List.getElem?_eq_some_iff.mp h).1]; exact h
    · rcases List.mem_append.mp h with h | h
      · exact .inl h
      · have e : b = a := by simpa using h
        rw [e]; exact .inr ha⟩
  refine q _ _ _ s (.ref ?_)
  rw [← R.len, List.getElem?_append_right (Nat.le_refl _), Nat.sub_self]
  rfl, fun _ _ _ _ _ _ h => by cases h⟩
/-- a new tuple -/
theorem new_tup {K : PySem.W.Frag} {T : List Addr} {A : Ads} {M : List MO} {H : Hp} {l : List D} {vs : List V} {Q : VK} (R : Rel K T A M H) (r : Reps K A H l vs) (q : Fin K T A H Q (.tup l) M) : LayT vs H Q := fun a o ha ho =>
  q _ _ A (.lay R ha) (.tup (.inl ⟨o, upd_same, ho⟩) (r.mv R (.lay ha)))
end SX
end
section
set_option Elab.async false
set_option linter.all false
set_option maxRecDepth 100000
open Classical
/-! SXc: the operators by values. -/
namespace SX
open PySem PySem.Spec PyProof.Rows L2
section
variable {X : Cx}
theorem OpR.or {f : Value → Value → Sem Value} {r r' : R2} (h : OpR X f r) (h' : OpR X f r') : OpR X f (fun x y H Q => r x y H Q ∨ r' x y H Q) := by
  intro pins s σ H x y v u Q I rx ry q
  rcases q with q | q
  · exact h pins s σ H x y v u Q I rx ry q
  · exact h' pins s σ H x y v u Q I rx ry q
end
theorem ifO {α : Type} {c : Prop} [Decidable c] {t : Out α} {p : α → List MO → Prop} {x : Nat → D → Env → List MO → Prop} (h : OutR (if c then t else .no) p x) : c ∧ OutR t p x := by
  by_cases e : c
  · rw [if_pos e] at h; exact ⟨e, h⟩
  · rw [if_neg e] at h; exact h.elim
theorem rep_int {K A H} {i : Int} {v : V} (r : Rep K A H (.int i) v) : v = .int i := by cases r; rfl
theorem rep_bl {K A H} {i : Bool} {v : V} (r : Rep K A H (.bl i) v) : v = .bl i := by cases r; rfl
theorem rep_str {K A H} {i : Str} {v : V} (r : Rep K A H (.str i) v) : v = .str i := by cases r; rfl
theorem rep_non {K A H} {v : V} (r : Rep K A H .non v) : v = .non := by cases r; rfl
/-! ### + -/
noncomputable def opAdd (mk : Mk) : D → D → List MO → Out D
  | .int i, .int j, M => .ok (.int (i + j)) M
  | .str x, .str y, M => if x.length + y.length ≤ sizeLine then .ok (.str (x ++ y)) M else .no
  | .tup x, .tup y, M => if x.length + y.length ≤ sizeLine then .ok (.tup (x ++ y)) M else .no
  | x, y, M => match asLt M x, asLt M y with
    | some xs, some ys => if xs.length + ys.length ≤ sizeLine then mk (xs ++ ys) M else .no
    | _, _ => .no
def rAddAny (K : PySem.W.Frag) : R2 := fun x y H Q => rI0 (fun i j => .int (i + j)) x y H Q ∨ (∃ i j, x = .str i ∧ y = .str j ∧ i.length + j.length ≤ sizeLine ∧ Q (.str (i ++ j)) H) ∨ rCatZ K x y H Q ∨ rCat x y H Q
theorem op_addAny {X : Cx} : OpR X (binaryOp .Add) (rAddAny X.K) := OpR.or op_add (OpR.or op_add_str (OpR.or op_catZ op_cat))
theorem calm_ok {d₀ : D} {M : List MO} : ∀ c d e M', Out.ok d₀ M ≠ .ex c d e M' := fun _ _ _ _ q => by cases q
theorem calm_of {o : Out D} (h : ∀ c d e M', o ≠ .ex c d e M') {c : Prop} [Decidable c] : ∀ c' d e M', (if c then o else .no) ≠ .ex c' d e M' := by
  intro c' d e M'
  by_cases z : c
  · rw [if_pos z]; exact h _ _ _ _
  · rw [if_neg z]; intro q; cases q
theorem opAdd_calm {mk : Mk} (hm : MkOk mk) : Calm2 (opAdd mk) := by
  intro x y M c d e M'
  unfold opAdd
  split
  · intro q; cases q
  · exact calm_of calm_ok _ _ _ _
  · exact calm_of calm_ok _ _ _ _
  · split
    · exact calm_of (hm.calm _ _) _ _ _ _
    · intro q; cases q
theorem add_lists {K : PySem.W.Frag} {mk : Mk} (hm : MkOk mk) {T : List Addr} {A : Ads} {M : List MO} {H : Hp} {x y : D} {v w : V} {Q : VK} (R : Rel K T A M H) (rx : Rep K A H x v) (ry : Rep K A H y w)
    (h : OutR (match asLt M x, asLt M y with | some xs, some ys => if xs.length + ys.length ≤ sizeLine then mk (xs ++ ys) M else .no | _, _ => .no) (Fin K T A H Q) (fun _ _ _ _ => False)) : rAddAny K v w H Q := by
  cases e1 : asLt M x with
  | none => rw [e1] at h; exact h.elim
  | some xs =>
    cases e2 : asLt M y with
    | none => rw [e1, e2] at h; exact h.elim
    | some ys =>
      rw [e1, e2] at h
      dsimp only at h
      obtain ⟨hz, h⟩ := ifO h
      obtain ⟨a, vs, h1, h2, h3⟩ := asLt_rep R rx e1
      obtain ⟨b, ws, k1, k2, k3⟩ := asLt_rep R ry e2
      refine .inr (.inr (.inr ⟨a, b, vs, ws, h1, k1, h2, k2, by rw [← h3.length, ← k3.length]; exact hz, fun p hp => ?_⟩))
      exact hm.run K T A M H _ _ p Q R hp (h3.append k3) h
theorem opAdd_ok {K : PySem.W.Frag} {mk : Mk} (hm : MkOk mk) : Ok2 K (rAddAny K) (opAdd mk) := by
  intro T A M H x y v w Q R rx ry h
  unfold opAdd at h
  split at h
  · exact .inl ⟨_, _, rep_int rx, rep_int ry, h _ H A (.refl R) (.int _)⟩
  · obtain ⟨hz, h⟩ := ifO h
    exact .inr (.inl ⟨_, _, rep_str rx, rep_str ry, hz, h _ H A (.refl R) (.str _)⟩)
  · obtain ⟨hz, h⟩ := ifO h
    obtain ⟨a, vs, e1, h1, t1⟩ := rep_tup rx
    obtain ⟨b, ws, e2, h2, t2⟩ := rep_tup ry
    refine .inr (.inr (.inl ⟨a, b, vs, ws, e1, e2, h1, h2, by rw [← t1.length, ← t2.length]; exact hz, fun e => ?_, fun _ e => ?_, fun _ _ => ?_⟩))
    · subst e
      cases t1
      subst e2
      exact h _ H A (.refl R) ry
    · subst e
      cases t2
      subst e1
      refine h _ H A (.refl R) ?_
      rw [List.append_nil]
      exact rx
    · exact new_tup R (t1.append t2) h
  · exact add_lists hm R rx ry h
/-! ### ints -/
def opI (g : Int → Int → Int) : D → D → List MO → Out D
  | .int i, .int j, M => .ok (.int (g i j)) M
  | _, _, _ => .no
theorem opI_calm {g} : Calm2 (opI g) := by intro x y M c d e M' q; unfold opI at q; split at q <;> cases q
theorem opI_ok {K : PySem.W.Frag} {g : Int → Int → Int} : Ok2 K (rI0 fun i j => .int (g i j)) (opI g) := by
  intro T A M H x y v w Q R rx ry h
  unfold opI at h
  split at h
  · exact ⟨_, _, rep_int rx, rep_int ry, h _ H A (.refl R) (.int _)⟩
  · exact h.elim
noncomputable def opIC (C : Int → Int → Prop) (g : Int → Int → Int) : D → D → List MO → Out D
  | .int i, .int j, M => if C i j then .ok (.int (g i j)) M else .no
  | _, _, _ => .no
theorem opIC_calm {C g} : Calm2 (opIC C g) := by
  intro x y M c d e M'
  unfold opIC
  split
  · exact calm_of calm_ok _ _ _ _
  · intro q; cases q
theorem opIC_ok {K : PySem.W.Frag} {C : Int → Int → Prop} {g : Int → Int → Int} : Ok2 K (rI C fun i j => .int (g i j)) (opIC C g) := by
  intro T A M H x y v w Q R rx ry h
  unfold opIC at h
  split at h
  · obtain ⟨hc, h⟩ := ifO h
    exact ⟨_, _, rep_int rx, rep_int ry, hc, h _ H A (.refl R) (.int _)⟩
  · exact h.elim
def opB (g : Int → Int → Bool) : D → D → List MO → Out D
  | .int i, .int j, M => .ok (.bl (g i j)) M
  | _, _, _ => .no
theorem opB_calm {g} : Calm2 (opB g) := by intro x y M c d e M' q; unfold opB at q; split at q <;> cases q
theorem opB_ok {K : PySem.W.Frag} {g : Int → Int → Bool} : Ok2 K (rI0 fun i j => .bl (g i j)) (opB g) := by
  intro T A M H x y v w Q R rx ry h
  unfold opB at h
  split at h
  · exact ⟨_, _, rep_int rx, rep_int ry, h _ H A (.refl R) (.bl _)⟩
  · exact h.elim
section
variable {X : Cx} {p : Pm} {a b c : Expr} {f g h : EvE} {pos : Pos}
noncomputable abbrev eAdd (mk : Mk) := eBin (opAdd mk)
theorem se_add (mk : Mk) (hm : MkOk mk) (ha : SE X p a f) (hb : SE X p b g) : SE X p (.BinOp a .Add b pos) (eAdd mk f g) :=
  se_bin (fun ta tb h1 h2 => pe_op op_addAny h1 h2) (opAdd_ok hm) (opAdd_calm hm) ha hb
abbrev eSub := eBin (opI (· - ·))
theorem se_sub (ha : SE X p a f) (hb : SE X p b g) : SE X p (.BinOp a .Sub b pos) (eSub f g) := se_bin (fun ta tb h1 h2 => pe_op op_sub h1 h2) opI_ok opI_calm ha hb
noncomputable abbrev eMul := eBin (opIC CMulW (· * ·))
theorem se_mul (ha : SE X p a f) (hb : SE X p b g) : SE X p (.BinOp a .Mult b pos) (eMul f g) := se_bin (fun ta tb h1 h2 => pe_op op_mulW h1 h2) opIC_ok opIC_calm ha hb
noncomputable abbrev eFdiv := eBin (opIC CDivW (· / ·))
theorem se_fdiv (ha : SE X p a f) (hb : SE X p b g) : SE X p (.BinOp a .FloorDiv b pos) (eFdiv f g) := se_bin (fun ta tb h1 h2 => pe_op op_fdivW h1 h2) opIC_ok opIC_calm ha hb
noncomputable abbrev eMod := eBin (opIC (fun _ j => 0 < j) (· % ·))
theorem se_mod (ha : SE X p a f) (hb : SE X p b g) : SE X p (.BinOp a .Mod b pos) (eMod f g) := se_bin (fun ta tb h1 h2 => pe_op op_mod h1 h2) opIC_ok opIC_calm ha hb
noncomputable abbrev ePow := eBin (opIC CPow (fun i j => i ^ j.toNat))
theorem se_pow (ha : SE X p a f) (hb : SE X p b g) : SE X p (.BinOp a .Pow b pos) (ePow f g) := se_bin (fun ta tb h1 h2 => pe_op op_pow h1 h2) opIC_ok opIC_calm ha hb
def opNeg : D → List MO → Out D
  | .int i, M => .ok (.int (-i)) M
  | _, _ => .no
abbrev eNeg := eUn opNeg
theorem se_neg (ha : SE X p a f) : SE X p (.UnaryOp .USub a pos) (eNeg f) := se_un (r := rU fun i => .int (-i)) (fun ta h1 => pe_un un_neg h1)
  (fun T A M H x v Q R rx h => by
    unfold opNeg at h
    split at h
    · exact ⟨_, rep_int rx, h _ H A (.refl R) (.int _)⟩
    · exact h.elim) (fun x M c d e M' q => by unfold opNeg at q; split at q <;> cases q) ha
abbrev eLt := eBin (opB fun i j => decide (i < j))
abbrev eLe := eBin (opB fun i j => decide (i ≤ j))
abbrev eGt := eBin (opB fun i j => decide (j < i))
abbrev eGe := eBin (opB fun i j => decide (j ≤ i))
theorem se_lt (ha : SE X p a f) (hb : SE X p b g) : SE X p (.Compare a [.Lt] [b] pos) (eLt f g) := se_bin (fun ta tb h1 h2 => pe_cmpR op_lt h1 h2 (nomark _)) opB_ok opB_calm ha hb
theorem se_le (ha : SE X p a f) (hb : SE X p b g) : SE X p (.Compare a [.LtE] [b] pos) (eLe f g) := se_bin (fun ta tb h1 h2 => pe_cmpR op_le h1 h2 (nomark _)) opB_ok opB_calm ha hb
theorem se_gt (ha : SE X p a f) (hb : SE X p b g) : SE X p (.Compare a [.Gt] [b] pos) (eGt f g) := se_bin (fun ta tb h1 h2 => pe_cmpR op_gt h1 h2 (nomark _)) opB_ok opB_calm ha hb
theorem se_ge (ha : SE X p a f) (hb : SE X p b g) : SE X p (.Compare a [.GtE] [b] pos) (eGe f g) := se_bin (fun ta tb h1 h2 => pe_cmpR op_ge h1 h2 (nomark _)) opB_ok opB_calm ha hb
end
/-! ### == of data -/
mutual
def toPy (M : List MO) : D → Option PyData
  | .non => some .none
  | .bl b => some (.bool b)
  | .int i => some (.int i)
  | .str x => some (.str x)
  | .tup l => (toPyL M l).map .tuple
  | .pr _ => none
  | .lst l => (toPyL M l).map .list
  | .rol l => (toPyL M l).map .list
  | .ref _ => none
  | .exc _ _ _ => none
  | .adr _ => none
def toPyL (M : List MO) : List D → Option (List PyData)
  | [] => some []
  | d :: r => match toPy M d, toPyL M r with
    | some x, some xs => some (x :: xs)
    | _, _ => none
end
/-- .. one that may change may stand outside -/
def toPyR (M : List MO) (d : D) : Option PyData := match d with
  | .ref n => match M[n]? with
    | some (.lst l) => (toPyL M l).map .list
    | _ => none
  | d => toPy M d
section
variable {K : PySem.W.Frag} {T : List Addr} {A : Ads} {M : List MO} {H : Hp}
mutual
theorem toPy_rep (R : Rel K T A M H) : ∀ {d : D} {v : V} {y : PyData}, Rep K A H d v → toPy M d = some y → Dp K H v y
  | .non, _, _, r, e => by cases r; cases e; exact .non
  | .bl b, _, _, r, e => by cases r; cases e; exact .bl b
  | .int i, _, _, r, e => by cases r; cases e; exact .int i
  | .str x, _, _, r, e => by cases r; cases e; exact .str x
  | .tup l, v, y, r, e => by
    unfold toPy at e
    cases h : toPyL M l with
    | none => rw [h] at e; cases e
    | some ys =>
      rw [h] at e
      cases e
      cases r with
      | tup h1 t => exact .tup h1.sq (toPyL_rep R t h)
  | .pr l, v, y, r, e => by unfold toPy at e; cases e
  | .lst l, v, y, r, e => by
    unfold toPy at e
    cases h : toPyL M l with
    | none => rw [h] at e; cases e
    | some ys =>
      rw [h] at e
      cases e
      cases r with
      | lst h1 hn t => exact .lst (.of h1) (toPyL_rep R t h)
  | .rol l, v, y, r, e => by
    unfold toPy at e
    cases h : toPyL M l with
    | none => rw [h] at e; cases e
    | some ys =>
      rw [h] at e
      cases e
      cases r with
      | rol h1 t => exact .lst h1.sq (toPyL_rep R t h)
  | .ref n, v, y, r, e => by unfold toPy at e; cases e
  | .exc _ _ _, v, y, r, e => by unfold toPy at e; cases e
  | .adr _, v, y, r, e => by unfold toPy at e; cases e
theorem toPyL_rep (R : Rel K T A M H) : ∀ {ds : List D} {vs : List V} {ys : List PyData}, Reps K A H ds vs → toPyL M ds = some ys → DpAll K H vs ys
  | [], _, _, r, e => by cases r; unfold toPyL at e; cases e; exact .nil
  | d :: ds, _, ys, r, e => by
    unfold toPyL at e
    cases h1 : toPy M d with
    | none => rw [h1] at e; cases e
    | some x =>
      cases h2 : toPyL M ds with
      | none => rw [h1, h2] at e; cases e
      | some xs =>
        rw [h1, h2] at e
        cases e
        cases r with
        | cons r1 r2 => exact .cons (toPy_rep R r1 h1) (toPyL_rep R r2 h2)
end
theorem toPyR_rep (R : Rel K T A M H) {d : D} {v : V} {y : PyData} (r : Rep K A H d v) (e : toPyR M d = some y) : Dp K H v y := by
  cases d with
  | ref n =>
    have e' : (match M[n]? with | some (.lst l) => (toPyL M l).map PyData.list | _ => none) = some y := e
    cases hm : M[n]? with
    | none => rw [hm] at e'; cases e'
    | some o =>
      rw [hm] at e'
      cases o with
      | lst l =>
        simp only at e'
        cases h : toPyL M l with
        | none => rw [h] at e'; cases e'
        | some ys =>
          rw [h] at e'
          cases e'
          obtain ⟨a, e1, _, vs, h2, t⟩ := R.ref r hm (fun z => by cases z)
          subst e1
          exact .lst (.of h2) (toPyL_rep R t h)
      | _ => cases e'
  | _ => exact toPy_rep R r e
end
/-- x == y -/
noncomputable def opEq (neg : Bool) : D → D → List MO → Out D := fun x y M => match toPyR M x, toPyR M y with
  | some d, some e => if SeqAt.shaped d = true ∧ SeqAt.shaped e = true then .ok (.bl (if neg then !PyData.eqv d e else PyData.eqv d e)) M else .no
  | _, _ => .no
theorem opEq_calm {neg} : Calm2 (opEq neg) := by
  intro x y M c d e M'
  unfold opEq
  split
  · exact calm_of calm_ok _ _ _ _
  · intro q; cases q
theorem opEq_pre {K : PySem.W.Frag} {neg : Bool} {T : List Addr} {A : Ads} {M : List MO} {H : Hp} {x y : D} {v w : V} {Q : VK} (R : Rel K T A M H) (rx : Rep K A H x v) (ry : Rep K A H y w)
    (h : OutR (opEq neg x y M) (Fin K T A H Q) (fun _ _ _ _ => False)) : ∃ d e, Dp K H v d ∧ Dp K H w e ∧ SeqAt.shaped d = true ∧ SeqAt.shaped e = true ∧ Q (.bl (if neg then !PyData.eqv d e else PyData.eqv d e)) H := by
  unfold opEq at h
  cases e1 : toPyR M x with
  | none => rw [e1] at h; exact h.elim
  | some d =>
    cases e2 : toPyR M y with
    | none => rw [e1, e2] at h; exact h.elim
    | some e =>
      rw [e1, e2] at h
      dsimp only at h
      obtain ⟨hz, h⟩ := ifO h
      exact ⟨d, e, toPyR_rep R rx e1, toPyR_rep R ry e2, hz.1, hz.2, h _ H A (.refl R) (.bl _)⟩
section
variable {X : Cx} {p : Pm} {a b c : Expr} {f g h : EvE} {pos : Pos} {k : Nat}
noncomputable abbrev eEq := eBin (opEq false)
noncomputable abbrev eNe := eBin (opEq true)
theorem se_eq (hr : Room k X.A) (ha : SE X p a f) (hb : SE X p b g) : SE X p (.Compare a [.Eq] [b] pos) (eEq f g) := se_bin (fun ta tb h1 h2 => pe_cmpR (op_eqD hr.units) h1 h2 (nomark _)) (fun T A M H x y v w Q R rx ry h => opEq_pre R rx ry h) opEq_calm ha hb
theorem se_ne (hr : Room k X.A) (ha : SE X p a f) (hb : SE X p b g) : SE X p (.Compare a [.NotEq] [b] pos) (eNe f g) := se_bin (fun ta tb h1 h2 => pe_cmpR (op_neD hr.units) h1 h2 (nomark _)) (fun T A M H x y v w Q R rx ry h => opEq_pre R rx ry h) opEq_calm ha hb
def isNon : D → Bool
  | .non => true
  | _ => false
/-- x is None -/
def opIsN (neg : Bool) : D → D → List MO → Out D
  | .ref _, .non, _ => .no
  | d, .non, M => .ok (.bl (if neg then !isNon d else isNon d)) M
  | _, _, _ => .no
theorem opIsN_calm {neg} : Calm2 (opIsN neg) := by intro x y M c d e M' q; unfold opIsN at q; split at q <;> cases q
theorem isN_rep {K A H} {d : D} {v : V} (r : Rep K A H d v) (h : ∀ n, d ≠ .ref n) : decide (v = .non) = isNon d := by
  cases r with
  | ref => exact (h _ rfl).elim
  | dead => exact (h _ rfl).elim
  | non => rfl
  | _ => exact decide_eq_false (fun z => by cases z)
theorem opIsN_pre {K : PySem.W.Frag} {neg : Bool} {T : List Addr} {A : Ads} {M : List MO} {H : Hp} {x y : D} {v w : V} {Q : VK} (R : Rel K T A M H) (rx : Rep K A H x v) (ry : Rep K A H y w)
    (h : OutR (opIsN neg x y M) (Fin K T A H Q) (fun _ _ _ _ => False)) : w = .non ∧ Q (.bl (if neg then !decide (v = .non) else decide (v = .non))) H := by
  unfold opIsN at h
  split at h
  · exact h.elim
  · rename_i hn
    refine ⟨rep_non ry, ?_⟩
    rw [isN_rep rx hn]
    exact h _ H A (.refl R) (.bl _)
  · exact h.elim
abbrev eIsN := eBin (opIsN false)
abbrev eNotN := eBin (opIsN true)
theorem se_isN (ha : SE X p a f) (hb : SE X p b g) : SE X p (.Compare a [.Is] [b] pos) (eIsN f g) := se_bin (fun ta tb h1 h2 => pe_cmpR op_isN h1 h2 (nomark _)) (fun T A M H x y v w Q R rx ry h => opIsN_pre R rx ry h) opIsN_calm ha hb
theorem se_notN (ha : SE X p a f) (hb : SE X p b g) : SE X p (.Compare a [.IsNot] [b] pos) (eNotN f g) := se_bin (fun ta tb h1 h2 => pe_cmpR op_notN h1 h2 (nomark _)) (fun T A M H x y v w Q R rx ry h => opIsN_pre R rx ry h) opIsN_calm ha hb
end
/-! ### x[i], x[i:j] -/
def opIx : D → D → List MO → Out D := fun x y M => match asSeq M x, y with
  | some l, .int i => match atI l i with
    | some d => .ok d M
    | none => .no
  | _, _ => .no
theorem opIx_calm : Calm2 opIx := by
  intro x y M c d e M' q
  unfold opIx at q
  split at q
  · split at q <;> cases q
  · cases q
theorem atI_rep {K A H} {l : List D} {vs : List V} {i : Int} {d : D} (t : Reps K A H l vs) (h : atI l i = some d) : ∃ v, atI vs i = some v ∧ Rep K A H d v := by
  unfold atI at h ⊢
  rw [t.length] at h
  cases e : ixN vs.length i with
  | none => rw [e] at h; cases h
  | some j =>
    rw [e] at h
    exact t.get h
theorem opIx_ok {K : PySem.W.Frag} : Ok2 K (rIx K) opIx := by
  intro T A M H x y v w Q R rx ry h
  unfold opIx at h
  split at h
  · rename_i l i e1
    split at h
    · rename_i d e2
      obtain ⟨a, vs, h1, h2, t⟩ := asSeq_rep R rx e1
      obtain ⟨u, h3, r⟩ := atI_rep t e2
      rcases h2 with h2 | h2
      · exact .inl ⟨a, vs, i, u, h1, rep_int ry, h2, h3, h u H A (.refl R) r⟩
      · exact .inr (.inl ⟨a, vs, i, u, h1, rep_int ry, h2, h3, h u H A (.refl R) r⟩)
    · exact h.elim
  · exact h.elim
section
variable {X : Cx} {p : Pm} {a b c : Expr} {f g h : EvE} {pos p2 : Pos}
abbrev eIx := eBin opIx
theorem se_ix (hs : PlainIx b) (ha : SE X p a f) (hb : SE X p b g) : SE X p (.Subscript a b pos) (eIx f g) := se_bin (fun ta tb h1 h2 => pe_ix ix_seq h1 h2 hs) opIx_ok opIx_calm ha hb
end
end SX
end
section
set_option Elab.async false
set_option linter.all false
set_option maxRecDepth 100000
open Classical
/-! SXd: tests, and, or, slices, displays, calls. -/
namespace SX
open PySem PySem.Spec PyProof.Rows L2
/-! ### truth -/
def truV (M : List MO) : D → Option Bool
  | .non => some false
  | .bl b => some b
  | .int i => some (i != 0)
  | .str x => if x.length ≤ sizeLine then some ((x.length : Int) != 0) else none
  | .tup l => some (!l.isEmpty)
  | .pr _ => none
  | .exc _ _ _ => none
  | .adr _ => none
  | .lst l => some (!l.isEmpty)
  | .rol l => some (!l.isEmpty)
  | .ref n => match M[n]? with
    | some (.lst l) => some (!l.isEmpty)
    | _ => none
theorem reps_empty {K A H} {l : List D} {vs : List V} (t : Reps K A H l vs) : (!l.isEmpty) = !vs.isEmpty := by cases t <;> rfl
theorem map_empty {α β γ δ : Type} {l : List (α × β)} {m : List (γ × δ)} (h : l.length = m.length) : (!l.isEmpty) = !m.isEmpty := by
  cases l <;> cases m <;> first | rfl | (simp at h)
theorem truV_rep {K : PySem.W.Frag} {T : List Addr} {A : Ads} {M : List MO} {H : Hp} (R : Rel K T A M H) {d : D} {v : V} {b : Bool} (r : Rep K A H d v) (e : truV M d = some b) : TruV K v H b := by
  cases d with
  | non => cases e; cases r; rfl
  | bl _ => cases e; cases r; rfl
  | int _ => cases e; cases r; rfl
  | str x =>
    cases r
    have e' : (if x.length ≤ sizeLine then some ((x.length : Int) != 0) else none) = some b := e
    by_cases h : x.length ≤ sizeLine
    · rw [if_pos h] at e'; cases e'; exact ⟨h, rfl⟩
    · rw [if_neg h] at e'; cases e'
  | tup l =>
    cases e
    cases r with
    | tup h t => exact .inr (.inl ⟨_, h.sq, reps_empty t⟩)
  | pr l => cases e
  | exc _ _ _ => cases e
  | adr _ => cases e
  | lst l =>
    cases e
    cases r with
    | lst h hn t => exact .inl ⟨_, .of h, reps_empty t⟩
  | rol l =>
    cases e
    cases r with
    | rol h t => exact .inl ⟨_, h.sq, reps_empty t⟩
  | ref n =>
    have e' : (match M[n]? with | some (.lst l) => some (!l.isEmpty) | _ => none) = some b := e
    cases hm : M[n]? with
    | none => rw [hm] at e'; cases e'
    | some o =>
      rw [hm] at e'
      cases o with
      | lst l =>
        cases e'
        obtain ⟨a, e1, _, vs, h2, t⟩ := R.ref r hm (fun z => by cases z)
        subst e1
        exact .inl ⟨_, .of h2, reps_empty t⟩
      | dK kvs => cases e'
      | dI kvs => cases e'
      | dead => cases e'
def oT (o : Option Bool) (M : List MO) : Out Bool := match o with
  | some b => .ok b M
  | none => .no
/-- a value as a test -/
def tTru (f : EvE) : EvT := fun env M => (f env M).bind fun d M1 => oT (truV M1 d) M1
/-- .. that is True or False -/
def asB : D → Option Bool
  | .bl b => some b
  | _ => none
def tBl (f : EvE) : EvT := fun env M => (f env M).bind fun d M1 => oT (asB d) M1
theorem oT_ok {o : Option Bool} {M : List MO} {p : Bool → List MO → Prop} {x} (h : OutR (oT o M) p x) : ∃ b, o = some b ∧ p b M := by
  cases o with
  | none => exact h.elim
  | some b => exact ⟨b, rfl, h⟩
section
variable {X : Cx} {p : Pm} {e a b c : Expr} {f g h : EvE} {ta tb : EvT} {rest : List Expr} {pos p2 : Pos}
theorem st_tru (ha : SE X p a f) (he : ∀ whole, isTrue a X.env whole = (do let v ← whole; standAt a.pos; holding [v] (truthy v)) := by intro _; rfl) : ST X p a (tTru f) :=
  pt_imp (pt_truth ha he) fun σ H Q ⟨A, M, env, R, S, q⟩ => seqE R S (fun _ _ _ _ z => z) q fun d M1 v H1 A1 s1 r1 q1 => by
    obtain ⟨b, e, q1⟩ := oT_ok q1
    exact ⟨b, truV_rep s1.rel r1 e, q1 H1 A1 s1⟩
theorem asB_rep {K A H} {d : D} {v : V} {b : Bool} (r : Rep K A H d v) (e : asB d = some b) : v = .bl b := by
  cases d <;> first | (cases e; cases r; rfl) | cases e
theorem st_bin {r : R2} {op : D → D → List MO → Out D} (pt : ∀ ta tb, PE X a ta → PE X b tb → PT X e (tTest (tOp r ta tb))) (ok : Ok2 X.K r op) (hc : Calm2 op) (ha : SE X p a f) (hb : SE X p b g) : ST X p e (tBl (eBin op f g)) :=
  pt_imp (pt _ _ ha hb) fun σ H Q ⟨A, M, env, R, S, q⟩ => by
    have q' : OutR ((f env M).bind fun x M1 => ((g env M1).bind fun y M2 => (op x y M2).bind fun d M3 => oT (asB d) M3)) (fun b M' => ∀ H' A', Stp X.K p.T A H A' M' H' → Q b H') (Exc X.K p A H) := by
      unfold tBl eBin at q
      cases hf : f env M with
      | ok x M1 =>
        rw [hf] at q
        show OutR ((g env M1).bind _) _ _
        have q2 : OutR (((g env M1).bind fun y M2 => op x y M2).bind fun d M1 => oT (asB d) M1) (fun b M' => ∀ H' A', Stp X.K p.T A H A' M' H' → Q b H') (Exc X.K p A H) := q
        cases hg : g env M1 with
        | ok y M2 => rw [hg] at q2; exact q2
        | ex => rw [hg] at q2; exact q2
        | no => rw [hg] at q2; exact q2
      | ex => rw [hf] at q; exact q
      | no => rw [hf] at q; exact q
    refine seqE R S (fun _ _ _ _ z => z) q' fun x M1 v H1 A1 s1 r1 q1 => ?_
    refine seqE s1.rel (S.stp R s1) (fun _ _ _ _ z => Exc.stp s1 z) q1 fun y M2 w H2 A2 s2 r2 q2 => ?_
    refine ok p.T A2 M2 H2 x y v w _ s2.rel (r1.stp s1.rel s2) r2 ?_
    have q3 := q2.of_bind
    refine (noex (hc x y M2) q3).imp (fun d M' _ z => ?_) fun _ _ _ _ _ z => z
    obtain ⟨b, e, z⟩ := oT_ok z
    exact fun u H3 A3 s3 r3 => ⟨b, asB_rep r3 e, z H3 A3 ((s1.trans s2).trans s3)⟩
def tNotT (f : EvT) : EvT := fun env M => (f env M).bind fun b M1 => .ok (!b) M1
theorem st_not (ha : ST X p a ta) : ST X p (.UnaryOp .Not a pos) (tNotT ta) :=
  pt_imp (pt_not ha) fun σ H Q ⟨A, M, env, R, S, q⟩ => seqT R S (fun _ _ _ _ z => z) q fun b M1 H1 A1 s1 q1 => q1 H1 A1 s1
abbrev SW (X : Cx) (p : Pm) (e : Expr) (f : EvT) : Prop := PW X e (tT X.K p f)
theorem pw_imp {X : Cx} {e : Expr} {t t' : TT} (h : PW X e t) (hi : ∀ σ H Q, t' σ H Q → t σ H Q) : PW X e t' := ⟨fun wh pins s σ H Q I q => h.run wh pins s σ H Q I (hi σ H Q q)⟩
def tAndE (f g : EvT) : EvT := fun env M => (f env M).bind fun b M1 => if b = true then g env M1 else .ok false M1
def tOrE (f g : EvT) : EvT := fun env M => (f env M).bind fun b M1 => if b = true then .ok true M1 else g env M1
theorem sw_and1 (ha : ST X p a ta) : SW X p (.BoolOp .And [a] pos) ta := pw_and1 ha
theorem sw_or1 (ha : ST X p a ta) : SW X p (.BoolOp .Or [a] pos) ta := pw_or1 ha
theorem sw_and (ha : ST X p a ta) (hb : SW X p (.BoolOp .And (b :: rest) pos) tb) : SW X p (.BoolOp .And (a :: b :: rest) pos) (tAndE ta tb) :=
  pw_imp (pw_and ha hb) fun σ H Q ⟨A, M, env, R, S, q⟩ => seqT R S (fun _ _ _ _ z => z) q fun k M1 H1 A1 s1 q1 => by
    cases k with
    | true => exact ⟨A1, M1, env, s1.rel, S.stp R s1, q1.imp (fun b M' _ z H' A' s' => z H' A' (s1.trans s')) fun _ _ _ _ _ z => Exc.stp s1 z⟩
    | false => exact q1 H1 A1 s1
theorem sw_or (ha : ST X p a ta) (hb : SW X p (.BoolOp .Or (b :: rest) pos) tb) : SW X p (.BoolOp .Or (a :: b :: rest) pos) (tOrE ta tb) :=
  pw_imp (pw_or ha hb) fun σ H Q ⟨A, M, env, R, S, q⟩ => seqT R S (fun _ _ _ _ z => z) q fun k M1 H1 A1 s1 q1 => by
    cases k with
    | false => exact ⟨A1, M1, env, s1.rel, S.stp R s1, q1.imp (fun b M' _ z H' A' s' => z H' A' (s1.trans s')) fun _ _ _ _ _ z => Exc.stp s1 z⟩
    | true => exact q1 H1 A1 s1
theorem st_w (h : SW X p a ta) : ST X p a ta := h.pt
/-! ### as values -/
def eNot (f : EvE) : EvE := fun env M => (f env M).bind fun d M1 => match truV M1 d with
  | some b => .ok (.bl (!b)) M1
  | none => .no
theorem se_not (ha : SE X p a f) : SE X p (.UnaryOp .Not a pos) (eNot f) :=
  pe_imp (pe_notT ha) fun σ H Q ⟨A, M, env, R, S, q⟩ => seqE R S (fun _ _ _ _ z => z) q fun d M1 v H1 A1 s1 r1 q1 => by
    cases e : truV M1 d with
    | none => rw [e] at q1; exact q1.elim
    | some b =>
      rw [e] at q1
      exact ⟨b, truV_rep s1.rel r1 e, q1 _ H1 A1 s1 (.bl _)⟩
def eAnd (f g : EvE) : EvE := fun env M => (f env M).bind fun d M1 => match truV M1 d with
  | some true => g env M1
  | some false => .ok d M1
  | none => .no
def eOr (f g : EvE) : EvE := fun env M => (f env M).bind fun d M1 => match truV M1 d with
  | some false => g env M1
  | some true => .ok d M1
  | none => .no
theorem se_one {op : BoolOp} (ha : SE X p a f) : SE X p (.BoolOp op [a] pos) f := pe_one ha
theorem se_and (ha : SE X p a f) (hb : SE X p (.BoolOp .And (b :: rest) pos) g) : SE X p (.BoolOp .And (a :: b :: rest) pos) (eAnd f g) :=
  pe_imp (pe_andT ha hb) fun σ H Q ⟨A, M, env, R, S, q⟩ => seqE R S (fun _ _ _ _ z => z) q fun d M1 v H1 A1 s1 r1 q1 => by
    cases e : truV M1 d with
    | none => rw [e] at q1; exact q1.elim
    | some k =>
      rw [e] at q1
      refine ⟨k, truV_rep s1.rel r1 e, ?_⟩
      cases k with
      | true => rw [if_pos rfl]; exact ⟨A1, M1, env, s1.rel, S.stp R s1, q1.imp (fun b M' _ z => Fin.stp s1 z) fun _ _ _ _ _ z => Exc.stp s1 z⟩
      | false => rw [if_neg Bool.false_ne_true]; exact q1 _ H1 A1 s1 r1
theorem se_or (ha : SE X p a f) (hb : SE X p (.BoolOp .Or (b :: rest) pos) g) : SE X p (.BoolOp .Or (a :: b :: rest) pos) (eOr f g) :=
  pe_imp (pe_orT ha hb) fun σ H Q ⟨A, M, env, R, S, q⟩ => seqE R S (fun _ _ _ _ z => z) q fun d M1 v H1 A1 s1 r1 q1 => by
    cases e : truV M1 d with
    | none => rw [e] at q1; exact q1.elim
    | some k =>
      rw [e] at q1
      refine ⟨k, truV_rep s1.rel r1 e, ?_⟩
      cases k with
      | false => rw [if_neg Bool.false_ne_true]; exact ⟨A1, M1, env, s1.rel, S.stp R s1, q1.imp (fun b M' _ z => Fin.stp s1 z) fun _ _ _ _ _ z => Exc.stp s1 z⟩
      | true => rw [if_pos rfl]; exact q1 _ H1 A1 s1 r1
def eIf (t : EvT) (f g : EvE) : EvE := fun env M => (t env M).bind fun b M1 => if b = true then f env M1 else g env M1
theorem se_if (hc : ST X p c ta) (ha : SE X p a f) (hb : SE X p b g) : SE X p (.IfExp c a b pos) (eIf ta f g) :=
  pe_imp (pe_ifExp hc ha hb) fun σ H Q ⟨A, M, env, R, S, q⟩ => seqT R S (fun _ _ _ _ z => z) q fun k M1 H1 A1 s1 q1 => by
    cases k with
    | true => rw [if_pos rfl] at q1 ⊢; exact ⟨A1, M1, env, s1.rel, S.stp R s1, q1.imp (fun b M' _ z => Fin.stp s1 z) fun _ _ _ _ _ z => Exc.stp s1 z⟩
    | false => rw [if_neg Bool.false_ne_true] at q1 ⊢; exact ⟨A1, M1, env, s1.rel, S.stp R s1, q1.imp (fun b M' _ z => Fin.stp s1 z) fun _ _ _ _ _ z => Exc.stp s1 z⟩
/-- a op b op' c -/
def eCh (op op' : D → D → List MO → Out D) (f g h : EvE) : EvE := fun env M => (f env M).bind fun x M1 => (g env M1).bind fun y M2 => (op x y M2).bind fun z M3 => match z with
  | .bl true => (h env M3).bind fun u M4 => op' y u M4
  | .bl false => .ok (.bl false) M3
  | _ => .no
theorem se_chain {op op' : CmpOp} {r r' : R2} {o o' : D → D → List MO → Out D} (ho : OpR X (compareOp op) r) (ho' : OpR X (compareOp op') r') (k : Ok2 X.K r o) (k' : Ok2 X.K r' o') (hc : Calm2 o) (hc' : Calm2 o')
    (ha : SE X p a f) (hb : SE X p b g) (hcc : SE X p c h) (hm : lastMarks [op, op'] [b, c] = false := by with_unfolding_all rfl) : SE X p (.Compare a [op, op'] [b, c] pos) (eCh o o' f g h) :=
  pe_imp (pe_chain ho ho' ha hb hcc hm) fun σ H Q ⟨A, M, env, R, S, q⟩ => seqE R S (fun _ _ _ _ z => z) q fun x M1 v H1 A1 s1 r1 q1 =>
    seqE s1.rel (S.stp R s1) (fun _ _ _ _ z => Exc.stp s1 z) q1 fun y M2 w H2 A2 s2 r2 q2 => by
      refine k p.T A2 M2 H2 x y v w _ s2.rel (r1.stp s1.rel s2) r2 ?_
      refine (noex (hc x y M2) q2.of_bind).imp (fun d M3 _ z => ?_) fun _ _ _ _ _ z => z
      intro u H3 A3 s3 r3
      have s13 := s1.trans (s2.trans s3)
      cases d with
      | bl kb =>
        refine ⟨kb, rep_bl r3, ?_⟩
        cases kb with
        | true =>
          rw [if_pos rfl]
          refine seqE s3.rel (((S.stp R s1).stp s1.rel s2).stp s2.rel s3) (fun _ _ _ _ z => Exc.stp s13 z) z fun u M4 uv H4 A4 s4 r4 q4 => ?_
          exact k' p.T A4 M4 H4 y u w uv Q s4.rel ((r2.stp s2.rel s3).stp s3.rel s4) r4 ((noex (hc' y u M4) q4).imp (fun d M' _ z => Fin.stp (p := p) (s13.trans s4) z) fun _ _ _ _ _ z => z)
        | false =>
          rw [if_neg Bool.false_ne_true]
          exact z _ H3 A3 s13 (.bl _)
      | _ => exact z.elim
/-! ### slices -/
abbrev EvO := Env → List MO → Out (Option Int)
def tO (K : PySem.W.Frag) (p : Pm) (f : EvO) : TO := fun σ H Q => ∃ A M env, Rel K p.T A M H ∧ RepS K A H env σ ∧ OutR (f env M) (fun o M' => ∀ H' A', Stp K p.T A H A' M' H' → Q o H') (Exc K p A H)
abbrev SO (X : Cx) (p : Pm) (e : Option Expr) (f : EvO) : Prop := PO X e (tO X.K p f)
theorem po_imp {X : Cx} {e : Option Expr} {t t' : TO} (h : PO X e t) (hi : ∀ σ H Q, t' σ H Q → t σ H Q) : PO X e t' := ⟨fun pins s σ H Q I q => h.run pins s σ H Q I (hi σ H Q q)⟩
def oNone : EvO := fun _ M => .ok none M
def oSome (f : EvE) : EvO := fun env M => (f env M).bind fun d M1 => match d with
  | .int i => .ok (some i) M1
  | _ => .no
theorem so_none : SO X p none oNone := po_imp po_none fun σ H Q ⟨A, M, env, R, S, q⟩ => q H A (.refl R)
theorem so_some (ha : SE X p a f) : SO X p (some a) (oSome f) := po_imp (po_some ha) fun σ H Q ⟨A, M, env, R, S, q⟩ => seqE R S (fun _ _ _ _ z => z) q fun d M1 v H1 A1 s1 r1 q1 => by
  cases d with
  | int i => exact ⟨i, rep_int r1, q1 H1 A1 s1⟩
  | _ => exact q1.elim
/-- the items from lo to hi -/
def cutD (xs : List D) (lo hi : Option Int) : List D := (xs.drop (HT.sIx xs.length 0 lo)).take (HT.sIx xs.length xs.length hi - HT.sIx xs.length 0 lo)
theorem cutD_rep {K A H} {l : List D} {vs : List V} (t : Reps K A H l vs) (lo hi : Option Int) : Reps K A H (cutD l lo hi) (cutV vs lo hi) := by
  unfold cutD cutV
  rw [t.length]
  exact (t.drop _).take _
def opSl (mk : Mk) (x : D) (lo hi : Option Int) (M : List MO) : Out D := match x with
  | .tup l => .ok (.tup (cutD l lo hi)) M
  | .str z => if z.length ≤ sizeLine then .ok (.str (cutS z lo hi)) M else .no
  | x => match asL M x with
    | some l => mk (cutD l lo hi) M
    | none => .no
def rSlAny (K : PySem.W.Frag) : V → Option Int → Option Int → Hp → VK → Prop := fun x lo hi H Q => rSlZ K x lo hi H Q ∨ rSlS x lo hi H Q ∨ rSlL K x lo hi H Q
theorem sl_any : SlR X (rSlAny X.K) := SlR.or sl_tupZ (SlR.or sl_str sl_list)
theorem opSl_calm {mk : Mk} (hm : MkOk mk) : ∀ x lo hi M c d e M', opSl mk x lo hi M ≠ .ex c d e M' := by
  intro x lo hi M c d e M'
  unfold opSl
  split
  · intro q; cases q
  · exact calm_of calm_ok _ _ _ _
  · split
    · exact hm.calm _ _ _ _ _ _
    · intro q; cases q
theorem whole_cut (l : List D) (lo hi : Option Int) (h : HT.sIx l.length 0 lo = 0 ∧ HT.sIx l.length l.length hi = l.length) : cutD l lo hi = l := by
  unfold cutD
  rw [h.1, h.2, List.drop_zero, Nat.sub_zero, List.take_length]
theorem opSl_ok {K : PySem.W.Frag} {mk : Mk} (hm : MkOk mk) {T : List Addr} {A : Ads} {M : List MO} {H : Hp} {x : D} {v : V} {lo hi : Option Int} {Q : VK} (R : Rel K T A M H) (r : Rep K A H x v)
    (h : OutR (opSl mk x lo hi M) (Fin K T A H Q) (fun _ _ _ _ => False)) : rSlAny K v lo hi H Q := by
  have lists : ∀ {x : D}, Rep K A H x v → OutR (match asL M x with | some l => mk (cutD l lo hi) M | none => .no) (Fin K T A H Q) (fun _ _ _ _ => False) → rSlAny K v lo hi H Q := fun {x} r h => by
    cases e : asL M x with
    | none => rw [e] at h; exact h.elim
    | some l =>
      rw [e] at h
      obtain ⟨a, vs, h1, h2, t⟩ := asL_rep R r e
      exact .inr (.inr ⟨a, vs, h1, h2, fun q hq => hm.run K T A M H _ _ q Q R hq (cutD_rep t lo hi) h⟩)
  unfold opSl at h
  split at h
  · rename_i l
    obtain ⟨a, vs, e1, h1, t⟩ := rep_tup r
    refine .inl ⟨a, vs, e1, h1, fun hw => ?_, fun hw => new_tup R (cutD_rep t lo hi) h⟩
    rw [← t.length] at hw
    have h' : Fin K T A H Q (D.tup (cutD l lo hi)) M := h
    rw [whole_cut l lo hi hw] at h'
    exact h' _ H A (.refl R) (e1 ▸ r)
  · obtain ⟨hz, h⟩ := ifO h
    exact .inr (.inl ⟨_, rep_str r, hz, h _ H A (.refl R) (.str _)⟩)
  · exact lists r h
def eSl (mk : Mk) (f : EvE) (lo hi : EvO) : EvE := fun env M => (f env M).bind fun x M1 => (lo env M1).bind fun l M2 => (hi env M2).bind fun u M3 => opSl mk x l u M3
theorem seqO {K : PySem.W.Frag} {p : Pm} {A : Ads} {M : List MO} {H : Hp} {env : Env} {σ : L2.St} {β : Type} {f : EvO} {k : Option Int → List MO → Out β} {okP : β → List MO → Prop} {exP : Nat → D → Env → List MO → Prop} {Q : Option Int → Hp → Prop} (R : Rel K p.T A M H) (S : RepS K A H env σ) (hx : ∀ c d e M', exP c d e M' → Exc K p A H c d e M')
    (h : OutR ((f env M).bind k) okP exP) (hk : ∀ b M1 H1 A1, Stp K p.T A H A1 M1 H1 → OutR (k b M1) okP exP → Q b H1) : tO K p f σ H Q :=
  ⟨A, M, env, R, S, h.of_bind.imp (fun b M1 _ q H1 A1 s => hk b M1 H1 A1 s q) fun c d e M' _ q => hx c d e M' q⟩
theorem se_sl (mk : Mk) (hm : MkOk mk) {lo hi : Option Expr} {l u : EvO} (ha : SE X p a f) (hl : SO X p lo l) (hu : SO X p hi u) : SE X p (.Subscript a (.Slice lo hi none p2) pos) (eSl mk f l u) :=
  pe_imp (pe_slice sl_any ha hl hu) fun σ H Q ⟨A, M, env, R, S, q⟩ => seqE R S (fun _ _ _ _ z => z) q fun x M1 v H1 A1 s1 r1 q1 =>
    seqO s1.rel (S.stp R s1) (fun _ _ _ _ z => Exc.stp s1 z) q1 fun lo M2 H2 A2 s2 q2 =>
      seqO s2.rel ((S.stp R s1).stp s1.rel s2) (fun _ _ _ _ z => Exc.stp (s1.trans s2) z) q2 fun hi M3 H3 A3 s3 q3 =>
        opSl_ok hm s3.rel ((r1.stp s1.rel s2).stp s2.rel s3) ((noex (opSl_calm hm x lo hi M3) q3).imp (fun d M' _ z => Fin.stp (p := p) (s1.trans (s2.trans s3)) z) fun _ _ _ _ _ z => z)
/-! ### argument lists, displays -/
def esNil : EvEs := fun _ M => .ok [] M
def esCons (f : EvE) (g : EvEs) : EvEs := fun env M => (f env M).bind fun d M1 => (g env M1).bind fun ds M2 => .ok (d :: ds) M2
variable {es : List Expr} {fs : EvEs}
theorem sa_nil : SA X p [] esNil := pa_imp pa_nil fun σ H Q ⟨A, M, env, R, S, q⟩ => q [] H A (.refl R) .nil
theorem sa_cons (ha : SE X p e f) (hr : SA X p es fs) (hs : starEach (e :: es) X.env = (false, eval e X.env) :: starEach es X.env := by rfl) : SA X p (e :: es) (esCons f fs) :=
  pa_imp (pa_cons ha hr hs) fun σ H Q ⟨A, M, env, R, S, q⟩ => seqE R S (fun _ _ _ _ z => z) q fun d M1 v H1 A1 s1 r1 q1 =>
    seqEs s1.rel (S.stp R s1) (fun _ _ _ _ z => Exc.stp s1 z) q1 fun ds M2 vs H2 A2 s2 r2 q2 => q2 _ H2 A2 (s1.trans s2) (.cons (r1.stp s1.rel s2) r2)
noncomputable def eTup (fs : EvEs) : EvE := fun env M => (fs env M).bind fun ds M1 => if ds.length ≤ sizeLine then .ok (.tup ds) M1 else .no
theorem se_tup {k : Nat} (h : SA X p es fs) : SE X p (.Tuple es k pos) (eTup fs) := pe_imp (pe_tupZ h) fun σ H Q ⟨A, M, env, R, S, q⟩ => seqEs R S (fun _ _ _ _ z => z) q fun ds M1 vs H1 A1 s1 r1 q1 => by
  obtain ⟨hz, q1⟩ := ifO q1
  exact ⟨by rw [← r1.length]; exact hz, new_tup s1.rel r1 (Fin.stp s1 q1)⟩
noncomputable def eLst (mk : Mk) (fs : EvEs) : EvE := fun env M => (fs env M).bind fun ds M1 => if ds.length ≤ sizeLine then mk ds M1 else .no
theorem se_lst (mk : Mk) (hm : MkOk mk) (h : SA X p es fs) : SE X p (.List es pos) (eLst mk fs) := pe_imp (pe_lst h) fun σ H Q ⟨A, M, env, R, S, q⟩ => seqEs R S (fun _ _ _ _ z => z) q fun ds M1 vs H1 A1 s1 r1 q1 => by
  obtain ⟨hz, q1⟩ := ifO q1
  refine ⟨by rw [← r1.length]; exact hz, fun q hq => hm.run _ _ _ _ _ _ _ _ _ s1.rel hq r1 ?_⟩
  exact (noex (hm.calm ds M1) q1).imp (fun d M' _ z => Fin.stp s1 z) fun _ _ _ _ _ z => z
end
/-! ### built-ins, by values -/
def eB (op : List D → List MO → Out D) (fs : EvEs) : EvE := fun env M => (fs env M).bind op
def OkC (K : PySem.W.Frag) (r : List V → Hp → VK → Prop) (op : List D → List MO → Out D) : Prop := ∀ (T : List Addr) (A : Ads) (M : List MO) (H : Hp) (xs : List D) (vs : List V) (Q : VK), Rel K T A M H → Reps K A H xs vs →
  OutR (op xs M) (Fin K T A H Q) (fun _ _ _ _ => False) → r vs H Q
def CalmC (op : List D → List MO → Out D) : Prop := ∀ xs M c d e M', op xs M ≠ .ex c d e M'
theorem se_b {X : Cx} {p : Pm} {e : Expr} {es : List Expr} {fs : EvEs} {r : List V → Hp → VK → Prop} {op : List D → List MO → Out D} (pe : ∀ t, PA X es t → PE X e (tCB r t)) (ok : OkC X.K r op) (hc : CalmC op) (h : SA X p es fs) : SE X p e (eB op fs) :=
  pe_imp (pe _ h) fun σ H Q ⟨A, M, env, R, S, q⟩ => seqEs R S (fun _ _ _ _ z => z) q fun ds M1 vs H1 A1 s1 r1 q1 =>
    ok p.T A1 M1 H1 ds vs Q s1.rel r1 ((noex (hc ds M1) q1).imp (fun d M' _ z => Fin.stp (p := p) s1 z) fun _ _ _ _ _ z => z)
theorem reps1 {K A H} {x : D} {vs : List V} (r : Reps K A H [x] vs) : ∃ v, vs = [v] ∧ Rep K A H x v := by
  cases r with
  | cons r t => cases t; exact ⟨_, rfl, r⟩
theorem reps2 {K A H} {x y : D} {vs : List V} (r : Reps K A H [x, y] vs) : ∃ v w, vs = [v, w] ∧ Rep K A H x v ∧ Rep K A H y w := by
  cases r with
  | cons r t =>
    obtain ⟨w, e, r2⟩ := reps1 t
    subst e
    exact ⟨_, w, rfl, r, r2⟩
/-- len -/
def opLen : List D → List MO → Out D
  | [.str z], M => if z.length ≤ sizeLine then .ok (.int z.length) M else .no
  | [x], M => match asSeq M x with
    | some l => .ok (.int l.length) M
    | none => .no
  | _, _ => .no
theorem opLen_calm : CalmC opLen := by
  intro xs M c d e M'
  unfold opLen
  split
  · exact calm_of calm_ok _ _ _ _
  · split
    · exact calm_ok _ _ _ _
    · intro q; cases q
  · intro q; cases q
def rLenAny (K : PySem.W.Frag) : List V → Hp → VK → Prop := fun xs H Q => (∃ p ys, xs = [.ref p] ∧ (SqL K H p ys ∨ SqT K H p ys) ∧ Q (.int ys.length) H) ∨ ∃ z, xs = [.str z] ∧ z.length ≤ sizeLine ∧ Q (.int z.length) H
theorem opLen_ok {K : PySem.W.Frag} : OkC K (rLenAny K) opLen := by
  intro T A M H xs vs Q R r h
  unfold opLen at h
  split at h
  · obtain ⟨hz, h⟩ := ifO h
    obtain ⟨v, e, r'⟩ := reps1 r
    subst e
    rw [rep_str r']
    exact .inr ⟨_, rfl, hz, h _ H A (.refl R) (.int _)⟩
  · rename_i x _
    obtain ⟨v, e, r'⟩ := reps1 r
    subst e
    cases e1 : asSeq M x with
    | none => rw [e1] at h; exact h.elim
    | some l =>
      rw [e1] at h
      obtain ⟨a, ws, h1, h2, t⟩ := asSeq_rep R r' e1
      subst h1
      exact .inl ⟨a, ws, rfl, h2, by rw [← t.length]; exact h _ H A (.refl R) (.int _)⟩
  · exact h.elim
section
variable {X : Cx} {p : Pm} {e : Expr} {es : List Expr} {fs : EvEs} {pn pos : Pos}
theorem se_len (hg : Gl X "len") (hm : X.mg "len" = none) (h : SA X p (e :: es) fs) (he : starEach (e :: es) X.env = (false, eval e X.env) :: starEach es X.env := by rfl) (hpl : (backTo pos (starEach es X.env)).any (·.1) = false := by rfl) :
    SE X p (.Call (.Name "len" pn) (e :: es) [] pos) (eB opLen fs) :=
  se_b (fun t ht => pe_callB (CallR.or call_len_seq call_len_str) hg hm PySem.boot_len ht (he := he) (hpl := hpl)) opLen_ok opLen_calm h
end
end SX
end
section
set_option Elab.async false
set_option linter.all false
set_option maxRecDepth 100000
open Classical
/-! SXe: calls of the text's own defs; targets, statements; a def's promise by its body. -/
namespace SX
open PySem PySem.Spec PyProof.Rows L2
/-! ### a def's promise -/
abbrev Fn := List D → List MO → Out D
def spF (K : PySem.W.Frag) (T : List Addr) (cl : Nat → Addr) (n : Nat) (F : Fn) : Sp := fun vs H Q E => ∃ A M ds, Rel K T A M H ∧ Reps K A H ds vs ∧ ds.length = n ∧
  OutR (F ds M) (Fin K T A H Q) (fun c d _ M' => ∀ v H' A' dx, Stp K T A H A' M' H' → Rep K A' H' d v → H' dx = some (.xd [(("value" : Str), v)]) → E (.ref (cl c)) (some dx) H')
abbrev FOk (P : Program) (w : World) (K : PySem.W.Frag) (mg : Str → Option Value) (base : Heap) (T : List Addr) (cl : Nat → Addr) (k : Nat) (f : Addr) (fd : FuncData) (ps : List Str) (F : Fn) : Prop :=
  FnOk P w K mg base (L2.CX P w) k f fd ps (spF K T cl ps.length F)
/-- what a call gives its caller -/
def eCall (F : Fn) (fs : EvEs) : EvE := fun env M => (fs env M).bind fun ds M1 => match F ds M1 with
  | .ok d M2 => .ok d M2
  | .ex c d _ M2 => .ex c d env M2
  | .no => .no
section
variable {X : Cx} {p : Pm} {f : Addr} {fd : FuncData} {ps : List Str} {F : Fn} {k : Nat} {x : Str} {e : Expr} {es : List Expr} {fs gs : EvEs} {pn pos : Pos}
theorem call_tE {t : TA} {n : Nat} (hl : ∀ env M ds M1, fs env M = .ok ds M1 → ds.length = n) {σ : L2.St} {H : Hp} {Q : VK} (h : tE X.K p (eCall F fs) σ H Q)
    (go : ∀ R : List V → Hp → Prop, tEs X.K p fs σ H R → t σ H R) : t σ H fun vs H1 => spF X.K p.T p.cl n F vs H1 Q (WE p.W σ) := by
  obtain ⟨A, M, env, R, S, q⟩ := h
  refine go _ ⟨A, M, env, R, S, ?_⟩
  refine q.of_bind.imp (fun ds M1 e1 q1 vs H1 A1 s1 r1 => ?_) fun _ _ _ _ _ z => z
  refine ⟨A1, M1, ds, s1.rel, r1, hl _ _ _ _ e1, ?_⟩
  cases hF : F ds M1 with
  | ok d M2 =>
    rw [hF] at q1
    exact Fin.stp s1 q1
  | ex c d e' M2 =>
    rw [hF] at q1
    intro v H' A' dx s2 r2 hd
    have q1' : Exc X.K p A H c d env M2 := q1
    exact q1' v σ H' A' dx (s1.trans s2) ((S.stp R s1).stp s1.rel s2) r2 hd
  | no => rw [hF] at q1; exact q1.elim
/-- how many values an argument list gives -/
def Cnt (fs : EvEs) (n : Nat) : Prop := ∀ env M ds M1, fs env M = .ok ds M1 → ds.length = n
theorem cnt_nil : Cnt esNil 0 := fun _ _ _ _ h => by cases h; rfl
theorem cnt_cons {g : EvE} {n : Nat} (h : Cnt fs n) : Cnt (esCons g fs) (n + 1) := fun env M ds M1 e => by
  unfold esCons at e
  cases h1 : g env M with
  | ok d M2 =>
    rw [h1] at e
    have e' : ((fs env M2).bind fun ds M2 => Out.ok (d :: ds) M2) = .ok ds M1 := e
    cases h2 : fs env M2 with
    | ok ds' M3 =>
      rw [h2] at e'
      cases e'
      rw [List.length_cons, h _ _ _ _ h2]
    | ex => rw [h2] at e'; cases e'
    | no => rw [h2] at e'; cases e'
  | ex => rw [h1] at e; cases e
  | no => rw [h1] at e; cases e
theorem se_call (Fk : FOk X.prog X.w X.K X.mg X.base p.T p.cl k f fd ps F) (hr : Room k X.A) (hg : Gl X x) (hm : X.mg x = some (.ref f)) (hk : PySem.W.keepIn X.K (.ref f) = true) (hb : Binds X.K fd ps []) (tk : Takes X p.W)
    (ha : SA X p (e :: es) fs) (hn : Cnt fs ps.length) (hdb : (x == ("__debug__" : Str)) = false := by decide) (he : starEach (e :: es) X.env = (false, eval e X.env) :: starEach es X.env := by rfl) (hpl : (backTo pos (starEach es X.env)).any (·.1) = false := by rfl) :
    SE X p (.Call (.Name x pn) (e :: es) [] pos) (eCall F fs) :=
  ⟨fun pins s σ H Q I q => (pe_callS Fk hr hg hm hk hb (fun σ => passAt tk σ) (pa_imp (t' := tEs X.K p fs) ha fun _ _ _ z => z) hdb he hpl).run pins s σ H Q I
    (call_tE (t := tEs X.K p fs) hn q fun _ z => z)⟩
/-! ### calls with keywords -/
abbrev SK (X : Cx) (p : Pm) (kws : List Keyword) (f : EvEs) : Prop := PK X kws (tEs X.K p f)
theorem pk_imp {kws : List Keyword} {t t' : TA} (h : PK X kws t) (hi : ∀ σ H Q, t' σ H Q → t σ H Q) : PK X kws t' := ⟨fun pos pins s σ H Q I q => h.run pos pins s σ H Q I (hi σ H Q q)⟩
theorem sk_nil : SK X p [] esNil := pk_imp pk_nil fun σ H Q ⟨A, M, env, R, S, q⟩ => q [] H A (.refl R) .nil
theorem sk_cons {nm : Option Str} {kpos : Pos} {kws : List Keyword} {g : EvE} (ha : SE X p e g) (hr : SK X p kws fs) : SK X p (⟨nm, e, kpos⟩ :: kws) (esCons g fs) :=
  pk_imp (pk_cons ha hr) fun σ H Q ⟨A, M, env, R, S, q⟩ => seqE R S (fun _ _ _ _ z => z) q fun d M1 v H1 A1 s1 r1 q1 =>
    seqEs s1.rel (S.stp R s1) (fun _ _ _ _ z => Exc.stp s1 z) q1 fun ds M2 vs H2 A2 s2 r2 q2 => q2 _ H2 A2 (s1.trans s2) (.cons (r1.stp s1.rel s2) r2)
/-- the values of a call in the order of the parameters: gD says it of data -/
structure KB (K : PySem.W.Frag) (fd : FuncData) (ps ks : List Str) (g : List Value → List Value → List Value) (gV : List V → List V → List V) (gD : List D → List D → List D) : Prop where
  b : KBinds K fd ps ks g gV
  rep : ∀ {A : Ads} {H : Hp} {ds es : List D} {vs zs : List V}, Reps K A H ds vs → Reps K A H es zs → Reps K A H (gD ds es) (gV vs zs)
def eCallK (F : Fn) (gD : List D → List D → List D) (n : Nat) (fs gs : EvEs) : EvE := fun env M => (fs env M).bind fun ds M1 => (gs env M1).bind fun es M2 => if (gD ds es).length = n then (match F (gD ds es) M2 with
  | .ok d M3 => .ok d M3
  | .ex c d _ M3 => .ex c d env M3
  | .no => .no) else .no
theorem run_fnkS {pins : List (Addr × Obj)} {σ : L2.St} {H : Hp} {s : Shared} {Q : VK} {us ws : List Value} {vs zs : List V} {ks : List Str} {g : List Value → List Value → List Value} {gV : List V → List V → List V} {sp : Sp} {CX : CXT} {E : XK} (F : FnOk X.prog X.w X.K X.mg X.base CX k f fd ps sp) (hr : Room k X.A) (hb : KBinds X.K fd ps ks g gV) (hx : PassesAt CX X σ E)
    (I : Inv X pins σ H s) (r : Vals vs us) (rz : Vals zs ws) (h : sp (gV vs zs) H Q E) : wpAny (model X.prog X.w) X.A (call (.ref f) us (ks.zip ws)) (EP X pins σ Q) X.xe s := by
  have r2 := hb.rel r rz
  have hl : (g us ws).length = ps.length := by rw [← r2.length]; exact F.len _ _ _ _ h
  refine wpAny_call (codeAny_mono (F.run X.A X.stack s H ⟨us, ks.zip ws⟩ (g us ws) (gV vs zs) Q E hr I.env0 (hb.to s us ws I.kIn hl) r2 h) fun r s' hq => ?_)
  cases r with
  | error e => exact hx pins H s e s' I hq
  | ok fl =>
    cases fl with
    | ret u => exact I.after hq
    | next => exact False.elim hq
    | brk => exact False.elim hq
    | cont => exact False.elim hq
theorem kcall_out {σ : L2.St} {H : Hp} {A : Ads} {M : List MO} {env : Env} {gD : List D → List D → List D} {Q : VK} {ds es : List D} {vs zs : List V} {gV : List V → List V → List V} (n : Nat) {A0 : Ads} {H0 : Hp} (s0 : Stp X.K p.T A0 H0 A M H) (S : RepS X.K A H env σ)
    (r : Reps X.K A H (gD ds es) (gV vs zs)) (q : OutR (if (gD ds es).length = n then (match F (gD ds es) M with | .ok d M3 => .ok d M3 | .ex c d _ M3 => .ex c d env M3 | .no => .no) else .no) (Fin X.K p.T A0 H0 Q) (Exc X.K p A0 H0)) :
    spF X.K p.T p.cl n F (gV vs zs) H Q (WE p.W σ) := by
  obtain ⟨hn, q⟩ := ifO q
  refine ⟨A, M, gD ds es, s0.rel, r, hn, ?_⟩
  cases hF : F (gD ds es) M with
  | ok d M2 => rw [hF] at q; exact Fin.stp s0 q
  | ex c d e' M2 =>
    rw [hF] at q
    intro v H' A' dx s2 r2 hd
    have q1' : Exc X.K p A0 H0 c d env M2 := q
    exact q1' v σ H' A' dx (s0.trans s2) (S.stp s0.rel s2) r2 hd
  | no => rw [hF] at q; exact q.elim
/-- f(e, .., k = v, ..) -/
theorem se_callK {kws : List Keyword} {ks : List Str} {g : List Value → List Value → List Value} {gV : List V → List V → List V} {gD : List D → List D → List D} (Fk : FOk X.prog X.w X.K X.mg X.base p.T p.cl k f fd ps F) (hr : Room k X.A) (hg : Gl X x) (hm : X.mg x = some (.ref f)) (hk : PySem.W.keepIn X.K (.ref f) = true) (hb : KB X.K fd ps ks g gV gD) (tk : Takes X p.W)
    (ha : SA X p (e :: es) fs) (hkw : SK X p kws gs) (hall : (backToKw pos (keywordEach kws X.env)).all (·.1.isSome) = true := by rfl) (hks : (backToKw pos (keywordEach kws X.env)).filterMap (·.1) = ks := by rfl)
    (hdb : (x == ("__debug__" : Str)) = false := by decide) (he : starEach (e :: es) X.env = (false, eval e X.env) :: starEach es X.env := by rfl)
    (hpl : ((backTo pos (starEach (e :: es) X.env)).any (·.1) || (backToKw pos (keywordEach kws X.env)).any (·.1.isNone)) = false := by rfl) :
    SE X p (.Call (.Name x pn) (e :: es) kws pos) (eCallK F gD ps.length fs gs) := by
  refine ⟨fun pins s σ H Q I h => ?_⟩
  obtain ⟨A, M, env, R, S, q⟩ := h
  have h1 : tEs X.K p fs σ H fun vs H1 => tEs X.K p gs σ H1 fun zs H2 => spF X.K p.T p.cl ps.length F (gV vs zs) H2 Q (WE p.W σ) :=
    seqEs R S (fun _ _ _ _ z => z) q fun ds M1 vs H1 A1 s1 r1 q1 => seqEs s1.rel (S.stp R s1) (fun _ _ _ _ z => Exc.stp s1 z) q1 fun es' M2 zs H2 A2 s2 r2 q2 =>
      kcall_out (gV := gV) ps.length (s1.trans s2) ((S.stp R s1).stp s1.rel s2) (hb.rep (r1.stp s1.rel s2) r2) q2
  refine wpAny_Call_Name_kw (ld_glob I hg hm ?_ hdb)
  refine PySem.W.callWith_KW (h₀ := X.base) I.ok.mod.kin hk hall (thn (ha.run pos pins s σ H _ I h1) fun us s1 ⟨vs, H1, I1, r, q⟩ => ?_) hpl he
  refine thn (hkw.run pos pins s1 σ H1 _ I1 q) fun ws s2 ⟨zs, H2, I2, rz, q2⟩ => ⟨I2.kIn, ?_⟩
  rw [hks]
  exact run_fnkS Fk hr hb.b (passAt tk σ) I2 r rz q2
end
/-! ### targets -/
abbrev EvG := D → Env → List MO → Out Env
abbrev EvGs := List D → Env → List MO → Out Env
def tG (K : PySem.W.Frag) (p : Pm) (f : EvG) : TG := fun v σ H Q => ∃ A M env d, Rel K p.T A M H ∧ RepS K A H env σ ∧ Rep K A H d v ∧
  OutR (f d env M) (fun e' M' => ∀ σ' H' A', Stp K p.T A H A' M' H' → RepS K A' H' e' σ' → Q σ' H') (Exc K p A H)
def tGs (K : PySem.W.Frag) (p : Pm) (f : EvGs) : TGs := fun vs σ H Q => ∃ A M env ds, Rel K p.T A M H ∧ RepS K A H env σ ∧ Reps K A H ds vs ∧
  OutR (f ds env M) (fun e' M' => ∀ σ' H' A', Stp K p.T A H A' M' H' → RepS K A' H' e' σ' → Q σ' H') (Exc K p A H)
abbrev SG (X : Cx) (p : Pm) (e : Expr) (f : EvG) : Prop := PG X e (tG X.K p f)
abbrev SGs (X : Cx) (p : Pm) (es : List Expr) (f : EvGs) : Prop := PGs X es (tGs X.K p f)
theorem pg_imp {X : Cx} {e : Expr} {t t' : TG} (h : PG X e t) (hi : ∀ v σ H Q, t' v σ H Q → t v σ H Q) : PG X e t' := ⟨fun pins s σ H v u Q I r q => h.run pins s σ H v u Q I r (hi v σ H Q q)⟩
theorem pgs_imp {X : Cx} {es : List Expr} {t t' : TGs} (h : PGs X es t) (hi : ∀ v σ H Q, t' v σ H Q → t v σ H Q) : PGs X es t' := ⟨fun pins s σ H v u Q I r q => h.run pins s σ H v u Q I r (hi v σ H Q q)⟩
section
variable {X : Cx} {p : Pm} {e a b : Expr} {es : List Expr} {f g : EvE} {fs : EvEs} {pos : Pos}
def gtName (i : Nat) : EvG := fun d env M => .ok (env.set i (some d)) M
theorem sg_name {i : Nat} (h : PG X e (gName i)) : SG X p e (gtName i) := pg_imp h fun v σ H Q ⟨A, M, env, d, R, S, r, q⟩ => q _ H A (.refl R) (S.set r)
def gtsNil : EvGs := fun ds env M => match ds with
  | [] => .ok env M
  | _ => .no
def gtsCons (f : EvG) (g : EvGs) : EvGs := fun ds env M => match ds with
  | d :: r => (f d env M).bind fun e1 M1 => g r e1 M1
  | [] => .no
theorem sgs_nil : SGs X p [] gtsNil := pgs_imp pgs_nil fun vs σ H Q ⟨A, M, env, ds, R, S, r, q⟩ => by
  cases r with
  | nil => exact ⟨rfl, q σ H A (.refl R) S⟩
  | cons _ _ => exact q.elim
theorem sgs_cons {t : EvG} {u : EvGs} (h1 : SG X p e t) (h2 : SGs X p es u) (hs : (assignEach (e :: es) X.env).map (·.2) = assign e X.env :: (assignEach es X.env).map (·.2) := by rfl) : SGs X p (e :: es) (gtsCons t u) :=
  pgs_imp (pgs_cons h1 h2 hs) fun vs σ H Q ⟨A, M, env, ds, R, S, r, q⟩ => by
    cases r with
    | nil => exact q.elim
    | cons r t' =>
      refine ⟨_, _, rfl, A, M, env, _, R, S, r, ?_⟩
      exact (OutR.of_bind q).imp (fun e1 M1 _ q1 σ1 H1 A1 s1 S1 => ⟨A1, M1, e1, _, s1.rel, S1, t'.stp R s1, q1.imp (fun e2 M2 _ z σ2 H2 A2 s2 => z σ2 H2 A2 (s1.trans s2)) fun _ _ _ _ _ z => Exc.stp s1 z⟩) fun _ _ _ _ _ z => z
/-- (a, b, ..) -/
def gtTup (n : Nat) (g : EvGs) : EvG := fun d env M => match d with
  | .tup l => if l.length = n then g l env M else .no
  | .pr l => if l.length = n then g l env M else .no
  | _ => .no
theorem sg_tup {k n : Nat} {u : EvGs} (hc : X.calm = true) (h : SGs X p es u) (hn : (assignEach es X.env).length = n := by rfl) (hst : (assignEach es X.env).findIdx? (·.1) = none := by rfl) : SG X p (.Tuple es k pos) (gtTup n u) :=
  pg_imp (pg_tup hc h hn hst) fun v σ H Q ⟨A, M, env, d, R, S, r, q⟩ => by
    cases d with
    | tup l =>
      have q' : OutR (if l.length = n then u l env M else .no) _ _ := q
      obtain ⟨hl, q'⟩ := ifO q'
      obtain ⟨a, vs, e1, h1, t⟩ := rep_tup r
      exact ⟨a, vs, e1, h1, by rw [← t.length]; exact hl, A, M, env, l, R, S, t, q'⟩
    | pr l =>
      have q' : OutR (if l.length = n then u l env M else .no) _ _ := q
      obtain ⟨hl, q'⟩ := ifO q'
      obtain ⟨a, vs, e1, h1, t⟩ := rep_pr r
      exact ⟨a, vs, e1, h1, by rw [← t.length]; exact hl, A, M, env, l, R, S, t, q'⟩
    | _ => exact q.elim
/-- o[i] of a list -/
def opSetL (o i d : D) (M : List MO) : Out Unit := match o, i with
  | .ref n, .int k => match M[n]? with
    | some (.lst l) => match ixN l.length k with
      | some j => .ok () (M.set n (.lst (l.set j d)))
      | none => .no
    | _ => .no
  | _, _ => .no
def gtSub (f g : EvE) : EvG := fun d env M => (f env M).bind fun o M1 => (g env M1).bind fun i M2 => (opSetL o i d M2).bind fun _ M3 => .ok env M3
theorem sg_sub (ha : SE X p a f) (hb : SE X p b g)
    (hh : ∀ v, assign (.Subscript a b pos) X.env v = (do
      let ov ← holding [v] (eval a X.env)
      let iv ← holding [v, ov] (eval b X.env)
      standAt pos
      holding [v, ov, iv] (setItem ov iv v)
      release [v, ov, iv] []) := by intro _; rfl) : SG X p (.Subscript a b pos) (gtSub f g) :=
  pg_imp (pg_sub ha hb set_list hh) fun v σ H Q ⟨A, M, env, d, R, S, r, q⟩ => seqE R S (fun _ _ _ _ z => z) q fun o M1 ov H1 A1 s1 r1 q1 =>
    seqE s1.rel (S.stp R s1) (fun _ _ _ _ z => Exc.stp s1 z) q1 fun i M2 iv H2 A2 s2 r2 q2 => by
      have S2 := (S.stp R s1).stp s1.rel s2
      have rd := (r.stp R s1).stp s1.rel s2
      cases o with
      | ref n =>
        cases i with
        | int k =>
          have q3 : OutR ((match M2[n]? with | some (.lst l) => (match ixN l.length k with | some j => Out.ok () (M2.set n (.lst (l.set j d))) | none => .no) | _ => .no).bind fun _ M3 => Out.ok env M3) _ _ := q2
          cases hm : M2[n]? with
          | none => rw [hm] at q3; exact q3.elim
          | some ob =>
            rw [hm] at q3
            cases ob with
            | lst l =>
              dsimp only at q3
              cases hj : ixN l.length k with
              | none => rw [hj] at q3; exact q3.elim
              | some j =>
                rw [hj] at q3
                obtain ⟨a', e1, ha', vs, h2, t⟩ := s2.rel.ref (r1.stp s1.rel s2) hm (fun z => by cases z)
                refine ⟨a', vs, k, j, e1, rep_int r2, h2, by rw [← t.length]; exact hj, ?_⟩
                have s3 : Stp X.K p.T A2 H2 A2 (M2.set n (.lst (l.set j d))) (upd H2 a' (.lst (vs.set j v))) := Stp.setO s2.rel ha' fun m => ⟨_, upd_same, Reps.set (rd.mv s2.rel m) j (t.mv s2.rel m)⟩
                exact q3 σ _ A2 ((s1.trans s2).trans s3) (S2.stp s2.rel s3)
            | _ => exact q3.elim
        | _ => exact q2.elim
      | _ => exact q2.elim
end
/-! ### statements -/
inductive Fl where
  | nx (e : Env) | rt (d : D) | bk (e : Env) | ct (e : Env)
abbrev EvS := Env → List MO → Out Fl
def FlR (K : PySem.W.Frag) (p : Pm) (A : Ads) (H : Hp) (D : Ends) (fl : Fl) (M' : List MO) : Prop := match fl with
  | .nx e' => ∀ σ' H' A', Stp K p.T A H A' M' H' → RepS K A' H' e' σ' → D.nx σ' H'
  | .rt d => Fin K p.T A H D.rt d M'
  | .bk e' => ∀ σ' H' A', Stp K p.T A H A' M' H' → RepS K A' H' e' σ' → D.bk σ' H'
  | .ct e' => ∀ σ' H' A', Stp K p.T A H A' M' H' → RepS K A' H' e' σ' → D.ct σ' H'
def tS (K : PySem.W.Frag) (p : Pm) (f : EvS) : TS := fun D σ H => ∃ A M env, Rel K p.T A M H ∧ RepS K A H env σ ∧ OutR (f env M) (FlR K p A H D) (Exc K p A H)
abbrev SS (X : Cx) (p : Pm) (st : Stmt) (f : EvS) : Prop := PS X st (tS X.K p f)
abbrev SSs (X : Cx) (p : Pm) (st : List Stmt) (f : EvS) : Prop := PSs X st (tS X.K p f)
theorem ps_imp {X : Cx} {st : Stmt} {t t' : TS} (h : PS X st t) (hi : ∀ D σ H, t' D σ H → t D σ H) : PS X st t' := ⟨fun pins s σ H D I q => h.run pins s σ H D I (hi D σ H q)⟩
theorem pss_imp {X : Cx} {st : List Stmt} {t t' : TS} (h : PSs X st t) (hi : ∀ D σ H, t' D σ H → t D σ H) : PSs X st t' := ⟨fun pins s σ H D I q => h.run pins s σ H D I (hi D σ H q)⟩
theorem FlR.stp {K : PySem.W.Frag} {p : Pm} {A A1 : Ads} {H H1 : Hp} {M1 M' : List MO} {D : Ends} {fl : Fl} (s : Stp K p.T A H A1 M1 H1) (h : FlR K p A H D fl M') : FlR K p A1 H1 D fl M' := by
  cases fl with
  | rt d => exact Fin.stp s h
  | nx e' => exact fun σ' H' A' s' => h σ' H' A' (s.trans s')
  | bk e' => exact fun σ' H' A' s' => h σ' H' A' (s.trans s')
  | ct e' => exact fun σ' H' A' s' => h σ' H' A' (s.trans s')
/-- what follows where a statement ends as usual -/
def Fl.next (fl : Fl) (M : List MO) (k : Env → List MO → Out Fl) : Out Fl := match fl with
  | .nx e => k e M
  | fl => .ok fl M
section
variable {X : Cx} {p : Pm} {e a b c : Expr} {es : List Expr} {f g : EvE} {fs : EvEs} {st : Stmt} {rest : List Stmt} {t u : EvS} {ta : EvT} {pos : Pos}
def sNil : EvS := fun env M => .ok (.nx env) M
def sCons (t u : EvS) : EvS := fun env M => (t env M).bind fun fl M1 => fl.next M1 u
theorem ss_nil : SSs X p [] sNil := pss_imp pss_nil fun D σ H ⟨A, M, env, R, S, q⟩ => q σ H A (.refl R) S
theorem ss_cons (h1 : SS X p st t) (h2 : SSs X p rest u) : SSs X p (st :: rest) (sCons t u) := pss_imp (pss_cons h1 h2) fun D σ H ⟨A, M, env, R, S, q⟩ =>
  ⟨A, M, env, R, S, (OutR.of_bind q).imp (fun fl M1 _ q1 => by
    cases fl with
    | nx e1 => exact fun σ1 H1 A1 s1 S1 => ⟨A1, M1, e1, s1.rel, S1, OutR.imp q1 (fun fl M' _ z => FlR.stp s1 z) fun _ _ _ _ _ z => Exc.stp s1 z⟩
    | rt d => exact q1
    | bk e' => exact q1
    | ct e' => exact q1) fun _ _ _ _ _ z => z⟩
theorem ss_one (h1 : SS X p st t) : SSs X p [st] t := pss_one h1
def sPass : EvS := fun env M => .ok (.nx env) M
theorem ss_pass : SS X p (.Pass pos) sPass := ps_imp ps_pass fun D σ H ⟨A, M, env, R, S, q⟩ => q σ H A (.refl R) S
theorem ss_break : SS X p (.Break pos) (fun env M => .ok (.bk env) M) := ps_imp ps_break fun D σ H ⟨A, M, env, R, S, q⟩ => q σ H A (.refl R) S
theorem ss_continue : SS X p (.Continue pos) (fun env M => .ok (.ct env) M) := ps_imp ps_continue fun D σ H ⟨A, M, env, R, S, q⟩ => q σ H A (.refl R) S
def sNo : EvS := fun _ _ => .no
theorem ss_no : SS X p st sNo := ⟨fun _ _ _ _ _ _ ⟨_, _, _, _, _, q⟩ => q.elim⟩
theorem sss_no : SSs X p rest sNo := ⟨fun _ _ _ _ _ _ ⟨_, _, _, _, _, q⟩ => q.elim⟩
def sRet (f : EvE) : EvS := fun env M => (f env M).bind fun d M1 => .ok (.rt d) M1
theorem ss_ret (ha : SE X p a f) : SS X p (.Return (some a) pos) (sRet f) := ps_imp (ps_ret ha) fun D σ H ⟨A, M, env, R, S, q⟩ => seqE R S (fun _ _ _ _ z => z) q fun d M1 v H1 A1 s1 r1 q1 => q1 v H1 A1 s1 r1
def sRetN : EvS := fun _ M => .ok (.rt .non) M
theorem ss_retN : SS X p (.Return none pos) sRetN := ps_imp ps_retN fun D σ H ⟨A, M, env, R, S, q⟩ => q _ H A (.refl R) .non
def sExp (f : EvE) : EvS := fun env M => (f env M).bind fun _ M1 => .ok (.nx env) M1
theorem ss_expr (ha : SE X p a f) (hs : swapsWith a none pos.line X.env = pure false := by rfl) : SS X p (.Expr a pos) (sExp f) := ps_imp (ps_expr ha hs) fun D σ H ⟨A, M, env, R, S, q⟩ => seqE R S (fun _ _ _ _ z => z) q fun d M1 v H1 A1 s1 r1 q1 => q1 σ H1 A1 s1 (S.stp R s1)
def sIf (ta : EvT) (t u : EvS) : EvS := fun env M => (ta env M).bind fun b M1 => if b = true then t env M1 else u env M1
theorem ss_if {x y : List Stmt} (hc : ST X p c ta) (ha : SSs X p x t) (hb : SSs X p y u) : SS X p (.If c x y pos) (sIf ta t u) := ps_imp (ps_if hc ha hb) fun D σ H ⟨A, M, env, R, S, q⟩ => seqT R S (fun _ _ _ _ z => z) q fun k M1 H1 A1 s1 q1 => by
  cases k with
  | true => rw [if_pos rfl] at q1 ⊢; exact ⟨A1, M1, env, s1.rel, S.stp R s1, q1.imp (fun fl M' _ z => FlR.stp s1 z) fun _ _ _ _ _ z => Exc.stp s1 z⟩
  | false => rw [if_neg Bool.false_ne_true] at q1 ⊢; exact ⟨A1, M1, env, s1.rel, S.stp R s1, q1.imp (fun fl M' _ z => FlR.stp s1 z) fun _ _ _ _ _ z => Exc.stp s1 z⟩
def sAsg (f : EvE) (g : EvG) : EvS := fun env M => (f env M).bind fun d M1 => (g d env M1).bind fun e' M2 => .ok (.nx e') M2
theorem asg_tS {te : TE} {tg : TG} {gg : EvG} (h1 : ∀ σ H Q, tE X.K p f σ H Q → te σ H Q) (h2 : ∀ v σ H Q, tG X.K p gg v σ H Q → tg v σ H Q) : ∀ D σ H, tS X.K p (sAsg f gg) D σ H → tAsg te tg D σ H := fun D σ H ⟨A, M, env, R, S, q⟩ =>
  h1 _ _ _ (seqE R S (fun _ _ _ _ z => z) q fun d M1 v H1 A1 s1 r1 q1 => h2 _ _ _ _ ⟨A1, M1, env, d, s1.rel, S.stp R s1, r1, (OutR.of_bind q1).imp (fun e' M2 _ z σ' H' A' s' => z σ' H' A' (s1.trans s')) fun _ _ _ _ _ z => Exc.stp s1 z⟩)
theorem ss_asg {tg : Expr} {gg : EvG} (ha : SE X p a f) (hg : SG X p tg gg) (hs : swapsWithSole [tg] a pos.line X.env = pure false := by rfl) (hw : swappedStores [tg] a X.env = pure none := by rfl)
    (h1 : (assignEach [tg] X.env).map (·.2) = [assign tg X.env] := by rfl) : SS X p (.Assign [tg] a pos) (sAsg f gg) := ps_imp (ps_asg ha hg hs hw h1) (asg_tS (fun _ _ _ z => z) fun _ _ _ _ z => z)
/-- name = e, by a rule of the layer -/
theorem ss_set {i : Nat} (h : ∀ te, PE X a te → PS X st (tAsg te (gName i))) (ha : SE X p a f) : SS X p st (sAsg f (gtName i)) :=
  ps_imp (h _ ha) (asg_tS (fun _ _ _ z => z) fun v σ H Q ⟨A, M, env, d, R, S, r, q⟩ => q _ H A (.refl R) (S.set r))
/-- a, b = x, y -/
def sPar (i j : Nat) (f g : EvE) : EvS := fun env M => (f env M).bind fun x M1 => (g env M1).bind fun y M2 => .ok (.nx ((env.set i (some x)).set j (some y))) M2
theorem ss_par {i j : Nat} (h : ∀ ta, PA X [a, b] ta → PS X st (tPar i j ta)) (ha : SE X p a f) (hb : SE X p b g) (hs : starEach [a, b] X.env = (false, eval a X.env) :: starEach [b] X.env := by rfl) (hs2 : starEach [b] X.env = (false, eval b X.env) :: starEach [] X.env := by rfl) : SS X p st (sPar i j f g) :=
  ps_imp (h _ (pa_cons ha (pa_cons hb pa_nil hs2) hs)) fun D σ H ⟨A, M, env, R, S, q⟩ => seqE R S (fun _ _ _ _ z => z) q fun x M1 v H1 A1 s1 r1 q1 =>
    seqE s1.rel (S.stp R s1) (fun _ _ _ _ z => Exc.stp s1 z) q1 fun y M2 w H2 A2 s2 r2 q2 => ⟨v, w, rfl, q2 _ H2 A2 (s1.trans s2) ((((S.stp R s1).stp s1.rel s2).set (r1.stp s1.rel s2)).set r2)⟩
end
/-! ### a def by its body -/
/-- behind a call only what its caller knows counts, and what is handed back -/
noncomputable def gc (M : List MO) (o : Out D) : Out D := match o with
  | .ok d M' => if CutOk M.length M M' ∧ refsLt M.length d then .ok d (M'.take M.length) else (match d with
    | .ref n => match M'[n]? with
      | some .dead => .no
      | some o => if M.length ≤ n ∧ CutOk M.length M M' ∧ moLt M.length o then .ok (.ref M.length) (M'.take M.length ++ [o]) else .no
      | none => .no
    | _ => .no)
  | .ex c d _ M' => if CutOk M.length M M' ∧ refsLt M.length d then .ex c d [] (M'.take M.length) else .no
  | .no => .no
noncomputable def fnF (n : Nat) (body : EvS) : Fn := fun ds M => gc M ((body (ds.map some ++ List.replicate (n - ds.length) none) M).bind fun fl M' => match fl with
  | .nx _ => .ok .non M'
  | .rt d => .ok d M'
  | _ => .no)
section
variable {P : Program} {w : World} {K : PySem.W.Frag} {mg : Str → Option Value} {base : Heap} {T : List Addr} {cl : Nat → Addr}
theorem start_rep {A : Ads} {H : Hp} {ds : List D} {vs : List V} {N : List Str} (t : Reps K A H ds vs) : RepS K A H (ds.map some ++ List.replicate (N.length - ds.length) none) (L2.start N vs) := by
  refine ⟨by unfold L2.start; rw [List.length_append, List.length_append, List.length_map, List.length_map, List.length_replicate, List.length_replicate, t.length], fun i d e => ?_⟩
  unfold L2.start
  by_cases hi : i < ds.length
  · rw [List.getElem?_append_left (by rw [List.length_map]; exact hi), List.getElem?_map] at e
    cases h : ds[i]? with
    | none => rw [h] at e; cases e
    | some d' =>
      rw [h] at e
      cases e
      obtain ⟨v, h1, h2⟩ := t.get h
      refine ⟨v, ?_, h2⟩
      rw [List.getElem?_append_left (by rw [List.length_map, ← t.length]; exact hi), List.getElem?_map, h1]
      rfl
  · rw [List.getElem?_append_right (by rw [List.length_map]; omega), List.getElem?_replicate] at e
    split at e <;> cases e
/-- what is wanted of the cut state holds of the whole one -/
theorem gc_ok {A : Ads} {M : List MO} {H : Hp} {Q : VK} (R : Rel K T A M H) {d : D} {M' : List MO} {x : Nat → D → Env → List MO → Prop} (h : OutR (gc M (.ok d M')) (Fin K T A H Q) x) : Fin K T A H Q d M' := by
  intro v H' A' s r
  have hl : M.length = A.length := R.len.symm
  unfold gc at h
  dsimp only at h
  by_cases hc : CutOk M.length M M' ∧ refsLt M.length d
  · rw [if_pos hc] at h
    rw [hl] at h hc
    refine h v H' _ (s.cut R hc.1 s.mv.le) (r.cut (fun b z => List.mem_of_mem_take z) (fun n z => by rw [List.getElem?_take, if_pos z]) hc.2)
  · rw [if_neg hc] at h
    cases d with
    | ref n =>
      dsimp only at h
      cases hm : M'[n]? with
      | none => rw [hm] at h; exact h.elim
      | some o =>
        rw [hm] at h
        obtain ⟨a, e1, ha, ro⟩ : ∃ a, v = .ref a ∧ A'[n]? = some (some a) ∧ RepO K A' H' a o := by
          refine s.rel.ref r hm fun z => ?_
          subst z
          exact h.elim
        have h' : OutR (if M.length ≤ n ∧ CutOk M.length M M' ∧ moLt M.length o then Out.ok (D.ref M.length) (M'.take M.length ++ [o]) else .no) (Fin K T A H Q) x := by
          cases o with
          | dead => exact h.elim
          | lst l => exact h
          | dK l => exact h
          | dI l => exact h
        obtain ⟨⟨c1, c2, c3⟩, h'⟩ := ifO h'
        rw [hl] at c1 c2 c3 h'
        subst e1
        have lA : (A'.take A.length).length = A.length := by rw [List.length_take]; have := s.mv.le; omega
        refine h' _ H' _ (s.cut1 R c2 s.mv.le c1 ha hm c3) (.ref ?_)
        rw [List.getElem?_append_right (by rw [lA]; omega), lA, Nat.sub_self]
        rfl
    | _ => exact h.elim
theorem gc_ex {A : Ads} {M : List MO} {H : Hp} (R : Rel K T A M H) {c : Nat} {d : D} {e : Env} {M' : List MO} {x : Nat → D → Env → List MO → Prop} {p : D → List MO → Prop} (h : OutR (gc M (.ex c d e M')) p x) :
    CutOk A.length M M' ∧ refsLt A.length d ∧ x c d [] (M'.take A.length) := by
  have hl : M.length = A.length := R.len.symm
  unfold gc at h
  dsimp only at h
  by_cases hc : CutOk M.length M M' ∧ refsLt M.length d
  · rw [if_pos hc] at h
    rw [hl] at h hc
    exact ⟨hc.1, hc.2, h⟩
  · rw [if_neg hc] at h
    exact h.elim
/-- THE RULE for a def -/
theorem se_fn {x qual : Str} {st : Stmt} {f : Addr} {fd : FuncData} {N ps : List Str} {k : Nat} {body : EvS} (F : Fun K x qual st f fd) (Sc : FnScope N ps (defScope st))
    (hb : ∀ (cdv : Value) (A : Around) (outer : List PySem.Env) (s : Shared) (H : Hp) (E : XK), Room k (A.deeper (envOfC qual (defScope st) s.heap.objs.size f cdv)) →
      SSs (cxOf (L2.CX P w) P w K mg base N qual (defScope st) f cdv A outer s H E) ⟨T, cl, fun cls d _ H => E cls d H⟩ (defBody st) body) :
    FOk P w K mg base T cl (k + 1) f fd ps (fnF N.length body) := by
  refine F.okX Sc (fun vs H Q E h => ?_) fun cdv A outer s H vs Q E hr h => ⟨_, hb cdv A outer s H E hr, ?_⟩
  · obtain ⟨A, M, ds, R, t, hn, _⟩ := h
    rw [← t.length]; exact hn
  · obtain ⟨Aa, M, ds, R, t, hn, q⟩ := h
    refine ⟨Aa, M, _, R, start_rep t, ?_⟩
    unfold fnF at q
    have hK : (cxOf (L2.CX P w) P w K mg base N qual (defScope st) f cdv A outer s H E).K = K := rfl
    cases hb' : body (ds.map some ++ List.replicate (N.length - ds.length) none) M with
    | no => rw [hb'] at q; exact q.elim
    | ok fl M' =>
      rw [hb'] at q
      show FlR K _ Aa H _ fl M'
      cases fl with
      | nx e' =>
        have q' := gc_ok R (d := .non) q
        exact fun σ' H' A' s' _ => q' _ H' A' s' .non
      | rt d => exact gc_ok R q
      | bk e' => exact q.elim
      | ct e' => exact q.elim
    | ex c d e' M' =>
      rw [hb'] at q
      show Exc K _ Aa H c d e' M'
      obtain ⟨c1, c2, q⟩ := gc_ex R q
      intro v σ' H' A' dx s' S' r' hd
      exact q v H' _ dx (s'.cut R c1 s'.mv.le) (r'.cut (fun b z => List.mem_of_mem_take z) (fun n z => by rw [List.getElem?_take, if_pos z]) c2) hd
end
end SX
end
section
set_option Elab.async false
set_option linter.all false
set_option maxRecDepth 100000
open Classical
/-! SXf: what is walked; for, while, list comprehensions. -/
namespace SX
open PySem PySem.Spec PyProof.Rows L2
/-- what is walked: its items, and what must hold of the objects at each turn -/
structure Its where
  ds : List D
  chk : List MO → Prop
abbrev EvI := Env → List MO → Out Its
structure ItOk (K : PySem.W.Frag) (T : List Addr) (J : It) (A0 : Ads) (H0 : Hp) (I : Its) : Prop where
  go : ∀ (A : Ads) (M : List MO) (H : Hp), Stp K T A0 H0 A M H → I.chk M → ∀ (i : Nat) (d : D), I.ds[i]? = some d → J.go i H ∧ ∀ x H', J.yld i H x H' → Stp K T A H A M H' ∧ Rep K A H' d x
  stop : ∀ (A : Ads) (M : List MO) (H : Hp), Stp K T A0 H0 A M H → I.chk M → J.stop I.ds.length H
def tI (K : PySem.W.Frag) (p : Pm) (f : EvI) : TI := fun σ H R => ∃ A M env, Rel K p.T A M H ∧ RepS K A H env σ ∧
  OutR (f env M) (fun I M' => ∀ J H' A', Stp K p.T A H A' M' H' → ItOk K p.T J A' H' I → R J H') (Exc K p A H)
abbrev SI (X : Cx) (p : Pm) (tg e : Expr) (f : EvI) : Prop := PI X tg e (tI X.K p f)
theorem pi_imp {X : Cx} {tg e : Expr} {t t' : TI} (h : PI X tg e t) (hi : ∀ σ H Q, t' σ H Q → t σ H Q) : PI X tg e t' := ⟨fun pins s σ H Q I q => h.run pins s σ H Q I (hi σ H Q q)⟩
/-- a list or a tuple -/
def iAny (K : PySem.W.Frag) (tl : TE) : TI := fun σ H R => tl σ H fun x H1 => ∃ a, x = .ref a ∧ (((∃ xs, SqL K H1 a xs) ∧ R (Itl K a) H1) ∨ ((∃ xs, SqT K H1 a xs) ∧ R (Itt K a) H1))
section
variable {X : Cx} {tg : Expr}
theorem pi_any {l : Expr} {tl : TE} (hl : PE X l tl) : PI X tg l (iAny X.K tl) := by
  refine ⟨fun pins s σ H R I h => ?_⟩
  refine thn (hl.run pins s σ H _ I h) fun v s1 ⟨x, H1, I1, r1, q1⟩ => ?_
  obtain ⟨a, e, q1⟩ := q1
  subst e
  cases r1
  rcases q1 with ⟨⟨xs, hq⟩, q⟩ | ⟨⟨xs, hq⟩, q⟩
  · obtain ⟨its, rv, p, hz⟩ := I1.list hq
    refine wpAny_pyIter_list p.isList ?_
    refine ⟨s1.heap.objs.size, [s1.heap.objs.size], _, _, H1, rfl, I1.kept (t' := s1.toks) fun b o e => Heap.get?_push_of_some _ e, turn_list a _, ⟨_, Heap.get?_push_size _ rfl, rfl, rfl⟩, fun b hb => ?_, q⟩
    have e : b = s1.heap.objs.size := by simpa using hb
    subst e
    exact I1.fpOk (Nat.le_refl _) (I1.hok.fresh (Nat.le_refl _))
  · obtain ⟨its, rv, p, hz⟩ := I1.tuple hq
    refine wpAny_pyIter_tuple (show s1.heap.IsTuple a its.toArray from p) ?_
    refine ⟨s1.heap.objs.size, [s1.heap.objs.size], _, _, H1, rfl, I1.kept (t' := s1.toks) fun b o e => Heap.get?_push_of_some _ e, turn_tuple a _, ⟨_, Heap.get?_push_size _ rfl, rfl, rfl⟩, fun b hb => ?_, q⟩
    have e : b = s1.heap.objs.size := by simpa using hb
    subst e
    exact I1.fpOk (Nat.le_refl _) (I1.hok.fresh (Nat.le_refl _))
end
section
variable {X : Cx} {p : Pm} {tg e a b : Expr} {f g : EvE} {fs : EvEs} {pn pos : Pos}
/-- two lists at one address are one, whatever the state: of what is told by the heap's own record -/
theorem lst_one {K : PySem.W.Frag} {H : Hp} {a : Addr} {xs ys : List V} (h : H a = some (.lst xs)) (h2 : SqL K H a ys ) (hk : K.lookup a = none) : ys = xs := by
  rcases h2 with (h2 | ⟨o, h2⟩) | ⟨o, its, n, h2, _⟩
  · rw [h] at h2; cases h2; rfl
  · rw [h] at h2; cases h2
  · rw [hk] at h2; cases h2
/-- the items of a list that stands as told, of a tuple -/
def iSeq (f : EvE) : EvI := fun env M => (f env M).bind fun d M1 => match d with
  | .tup l => .ok ⟨l, fun _ => True⟩ M1
  | .lst l => .ok ⟨l, fun _ => True⟩ M1
  | .rol l => .ok ⟨l, fun _ => True⟩ M1
  | .ref n => match M1[n]? with
    | some (.lst l) => .ok ⟨l, fun M' => M'[n]? = some (.lst l)⟩ M1
    | _ => .no
  | _ => .no
theorem itOk_tup {K : PySem.W.Frag} {T : List Addr} {A0 : Ads} {M0 : List MO} {H0 : Hp} {a : Addr} {vs : List V} {l : List D} (R0 : Rel K T A0 M0 H0) (h : SqT K H0 a vs) (t : Reps K A0 H0 l vs) : ItOk K T (Itt K a) A0 H0 ⟨l, fun _ => True⟩ where
  go := fun A M H s _ i d hd => by
    obtain ⟨v, hv, r⟩ := t.get hd
    have h' := s.mv.sqT R0 h
    refine ⟨⟨vs, v, h', hv⟩, fun x H' ⟨e, y⟩ => ?_⟩
    subst e
    have := y vs h'
    rw [hv] at this
    cases this
    exact ⟨.refl s.rel, r.stp R0 s⟩
  stop := fun A M H s _ => ⟨vs, s.mv.sqT R0 h, by rw [← t.length]; exact Nat.le_refl _⟩
theorem itOk_lst {K : PySem.W.Frag} {T : List Addr} {A0 : Ads} {M0 : List MO} {H0 : Hp} {a : Addr} {vs : List V} {I : Its} (R0 : Rel K T A0 M0 H0) 
    (st : ∀ A M H, Stp K T A0 H0 A M H → I.chk M → ∃ ws, SqL K H a ws ∧ Reps K A H I.ds ws) : ItOk K T (Itl K a) A0 H0 I where
  go := fun A M H s c i d hd => by
    obtain ⟨ws, h', t⟩ := st A M H s c
    obtain ⟨v, hv, r⟩ := t.get hd
    refine ⟨⟨ws, v, h', hv⟩, fun x H' ⟨e, y⟩ => ?_⟩
    subst e
    have := y ws h'
    rw [hv] at this
    cases this
    exact ⟨.refl s.rel, r⟩
  stop := fun A M H s c => by
    obtain ⟨ws, h', t⟩ := st A M H s c
    exact ⟨ws, h', by rw [← t.length]; exact Nat.le_refl _⟩
theorem si_seq (ha : SE X p a f) : SI X p tg a (iSeq f) := pi_imp (pi_any ha) fun σ H Q ⟨A, M, env, R, S, q⟩ => seqE R S (fun _ _ _ _ z => z) q fun d M1 v H1 A1 s1 r1 q1 => by
  cases d with
  | tup l =>
    obtain ⟨a', vs, e1, h1, t⟩ := rep_tup r1
    exact ⟨a', e1, .inr ⟨⟨vs, h1⟩, q1 _ H1 A1 s1 (itOk_tup s1.rel h1 t)⟩⟩
  | lst l =>
    cases r1 with
    | lst h hn t => exact ⟨_, rfl, .inl ⟨⟨_, .of h⟩, q1 _ H1 A1 s1 (itOk_lst (vs := []) s1.rel fun A M H s c => ⟨_, .of (s.mv.lst s1.rel h hn), t.stp s1.rel s⟩)⟩⟩
  | rol l =>
    cases r1 with
    | rol h t => exact ⟨_, rfl, .inl ⟨⟨_, h.sq⟩, q1 _ H1 A1 s1 (itOk_lst (vs := []) s1.rel fun A M H s c => ⟨_, (s.mv.fzL s1.rel h).sq, t.stp s1.rel s⟩)⟩⟩
  | ref n =>
    have q1' : OutR (match M1[n]? with | some (.lst l) => Out.ok (⟨l, fun M' => M'[n]? = some (.lst l)⟩ : Its) M1 | _ => .no) _ _ := q1
    cases hm : M1[n]? with
    | none => rw [hm] at q1'; exact q1'.elim
    | some o =>
      rw [hm] at q1'
      cases o with
      | lst l =>
        obtain ⟨a', e1, ha', vs, h2, t⟩ := s1.rel.ref r1 hm (fun z => by cases z)
        subst e1
        refine ⟨a', rfl, .inl ⟨⟨vs, .of h2⟩, q1' _ H1 A1 s1 (itOk_lst (vs := []) s1.rel fun A M H s c => ?_)⟩⟩
        have c' : M[n]? = some (.lst l) := c
        obtain ⟨a2, e2, ha2, ws, h3, t3⟩ := s.rel.ref (Rep.stp s1.rel s r1) c' (fun z => by cases z)
        cases e2
        exact ⟨ws, .of h3, t3⟩
      | _ => exact q1'.elim
  | _ => exact q1.elim
/-- lo, lo + 1, .. -/
def rng (lo : Int) (n : Nat) : List D := (List.range n).map fun (i : Nat) => D.int (lo + i)
theorem rng_length (lo : Int) (n : Nat) : (rng lo n).length = n := by unfold rng; rw [List.length_map, List.length_range]
theorem itOk_rng {K : PySem.W.Frag} {T : List Addr} {A0 : Ads} {H0 : Hp} {lo : Int} {n : Nat} : ItOk K T (Itr lo n) A0 H0 ⟨rng lo n, fun _ => True⟩ where
  go := fun A M H s _ i d hd => by
    unfold rng at hd
    dsimp only at hd
    rw [List.getElem?_map] at hd
    have hi : i < n := by
      rcases Nat.lt_or_ge i n with h | h
      · exact h
      · rw [List.getElem?_eq_none (by rw [List.length_range]; exact h)] at hd; cases hd
    rw [List.getElem?_range hi] at hd
    cases hd
    exact ⟨hi, fun x H' ⟨e, y⟩ => by subst e; subst y; exact ⟨.refl s.rel, .int _⟩⟩
  stop := fun A M H s _ => by
    show n ≤ (rng lo n).length
    rw [rng_length]
    exact Nat.le_refl _
noncomputable def iRange (fs : EvEs) : EvI := fun env M => (fs env M).bind fun ds M1 => match ds with
  | [.int j] => if -(2 ^ 62) ≤ j ∧ j < 2 ^ 62 then .ok ⟨rng 0 j.toNat, fun _ => True⟩ M1 else .no
  | [.int i, .int j] => if -(2 ^ 62) ≤ i ∧ i < 2 ^ 62 ∧ -(2 ^ 62) ≤ j ∧ j < 2 ^ 62 then .ok ⟨rng i (j - i).toNat, fun _ => True⟩ M1 else .no
  | _ => .no
theorem si_range1 (hg : Gl X "range") (hm : X.mg "range" = none) (ha : SA X p [a] fs) (hn : Cnt fs 1) (hs : starEach [a] X.env = [(false, eval a X.env)] := by rfl) : SI X p tg (.Call (.Name "range" pn) [a] [] pos) (iRange fs) :=
  pi_imp (pi_range1 hg hm ha hs) fun σ H Q ⟨A, M, env, R, S, q⟩ => ⟨A, M, env, R, S, (OutR.of_bind q).imp (fun ds M1 e q1 vs H1 A1 s1 r1 => by
    have hl := hn _ _ _ _ e
    match ds, hl with
    | [d], _ =>
      obtain ⟨v, e1, r⟩ := reps1 r1
      subst e1
      cases d with
      | int j =>
        have q2 : OutR (if -(2 ^ 62) ≤ j ∧ j < 2 ^ 62 then Out.ok (⟨rng 0 j.toNat, fun _ => True⟩ : Its) M1 else .no) _ _ := q1
        obtain ⟨hb, q2⟩ := ifO q2
        exact ⟨j, by rw [rep_int r], hb.1, hb.2, q2 _ H1 A1 s1 itOk_rng⟩
      | _ => exact q1.elim) fun _ _ _ _ _ z => z⟩
theorem si_range2 (hg : Gl X "range") (hm : X.mg "range" = none) (ha : SA X p [a, b] fs) (hn : Cnt fs 2) (hs : starEach [a, b] X.env = [(false, eval a X.env), (false, eval b X.env)] := by rfl) (hs2 : starEach [b] X.env = [(false, eval b X.env)] := by rfl) : SI X p tg (.Call (.Name "range" pn) [a, b] [] pos) (iRange fs) :=
  pi_imp (pi_range2 hg hm ha hs hs2) fun σ H Q ⟨A, M, env, R, S, q⟩ => ⟨A, M, env, R, S, (OutR.of_bind q).imp (fun ds M1 e q1 vs H1 A1 s1 r1 => by
    have hl := hn _ _ _ _ e
    match ds, hl with
    | [d, d2], _ =>
      obtain ⟨v, w, e1, r, r2⟩ := reps2 r1
      subst e1
      cases d with
      | int i =>
        cases d2 with
        | int j =>
          have q2 : OutR (if -(2 ^ 62) ≤ i ∧ i < 2 ^ 62 ∧ -(2 ^ 62) ≤ j ∧ j < 2 ^ 62 then Out.ok (⟨rng i (j - i).toNat, fun _ => True⟩ : Its) M1 else .no) _ _ := q1
          obtain ⟨hb, q2⟩ := ifO q2
          exact ⟨i, j, by rw [rep_int r, rep_int r2], hb, q2 _ H1 A1 s1 itOk_rng⟩
        | _ => exact q1.elim
      | _ => exact q1.elim) fun _ _ _ _ _ z => z⟩
/-- two lists, or two tuples, side by side -/
def zipD (xs ys : List D) : List D := (xs.zip ys).map fun q => D.pr [q.1, q.2]
def iZip (fs : EvEs) : EvI := fun env M => (fs env M).bind fun ds M1 => match ds with
  | [.tup xs, .tup ys] => .ok ⟨zipD xs ys, fun _ => True⟩ M1
  | _ => .no
theorem zipD_at {xs ys : List D} {i : Nat} {d : D} (h : (zipD xs ys)[i]? = some d) : ∃ x y, xs[i]? = some x ∧ ys[i]? = some y ∧ d = .pr [x, y] := by
  unfold zipD at h
  rw [List.getElem?_map] at h
  cases e : (xs.zip ys)[i]? with
  | none => rw [e] at h; cases h
  | some q =>
    rw [e] at h
    cases h
    obtain ⟨h1, h2⟩ := List.getElem?_zip_eq_some.mp e
    exact ⟨q.1, q.2, h1, h2, rfl⟩
theorem itOk_zip {K : PySem.W.Frag} {T : List Addr} {A0 : Ads} {M0 : List MO} {H0 : Hp} {a b : Addr} {vs ws : List V} {l m : List D} (R0 : Rel K T A0 M0 H0) (h : SqT K H0 a vs) (t : Reps K A0 H0 l vs) (h2 : SqT K H0 b ws) (t2 : Reps K A0 H0 m ws) : ItOk K T (RZ.ItzT K a b) A0 H0 ⟨zipD l m, fun _ => True⟩ where
  go := fun A M H s _ i d hd => by
    obtain ⟨x, y, hx, hy, e⟩ := zipD_at hd
    subst e
    obtain ⟨v, hv, r⟩ := t.get hx
    obtain ⟨w, hw, r2⟩ := t2.get hy
    have k1 := s.mv.sqT R0 h
    have k2 := s.mv.sqT R0 h2
    refine ⟨⟨vs, ws, v, w, k1, k2, hv, hw⟩, fun z H' ⟨Tt, x', y', e1, hT, e2, y1, y2⟩ => ?_⟩
    have z1 := y1 vs k1
    have z2 := y2 ws k2
    rw [hv] at z1
    rw [hw] at z2
    cases z1
    cases z2
    subst e1
    subst e2
    have sl : Stp K T A H A M (upd H Tt (.tup [v, w])) := .lay s.rel hT
    exact ⟨sl, .pr (.of upd_same) (.cons ((r.stp R0 s).stp s.rel sl) (.cons ((r2.stp R0 s).stp s.rel sl) .nil))⟩
  stop := fun A M H s _ => ⟨vs, ws, s.mv.sqT R0 h, s.mv.sqT R0 h2, by
    have e : (zipD l m).length = min vs.length ws.length := by unfold zipD; rw [List.length_map, List.length_zip, t.length, t2.length]
    rw [e]
    omega⟩
theorem si_zip {elts : List Expr} {kk : Nat} {tpos : Pos} (hg : Gl X "zip") (hm : X.mg "zip" = none) (ha : SA X p [a, b] fs) (hn : Cnt fs 2)
    (hs : starEach [a, b] X.env = (false, eval a X.env) :: starEach [b] X.env := by rfl) (hpl : (backTo pos (starEach [b] X.env)).any (·.1) = false := by rfl) : SI X p (.Tuple elts kk tpos) (.Call (.Name "zip" pn) [a, b] [] pos) (iZip fs) :=
  pi_imp (RZ.pi_zipA hg hm ha hs hpl) fun σ H Q ⟨A, M, env, R, S, q⟩ => ⟨A, M, env, R, S, (OutR.of_bind q).imp (fun ds M1 e q1 vs H1 A1 s1 r1 => by
    have hl := hn _ _ _ _ e
    match ds, hl with
    | [d, d2], _ =>
      obtain ⟨v, w, e1, r, r2⟩ := reps2 r1
      subst e1
      cases d with
      | tup xs =>
        cases d2 with
        | tup ys =>
          obtain ⟨a', vs, e1, h1, t1⟩ := rep_tup r
          obtain ⟨b', ws, e2, h2, t2⟩ := rep_tup r2
          subst e1
          subst e2
          exact ⟨a', b', vs, ws, rfl, .inr ⟨h1, h2, q1 _ H1 A1 s1 (itOk_zip s1.rel h1 t1 h2 t2)⟩⟩
        | _ => exact q1.elim
      | _ => exact q1.elim) fun _ _ _ _ _ z => z⟩
end
/-! ### for -/
noncomputable def forL (chk : List MO → Prop) (g : EvG) (body : EvS) : List D → Env → List MO → Out Fl
  | [], env, M => if chk M then .ok (.nx env) M else .no
  | d :: r, env, M => if chk M then (g d env M).bind fun e1 M1 => (body e1 M1).bind fun fl M2 => match fl with
    | .nx e2 => forL chk g body r e2 M2
    | .ct e2 => forL chk g body r e2 M2
    | .bk e2 => .ok (.nx e2) M2
    | .rt v => .ok (.rt v) M2 else .no
noncomputable def sFor (it : EvI) (g : EvG) (body : EvS) : EvS := fun env M => (it env M).bind fun I M1 => forL I.chk g body I.ds env M1
section
variable {X : Cx} {p : Pm} {tg e : Expr} {it : EvI} {g : EvG} {body : EvS} {bs : List Stmt} {pos : Pos}
theorem drop_at {α : Type} {l : List α} {i : Nat} {d : α} {r : List α} (h : l.drop i = d :: r) : l[i]? = some d ∧ l.drop (i + 1) = r := by
  have hi : i < l.length := by
    rcases Nat.lt_or_ge i l.length with z | z
    · exact z
    · rw [List.drop_of_length_le z] at h; cases h
  rw [List.drop_eq_getElem_cons hi] at h
  injection h with h1 h2
  exact ⟨by rw [List.getElem?_eq_getElem hi, h1], h2⟩
theorem ss_for (hp : PassesOwn (model X.prog X.w) X.A X.env X.xe) (hc : X.calm = true) (hi : SI X p tg e it) (hg : SG X p tg g) (hb : SSs X p bs body) (hs : ∀ x, foldedSetIterable e X.env x = pure x := by intro _; rfl) : SS X p (.For tg e bs [] pos) (sFor it g body) :=
  ps_imp (ps_for hp hc hi hg hb hs) fun D σ H ⟨A, M, env, R, S, q⟩ => ⟨A, M, env, R, S, (OutR.of_bind q).imp (fun I M1 _ q1 J H1 A1 s1 io => by
    refine ⟨fun i m σ2 H2 => ∃ A2 M2 env2, Stp X.K p.T A1 H1 A2 M2 H2 ∧ RepS X.K A2 H2 env2 σ2 ∧ m + i = I.ds.length ∧ OutR (forL I.chk g body (I.ds.drop i) env2 M2) (FlR X.K p A H D) (Exc X.K p A H), ⟨I.ds.length, A1, M1, env, .refl s1.rel, S.stp R s1, by omega, q1⟩, ?_⟩
    rintro i m σ2 H2 ⟨A2, M2, env2, s2, S2, hm, q2⟩
    cases hd : I.ds.drop i with
    | nil =>
      have hlen : I.ds.length ≤ i := List.drop_eq_nil_iff.mp hd
      have e : i = I.ds.length := by omega
      rw [hd] at q2
      unfold forL at q2
      obtain ⟨c, q2⟩ := ifO q2
      refine .inl ⟨by rw [e]; exact io.stop A2 M2 H2 s2 c, q2 σ2 H2 A2 (s1.trans s2) S2⟩
    | cons d r =>
      obtain ⟨hat, hr⟩ := drop_at hd
      rw [hd] at q2
      unfold forL at q2
      obtain ⟨c, q2⟩ := ifO q2
      obtain ⟨hgo, hy⟩ := io.go A2 M2 H2 s2 c i d hat
      have hlt : i < I.ds.length := (List.getElem?_eq_some_iff.mp hat).1
      refine .inr ⟨hgo, fun σ3 H3 => ∃ A3 M3 env3, Stp X.K p.T A1 H1 A3 M3 H3 ∧ RepS X.K A3 H3 env3 σ3 ∧ OutR (forL I.chk g body (I.ds.drop (i + 1)) env3 M3) (FlR X.K p A H D) (Exc X.K p A H), fun σ3 H3 ⟨A3, M3, env3, s3, S3, q3⟩ => ⟨m - 1, by omega, A3, M3, env3, s3, S3, by omega, q3⟩, fun x H3 hyl => ?_⟩
      obtain ⟨sy, ry⟩ := hy x H3 hyl
      have s3 := s2.trans sy
      refine ⟨A2, M2, env2, d, sy.rel, S2.stp s2.rel sy, ry, ?_⟩
      refine (OutR.of_bind q2).imp (fun e1 M4 _ q4 σ4 H4 A4 s4 S4 => ?_) fun _ _ _ _ _ z => Exc.stp (s1.trans s3) z
      refine ⟨A4, M4, e1, s4.rel, S4, ?_⟩
      have s14 := s3.trans s4
      refine (OutR.of_bind q4).imp (fun fl M5 _ q5 => ?_) fun _ _ _ _ _ z => Exc.stp (s1.trans s14) z
      rw [hr]
      cases fl with
      | nx e2 => exact fun σ5 H5 A5 s5 S5 => ⟨A5, M5, e2, s14.trans s5, S5, q5⟩
      | ct e2 => exact fun σ5 H5 A5 s5 S5 => ⟨A5, M5, e2, s14.trans s5, S5, q5⟩
      | bk e2 => exact fun σ5 H5 A5 s5 S5 => q5 σ5 H5 A5 (s1.trans (s14.trans s5)) S5
      | rt v => exact FlR.stp (fl := .rt v) (s1.trans s14) q5) fun _ _ _ _ _ z => z⟩
/-! ### while -/
noncomputable def whileL (t : EvT) (body : EvS) : Nat → Env → List MO → Out Fl
  | 0, _, _ => .no
  | n + 1, env, M => (t env M).bind fun b M1 => if b = true then (body env M1).bind fun fl M2 => match fl with
    | .nx e2 => whileL t body n e2 M2
    | .ct e2 => whileL t body n e2 M2
    | .bk e2 => .ok (.nx e2) M2
    | .rt v => .ok (.rt v) M2 else .ok (.nx env) M1
theorem ss_while {t : EvT} {c : Expr} (n : Nat) (hp : PassesOwn (model X.prog X.w) X.A X.env X.xe) (hc : ST X p c t) (hb : SSs X p bs body) : SS X p (.While c bs [] pos) (whileL t body n) :=
  ps_imp (ps_while hp hc hb) fun D σ H ⟨A, M, env, R, S, q⟩ => by
    refine ⟨fun m σ2 H2 => ∃ A2 M2 env2, Stp X.K p.T A H A2 M2 H2 ∧ RepS X.K A2 H2 env2 σ2 ∧ OutR (whileL t body m env2 M2) (FlR X.K p A H D) (Exc X.K p A H), ⟨n, A, M, env, .refl R, S, q⟩, ?_⟩
    rintro m σ2 H2 ⟨A2, M2, env2, s2, S2, q2⟩
    cases m with
    | zero => exact q2.elim
    | succ m =>
      refine ⟨A2, M2, env2, s2.rel, S2, ?_⟩
      refine (OutR.of_bind (show OutR ((t env2 M2).bind fun b M1 => _) _ _ from q2)).imp (fun b M3 _ q3 H3 A3 s3 => ?_) fun _ _ _ _ _ z => Exc.stp s2 z
      have s23 := s2.trans s3
      cases b with
      | false =>
        dsimp only
        rw [if_neg Bool.false_ne_true] at q3 ⊢
        exact q3 σ2 H3 A3 s23 (S2.stp s2.rel s3)
      | true =>
        dsimp only
        rw [if_pos rfl] at q3 ⊢
        refine ⟨fun σ4 H4 => ∃ A4 M4 env4, Stp X.K p.T A H A4 M4 H4 ∧ RepS X.K A4 H4 env4 σ4 ∧ OutR (whileL t body m env4 M4) (FlR X.K p A H D) (Exc X.K p A H), fun σ4 H4 w => ⟨m, Nat.lt_succ_self _, w⟩, A3, M3, env2, s3.rel, S2.stp s2.rel s3, ?_⟩
        refine (OutR.of_bind q3).imp (fun fl M4 _ q4 => ?_) fun _ _ _ _ _ z => Exc.stp s23 z
        cases fl with
        | nx e2 => exact fun σ5 H5 A5 s5 S5 => ⟨A5, M4, e2, s23.trans s5, S5, q4⟩
        | ct e2 => exact fun σ5 H5 A5 s5 S5 => ⟨A5, M4, e2, s23.trans s5, S5, q4⟩
        | bk e2 => exact fun σ5 H5 A5 s5 S5 => q4 σ5 H5 A5 (s23.trans s5) S5
        | rt v => exact FlR.stp (fl := .rt v) s23 q4
end
end SX
end
section
set_option Elab.async false
set_option linter.all false
set_option maxRecDepth 100000
open Classical
/-! SXg: list comprehensions. -/
namespace SX
open PySem PySem.Spec PyProof.Rows L2
/-! ### slots forgotten -/
def wipeE (env : Env) : List Nat → Env
  | [] => env
  | v :: vs => (wipeE env vs).set v none
theorem wipeE_length (env : Env) : ∀ vs : List Nat, (wipeE env vs).length = env.length
  | [] => rfl
  | v :: vs => by unfold wipeE; rw [List.length_set, wipeE_length env vs]
theorem wipe_at {σ : L2.St} {i : Nat} : ∀ {vs : List Nat}, i ∉ vs → (wipe σ vs)[i]? = σ[i]?
  | [], _ => rfl
  | v :: vs, h => by
    unfold wipe
    rw [List.getElem?_set_ne (fun e => h (by rw [e]; exact List.mem_cons_self)), wipe_at fun z => h (List.mem_cons_of_mem _ z)]
theorem wipeE_some {env : Env} {i : Nat} {d : D} : ∀ {vs : List Nat}, (wipeE env vs)[i]? = some (some d) → env[i]? = some (some d) ∧ i ∉ vs
  | [], h => ⟨h, by simp⟩
  | v :: vs, h => by
    unfold wipeE at h
    by_cases e : v = i
    · subst e
      have hl : v < (wipeE env vs).length := by have := (List.getElem?_eq_some_iff.mp h).1; rwa [List.length_set] at this
      rw [List.getElem?_set_self hl] at h
      cases h
    · rw [List.getElem?_set_ne e] at h
      obtain ⟨h1, h2⟩ := wipeE_some h
      exact ⟨h1, fun z => (List.mem_cons.mp z).elim (fun q => e q.symm) h2⟩
theorem RepS.wipe {K : PySem.W.Frag} {A : Ads} {H : Hp} {env : Env} {σ : L2.St} (S : RepS K A H env σ) (vs : List Nat) : RepS K A H (wipeE env vs) (L2.wipe σ vs) :=
  ⟨by rw [wipeE_length, wipe_length]; exact S.1, fun i d h => by
    obtain ⟨h1, h2⟩ := wipeE_some h
    obtain ⟨v, h3, r⟩ := S.2 i d h1
    exact ⟨v, by rw [wipe_at h2]; exact h3, r⟩⟩
theorem wipe_ext {σ τ : L2.St} {vs : List Nat} (hl : σ.length = τ.length) (h : ∀ i, i ∉ vs → σ[i]? = τ[i]?) : wipe σ vs = wipe τ vs := by
  induction vs generalizing σ τ with
  | nil =>
    apply List.ext_getElem?
    intro i
    exact h i (by simp)
  | cons v vs ih =>
    unfold wipe
    apply List.ext_getElem?
    intro i
    by_cases e : v = i
    · subst e
      by_cases hv : v < (wipe σ vs).length
      · rw [List.getElem?_set_self hv, List.getElem?_set_self (by rw [wipe_length] at hv ⊢; omega)]
      · rw [List.getElem?_eq_none (by rw [List.length_set]; omega), List.getElem?_eq_none (by rw [List.length_set, wipe_length]; rw [wipe_length] at hv; omega)]
    · rw [List.getElem?_set_ne e, List.getElem?_set_ne e]
      by_cases hi : i ∈ vs
      · -- both are wiped there
        have both : ∀ (ρ : L2.St) (ws : List Nat), i ∈ ws → (wipe ρ ws)[i]? = if i < ρ.length then some none else none := by
          intro ρ ws
          induction ws with
          | nil => intro z; simp at z
          | cons w ws ihw =>
            intro z
            unfold wipe
            by_cases ew : w = i
            · subst ew
              by_cases hw : w < ρ.length
              · rw [List.getElem?_set_self (by rw [wipe_length]; exact hw), if_pos hw]
              · rw [List.getElem?_eq_none (by rw [List.length_set, wipe_length]; omega), if_neg hw]
            · rw [List.getElem?_set_ne ew]
              exact ihw ((List.mem_cons.mp z).elim (fun q => (ew q.symm).elim) id)
        rw [both σ vs hi, both τ vs hi, hl]
      · rw [wipe_at hi, wipe_at hi]
        exact h i fun z => (List.mem_cons.mp z).elim (fun q => e q.symm) hi
theorem wipe_set {σ : L2.St} {vs : List Nat} {i : Nat} {x : Option V} (h : i ∈ vs) : wipe (σ.set i x) vs = wipe σ vs := wipe_ext (by rw [List.length_set]) fun j hj => List.getElem?_set_ne (fun e => hj (by rw [← e]; exact h))
theorem wipe_wipe {σ : L2.St} {vs : List Nat} : wipe (wipe σ vs) vs = wipe σ vs := wipe_ext (wipe_length _ _) fun j hj => wipe_at hj
theorem wipe_sub {σ τ : L2.St} {vs ws : List Nat} (hs : ∀ i ∈ ws, i ∈ vs) (h : wipe σ ws = wipe τ ws) : wipe σ vs = wipe τ vs := by
  have hl : σ.length = τ.length := by
    have := congrArg List.length h
    rwa [wipe_length, wipe_length] at this
  refine wipe_ext hl fun i hi => ?_
  have hi' : i ∉ ws := fun z => hi (hs i z)
  rw [← wipe_at (σ := σ) hi', ← wipe_at (σ := τ) hi', h]
/-! ### the targets of a comprehension: a name, a tuple of names -/
inductive CT where
  | nm (i : Nat) | tp (is : List Nat)
def CT.vs : CT → List Nat
  | .nm i => [i]
  | .tp is => is
def gNames : List Nat → TGs
  | [] => gNil
  | i :: r => gCons (gName i) (gNames r)
def CT.tg (K : PySem.W.Frag) : CT → TG
  | .nm i => gName i
  | .tp is => gTup K is.length (gNames is)
def setAll : List Nat → List D → Env → Env
  | i :: r, d :: ds, env => setAll r ds (env.set i (some d))
  | _, _, env => env
def CT.put (c : CT) (d : D) (env : Env) : Option Env := match c, d with
  | .nm i, d => some (env.set i (some d))
  | .tp is, .tup l => if l.length = is.length then some (setAll is l env) else none
  | .tp is, .pr l => if l.length = is.length then some (setAll is l env) else none
  | _, _ => none
theorem names_ok {K : PySem.W.Frag} {A : Ads} {H : Hp} {vs : List Nat} : ∀ (is : List Nat) (l : List D) (ws : List V) (env : Env) (σ : L2.St) (Q : L2.St → Hp → Prop), (∀ i ∈ is, i ∈ vs) → l.length = is.length → Reps K A H l ws → RepS K A H env σ →
    (∀ σ', RepS K A H (setAll is l env) σ' → wipe σ' vs = wipe σ vs → Q σ' H) → gNames is ws σ H Q
  | [], [], _, env, σ, Q, _, _, .nil, S, q => ⟨rfl, q σ S rfl⟩
  | i :: r, d :: ds, _, env, σ, Q, hi, hl, .cons (v := v) (vs := us) rv t, S, q => by
    refine ⟨v, us, rfl, ?_⟩
    refine names_ok r ds us (env.set i (some d)) (σ.set i (some v)) Q (fun j z => hi j (List.mem_cons_of_mem _ z)) (by simpa using hl) t (S.set rv) fun σ' S' e => ?_
    exact q σ' S' (e.trans (wipe_set (hi i List.mem_cons_self)))
theorem CT.ok {K : PySem.W.Frag} {A : Ads} {H : Hp} {vs : List Nat} {c : CT} {d : D} {v : V} {env env' : Env} {σ : L2.St} {Q : L2.St → Hp → Prop} (hs : ∀ i ∈ c.vs, i ∈ vs) (r : Rep K A H d v) (S : RepS K A H env σ) (e : c.put d env = some env')
    (q : ∀ σ', RepS K A H env' σ' → wipe σ' vs = wipe σ vs → Q σ' H) : c.tg K v σ H Q := by
  cases c with
  | nm i =>
    cases e
    exact q _ (S.set r) (wipe_set (hs i List.mem_cons_self))
  | tp is =>
    cases d with
    | tup l =>
      have e' : (if l.length = is.length then some (setAll is l env) else none) = some env' := e
      by_cases hl : l.length = is.length
      · rw [if_pos hl] at e'
        cases e'
        obtain ⟨a, ws, e1, h1, t⟩ := rep_tup r
        exact ⟨a, ws, e1, h1, by rw [← t.length]; exact hl, names_ok is l ws env σ Q hs hl t S q⟩
      · rw [if_neg hl] at e'; cases e'
    | pr l =>
      have e' : (if l.length = is.length then some (setAll is l env) else none) = some env' := e
      by_cases hl : l.length = is.length
      · rw [if_pos hl] at e'
        cases e'
        obtain ⟨a, ws, e1, h1, t⟩ := rep_pr r
        exact ⟨a, ws, e1, h1, by rw [← t.length]; exact hl, names_ok is l ws env σ Q hs hl t S q⟩
      · rw [if_neg hl] at e'; cases e'
    | _ => cases e
/-! ### one clause -/
def noW : WX := fun _ _ _ _ => False
abbrev Pm.calm (p : Pm) : Pm := ⟨p.T, p.cl, noW⟩
/-- what raises says nothing -/
def Out.bindN {α β : Type} (o : Out α) (k : α → List MO → Out β) : Out β := match o with
  | .ok a M => k a M
  | _ => .no
theorem OutR.of_bindN {α β : Type} {o : Out α} {k : α → List MO → Out β} {p x} (h : OutR (o.bindN k) p x) (x' : Nat → D → Env → List MO → Prop) : OutR o (fun a M => OutR (k a M) p x) x' := by
  cases o with
  | ok a M => exact h
  | ex => exact h.elim
  | no => exact h
noncomputable def compL (chk : List MO → Prop) (c : CT) (t : EvT) (f : EvE) (env : Env) (N : Nat) : List D → List MO → Out Unit
  | [], M => if chk M then .ok () M else .no
  | d :: r, M => if chk M then (match c.put d env with
    | none => .no
    | some e1 => (t e1 M).bindN fun b M1 => if b = true then (f e1 M1).bindN fun y M2 => (match M2[N]? with
      | some (.lst acc) => if acc.length < sizeLine then compL chk c t f env N r (M2.set N (.lst (acc ++ [y]))) else .no
      | _ => .no) else compL chk c t f env N r M1) else .no
/-- the list made at N: data at rest, or an object -/
noncomputable def compEnd (frz : Bool) (M1 M2 : List MO) : Out D := match M2[M1.length]? with
  | some (.lst acc) => if frz = true then (if CutOk M1.length M1 M2 ∧ refsLtL M1.length acc ∧ M2.length = M1.length + 1 then .ok (.lst acc) (M2.take M1.length) else .no) else .ok (.ref M1.length) M2
  | _ => .no
noncomputable def eComp (frz : Bool) (it : EvI) (c : CT) (vs : List Nat) (t : EvT) (f : EvE) : EvE := fun env M => (it env M).bind fun I M1 =>
  (compL I.chk c t f (wipeE env vs) M1.length I.ds (M1 ++ [.lst []])).bindN fun _ M2 => compEnd frz M1 M2
def tYesE : EvT := fun _ M => .ok true M
abbrev STs (X : Cx) (p : Pm) (cs : List Expr) (f : EvT) : Prop := PTs X cs (tT X.K p f)
section
variable {X : Cx} {p : Pm} {tg e elt : Expr} {it : EvI} {c : CT} {vs : List Nat} {t : EvT} {f : EvE}
theorem sts_nil : STs X p [] tYesE := ⟨fun pins s σ H Q I ⟨A, M, env, R, S, q⟩ => pts_nil.run pins s σ H Q I (q H A (.refl R))⟩
theorem sts_one {a : Expr} (h : ST X p a t) : STs X p [a] t := pts_one h
/-- at N stands the list under construction -/
theorem at_N {K : PySem.W.Frag} {T : List Addr} {A1 A2 : Ads} {M1 M2 : List MO} {H1 H2 : Hp} {D0 : Addr} {acc : List D} (hl : A1.length = M1.length) (s : Stp K T (A1 ++ [some D0]) H1 A2 M2 H2) (h : M2[M1.length]? = some (.lst acc)) :
    A2[M1.length]? = some (some D0) ∧ ∃ ws, H2 D0 = some (.lst ws) ∧ Reps K A2 H2 acc ws := by
  have h0 : (A1 ++ [some D0])[M1.length]? = some (some D0) := by rw [← hl, List.getElem?_append_right (Nat.le_refl _), Nat.sub_self]; rfl
  have h1 : A2[M1.length]? = some (some D0) := by
    rcases s.mv.ix _ _ h0 with z | z
    · exact z
    · have := s.rel.dd _ z
      rw [h] at this
      cases this
  obtain ⟨o, e, r⟩ := s.rel.ob _ _ h1
  rw [h] at e
  cases e
  exact ⟨h1, r⟩
theorem comp_done {frz : Bool} {K : PySem.W.Frag} {T : List Addr} {A A1 A2 : Ads} {M1 M2 : List MO} {H H1 H2 : Hp} {D0 : Addr} {Q : VK} {x : Nat → D → Env → List MO → Prop} (sA : Stp K T A H A1 M1 H1) (hD : H1 D0 = none) (s1 : Stp K T A1 H1 (A1 ++ [some D0]) (M1 ++ [.lst []]) (upd H1 D0 (.lst [])))
    (s : Stp K T (A1 ++ [some D0]) (upd H1 D0 (.lst [])) A2 M2 H2) (h : OutR (compEnd frz M1 M2) (Fin K T A H Q) x) : Q (.ref D0) H2 := by
  unfold compEnd at h
  cases hm : M2[M1.length]? with
  | none => rw [hm] at h; exact h.elim
  | some o =>
    rw [hm] at h
    cases o with
    | lst acc =>
      obtain ⟨h1, ws, h2, tw⟩ := at_N sA.rel.len s hm
      dsimp only at h
      cases frz with
      | false =>
        rw [if_neg Bool.false_ne_true] at h
        exact h _ H2 A2 (sA.trans (s1.trans s)) (.ref h1)
      | true =>
        rw [if_pos rfl] at h
        obtain ⟨⟨c1, c2, c3⟩, h⟩ := ifO h
        have st := s1.trans s
        rw [← sA.rel.len] at c1 c2 h
        have sc := st.cut sA.rel c1 st.mv.le
        refine h _ H2 _ (sA.trans sc) (.lst h2 (fun z => ?_) (tw.cut (fun b z => List.mem_of_mem_take z) (fun n z => by rw [List.getElem?_take, if_pos z]) c2))
        obtain ⟨k, hk, e⟩ := List.getElem_of_mem z
        have hk' : k < A1.length := by rw [List.length_take] at hk; omega
        have e' : A2[k]? = some (some D0) := by
          have : (A2.take A1.length)[k]? = some (some D0) := by rw [List.getElem?_eq_getElem hk, e]
          rwa [List.getElem?_take, if_pos hk'] at this
        have := s.rel.inj k _ D0 e' h1
        rw [← sA.rel.len] at this
        omega
    | _ => exact h.elim
theorem comp_read {frz : Bool} {wi : TI} {te : TE} {tt : TT} {σ : L2.St} {H : Hp} {Q : VK} (hcv : ∀ i ∈ c.vs, i ∈ vs) (hi : ∀ R, tI X.K p it σ H R → wi σ H R) (hte : ∀ σ H Q, tE X.K p.calm f σ H Q → te σ H Q) (htt : ∀ σ H Q, tT X.K p.calm t σ H Q → tt σ H Q)
    (h : tE X.K p (eComp frz it c vs t f) σ H Q) : tLc wi (c.tg X.K) tt te vs σ H Q := by
  obtain ⟨A, M, env, R, S, q⟩ := h
  refine hi _ ⟨A, M, env, R, S, (OutR.of_bind q).imp (fun I M1 _ q1 J H1 A1 sA io D0 hD => ?_) fun _ _ _ _ _ z => z⟩
  have s1 : Stp X.K p.T A1 H1 (A1 ++ [some D0]) (M1 ++ [.lst []]) (upd H1 D0 (.lst [])) := .newO sA.rel hD ⟨[], upd_same, .nil⟩
  have S1 := S.stp R sA
  refine ⟨fun i m H2 => ∃ A2 M2, Stp X.K p.T (A1 ++ [some D0]) (upd H1 D0 (.lst [])) A2 M2 H2 ∧ m + i = I.ds.length ∧
    OutR ((compL I.chk c t f (wipeE env vs) M1.length (I.ds.drop i) M2).bindN fun _ M2 => compEnd frz M1 M2) (Fin X.K p.T A H Q) (Exc X.K p A H), ⟨I.ds.length, _, _, .refl s1.rel, by omega, q1⟩, ?_⟩
  rintro i m H2 ⟨A2, M2, s2, hm, q2⟩
  have sA2 := s1.trans s2
  cases hd : I.ds.drop i with
  | nil =>
    have hlen : I.ds.length ≤ i := List.drop_eq_nil_iff.mp hd
    have e : i = I.ds.length := by omega
    rw [hd] at q2
    unfold compL at q2
    by_cases hc : I.chk M2
    · rw [if_pos hc] at q2
      exact .inl ⟨by rw [e]; exact io.stop A2 M2 H2 sA2 hc, comp_done sA hD s1 s2 q2⟩
    · rw [if_neg hc] at q2; exact q2.elim
  | cons d r =>
    obtain ⟨hat, hr⟩ := drop_at hd
    rw [hd] at q2
    unfold compL at q2
    by_cases hc : I.chk M2
    · rw [if_pos hc] at q2
      obtain ⟨hgo, hy⟩ := io.go A2 M2 H2 sA2 hc i d hat
      have hlt : i < I.ds.length := (List.getElem?_eq_some_iff.mp hat).1
      refine .inr ⟨hgo, fun H3 => ∃ A3 M3, Stp X.K p.T (A1 ++ [some D0]) (upd H1 D0 (.lst [])) A3 M3 H3 ∧
        OutR ((compL I.chk c t f (wipeE env vs) M1.length (I.ds.drop (i + 1)) M3).bindN fun _ M2 => compEnd frz M1 M2) (Fin X.K p.T A H Q) (Exc X.K p A H), fun H3 ⟨A3, M3, s3, q3⟩ => ⟨m - 1, by omega, A3, M3, s3, by omega, q3⟩, fun x H3 hyl => ?_⟩
      obtain ⟨sy, ry⟩ := hy x H3 hyl
      have s23 := s2.trans sy
      have S3 : RepS X.K A2 H3 (wipeE env vs) (L2.wipe σ vs) := (((S1.stp sA.rel s1).stp s1.rel s2).stp s2.rel sy).wipe vs
      cases hp : c.put d (wipeE env vs) with
      | none => rw [hp] at q2; exact q2.elim
      | some e1 =>
        rw [hp] at q2
        dsimp only at q2
        refine CT.ok hcv ry S3 hp fun σ2 S4 ew => ⟨ew.trans wipe_wipe, htt _ _ _ ⟨A2, M2, e1, sy.rel, S4, ?_⟩⟩
        -- the test
        have q3 : OutR ((t e1 M2).bindN fun b M1' => (if b = true then (f e1 M1').bindN fun y M2 => (match M2[M1.length]? with
            | some (.lst acc) => if acc.length < sizeLine then compL I.chk c t f (wipeE env vs) M1.length r (M2.set M1.length (.lst (acc ++ [y]))) else .no
            | _ => .no) else compL I.chk c t f (wipeE env vs) M1.length r M1').bindN fun _ M2 => compEnd frz M1 M2) (Fin X.K p.T A H Q) (Exc X.K p A H) := by
          cases ht : t e1 M2 with
          | ok b M' => rw [ht] at q2; exact q2
          | ex => rw [ht] at q2; exact q2.elim
          | no => rw [ht] at q2; exact q2.elim
        refine (OutR.of_bindN q3 (Exc X.K p.calm A2 H3)).imp (fun b M4 _ q4 H4 A4 s4 => ?_) fun _ _ _ _ _ z => z
        have s14 := s23.trans s4
        cases b with
        | false =>
          dsimp only
          rw [if_neg Bool.false_ne_true] at q4 ⊢
          exact ⟨A4, M4, s14, by rw [hr]; exact q4⟩
        | true =>
          dsimp only
          rw [if_pos rfl] at q4 ⊢
          refine hte _ _ _ ⟨A4, M4, e1, s4.rel, S4.stp sy.rel s4, ?_⟩
          have q5 : OutR ((f e1 M4).bindN fun y M2 => (match M2[M1.length]? with
            | some (.lst acc) => if acc.length < sizeLine then compL I.chk c t f (wipeE env vs) M1.length r (M2.set M1.length (.lst (acc ++ [y]))) else .no
            | _ => .no).bindN fun _ M2 => compEnd frz M1 M2) (Fin X.K p.T A H Q) (Exc X.K p A H) := by
            cases hf : f e1 M4 with
            | ok b M' => rw [hf] at q4; exact q4
            | ex => rw [hf] at q4; exact q4.elim
            | no => rw [hf] at q4; exact q4.elim
          refine (OutR.of_bindN q5 (Exc X.K p.calm A4 H4)).imp (fun y M5 _ q6 v H5 A5 s5 r5 => ?_) fun _ _ _ _ _ z => z
          have s15 := s14.trans s5
          cases hN : M5[M1.length]? with
          | none => rw [hN] at q6; exact q6.elim
          | some o =>
            rw [hN] at q6
            cases o with
            | lst acc =>
              dsimp only at q6
              obtain ⟨h1, ws, h2, tw⟩ := at_N sA.rel.len s15 hN
              by_cases hz : acc.length < sizeLine
              · rw [if_pos hz] at q6
                refine ⟨ws, h2, by rw [← tw.length]; exact hz, ?_⟩
                have s6 : Stp X.K p.T A5 H5 A5 (M5.set M1.length (.lst (acc ++ [y]))) (upd H5 D0 (.lst (ws ++ [v]))) := Stp.setO s15.rel h1 fun mv => ⟨_, upd_same, (tw.mv s15.rel mv).append (.cons (r5.mv s15.rel mv) .nil)⟩
                exact ⟨A5, _, s15.trans s6, by rw [hr]; exact q6⟩
              · rw [if_neg hz] at q6; exact q6.elim
            | _ => exact q6.elim
    · rw [if_neg hc] at q2; exact q2.elim
/-- [elt for tg in e if ..] -/
theorem se_lc (frz : Bool) {scope : Scope} {own : List (Str × Nat)} {ifs : List Expr} {pos : Pos} (hc : X.calm = true) (hN : X.N.Nodup) (hi : SI X p tg e it) (ok : BlkOk X.N X.env.scope scope own) (hcv : ∀ i ∈ c.vs, i ∈ own.map (·.2))
    (hg : ∀ (s : Shared) (H : Hp) (C : Addr) (cl : List (Str × Addr)) (fp : List Addr), PG (X.blk s H scope (compEnvC scope cl C X.env) fp) tg (c.tg X.K))
    (ht : ∀ (s : Shared) (H : Hp) (C : Addr) (cl : List (Str × Addr)) (fp : List Addr), STs (X.blk s H scope (compEnvC scope cl C X.env) fp) p.calm ifs t)
    (he : ∀ (s : Shared) (H : Hp) (C : Addr) (cl : List (Str × Addr)) (fp : List Addr), SE (X.blk s H scope (compEnvC scope cl C X.env) fp) p.calm elt f) (hs : ∀ x, foldedSetIterable e X.env x = pure x := by intro _; rfl) :
    SE X p (.ListComp elt [⟨tg, e, ifs, 0⟩] scope pos) (eComp frz it c (own.map (·.2)) t f) :=
  pe_imp (pe_lc (tt := tT X.K p.calm t) (te := tE X.K p.calm f) hc hN hi ok hg ht he hs) fun σ H Q h => comp_read hcv (fun _ z => z) (fun _ _ _ z => z) (fun _ _ _ z => z) h
/-- name = [..] -/
theorem ss_setLc (frz : Bool) {i : Nat} {y : Str} {py spos : Pos} {scope : Scope} {own : List (Str × Nat)} {ifs : List Expr} {pos : Pos} (hc : X.calm = true) (hN : X.N.Nodup) (hy : X.N[i]? = some y) (hyl : X.env.scope.names.lookup y = some .local)
    (hsw : swapsWith (.ListComp elt [⟨tg, e, ifs, 0⟩] scope pos) (some (.Name y py)) spos.line X.env = pure true) (hi : SI X p tg e it) (ok : BlkOk X.N X.env.scope scope own) (hcv : ∀ i ∈ c.vs, i ∈ own.map (·.2))
    (hg : ∀ (s : Shared) (H : Hp) (C : Addr) (cl : List (Str × Addr)) (fp : List Addr), PG (X.blk s H scope (compEnvC scope cl C X.env) fp) tg (c.tg X.K))
    (ht : ∀ (s : Shared) (H : Hp) (C : Addr) (cl : List (Str × Addr)) (fp : List Addr), STs (X.blk s H scope (compEnvC scope cl C X.env) fp) p.calm ifs t)
    (he : ∀ (s : Shared) (H : Hp) (C : Addr) (cl : List (Str × Addr)) (fp : List Addr), SE (X.blk s H scope (compEnvC scope cl C X.env) fp) p.calm elt f) (hs : ∀ x, foldedSetIterable e X.env x = pure x := by intro _; rfl) :
    SS X p (.Assign [.Name y py] (.ListComp elt [⟨tg, e, ifs, 0⟩] scope pos) spos) (sAsg (eComp frz it c (own.map (·.2)) t f) (gtName i)) :=
  ps_imp (ps_setLc (tt := tT X.K p.calm t) (te := tE X.K p.calm f) hc hN hy hyl hsw hi ok hg ht he hs) (asg_tS (fun σ H Q h => comp_read hcv (fun _ z => z) (fun _ _ _ z => z) (fun _ _ _ z => z) h) fun v σ H Q ⟨A, M, env, d, R, S, r, q⟩ => q _ H A (.refl R) (S.set r))
end
end SX
end
section
set_option Elab.async false
set_option linter.all false
set_option maxRecDepth 100000
open Classical
/-! SXh: built-ins. -/
namespace SX
open PySem PySem.Spec PyProof.Rows L2
def intsOf : List D → Option (List Int)
  | [] => some []
  | .int i :: r => (intsOf r).map (i :: ·)
  | _ => none
theorem intsOf_eq : ∀ {ds : List D} {ns : List Int}, intsOf ds = some ns → ds = ns.map D.int
  | [], _, e => by cases e; rfl
  | .int i :: r, ns, e => by
    unfold intsOf at e
    cases h : intsOf r with
    | none => rw [h] at e; cases e
    | some ms =>
      rw [h] at e
      cases e
      rw [intsOf_eq h]
      rfl
  | .non :: _, _, e => by cases e
  | .bl _ :: _, _, e => by cases e
  | .str _ :: _, _, e => by cases e
  | .tup _ :: _, _, e => by cases e
  | .lst _ :: _, _, e => by cases e
  | .rol _ :: _, _, e => by cases e
  | .ref _ :: _, _, e => by cases e
  | .exc _ _ _ :: _, _, e => by cases e
  | .adr _ :: _, _, e => by cases e
theorem intsOf_map : ∀ ns : List Int, intsOf (ns.map D.int) = some ns
  | [] => rfl
  | n :: ns => by
    show (intsOf (ns.map D.int)).map (n :: ·) = _
    rw [intsOf_map ns]
    rfl
theorem reps_ints {K A H} {l : List D} {vs : List V} {ns : List Int} (t : Reps K A H l vs) (e : intsOf l = some ns) : vs = ns.map V.int := by
  rw [intsOf_eq e] at t
  exact t.ints
section
variable {X : Cx} {p : Pm} {a b e : Expr} {es : List Expr} {f g : EvE} {fs : EvEs} {pn pos p2 : Pos}
/-! ### int -/
def opInt1 : List D → List MO → Out D
  | [.int i], M => .ok (.int i) M
  | [.bl k], M => .ok (.int (if k then 1 else 0)) M
  | _, _ => .no
theorem opInt1_calm : CalmC opInt1 := by intro xs M c d e M' q; unfold opInt1 at q; split at q <;> cases q
theorem se_int1 (hg : Gl X "int") (hm : X.mg "int" = none) (h : SA X p (e :: es) fs) (he : starEach (e :: es) X.env = (false, eval e X.env) :: starEach es X.env := by rfl) (hpl : (backTo pos (starEach es X.env)).any (·.1) = false := by rfl) :
    SE X p (.Call (.Name "int" pn) (e :: es) [] pos) (eB opInt1 fs) :=
  se_b (fun t ht => pe_callTy call_int1 hg hm PyProof.Rows.boot_int ht (he := he) (hpl := hpl)) (fun T A M H xs vs Q R r h => by
    unfold opInt1 at h
    split at h
    · obtain ⟨v, e, r'⟩ := reps1 r
      subst e
      exact .inl ⟨_, by rw [rep_int r'], h _ H A (.refl R) (.int _)⟩
    · obtain ⟨v, e, r'⟩ := reps1 r
      subst e
      exact .inr ⟨_, by rw [rep_bl r'], h _ H A (.refl R) (.int _)⟩
    · exact h.elim) opInt1_calm h
/-! ### isinstance -/
def tyOf : D → String
  | .non => "NoneType"
  | .bl _ => "bool"
  | .int _ => "int"
  | .str _ => "str"
  | .tup _ => "tuple"
  | _ => "list"
theorem tyX_seq {K : PySem.W.Frag} {H : Hp} {a : Addr} {vs : List V} (h : SqT K H a vs) : TyX K H (.ref a) (.type "tuple") := by
  rcases h with (h | ⟨o, h⟩) | ⟨o, its, n, h, hc, _⟩
  · exact .base (.tup h)
  · exact .fTuple h
  · exact .kTuple h hc
theorem tyX_lst {K : PySem.W.Frag} {H : Hp} {a : Addr} {vs : List V} (h : SqL K H a vs) : TyX K H (.ref a) (.type "list") := by
  rcases h with (h | ⟨o, h⟩) | ⟨o, its, n, h, hc, _⟩
  · exact .base (.lst h)
  · exact .base (.frz h)
  · exact .kList h hc
/-- it has a type that is known -/
def tyKn (M : List MO) : D → Bool
  | .ref n => match M[n]? with
    | some (.lst _) => true
    | _ => false
  | .pr _ => false
  | .exc _ _ _ => false
  | .adr _ => false
  | _ => true
theorem tyX_rep {K : PySem.W.Frag} {T : List Addr} {A : Ads} {M : List MO} {H : Hp} {d : D} {v : V} (R : Rel K T A M H) (r : Rep K A H d v) (hk : tyKn M d = true) : TyX K H v (.type (tyOf d)) := by
  cases d with
  | non => cases r; exact .base .non
  | bl b => cases r; exact .base (.bl b)
  | int i => cases r; exact .base (.int i)
  | str x => cases r; exact .base (.str x)
  | tup l =>
    cases r with
    | tup h t => exact tyX_seq h.sq
  | pr l => cases hk
  | exc _ _ _ => cases hk
  | adr _ => cases hk
  | lst l =>
    cases r with
    | lst h hn t => exact .base (.lst h)
  | rol l =>
    cases r with
    | rol h t => exact tyX_lst h.sq
  | ref n =>
    have hk' : (match M[n]? with | some (.lst _) => true | _ => false) = true := hk
    cases hm : M[n]? with
    | none => rw [hm] at hk'; cases hk'
    | some o =>
      rw [hm] at hk'
      cases o with
      | lst l =>
        obtain ⟨a, e1, _, vs, h2, t⟩ := R.ref r hm (fun z => by cases z)
        subst e1
        exact .base (.lst h2)
      | _ => cases hk'
/-- the classes of these programs, by name -/
inductive Bty where
  | int | bool | str | tuple | list
def Bty.nm : Bty → String
  | .int => "int" | .bool => "bool" | .str => "str" | .tuple => "tuple" | .list => "list"
def tab : Bty → Bty → Bool
  | .bool, .int => true
  | .int, .int => true
  | .bool, .bool => true
  | .str, .str => true
  | .tuple, .tuple => true
  | .list, .list => true
  | _, _ => false
theorem kit_tab {K : PySem.W.Frag} : ∀ a t : Bty, PySem.W.kitOne K (.type a.nm) (.type t.nm) = some (tab a t) := by
  have h : ∀ a t : Bty, kitB a.nm t.nm = some (tab a t) := by intro a t; cases a <;> cases t <;> decide +kernel
  exact fun a t => kit_ty (h a t)
theorem kit_non {K : PySem.W.Frag} : ∀ t : Bty, PySem.W.kitOne K (.type "NoneType") (.type t.nm) = some false := by
  have h : ∀ t : Bty, kitB "NoneType" t.nm = some false := by intro t; cases t <;> decide +kernel
  exact fun t => kit_ty (h t)
def isTy (d : D) (t : Bty) : Bool := match d with
  | .non => false
  | .bl _ => tab .bool t
  | .int _ => tab .int t
  | .str _ => tab .str t
  | .tup _ => tab .tuple t
  | _ => tab .list t
theorem kit_isTy {K : PySem.W.Frag} (d : D) (t : Bty) : PySem.W.kitOne K (.type (tyOf d)) (.type t.nm) = some (isTy d t) := by
  cases d with
  | non => exact kit_non t
  | bl _ => exact kit_tab .bool t
  | int _ => exact kit_tab .int t
  | str _ => exact kit_tab .str t
  | tup _ => exact kit_tab .tuple t
  | pr _ => exact kit_tab .list t
  | lst _ => exact kit_tab .list t
  | rol _ => exact kit_tab .list t
  | ref _ => exact kit_tab .list t
  | exc _ _ _ => exact kit_tab .list t
  | adr _ => exact kit_tab .list t
def opIsi (ts : List Bty) : D → List MO → Out D := fun d M => if tyKn M d = true then .ok (.bl (ts.any (isTy d))) M else .no
theorem opIsi_calm {ts} : ∀ x M c d e M', opIsi ts x M ≠ .ex c d e M' := by intro x M; exact calm_of calm_ok
theorem boot_bty : ∀ t : Bty, bootBuiltins (Str.ofString t.nm) = some (.type t.nm) := by intro t; cases t <;> decide +kernel
theorem pe_bty (t : Bty) {x : Str} (hx : x = Str.ofString t.nm) (hg : Gl X x) (hm : X.mg x = none) {ps : Pos} : PE X (.Name x ps) (tC (.ty t.nm)) := by
  subst hx
  refine pe_bltn hg hm (boot_bty t) rfl ?_ ?_ <;> cases t <;> decide
/-- isinstance(x, c) -/
theorem se_isi (t : Bty) {x : Str} (hx : x = Str.ofString t.nm) (hg : Gl X "isinstance") (hm : X.mg "isinstance" = none) (hg2 : Gl X x) (hm2 : X.mg x = none) (ha : SE X p a f)
    (he : starEach [a, .Name x p2] X.env = (false, eval a X.env) :: starEach [.Name x p2] X.env := by rfl) (he2 : starEach [.Name x p2] X.env = (false, eval (.Name x p2) X.env) :: starEach [] X.env := by rfl) (hpl : (backTo pos (starEach [.Name x p2] X.env)).any (·.1) = false := by rfl) :
    SE X p (.Call (.Name "isinstance" pn) [a, .Name x p2] [] pos) (eUn (opIsi [t]) f) :=
  pe_imp (pe_callB call_isi hg hm PyProof.Rows.boot_isinstance (pa_cons ha (pa_cons (pe_bty t hx hg2 hm2) pa_nil he2) he) (he := he) (hpl := hpl)) fun σ H Q ⟨A, M, env, R, S, q⟩ => seqE R S (fun _ _ _ _ z => z) q fun d M1 v H1 A1 s1 r1 q1 => by
    have q2 : OutR (if tyKn M1 d = true then Out.ok (D.bl ([t].any (isTy d))) M1 else .no) _ _ := q1
    obtain ⟨hk, q2⟩ := ifO q2
    refine ⟨v, .ty t.nm, _, _, isTy d t, rfl, .ty _, tyX_rep s1.rel r1 hk, kit_isTy d t, ?_⟩
    have e : ([t].any (isTy d)) = isTy d t := by simp
    rw [e] at q2
    exact q2 _ H1 A1 s1 (.bl _)
/-- isinstance(x, (c, d)) -/
theorem se_isi2 (t u : Bty) {x y : Str} {k : Nat} {p3 p4 : Pos} (hx : x = Str.ofString t.nm) (hy : y = Str.ofString u.nm) (hg : Gl X "isinstance") (hm : X.mg "isinstance" = none) (hg2 : Gl X x) (hm2 : X.mg x = none) (hg3 : Gl X y) (hm3 : X.mg y = none) (ha : SE X p a f)
    (he : starEach [a, .Tuple [.Name x p2, .Name y p3] k p4] X.env = (false, eval a X.env) :: starEach [.Tuple [.Name x p2, .Name y p3] k p4] X.env := by rfl)
    (he2 : starEach [.Tuple [.Name x p2, .Name y p3] k p4] X.env = (false, eval (.Tuple [.Name x p2, .Name y p3] k p4) X.env) :: starEach [] X.env := by rfl)
    (he3 : starEach [.Name x p2, .Name y p3] X.env = (false, eval (.Name x p2) X.env) :: starEach [.Name y p3] X.env := by rfl) (he4 : starEach [.Name y p3] X.env = (false, eval (.Name y p3) X.env) :: starEach [] X.env := by rfl)
    (hpl : (backTo pos (starEach [.Tuple [.Name x p2, .Name y p3] k p4] X.env)).any (·.1) = false := by rfl) :
    SE X p (.Call (.Name "isinstance" pn) [a, .Tuple [.Name x p2, .Name y p3] k p4] [] pos) (eUn (opIsi [t, u]) f) :=
  pe_imp (pe_callB call_isiT hg hm PyProof.Rows.boot_isinstance (pa_cons ha (pa_cons (pe_tup (pa_cons (pe_bty t hx hg2 hm2) (pa_cons (pe_bty u hy hg3 hm3) pa_nil he4) he3)) pa_nil he2) he) (he := he) (hpl := hpl)) fun σ H Q ⟨A, M, env, R, S, q⟩ => seqE R S (fun _ _ _ _ z => z) q fun d M1 v H1 A1 s1 r1 q1 => by
    have q2 : OutR (if tyKn M1 d = true then Out.ok (D.bl ([t, u].any (isTy d))) M1 else .no) _ _ := q1
    obtain ⟨hk, q2⟩ := ifO q2
    refine ⟨by show 2 ≤ sizeLine; rw [sizeLine_eq]; omega, fun tp htp => ?_⟩
    have sl : Stp X.K p.T A1 H1 A1 M1 (upd H1 tp (.tup [.ty t.nm, .ty u.nm])) := .lay s1.rel htp
    refine ⟨v, tp, [.ty t.nm, .ty u.nm], _, [.type t.nm, .type u.nm], isTy d t || isTy d u, rfl, upd_same, .cons (.ty _) (.cons (.ty _) .nil), tyX_rep sl.rel (r1.stp s1.rel sl) hk, ?_, ?_⟩
    · refine kitAny_cons (kit_isTy d t) (fun e1 => ?_) fun e1 => by rw [e1]; rfl
      refine kitAny_cons (kit_isTy d u) (fun e2 => ?_) fun e2 => by rw [e2, Bool.or_true]
      rw [e1, e2]
      exact kitAny_nil
    · have e : ([t, u].any (isTy d)) = (isTy d t || isTy d u) := by simp
      rw [e] at q2
      exact q2 _ _ A1 (s1.trans sl) (.bl _)
/-! ### tuple(x), list(x) -/
def opTupOf : D → List MO → Out D
  | .tup l, M => .ok (.tup l) M
  | d, M => match asL M d with
    | some l => .ok (.tup l) M
    | none => .no
theorem opTupOf_calm : ∀ x M c d e M', opTupOf x M ≠ .ex c d e M' := by
  intro x M c d e M' q
  unfold opTupOf at q
  split at q
  · cases q
  · split at q <;> cases q
theorem se_tupOf (hg : Gl X "tuple") (hm : X.mg "tuple" = none) (ha : SE X p a f) (na : starEach [a] X.env = (false, eval a X.env) :: starEach [] X.env := by rfl) : SE X p (.Call (.Name "tuple" pn) [a] [] pos) (eUn opTupOf f) :=
  se_un (r := kTupZ X.K) (fun ta h1 => pe_tupleOfZ hg hm h1 na) (fun T A M H x v Q R r h => by
    unfold opTupOf at h
    split at h
    · obtain ⟨a', vs, e1, h1, t⟩ := rep_tup r
      subst e1
      exact .inr ⟨a', vs, rfl, h1, h _ H A (.refl R) r⟩
    · split at h
      · rename_i l e1
        obtain ⟨a', vs, e2, h2, t⟩ := asL_rep R r e1
        exact .inl ⟨a', vs, e2, h2, new_tup R t h⟩
      · exact h.elim) opTupOf_calm ha
noncomputable def opLstOf (mk : Mk) : List D → List MO → Out D
  | [d], M => match asSeq M d with
    | some l => mk l M
    | none => .no
  | _, _ => .no
theorem se_lstOf (mk : Mk) (hk : MkOk mk) (hg : Gl X "list") (hm : X.mg "list" = none) (h : SA X p (e :: es) fs) (he : starEach (e :: es) X.env = (false, eval e X.env) :: starEach es X.env := by rfl) (hpl : (backTo pos (starEach es X.env)).any (·.1) = false := by rfl) :
    SE X p (.Call (.Name "list" pn) (e :: es) [] pos) (eB (opLstOf mk) fs) :=
  se_b (fun t ht => pe_callTy call_list_of hg hm PyProof.Rows.boot_list ht (he := he) (hpl := hpl)) (fun T A M H xs vs Q R r h => by
    unfold opLstOf at h
    split at h
    · rename_i d
      obtain ⟨v, e, r'⟩ := reps1 r
      subst e
      cases e1 : asSeq M d with
      | none => rw [e1] at h; exact h.elim
      | some l =>
        rw [e1] at h
        obtain ⟨a', ws, e2, h2, t⟩ := asSeq_rep R r' e1
        subst e2
        exact ⟨a', ws, rfl, h2, fun q hq => hk.run _ _ _ _ _ _ _ _ _ R hq t h⟩
    · exact h.elim) (fun xs M c d e M' q => by
      unfold opLstOf at q
      split at q
      · split at q
        · exact hk.calm _ _ _ _ _ _ q
        · cases q
      · cases q) h
/-- list(range(..)), tuple(range(..)) -/
abbrev EvR := Env → List MO → Out (Int × Int)
def tR (K : PySem.W.Frag) (p : Pm) (f : EvR) : L2.St → Hp → (Int → Int → Hp → Prop) → Prop := fun σ H Q => ∃ A M env, Rel K p.T A M H ∧ RepS K A H env σ ∧ OutR (f env M) (fun o M' => ∀ H' A', Stp K p.T A H A' M' H' → Q o.1 o.2 H') (Exc K p A H)
def rg1 (f : EvE) : EvR := fun env M => (f env M).bind fun d M1 => match d with
  | .int j => .ok (0, j) M1
  | _ => .no
def rg2 (f g : EvE) : EvR := fun env M => (f env M).bind fun d M1 => (g env M1).bind fun d2 M2 => match d, d2 with
  | .int i, .int j => .ok (i, j) M2
  | _, _ => .no
abbrev SRg (X : Cx) (p : Pm) (e : Expr) (f : EvR) : Prop := PRg X e (tR X.K p f)
theorem srg_1 (hg : Gl X "range") (hm : X.mg "range" = none) (ha : SE X p a f) (na : starEach [a] X.env = (false, eval a X.env) :: starEach [] X.env := by rfl) : SRg X p (.Call (.Name "range" pn) [a] [] pos) (rg1 f) :=
  fun pins s σ H Q I ⟨A, M, env, R, S, q⟩ => prg_1 hg hm ha na pins s σ H Q I (seqE R S (fun _ _ _ _ z => z) q fun d M1 v H1 A1 s1 r1 q1 => by
    cases d with
    | int j => exact ⟨j, rep_int r1, q1 H1 A1 s1⟩
    | _ => exact q1.elim)
theorem srg_2 (hg : Gl X "range") (hm : X.mg "range" = none) (ha : SE X p a f) (hb : SE X p b g) (na : starEach [a, b] X.env = (false, eval a X.env) :: starEach [b] X.env := by rfl)
    (nb : starEach [b] X.env = (false, eval b X.env) :: starEach [] X.env := by rfl) (hp : (backTo pos (starEach [b] X.env)).any (·.1) = false := by rfl) : SRg X p (.Call (.Name "range" pn) [a, b] [] pos) (rg2 f g) :=
  fun pins s σ H Q I ⟨A, M, env, R, S, q⟩ => prg_2 hg hm ha hb na nb hp pins s σ H Q I (seqE R S (fun _ _ _ _ z => z) q fun d M1 v H1 A1 s1 r1 q1 => seqE s1.rel (S.stp R s1) (fun _ _ _ _ z => Exc.stp s1 z) q1 fun d2 M2 v2 H2 A2 s2 r2 q2 => by
    cases d with
    | int i =>
      cases d2 with
      | int j => exact ⟨i, j, rep_int r1, rep_int r2, q2 H2 A2 (s1.trans s2)⟩
      | _ => exact q2.elim
    | _ => exact q2.elim)
theorem rng_ints (lo : Int) (n : Nat) : rng lo n = ((List.range n).map fun (i : Nat) => lo + (i : Int)).map D.int := by
  unfold rng
  rw [List.map_map]
  rfl
theorem rng_rep {K A H} (i j : Int) : Reps K A H (rng i (j - i).toNat) (rgV i j) := by
  rw [rng_ints]
  have := Reps.ofInts (K := K) (A := A) (H := H) ((List.range (j - i).toNat).map fun (k : Nat) => i + (k : Int))
  simp only [List.map_map] at this ⊢
  exact this
noncomputable def eRgL (mk : Mk) (f : EvR) : EvE := fun env M => (f env M).bind fun o M1 => if RgOk o.1 o.2 then mk (rng o.1 (o.2 - o.1).toNat) M1 else .no
theorem se_listRg (mk : Mk) (hk : MkOk mk) {r : EvR} (hc : X.calm = true) (hg : Gl X "list") (hm : X.mg "list" = none) (he : SRg X p e r) (na : starEach [e] X.env = (false, eval e X.env) :: starEach [] X.env := by rfl) : SE X p (.Call (.Name "list" pn) [e] [] pos) (eRgL mk r) :=
  pe_imp (pe_listRg hc hg hm he na) fun σ H Q ⟨A, M, env, R, S, q⟩ => ⟨A, M, env, R, S, (OutR.of_bind q).imp (fun o M1 _ q1 H1 A1 s1 => by
    obtain ⟨ho, q1⟩ := ifO q1
    exact ⟨ho, fun D hD => hk.run _ _ _ _ _ _ _ _ _ s1.rel hD (rng_rep _ _) ((noex (hk.calm _ _) q1).imp (fun d M' _ z => Fin.stp s1 z) fun _ _ _ _ _ z => z)⟩) fun _ _ _ _ _ z => z⟩
noncomputable def eRgT (f : EvR) : EvE := fun env M => (f env M).bind fun o M1 => if RgOk o.1 o.2 then .ok (.tup (rng o.1 (o.2 - o.1).toNat)) M1 else .no
theorem se_tupRg {r : EvR} (hc : X.calm = true) (hg : Gl X "tuple") (hm : X.mg "tuple" = none) (he : SRg X p e r) (na : starEach [e] X.env = (false, eval e X.env) :: starEach [] X.env := by rfl) : SE X p (.Call (.Name "tuple" pn) [e] [] pos) (eRgT r) :=
  pe_imp (pe_tupRgZ hc hg hm he na) fun σ H Q ⟨A, M, env, R, S, q⟩ => ⟨A, M, env, R, S, (OutR.of_bind q).imp (fun o M1 _ q1 H1 A1 s1 => by
    obtain ⟨ho, q1⟩ := ifO q1
    exact ⟨ho, new_tup s1.rel (rng_rep _ _) (Fin.stp s1 q1)⟩) fun _ _ _ _ _ z => z⟩
/-! ### sum -/
def opSum : List D → List MO → Out D
  | [d], M => match (asL M d).bind intsOf with
    | some ns => .ok (.int ns.sum) M
    | none => .no
  | _, _ => .no
theorem se_sum (hc : X.calm = true) (hg : Gl X "sum") (hm : X.mg "sum" = none) (h : SA X p (e :: es) fs) (he : starEach (e :: es) X.env = (false, eval e X.env) :: starEach es X.env := by rfl) (hpl : (backTo pos (starEach es X.env)).any (·.1) = false := by rfl) :
    SE X p (.Call (.Name "sum" pn) (e :: es) [] pos) (eB opSum fs) :=
  se_b (fun t ht => pe_callB (cr_sum hc) hg hm PyProof.Rows.boot_sum ht (he := he) (hpl := hpl)) (fun T A M H xs vs Q R r h => by
    unfold opSum at h
    split at h
    · rename_i d
      obtain ⟨v, e, r'⟩ := reps1 r
      subst e
      cases e1 : asL M d with
      | none => rw [e1] at h; exact h.elim
      | some l =>
        rw [e1] at h
        cases e2 : intsOf l with
        | none => simp only [Option.bind_some, e2] at h; exact h.elim
        | some ns =>
          simp only [Option.bind_some, e2] at h
          obtain ⟨a', ws, e3, h2, t⟩ := asL_rep R r' e1
          subst e3
          rw [reps_ints t e2] at h2
          exact ⟨a', ns, rfl, h2, h _ H A (.refl R) (.int _)⟩
    · exact h.elim) (fun xs M c d e M' q => by
      unfold opSum at q
      split at q
      · split at q <;> cases q
      · cases q) h
end
end SX
end
section
set_option Elab.async false
set_option linter.all false
set_option maxRecDepth 100000
open Classical
/-! SXi: sorted, max, min, len(set(..)), methods, xs * n, t[::-1]. -/
namespace SX
open PySem PySem.Spec PyProof.Rows L2 PySem.W PySem.Calls
section
variable {prog : Program} {w : World} {A : Around} {E : Value → Shared → Prop} {s : Shared} {β : Type} {vs : List Value} {bs : List β} {enc : β → PyData} {R : Value → β → Prop}
/-- sorted(x), x a list or a tuple that reads as data -/
theorem sorted_seq_data {it : Addr} {T : String} {o : Obj} {n : Nat} {Q : Value → Shared → Prop} (hT : T = "list" ∨ T = "tuple") (ho : s.heap.get? it = some o) (hc : o.cls = .type T) (hd : o.data = .seq vs.toArray n)
    (e : EachIs R vs bs) (er : EachIs (fun v b => ∃ as, Reads s.heap v (enc b) as) vs bs) (hal : AllAlike (bs.map enc)) (hk : Sortable (bs.map enc)) (hL : bs.length ≤ sizeLine)
    (hu : ∀ b, b ∈ bs → A.units + 2 + (enc b).depth < cLine)
    (h : ∀ (h1 h' : Heap) (D : Addr) (out : List Value) (c : Nat), (∀ b o, s.heap.get? b = some o → h1.get? b = some o) → (∀ b o, h1.get? b = some o → h'.get? b = some o) → h1.objs.size ≤ D → h'.get? D = some (seqObj "list" out.toArray c) → out.length = bs.length → EachIs R out (bs.mergeSort (dataLe false enc)) → Q (.ref D) { s with heap := h' }) :
    wpAny (model prog w) A (call (.builtin "sorted") [.ref it]) Q E s := by
  have hz : vs.length ≤ sizeLine := by rw [e.length]; exact hL
  refine Calls.call_function_entry kind_sorted plain_sorted entry_sorted (args_sorted1 _) ?_
  unfold Builtin.«sorted»
  refine wpAny_bind (m := checkCount "sorted" 1 1 _) (wpAny_pure ?_)
  refine wpAny_bind (wpAny_collect_seq it hT ho hc hd (fun h1 k1 => ?_) (by simpa using hz))
  rw [List.toList_toArray]
  refine wpAny_bind (wpAny_newList ?_ hz)
  show wpAny _ _ _ _ _ { s with heap := h1.push (seqObj "list" vs.toArray 0) }
  have hat : (h1.push (seqObj "list" vs.toArray 0)).get? h1.objs.size = some (seqObj "list" vs.toArray 0) := Heap.get?_push_size _ rfl
  have keep2 : ∀ b u, h1.get? b = some u → b ≠ h1.objs.size ∧ (h1.push (seqObj "list" vs.toArray 0)).get? b = some u := fun b u q => ⟨Nat.ne_of_lt (Heap.lt_size q), Heap.get?_push_of_some _ q⟩
  have er' : EachIs (fun v b => ∃ as, Reads (sortingHeap (h1.push (seqObj "list" vs.toArray 0)) h1.objs.size vs) v (enc b) as) vs bs := er.mono fun _ _ ⟨as, r⟩ => ⟨as, PyProof.Rows.Reads.keeps (fun b u q => sortingHeap_old (keep2 b u (k1 b u q)).1 (keep2 b u (k1 b u q)).2) r⟩
  obtain ⟨c, hc'⟩ := PyProof.Rows.sortedHeap_at (vs := vs) (out := (sortVals (dataKind (sortingHeap (h1.push (seqObj "list" vs.toArray 0)) h1.objs.size vs) (bs.map enc)) false vs vs).toArray) hat
  refine wpAny_bind (wpAny_holding (wpAny_call_entry slot_list_sort ⟨_, hat, rfl⟩ entry_list_sort (list_sort_vals (κ := dataKind (sortingHeap (h1.push (seqObj "list" vs.toArray 0)) h1.objs.size vs) (bs.map enc)) (s := { s with heap := h1.push (seqObj "list" vs.toArray 0) }) hat
    (SortsAt.data (s := { s with heap := sortingHeap (h1.push (seqObj "list" vs.toArray 0)) h1.objs.size vs }) (each_map (R := fun v d => ∃ as, Reads (sortingHeap (h1.push (seqObj "list" vs.toArray 0)) h1.objs.size vs) v d as) enc er') hal hk (bound_map hu)) hz ⟨_, rfl, ?_⟩) (args_list_sort _)))
  refine wpAny_pure ⟨_, rfl, h h1 _ _ _ c k1 (fun b u q => ?_) (Nat.le_refl _) hc' (by rw [sortVals_length false rfl]; exact e.length) (sortVals_data false e er' hal)⟩
  rw [sortedHeap_old (keep2 b u q).1 (Heap.lt_size (keep2 b u q).2)]
  exact (keep2 b u q).2
end
/-! ### sorted -/
/-- what a thing reads as -/
noncomputable def encD (M : List MO) (d : D) : PyData := (toPy M d).getD .none
theorem encD_of {M : List MO} {l : List D} (h : ∀ d ∈ l, (toPy M d).isSome = true) : ∀ d ∈ l, toPy M d = some (encD M d) := fun d hd => by
  have := h d hd
  unfold encD
  cases e : toPy M d with
  | none => rw [e] at this; cases this
  | some y => rfl
structure SortOk (M : List MO) (l : List D) : Prop where
  all : ∀ d ∈ l, (toPy M d).isSome = true
  alike : AllAlike (l.map (encD M))
  kind : Sortable (l.map (encD M))
  len : l.length ≤ sizeLine
  deep : ∀ d ∈ l, (encD M d).depth ≤ 60
noncomputable def sortD (M : List MO) (l : List D) : List D := l.mergeSort (dataLe false (encD M))
noncomputable def opSorted (mk : Mk) : List D → List MO → Out D
  | [d], M => match asSeq M d with
    | some l => if SortOk M l then mk (sortD M l) M else .no
    | none => .no
  | _, _ => .no
section
variable {X : Cx}
def rSortedD (X : Cx) : List V → Hp → VK → Prop := fun xs H Q => ∃ T A M d l a vs, xs = [V.ref a] ∧ Rel X.K T A M H ∧ Rep X.K A H d (.ref a) ∧ asSeq M d = some l ∧ (SqL X.K H a vs ∨ SqT X.K H a vs) ∧ Reps X.K A H l vs ∧ SortOk M l ∧
  ∀ D ws, H D = none → Reps X.K A H (sortD M l) ws → Q (.ref D) (upd H D (.lst ws))
theorem each_reps {K : PySem.W.Frag} {A : Ads} {H : Hp} : ∀ {l : List D} {vs : List V} {us : List Value}, Reps K A H l vs → Vals vs us → EachIs (fun u d => ∃ v, RelV v u ∧ Rep K A H d v) us l
  | _, _, _, .nil, .nil => .nil
  | _, _, _, .cons r t, .cons q k => .cons ⟨_, q, r⟩ (each_reps t k)
theorem reps_each {K : PySem.W.Frag} {A : Ads} {H : Hp} : ∀ {l : List D} {us : List Value}, EachIs (fun u d => ∃ v, RelV v u ∧ Rep K A H d v) us l → ∃ vs, Vals vs us ∧ Reps K A H l vs
  | _, _, .nil => ⟨[], .nil, .nil⟩
  | _, _, .cons ⟨v, q, r⟩ t => by
    obtain ⟨vs, h1, h2⟩ := reps_each t
    exact ⟨v :: vs, .cons q h1, .cons r h2⟩
theorem each_reads {pins : List (Addr × Obj)} {σ : L2.St} {s : Shared} {T : List Addr} {A : Ads} {M : List MO} {H : Hp} (I : Inv X pins σ H s) (R : Rel X.K T A M H) : ∀ {l : List D} {us : List Value}, EachIs (fun u d => ∃ v, RelV v u ∧ Rep X.K A H d v) us l → (∀ d ∈ l, toPy M d = some (encD M d)) → EachIs (fun v b => ∃ as, Reads s.heap v (encD M b) as) us l
  | _, _, .nil, _ => .nil
  | _, _, .cons ⟨v, q, r⟩ t, h => .cons (Dp.reads I _ _ _ (toPy_rep R r (h _ List.mem_cons_self)) q) (each_reads I R t fun d hd => h d (List.mem_cons_of_mem _ hd))
theorem cr_sortedD {k : Nat} (hr : Room k X.A) : CallR X (.builtin "sorted") (rSortedD X) := by
  intro pins s σ H vs us Q I r h
  obtain ⟨T, A, M, d, l, a, ys, rfl, R, rd, e1, hs, t, ok, q⟩ := h
  obtain ⟨u, rfl, rx⟩ := vals1 r
  cases rx
  obtain ⟨its, rv, T', o, n, hT, ho, hc, hd, hz⟩ : ∃ (its : List Value) (_ : Vals ys its) (T' : String) (o : Obj) (n : Nat), (T' = "list" ∨ T' = "tuple") ∧ s.heap.get? a = some o ∧ o.cls = .type T' ∧ o.data = .seq its.toArray n ∧ its.length ≤ sizeLine := by
    rcases hs with hs | hs
    · obtain ⟨its, rv, pl, hz⟩ := I.list hs
      obtain ⟨o, ho, hc, n, hd⟩ := pl.isList
      exact ⟨its, rv, _, o, n, .inl rfl, ho, hc, hd, by rw [← rv.length]; exact hz⟩
    · obtain ⟨its, rv, pl, hz⟩ := I.tuple hs
      obtain ⟨o, ho, hc, n, hd⟩ := pl
      exact ⟨its, rv, _, o, n, .inr rfl, ho, hc, hd, by rw [← rv.length]; exact hz⟩
  have e := each_reps t rv
  refine sorted_seq_data hT ho hc hd e (each_reads I R e (encD_of ok.all)) ok.alike ok.kind ok.len (fun b hb => by have := ok.deep b hb; have := hr.units; omega) fun h1 h' D out c k1 k2 hD hat hlen he => ?_
  have I1 : Inv X pins σ H { s with heap := h1 } := I.kept (t' := s.toks) k1
  obtain ⟨ws, rw', tw⟩ := reps_each he
  refine ⟨.ref D, upd H D (.lst ws), I1.laid (t' := s.toks) k2 hD ⟨?_, out, c, rw', hat⟩, rfl, q D ws (I1.hok.fresh hD) tw⟩
  rw [rw'.length, hlen]
  exact ok.len
variable {p : Pm} {a b e : Expr} {es : List Expr} {f g : EvE} {fs : EvEs} {pn pos p2 : Pos}
theorem se_sorted (mk : Mk) (hk : MkOk mk) {k : Nat} (hr : Room k X.A) (hg : Gl X "sorted") (hm : X.mg "sorted" = none) (h : SA X p (e :: es) fs) (he : starEach (e :: es) X.env = (false, eval e X.env) :: starEach es X.env := by rfl) (hpl : (backTo pos (starEach es X.env)).any (·.1) = false := by rfl) :
    SE X p (.Call (.Name "sorted" pn) (e :: es) [] pos) (eB (opSorted mk) fs) :=
  se_b (fun t ht => pe_callB (cr_sortedD hr) hg hm PyProof.Rows.boot_sorted ht (he := he) (hpl := hpl)) (fun T A M H xs vs Q R r h => by
    unfold opSorted at h
    split at h
    · rename_i d
      obtain ⟨v, e, r'⟩ := reps1 r
      subst e
      cases e1 : asSeq M d with
      | none => rw [e1] at h; exact h.elim
      | some l =>
        rw [e1] at h
        obtain ⟨ok, h⟩ := ifO h
        obtain ⟨a', ws, e2, h2, t⟩ := asSeq_rep R r' e1
        subst e2
        exact ⟨T, A, M, d, l, a', ws, rfl, R, r', e1, h2, t, ok, fun D us hD tu => hk.run _ _ _ _ _ _ _ _ _ R hD tu h⟩
    · exact h.elim) (fun xs M c d e M' q => by
      unfold opSorted at q
      split at q
      · split at q
        · exact calm_of (fun c d e M' => hk.calm _ _ c d e M') _ _ _ _ q
        · cases q
      · cases q) h
end
end SX
end
section
set_option Elab.async false
set_option linter.all false
set_option maxRecDepth 100000
open Classical
/-! SXj: max, min, len(set(..)), methods, xs * n, t[::-1]. -/
namespace SX
open PySem PySem.Spec PyProof.Rows L2 PySem.W PySem.Calls
theorem hold_ints {h : Heap} : ∀ {ns : List Int} {us : List Value}, Vals (ns.map V.int) us → HoldAll h us ns
  | [], _, .nil => .nil
  | n :: ns, _, .cons r t => by
    obtain ⟨k, rfl⟩ := r
    exact .cons ⟨[], .int n k⟩ (hold_ints t)
theorem holds_int {h : Heap} {v : Value} {x : Int} (H : Holds h v x) : ∃ t, v = .int x t := by
  obtain ⟨as, r⟩ := H
  have r' : Reads h v (.int x) as := r
  cases r' with
  | int i t => exact ⟨t, rfl⟩
/-- the greatest (the least) of y :: ys, the first of equal ones -/
def mxI (mx : Bool) (y : Int) (ys : List Int) : Int := if mx then maxOf y ys else minOf y ys
def mxN (mx : Bool) : String := if mx then "max" else "min"
def rMm (K : PySem.W.Frag) (mx : Bool) : List V → Hp → VK → Prop := fun vs H Q => ∃ (a : Addr) (y : Int) (ys : List Int), vs = [V.ref a] ∧ (SqL K H a ((y :: ys).map V.int) ∨ SqT K H a ((y :: ys).map V.int)) ∧ Q (.int (mxI mx y ys)) H
def rMmK (K : PySem.W.Frag) (mx : Bool) : List V → List V → Hp → VK → Prop := fun vs zs H Q => ∃ (a : Addr) (ns : List Int) (z : V), vs = [V.ref a] ∧ zs = [z] ∧ (SqL K H a (ns.map V.int) ∨ SqT K H a (ns.map V.int)) ∧ (ns = [] → Q z H) ∧ ∀ y ys, ns = y :: ys → Q (.int (mxI mx y ys)) H
section
variable {X : Cx}
theorem cr_mm (mx : Bool) (hc : X.calm = true) {k : Nat} (hr : Room k X.A) : CallR X (.builtin (mxN mx)) (rMm X.K mx) := by
  intro pins s σ H vs us Q I r h
  obtain ⟨a, y, ys, rfl, hs, q⟩ := h
  obtain ⟨u, rfl, rx⟩ := vals1 r
  cases rx
  have hu : X.A.units + 1 + Datum.depth Int < cLine := by have := hr.units; show X.A.units + 1 + 0 < cLine; omega
  rcases hs with hs | hs
  · obtain ⟨its, rv, pl, hz⟩ := I.list hs
    cases mx with
    | true => exact max_list_datum (I.ok.hd hc) pl.isList (hold_ints rv) hu fun i v h' tk _ hv k2 => by obtain ⟨t, rfl⟩ := holds_int hv; exact ⟨.int _, H, I.kept k2, ⟨_, rfl⟩, q⟩
    | false => exact min_list_datum (I.ok.hd hc) pl.isList (hold_ints rv) hu fun i v h' tk _ hv k2 => by obtain ⟨t, rfl⟩ := holds_int hv; exact ⟨.int _, H, I.kept k2, ⟨_, rfl⟩, q⟩
  · obtain ⟨its, rv, pl, hz⟩ := I.tuple hs
    cases mx with
    | true => exact max_tuple_datum (I.ok.hd hc) (vs := its.toArray) pl (hold_ints rv) hu fun i v h' tk _ hv k2 => by obtain ⟨t, rfl⟩ := holds_int hv; exact ⟨.int _, H, I.kept k2, ⟨_, rfl⟩, q⟩
    | false => exact min_tuple_datum (I.ok.hd hc) (vs := its.toArray) pl (hold_ints rv) hu fun i v h' tk _ hv k2 => by obtain ⟨t, rfl⟩ := holds_int hv; exact ⟨.int _, H, I.kept k2, ⟨_, rfl⟩, q⟩
theorem cr_mmK (mx : Bool) (hc : X.calm = true) {k : Nat} (hr : Room k X.A) : CallRK X (.builtin (mxN mx)) [Str.ofString "default"] (rMmK X.K mx) := by
  intro pins s σ H vs zs us ws Q I r rz h
  obtain ⟨a, ns, z, rfl, rfl, hs, q0, q⟩ := h
  obtain ⟨u, rfl, rx⟩ := vals1 r
  obtain ⟨w1, rfl, rw1⟩ := vals1 rz
  cases rx
  have hu : X.A.units + 1 + Datum.depth Int < cLine := by have := hr.units; show X.A.units + 1 + 0 < cLine; omega
  rcases hs with hs | hs
  · obtain ⟨its, rv, pl, hz⟩ := I.list hs
    cases mx with
    | true => exact max_list_datum_default (I.ok.hd hc) pl.isList (hold_ints rv) hu (fun e h' tk k2 => ⟨z, H, I.kept k2, rw1, q0 e⟩) fun y ys i v h' tk e _ hv k2 => by obtain ⟨t, rfl⟩ := holds_int hv; exact ⟨.int _, H, I.kept k2, ⟨_, rfl⟩, q y ys e⟩
    | false => exact min_list_datum_default (I.ok.hd hc) pl.isList (hold_ints rv) hu (fun e h' tk k2 => ⟨z, H, I.kept k2, rw1, q0 e⟩) fun y ys i v h' tk e _ hv k2 => by obtain ⟨t, rfl⟩ := holds_int hv; exact ⟨.int _, H, I.kept k2, ⟨_, rfl⟩, q y ys e⟩
  · obtain ⟨its, rv, pl, hz⟩ := I.tuple hs
    cases mx with
    | true => exact max_tuple_datum_default (I.ok.hd hc) (vs := its.toArray) pl (hold_ints rv) hu (fun e h' tk k2 => ⟨z, H, I.kept k2, rw1, q0 e⟩) fun y ys i v h' tk e _ hv k2 => by obtain ⟨t, rfl⟩ := holds_int hv; exact ⟨.int _, H, I.kept k2, ⟨_, rfl⟩, q y ys e⟩
    | false => exact min_tuple_datum_default (I.ok.hd hc) (vs := its.toArray) pl (hold_ints rv) hu (fun e h' tk k2 => ⟨z, H, I.kept k2, rw1, q0 e⟩) fun y ys i v h' tk e _ hv k2 => by obtain ⟨t, rfl⟩ := holds_int hv; exact ⟨.int _, H, I.kept k2, ⟨_, rfl⟩, q y ys e⟩
end
/-- a list or a tuple of whole numbers -/
def asInts (M : List MO) (d : D) : Option (List Int) := (asSeq M d).bind intsOf
theorem asInts_rep {K : PySem.W.Frag} {T : List Addr} {A : Ads} {M : List MO} {H : Hp} {d : D} {v : V} {ns : List Int} (R : Rel K T A M H) (r : Rep K A H d v) (e : asInts M d = some ns) : ∃ a, v = .ref a ∧ (SqL K H a (ns.map V.int) ∨ SqT K H a (ns.map V.int)) := by
  unfold asInts at e
  cases e1 : asSeq M d with
  | none => rw [e1] at e; cases e
  | some l =>
    rw [e1] at e
    obtain ⟨a, vs, h1, h2, t⟩ := asSeq_rep R r e1
    have := reps_ints t e
    subst this
    exact ⟨a, h1, h2⟩
def opMm (mx : Bool) : List D → List MO → Out D
  | [d], M => match asInts M d with
    | some (y :: ys) => .ok (.int (mxI mx y ys)) M
    | _ => .no
  | _, _ => .no
def opMm2 (mx : Bool) : List D → List MO → Out D
  | [.int i, .int j], M => .ok (.int (if mx then (if j > i then j else i) else (if j < i then j else i))) M
  | _, _ => .no
def opMmK (mx : Bool) : List D → List D → List MO → Out D
  | [d], [z], M => match asInts M d with
    | some (y :: ys) => .ok (.int (mxI mx y ys)) M
    | some [] => .ok z M
    | none => .no
  | _, _, _ => .no
def eMmK (mx : Bool) (fs gs : EvEs) : EvE := fun env M => (fs env M).bind fun ds M1 => (gs env M1).bind fun es M2 => opMmK mx ds es M2
theorem mx_boot : ∀ mx : Bool, bootBuiltins (Str.ofString (mxN mx)) = some (.builtin (mxN mx)) := by intro mx; cases mx <;> decide +kernel
section
variable {X : Cx} {p : Pm} {a b e o : Expr} {es : List Expr} {f g : EvE} {fs gs : EvEs} {pn pos p2 apos : Pos}
theorem se_mm (mx : Bool) {x : Str} (hx : x = Str.ofString (mxN mx)) {k : Nat} (hr : Room k X.A) (hc : X.calm = true) (hg : Gl X x) (hm : X.mg x = none) (h : SA X p (e :: es) fs) (he : starEach (e :: es) X.env = (false, eval e X.env) :: starEach es X.env := by rfl) (hpl : (backTo pos (starEach es X.env)).any (·.1) = false := by rfl) :
    SE X p (.Call (.Name x pn) (e :: es) [] pos) (eB (opMm mx) fs) := by
  subst hx
  exact se_b (fun t ht => pe_callB (cr_mm mx hc hr) hg hm (mx_boot mx) ht (by cases mx <;> decide) (by cases mx <;> decide) he hpl) (fun T A M H xs vs Q R r h => by
    unfold opMm at h
    split at h
    · rename_i d
      obtain ⟨v, e, r'⟩ := reps1 r
      subst e
      split at h
      · rename_i y ys e1
        obtain ⟨a', e2, h2⟩ := asInts_rep R r' e1
        subst e2
        exact ⟨a', y, ys, rfl, h2, h _ H A (.refl R) (.int _)⟩
      · exact h.elim
    · exact h.elim) (fun xs M c d e M' q => by
      unfold opMm at q
      split at q
      · split at q <;> cases q
      · cases q) h
theorem se_mm2 (mx : Bool) {x : Str} (hx : x = Str.ofString (mxN mx)) (hc : X.calm = true) (hg : Gl X x) (hm : X.mg x = none) (h : SA X p (e :: es) fs) (he : starEach (e :: es) X.env = (false, eval e X.env) :: starEach es X.env := by rfl) (hpl : (backTo pos (starEach es X.env)).any (·.1) = false := by rfl) :
    SE X p (.Call (.Name x pn) (e :: es) [] pos) (eB (opMm2 mx) fs) := by
  subst hx
  cases mx with
  | true => exact se_b (fun t ht => pe_callB (call_max2 hc) hg hm (mx_boot true) ht (by decide) (by decide) he hpl) (fun T A M H xs vs Q R r h => by
      unfold opMm2 at h
      split at h
      · obtain ⟨v, w, e, r1, r2⟩ := reps2 r
        subst e
        exact ⟨_, _, by rw [rep_int r1, rep_int r2], h _ H A (.refl R) (.int _)⟩
      · exact h.elim) (fun xs M c d e M' q => by unfold opMm2 at q; split at q <;> cases q) h
  | false => exact se_b (fun t ht => pe_callB (call_min2 hc) hg hm (mx_boot false) ht (by decide) (by decide) he hpl) (fun T A M H xs vs Q R r h => by
      unfold opMm2 at h
      split at h
      · obtain ⟨v, w, e, r1, r2⟩ := reps2 r
        subst e
        exact ⟨_, _, by rw [rep_int r1, rep_int r2], h _ H A (.refl R) (.int _)⟩
      · exact h.elim) (fun xs M c d e M' q => by unfold opMm2 at q; split at q <;> cases q) h
/-- max(x, default = y) -/
theorem se_mmK (mx : Bool) {x : Str} (hx : x = Str.ofString (mxN mx)) {kws : List Keyword} {k : Nat} (hr : Room k X.A) (hc : X.calm = true) (hg : Gl X x) (hm : X.mg x = none) (h : SA X p (e :: es) fs) (hk : SK X p kws gs)
    (he : backTo pos (starEach (e :: es) X.env) = (false, eval e X.env) :: backTo pos (starEach es X.env) := by rfl) (hpl : (backTo pos (starEach (e :: es) X.env)).any (·.1) = false := by rfl)
    (hall : (backToKw pos (keywordEach kws X.env)).all (·.1.isSome) = true := by rfl) (hnone : (backToKw pos (keywordEach kws X.env)).any (·.1.isNone) = false := by rfl) (hks : (backToKw pos (keywordEach kws X.env)).filterMap (·.1) = [Str.ofString "default"] := by rfl) :
    SE X p (.Call (.Name x pn) (e :: es) kws pos) (eMmK mx fs gs) := by
  subst hx
  refine pe_imp (pe_callBK (cr_mmK mx hc hr) hg hm (mx_boot mx) h hk (by cases mx <;> decide) (by cases mx <;> decide) he hpl hall hnone hks) fun σ H Q ⟨A, M, env, R, S, q⟩ => seqEs R S (fun _ _ _ _ z => z) q fun ds M1 vs H1 A1 s1 r1 q1 =>
    seqEs s1.rel (S.stp R s1) (fun _ _ _ _ z => Exc.stp s1 z) q1 fun es' M2 zs H2 A2 s2 r2 q2 => ?_
  have s12 := s1.trans s2
  have rd := r1.stp s1.rel s2
  match ds, es', rd, r2, q2 with
  | [d], [z], rd, r2, q2 =>
    obtain ⟨v, e1, r1'⟩ := reps1 rd
    obtain ⟨w, e2, r2'⟩ := reps1 r2
    subst e1 e2
    have q3 : OutR (match asInts M2 d with | some (y :: ys) => Out.ok (.int (mxI mx y ys)) M2 | some [] => .ok z M2 | none => .no) (Fin X.K p.T A H Q) (Exc X.K p A H) := q2
    cases e3 : asInts M2 d with
    | none => rw [e3] at q3; exact q3.elim
    | some ns =>
      rw [e3] at q3
      obtain ⟨a', e4, h4⟩ := asInts_rep s2.rel r1' e3
      subst e4
      refine ⟨a', ns, w, rfl, rfl, h4, fun e => ?_, fun y ys e => ?_⟩
      · subst e
        exact q3 _ H2 A2 s12 r2'
      · subst e
        exact q3 _ H2 A2 s12 (.int _)
  | [], _, _, _, q2 => exact q2.elim
  | [_], [], _, _, q2 => exact q2.elim
  | [_], _ :: _ :: _, _, _, q2 => exact q2.elim
  | _ :: _ :: _, _, _, _, q2 => exact q2.elim
end
end SX
end
section
set_option Elab.async false
set_option linter.all false
set_option maxRecDepth 100000
open Classical
/-! SXk: methods of lists, xs * n, t[::-1], len(set(..)). -/
namespace SX
open PySem PySem.Spec PyProof.Rows L2 PySem.W PySem.Calls
def OkM (K : PySem.W.Frag) (r : V → List V → Hp → VK → Prop) (op : D → List D → List MO → Out D) : Prop := ∀ (T : List Addr) (A : Ads) (M : List MO) (H : Hp) (x : D) (xs : List D) (v : V) (vs : List V) (Q : VK), Rel K T A M H → Rep K A H x v → Reps K A H xs vs →
  OutR (op x xs M) (Fin K T A H Q) (fun _ _ _ _ => False) → r v vs H Q
/-- o.m(..), o a list -/
noncomputable def eM (op : D → List D → List MO → Out D) (f : EvE) (fs : EvEs) : EvE := fun env M => (f env M).bind fun o M1 => if (asL M1 o).isSome = true then (fs env M1).bind fun ds M2 => op o ds M2 else .no
section
variable {X : Cx} {p : Pm} {a b e o : Expr} {es : List Expr} {f g : EvE} {fs gs : EvEs} {pn pos p2 p3 apos cpos : Pos} {name : Str}
theorem se_bm {id : String} {r : V → List V → Hp → VK → Prop} {op : D → List D → List MO → Out D} (slot : Slot "list" name id) (hty : typeOf (.builtin id) = pure (.type "method_descriptor")) (hm : MtR X id r) (ok : OkM X.K r op) (hc : ∀ x xs M c d e M', op x xs M ≠ .ex c d e M') (ho : SE X p o f) (ha : SA X p (e :: es) fs)
    (hbase : attributeBase o name X.env (eval o X.env) = eval o X.env := by rfl)
    (hfew : ((backTo cpos (starEach (e :: es) X.env)).all (fun x => !x.1) && (backToKw cpos (keywordEach [] X.env)).all (fun x => x.1.isSome)
      && decide ((e :: es).length + ([] : List Keyword).length + (if ([] : List Keyword).isEmpty then 0 else 1) < 30)) = true := by rfl)
    (hline : (apos.endLine == cpos.line) = true := by rfl) (hs : starEach (e :: es) X.env = (false, eval e X.env) :: starEach es X.env := by rfl) (hplain : (backTo cpos (starEach es X.env)).any (·.1) = false := by rfl) :
    SE X p (.Call (.Attribute o name apos) (e :: es) [] cpos) (eM op f fs) :=
  pe_imp (pe_bm PySem.F.plainAttrs_list slot hty hm ho ha hbase hfew hline hs hplain) fun σ H Q ⟨A, M, env, R, S, q⟩ => seqE R S (fun _ _ _ _ z => z) q fun d M1 v H1 A1 s1 r1 q1 => by
    obtain ⟨hl, q1⟩ := ifO q1
    cases e1 : asL M1 d with
    | none => rw [e1] at hl; cases hl
    | some l =>
      obtain ⟨a', vs, e2, h2, t⟩ := asL_rep s1.rel r1 e1
      refine ⟨?_, seqEs s1.rel (S.stp R s1) (fun _ _ _ _ z => Exc.stp s1 z) q1 fun ds M2 us H2 A2 s2 r2 q2 => ?_⟩
      · subst e2
        exact .inl ⟨rfl, vs, h2⟩
      · exact ok p.T A2 M2 H2 d ds v us Q s2.rel (r1.stp s1.rel s2) r2 ((noex (hc d ds M2) q2).imp (fun d M' _ z => Fin.stp (p := p) (s1.trans s2) z) fun _ _ _ _ _ z => z)
noncomputable def opAppend : D → List D → List MO → Out D
  | .ref n, [y], M => match M[n]? with
    | some (.lst l) => if l.length < sizeLine then .ok .non (M.set n (.lst (l ++ [y]))) else .no
    | _ => .no
  | _, _, _ => .no
theorem se_append (ho : SE X p o f) (ha : SA X p (e :: es) fs) (hbase : attributeBase o "append" X.env (eval o X.env) = eval o X.env := by rfl)
    (hfew : ((backTo cpos (starEach (e :: es) X.env)).all (fun x => !x.1) && (backToKw cpos (keywordEach [] X.env)).all (fun x => x.1.isSome)
      && decide ((e :: es).length + ([] : List Keyword).length + (if ([] : List Keyword).isEmpty then 0 else 1) < 30)) = true := by rfl)
    (hline : (apos.endLine == cpos.line) = true := by rfl) (hs : starEach (e :: es) X.env = (false, eval e X.env) :: starEach es X.env := by rfl) (hplain : (backTo cpos (starEach es X.env)).any (·.1) = false := by rfl) :
    SE X p (.Call (.Attribute o "append" apos) (e :: es) [] cpos) (eM opAppend f fs) :=
  se_bm PySem.F.slot_list_append PySem.F.type_list_append mt_append (fun T A M H x xs v vs Q R rx rxs h => by
    unfold opAppend at h
    split at h
    · rename_i n y
      obtain ⟨w, e1, ry⟩ := reps1 rxs
      subst e1
      split at h
      · rename_i l hm
        obtain ⟨hz, h⟩ := ifO h
        obtain ⟨a', e2, ha', ws, h2, t⟩ := R.ref rx hm (fun z => by cases z)
        refine ⟨a', ws, w, e2, rfl, h2, by rw [← t.length]; exact hz, ?_⟩
        exact h _ _ A (Stp.setO R ha' fun m => ⟨_, upd_same, (t.mv R m).append (.cons (ry.mv R m) .nil)⟩) .non
      · exact h.elim
    · exact h.elim) (fun x xs M c d e M' q => by
      unfold opAppend at q
      split at q
      · split at q
        · exact calm_of calm_ok _ _ _ _ q
        · cases q
      · cases q) ho ha hbase hfew hline hs hplain
noncomputable def opInsert : D → List D → List MO → Out D
  | .ref n, [.int i, y], M => match M[n]? with
    | some (.lst l) => if l.length < sizeLine ∧ 0 ≤ i ∧ i < 2 ^ 63 then .ok .non (M.set n (.lst (l.take i.toNat ++ [y] ++ l.drop i.toNat))) else .no
    | _ => .no
  | _, _, _ => .no
theorem se_insert (ho : SE X p o f) (ha : SA X p (e :: es) fs) (hbase : attributeBase o "insert" X.env (eval o X.env) = eval o X.env := by rfl)
    (hfew : ((backTo cpos (starEach (e :: es) X.env)).all (fun x => !x.1) && (backToKw cpos (keywordEach [] X.env)).all (fun x => x.1.isSome)
      && decide ((e :: es).length + ([] : List Keyword).length + (if ([] : List Keyword).isEmpty then 0 else 1) < 30)) = true := by rfl)
    (hline : (apos.endLine == cpos.line) = true := by rfl) (hs : starEach (e :: es) X.env = (false, eval e X.env) :: starEach es X.env := by rfl) (hplain : (backTo cpos (starEach es X.env)).any (·.1) = false := by rfl) :
    SE X p (.Call (.Attribute o "insert" apos) (e :: es) [] cpos) (eM opInsert f fs) :=
  se_bm PySem.F.slot_list_insert PySem.F.type_list_insert mt_insert (fun T A M H x xs v vs Q R rx rxs h => by
    unfold opInsert at h
    split at h
    · rename_i n i y
      obtain ⟨u, w, e1, ri, ry⟩ := reps2 rxs
      subst e1
      split at h
      · rename_i l hm
        obtain ⟨⟨hz, h0, h63⟩, h⟩ := ifO h
        obtain ⟨a', e2, ha', ws, h2, t⟩ := R.ref rx hm (fun z => by cases z)
        refine ⟨a', ws, i, w, e2, by rw [rep_int ri], h2, by rw [← t.length]; exact hz, h0, h63, ?_⟩
        exact h _ _ A (Stp.setO R ha' fun m => ⟨_, upd_same, (((t.mv R m).take _).append (.cons (ry.mv R m) .nil)).append ((t.mv R m).drop _)⟩) .non
      · exact h.elim
    · exact h.elim) (fun x xs M c d e M' q => by
      unfold opInsert at q
      split at q
      · split at q
        · exact calm_of calm_ok _ _ _ _ q
        · cases q
      · cases q) ho ha hbase hfew hline hs hplain
/-- l.index(i), a list of whole numbers that has it -/
noncomputable def opIndex : D → List D → List MO → Out D
  | x, [.int i], M => match (asL M x).bind intsOf with
    | some ns => if i ∈ ns then .ok (.int (ns.idxOf i : Nat)) M else .no
    | none => .no
  | _, _, _ => .no
theorem idx_first {ns : List Int} {i : Int} (h : i ∈ ns) : ns[ns.idxOf i]? = some i ∧ ∀ m z, m < ns.idxOf i → ns[m]? = some z → z ≠ i := by
  induction ns with
  | nil => cases h
  | cons n ns ih =>
    by_cases e : n = i
    · subst e
      have h0 : (n :: ns).idxOf n = 0 := by simp
      rw [h0]
      exact ⟨rfl, fun m z hm => absurd hm (Nat.not_lt_zero _)⟩
    · have h1 : (n :: ns).idxOf i = ns.idxOf i + 1 := by rw [List.idxOf_cons, cond_eq_if, if_neg (by simpa using e)]
      have hi : i ∈ ns := (List.mem_cons.mp h).elim (fun q => (e q.symm).elim) id
      obtain ⟨h2, h3⟩ := ih hi
      rw [h1]
      refine ⟨by simpa using h2, fun m z hm hz => ?_⟩
      cases m with
      | zero =>
        have : n = z := by simpa using hz
        exact this ▸ e
      | succ m => exact h3 m z (by omega) (by simpa using hz)
theorem se_index (ho : SE X p o f) (ha : SA X p (e :: es) fs) (hbase : attributeBase o "index" X.env (eval o X.env) = eval o X.env := by rfl)
    (hfew : ((backTo cpos (starEach (e :: es) X.env)).all (fun x => !x.1) && (backToKw cpos (keywordEach [] X.env)).all (fun x => x.1.isSome)
      && decide ((e :: es).length + ([] : List Keyword).length + (if ([] : List Keyword).isEmpty then 0 else 1) < 30)) = true := by rfl)
    (hline : (apos.endLine == cpos.line) = true := by rfl) (hs : starEach (e :: es) X.env = (false, eval e X.env) :: starEach es X.env := by rfl) (hplain : (backTo cpos (starEach es X.env)).any (·.1) = false := by rfl) :
    SE X p (.Call (.Attribute o "index" apos) (e :: es) [] cpos) (eM opIndex f fs) :=
  se_bm PySem.F.slot_list_index PySem.F.type_list_index mt_index (fun T A M H x xs v vs Q R rx rxs h => by
    unfold opIndex at h
    split at h
    · rename_i i
      obtain ⟨w, e1, ri⟩ := reps1 rxs
      subst e1
      cases e1 : asL M x with
      | none => rw [e1] at h; exact h.elim
      | some l =>
        rw [e1] at h
        cases e2 : intsOf l with
        | none => simp only [Option.bind_some, e2] at h; exact h.elim
        | some ns =>
          simp only [Option.bind_some, e2] at h
          obtain ⟨hi, h⟩ := ifO h
          obtain ⟨a', ws, e3, h2, t⟩ := asL_rep R rx e1
          have := reps_ints t e2
          subst this
          obtain ⟨k1, k2⟩ := idx_first hi
          refine ⟨a', ns.map V.int, .int i, ns.idxOf i, .int i, e3, by rw [rep_int ri], h2, rfl, by rw [List.all_map]; exact List.all_eq_true.mpr fun _ _ => rfl, by rw [List.getElem?_map, k1]; rfl, ?_, fun m z' hm hz => ?_, h _ H A (.refl R) (.int _)⟩
          · show (i == i) = true
            exact beq_self_eq_true i
          · rw [List.getElem?_map] at hz
            cases e4 : ns[m]? with
            | none => rw [e4] at hz; cases hz
            | some z =>
              rw [e4] at hz
              cases hz
              show (z == i) = false
              exact beq_eq_false_iff_ne.mpr (k2 m z hm e4)
    · exact h.elim) (fun x xs M c d e M' q => by
      unfold opIndex at q
      split at q
      · split at q
        · exact calm_of calm_ok _ _ _ _ q
        · cases q
      · cases q) ho ha hbase hfew hline hs hplain
end
end SX
end
section
set_option Elab.async false
set_option linter.all false
set_option maxRecDepth 100000
open Classical
/-! SXl: t[::-1], xs * n, len(set(..)). -/
namespace SX
open PySem PySem.Spec PyProof.Rows L2 HT
section
variable {prog : Program} {w : World} {A : Around} {E : Value → Shared → Prop} {s : Shared}
theorem rev_pick (xs : Array Value) : ((List.range xs.size).filterMap fun (m : Nat) => xs[(((xs.size : Int) - 1) + (m : Int) * -1).toNat]?).toArray = xs.toList.reverse.toArray := by
  congr 1
  have go : ∀ k, k ≤ xs.size → ((List.range k).filterMap fun (m : Nat) => xs[(((xs.size : Int) - 1) + (m : Int) * -1).toNat]?) = xs.toList.reverse.take k := fun k => by
    induction k with
    | zero => intro _; rfl
    | succ k ih =>
      intro hk
      have e : (((xs.size : Int) - 1) + (k : Int) * -1).toNat = xs.size - 1 - k := by omega
      have hlt : xs.size - 1 - k < xs.size := by omega
      rw [List.range_succ, List.filterMap_append, ih (by omega), List.take_add_one, List.getElem?_reverse (by simp; omega)]
      simp only [List.filterMap_cons, List.filterMap_nil, e, Array.length_toList]
      rw [Array.getElem?_eq_getElem hlt, List.getElem?_eq_getElem (by simpa using hlt)]
      simp
  rw [go xs.size (Nat.le_refl _), List.take_of_length_le (by simp)]
theorem sliceApplied_rev {sl : Addr} {vs : Value} {n : Nat} {Q : Int × Int × Nat → Shared → Prop} (hs : s.heap.IsSliceOf sl .none .none vs) (ps : IsPart vs (some (-1)))
    (h : Q (((n : Int) - 1), -1, n) s) : wpAny (model prog w) A (Builtin.Slice.sliceApplied (.ref sl) (pure (n : Int))) Q E s := by
  obtain ⟨os, hos, hcs, hds⟩ := id hs
  unfold Builtin.Slice.sliceApplied Builtin.Slice.sliceFields
  refine wpAny_bind (wpAny_bind (wpAny_field hos hds (x := .none) rfl (wpAny_bind (wpAny_field hos hds (x := .none) rfl (wpAny_bind (wpAny_field hos hds (x := vs) rfl (wpAny_pure ?_)))))))
  refine wpAny_bind (slicePart_ ps ?_)
  show wpAny _ _ (if ((-1 : Int) == 0) = true then _ else _) _ _ s
  rw [if_neg (by decide)]
  refine wpAny_bind (slicePart_ .none (wpAny_bind (slicePart_ .none (wpAny_bind (wpAny_pure ?_)))))
  show wpAny _ _ (pure (((n : Int) - 1), (-1 : Int), Builtin.Slice.slicePlaces ((n : Int) - 1) (-1) (-1))) _ _ s
  have e : Builtin.Slice.slicePlaces ((n : Int) - 1) (-1) (-1) = n := by
    unfold Builtin.Slice.slicePlaces
    rw [if_neg (by decide), show (- -1 : Int) = 1 from rfl]
    split <;> omega
  rw [e]
  exact wpAny_pure h
theorem getItem_tuple_rev {t sl : Addr} {items : Array Value} {vs : Value} {Q : Value → Shared → Prop} (ht : IsTup s.heap t items) (hs : s.heap.IsSliceOf sl .none .none vs) (ps : IsPart vs (some (-1)))
    (h : Q (.ref s.heap.objs.size) { s with heap := s.heap.push { cls := .type "tuple", data := .seq items.toList.reverse.toArray } })
    (hsz : items.size ≤ sizeLine) : wpAny (model prog w) A (getItem (.ref t) (.ref sl)) Q E s := by
  have htake : sizeOk (.seq items.toList.reverse.toArray) := by
    show items.toList.reverse.toArray.size ≤ sizeLine
    simpa using hsz
  obtain ⟨os, hos, hcs, hds⟩ := id hs
  have hTs : s.TypeIs (.ref sl) "slice" := ⟨os, hos, hcs⟩
  unfold getItem
  try with_reducible refine wpAny_holding ?_
  first | refine wpAny_bind (wpAny_pure ?_) | skip
  refine wpAny_bind (wpAny_sequenceKey ht.typeIs (by decide) ?_)
  refine wpAny_bind (wpAny_callSpecial?_slot (name := Str.ofString "__getitem__") ht.typeIs PyProof.Rows.slot_tuple_getitem
    (wpAny_call_entry PyProof.Rows.slot_tuple_getitem ht.typeIs entry_tuple_getitem ?_ (args_tuple_getitem _ _)))
  show wpAny _ _ (Builtin.Tuple.tupleItemsOf (.ref t) >>= _) _ _ s
  refine wpAny_bind (tupleItemsOf_ ht ?_)
  refine wpAny_bind (wpAny_typeOf hTs ?_)
  rw [if_pos (by decide)]
  refine wpAny_bind (sliceApplied_rev hs ps ?_)
  have hno : ¬ ((((items.size : Int) - 1) == 0 && (-1 : Int) == 1 && items.size == items.size) = true) := by
    rw [show ((-1 : Int) == 1) = false from by decide, Bool.and_false, Bool.false_and]
    exact Bool.false_ne_true
  show wpAny _ _ (if ((((items.size : Int) - 1) == 0 && (-1 : Int) == 1 && items.size == items.size) = true) then _ else _) _ _ s
  rw [if_neg hno, rev_pick]
  first
    | exact wpAny_bind (m := Builtin.Tuple.tupleExact _) (wpAny_newObj_type (wpAny_pure ⟨_, rfl, wpAny_pure h⟩) htake)
    | exact wpAny_bind (m := Builtin.Tuple.tupleExact _) (wpAny_newObj_type (wpAny_bind (wpAny_pure (wpAny_pure ⟨_, rfl, wpAny_pure h⟩))) htake)
    | exact wpAny_bind (wpAny_bind (m := Builtin.Tuple.tupleExact _) (wpAny_newObj_type (wpAny_pure (wpAny_pure ⟨_, rfl, wpAny_pure h⟩)) htake))
    | exact wpAny_bind (wpAny_bind (m := Builtin.Tuple.tupleExact _) (wpAny_newObj_type (wpAny_pure ⟨_, rfl, wpAny_pure h⟩) htake))
end
section
variable {X : Cx}
def rRev (K : PySem.W.Frag) : V → Hp → VK → Prop := fun x H Q => ∃ a xs, x = .ref a ∧ ((SqL K H a xs ∧ ∀ p, H p = none → Q (.ref p) (upd H p (.lst xs.reverse))) ∨ (SqT K H a xs ∧ LayT xs.reverse H Q))
theorem pe_rev {e : Expr} {te : TE} {k : Nat} {p1 p2 p3 pos : Pos} (he : PE X e te) : PE X (.Subscript e (.Slice none none (some (.UnaryOp .USub (.Constant (.int 1) k p1) p2)) p3) pos) (fun σ H Q => te σ H fun x H1 => rRev X.K x H1 Q) := by
  refine ⟨fun pins s σ H Q I h => ?_⟩
  refine Subscript_ (thn (he.run pins s σ H _ I h) fun v s1 ⟨x, H1, I1, r1, q1⟩ => ?_)
  obtain ⟨a, xs, ex, q⟩ := q1
  subst ex
  cases r1
  have hst : PO X (some (.UnaryOp .USub (.Constant (.int 1) k p1) p2)) (tPart (tUn (rU fun i => .int (-i)) (tC (.int 1)))) := po_some (pe_un un_neg pe_int)
  refine wpAny_Slice (thn (po_none.run pins s1 σ H1 (fun o H2 => o = none ∧ H2 = H1) I1 ⟨rfl, rfl⟩) fun vl s2 ⟨l, H2, I2, pl, el, e2⟩ => ?_)
  subst el e2
  refine thn (po_none.run pins s2 σ H2 (fun o H3 => o = none ∧ H3 = H2) I2 ⟨rfl, rfl⟩) fun vu s3 ⟨u, H3, I3, pu, eu, e3⟩ => ?_
  subst eu e3
  refine thn (hst.run pins s3 σ H3 (fun o H4 => o = some (-1) ∧ H4 = H3) I3 ⟨1, rfl, -1, rfl, rfl, rfl⟩) fun vs s4 ⟨o, H4, I4, ps, eo, e4⟩ => ?_
  subst eo e4
  have I5 : Inv X pins σ H4 { s4 with heap := s4.heap.push { cls := .type "slice", data := .fields #[vl, vu, vs] } } := I4.kept (t' := s4.toks) fun b ob q => Heap.get?_push_of_some _ q
  show wpAny (model X.prog X.w) X.A (subscriptTail e (.Slice none none (some (.UnaryOp .USub (.Constant (.int 1) k p1) p2)) p3) (.ref a) (.ref s4.heap.objs.size)) (EP X pins σ Q) X.xe { s4 with heap := s4.heap.push { cls := .type "slice", data := .fields #[vl, vu, vs] } }
  rcases q with ⟨hx, q⟩ | ⟨hx, q⟩
  · obtain ⟨its, r, ht, hz⟩ := I5.list hx
    have hlen := r.length
    refine tail_any (ops := [.ref a, .ref s4.heap.objs.size]) ht.isList.typeIs (PySem.slot_list_getitem.lookup) ?_ (by with_unfolding_all rfl)
    refine wpAny_getItem_list_slice ht.isList (Heap.IsSliceOf.new _ vl vu vs) pl pu ps (by decide) ?_ (by rw [List.size_toArray]; omega)
    rw [PySem.W.krv_pick]
    refine ⟨.ref _, _, I5.laid (t' := s4.toks) (o := .lst xs.reverse) (fun b ob q => Heap.get?_push_of_some _ q) (Nat.le_refl _) ?_, rfl, q _ (I5.hok.fresh (Nat.le_refl _))⟩
    exact ⟨by rw [List.length_reverse]; exact hz, _, 0, r.reverse, Heap.get?_push_size _ rfl⟩
  · obtain ⟨its, r, ht, hz⟩ := I5.tuple hx
    have hlen := r.length
    cases pl
    cases pu
    refine tail_any (ops := [.ref a, .ref s4.heap.objs.size]) ht.typeIs (PyProof.Rows.slot_tuple_getitem.lookup) ?_ (by with_unfolding_all rfl)
    refine getItem_tuple_rev ht (Heap.IsSliceOf.new _ .none .none vs) ps ?_ (by rw [List.size_toArray]; omega)
    exact ⟨.ref _, _, layT I5 (t' := s4.toks) (fun b ob q => Heap.get?_push_of_some _ q) (Nat.le_refl _) (Heap.get?_push_size _ rfl) rfl rfl r.reverse (by rw [List.length_reverse]; exact hz), rfl, q _ _ (I5.hok.fresh (Nat.le_refl _)) rfl⟩
end
def opRev (mk : Mk) : D → List MO → Out D
  | .tup l, M => .ok (.tup l.reverse) M
  | d, M => match asL M d with
    | some l => mk l.reverse M
    | none => .no
section
variable {X : Cx} {p : Pm} {a b e : Expr} {es : List Expr} {f g : EvE} {fs : EvEs} {pn pos p1 p2 p3 : Pos}
theorem se_rev (mk : Mk) (hk : MkOk mk) {k : Nat} (ha : SE X p a f) : SE X p (.Subscript a (.Slice none none (some (.UnaryOp .USub (.Constant (.int 1) k p1) p2)) p3) pos) (eUn (opRev mk) f) :=
  se_un (r := rRev X.K) (fun ta h1 => pe_rev h1) (fun T A M H x v Q R r h => by
    unfold opRev at h
    split at h
    · obtain ⟨a', vs, e1, h1, t⟩ := rep_tup r
      exact ⟨a', vs, e1, .inr ⟨h1, new_tup R t.reverse h⟩⟩
    · split at h
      · rename_i l e1
        obtain ⟨a', vs, e2, h2, t⟩ := asL_rep R r e1
        exact ⟨a', vs, e2, .inl ⟨h2, fun q hq => hk.run _ _ _ _ _ _ _ _ _ R hq t.reverse h⟩⟩
      · exact h.elim) (fun x M c d e M' q => by
      unfold opRev at q
      split at q
      · cases q
      · split at q
        · exact hk.calm _ _ _ _ _ _ q
        · cases q) ha
/-! ### xs * n -/
noncomputable def opRep (mk : Mk) : D → D → List MO → Out D := fun x y M => match asLt M x, y with
  | some l, .int k => if -(2 ^ 63) ≤ k ∧ k < 2 ^ 63 ∧ l.length * k.toNat ≤ sizeLine then mk (List.replicate k.toNat l).flatten M else .no
  | _, _ => .no
theorem reps_rep {K A H} {l : List D} {vs : List V} (t : Reps K A H l vs) : ∀ n, Reps K A H (List.replicate n l).flatten (List.replicate n vs).flatten
  | 0 => .nil
  | n + 1 => by
    rw [List.replicate_succ, List.replicate_succ, List.flatten_cons, List.flatten_cons]
    exact t.append (reps_rep t n)
theorem se_rep (mk : Mk) (hk : MkOk mk) (ha : SE X p a f) (hb : SE X p b g) : SE X p (.BinOp a .Mult b pos) (eBin (opRep mk) f g) :=
  se_bin (fun ta tb h1 h2 => pe_op op_rep h1 h2) (fun T A M H x y v w Q R rx ry h => by
    unfold opRep at h
    split at h
    · rename_i l k e1
      obtain ⟨hz, h⟩ := ifO h
      obtain ⟨a', vs, h1, h2, t⟩ := asLt_rep R rx e1
      exact ⟨a', k, vs, h1, rep_int ry, h2, hz.1, hz.2.1, by rw [← t.length]; exact hz.2.2, fun q hq => hk.run _ _ _ _ _ _ _ _ _ R hq (reps_rep t _) h⟩
    · exact h.elim) (fun x y M c d e M' q => by
      unfold opRep at q
      split at q
      · exact calm_of (fun c d e M' => hk.calm _ _ c d e M') _ _ _ _ q
      · cases q) ha hb
end
/-! ### len(set(x)) -/
/-- each once -/
def dd : List Int → List Int
  | [] => []
  | x :: r => if x ∈ dd r then dd r else x :: dd r
theorem dd_mem {y : Int} : ∀ {l : List Int}, y ∈ dd l ↔ y ∈ l
  | [] => Iff.rfl
  | x :: r => by
    have ih := dd_mem (y := y) (l := r)
    unfold dd
    split
    · rename_i h
      rw [ih, List.mem_cons]
      exact ⟨.inr, fun q => q.elim (fun e => by rw [e]; exact dd_mem.mp h) id⟩
    · rw [List.mem_cons, List.mem_cons, ih]
theorem dd_nodup : ∀ l : List Int, (dd l).Nodup
  | [] => List.nodup_nil
  | x :: r => by
    unfold dd
    split
    · exact dd_nodup r
    · rename_i h
      exact List.nodup_cons.mpr ⟨h, dd_nodup r⟩
theorem dd_of_nodup : ∀ {l : List Int}, l.Nodup → dd l = l
  | [], _ => rfl
  | x :: r, h => by
    obtain ⟨h1, h2⟩ := List.nodup_cons.mp h
    unfold dd
    rw [dd_of_nodup h2, if_neg h1]
theorem nodup_len {l m : List Int} (hl : l.Nodup) (hm : m.Nodup) (h : ∀ x, x ∈ l ↔ x ∈ m) : l.length = m.length := by
  have go : ∀ {l m : List Int}, l.Nodup → (∀ x, x ∈ l → x ∈ m) → l.length ≤ m.length := fun {l m} hl h => by
    induction l generalizing m with
    | nil => exact Nat.zero_le _
    | cons x r ih =>
      obtain ⟨h1, h2⟩ := List.nodup_cons.mp hl
      have hx := h x List.mem_cons_self
      have := ih (m := m.erase x) h2 fun y hy => (List.mem_erase_of_ne (fun e => h1 (by rw [← e]; exact hy))).mpr (h y (List.mem_cons_of_mem _ hy))
      rw [List.length_erase_of_mem hx] at this
      have hp := List.length_pos_of_mem hx
      rw [List.length_cons]
      omega
  exact Nat.le_antisymm (go hl fun x => (h x).mp) (go hm fun x => (h x).mpr)
noncomputable def opLenSet : D → List MO → Out D
  | .tup l, M => match intsOf l with
    | some ns => if ns.length ≤ 4000 then .ok (.int (dd ns).length) M else .no
    | none => .no
  | _, _ => .no
def rLenSet (K : PySem.W.Frag) : V → Hp → VK → Prop := fun x H Q => ∃ (a : Addr) (ns : List Int), x = .ref a ∧ SqT K H a (ns.map V.int) ∧ ns.length ≤ 4000 ∧ Q (.int ((dd ns).length : Nat)) H
section
variable {X : Cx} {p : Pm} {a b e : Expr} {es : List Expr} {f g : EvE} {fs : EvEs} {pn pos p1 p2 p3 q1 : Pos}
theorem pe_lenSetT {ta : TE} (hg : Gl X "len") (hm : X.mg "len" = none) (hg2 : Gl X "set") (hm2 : X.mg "set" = none) (hc : X.calm = true) (ha : PE X a ta)
    (na : starEach [a] X.env = (false, eval a X.env) :: starEach [] X.env := by rfl) : PE X (.Call (.Name "len" p1) [.Call (.Name "set" p2) [a] [] q1] [] pos) (fun σ H Q => ta σ H fun x H1 => rLenSet X.K x H1 Q) := by
  refine ⟨fun pins s σ H Q I h => ?_⟩
  refine Call_ (ld_blt I hg hm boot_len ?_)
  refine PyProof.Rows.callWith_builtin1 (PyProof.Rows.args_cons ?_ rfl) rfl rfl
  refine Call_ (ld_blt I hg2 hm2 PyProof.Rows.boot_set ?_)
  refine PyProof.Rows.callWith_type1 (PyProof.Rows.args_cons (thn (ha.run pins s σ H _ I h) fun v s1 ⟨x, H1, I1, r1, q1⟩ => PyProof.Rows.args_nil ?_) na) na rfl
  obtain ⟨l, ns, rfl, hq, hl, q1⟩ := q1
  cases r1
  obtain ⟨its, r, pl, hz⟩ := I1.tuple hq
  refine call_set_tupI ns (I1.ok.hd hc) pl (by simpa using r.ints) (by unfold scanBound; omega) fun h' tk c hS hc hk => ?_
  refine PyProof.Rows.args_nil ?_
  obtain ⟨o, es, ep, t, ho, hex, hd, _, hnd, hmem, _, hf, hn, _⟩ := hS
  have e : es.size = (dd ns).length := by
    have h1 := nodup_len hnd (dd_nodup ns) fun x => by
      rw [← hmem x, dd_mem]
      simp
    rw [List.length_map, Array.length_toList] at h1
    exact h1
  have I2 : Inv X pins σ H1 { s1 with heap := h', toks := tk } := I1.kept hk
  exact call_len_set ho hex hd hf (by omega) ⟨.int (dd ns).length, H1, I2.tok _, ⟨_, by rw [e]⟩, q1⟩
theorem se_lenSet (hg : Gl X "len") (hm : X.mg "len" = none) (hg2 : Gl X "set") (hm2 : X.mg "set" = none) (hc : X.calm = true) (ha : SE X p a f)
    (na : starEach [a] X.env = (false, eval a X.env) :: starEach [] X.env := by rfl) : SE X p (.Call (.Name "len" p1) [.Call (.Name "set" p2) [a] [] q1] [] pos) (eUn opLenSet f) :=
  se_un (r := rLenSet X.K) (fun ta h1 => pe_lenSetT hg hm hg2 hm2 hc h1 na) (fun T A M H x v Q R r h => by
    unfold opLenSet at h
    split at h
    · split at h
      · rename_i l ns e1
        obtain ⟨hz, h⟩ := ifO h
        obtain ⟨a', vs, e2, h2, t⟩ := rep_tup r
        have := reps_ints t e1
        subst this
        exact ⟨a', ns, e2, h2, hz, h _ H A (.refl R) (.int _)⟩
      · exact h.elim
    · exact h.elim) (fun x M c d e M' q => by
      unfold opLenSet at q
      split at q
      · split at q
        · exact calm_of calm_ok _ _ _ _ q
        · cases q
      · cases q) ha
end
end SX
end
section
set_option Elab.async false
set_option linter.all false
set_option maxRecDepth 100000
open Classical
/-! SXm: a def that only asks a value's class, low; all(.. for ..) of a tuple. -/
namespace SX
open PySem PySem.Spec PyProof.Rows L2 PySem.W
/-- the value's class, in every later heap -/
def Cls2 (K : PySem.W.Frag) (v : Value) (h : Heap) (b : Bool) : Prop := ∃ (t : Value) (Pq : Heap → Prop) (b1 b2 : Bool), PySem.W.KitX K v t Pq ∧ (∀ h', (∀ a o, h.get? a = some o → h'.get? a = some o) → Pq h') ∧ v ≠ .builtin "__main__.__loader__#opaque" ∧
  PySem.W.kitOne K t (.type "int") = some b1 ∧ PySem.W.kitOne K t (.type "bool") = some b2 ∧ b = (b1 && !b2)
section
variable {P : Program} {w : World} {A : Around} {E : Value → Shared → Prop} {s : Shared} {K : PySem.W.Frag} {mg : Str → Option Value} {base : Heap} {env : PySem.Env}
theorem isi_low (Mo : Mod K mg base) (bk : ∀ b o, base.get? b = some o → s.heap.get? b = some o) (hk : env.scope.kind = .function) (hgl : env.globals = mainGlobals) (hbl : env.builtins = builtinsNs)
    {x : Str} {m : Str → Option Value} {v : Value} {p1 p2 p3 p4 : Pos} (hn : s.heap.Ns env.locals m) (hx : env.scope.names.lookup x = some .local) (hm : m x = some v) (hxd : (x == ("__debug__" : Str)) = false)
    (hgi : env.kindOf "isinstance" = some .globalImplicit) (hmi : mg "isinstance" = none) (T : Bty) {y : Str} (hy : y = Str.ofString T.nm) (hgt : env.kindOf y = some .globalImplicit) (hmt : mg y = none)
    {t : Value} {Pq : Heap → Prop} {b : Bool} {Q : Value → Shared → Prop} (Z : PySem.W.KitX K v t Pq) (hp : Pq s.heap) (hne : v ≠ .builtin "__main__.__loader__#opaque") (e : PySem.W.kitOne K t (.type T.nm) = some b)
    (hs1 : starEach [.Name x p2, .Name y p3] env = (false, eval (.Name x p2) env) :: starEach [.Name y p3] env := by rfl) (hs2 : starEach [.Name y p3] env = (false, eval (.Name y p3) env) :: starEach [] env := by rfl) (hpl : (backTo p4 (starEach [.Name y p3] env)).any (·.1) = false := by rfl)
    (h : ∀ tk, Q (.bool b) { s with toks := tk }) : wpAny (model P w) A (eval (.Call (.Name "isinstance" p1) [.Name x p2, .Name y p3] [] p4) env) Q E s := by
  obtain ⟨mb, h1, h2⟩ := Mo.blt
  have hglob : s.heap.Ns env.globals mg := by rw [hgl]; exact Mo.glob.keeps bk
  have hblt : s.heap.Ns env.builtins mb := by rw [hbl]; exact h1.keeps bk
  have hyn : y ≠ "__name__" := by subst hy; cases T <;> decide
  have hyd : (y == ("__debug__" : Str)) = false := by subst hy; cases T <;> decide
  refine wpAny_Call_Name_kw (Calls.Name_function_global hk hgi (Calls.loadGlobal_builtin hglob hmi hblt ((h2 "isinstance" (by decide)).trans PyProof.Rows.boot_isinstance) ?_))
  refine PyProof.Rows.callWith_builtin1 (PyProof.Rows.args_cons (wpAny_Name (wpAny_loadName_local hk hx hn hm ?_) hxd) hs1) hs1 hpl
  refine PyProof.Rows.args_cons (Calls.Name_function_global hk hgt (Calls.loadGlobal_builtin hglob hmt hblt ((h2 y hyn).trans (by subst hy; exact boot_bty T)) ?_) hyd) hs2
  refine PyProof.Rows.args_nil ?_
  exact PySem.W.kia_one Z (Mo.kin.keeps bk) hp e hne h
theorem bindL1 {kindOf : Str → Option NameKind} {x : Str} {v : Value} (h : kindOf x = some .local) : bindL kindOf [(x, v)] (fun _ => none) x = some v := by simp [bindL, h]
/-- a def of one value that answers with a truth, and leaves all else as it was -/
def LeafB (P : Program) (w : World) (base : Heap) (f : Addr) (Pre : Value → Heap → Bool → Prop) : Prop := ∀ (A : Around) (E : Value → Shared → Prop) (s : Shared) (v : Value) (b : Bool), A.depth < recursionLimit → (∀ a o, base.get? a = some o → s.heap.get? a = some o) → Pre v s.heap b → wpAny (model P w) A (call (.ref f) [v]) (fun r s' => r = .bool b ∧ Keeps s s') E s
theorem whole_leaf {x qual tl : Str} {st : Stmt} {f : Addr} {fd : FuncData} {p1 p2 p3 p4 p5 p6 p7 p8 p9 p10 p11 : Pos} (F : L2.Fun K x qual st f fd) (Mo : Mod K mg base) (hb : Binds K fd [tl] [])
    (hS : (defScope st).kind = .function) (hco : (defScope st).isCoroutine = false) (hge : (defScope st).isGenerator = false) (hl : (defScope st).names.lookup tl = some .local) (htd : (tl == ("__debug__" : Str)) = false)
    (hgi : (defScope st).names.lookup ("isinstance" : Str) = some .globalImplicit) (hg1 : (defScope st).names.lookup ("int" : Str) = some .globalImplicit) (hg2 : (defScope st).names.lookup ("bool" : Str) = some .globalImplicit)
    (hmi : mg "isinstance" = none) (hm1 : mg "int" = none) (hm2 : mg "bool" = none)
    (hbody : defBody st = [.Return (some (.BoolOp .And [.Call (.Name "isinstance" p1) [.Name tl p2, .Name "int" p3] [] p4, .UnaryOp .Not (.Call (.Name "isinstance" p5) [.Name tl p6, .Name "bool" p7] [] p8) p9] p10)) p11]) :
    LeafB P w base f (Cls2 K) := by
  intro A E s v b hA bk ⟨t, Pq, b1, b2, Z, hp, hne, e1, e2, eb⟩
  obtain ⟨oc, od, kV, doc, pm, an, cdv, ct, osl, rfl, lk, hcd⟩ := F.ex
  have KX : K.In s.heap := Mo.kin.keeps bk
  have lim : s.heap.NoLimit := Mo.nolimit.keeps bk
  refine wpAny_call (codeAny_mono (R := fun r s' => r = .ok (.ret (.bool b)) ∧ Keeps s s') ?_ fun r s' hr => ?_)
  · refine codeAny_call_function hA (KX _ _ lk) rfl hco hge rfl (PySem.W.codeRec_of KX hcd) ?_
    refine hb s [v] KX rfl _ _ _ _ ?_
    refine wpAny_newFunctionEnv_cells hS (fun y hy => ?_) fun env he s1 xx => ?_
    · have : y = (tl, v) := by simpa using hy
      subst this
      exact .inl hl
    subst he
    refine ⟨lim.keeps xx.toInCall.keep, codeAny_func ?_⟩
    have bk1 : ∀ a o, base.get? a = some o → s1.heap.get? a = some o := fun a o q => xx.toInCall.keep a o (bk a o q)
    have hns := xx.toInCall.ns
    obtain ⟨h1, tk1, hs1⟩ := xx.toInCall.same
    have keep := xx.toInCall.keep
    show wpAny _ _ (execs (defBody st) _) _ _ s1
    rw [hbody]
    have kps : ∀ tk, Keeps s { s1 with toks := tk } := fun tk => by
      subst hs1
      exact ⟨h1, tk, rfl, keep⟩
    refine wpAny_execs_cons (wpAny_Return_some (BoolOp_and (isi_low (E := _) Mo bk1 hS rfl rfl hns hl (bindL1 hl) htd hgi hmi .int rfl hg1 hm1 Z (hp _ keep) hne e1 (h := fun tk => wpAny_truthy_bool ?_))))
    cases b1 with
    | false =>
      rw [if_neg Bool.false_ne_true]
      exact ⟨by rw [eb]; rfl, kps _⟩
    | true =>
      rw [if_pos rfl]
      refine BoolOp_one (UnaryOp_ (isi_low (s := { s1 with toks := tk }) (E := _) Mo bk1 hS rfl rfl hns hl (bindL1 hl) htd hgi hmi .bool rfl hg2 hm2 Z (hp _ keep) hne e2 (h := fun tk2 => not_of (wpAny_truthy_bool ?_))))
      exact ⟨by rw [eb]; rfl, kps _⟩
  · obtain ⟨rfl, hk⟩ := hr
    exact ⟨rfl, hk⟩
end
end SX
end
section
set_option Elab.async false
set_option linter.all false
set_option maxRecDepth 100000
set_option maxHeartbeats 2000000
open Classical
/-! SXn: all(f(x) for x in t), t a tuple, f a def that only asks a class. -/
namespace SX
open PySem PySem.Spec PyProof.Rows L2 PySem.W GxR
/-- the value's class, in every later heap that keeps all but P -/
def ClsB (K : PySem.W.Frag) (P : Addr) (v : Value) (h : Heap) (b : Bool) : Prop := ∃ (t : Value) (Pq : Heap → Prop) (b1 b2 : Bool), PySem.W.KitX K v t Pq ∧ (∀ h', (∀ a o, a ≠ P → h.get? a = some o → h'.get? a = some o) → Pq h') ∧ v ≠ .builtin "__main__.__loader__#opaque" ∧
  PySem.W.kitOne K t (.type "int") = some b1 ∧ PySem.W.kitOne K t (.type "bool") = some b2 ∧ b = (b1 && !b2)
theorem ClsB.to {K : PySem.W.Frag} {P : Addr} {v : Value} {h h2 : Heap} {b : Bool} (c : ClsB K P v h b) (k : ∀ a o, a ≠ P → h.get? a = some o → h2.get? a = some o) : Cls2 K v h2 b := by
  obtain ⟨t, Pq, b1, b2, Z, hp, r⟩ := c
  exact ⟨t, Pq, b1, b2, Z, fun h' k' => hp h' fun a o hne e => k' a o (k a o hne e), r⟩
def trB (bs : List Bool) (j : Nat) : Bool := (bs[j]?).getD false
theorem all_trB (bs : List Bool) : (List.range bs.length).all (trB bs) = bs.all id := by
  rw [Bool.eq_iff_iff, List.all_eq_true, List.all_eq_true]
  constructor
  · intro h b hb
    obtain ⟨j, hj, e⟩ := List.getElem_of_mem hb
    have q := h j (List.mem_range.mpr hj)
    unfold trB at q
    rw [List.getElem?_eq_getElem hj] at q
    rw [← e]
    exact q
  · intro h j hj
    have hj' := List.mem_range.mp hj
    unfold trB
    rw [List.getElem?_eq_getElem hj']
    exact h _ (List.getElem_mem hj')
section
variable {X : Cx} {pins : List (Addr × Obj)} {σ : L2.St} {H : Hp} {s : Shared}
/-- the classes of the items -/
def ClsAll (K : PySem.W.Frag) (P : Addr) (h : Heap) (its : List Value) (bs : List Bool) : Prop := its.length = bs.length ∧ ∀ i u, its[i]? = some u → ClsB K P u h (trB bs i)
def ReadyB (X : Cx) (pins : List (Addr × Obj)) (σ : L2.St) (H1 : Hp) (P : Addr) (bs : List Bool) (g : Addr) (s5 : Shared) : Prop :=
  ∃ (fp wr : List Addr) (G : Array GenState → Array GenState → Prop) (F : Nat → Value → Prop) (St : Nat → Shared → Prop),
    WalksS X.prog X.w X.A.in1 g fp wr G bs.length F St ∧ St 0 s5 ∧ TruthOf X.prog X.w X.A.in1 F (trB bs) ∧
    ∀ s', Moved wr G s5 s' → ∃ H2, Tabbed P H1 H2 ∧ Inv X pins σ H2 s'
theorem gen_tup {c P f : Addr} {iter : Expr} {x fn : Str} {px p1 p2 p3 gpos : Pos} {scope : Scope} {te : TE} {k : Nat} {Q' : Value → Shared → Prop} {R : List Bool → Hp → Prop}
    (hr : Room k X.A) (TB : TabB X.base X.mg c P) (hcode : X.env.code = .ref c) (S : GenS X.env scope x) (hi : PE X iter te) (hf : Mod X.K X.mg X.base → LeafB X.prog X.w X.base f (Cls2 X.K)) (hfk : PySem.W.keepIn X.K (.ref f) = true) (hfm : X.mg fn = some (.ref f)) (hfg : scope.names.lookup fn = some .globalImplicit)
    (hfd : (fn == ("__debug__" : Str)) = false) (hxd : (x == ("__debug__" : Str)) = false)
    (hs : ∀ v, genFold iter X.env v = pure v) (I : Inv X pins σ H s) (h : te σ H fun v H1 => ∃ (t : Addr) (xs : List V) (bs : List Bool), v = .ref t ∧ SqT X.K H1 t xs ∧ TabG H1 P ∧ (∀ s1, Inv X pins σ H1 s1 → ∀ its, Vals xs its → ClsAll X.K P s1.heap its bs) ∧ R bs H1)
    (hQ : ∀ bs H1 g s5, R bs H1 → ReadyB X pins σ H1 P bs g s5 → Q' (.ref g) s5) :
    wpAny (model X.prog X.w) X.A (eval (.GeneratorExp (.Call (.Name fn p1) [.Name x p2] [] p3) [⟨.Name x px, iter, [], 0⟩] scope gpos) X.env) Q' X.xe s := by
  refine wpAny_GeneratorExp_walksQD hr.hd S.co (closure_ok S.free) S.cell S.dot S.loc S.kind (by have := hr.dp; omega) ?_ hs
  refine thn (hi.run pins s σ H _ I h) fun xv s1 ⟨v, H1, I1, r1, q1⟩ => ?_
  obtain ⟨t, xs, bs, rfl, hT, ⟨ps, hP, ht⟩, hcls, q1⟩ := q1
  obtain rfl : xv = .ref t := r1
  obtain ⟨its, rv, pl, hz⟩ := I1.tuple hT
  obtain ⟨hlen, hcl⟩ := hcls s1 I1 its rv
  refine wpAny_pyIter_tuple (items := its.toArray) pl ?_
  have hPs : s1.heap.get? P = some { cls := .none, data := .fields ps } := I1.hok P _ hP
  have hPlt : P < s1.heap.objs.size := Heap.lt_size hPs
  generalize ho : ({ cls := .type "tuple_iterator", data := .fields #[.ref t, .int 0 0] } : Obj) = o
  have hP2 : (s1.heap.push o).get? P = some { cls := .none, data := .fields ps } := Heap.get?_push_of_some _ hPs
  have cd : PySem.W.CodeHd (s1.heap.push o) c P := TB.code.keeps fun b u e => Heap.get?_push_of_some _ (I1.bk b u e)
  have lim2 : (s1.heap.push o).NoLimit := I1.nolimit.push o
  have hIt : (s1.heap.push o).IsTupleIter s1.heap.objs.size t 0 := by subst ho; exact ⟨_, Heap.get?_push_size _ rfl, rfl, rfl⟩
  have htl : t < s1.heap.objs.size := let ⟨_, q, _⟩ := pl; Heap.lt_size q
  have hTu : (s1.heap.push o).IsTuple t its.toArray := pl.push o
  have basP : ∀ a u, X.base.get? a = some u → a ≠ P := fun a u e z => by
    have := (I1.bs a u e).2
    rw [z, hP] at this
    cases this
  have tP : t ≠ P := fun z => by
    obtain ⟨o', h1, h2, n, h3⟩ := pl
    rw [z, hPs] at h1
    cases h1
    cases h2
  have cont : ∀ (code : Value) (h3 : Heap) (tk : Nat) (ps' : Array Value), Heap.ExtBut P (s1.heap.push o) h3 → (s1.heap.push o).objs.size ≤ h3.objs.size → h3.get? P = some { cls := .none, data := .fields ps' } → (∃ more, ps' = ps ++ more) → TriplesOk ps'.toList →
      wpAny (model X.prog X.w) X.A (builtinsFor X.env.globals X.env.builtins) (fun bi s₄ =>
        ∃ Ia fp wr n₀ Pf St₀ pz F, Value.ref s1.heap.objs.size = .ref Ia ∧ (∀ A' : Around, A'.handled = none → Walks X.prog X.w A' Ia fp wr n₀ Pf St₀) ∧ St₀ 0 s₄.heap ∧ (∀ b ∈ fp, b < s₄.heap.objs.size) ∧ s₄.heap.NoLimit ∧ cStatics ∉ wr ∧
          (∀ href : Heap, (∀ b o, s₄.heap.get? b = some o → href.get? b = some o) →
            QuietGenD X.prog X.w (genEnv scope (cloFrom X.env.cells scope.names []) s₄.heap.objs.size code bi X.env) x [] (.Call (.Name fn p1) [.Name x p2] [] p3) (List.range s₄.heap.objs.size) wr Pf pz F href (X.A.depth + 1) (X.A.units + 8)) ∧
          (∀ a h₅ tk gs, gs.bare = true → s₄.heap.objs.size < a → h₅.objs.size = a + 1 → (∀ b o, s₄.heap.get? b = some o → h₅.get? b = some o) →
            WalksS X.prog X.w X.A.in4 a (a :: s₄.heap.objs.size :: List.range s₄.heap.objs.size) (s₄.heap.objs.size :: wr) (GenOnlyQ s₄.gens.size) (passing pz n₀ 0).length
              (fun j y => ∃ i, (passing pz n₀ 0)[j]? = some i ∧ F i y) (GenAt X.prog X.w X.A.in4 a s₄.gens.size s₄.heap.objs.size (List.range s₄.heap.objs.size) wr pz n₀ F) →
            GenAt X.prog X.w X.A.in4 a s₄.gens.size s₄.heap.objs.size (List.range s₄.heap.objs.size) wr pz n₀ F 0 { s₄ with gens := s₄.gens.push gs, toks := tk, heap := h₅ } →
            Q' (.ref a) { s₄ with gens := s₄.gens.push gs, toks := tk, heap := h₅ })) X.xe { s1 with heap := h3, toks := tk } := by
    intro code h3 tk ps' hx hsz hP3 hmore ht3
    obtain ⟨bm, ob, e1, e2, e3, e4, e5, e6, e7, e8⟩ := TB.bm
    have hcP : cStatics ≠ P := fun e => by
      obtain ⟨_, hns, _⟩ := I1.nolimit
      obtain ⟨o', es, ep, ho, hd, _⟩ := hns
      rw [e, hPs] at ho
      cases ho
      cases hd
    have hcl2 : cStatics < s1.heap.objs.size := let ⟨_, hns, _⟩ := I1.nolimit; hns.lt
    have sz2 : (s1.heap.push o).objs.size = s1.heap.objs.size + 1 := Heap.size_push ..
    have keep3 : ∀ b u, b ≠ P → s1.heap.get? b = some u → h3.get? b = some u := fun b u hb e => hx b u hb (Heap.get?_push_of_some _ e)
    refine wpAny_builtinsFor (m := X.mg) (by rw [I1.ok.glob]; exact ((I1.mod.glob.keeps I1.bk).push o).extBut hx TB.gP) e1 e2 (keep3 _ _ e4 (I1.bk _ _ e5)) e6 e7 e8 ?_
    refine ⟨s1.heap.objs.size, [s1.heap.objs.size, t], [s1.heap.objs.size], its.toArray.size, (fun i v => its.toArray[i]? = some v), (fun i h => h.IsTupleIter s1.heap.objs.size t i ∧ h.IsTuple t its.toArray), (fun _ => true), (fun i y => y = .bool (trB bs i) ∧ i < bs.length), rfl, fun A' hA' => Walks.tuple hA' s1.heap.objs.size t (Nat.ne_of_lt htl) its.toArray, ?_, ?_, lim2.extBut hx hcP, ?_, ?_, ?_⟩
    · exact ⟨hIt.at fun u e => hx _ u (fun z => absurd hPlt (by rw [← z]; exact Nat.lt_irrefl _)) e, hTu.at fun u e => hx _ u tP e⟩
    · intro b hb
      rcases List.mem_cons.mp hb with z | z
      · rw [z]
        show s1.heap.objs.size < h3.objs.size
        omega
      · have : b = t := by simpa using z
        rw [this]
        exact Nat.lt_of_lt_of_le (show (t : Nat) < s1.heap.objs.size from htl) (show s1.heap.objs.size ≤ h3.objs.size by omega)
    · intro z
      rcases List.mem_cons.mp z with z | z
      · exact Nat.ne_of_lt hcl2 z
      · cases z
    · intro href hhref
      have kp : ∀ {s₂ : Shared}, (∀ b ∈ List.range h3.objs.size, b ∉ [s1.heap.objs.size] → ∀ o, href.get? b = some o → s₂.heap.get? b = some o) → ∀ a u, a ≠ P → s1.heap.get? a = some u → s₂.heap.get? a = some u := fun {s₂} hk a u hne e => by
        have e3 := keep3 a u hne e
        refine hk a (List.mem_range.mpr (Heap.lt_size e3)) (fun z => ?_) u (hhref a u e3)
        have : a = s1.heap.objs.size := by simpa using z
        exact absurd (Heap.lt_size e) (by rw [this]; exact Nat.lt_irrefl _)
      refine ⟨fun A' E' i v s₂ m₂ hA _ _ hPv hn hm hk => ?_, fun A' E' i v s₂ m₂ hA hd hu hPv hp hn hm hk => ?_⟩
      · simp only [List.forIn_nil]
        exact wpAny_pure ⟨rfl, keeps_refl _⟩
      · have hk2 := kp hk
        have hil : its[i]? = some v := by
          have q : its.toArray[i]? = some v := hPv
          rwa [List.getElem?_toArray] at q
        have hib : i < bs.length := by rw [← hlen]; exact (List.getElem?_eq_some_iff.mp hil).1
        have c2 : Cls2 X.K v s₂.heap (trB bs i) := (hcl i v hil).to hk2
        have bk2 : ∀ a u, X.base.get? a = some u → s₂.heap.get? a = some u := fun a u e => hk2 a u (basP a u e) (I1.bk a u e)
        refine wpAny_Call_Name_kw (Calls.Name_function_global S.kind (show _ = some NameKind.globalImplicit from hfg) (Calls.loadGlobal_global (mg := X.mg) (by show s₂.heap.Ns X.env.globals X.mg; rw [I1.ok.glob]; exact I1.mod.glob.keeps bk2) hfm ?_) hfd)
        refine PySem.W.callWith_K (h₀ := X.base) I1.ok.mod.kin hfk (PyProof.Rows.args_cons (wpAny_Name (wpAny_loadName_local S.kind S.loc hn hm ?_) hxd)) rfl rfl
        refine PyProof.Rows.args_nil ⟨I1.mod.kin.keeps bk2, ?_⟩
        exact wpAny_mono (hf I1.mod A' E' s₂ v _ (by have := hr.dp; omega) bk2 c2) (fun y s3 r => ⟨⟨r.1, hib⟩, r.2⟩) fun _ _ e => e
    · intro g h5 tk5 gs hgb hag hsz5 hk5 W5 hat
      simp only [GxR.passing_true, List.length_range] at W5
      have hn : its.toArray.size = bs.length := by rw [List.size_toArray, hlen]
      rw [hn] at W5 hat
      refine hQ bs H1 g _ q1 ⟨_, _, _, _, _, W5.in4_1, hat, ?_, fun s' hm => ?_⟩
      · intro j y sj Qj Ej hy hQj
        obtain ⟨i, hij, hb, hil⟩ := hy
        obtain ⟨hj, ej⟩ := List.getElem?_eq_some_iff.mp hij
        rw [List.getElem_range] at ej
        subst ej
        subst hb
        exact wpAny_truthy_bool hQj
      · obtain ⟨more, em⟩ := hmore
        have nwr : ∀ b u, s1.heap.get? b = some u → b ∉ h3.objs.size :: [s1.heap.objs.size] := fun b u e hb => by
          have hl := Heap.lt_size e
          rcases List.mem_cons.mp hb with z | z
          · rw [z] at hl
            have h9 : (h3.objs.size : Nat) < s1.heap.objs.size := hl
            omega
          · rcases List.mem_cons.mp z with z | z
            · rw [z] at hl
              exact Nat.lt_irrefl _ hl
            · cases z
        have J := inv_tab (more := more) (h' := s'.heap) (g' := s'.gens) (d' := s'.drawn) (t' := s'.toks) I1 hP (fun b u hb e => hm.heap b u (nwr b u e) (hk5 b u (keep3 b u hb e)))
          (by rw [← em]; exact hm.heap P _ (nwr P _ hPs) (hk5 P _ hP3)) (AllBare.movedS (I1.bare.push hgb) hm)
        rw [sh_eta s1 s' hm.os] at J
        refine ⟨upd H1 P (.tbl (ps ++ more)), ⟨⟨ps ++ more, upd_same, by rw [← em]; exact ht3⟩, fun b hb => upd_ne hb⟩, J⟩
  refine ⟨lim2, ?_⟩
  cases hfc : codeAmong gpos ps.toList with
  | none =>
    refine wpAny_genexprCodeX hcode (cd.code hP2 ht) (cd.tab hP2) hfc fun c' h' tk hx hge hlt hco' _ htab' _ => ?_
    obtain ⟨o1, vs, f1, tf, fl, tg, inF, tx, tt, op, _, _, _, _, _, _, _, _, _, htr, _⟩ := hco'
    exact cont _ h' tk _ hx (Nat.le_trans hge (Nat.le_of_lt hlt)) htab'.2 ⟨_, rfl⟩ htr
  | some cv =>
    refine wpAny_genexprCode_hit hcode (cd.code hP2 ht) hfc ?_
    exact cont cv (s1.heap.push o) s1.toks ps (Heap.ExtBut.refl _ _) (Nat.le_refl _) hP2 ⟨#[], by simp⟩ ht
def tAllB (K : PySem.W.Frag) (X : Cx) (pins : List (Addr × Obj)) (P : Addr) (te : TE) : TE := fun σ H Q => te σ H fun v H1 => ∃ (t : Addr) (xs : List V) (bs : List Bool), v = .ref t ∧ SqT X.K H1 t xs ∧ TabG H1 P ∧ (∀ s1, Inv X pins σ H1 s1 → ∀ its, Vals xs its → ClsAll X.K P s1.heap its bs) ∧ ∀ H2, Tabbed P H1 H2 → Q (.bl (bs.all id)) H2
theorem all_run {c P f : Addr} {iter : Expr} {x fn : Str} {px p p1 p2 p3 gpos pos : Pos} {scope : Scope} {te : TE} {k : Nat} {Q : VK}
    (hr : Room k X.A) (hg : Gl X "all") (hmA : X.mg "all" = none) (TB : TabB X.base X.mg c P) (hcode : X.env.code = .ref c) (S : GenS X.env scope x) (hi : PE X iter te) (hf : Mod X.K X.mg X.base → LeafB X.prog X.w X.base f (Cls2 X.K)) (hfk : PySem.W.keepIn X.K (.ref f) = true) (hfm : X.mg fn = some (.ref f)) (hfg : scope.names.lookup fn = some .globalImplicit)
    (hfd : (fn == ("__debug__" : Str)) = false) (hxd : (x == ("__debug__" : Str)) = false)
    (hs : ∀ v, genFold iter X.env v = pure v) (I : Inv X pins σ H s) (h : tAllB X.K X pins P te σ H Q)
    (he : starEach [.GeneratorExp (.Call (.Name fn p1) [.Name x p2] [] p3) [⟨.Name x px, iter, [], 0⟩] scope gpos] X.env = (false, eval (.GeneratorExp (.Call (.Name fn p1) [.Name x p2] [] p3) [⟨.Name x px, iter, [], 0⟩] scope gpos) X.env) :: starEach [] X.env := by rfl) :
    wpAny (model X.prog X.w) X.A (eval (.Call (.Name "all" p) [.GeneratorExp (.Call (.Name fn p1) [.Name x p2] [] p3) [⟨.Name x px, iter, [], 0⟩] scope gpos] [] pos) X.env) (EP X pins σ Q) X.xe s := by
  refine wpAny_Call_Name_kw (ld_blt I hg hmA PyProof.Rows.boot_all ?_)
  refine PyProof.Rows.callWith_builtin1 ?_ he (by rfl)
  rw [he]
  show wpAny _ _ (spliced ((false, eval (.GeneratorExp (.Call (.Name fn p1) [.Name x p2] [] p3) [⟨.Name x px, iter, [], 0⟩] scope gpos) X.env) :: backTo pos (starEach [] X.env))) _ _ s
  refine Calls.spliced_cons (gen_tup (R := fun bs H1 => ∀ H2, Tabbed P H1 H2 → Q (.bl (bs.all id)) H2) hr TB hcode S hi hf hfk hfm hfg hfd hxd hs I h fun bs H1 g s5 hR hG => ?_)
  obtain ⟨fp, wr, G, F, St, W, hst, htr, hI⟩ := hG
  refine Calls.spliced_nil ?_
  refine call_all_walkS (W.self 0 _ _ _ hst ⟨g, fp, wr, G, _, F, St, _, rfl, W, hst, htr, fun s' hmv => ?_⟩)
  obtain ⟨H2, hT, J⟩ := hI s' hmv
  refine ⟨.bl _, H2, J, rfl, ?_⟩
  rw [all_trB bs]
  exact hR H2 hT
end
end SX
end
section
set_option Elab.async false
set_option linter.all false
set_option maxRecDepth 100000
set_option maxHeartbeats 2000000
open Classical
/-! SXo: the same by data; a def by its body where its code object is named. -/
namespace SX
open PySem PySem.Spec PyProof.Rows L2 PySem.W GxR
/-- a whole number, no truth -/
def isW (d : D) : Bool := isTy d .int && !isTy d .bool
section
variable {X : Cx} {pins : List (Addr × Obj)} {σ : L2.St} {s : Shared}
theorem cls_of {T : List Addr} {A : Ads} {M : List MO} {H : Hp} {P : Addr} {ps : Array Value} (I : Inv X pins σ H s) (R : Rel X.K T A M H) (hP : H P = some (.tbl ps)) {d : D} {v : V} {u : Value} (r : Rep X.K A H d v) (rv : RelV v u) (hk : tyKn M d = true) : ClsB X.K P u s.heap (isW d) := by
  have hPs : s.heap.get? P = some { cls := .none, data := .fields ps } := I.hok P _ hP
  have ty : ∀ (T : String) (a : Addr) (o : Obj), s.heap.get? a = some o → o.cls = .type T → a ≠ P := fun T a o h1 h2 z => by
    rw [z, hPs] at h1
    cases h1
    cases h2
  have tup : ∀ (a : Addr) (vs : List V), SqT X.K H a vs → ClsB X.K P (.ref a) s.heap (isW (.tup [])) := fun a vs h => by
    obtain ⟨its, _, ⟨o, h1, h2, _⟩, _⟩ := I.tuple h
    exact ⟨_, _, _, _, PySem.W.kitx_tuple, fun h' k => ⟨o, k a o (ty _ a o h1 h2) h1, h2⟩, (fun z => by cases z), kit_tab .tuple .int, kit_tab .tuple .bool, rfl⟩
  have lst : ∀ (a : Addr) (vs : List V), SqL X.K H a vs → ClsB X.K P (.ref a) s.heap (isW (.lst [])) := fun a vs h => by
    obtain ⟨its, _, pl, _⟩ := I.list h
    obtain ⟨o, h1, h2, _⟩ := pl.isList
    exact ⟨_, _, _, _, PySem.W.kitx_list, fun h' k => ⟨o, k a o (ty _ a o h1 h2) h1, h2⟩, (fun z => by cases z), kit_tab .list .int, kit_tab .list .bool, rfl⟩
  cases d with
  | non =>
    cases r
    cases (show u = Value.none from rv)
    exact ⟨_, _, _, _, PySem.W.kitx_none, fun _ _ => True.intro, (fun z => by cases z), kit_non .int, kit_non .bool, rfl⟩
  | bl b =>
    cases r
    cases (show u = Value.bool b from rv)
    exact ⟨_, _, _, _, PySem.W.kitx_bool, fun _ _ => True.intro, (fun z => by cases z), kit_tab .bool .int, kit_tab .bool .bool, rfl⟩
  | int i =>
    cases r
    obtain ⟨t, rfl⟩ := (show ∃ t, u = Value.int i t from rv)
    exact ⟨_, _, _, _, PySem.W.kitx_int, fun _ _ => True.intro, (fun z => by cases z), kit_tab .int .int, kit_tab .int .bool, rfl⟩
  | str x =>
    cases r
    obtain ⟨t, rfl⟩ := (show ∃ t, u = Value.str x t from rv)
    exact ⟨_, _, _, _, PySem.W.kitx_str, fun _ _ => True.intro, (fun z => by cases z), kit_tab .str .int, kit_tab .str .bool, rfl⟩
  | tup l =>
    cases r with
    | @tup a vs _ h t =>
      cases (show u = Value.ref a from rv)
      exact tup a vs h.sq
  | pr l => cases hk
  | exc _ _ _ => cases hk
  | adr _ => cases hk
  | lst l =>
    cases r with
    | @lst a vs _ h hn t =>
      cases (show u = Value.ref a from rv)
      exact lst a vs (.of h)
  | rol l =>
    cases r with
    | @rol a vs _ h t =>
      cases (show u = Value.ref a from rv)
      exact lst a vs h.sq
  | ref n =>
    have hk' : (match M[n]? with | some (.lst _) => true | _ => false) = true := hk
    cases hm : M[n]? with
    | none => rw [hm] at hk'; cases hk'
    | some o =>
      rw [hm] at hk'
      cases o with
      | lst l =>
        obtain ⟨a, e1, _, vs, h2, t⟩ := R.ref r hm (fun z => by cases z)
        subst e1
        cases (show u = Value.ref a from rv)
        exact lst a vs (.of h2)
      | _ => cases hk'
theorem cls_all {T : List Addr} {A : Ads} {M : List MO} {H : Hp} {P : Addr} {ps : Array Value} (R : Rel X.K T A M H) (hP : H P = some (.tbl ps)) {l : List D} {vs : List V} (t : Reps X.K A H l vs) (hk : ∀ d ∈ l, tyKn M d = true) (s1 : Shared) (I : Inv X pins σ H s1) (its : List Value) (rv : Vals vs its) : ClsAll X.K P s1.heap its (l.map isW) := by
  refine ⟨by rw [List.length_map, t.length, rv.length], fun i u hu => ?_⟩
  have hi : i < vs.length := by rw [rv.length]; exact (List.getElem?_eq_some_iff.mp hu).1
  obtain ⟨u', h1, r1⟩ := rv.get (List.getElem?_eq_getElem hi)
  rw [hu] at h1
  cases h1
  obtain ⟨d, h2, r2⟩ := t.getV (List.getElem?_eq_getElem hi)
  have e : trB (l.map isW) i = isW d := by unfold trB; rw [List.getElem?_map, h2]; rfl
  rw [e]
  exact cls_of I R hP r2 r1 (hk d (List.mem_of_getElem? h2))
end
theorem Stp.tab {K : PySem.W.Frag} {T : List Addr} {A : Ads} {M : List MO} {H H2 : Hp} {P : Addr} (R : Rel K T A M H) (hPT : P ∈ T) (ht : Tabbed P H H2) : Stp K T A H A M H2 := by
  obtain ⟨ps, hP⟩ := R.tbl hPT
  obtain ⟨⟨qs, h2, hq⟩, hne⟩ := ht
  have nP : ∀ {a : Addr}, some a ∈ A → a ≠ P := fun {a} h z => by
    obtain ⟨w, e, q⟩ := R.live h
    rw [z, hP] at e
    cases e
    rcases q with ⟨ys, q⟩ | ⟨ys, q⟩ | ⟨ys, q⟩ <;> cases q
  have m : Mv T A H A H2 := ⟨fun _ _ h => .inl h, fun _ h => .inl h, fun b o h hA hT => by
    rw [hne b (fun z => hT (by rw [z]; exact hPT))]; exact h, fun b h => by
    by_cases e : b = P
    · rw [e, h2]; simp
    · rw [hne b e]; exact h⟩
  refine ⟨⟨R.len, R.inj, fun n a h => ?_, R.dd, fun Q hQ => ?_⟩, m⟩
  · obtain ⟨o, e, r⟩ := R.ob n a h
    exact ⟨o, e, r.mv R m (hne a (nP (List.mem_of_getElem? h)))⟩
  · by_cases e : Q = P
    · rw [e]; exact ⟨qs, h2, hq⟩
    · obtain ⟨rs, e1, t⟩ := R.tb Q hQ
      exact ⟨rs, by rw [hne Q e]; exact e1, t⟩
/-- all(f(x) for x in t) -/
noncomputable def eAllW (f : EvE) : EvE := fun env M => (f env M).bind fun d M1 => match d with
  | .tup l => if ∀ x ∈ l, tyKn M1 x = true then .ok (.bl (l.all isW)) M1 else .no
  | _ => .no
section
variable {X : Cx} {p : Pm} {g : EvE}
theorem se_allW {c P f : Addr} {iter : Expr} {x fn : Str} {px pp p1 p2 p3 gpos pos : Pos} {scope : Scope} {k : Nat}
    (hr : Room k X.A) (hg : Gl X "all") (hmA : X.mg "all" = none) (TB : TabB X.base X.mg c P) (hPT : P ∈ p.T) (hcode : X.env.code = .ref c) (S : GenS X.env scope x) (hi : SE X p iter g) (hf : Mod X.K X.mg X.base → LeafB X.prog X.w X.base f (Cls2 X.K)) (hfk : PySem.W.keepIn X.K (.ref f) = true) (hfm : X.mg fn = some (.ref f)) (hfg : scope.names.lookup fn = some .globalImplicit)
    (hfd : (fn == ("__debug__" : Str)) = false) (hxd : (x == ("__debug__" : Str)) = false)
    (hs : ∀ v, genFold iter X.env v = pure v)
    (he : starEach [.GeneratorExp (.Call (.Name fn p1) [.Name x p2] [] p3) [⟨.Name x px, iter, [], 0⟩] scope gpos] X.env = (false, eval (.GeneratorExp (.Call (.Name fn p1) [.Name x p2] [] p3) [⟨.Name x px, iter, [], 0⟩] scope gpos) X.env) :: starEach [] X.env := by rfl) :
    SE X p (.Call (.Name "all" pp) [.GeneratorExp (.Call (.Name fn p1) [.Name x p2] [] p3) [⟨.Name x px, iter, [], 0⟩] scope gpos] [] pos) (eAllW g) := by
  refine ⟨fun pins s σ H Q I h => all_run hr hg hmA TB hcode S hi hf hfk hfm hfg hfd hxd hs I ?_ he⟩
  obtain ⟨A, M, env, R, S', q⟩ := h
  refine seqE R S' (fun _ _ _ _ z => z) q fun d M1 v H1 A1 s1 r1 q1 => ?_
  cases d with
  | tup l =>
    have q2 : OutR (if ∀ x ∈ l, tyKn M1 x = true then Out.ok (.bl (l.all isW)) M1 else .no) (Fin X.K p.T A H Q) (Exc X.K p A H) := q1
    obtain ⟨hk, q2⟩ := ifO q2
    obtain ⟨a, vs, e1, h1, t⟩ := rep_tup r1
    obtain ⟨ps, hP⟩ := s1.rel.tbl hPT
    refine ⟨a, vs, l.map isW, e1, h1, s1.rel.tb P hPT, fun s2 I2 its rv => cls_all s1.rel hP t hk s2 I2 its rv, fun H2 hT => ?_⟩
    have e : ((l.map isW).all id) = l.all isW := by rw [List.all_map]; rfl
    rw [e]
    exact q2 _ H2 A1 (s1.trans (Stp.tab s1.rel hPT hT)) (.bl _)
  | _ => exact q1.elim
end
/-! ### a def whose code object stands at c -/
structure FunC (K : PySem.W.Frag) (x qual : Str) (st : Stmt) (f : Addr) (fd : FuncData) (c : Addr) : Prop where
  ex : ∃ (oc : Value) (od : Option Addr) (kV doc pm : Value) (an : Option Addr) (ct : Value) (osl : Array (Option Value)),
    fd = PySem.W.fnOf x qual (defArgs st) (defBody st) (defScope st) .none kV doc pm an (.ref c) ct ∧ K.lookup f = some ⟨oc, od, .func fd, osl⟩ ∧ PySem.W.codeIn K (.ref c) qual = true
  kp : PySem.W.keepIn K (.ref f) = true
theorem FunC.fn {K : PySem.W.Frag} {x qual : Str} {st : Stmt} {f : Addr} {fd : FuncData} {c : Addr} (F : FunC K x qual st f fd c) : L2.Fun K x qual st f fd := by
  obtain ⟨⟨oc, od, kV, doc, pm, an, ct, osl, e, l, h⟩, kp⟩ := F
  exact ⟨⟨oc, od, kV, doc, pm, an, _, ct, osl, e, l, h⟩, kp⟩
section
variable {P : Program} {w : World} {K : PySem.W.Frag} {mg : Str → Option Value} {base : Heap} {T : List Addr} {cl : Nat → Addr}
theorem se_fnC {x qual : Str} {st : Stmt} {f c : Addr} {fd : FuncData} {N ps : List Str} {k : Nat} {body : EvS} (F : FunC K x qual st f fd c) (Sc : FnScope N ps (defScope st))
    (hb : ∀ (A : Around) (outer : List PySem.Env) (s : Shared) (H : Hp) (E : XK), Room k (A.deeper (envOfC qual (defScope st) s.heap.objs.size f (.ref c))) →
      SSs (cxOf (L2.CX P w) P w K mg base N qual (defScope st) f (.ref c) A outer s H E) ⟨T, cl, fun cls d _ H => E cls d H⟩ (defBody st) body) :
    FOk P w K mg base T cl (k + 1) f fd ps (fnF N.length body) := by
  obtain ⟨oc, od, kV, doc, pm, an, ct, osl, rfl, lk, hcd⟩ := F.ex
  have F' : L2.Fun K x qual st f _ := F.fn
  refine fn_of lk hcd Sc (fun vs H Q E h => ?_) fun A outer s H vs Q E hr h => ⟨_, hb A outer s H E hr, ?_⟩
  · obtain ⟨A, M, ds, R, t, hn, _⟩ := h
    rw [← t.length]; exact hn
  · obtain ⟨Aa, M, ds, R, t, hn, q⟩ := h
    refine ⟨Aa, M, _, R, start_rep t, ?_⟩
    unfold fnF at q
    cases hb' : body (ds.map some ++ List.replicate (N.length - ds.length) none) M with
    | no => rw [hb'] at q; exact q.elim
    | ok fl M' =>
      rw [hb'] at q
      show FlR K _ Aa H _ fl M'
      cases fl with
      | nx e' =>
        have q' := gc_ok R (d := .non) q
        exact fun σ' H' A' s' _ => q' _ H' A' s' .non
      | rt d => exact gc_ok R q
      | bk e' => exact q.elim
      | ct e' => exact q.elim
    | ex c d e' M' =>
      rw [hb'] at q
      show Exc K _ Aa H c d e' M'
      obtain ⟨c1, c2, q⟩ := gc_ex R q
      intro v σ' H' A' dx s' S' r' hd
      exact q v H' _ dx (s'.cut R c1 s'.mv.le) (r'.cut (fun b z => List.mem_of_mem_take z) (fun n z => by rw [List.getElem?_take, if_pos z]) c2) hd
end
end SX
end
section
set_option Elab.async false
set_option linter.all false
set_option maxRecDepth 100000
open Classical
/-! SXp: calls by keywords alone; tuple(range(a, b, -1)). -/
namespace SX
open PySem PySem.Spec PyProof.Rows L2 PySem.W
def pick {α : Type} (π : List Nat) (l : List α) : List α := π.filterMap (l[·]?)
def gk {α : Type} (π : List Nat) (us ws : List α) : List α := match us with
  | [] => pick π ws
  | _ :: _ => []
theorem pick_vals {vs : List V} {us : List Value} (r : Vals vs us) : ∀ π : List Nat, Vals (pick π vs) (pick π us)
  | [] => .nil
  | i :: π => by
    have ih := pick_vals r π
    unfold pick at ih ⊢
    rw [List.filterMap_cons, List.filterMap_cons]
    cases e : vs[i]? with
    | none => rw [Vals.none_of r e]; exact ih
    | some v =>
      obtain ⟨u, h1, h2⟩ := r.get e
      rw [h1]
      exact .cons h2 ih
theorem pick_reps {K A H} {ds : List D} {vs : List V} (r : Reps K A H ds vs) : ∀ π : List Nat, Reps K A H (pick π ds) (pick π vs)
  | [] => .nil
  | i :: π => by
    have ih := pick_reps r π
    unfold pick at ih ⊢
    rw [List.filterMap_cons, List.filterMap_cons]
    cases e : ds[i]? with
    | none =>
      have : vs[i]? = none := by
        rw [List.getElem?_eq_none_iff] at e ⊢
        rw [← r.length]; exact e
      rw [this]; exact ih
    | some d =>
      obtain ⟨v, h1, h2⟩ := r.get e
      rw [h1]
      exact .cons h2 ih
theorem kb_mk {K : PySem.W.Frag} {fd : FuncData} {ps ks : List Str} (π : List Nat) (hps : ps.length ≠ 0) (hb : ∀ ws : List Value, (pick π ws).length = ps.length → bindArgs fd ⟨[], ks.zip ws⟩ = pure (ps.zip (pick π ws))) : KB K fd ps ks (gk π) (gk π) (gk π) where
  b := ⟨fun s us ws _ hl => by
    cases us with
    | nil => exact .of_eq (hb ws hl)
    | cons u r => exact absurd hl.symm hps, fun {vs us zs ws} r rz => by
    cases r with
    | nil => exact pick_vals rz π
    | cons _ _ => exact .nil⟩
  rep := fun {A H ds es vs zs} r rz => by
    cases r with
    | nil => exact pick_reps rz π
    | cons _ _ => exact .nil
section
variable {X : Cx} {p : Pm} {f : Addr} {fd : FuncData} {ps : List Str} {F : Fn} {k : Nat} {x : Str} {a b c e : Expr} {es : List Expr} {fs gs : EvEs} {pn pos : Pos} {u v t : EvE}
/-- f(k = v, ..) -/
theorem se_callK0 {kws : List Keyword} {ks : List Str} {g : List Value → List Value → List Value} {gV : List V → List V → List V} {gD : List D → List D → List D} (Fk : FOk X.prog X.w X.K X.mg X.base p.T p.cl k f fd ps F) (hr : Room k X.A) (hg : Gl X x) (hm : X.mg x = some (.ref f)) (hk : PySem.W.keepIn X.K (.ref f) = true) (hb : KB X.K fd ps ks g gV gD) (tk : Takes X p.W)
    (hkw : SK X p kws gs) (hall : (backToKw pos (keywordEach kws X.env)).all (·.1.isSome) = true := by rfl) (hks : (backToKw pos (keywordEach kws X.env)).filterMap (·.1) = ks := by rfl)
    (hdb : (x == ("__debug__" : Str)) = false := by decide)
    (hpl : ((backTo pos (starEach [] X.env)).any (·.1) || (backToKw pos (keywordEach kws X.env)).any (·.1.isNone)) = false := by rfl) :
    SE X p (.Call (.Name x pn) [] kws pos) (eCallK F gD ps.length esNil gs) := by
  refine ⟨fun pins s σ H Q I h => ?_⟩
  obtain ⟨A, M, env, R, S, q⟩ := h
  have h1 : tEs X.K p gs σ H fun zs H2 => spF X.K p.T p.cl ps.length F (gV [] zs) H2 Q (WE p.W σ) :=
    seqEs R S (fun _ _ _ _ z => z) (show OutR ((gs env M).bind fun es M2 => _) _ _ from q) fun es' M2 zs H2 A2 s2 r2 q2 =>
      kcall_out (gV := gV) (ds := []) (vs := []) ps.length s2 (S.stp R s2) (hb.rep .nil r2) q2
  refine wpAny_Call_Name_kw (ld_glob I hg hm ?_ hdb)
  refine PySem.W.callWith_KW0 (h₀ := X.base) I.ok.mod.kin hk hall ?_ hpl
  refine thn (hkw.run pos pins s σ H _ I h1) fun ws s2 ⟨zs, H2, I2, rz, q2⟩ => ⟨I2.kIn, ?_⟩
  rw [hks]
  exact run_fnkS (us := []) (vs := []) Fk hr hb.b (passAt tk σ) I2 .nil rz q2
/-! ### tuple(range(a, b, -1)) -/
def dnV (a b : Int) : List Int := (List.range (a - b).toNat).map fun (i : Nat) => a - (i : Int)
def tTupDn (ta tb tc : TE) : TE := fun σ H Q => ta σ H fun x H1 => tb σ H1 fun y H2 => tc σ H2 fun z H3 => ∃ i j, x = .int i ∧ y = .int j ∧ z = .int (-1) ∧ 0 ≤ i ∧ i ≤ 1000000 ∧ 0 ≤ j ∧ j ≤ 1000000 ∧ LayT ((dnV i j).map V.int) H3 Q
theorem rangeSize_dn (a b : Int) : Builtin.Range.rangeSize a b (-1) = ((a - b).toNat : Int) := by
  unfold Builtin.Range.rangeSize
  rw [if_neg (by decide), show (- -1 : Int) = 1 from rfl]
  split <;> omega
theorem pe_tupDn {ta tb tc : TE} {p1 p2 pos1 pos2 : Pos} (hc : X.calm = true) (hg : Gl X "tuple") (hm : X.mg "tuple" = none) (hg2 : Gl X "range") (hm2 : X.mg "range" = none) (ha : PE X a ta) (hb : PE X b tb) (hcc : PE X c tc)
    (na : starEach [a, b, c] X.env = (false, eval a X.env) :: starEach [b, c] X.env := by rfl) (nb : starEach [b, c] X.env = (false, eval b X.env) :: starEach [c] X.env := by rfl) (nc : starEach [c] X.env = (false, eval c X.env) :: starEach [] X.env := by rfl)
    (hp : (backTo pos2 (starEach [b, c] X.env)).any (·.1) = false := by rfl)
    (nr : starEach [.Call (.Name "range" p2) [a, b, c] [] pos2] X.env = (false, eval (.Call (.Name "range" p2) [a, b, c] [] pos2) X.env) :: starEach [] X.env := by rfl) :
    PE X (.Call (.Name "tuple" p1) [.Call (.Name "range" p2) [a, b, c] [] pos2] [] pos1) (tTupDn ta tb tc) := by
  refine ⟨fun pins s σ H Q I h => ?_⟩
  refine Call_ (ld_blt I hg hm boot_tuple (PyProof.Rows.callWith_type1 (args_cons ?_ nr) nr))
  refine Call_ (ld_blt I hg2 hm2 boot_range (PyProof.Rows.callWith_type1 (args_cons (thn (ha.run pins s σ H _ I h) fun v s1 ⟨x, H1, I1, r1, q1⟩ => args_cons (thn (hb.run pins s1 σ H1 _ I1 q1) fun u s2 ⟨y, H2, I2, r2, q2⟩ => args_cons (thn (hcc.run pins s2 σ H2 _ I2 q2) fun w s3 ⟨z, H3, I3, r3, q3⟩ => args_nil ?_) nc) nb) na) na hp))
  obtain ⟨i, j, rfl, rfl, rfl, i0, i1, j0, j1, q⟩ := q3
  obtain ⟨t1, rfl⟩ := r1
  obtain ⟨t2, rfl⟩ := r2
  obtain ⟨t3, rfl⟩ := r3
  have sm : Builtin.Range.small i j (-1) = true := by
    unfold Builtin.Range.small
    rw [rangeSize_dn]
    simp only [Builtin.Range.rangeFitsLong, Bool.and_eq_true, Bool.or_eq_true, decide_eq_true_eq, beq_iff_eq, show ¬ ((-1 : Int) > 0) by decide, if_false]
    refine ⟨by omega, .inr ?_⟩
    try rw [if_neg (by decide)]
    try simp only [Bool.and_eq_true, decide_eq_true_eq]
    omega
  refine call_range_3 (by decide) ?_ (.inl (PyProof.noPylong_small (by omega)))
  have I4 : Inv X pins σ H3 { s3 with heap := s3.heap.push { cls := .type "range", data := .fields #[.int i t1, .int j t2, .int (-1) t3] } } := I3.kept (t' := s3.toks) fun b u e => Heap.get?_push_of_some _ e
  refine args_nil ?_
  refine call_tuple_range (n := (i - j).toNat) (I4.ok.hd hc) (IsRange.new _ _ _ _ _ _ _) sm (rangeSize_dn i j) (by omega) fun h' tk acc hk hi => ?_
  have I5 : Inv X pins σ H3 { s3 with heap := h', toks := tk } := I4.kept hk
  have rv : Vals ((dnV i j).map V.int) acc.toList := by
    have e : acc.toList.length = (i - j).toNat := by rw [Array.length_toList]; exact hi.1
    unfold dnV
    rw [List.map_map, ← e]
    refine vals_of_get acc.toList _ fun m u hm => ?_
    obtain ⟨t, rfl⟩ := hi.2 m u (by rw [← hm, Array.getElem?_toList])
    exact ⟨t, by show Value.int (i + m * -1) t = Value.int (i - m) t; rw [Int.mul_neg_one, Int.sub_eq_add_neg]⟩
  have I6 : Inv X pins σ (upd H3 h'.objs.size (.frz { cls := .type "tuple", data := .seq acc } (.tup ((dnV i j).map V.int)))) { s3 with heap := h'.push { cls := .type "tuple", data := .seq acc }, toks := tk } :=
    layT (s := { s3 with heap := h', toks := tk }) (its := acc.toList) (n := 0) I5 (t' := tk) (fun c o e => Heap.get?_push_of_some _ e) (Nat.le_refl _) (Heap.get?_push_size _ rfl) rfl (by rw [Array.toArray_toList]) rv (by unfold dnV; rw [List.length_map, List.length_map, List.length_range, sizeLine_eq]; omega)
  exact ⟨.ref h'.objs.size, _, I6, rfl, q _ _ (I5.hok.fresh (Nat.le_refl _)) rfl⟩
noncomputable def opTupDn : D → D → D → List MO → Out D
  | .int i, .int j, .int k, M => if k = -1 ∧ 0 ≤ i ∧ i ≤ 1000000 ∧ 0 ≤ j ∧ j ≤ 1000000 then .ok (.tup ((dnV i j).map D.int)) M else .no
  | _, _, _, _ => .no
noncomputable def eTupDn (f g h : EvE) : EvE := fun env M => (f env M).bind fun x M1 => (g env M1).bind fun y M2 => (h env M2).bind fun z M3 => opTupDn x y z M3
theorem se_tupDn {p1 p2 pos1 pos2 : Pos} (hc : X.calm = true) (hg : Gl X "tuple") (hm : X.mg "tuple" = none) (hg2 : Gl X "range") (hm2 : X.mg "range" = none) (ha : SE X p a u) (hb : SE X p b v) (hcc : SE X p c t)
    (na : starEach [a, b, c] X.env = (false, eval a X.env) :: starEach [b, c] X.env := by rfl) (nb : starEach [b, c] X.env = (false, eval b X.env) :: starEach [c] X.env := by rfl) (nc : starEach [c] X.env = (false, eval c X.env) :: starEach [] X.env := by rfl)
    (hp : (backTo pos2 (starEach [b, c] X.env)).any (·.1) = false := by rfl)
    (nr : starEach [.Call (.Name "range" p2) [a, b, c] [] pos2] X.env = (false, eval (.Call (.Name "range" p2) [a, b, c] [] pos2) X.env) :: starEach [] X.env := by rfl) :
    SE X p (.Call (.Name "tuple" p1) [.Call (.Name "range" p2) [a, b, c] [] pos2] [] pos1) (eTupDn u v t) :=
  pe_imp (pe_tupDn hc hg hm hg2 hm2 ha hb hcc na nb nc hp nr) fun σ H Q ⟨A, M, env, R, S, q⟩ => seqE R S (fun _ _ _ _ z => z) q fun x M1 vx H1 A1 s1 r1 q1 => seqE s1.rel (S.stp R s1) (fun _ _ _ _ z => Exc.stp s1 z) q1 fun y M2 vy H2 A2 s2 r2 q2 =>
    seqE s2.rel ((S.stp R s1).stp s1.rel s2) (fun _ _ _ _ z => Exc.stp (s1.trans s2) z) q2 fun z M3 vz H3 A3 s3 r3 q3 => by
      have q4 : OutR (opTupDn x y z M3) (Fin X.K p.T A H Q) (Exc X.K p A H) := q3
      unfold opTupDn at q4
      split at q4
      · obtain ⟨⟨e, h⟩, q5⟩ := ifO q4
        subst e
        exact ⟨_, _, rep_int r1, rep_int r2, rep_int r3, h.1, h.2.1, h.2.2.1, h.2.2.2, new_tup s3.rel (Reps.ofInts _) (Fin.stp (s1.trans (s2.trans s3)) q5)⟩
      · exact q4.elim
end
theorem genS_of {env : PySem.Env} {scope : Scope} {x : Str} (h1 : scope.kind = .function) (h2 : scope.isCoroutine = false) (h3 : ∀ y ∈ scope.names, y.2 ≠ .cell) (h4 : scope.names.lookup (".0" : Str) = some NameKind.local) (h5 : scope.names.lookup x = some .local)
    (hf : ∀ y ∈ scope.names, y.2 ≠ .free) : GxR.GenS env scope x := ⟨h1, h2, h3, h4, h5, fun y hy e => absurd e (hf y hy)⟩
end SX
end
section
set_option Elab.async false
set_option linter.all false
set_option maxRecDepth 100000
open Classical
/-! SXq: reckoning with readings. -/
namespace SX
open PySem PySem.Spec PyProof.Rows L2
theorem Out.bind_ok {α β : Type} (a : α) (M : List MO) (k : α → List MO → Out β) : (Out.ok a M).bind k = k a M := rfl
theorem Out.bindN_ok {α β : Type} (a : α) (M : List MO) (k : α → List MO → Out β) : (Out.ok a M).bindN k = k a M := rfl
theorem next_nx (e : Env) (M : List MO) (k : Env → List MO → Out Fl) : Fl.next (.nx e) M k = k e M := rfl
theorem next_rt (d : D) (M : List MO) (k : Env → List MO → Out Fl) : Fl.next (.rt d) M k = .ok (.rt d) M := rfl
theorem next_bk (e : Env) (M : List MO) (k : Env → List MO → Out Fl) : Fl.next (.bk e) M k = .ok (.bk e) M := rfl
theorem eVar_z (d : D) (r : Env) (M : List MO) : eVar 0 (some d :: r) M = .ok d M := rfl
theorem eVar_s (i : Nat) (x : Option D) (r : Env) (M : List MO) : eVar (i + 1) (x :: r) M = eVar i r M := by
  unfold eVar
  rw [List.getElem?_cons_succ]
/-- whole numbers as data -/
abbrev IL (ns : List Int) : List D := ns.map D.int
theorem small_line {n : Nat} (h : n ≤ 1000000) : n ≤ sizeLine := Nat.le_trans h (by decide)
/-! ### what a call gives back -/
theorem cutOk_refl (N : Nat) (M : List MO) : CutOk N M M := fun i _ o h => .inl h
theorem gc_pure {M : List MO} {d : D} (h : refsLt M.length d) : gc M (.ok d M) = .ok d M := by
  unfold gc
  dsimp only
  rw [if_pos ⟨cutOk_refl _ _, h⟩, List.take_length]
mutual
/-- no object is named in it -/
def noRef : D → Prop
  | .ref _ => False
  | .tup l => noRefL l
  | .pr l => noRefL l
  | .lst l => noRefL l
  | .rol l => noRefL l
  | .exc _ _ d => noRef d
  | _ => True
def noRefL : List D → Prop
  | [] => True
  | d :: r => noRef d ∧ noRefL r
end
mutual
theorem noRef.lt {N : Nat} : ∀ {d : D}, noRef d → refsLt N d
  | .non, _ => by unfold refsLt; trivial
  | .bl _, _ => by unfold refsLt; trivial
  | .int _, _ => by unfold refsLt; trivial
  | .str _, _ => by unfold refsLt; trivial
  | .tup l, h => by unfold noRef at h; unfold refsLt; exact noRefL.lt h
  | .pr l, h => by unfold noRef at h; unfold refsLt; exact noRefL.lt h
  | .lst l, h => by unfold noRef at h; unfold refsLt; exact noRefL.lt h
  | .rol l, h => by unfold noRef at h; unfold refsLt; exact noRefL.lt h
  | .ref _, h => by unfold noRef at h; exact h.elim
  | .exc _ _ _, h => by unfold noRef at h; unfold refsLt; exact noRef.lt h
  | .adr _, _ => by unfold refsLt; trivial
theorem noRefL.lt {N : Nat} : ∀ {l : List D}, noRefL l → refsLtL N l
  | [], _ => by unfold refsLtL; trivial
  | d :: r, h => by unfold noRefL at h; unfold refsLtL; exact ⟨noRef.lt h.1, noRefL.lt h.2⟩
end
theorem noRefL_of : ∀ {l : List D}, (∀ d ∈ l, noRef d) → noRefL l
  | [], _ => by unfold noRefL; trivial
  | d :: r, h => by unfold noRefL; exact ⟨h d List.mem_cons_self, noRefL_of fun x hx => h x (List.mem_cons_of_mem _ hx)⟩
theorem noRef_int (i : Int) : noRef (.int i) := by unfold noRef; trivial
theorem noRef_bl (i : Bool) : noRef (.bl i) := by unfold noRef; trivial
theorem noRef_non : noRef .non := by unfold noRef; trivial
theorem noRef_IL (ns : List Int) : noRefL (IL ns) := noRefL_of fun d h => by
  obtain ⟨i, _, rfl⟩ := List.mem_map.mp h
  exact noRef_int i
theorem noRef_tup {l : List D} (h : noRefL l) : noRef (.tup l) := by unfold noRef; exact h
theorem noRef_lst {l : List D} (h : noRefL l) : noRef (.lst l) := by unfold noRef; exact h
theorem noRef_tI (ns : List Int) : noRef (.tup (IL ns)) := noRef_tup (noRef_IL ns)
/-- new objects that nothing names any more are forgotten; those below N may have changed -/
theorem gc_ok_of {M M' : List MO} {d : D} (hd : refsLt M.length d) (hc : CutOk M.length M M') : gc M (.ok d M') = .ok d (M'.take M.length) := by
  unfold gc
  dsimp only
  rw [if_pos ⟨hc, hd⟩]
theorem gc_new {M : List MO} {o : MO} (hd : o ≠ .dead) (ho : moLt M.length o) : gc M (.ok (.ref M.length) (M ++ [o])) = .ok (.ref M.length) (M ++ [o]) := by
  unfold gc
  dsimp only
  have h1 : ¬ (CutOk M.length M (M ++ [o]) ∧ refsLt M.length (.ref M.length)) := fun h => by
    have := h.2
    unfold refsLt at this
    exact Nat.lt_irrefl _ this
  rw [if_neg h1, List.getElem?_append_right (Nat.le_refl _), Nat.sub_self]
  have hc : CutOk M.length M (M ++ [o]) := fun i hi x hx => by
    rw [List.getElem?_append_left hi] at hx
    exact .inl hx
  cases o with
  | dead => exact (hd rfl).elim
  | lst l =>
    show (if M.length ≤ M.length ∧ CutOk M.length M (M ++ [.lst l]) ∧ moLt M.length (.lst l) then _ else _) = _
    rw [if_pos ⟨Nat.le_refl _, hc, ho⟩, List.take_left]
  | dK l =>
    show (if M.length ≤ M.length ∧ CutOk M.length M (M ++ [.dK l]) ∧ moLt M.length (.dK l) then _ else _) = _
    rw [if_pos ⟨Nat.le_refl _, hc, ho⟩, List.take_left]
  | dI l =>
    show (if M.length ≤ M.length ∧ CutOk M.length M (M ++ [.dI l]) ∧ moLt M.length (.dI l) then _ else _) = _
    rw [if_pos ⟨Nat.le_refl _, hc, ho⟩, List.take_left]
theorem fnF_rtq {n : Nat} {body : EvS} {ds : List D} {M M' : List MO} {d : D} (h : body (ds.map some ++ List.replicate (n - ds.length) none) M = .ok (.rt d) M') : fnF n body ds M = gc M (.ok d M') := by
  unfold fnF
  rw [h]
  rfl
theorem fnF_nxq {n : Nat} {body : EvS} {ds : List D} {M M' : List MO} {e : Env} (h : body (ds.map some ++ List.replicate (n - ds.length) none) M = .ok (.nx e) M') : fnF n body ds M = gc M (.ok .non M') := by
  unfold fnF
  rw [h]
  rfl
theorem fnF_rt {n : Nat} {body : EvS} {ds : List D} {M : List MO} {d : D} (h : body (ds.map some ++ List.replicate (n - ds.length) none) M = .ok (.rt d) M) (hd : noRef d) : fnF n body ds M = .ok d M := by
  rw [fnF_rtq h]
  exact gc_pure hd.lt
theorem fnF_nx {n : Nat} {body : EvS} {ds : List D} {M : List MO} {e : Env} (h : body (ds.map some ++ List.replicate (n - ds.length) none) M = .ok (.nx e) M) : fnF n body ds M = .ok .non M := by
  rw [fnF_nxq h]
  exact gc_pure noRef_non.lt
/-! ### comprehensions whose elements change nothing -/
theorem compL_pure {chk : List MO → Prop} {c : CT} {t : EvT} {f : EvE} {env : Env} {M : List MO} {pe : D → Env} {tb : D → Bool} {y : D → D} : ∀ (ds : List D) (acc : List D),
    (∀ acc, chk (M ++ [.lst acc])) → (∀ d ∈ ds, c.put d env = some (pe d)) → (∀ d ∈ ds, ∀ acc, t (pe d) (M ++ [.lst acc]) = .ok (tb d) (M ++ [.lst acc])) → (∀ d ∈ ds, tb d = true → ∀ acc, f (pe d) (M ++ [.lst acc]) = .ok (y d) (M ++ [.lst acc])) →
    acc.length + ds.length ≤ sizeLine → compL chk c t f env M.length ds (M ++ [.lst acc]) = .ok () (M ++ [.lst (acc ++ (ds.filter tb).map y)])
  | [], acc, hc, _, _, _, _ => by
    unfold compL
    rw [if_pos (hc acc)]
    simp
  | d :: r, acc, hc, hp, ht, hf, hl => by
    have hd : d ∈ d :: r := List.mem_cons_self
    have sub : ∀ x ∈ r, x ∈ d :: r := fun x hx => List.mem_cons_of_mem _ hx
    unfold compL
    rw [if_pos (hc acc), hp d hd]
    dsimp only
    rw [ht d hd acc, Out.bindN_ok]
    cases e : tb d with
    | false =>
      rw [if_neg Bool.false_ne_true, compL_pure r acc hc (fun x hx => hp x (sub x hx)) (fun x hx => ht x (sub x hx)) (fun x hx => hf x (sub x hx)) (by rw [List.length_cons] at hl; omega), List.filter_cons_of_neg (by rw [e]; exact Bool.false_ne_true)]
    | true =>
      rw [if_pos rfl, hf d hd e acc, Out.bindN_ok, List.getElem?_append_right (Nat.le_refl _), Nat.sub_self]
      dsimp only [List.getElem?_cons_zero]
      rw [List.length_cons] at hl
      rw [if_pos (by omega), List.set_append_right _ _ (Nat.le_refl _), Nat.sub_self, List.set_cons_zero]
      rw [compL_pure r (acc ++ [y d]) hc (fun x hx => hp x (sub x hx)) (fun x hx => ht x (sub x hx)) (fun x hx => hf x (sub x hx)) (by rw [List.length_append, List.length_singleton]; omega), List.filter_cons_of_pos e, List.map_cons, List.append_assoc, List.singleton_append]
theorem eComp_frz {it : EvI} {c : CT} {vs : List Nat} {t : EvT} {f : EvE} {env : Env} {M M1 : List MO} {ds : List D} {chk : List MO → Prop} (pe : D → Env) (tb : D → Bool) (y : D → D) (hit : it env M = .ok ⟨ds, chk⟩ M1)
    (hc : ∀ acc, chk (M1 ++ [.lst acc])) (hp : ∀ d ∈ ds, c.put d (wipeE env vs) = some (pe d)) (ht : ∀ d ∈ ds, ∀ acc, t (pe d) (M1 ++ [.lst acc]) = .ok (tb d) (M1 ++ [.lst acc])) (hf : ∀ d ∈ ds, tb d = true → ∀ acc, f (pe d) (M1 ++ [.lst acc]) = .ok (y d) (M1 ++ [.lst acc]))
    (hr : ∀ d ∈ ds, tb d = true → noRef (y d)) (hl : ds.length ≤ sizeLine) : eComp true it c vs t f env M = .ok (.lst ((ds.filter tb).map y)) M1 := by
  unfold eComp
  rw [hit, Out.bind_ok]
  rw [compL_pure (pe := pe) (tb := tb) (y := y) ds [] hc hp ht hf (by simpa using hl), Out.bindN_ok, List.nil_append]
  have hno : noRefL ((ds.filter tb).map y) := noRefL_of fun d hd => by
    obtain ⟨x, hx, rfl⟩ := List.mem_map.mp hd
    obtain ⟨h1, h2⟩ := List.mem_filter.mp hx
    exact hr x h1 h2
  have hcond : CutOk M1.length M1 (M1 ++ [.lst ((ds.filter tb).map y)]) ∧ refsLtL M1.length ((ds.filter tb).map y) ∧ (M1 ++ [MO.lst ((ds.filter tb).map y)]).length = M1.length + 1 :=
    ⟨fun i hi o ho => by rw [List.getElem?_append_left hi] at ho; exact .inl ho, noRefL.lt hno, by rw [List.length_append]; rfl⟩
  unfold compEnd
  rw [List.getElem?_append_right (Nat.le_refl _), Nat.sub_self]
  dsimp only [List.getElem?_cons_zero]
  rw [if_pos rfl, if_pos hcond, List.take_left]
/-! ### loops by an invariant -/
theorem forL_inv {chk : List MO → Prop} {g : EvG} {body : EvS} (ds : List D) (I : Nat → Env → List MO → Prop) (env : Env) (M : List MO)
    (step : ∀ i d env M, ds[i]? = some d → I i env M → chk M ∧ ∃ e1 M1 e2 M2, g d env M = .ok e1 M1 ∧ (body e1 M1 = .ok (.nx e2) M2 ∨ body e1 M1 = .ok (.ct e2) M2) ∧ I (i + 1) e2 M2) (fin : ∀ env M, I ds.length env M → chk M) (h : I 0 env M) :
    ∃ e' M', forL chk g body ds env M = .ok (.nx e') M' ∧ I ds.length e' M' := by
  have go : ∀ (r : List D) (i : Nat) (env : Env) (M : List MO), ds.drop i = r → i ≤ ds.length → I i env M → ∃ e' M', forL chk g body r env M = .ok (.nx e') M' ∧ I ds.length e' M' := fun r => by
    induction r with
    | nil =>
      intro i env M hd hi h
      have : i = ds.length := Nat.le_antisymm hi (List.drop_eq_nil_iff.mp hd)
      subst this
      exact ⟨env, M, by unfold forL; rw [if_pos (fin env M h)], h⟩
    | cons d r ih =>
      intro i env M hd hi h
      obtain ⟨hat, hr⟩ := drop_at hd
      obtain ⟨hc, e1, M1, e2, M2, h1, h2, h3⟩ := step i d env M hat h
      obtain ⟨e', M', h4, h5⟩ := ih (i + 1) e2 M2 hr (List.getElem?_eq_some_iff.mp hat).1 h3
      refine ⟨e', M', ?_, h5⟩
      unfold forL
      rw [if_pos hc, h1, Out.bind_ok]
      rcases h2 with h2 | h2 <;> (rw [h2, Out.bind_ok]; exact h4)
  exact go ds 0 env M rfl (Nat.zero_le _) h
/-- .. that stops at the k-th -/
theorem forL_break {chk : List MO → Prop} {g : EvG} {body : EvS} (ds : List D) (k : Nat) (I : Nat → Env → List MO → Prop) (env : Env) (M : List MO) {fl : Fl} {M' : List MO}
    (hk : k < ds.length)
    (step : ∀ i d env M, i < k → ds[i]? = some d → I i env M → chk M ∧ ∃ e1 M1 e2 M2, g d env M = .ok e1 M1 ∧ (body e1 M1 = .ok (.nx e2) M2 ∨ body e1 M1 = .ok (.ct e2) M2) ∧ I (i + 1) e2 M2) (h : I 0 env M)
    (last : ∀ d env M, ds[k]? = some d → I k env M → chk M ∧ ∃ e1 M1, g d env M = .ok e1 M1 ∧ ((∃ v, body e1 M1 = .ok (.rt v) M' ∧ fl = .rt v) ∨ ∃ e2, body e1 M1 = .ok (.bk e2) M' ∧ fl = .nx e2)) :
    forL chk g body ds env M = .ok fl M' := by
  have go : ∀ (n i : Nat) (env : Env) (M : List MO), i + n = k → I i env M → forL chk g body (ds.drop i) env M = .ok fl M' := fun n => by
    induction n with
    | zero =>
      intro i env M hi h
      have hik : i = k := by omega
      subst hik
      obtain ⟨hc, e1, M1, h1, h2⟩ := last ds[i] env M (List.getElem?_eq_getElem hk) h
      rw [List.drop_eq_getElem_cons hk]
      unfold forL
      rw [if_pos hc, h1, Out.bind_ok]
      rcases h2 with ⟨v, h2, h3⟩ | ⟨e2, h2, h3⟩ <;> (rw [h2, Out.bind_ok, h3])
    | succ n ih =>
      intro i env M hi h
      have hlt : i < ds.length := by omega
      obtain ⟨hc, e1, M1, e2, M2, h1, h2, h3⟩ := step i ds[i] env M (by omega) (List.getElem?_eq_getElem hlt) h
      rw [List.drop_eq_getElem_cons hlt]
      unfold forL
      rw [if_pos hc, h1, Out.bind_ok]
      have h4 := ih (i + 1) e2 M2 (by omega) h3
      rcases h2 with h2 | h2 <;> (rw [h2, Out.bind_ok]; exact h4)
  exact go k 0 env M (by omega) h
/-! ### == of whole numbers, of lists of them -/
theorem toPyL_IL (M : List MO) : ∀ ns : List Int, toPyL M (IL ns) = some (ns.map PyData.int)
  | [] => rfl
  | n :: ns => by
    show toPyL M (.int n :: IL ns) = _
    unfold toPyL
    rw [toPyL_IL M ns]
    rfl
theorem canAll_ints : ∀ ns : List Int, PyData.canLayAll0 (ns.map PyData.int) = true
  | [] => rfl
  | n :: ns => by
    show PyData.canLayAll0 (.int n :: ns.map PyData.int) = true
    unfold PyData.canLayAll0
    rw [canAll_ints ns]
    rfl
theorem shaped_ints (ns : List Int) : SeqAt.shaped (.list (ns.map PyData.int)) = true := by
  unfold SeqAt.shaped
  rw [Bool.and_eq_true]
  refine ⟨?_, decide_eq_true ?_⟩
  · show PyData.canLayAll0 (ns.map PyData.int) = true
    exact canAll_ints ns
  · have e : PyData.depthAll (ns.map PyData.int) = 0 := PySem.W.depth_ints ns
    show PyData.depthAll (ns.map PyData.int) + 1 ≤ 64
    rw [e]
    omega
theorem opEq_IL (neg : Bool) (a b : List Int) (M : List MO) : opEq neg (.lst (IL a)) (.lst (IL b)) M = .ok (.bl (if neg then !decide (a = b) else decide (a = b))) M := by
  have e1 : ∀ ns, toPyR M (.lst (IL ns)) = some (.list (ns.map PyData.int)) := fun ns => by
    show toPy M (.lst (IL ns)) = _
    unfold toPy
    rw [toPyL_IL]
    rfl
  unfold opEq
  rw [e1, e1]
  dsimp only
  rw [if_pos ⟨shaped_ints a, shaped_ints b⟩]
  have e2 : PyData.eqv (.list (a.map PyData.int)) (.list (b.map PyData.int)) = decide (a = b) := PySem.W.Datum.eqv (α := List Int) a b
  rw [e2]
theorem opEq_int (neg : Bool) (a b : Int) (M : List MO) : opEq neg (.int a) (.int b) M = .ok (.bl (if neg then !decide (a = b) else decide (a = b))) M := by
  have e2 : PyData.eqv (.int a) (.int b) = decide (a = b) := PySem.W.Datum.eqv (α := Int) a b
  have e1 : ∀ i : Int, toPyR M (.int i) = some (.int i) := fun _ => rfl
  unfold opEq
  rw [e1, e1]
  dsimp only
  rw [if_pos ⟨rfl, rfl⟩, e2]
theorem opEq_bl (neg : Bool) (a b : Bool) (M : List MO) : opEq neg (.bl a) (.bl b) M = .ok (.bl (if neg then !decide (a = b) else decide (a = b))) M := by
  have e2 : PyData.eqv (.bool a) (.bool b) = decide (a = b) := PySem.W.Datum.eqv (α := Bool) a b
  have e1 : ∀ i : Bool, toPyR M (.bl i) = some (.bool i) := fun _ => rfl
  unfold opEq
  rw [e1, e1]
  dsimp only
  rw [if_pos ⟨rfl, rfl⟩, e2]
/-! ### sorted whole numbers -/
def msI (ns : List Int) : List Int := ns.mergeSort fun a b => decide (a ≤ b)
theorem msI_perm (ns : List Int) : (msI ns).Perm ns := List.mergeSort_perm _ _
theorem msI_sorted (ns : List Int) : (msI ns).Pairwise (· ≤ ·) :=
  (List.pairwise_mergeSort (le := fun a b : Int => decide (a ≤ b)) (fun a b c h1 h2 => by simp at h1 h2 ⊢; omega) (fun a b => by simp; omega) ns).imp fun h => by simpa using h
theorem sorted_uniq {a b : List Int} (ha : a.Pairwise (· ≤ ·)) (hb : b.Pairwise (· ≤ ·)) (h : a.Perm b) : a = b := h.eq_of_pairwise (fun x y _ _ h1 h2 => Int.le_antisymm h1 h2) ha hb
theorem encD_int (M : List MO) (i : Int) : encD M (.int i) = .int i := rfl
theorem sortOk_IL (M : List MO) {ns : List Int} (h : ns.length ≤ 1000000) : SortOk M (IL ns) where
  all := fun d hd => by obtain ⟨i, _, rfl⟩ := List.mem_map.mp hd; rfl
  alike := fun d hd d' hd' => by
    obtain ⟨x, hx, rfl⟩ := List.mem_map.mp hd
    obtain ⟨i, _, rfl⟩ := List.mem_map.mp hx
    obtain ⟨x', hx', rfl⟩ := List.mem_map.mp hd'
    obtain ⟨j, _, rfl⟩ := List.mem_map.mp hx'
    rw [encD_int, encD_int]
    simp [PySem.W.alike]
  kind := .inr fun d hd => by
    obtain ⟨x, hx, rfl⟩ := List.mem_map.mp hd
    obtain ⟨i, _, rfl⟩ := List.mem_map.mp hx
    exact ⟨(fun e => by cases e), fun xs e => by cases e⟩
  len := by rw [List.length_map]; exact small_line h
  deep := fun d hd => by
    obtain ⟨i, _, rfl⟩ := List.mem_map.mp hd
    exact Nat.zero_le _
theorem sortD_IL (M : List MO) (ns : List Int) : sortD M (IL ns) = IL (msI ns) := by
  unfold sortD msI
  symm
  refine List.map_mergeSort fun a _ b _ => ?_
  show decide (a ≤ b) = PySem.W.dataLe false (encD M) (.int a) (.int b)
  have := congrFun (congrFun (PySem.W.dataLe_int (β := Int) id) a) b
  exact this.symm
theorem opSorted_tI (M : List MO) {ns : List Int} (h : ns.length ≤ 1000000) : opSorted mkF [.tup (IL ns)] M = .ok (.lst (IL (msI ns))) M := by
  show (if SortOk M (IL ns) then mkF (sortD M (IL ns)) M else .no) = _
  rw [if_pos (sortOk_IL M h), sortD_IL]
  rfl
end SX
end
section
set_option Elab.async false
set_option linter.all false
set_option maxRecDepth 100000
open Classical
/-! SXr: reckoning: comprehensions over whole numbers, ranges; orders. -/
namespace SX
open PySem PySem.Spec PyProof.Rows L2
theorem iSeq_tup {e : EvE} {env : Env} {M M1 : List MO} {l : List D} (h : e env M = .ok (.tup l) M1) : iSeq e env M = .ok ⟨l, fun _ => True⟩ M1 := by
  unfold iSeq; rw [h]; rfl
theorem iSeq_lst {e : EvE} {env : Env} {M M1 : List MO} {l : List D} (h : e env M = .ok (.lst l) M1) : iSeq e env M = .ok ⟨l, fun _ => True⟩ M1 := by
  unfold iSeq; rw [h]; rfl
theorem iSeq_rol {e : EvE} {env : Env} {M M1 : List MO} {l : List D} (h : e env M = .ok (.rol l) M1) : iSeq e env M = .ok ⟨l, fun _ => True⟩ M1 := by
  unfold iSeq; rw [h]; rfl
theorem comp_seq {e f : EvE} {i : Nat} {env : Env} {M : List MO} {ds : List D} (y : D → D) (he : iSeq e env M = .ok ⟨ds, fun _ => True⟩ M)
    (hf : ∀ d ∈ ds, ∀ acc, f ((wipeE env [i]).set i (some d)) (M ++ [.lst acc]) = .ok (y d) (M ++ [.lst acc])) (hr : ∀ d ∈ ds, noRef (y d)) (hl : ds.length ≤ 1000000) :
    eComp true (iSeq e) (.nm i) [i] tYesE f env M = .ok (.lst (ds.map y)) M := by
  have := eComp_frz (c := .nm i) (vs := [i]) (t := tYesE) (f := f) (fun d => (wipeE env [i]).set i (some d)) (fun _ => true) y he (fun _ => trivial) (fun _ _ => rfl) (fun _ _ _ => rfl) (fun d hd _ => hf d hd) (fun d hd _ => hr d hd) (small_line hl)
  rw [this, List.filter_eq_self.mpr (fun _ _ => rfl)]
theorem comp_ints {e f : EvE} {i : Nat} {env : Env} {M : List MO} {ns : List Int} (g : Int → Int) (he : iSeq e env M = .ok ⟨IL ns, fun _ => True⟩ M)
    (hf : ∀ x ∈ ns, ∀ acc, f ((wipeE env [i]).set i (some (.int x))) (M ++ [.lst acc]) = .ok (.int (g x)) (M ++ [.lst acc])) (hl : ns.length ≤ 1000000) :
    eComp true (iSeq e) (.nm i) [i] tYesE f env M = .ok (.lst (IL (ns.map g))) M := by
  let y : D → D := fun d => match d with | .int x => .int (g x) | d => d
  rw [comp_seq y he (fun d hd acc => ?_) (fun d hd => ?_) (by rw [List.length_map]; exact hl)]
  · unfold IL
    rw [List.map_map, List.map_map]
    rfl
  · obtain ⟨x, hx, rfl⟩ := List.mem_map.mp hd
    exact hf x hx acc
  · obtain ⟨x, hx, rfl⟩ := List.mem_map.mp hd
    exact noRef_int _
/-- .. with a test -/
theorem comp_filt {e f : EvE} {t : EvT} {i : Nat} {env : Env} {M : List MO} {ns : List Int} (p : Int → Bool) (g : Int → Int) (he : iSeq e env M = .ok ⟨IL ns, fun _ => True⟩ M)
    (ht : ∀ x ∈ ns, ∀ acc, t ((wipeE env [i]).set i (some (.int x))) (M ++ [.lst acc]) = .ok (p x) (M ++ [.lst acc]))
    (hf : ∀ x ∈ ns, p x = true → ∀ acc, f ((wipeE env [i]).set i (some (.int x))) (M ++ [.lst acc]) = .ok (.int (g x)) (M ++ [.lst acc])) (hl : ns.length ≤ 1000000) :
    eComp true (iSeq e) (.nm i) [i] t f env M = .ok (.lst (IL ((ns.filter p).map g))) M := by
  let y : D → D := fun d => match d with | .int x => .int (g x) | d => d
  let q : D → Bool := fun d => match d with | .int x => p x | _ => false
  rw [eComp_frz (c := .nm i) (vs := [i]) (fun d => (wipeE env [i]).set i (some d)) q y he (fun _ => trivial) (fun _ _ => rfl) (fun d hd acc => ?_) (fun d hd hq acc => ?_) (fun d hd _ => ?_) (by rw [List.length_map]; exact small_line hl)]
  · have e1 : (IL ns).filter q = IL (ns.filter p) := by unfold IL; rw [List.filter_map]; rfl
    rw [e1]
    unfold IL
    rw [List.map_map, List.map_map]
    rfl
  · obtain ⟨x, hx, rfl⟩ := List.mem_map.mp hd
    exact ht x hx acc
  · obtain ⟨x, hx, rfl⟩ := List.mem_map.mp hd
    exact hf x hx hq acc
  · obtain ⟨x, hx, rfl⟩ := List.mem_map.mp hd
    exact noRef_int _
theorem iRange1 {fs : EvEs} {env : Env} {M M1 : List MO} {n : Nat} (h : fs env M = .ok [.int n] M1) (hn : n ≤ 1000000) : iRange fs env M = .ok ⟨rng 0 n, fun _ => True⟩ M1 := by
  unfold iRange
  rw [h, Out.bind_ok]
  dsimp only
  rw [if_pos (by omega), Int.toNat_natCast]
theorem iRange2 {fs : EvEs} {env : Env} {M M1 : List MO} {i j : Int} (h : fs env M = .ok [.int i, .int j] M1) (hi : -1000000 ≤ i ∧ i ≤ 1000000) (hj : -1000000 ≤ j ∧ j ≤ 1000000) : iRange fs env M = .ok ⟨rng i (j - i).toNat, fun _ => True⟩ M1 := by
  unfold iRange
  rw [h, Out.bind_ok]
  dsimp only
  rw [if_pos (by omega)]
theorem rng_at {lo : Int} {n i : Nat} {d : D} (h : (rng lo n)[i]? = some d) : i < n ∧ d = .int (lo + i) := by
  have hi : i < n := by
    have := (List.getElem?_eq_some_iff.mp h).1
    rwa [rng_length] at this
  refine ⟨hi, ?_⟩
  unfold rng at h
  rw [List.getElem?_map, List.getElem?_range hi] at h
  exact (Option.some.inj h).symm
theorem rng_mem {lo : Int} {n : Nat} {d : D} (h : d ∈ rng lo n) : ∃ i : Nat, i < n ∧ d = .int (lo + i) := by
  obtain ⟨i, hi, e⟩ := List.getElem_of_mem h
  have := rng_at (show (rng lo n)[i]? = some d by rw [List.getElem?_eq_getElem hi, e])
  exact ⟨i, this.1, this.2⟩
/-- lo, .., lo + n - 1 -/
def rI (lo : Int) (n : Nat) : List Int := (List.range n).map fun (i : Nat) => lo + (i : Int)
theorem rng_rI (lo : Int) (n : Nat) : rng lo n = IL (rI lo n) := rng_ints lo n
theorem rI_length (lo : Int) (n : Nat) : (rI lo n).length = n := by unfold rI; rw [List.length_map, List.length_range]
theorem rI_mem {lo x : Int} {n : Nat} : x ∈ rI lo n ↔ lo ≤ x ∧ x < lo + n := by
  unfold rI
  rw [List.mem_map]
  constructor
  · rintro ⟨i, hi, rfl⟩
    have := List.mem_range.mp hi
    omega
  · intro h
    exact ⟨(x - lo).toNat, List.mem_range.mpr (by omega), by omega⟩
theorem rI_sorted (lo : Int) (n : Nat) : (rI lo n).Pairwise (· < ·) := by
  unfold rI
  rw [List.pairwise_map]
  exact List.pairwise_lt_range.imp fun h => by omega
theorem rI_nodup (lo : Int) (n : Nat) : (rI lo n).Nodup := (rI_sorted lo n).imp fun h => by omega
theorem rI_succ (lo : Int) (n : Nat) : rI lo (n + 1) = rI lo n ++ [lo + n] := by
  unfold rI
  rw [List.range_succ, List.map_append]
  rfl
theorem rI_shift (lo k : Int) (n : Nat) : (rI lo n).map (k + ·) = rI (k + lo) n := by
  unfold rI
  rw [List.map_map]
  exact List.map_congr_left fun i _ => by show k + (lo + (i : Int)) = k + lo + i; omega
/-- p is an order of its many things -/
def Ord (p : List Int) : Prop := p.Perm (rI 1 p.length)
theorem Ord.nodup {p : List Int} (h : Ord p) : p.Nodup := h.nodup_iff.mpr (rI_nodup _ _)
theorem Ord.mem {p : List Int} (h : Ord p) {x : Int} : x ∈ p ↔ 1 ≤ x ∧ x < 1 + p.length := h.mem_iff.trans rI_mem
theorem ord_of {p : List Int} {n : Nat} (h : p.Perm (rI 1 n)) : Ord p ∧ p.length = n := by
  have e : p.length = n := by rw [h.length_eq, rI_length]
  subst e
  exact ⟨h, rfl⟩
theorem ord_of_mem {p : List Int} (hn : p.Nodup) (h : ∀ x ∈ p, 1 ≤ x ∧ x ≤ p.length) : Ord p := by
  have sub : ∀ x ∈ p, x ∈ rI 1 p.length := fun x hx => rI_mem.mpr (by have := h x hx; omega)
  exact (List.perm_ext_iff_of_nodup hn (rI_nodup _ _)).mpr fun x => ⟨sub x, fun hx => by
    apply Classical.byContradiction
    intro hnx
    have h1 : (x :: p).Nodup := List.nodup_cons.mpr ⟨hnx, hn⟩
    have h2 : (x :: p).length ≤ (rI 1 p.length).length := by
      have go : ∀ {l m : List Int}, l.Nodup → (∀ x, x ∈ l → x ∈ m) → l.length ≤ m.length := fun {l m} hl h => by
        induction l generalizing m with
        | nil => exact Nat.zero_le _
        | cons x r ih =>
          obtain ⟨h1, h2⟩ := List.nodup_cons.mp hl
          have hx := h x List.mem_cons_self
          have := ih (m := m.erase x) h2 fun y hy => (List.mem_erase_of_ne (fun e => h1 (by rw [← e]; exact hy))).mpr (h y (List.mem_cons_of_mem _ hy))
          rw [List.length_erase_of_mem hx] at this
          have hp := List.length_pos_of_mem hx
          rw [List.length_cons]
          omega
      exact go h1 fun y hy => (List.mem_cons.mp hy).elim (fun e => by rw [e]; exact hx) (sub y)
    rw [rI_length, List.length_cons] at h2
    omega⟩
theorem msI_ord {p : List Int} (h : Ord p) : msI p = rI 1 p.length := sorted_uniq (msI_sorted p) ((rI_sorted _ _).imp fun h => by omega) ((msI_perm p).trans h)
theorem msI_eq {p q : List Int} (hq : q.Pairwise (· ≤ ·)) : msI p = q ↔ p.Perm q := ⟨fun e => by rw [← e]; exact (msI_perm p).symm, fun h => sorted_uniq (msI_sorted p) hq ((msI_perm p).trans h)⟩
end SX
end
section
set_option Elab.async false
set_option linter.all false
set_option maxRecDepth 100000
open Classical
/-! SXs: two clauses; a chain as a test. -/
namespace SX
open PySem PySem.Spec PyProof.Rows L2
noncomputable def compL2 (chk : List MO → Prop) (c : CT) (t : EvT) (it1 : EvI) (c1 : CT) (vs1 : List Nat) (t1 : EvT) (f : EvE) (env : Env) (N : Nat) : List D → List MO → Out Unit
  | [], M => if chk M then .ok () M else .no
  | d :: r, M => if chk M then (match c.put d env with
    | none => .no
    | some e1 => (t e1 M).bindN fun b M1 => if b = true then (it1 e1 M1).bindN fun I1 M2 => (compL I1.chk c1 t1 f (wipeE e1 vs1) N I1.ds M2).bindN fun _ M3 => compL2 chk c t it1 c1 vs1 t1 f env N r M3
      else compL2 chk c t it1 c1 vs1 t1 f env N r M1) else .no
noncomputable def eComp2 (frz : Bool) (it : EvI) (c : CT) (vs : List Nat) (t : EvT) (it1 : EvI) (c1 : CT) (vs1 : List Nat) (t1 : EvT) (f : EvE) : EvE := fun env M => (it env M).bind fun I M1 =>
  (compL2 I.chk c t it1 c1 vs1 t1 f (wipeE env vs) M1.length I.ds (M1 ++ [.lst []])).bindN fun _ M2 => compEnd frz M1 M2
theorem bindN_assoc {α β γ : Type} (o : Out α) (k : α → List MO → Out β) (l : β → List MO → Out γ) : (o.bindN k).bindN l = o.bindN fun a M => (k a M).bindN l := by
  cases o <;> rfl
theorem comp2_read {X : Cx} {p : Pm} {it it1 : EvI} {c c1 : CT} {vs vs1 : List Nat} {t t1 : EvT} {f : EvE} {frz : Bool} {wi wi1 : TI} {te : TE} {tt tt1 : TT} {σ : L2.St} {H : Hp} {Q : VK} (hcv : ∀ i ∈ c.vs, i ∈ vs) (hcv1 : ∀ i ∈ c1.vs, i ∈ vs1) (hi : ∀ R, tI X.K p it σ H R → wi σ H R) (hi1 : ∀ σ H R, tI X.K p.calm it1 σ H R → wi1 σ H R)
    (hte : ∀ σ H Q, tE X.K p.calm f σ H Q → te σ H Q) (htt : ∀ σ H Q, tT X.K p.calm t σ H Q → tt σ H Q) (htt1 : ∀ σ H Q, tT X.K p.calm t1 σ H Q → tt1 σ H Q)
    (h : tE X.K p (eComp2 frz it c vs t it1 c1 vs1 t1 f) σ H Q) : tLc2 wi (c.tg X.K) tt wi1 (c1.tg X.K) tt1 te vs vs1 σ H Q := by
  obtain ⟨A, M, env, R, S, q⟩ := h
  refine hi _ ⟨A, M, env, R, S, (OutR.of_bind q).imp (fun I M1 _ q1 J H1 A1 sA io D0 hD => ?_) fun _ _ _ _ _ z => z⟩
  have s1 : Stp X.K p.T A1 H1 (A1 ++ [some D0]) (M1 ++ [.lst []]) (upd H1 D0 (.lst [])) := .newO sA.rel hD ⟨[], upd_same, .nil⟩
  have S1 := S.stp R sA
  refine ⟨fun i m H2 => ∃ A2 M2, Stp X.K p.T (A1 ++ [some D0]) (upd H1 D0 (.lst [])) A2 M2 H2 ∧ m + i = I.ds.length ∧
    OutR ((compL2 I.chk c t it1 c1 vs1 t1 f (wipeE env vs) M1.length (I.ds.drop i) M2).bindN fun _ M2 => compEnd frz M1 M2) (Fin X.K p.T A H Q) (Exc X.K p A H), ⟨I.ds.length, _, _, .refl s1.rel, by omega, q1⟩, ?_⟩
  rintro i m H2 ⟨A2, M2, s2, hm, q2⟩
  have sA2 := s1.trans s2
  cases hd : I.ds.drop i with
  | nil =>
    have hlen : I.ds.length ≤ i := List.drop_eq_nil_iff.mp hd
    have e : i = I.ds.length := by omega
    rw [hd] at q2
    unfold compL2 at q2
    by_cases hc : I.chk M2
    · rw [if_pos hc] at q2
      exact .inl ⟨by rw [e]; exact io.stop A2 M2 H2 sA2 hc, comp_done sA hD s1 s2 q2⟩
    · rw [if_neg hc] at q2; exact q2.elim
  | cons d r =>
    obtain ⟨hat, hr⟩ := drop_at hd
    rw [hd] at q2
    unfold compL2 at q2
    by_cases hc : I.chk M2
    · rw [if_pos hc] at q2
      obtain ⟨hgo, hy⟩ := io.go A2 M2 H2 sA2 hc i d hat
      have hlt : i < I.ds.length := (List.getElem?_eq_some_iff.mp hat).1
      refine .inr ⟨hgo, fun H3 => ∃ A3 M3, Stp X.K p.T (A1 ++ [some D0]) (upd H1 D0 (.lst [])) A3 M3 H3 ∧
        OutR ((compL2 I.chk c t it1 c1 vs1 t1 f (wipeE env vs) M1.length r M3).bindN fun _ M2 => compEnd frz M1 M2) (Fin X.K p.T A H Q) (Exc X.K p A H), fun H3 ⟨A3, M3, s3, q3⟩ => ⟨m - 1, by omega, A3, M3, s3, by omega, by rw [hr]; exact q3⟩, fun x H3 hyl => ?_⟩
      obtain ⟨sy, ry⟩ := hy x H3 hyl
      have s23 := s2.trans sy
      have S3 : RepS X.K A2 H3 (wipeE env vs) (L2.wipe σ vs) := (((S1.stp sA.rel s1).stp s1.rel s2).stp s2.rel sy).wipe vs
      cases hp : c.put d (wipeE env vs) with
      | none => rw [hp] at q2; exact q2.elim
      | some e1 =>
        rw [hp] at q2
        dsimp only at q2
        refine CT.ok hcv ry S3 hp fun σ2 S4 ew => ⟨ew.trans wipe_wipe, htt _ _ _ ⟨A2, M2, e1, sy.rel, S4, ?_⟩⟩
        rw [bindN_assoc] at q2
        refine (OutR.of_bindN q2 (Exc X.K p.calm A2 H3)).imp (fun b M4 _ q4 H4 A4 s4 => ?_) fun _ _ _ _ _ z => z
        have s14 := s23.trans s4
        cases b with
        | false =>
          dsimp only
          rw [if_neg Bool.false_ne_true] at q4 ⊢
          exact ⟨A4, M4, s14, q4⟩
        | true =>
          dsimp only
          rw [if_pos rfl] at q4 ⊢
          have S5 := S4.stp sy.rel s4
          refine hi1 _ _ _ ⟨A4, M4, e1, s4.rel, S5, ?_⟩
          rw [bindN_assoc] at q4
          refine (OutR.of_bindN q4 (Exc X.K p.calm A4 H4)).imp (fun I1 M5 _ q5 J1 H5 A5 s5 io1 => ?_) fun _ _ _ _ _ z => z
          rw [bindN_assoc] at q5
          have s15 := s14.trans s5
          refine ⟨fun j k H6 => ∃ A6 M6, Stp X.K p.T A5 H5 A6 M6 H6 ∧ k + j = I1.ds.length ∧
            OutR ((compL I1.chk c1 t1 f (wipeE e1 vs1) M1.length (I1.ds.drop j) M6).bindN fun _ M3 => (compL2 I.chk c t it1 c1 vs1 t1 f (wipeE env vs) M1.length r M3).bindN fun _ M2 => compEnd frz M1 M2) (Fin X.K p.T A H Q) (Exc X.K p A H), ⟨I1.ds.length, _, _, .refl s5.rel, by omega, q5⟩, ?_⟩
          rintro j k H6 ⟨A6, M6, s6, hk, q6⟩
          have s16 := s15.trans s6
          cases hd1 : I1.ds.drop j with
          | nil =>
            have hlen : I1.ds.length ≤ j := List.drop_eq_nil_iff.mp hd1
            have e : j = I1.ds.length := by omega
            rw [hd1] at q6
            unfold compL at q6
            by_cases hc1 : I1.chk M6
            · rw [if_pos hc1] at q6
              exact .inl ⟨by rw [e]; exact io1.stop A6 M6 H6 s6 hc1, A6, M6, s16, q6⟩
            · rw [if_neg hc1] at q6; exact q6.elim
          | cons d1 r1 =>
            obtain ⟨hat1, hr1⟩ := drop_at hd1
            rw [hd1] at q6
            unfold compL at q6
            by_cases hc1 : I1.chk M6
            · rw [if_pos hc1] at q6
              obtain ⟨hgo1, hy1⟩ := io1.go A6 M6 H6 s6 hc1 j d1 hat1
              have hlt1 : j < I1.ds.length := (List.getElem?_eq_some_iff.mp hat1).1
              refine .inr ⟨hgo1, fun H7 => ∃ A7 M7, Stp X.K p.T A5 H5 A7 M7 H7 ∧
                OutR ((compL I1.chk c1 t1 f (wipeE e1 vs1) M1.length r1 M7).bindN fun _ M3 => (compL2 I.chk c t it1 c1 vs1 t1 f (wipeE env vs) M1.length r M3).bindN fun _ M2 => compEnd frz M1 M2) (Fin X.K p.T A H Q) (Exc X.K p A H), fun H7 ⟨A7, M7, s7, q7⟩ => ⟨k - 1, by omega, A7, M7, s7, by omega, by rw [hr1]; exact q7⟩, fun x1 H7 hyl1 => ?_⟩
              obtain ⟨sy1, ry1⟩ := hy1 x1 H7 hyl1
              have s67 := s6.trans sy1
              have S7 : RepS X.K A6 H7 (wipeE e1 vs1) (L2.wipe σ2 vs1) := (((S5.stp s4.rel s5).stp s5.rel s6).stp s6.rel sy1).wipe vs1
              cases hp1 : c1.put d1 (wipeE e1 vs1) with
              | none => rw [hp1] at q6; exact q6.elim
              | some e2 =>
                rw [hp1] at q6
                dsimp only at q6
                refine CT.ok hcv1 ry1 S7 hp1 fun σ3 S8 ew1 => ⟨ew1.trans wipe_wipe, htt1 _ _ _ ⟨A6, M6, e2, sy1.rel, S8, ?_⟩⟩
                rw [bindN_assoc] at q6
                refine (OutR.of_bindN q6 (Exc X.K p.calm A6 H7)).imp (fun b M8 _ q8 H8 A8 s8 => ?_) fun _ _ _ _ _ z => z
                have s58 := s67.trans s8
                cases b with
                | false =>
                  dsimp only
                  rw [if_neg Bool.false_ne_true] at q8 ⊢
                  exact ⟨A8, M8, s58, q8⟩
                | true =>
                  dsimp only
                  rw [if_pos rfl] at q8 ⊢
                  refine hte _ _ _ ⟨A8, M8, e2, s8.rel, S8.stp sy1.rel s8, ?_⟩
                  rw [bindN_assoc] at q8
                  refine (OutR.of_bindN q8 (Exc X.K p.calm A8 H8)).imp (fun y M9 _ q9 v H9 A9 s9 r9 => ?_) fun _ _ _ _ _ z => z
                  have s59 := s58.trans s9
                  have sAll := (s15.trans s59)
                  cases hN : M9[M1.length]? with
                  | none => rw [hN] at q9; exact q9.elim
                  | some o =>
                    rw [hN] at q9
                    cases o with
                    | lst acc =>
                      dsimp only at q9
                      obtain ⟨h1, ws, h2, tw⟩ := at_N sA.rel.len sAll hN
                      by_cases hz : acc.length < sizeLine
                      · rw [if_pos hz] at q9
                        refine ⟨ws, h2, by rw [← tw.length]; exact hz, ?_⟩
                        have s10 : Stp X.K p.T A9 H9 A9 (M9.set M1.length (.lst (acc ++ [y]))) (upd H9 D0 (.lst (ws ++ [v]))) := Stp.setO sAll.rel h1 fun mv => ⟨_, upd_same, (tw.mv sAll.rel mv).append (.cons (r9.mv sAll.rel mv) .nil)⟩
                        exact ⟨A9, _, s59.trans s10, q9⟩
                      · rw [if_neg hz] at q9; exact q9.elim
                    | _ => exact q9.elim
            · rw [if_neg hc1] at q6; exact q6.elim
    · rw [if_neg hc] at q2; exact q2.elim
section
variable {X : Cx} {p : Pm} {tg e tg1 e1 elt : Expr} {it it1 : EvI} {c c1 : CT} {vs1 : List Nat} {t t1 : EvT} {f : EvE}
/-- [elt for tg in e if .. for tg1 in e1 if ..] -/
theorem se_lc2 (frz : Bool) {scope : Scope} {own : List (Str × Nat)} {ifs ifs1 : List Expr} {pos : Pos} (hc : X.calm = true) (hN : X.N.Nodup) (hi : SI X p tg e it) (ok : BlkOk X.N X.env.scope scope own) (hv1 : ∀ i ∈ vs1, i ∈ own.map (·.2)) (hcv : ∀ i ∈ c.vs, i ∈ own.map (·.2)) (hcv1 : ∀ i ∈ c1.vs, i ∈ vs1)
    (hg : ∀ (s : Shared) (H : Hp) (C : Addr) (cl : List (Str × Addr)) (fp : List Addr), PG (X.blk s H scope (compEnvC scope cl C X.env) fp) tg (c.tg X.K))
    (ht : ∀ (s : Shared) (H : Hp) (C : Addr) (cl : List (Str × Addr)) (fp : List Addr), STs (X.blk s H scope (compEnvC scope cl C X.env) fp) p.calm ifs t)
    (hi1 : ∀ (s : Shared) (H : Hp) (C : Addr) (cl : List (Str × Addr)) (fp : List Addr), SI (X.blk s H scope (compEnvC scope cl C X.env) fp) p.calm tg1 e1 it1)
    (hg1 : ∀ (s : Shared) (H : Hp) (C : Addr) (cl : List (Str × Addr)) (fp : List Addr), PG (X.blk s H scope (compEnvC scope cl C X.env) fp) tg1 (c1.tg X.K))
    (ht1 : ∀ (s : Shared) (H : Hp) (C : Addr) (cl : List (Str × Addr)) (fp : List Addr), STs (X.blk s H scope (compEnvC scope cl C X.env) fp) p.calm ifs1 t1)
    (he : ∀ (s : Shared) (H : Hp) (C : Addr) (cl : List (Str × Addr)) (fp : List Addr), SE (X.blk s H scope (compEnvC scope cl C X.env) fp) p.calm elt f) (hs : ∀ x, foldedSetIterable e X.env x = pure x := by intro _; rfl) (hs1 : ∀ (v : PySem.Env) (x : Value), foldedSetIterable e1 v x = pure x := by intro _ _; rfl) :
    SE X p (.ListComp elt [⟨tg, e, ifs, 0⟩, ⟨tg1, e1, ifs1, 0⟩] scope pos) (eComp2 frz it c (own.map (·.2)) t it1 c1 vs1 t1 f) :=
  pe_imp (pe_lc2 (tt := tT X.K p.calm t) (wi1 := tI X.K p.calm it1) (tt1 := tT X.K p.calm t1) (te := tE X.K p.calm f) hc hN hi ok hv1 hg ht hi1 hg1 ht1 he hs hs1) fun σ H Q h => comp2_read hcv hcv1 (fun _ z => z) (fun _ _ _ z => z) (fun _ _ _ z => z) (fun _ _ _ z => z) (fun _ _ _ z => z) h
/-- name = [..] -/
theorem ss_setLc2 (frz : Bool) {i : Nat} {y : Str} {py spos : Pos} {scope : Scope} {own : List (Str × Nat)} {ifs ifs1 : List Expr} {pos : Pos} (hc : X.calm = true) (hN : X.N.Nodup) (hy : X.N[i]? = some y) (hyl : X.env.scope.names.lookup y = some .local)
    (hsw : swapsWith (.ListComp elt [⟨tg, e, ifs, 0⟩, ⟨tg1, e1, ifs1, 0⟩] scope pos) (some (.Name y py)) spos.line X.env = pure true) (hi : SI X p tg e it) (ok : BlkOk X.N X.env.scope scope own) (hv1 : ∀ i ∈ vs1, i ∈ own.map (·.2)) (hcv : ∀ i ∈ c.vs, i ∈ own.map (·.2)) (hcv1 : ∀ i ∈ c1.vs, i ∈ vs1)
    (hg : ∀ (s : Shared) (H : Hp) (C : Addr) (cl : List (Str × Addr)) (fp : List Addr), PG (X.blk s H scope (compEnvC scope cl C X.env) fp) tg (c.tg X.K))
    (ht : ∀ (s : Shared) (H : Hp) (C : Addr) (cl : List (Str × Addr)) (fp : List Addr), STs (X.blk s H scope (compEnvC scope cl C X.env) fp) p.calm ifs t)
    (hi1 : ∀ (s : Shared) (H : Hp) (C : Addr) (cl : List (Str × Addr)) (fp : List Addr), SI (X.blk s H scope (compEnvC scope cl C X.env) fp) p.calm tg1 e1 it1)
    (hg1 : ∀ (s : Shared) (H : Hp) (C : Addr) (cl : List (Str × Addr)) (fp : List Addr), PG (X.blk s H scope (compEnvC scope cl C X.env) fp) tg1 (c1.tg X.K))
    (ht1 : ∀ (s : Shared) (H : Hp) (C : Addr) (cl : List (Str × Addr)) (fp : List Addr), STs (X.blk s H scope (compEnvC scope cl C X.env) fp) p.calm ifs1 t1)
    (he : ∀ (s : Shared) (H : Hp) (C : Addr) (cl : List (Str × Addr)) (fp : List Addr), SE (X.blk s H scope (compEnvC scope cl C X.env) fp) p.calm elt f) (hs : ∀ x, foldedSetIterable e X.env x = pure x := by intro _; rfl) (hs1 : ∀ (v : PySem.Env) (x : Value), foldedSetIterable e1 v x = pure x := by intro _ _; rfl) :
    SS X p (.Assign [.Name y py] (.ListComp elt [⟨tg, e, ifs, 0⟩, ⟨tg1, e1, ifs1, 0⟩] scope pos) spos) (sAsg (eComp2 frz it c (own.map (·.2)) t it1 c1 vs1 t1 f) (gtName i)) :=
  ps_imp (ps_setLc2 (tt := tT X.K p.calm t) (wi1 := tI X.K p.calm it1) (tt1 := tT X.K p.calm t1) (te := tE X.K p.calm f) hc hN hy hyl hsw hi ok hv1 hg ht hi1 hg1 ht1 he hs hs1) (asg_tS (fun σ H Q h => comp2_read hcv hcv1 (fun _ z => z) (fun _ _ _ z => z) (fun _ _ _ z => z) (fun _ _ _ z => z) (fun _ _ _ z => z) h) fun v σ H Q ⟨A, M, env, d, R, S, r, q⟩ => q _ H A (.refl R) (S.set r))
end
section
variable {X : Cx} {p : Pm} {a b c : Expr} {f g h : EvE} {pos : Pos}
/-- a OP b OP' c as a test -/
theorem st_chain {op op' : CmpOp} {r r' : R2} {o o' : D → D → List MO → Out D} (ho : OpR X (compareOp op) r) (ho' : OpR X (compareOp op') r') (k : Ok2 X.K r o) (k' : Ok2 X.K r' o') (hc : Calm2 o) (hc' : Calm2 o')
    (ha : SE X p a f) (hb : SE X p b g) (hcc : SE X p c h) (hm : lastMarks [op, op'] [b, c] = false := by with_unfolding_all rfl) : ST X p (.Compare a [op, op'] [b, c] pos) (tBl (eCh o o' f g h)) :=
  pt_imp (pt_chain ho ho' ha hb hcc hm) fun σ H Q ⟨A, M, env, R, S, q0⟩ => by
    have q : OutR (eCh o o' f g h env M) (fun d M1 => ∀ v H' A', Stp X.K p.T A H A' M1 H' → Rep X.K A' H' d v → ∃ b, v = .bl b ∧ Q b H') (Exc X.K p A H) :=
      (OutR.of_bind (k := fun d M1 => oT (asB d) M1) q0).imp (fun d M1 _ z v H1 A1 s1 r1 => by
        obtain ⟨b, e, z⟩ := oT_ok z
        exact ⟨b, asB_rep r1 e, z H1 A1 s1⟩) fun _ _ _ _ _ z => z
    refine seqE R S (fun _ _ _ _ z => z) q fun x M1 v H1 A1 s1 r1 q1 => ?_
    refine seqE s1.rel (S.stp R s1) (fun _ _ _ _ z => Exc.stp s1 z) q1 fun y M2 w H2 A2 s2 r2 q2 => ?_
    refine k p.T A2 M2 H2 x y v w _ s2.rel (r1.stp s1.rel s2) r2 ?_
    refine (noex (hc x y M2) q2.of_bind).imp (fun d M3 _ z => ?_) fun _ _ _ _ _ z => z
    intro u H3 A3 s3 r3
    have s13 := s1.trans (s2.trans s3)
    cases d with
    | bl kb =>
      refine ⟨kb, rep_bl r3, ?_⟩
      cases kb with
      | true =>
        rw [if_pos rfl]
        refine seqE s3.rel (((S.stp R s1).stp s1.rel s2).stp s2.rel s3) (fun _ _ _ _ z => Exc.stp s13 z) z fun u M4 uv H4 A4 s4 r4 q4 => ?_
        refine k' p.T A4 M4 H4 y u w uv _ s4.rel ((r2.stp s2.rel s3).stp s3.rel s4) r4 ((noex (hc' y u M4) q4).imp (fun d M' _ z => ?_) fun _ _ _ _ _ z => z)
        exact fun v5 H5 A5 s5 r5 => z v5 H5 A5 ((s13.trans s4).trans s5) r5
      | false =>
        rw [if_neg Bool.false_ne_true]
        exact z _ H3 A3 s13 (.bl _)
    | _ => exact z.elim
end
end SX
end
section
set_option Elab.async false
set_option linter.all false
set_option maxRecDepth 100000
open Classical
/-! SXt: methods of tuples of whole numbers. -/
namespace SX
open PySem PySem.Spec PyProof.Rows L2 PySem.W PySem.Calls
def isTupD : D → Bool
  | .tup _ => true
  | _ => false
noncomputable def eMT (op : D → List D → List MO → Out D) (f : EvE) (fs : EvEs) : EvE := fun env M => (f env M).bind fun o M1 => if isTupD o = true then (fs env M1).bind fun ds M2 => op o ds M2 else .no
noncomputable def opTIx : D → List D → List MO → Out D
  | .tup l, [.int i], M => match intsOf l with
    | some ns => if i ∈ ns then .ok (.int (ns.idxOf i : Nat)) M else .no
    | none => .no
  | _, _, _ => .no
def opTCt : D → List D → List MO → Out D
  | .tup l, [.int i], M => match intsOf l with
    | some ns => .ok (.int (ns.count i : Nat)) M
    | none => .no
  | _, _, _ => .no
section
variable {X : Cx} {p : Pm} {a b e o : Expr} {es : List Expr} {f g : EvE} {fs gs : EvEs} {pn pos p2 p3 apos cpos : Pos} {name : Str}
theorem se_bmT {id : String} {r : V → List V → Hp → VK → Prop} {op : D → List D → List MO → Out D} (slot : Slot "tuple" name id) (hty : typeOf (.builtin id) = pure (.type "method_descriptor")) (hm : MtR X id r) (ok : OkM X.K r op) (hc : ∀ x xs M c d e M', op x xs M ≠ .ex c d e M') (ho : SE X p o f) (ha : SA X p (e :: es) fs)
    (hbase : attributeBase o name X.env (eval o X.env) = eval o X.env := by rfl)
    (hfew : ((backTo cpos (starEach (e :: es) X.env)).all (fun x => !x.1) && (backToKw cpos (keywordEach [] X.env)).all (fun x => x.1.isSome)
      && decide ((e :: es).length + ([] : List Keyword).length + (if ([] : List Keyword).isEmpty then 0 else 1) < 30)) = true := by rfl)
    (hline : (apos.endLine == cpos.line) = true := by rfl) (hs : starEach (e :: es) X.env = (false, eval e X.env) :: starEach es X.env := by rfl) (hplain : (backTo cpos (starEach es X.env)).any (·.1) = false := by rfl) :
    SE X p (.Call (.Attribute o name apos) (e :: es) [] cpos) (eMT op f fs) :=
  pe_imp (pe_bmT slot hty hm ho ha hbase hfew hline hs hplain) fun σ H Q ⟨A, M, env, R, S, q⟩ => seqE R S (fun _ _ _ _ z => z) q fun d M1 v H1 A1 s1 r1 q1 => by
    obtain ⟨hl, q1⟩ := ifO q1
    cases d with
    | tup l =>
      obtain ⟨a', vs, e2, h2, t⟩ := rep_tpl r1
      refine ⟨⟨a', vs, e2, h2⟩, seqEs s1.rel (S.stp R s1) (fun _ _ _ _ z => Exc.stp s1 z) q1 fun ds M2 us H2 A2 s2 r2 q2 => ?_⟩
      exact ok p.T A2 M2 H2 _ ds v us Q s2.rel (r1.stp s1.rel s2) r2 ((noex (hc _ ds M2) q2).imp (fun d M' _ z => Fin.stp (p := p) (s1.trans s2) z) fun _ _ _ _ _ z => z)
    | _ => cases hl
theorem se_tindex (ho : SE X p o f) (ha : SA X p (e :: es) fs) (hbase : attributeBase o "index" X.env (eval o X.env) = eval o X.env := by rfl)
    (hfew : ((backTo cpos (starEach (e :: es) X.env)).all (fun x => !x.1) && (backToKw cpos (keywordEach [] X.env)).all (fun x => x.1.isSome)
      && decide ((e :: es).length + ([] : List Keyword).length + (if ([] : List Keyword).isEmpty then 0 else 1) < 30)) = true := by rfl)
    (hline : (apos.endLine == cpos.line) = true := by rfl) (hs : starEach (e :: es) X.env = (false, eval e X.env) :: starEach es X.env := by rfl) (hplain : (backTo cpos (starEach es X.env)).any (·.1) = false := by rfl) :
    SE X p (.Call (.Attribute o "index" apos) (e :: es) [] cpos) (eMT opTIx f fs) :=
  se_bmT PySem.F.slot_tuple_index PySem.F.type_tuple_index mt_tindex (fun T A M H x xs v vs Q R rx rxs h => by
    unfold opTIx at h
    split at h
    · rename_i l i
      obtain ⟨w, e1, ri⟩ := reps1 rxs
      subst e1
      cases e2 : intsOf l with
      | none => simp only [e2] at h; exact h.elim
      | some ns =>
        simp only [e2] at h
        obtain ⟨hi, h⟩ := ifO h
        obtain ⟨a', ws, e3, h2, t⟩ := rep_tup rx
        have := reps_ints t e2
        subst this
        exact ⟨a', ns, i, e3, by rw [rep_int ri], h2, hi, h _ H A (.refl R) (.int _)⟩
    · exact h.elim) (fun x xs M c d e M' q => by
      unfold opTIx at q
      split at q
      · split at q
        · exact calm_of calm_ok _ _ _ _ q
        · cases q
      · cases q) ho ha hbase hfew hline hs hplain
theorem se_tcount (ho : SE X p o f) (ha : SA X p (e :: es) fs) (hbase : attributeBase o "count" X.env (eval o X.env) = eval o X.env := by rfl)
    (hfew : ((backTo cpos (starEach (e :: es) X.env)).all (fun x => !x.1) && (backToKw cpos (keywordEach [] X.env)).all (fun x => x.1.isSome)
      && decide ((e :: es).length + ([] : List Keyword).length + (if ([] : List Keyword).isEmpty then 0 else 1) < 30)) = true := by rfl)
    (hline : (apos.endLine == cpos.line) = true := by rfl) (hs : starEach (e :: es) X.env = (false, eval e X.env) :: starEach es X.env := by rfl) (hplain : (backTo cpos (starEach es X.env)).any (·.1) = false := by rfl) :
    SE X p (.Call (.Attribute o "count" apos) (e :: es) [] cpos) (eMT opTCt f fs) :=
  se_bmT PySem.F.slot_tuple_count PySem.F.type_tuple_count mt_tcount (fun T A M H x xs v vs Q R rx rxs h => by
    unfold opTCt at h
    split at h
    · rename_i l i
      obtain ⟨w, e1, ri⟩ := reps1 rxs
      subst e1
      split at h
      · rename_i ns e2
        obtain ⟨a', ws, e3, h2, t⟩ := rep_tup rx
        have := reps_ints t e2
        subst this
        exact ⟨a', ns, i, e3, by rw [rep_int ri], h2, h _ H A (.refl R) (.int _)⟩
      · exact h.elim
    · exact h.elim) (fun x xs M c d e M' q => by
      unfold opTCt at q
      split at q
      · split at q <;> cases q
      · cases q) ho ha hbase hfew hline hs hplain
end
end SX
end
section
set_option Elab.async false
set_option linter.all false
set_option maxRecDepth 100000
set_option maxHeartbeats 2000000
open Classical
/-! SXz: any, all of a generator expression whose element is any expression of the layer, read in the generator's own frame. -/
namespace SX
open PySem PySem.Spec PyProof.Rows L2 PySem.W GxR GenW
/-! ### the data's side -/
noncomputable def anyL (all : Bool) (chk : List MO → Prop) (f : EvE) (envc : Env) : List D → List MO → Out D
  | [], M => if chk M then .ok (.bl all) M else .no
  | d :: r, M => if chk M then (f (some d :: envc) M).bindN fun v M1 => (match v with
    | .bl b => if b = all then anyL all chk f envc r M1 else .ok (.bl (!all)) M1
    | _ => .no) else .no
def capsE (caps : List Nat) (env : Env) : Env := caps.map fun i => (env[i]?).join
noncomputable def eAny (all : Bool) (it : EvI) (caps : List Nat) (f : EvE) : EvE := fun env M => (it env M).bind fun I M1 => anyL all I.chk f (capsE caps env) I.ds M1
/-! ### the frame -/
/-- the context of a generator expression's element -/
def gx (X : Cx) (A' : Around) (ex : List Addr) (s0 : Shared) (H0 : Hp) (N' : List Str) (cenv : PySem.Env) : Cx :=
  { X with A := A', N := N', s_0 := s0, H_0 := H0, env := cenv, outer := X.stack, stack := cenv :: X.stack, ex := ex, fn := fun _ => false, calm := true, pn := [], xe := fun _ _ => False }
section
variable {X : Cx} {pins : List (Addr × Obj)} {σ : L2.St} {H : Hp} {s : Shared}
theorem clo_lookup {cells : List (Str × Addr)} {names : List (Str × NameKind)} (h : ∀ y ∈ names, y.2 = .free → ∃ c, cells.lookup y.1 = some c) {y : Str} {c : Addr} (e : (cloFrom cells names []).lookup y = some c) : cells.lookup y = some c ∧ (y, NameKind.free) ∈ names := by
  rcases cloFrom_mem (PySem.mem_of_lookup e) with z | ⟨h1, h2⟩
  · cases z
  · obtain ⟨c', hc'⟩ := h _ h1 rfl
    rw [hc'] at h2
    cases h2
    exact ⟨hc', h1⟩
theorem clo_has {cells : List (Str × Addr)} {names : List (Str × NameKind)} (h : ∀ y ∈ names, y.2 = .free → ∃ c, cells.lookup y.1 = some c) {y : Str} (hy : (y, NameKind.free) ∈ names) {c : Addr} (e : cells.lookup y = some c) : (cloFrom cells names []).lookup y = some c := by
  obtain ⟨c', hc'⟩ := mem_lookup (cloFrom_has (cells := cells) (acc := []) hy)
  obtain ⟨h1, _⟩ := clo_lookup h hc'
  rw [e] at h1
  cases h1
  exact hc'
theorem gx_ok {A' : Around} {fp : List Addr} {N' : List Str} {scope : Scope} {x : Str} {C : Addr} {code : Value} (I : Inv X pins σ H s) (hf : ∀ b ∈ fp, FpOk X pins H b) (ho : ∀ b ∈ fp, ∃ o, s.heap.get? b = some o) (S : GenS X.env scope x) (hC : s.heap.objs.size ≤ C)
    (hA : A'.handled = none) (hfr : A'.frames = some (genEnv scope (cloFrom X.env.cells scope.names []) C code builtinsNs X.env :: X.stack)) :
    (gx X A' fp s H N' (genEnv scope (cloFrom X.env.cells scope.names []) C code builtinsNs X.env)).Ok where
  mod := I.ok.mod
  kind := S.kind
  glob := I.ok.glob
  blt := rfl
  above := hC
  inj := fun y z c h1 h2 => I.ok.inj y z c (clo_lookup S.free h1).1 (clo_lookup S.free h2).1
  has := fun y hy => by
    have hy : scope.names.lookup y = some .cell ∨ scope.names.lookup y = some .free := hy
    rcases hy with hy | hy
    · exact absurd rfl (S.cell _ (PySem.mem_of_lookup hy))
    · exact mem_lookup (cloFrom_has (PySem.mem_of_lookup hy))
  cab := fun y c h => by cases h
  hd := fun _ => hA
  frames := hfr
  stk := .inr ⟨rfl, rfl⟩
  exf := fun b hb => ⟨fun z => by
    obtain ⟨o, e⟩ := ho b hb
    have := Heap.lt_size e
    have z : b = C := z
    rw [z] at this
    exact absurd (Nat.lt_of_lt_of_le this hC) (Nat.lt_irrefl _), fun y c h => (hf b hb).2.2.2.2.1 y c (clo_lookup S.free h).1⟩
  bs := I.bs
  bsz := Nat.le_trans I.ok.bsz I.sz
  noex := fun b o e hb => by
    rcases (hf b hb).2.2.2.1 with z | z
    · exact I.ok.noex b o e z
    · exact absurd (Nat.lt_of_lt_of_le (Heap.lt_size e) (Nat.le_trans I.ok.bsz z)) (Nat.lt_irrefl _)
  exfs := fun b hb z => by
    rcases List.mem_cons.mp (I.stkSub b z) with q | q
    · exact (hf b hb).2.1 q
    · exact (hf b hb).2.2.1 q
  funs := I.stack
  frf := I.stkFree
/-- the first state of the frame: the outer names that are read are there -/
theorem gx_inv {A' : Around} {fp : List Addr} {x : Str} {caps : List (Nat × Str)} {scope : Scope} {C : Addr} {code itv : Value} {s5 : Shared} (I : Inv X pins σ H s) (hf : ∀ b ∈ fp, FpOk X pins H b) (ho : ∀ b ∈ fp, ∃ o, s.heap.get? b = some o) (S : GenS X.env scope x) (hC : s.heap.objs.size ≤ C)
    (hA : A'.handled = none) (hfr : A'.frames = some (genEnv scope (cloFrom X.env.cells scope.names []) C code builtinsNs X.env :: X.stack))
    (hcap : ∀ p ∈ caps, X.N[p.1]? = some p.2 ∧ scope.names.lookup p.2 = some .free ∧ (X.env.scope.names.lookup p.2 = some .cell ∨ X.env.scope.names.lookup p.2 = some .free))
    (k : ∀ b o, s.heap.get? b = some o → s5.heap.get? b = some o) (hos : s5.os = s.os) (hb : AllBare s5.gens) (hns : s5.heap.Ns C (fun y => if y = (".0" : Str) then some itv else none)) (a : Addr) (o : Obj) (ha : s5.heap.get? a = some o) (hao : ∀ v, o.data ≠ .cell v) (haC : a ≠ C) (haz : s.heap.objs.size ≤ a) :
    Inv (gx X A' fp s H (x :: caps.map (·.2)) (genEnv scope (cloFrom X.env.cells scope.names []) C code builtinsNs X.env)) [(a, o)] (none :: caps.map fun p => (σ[p.1]?).join) H s5 where
  ok := gx_ok I hf ho S hC hA hfr
  os := hos
  bare := hb
  base := Un.kept k
  loc := by
    obtain ⟨m, hn, hl⟩ := I.loc
    refine ⟨_, hns, fun i y v e1 e2 e3 => ?_⟩
    cases i with
    | zero => cases e2
    | succ i =>
      have e1 : (caps.map (·.2))[i]? = some y := e1
      have e2 : (caps.map fun p => (σ[p.1]?).join)[i]? = some (some v) := e2
      rw [List.getElem?_map] at e1 e2
      cases hp : caps[i]? with
      | none => rw [hp] at e1; cases e1
      | some p =>
        rw [hp] at e1 e2
        cases e1
        obtain ⟨h1, h2, h3⟩ := hcap p (List.mem_of_getElem? hp)
        have hv : σ[p.1]? = some (some v) := by
          have e2 : some ((σ[p.1]?).join) = some (some v) := e2
          have e2 := Option.some.inj e2
          cases q : σ[p.1]? with
          | none => rw [q] at e2; cases e2
          | some w => rw [q] at e2; exact congrArg some e2
        obtain ⟨u, r, l⟩ := hl p.1 p.2 v h1 hv (.inr h3)
        refine ⟨u, r, .inr ⟨.inr h2, ?_⟩⟩
        rcases l with ⟨l, _⟩ | ⟨_, c, e, z⟩
        · have l : X.env.scope.names.lookup p.2 = some .local := l
          rcases h3 with h3 | h3 <;> (rw [h3] at l; cases l)
        · refine ⟨c, clo_has S.free (PySem.mem_of_lookup h2) e, ?_⟩
          obtain ⟨oc, ho, hd⟩ := z
          exact ⟨oc, k c oc ho, hd⟩
  cell := fun y c h => by
    obtain ⟨v, oc, ho, hd⟩ := I.cell y c (clo_lookup S.free h).1
    exact ⟨v, oc, k c oc ho, hd⟩
  free := I.hok.fresh hC
  freeC := fun y c h => I.freeC y c (clo_lookup S.free h).1
  pin := fun p hp => by
    have hp : p ∈ [(a, o)] := hp
    rw [List.mem_singleton.mp hp]
    refine ⟨ha, I.hok.fresh haz, haC, fun z => ?_, hao⟩
    rcases List.mem_cons.mp (I.stkSub a z) with q | q
    · have := I.lt
      rw [← q] at this
      exact absurd (Nat.lt_of_lt_of_le this haz) (Nat.lt_irrefl _)
    · exact I.nofs haz q
  hok := I.hok.kept k
  len := by
    show (_ :: _).length = (_ :: _).length
    rw [List.length_cons, List.length_cons, List.length_map, List.length_map]
theorem caps_rep {K : PySem.W.Frag} {A : Ads} {env : Env} (h : RepS K A H env σ) (caps : List (Nat × Str)) : RepS K A H (none :: capsE (caps.map (·.1)) env) (none :: caps.map fun p => (σ[p.1]?).join) := by
  refine ⟨by rw [List.length_cons, List.length_cons, List.length_map]; unfold capsE; rw [List.length_map, List.length_map], fun i d e => ?_⟩
  cases i with
  | zero => cases e
  | succ i =>
    have e : (capsE (caps.map (·.1)) env)[i]? = some (some d) := e
    unfold capsE at e
    rw [List.map_map, List.getElem?_map] at e
    cases hp : caps[i]? with
    | none => rw [hp] at e; cases e
    | some p =>
      rw [hp] at e
      have e : some ((env[p.1]?).join) = some (some d) := e
      have e := Option.some.inj e
      have he : env[p.1]? = some (some d) := by
        cases q : env[p.1]? with
        | none => rw [q] at e; cases e
        | some w => rw [q] at e; exact congrArg some e
      obtain ⟨v, h1, h2⟩ := h.2 p.1 d he
      refine ⟨v, ?_, h2⟩
      show (caps.map fun p => (σ[p.1]?).join)[i]? = _
      rw [List.getElem?_map, hp]
      show some ((σ[p.1]?).join) = _
      rw [h1]
      rfl
end
/-! ### its turns -/
section
variable {X : Cx} {pm : Pm}
/-- what is wanted once the answer is b -/
def DoneB (Xg : Cx) (pins : List (Addr × Obj)) (fp : List Addr) (Q : VK) (b : Bool) (s : Shared) : Prop := AllBare s.gens ∧ ∃ σ H, Inv Xg pins σ H s ∧ (∀ p ∈ fp, H p = none) ∧ Q (.bl b) H
/-- the protocol: a truth is handed out; if it does not end the walk, it goes on -/
def YAny (Xg : Cx) (pins : List (Addr × Obj)) (fp : List Addr) (all : Bool) (Q : VK) : Protocol := fun n s₀ v s1 κ => ∃ b, v = .bool b ∧ AllBare s1.gens ∧ s1.heap.NoLimit ∧ (∀ p ∈ pins, s1.heap.get? p.1 = some p.2) ∧
  (b ≠ all → DoneB Xg pins fp Q (!all) s1) ∧ (b = all → ∀ s'', s''.heap = s1.heap → s''.os = s1.os → AllBare s''.gens → κ (.send .none) s'')
def RAny (Xg : Cx) (pins : List (Addr × Obj)) (fp : List Addr) (all : Bool) (Q : VK) : GenEnd := fun n s₀ r s1 => r = .ok .next ∧ DoneB Xg pins fp Q all s1
theorem seg_any {A : Around} {elt iter : Expr} {x : Str} {px : Pos} {scope : Scope} {gpos : Pos} {it : Addr} {fp : List Addr} {tn : Nat → Heap → Prop} {J : It} {N : List Str} {s0 : Shared} {H0 : Hp} {cenv : PySem.Env} {pins : List (Addr × Obj)} {f : EvE} {all : Bool} {I : Its} {Q : VK} {K : PySem.W.Frag} {T : List Addr} {cl : Nat → Addr}
    {Ab : Ads} {Hb : Hp} {A1 : Ads} {M1 : List MO} {H1 : Hp} {envc : Env} {Xg : Cx} {Ex : Nat → D → Env → List MO → Prop}
    (hXg : Xg = gx X (A.over (.compLoop (.GeneratorExp elt [⟨.Name x px, iter, [], 0⟩] scope gpos) 0 (.ref it) .none cenv) []) fp s0 H0 (x :: N) cenv) (hK : Xg.K = K)
    (hN : (x :: N).Nodup) (hsc : cenv.scope = scope) (hco : scope.isCoroutine = false) (hx : scope.names.lookup x = some .local) (hT : Turn X.prog X.w X.K (.Name x px) J fp it tn) (he : PE Xg elt (tE K ⟨T, cl, noW⟩ f))
    (sb : Stp K T Ab Hb A1 M1 H1) (io : ItOk K T J A1 H1 I) (hst : ∀ H', (∀ b ∈ fp, H' b = none) → ∀ b ∈ fp, FpOk Xg pins H' b) :
    ∀ (r : List D) (i : Nat) (s₀ s : Shared) (A2 : Ads) (M2 : List MO) (H2 : Hp) (σ2 : L2.St) (e0 : Option D), I.ds.drop i = r → r.length + i = I.ds.length → Inv Xg pins σ2 H2 s → tn i s.heap → (∀ b ∈ fp, H2 b = none) → Stp K T A1 H1 A2 M2 H2 → RepS K A2 H2 (e0 :: envc) σ2 →
      OutR (anyL all I.chk f envc r M2) (Fin K T Ab Hb Q) Ex →
      Seg (model X.prog X.w) A (RAny Xg pins fp all Q) (YAny Xg pins fp all Q) r.length s₀
        (.compLoop (.GeneratorExp elt [⟨.Name x px, iter, [], 0⟩] scope gpos) 0 (.ref it) .none cenv)
        ((model X.prog X.w).den (.compLoop (.GeneratorExp elt [⟨.Name x px, iter, [], 0⟩] scope gpos) 0 (.ref it) .none cenv)) [] s := by
  have hA : Xg.A = A.over (.compLoop (.GeneratorExp elt [⟨.Name x px, iter, [], 0⟩] scope gpos) 0 (.ref it) .none cenv) [] := by rw [hXg]; rfl
  have hp : Xg.prog = X.prog := by rw [hXg]; rfl
  have hw : Xg.w = X.w := by rw [hXg]; rfl
  have hk : Xg.K = X.K := by rw [hXg]; rfl
  have hcm : Xg.calm = true := by rw [hXg]; rfl
  have hNg : Xg.N = x :: N := by rw [hXg]; rfl
  have hev : Xg.env = cenv := by rw [hXg]; rfl
  have hxe : ∀ e s', ¬ Xg.xe e s' := fun e s' h => by rw [hXg] at h; exact h
  intro r
  induction r with
  | nil =>
    intro i s₀ s A2 M2 H2 σ2 e0 hd hl I2 st fr s2 S2 q
    have hlen : i = I.ds.length := by simpa using hl
    unfold anyL at q
    obtain ⟨hc, q⟩ := ifO q
    show Seg _ A _ _ _ s₀ _ ((compTurn (.GeneratorExp elt [⟨.Name x px, iter, [], 0⟩] scope gpos) 0 (.ref it) .none cenv).onRaise (leaving cenv)) [] s
    rw [compTurn_gen, Sem.onRaise_eq_wrap]
    refine seg_bind_wrap (wpAny_standAt ?_)
    have stop : J.stop i H2 := by rw [hlen]; exact io.stop A2 M2 H2 s2 hc
    have hdone := hT.done Xg hp hw hk hcm i pins s σ2 H2 (fun _ _ => False) I2 (hst H2 fr) st stop
    rw [hA] at hdone
    refine seg_bind_wrap (wpAny_mono hdone (fun rr s1 ⟨hr, I3⟩ => ?_) fun _ _ h => h.elim)
    subst hr
    exact seg_end (.ok .next) ⟨rfl, I3.bare, σ2, H2, I3, fr, q _ H2 A2 (sb.trans s2) (.bl _)⟩
  | cons d r ih =>
    intro i s₀ s A2 M2 H2 σ2 e0 hd hl I2 st fr s2 S2 q
    obtain ⟨hat, hr⟩ := drop_at hd
    unfold anyL at q
    obtain ⟨hc, q⟩ := ifO q
    obtain ⟨hgo, hy⟩ := io.go A2 M2 H2 s2 hc i d hat
    show Seg _ A _ _ _ s₀ _ ((compTurn (.GeneratorExp elt [⟨.Name x px, iter, [], 0⟩] scope gpos) 0 (.ref it) .none cenv).onRaise (leaving cenv)) [] s
    rw [compTurn_gen, Sem.onRaise_eq_wrap]
    refine seg_bind_wrap (wpAny_standAt ?_)
    have hitem := hT.item Xg hp hw hk hcm i pins s σ2 H2 (fun _ _ => False) I2 (hst H2 fr) st hgo
    rw [hA] at hitem
    refine seg_bind_wrap (wpAny_mono hitem (fun rr s1 ⟨u, hr', h1⟩ => ?_) fun _ _ h => h.elim)
    subst hr'
    refine seg_bind_wrap (wpAny_mono h1 (fun _ s3 ⟨xv, H3, I3, rx, hyl, st3, fr3⟩ => ?_) fun _ _ h => h.elim)
    obtain ⟨sy, ry⟩ := hy xv H3 hyl
    have I3p := I3.pinned (hst H3 fr3) (hT.obj _ _ st3)
    have S3 : RepS K A2 H3 (some d :: envc) (σ2.set 0 (some xv)) := by
      have := (RepS.stp (p := ⟨T, cl, noW⟩) s2.rel sy S2).set (i := 0) ry
      exact this
    refine seg_bind_wrap (wpAny_assign_Name ?_)
    rw [← hev]
    refine store_ok (i := 0) I3p (by rw [hNg]; exact hN) (by rw [hNg]; rfl) (.inl (by rw [hev, hsc]; exact hx)) rx (fun s4 I4 => ?_) (.inr (by rw [hev, hsc]; exact hx))
    rw [hev]
    refine seg_bind_wrap ?_
    simp only [List.forIn_nil]
    refine wpAny_pure ?_
    simp only [if_true]
    have hyo : ∀ v, yieldOut cenv v = yieldValue v := fun v => by simp only [yieldOut, hsc, hco, Bool.false_eq_true, if_false]
    simp only [hyo]
    rw [Sem.bind_eq_wrap', Sem.bind_eq_wrap', Sem.wrap_wrap, Sem.wrap_wrap]
    have hrun := he.run (pins ++ pinsAt fp s3.heap) s4 (σ2.set 0 (some xv)) H3 (fun v H' => ∃ d' A' M', Stp K T A2 H3 A' M' H' ∧ Rep K A' H' d' v ∧ OutR (match d' with
      | .bl b => if b = all then anyL all I.chk f envc r M' else .ok (.bl (!all)) M'
      | _ => .no) (Fin K T Ab Hb Q) Ex) I4 ⟨A2, M2, some d :: envc, sy.rel, S3, (OutR.of_bindN q _).imp (fun d' M' _ q' v' H' A' s' r' => ⟨d', A', M', s', r', q'⟩) fun _ _ _ _ _ z => z⟩
    rw [hp, hw, hA, hev] at hrun
    refine seg_wrap (wpAny_mono hrun (fun y s5 ⟨v5, H5, I5, r5, d5, A5, M5, s5', r5', q5⟩ => ?_) fun e s' h => (hxe e s' h).elim)
    have st5 : tn (i + 1) s5.heap := hT.keep _ _ _ st3 fun b hb o e => (I5.pin (b, o) (List.mem_append_right _ (List.mem_append_right _ (mem_pinsAt hb e)))).1
    have fr5 : ∀ b ∈ fp, H5 b = none := fun b hb => by
      obtain ⟨o, e, dd⟩ := hT.obj _ _ st3 b hb
      exact (I5.pin (b, o) (List.mem_append_right _ (List.mem_append_right _ (mem_pinsAt hb e)))).2.1
    have I6 : Inv Xg pins (σ2.set 0 (some xv)) H5 s5 := I5.unpinned
    have pin6 : ∀ p ∈ pins, s5.heap.get? p.1 = some p.2 := fun p hp' => (I6.pin p (List.mem_append_right _ hp')).1
    cases d5 with
    | bl b =>
      have ev : v5 = .bl b := rep_bl r5'
      subst ev
      have ey : y = .bool b := r5
      subst ey
      have s25 : Stp K T A1 H1 A5 M5 H5 := (s2.trans sy).trans s5'
      refine seg_at (seg_yield rfl rfl rfl ⟨b, rfl, I6.bare, I6.nolimit, pin6, fun hne => ?_, fun heq s'' h1' h2' h3' => ?_⟩)
      · have q6 : OutR (if b = all then anyL all I.chk f envc r M5 else .ok (.bl (!all)) M5) (Fin K T Ab Hb Q) Ex := q5
        rw [if_neg hne] at q6
        exact ⟨I6.bare, _, H5, I6, fr5, q6 _ H5 A5 (sb.trans s25) (.bl _)⟩
      · have q6 : OutR (if b = all then anyL all I.chk f envc r M5 else .ok (.bl (!all)) M5) (Fin K T Ab Hb Q) Ex := q5
        rw [if_pos heq] at q6
        have I7 : Inv Xg pins (σ2.set 0 (some xv)) H5 s'' := I6.call' (ch := []) h2' (by rw [h1']; exact Un.refl) (by rw [h1']; exact I6.hok) h3' (fun b z => by cases z)
        have S7 : RepS K A5 H5 (some d :: envc) (σ2.set 0 (some xv)) := RepS.stp (p := ⟨T, cl, noW⟩) sy.rel s5' S3
        exact seg_again rfl (ih (i + 1) s'' s'' A5 M5 H5 _ (some d) hr (by rw [List.length_cons] at hl; omega) I7 (by rw [h1']; exact st5) fr5 s25 S7 q6)
    | _ => exact q5.elim
theorem DoneB.ext {Xg : Cx} {pins : List (Addr × Obj)} {fp : List Addr} {Q : VK} {b : Bool} {s s' : Shared} (h : DoneB Xg pins fp Q b s) (hos : s'.os = s.os) (hk : ∀ a o, s.heap.get? a = some o → s'.heap.get? a = some o) (hb : AllBare s'.gens) : DoneB Xg pins fp Q b s' := by
  obtain ⟨_, σ, H, I, fr, q⟩ := h
  exact ⟨hb, σ, H, I.call' (ch := []) hos (Un.kept hk) (I.hok.kept hk) hb (fun b z => by cases z), fr, q⟩
/-- the generator stands ready for m more -/
def GenRdy (P : Program) (w : World) (A : Around) (Xg : Cx) (a : Addr) (og : Obj) (g : Nat) (fp : List Addr) (all : Bool) (Q : VK) (m : Nat) (s : Shared) : Prop :=
  s.heap.get? a = some og ∧ s.heap.NoLimit ∧ AllBare s.gens ∧ ∃ gs, s.gens[g]? = some gs ∧ gs.Goes (model P w) A (RAny Xg [(a, og)] fp all Q) (YAny Xg [(a, og)] fp all Q) m (.send .none) (s.setGen g .running)
theorem next_any {P : Program} {w : World} {A : Around} {Xg : Cx} {a : Addr} {g : Nat} {og : Obj} {fp : List Addr} {all : Bool} {Q : VK} {E : Value → Shared → Prop}
    (hh : A.handled = none) (hd : A.depth < recursionLimit) (hog : ∀ h : Heap, h.get? a = some og → h.IsGen a g) {m : Nat} {s : Shared} (hr : GenRdy P w A.in1 Xg a og g fp all Q m s) :
    wpAny (model P w) A (pyNext (.ref a)) (fun r s1 => (r = none ∧ DoneB Xg [(a, og)] fp Q all s1) ∨ ∃ b, r = some (.bool b) ∧ (b ≠ all → DoneB Xg [(a, og)] fp Q (!all) s1) ∧ (b = all → ∃ k, m = k + 1 ∧ GenRdy P w A.in1 Xg a og g fp all Q k s1)) E s := by
  obtain ⟨hga, hl, hb, gs, hgs, hgo⟩ := hr
  have hgl : g < s.gens.size := (Array.getElem?_eq_some_iff.mp hgs).1
  refine wpAny_gsz (n := g + 1) hgl (wpAny_pyNext_genexpQ (A := A) (P := fun _ _ s1 => DoneB Xg [(a, og)] fp Q all s1) hh hl hd (hog _ hga) hgs hgo (fun v s₁ gs' hbare hv hsz => ?_) (fun s₁ hp h' hk _ => ?_))
  · obtain ⟨b, ev, h1, h2, h3, h4, h5⟩ := hv
    refine .inr ⟨b, by rw [ev], fun e => (h4 e).ext rfl (fun _ _ q => q) (allBare_setGen h1 hbare), fun e => ?_⟩
    have hsz1 : g < s₁.gens.size := by
      have q : (s₁.setGen g gs').gens.size = s₁.gens.size := setGen_size _ _ _
      have hsz' : g + 1 ≤ (s₁.setGen g gs').gens.size := hsz
      omega
    have h6 := h5 e ((s₁.setGen g gs').setGen g .running) rfl rfl (allBare_setGen (s := s₁.setGen g gs') (allBare_setGen h1 hbare) rfl)
    cases m with
    | zero => exact h6.elim
    | succ k => exact ⟨k, rfl, h3 (a, og) List.mem_cons_self, h2, allBare_setGen h1 hbare, gs', setGen_at hsz1, h6⟩
  · exact .inl ⟨rfl, hp.ext rfl hk (allBare_setGen hp.1 rfl)⟩
theorem any_loop {P : Program} {w : World} {A : Around} {Xg : Cx} {a : Addr} {g : Nat} {og : Obj} {fp : List Addr} {Q : VK} {Rr : Result → Shared → Prop}
    (hh : A.handled = none) (hd : A.depth < recursionLimit) (hog : ∀ h : Heap, h.get? a = some og → h.IsGen a g) (hR : ∀ b s', DoneB Xg [(a, og)] fp Q b s' → Rr (.ok (.ret (.bool b))) s') :
    ∀ (m : Nat) (s : Shared), GenRdy P w A.in1.in1 Xg a og g fp false Q m s → codeAny (model P w) A (.builtin "any.loop" ⟨[.ref a], []⟩) Rr s := by
  intro m
  induction m with
  | zero =>
    intro s hr
    refine codeAny_builtin F.entry_any_loop ?_
    rw [Around.under_plainId F.plain_any_loop _]
    show wpAny _ A.in1 (pyNext (.ref a) >>= _) _ _ s
    refine wpAny_bind (wpAny_mono (next_any (A := A.in1) (E := fun _ _ => False) hh hd hog hr) (fun r s1 hq => ?_) fun _ _ e => e.elim)
    rcases hq with ⟨rfl, hq⟩ | ⟨b, rfl, h1, h2⟩
    · exact wpAny_bind (wpAny_rule (wpAny_pure (hR false s1 hq)))
    · refine wpAny_bind (wpAny_holding (wpAny_truthy_bool (wpAny_bind (wpAny_letGo ?_))))
      cases b with
      | false => obtain ⟨k, e, _⟩ := h2 rfl; cases e
      | true =>
        simp only [if_true]
        exact wpAny_bind (wpAny_rule (wpAny_pure (hR true s1 (h1 (by decide)))))
  | succ m ih =>
    intro s hr
    refine codeAny_builtin F.entry_any_loop ?_
    rw [Around.under_plainId F.plain_any_loop _]
    show wpAny _ A.in1 (pyNext (.ref a) >>= _) _ _ s
    refine wpAny_bind (wpAny_mono (next_any (A := A.in1) (E := fun _ _ => False) hh hd hog hr) (fun r s1 hq => ?_) fun _ _ e => e.elim)
    rcases hq with ⟨rfl, hq⟩ | ⟨b, rfl, h1, h2⟩
    · exact wpAny_bind (wpAny_rule (wpAny_pure (hR false s1 hq)))
    · refine wpAny_bind (wpAny_holding (wpAny_truthy_bool (wpAny_bind (wpAny_letGo ?_))))
      cases b with
      | false =>
        obtain ⟨k, e, hk⟩ := h2 rfl
        have e : m = k := by omega
        subst e
        simp only [Bool.false_eq_true, if_false]
        exact wpAny_pure ⟨plainId_quiet F.plain_any_loop _, ih s1 hk⟩
      | true =>
        simp only [if_true]
        exact wpAny_bind (wpAny_rule (wpAny_pure (hR true s1 (h1 (by decide)))))
theorem all_loop {P : Program} {w : World} {A : Around} {Xg : Cx} {a : Addr} {g : Nat} {og : Obj} {fp : List Addr} {Q : VK} {Rr : Result → Shared → Prop}
    (hh : A.handled = none) (hd : A.depth < recursionLimit) (hog : ∀ h : Heap, h.get? a = some og → h.IsGen a g) (hR : ∀ b s', DoneB Xg [(a, og)] fp Q b s' → Rr (.ok (.ret (.bool b))) s') :
    ∀ (m : Nat) (s : Shared), GenRdy P w A.in1.in1 Xg a og g fp true Q m s → codeAny (model P w) A (.builtin "all.loop" ⟨[.ref a], []⟩) Rr s := by
  intro m
  induction m with
  | zero =>
    intro s hr
    refine codeAny_builtin F.entry_all_loop ?_
    rw [Around.under_plainId F.plain_all_loop _]
    show wpAny _ A.in1 (pyNext (.ref a) >>= _) _ _ s
    refine wpAny_bind (wpAny_mono (next_any (A := A.in1) (E := fun _ _ => False) hh hd hog hr) (fun r s1 hq => ?_) fun _ _ e => e.elim)
    rcases hq with ⟨rfl, hq⟩ | ⟨b, rfl, h1, h2⟩
    · exact wpAny_bind (wpAny_rule (wpAny_pure (hR true s1 hq)))
    · refine wpAny_bind (wpAny_holding (wpAny_truthy_bool (wpAny_bind (wpAny_letGo ?_))))
      cases b with
      | true => obtain ⟨k, e, _⟩ := h2 rfl; cases e
      | false =>
        simp only [Bool.false_eq_true, if_false]
        exact wpAny_bind (wpAny_rule (wpAny_pure (hR false s1 (h1 (by decide)))))
  | succ m ih =>
    intro s hr
    refine codeAny_builtin F.entry_all_loop ?_
    rw [Around.under_plainId F.plain_all_loop _]
    show wpAny _ A.in1 (pyNext (.ref a) >>= _) _ _ s
    refine wpAny_bind (wpAny_mono (next_any (A := A.in1) (E := fun _ _ => False) hh hd hog hr) (fun r s1 hq => ?_) fun _ _ e => e.elim)
    rcases hq with ⟨rfl, hq⟩ | ⟨b, rfl, h1, h2⟩
    · exact wpAny_bind (wpAny_rule (wpAny_pure (hR true s1 hq)))
    · refine wpAny_bind (wpAny_holding (wpAny_truthy_bool (wpAny_bind (wpAny_letGo ?_))))
      cases b with
      | true =>
        obtain ⟨k, e, hk⟩ := h2 rfl
        have e : m = k := by omega
        subst e
        simp only [if_true]
        exact wpAny_pure ⟨plainId_quiet F.plain_all_loop _, ih s1 hk⟩
      | false =>
        simp only [Bool.false_eq_true, if_false]
        exact wpAny_bind (wpAny_rule (wpAny_pure (hR false s1 (h1 (by decide)))))
theorem gen_make {all : Bool} {c P : Addr} {elt iter : Expr} {x : Str} {px : Pos} {scope : Scope} {gpos : Pos} {caps : List (Nat × Str)} {f : EvE} {itE : EvI} {k : Nat} {pins : List (Addr × Obj)} {σ : L2.St} {H : Hp} {s : Shared} {Q : VK} {Q' : Value → Shared → Prop}
    (hr : Room (k + 1) X.A) (TB : TabB X.base X.mg c P) (hPT : P ∈ pm.T) (hcode : X.env.code = .ref c) (S : GenS X.env scope x) (hN : (x :: caps.map (·.2)).Nodup)
    (hcap : ∀ p ∈ caps, X.N[p.1]? = some p.2 ∧ scope.names.lookup p.2 = some .free ∧ (X.env.scope.names.lookup p.2 = some .cell ∨ X.env.scope.names.lookup p.2 = some .free))
    (hi : SI X pm (.Name x px) iter itE)
    (he : ∀ (A' : Around) (fp : List Addr) (s0 : Shared) (H0 : Hp) (C : Addr) (code : Value), Room k A' → SE (gx X A' fp s0 H0 (x :: caps.map (·.2)) (genEnv scope (cloFrom X.env.cells scope.names []) C code builtinsNs X.env)) pm.calm elt f)
    (hs : ∀ v, genFold iter X.env v = pure v) (I : Inv X pins σ H s) (h : tE X.K pm (eAny all itE (caps.map (·.1)) f) σ H Q)
    (hQ : ∀ (a : Addr) (og : Obj) (g : Nat) (Xg : Cx) (fp : List Addr) (m : Nat) (s5 : Shared), (∀ h : Heap, h.get? a = some og → h.IsGen a g) → GenRdy X.prog X.w X.A.in1.in1 Xg a og g fp all Q m s5 → (∀ b s', DoneB Xg [(a, og)] fp Q b s' → EP X pins σ Q (.bool b) s') → Q' (.ref a) s5) :
    wpAny (model X.prog X.w) X.A (eval (.GeneratorExp elt [⟨.Name x px, iter, [], 0⟩] scope gpos) X.env) Q' X.xe s := by
  obtain ⟨Ab, Mb, env, R, S', q⟩ := h
  refine wpAny_GeneratorExp_make S.co (closure_ok S.free) S.cell S.dot S.kind hr.depth ?_ hs
  have hrun := hi.run pins s σ H (fun J H' => ∃ A1 M1 It, Stp X.K pm.T Ab H A1 M1 H' ∧ ItOk X.K pm.T J A1 H' It ∧ OutR (anyL all It.chk f (capsE (caps.map (·.1)) env) It.ds M1) (Fin X.K pm.T Ab H Q) (Exc X.K pm Ab H)) I
    ⟨Ab, Mb, env, R, S', (OutR.of_bind q).imp (fun It M1 _ q1 J H' A' s' io => ⟨A', M1, It, s', io, q1⟩) fun _ _ _ _ _ z => z⟩
  refine thn hrun fun xv s1 h1 => thn h1 fun itv s2 h2 => ?_
  obtain ⟨it, fp, tn, J, H2, rfl, I2, hT, st2, f2, A1, M1, It, s12, io, qA⟩ := h2
  obtain ⟨ps, hP, ht⟩ := s12.rel.tb P hPT
  have hPs : s2.heap.get? P = some { cls := .none, data := .fields ps } := I2.hok P _ hP
  have cd : PySem.W.CodeHd s2.heap c P := TB.code.keeps fun b u e => I2.bk b u e
  have hob : ∀ b ∈ fp, ∃ o, s2.heap.get? b = some o := fun b hb => let ⟨o, e, _⟩ := hT.obj 0 _ st2 b hb; ⟨o, e⟩
  have fpP : ∀ b ∈ fp, b ≠ P := fun b hb z => by
    have := (f2 b hb).1
    rw [z, hP] at this
    cases this
  have cont : ∀ (code : Value) (h3 : Heap) (tk : Nat) (ps' : Array Value), Heap.ExtBut P s2.heap h3 → h3.get? P = some { cls := .none, data := .fields ps' } → (∃ more, ps' = ps ++ more) → TriplesOk ps'.toList →
      wpAny (model X.prog X.w) X.A (builtinsFor X.env.globals X.env.builtins) (fun bi s₄ =>
        ∀ h', h'.Ns s₄.heap.objs.size (fun y => if y = ".0" then some (.ref it) else none) → Heap.SameBut s₄.heap.objs.size (s₄.heap.push { cls := .type "frame", data := .dict #[] }) h' →
          Q' (.ref h'.objs.size) { s₄ with
            gens := s₄.gens.push (.fresh (.compStart (.GeneratorExp elt [⟨.Name x px, iter, [], 0⟩] scope gpos) 0 (.ref it) .none (genEnv scope (cloFrom X.env.cells scope.names []) s₄.heap.objs.size code bi X.env))),
            toks := s₄.toks + 1 + 1 + 1,
            heap := h'.push { cls := .type "generator", data := .fields #[.int s₄.gens.size 0, .str "<genexpr>" (s₄.toks + 1), .str (X.env.qual ++ "<genexpr>") (s₄.toks + 1 + 1)] } }) X.xe { s2 with heap := h3, toks := tk } := by
    intro code h3 tk ps' hx hP3 ⟨more, hmore⟩ ht3
    obtain ⟨bm, ob, e1, e2, e3, e4, e5, e6, e7, e8⟩ := TB.bm
    have I4 : Inv X pins σ (upd H2 P (.tbl (ps ++ more))) { s2 with heap := h3, toks := tk } := inv_tab (g' := s2.gens) (d' := s2.drawn) I2 hP (fun b o hb e => hx b o hb e) (by rw [← hmore]; exact hP3) I2.bare
    have tabbed : Tabbed P H2 (upd H2 P (.tbl (ps ++ more))) := ⟨⟨ps ++ more, upd_same, by rw [← hmore]; exact ht3⟩, fun b hb => upd_ne hb⟩
    refine wpAny_builtinsFor (m := X.mg) (by rw [I2.ok.glob]; exact (I2.mod.glob.keeps I4.bk)) e1 e2 (I4.bk _ _ e5) e6 e7 e8 ?_
    intro h' hn' hs'
    generalize hg4 : ({ s2 with heap := h3, toks := tk } : Shared) = s4 at I4 hn' hs' ⊢
    have h34 : s4.heap = h3 := by rw [← hg4]
    have f4 : ∀ b ∈ fp, FpOk X pins (upd H2 P (.tbl (ps ++ more))) b := fun b hb => ⟨by rw [upd_ne (fpP b hb)]; exact (f2 b hb).1, (f2 b hb).2⟩
    have st4 : tn 0 s4.heap := hT.keep 0 _ _ st2 fun b hb o e => by rw [h34]; exact hx b o (fpP b hb) e
    have hob4 : ∀ b ∈ fp, ∃ o, s4.heap.get? b = some o := fun b hb => by
      obtain ⟨o, e⟩ := hob b hb
      exact ⟨o, by rw [h34]; exact hx b o (fpP b hb) e⟩
    have hsz : h'.objs.size = s4.heap.objs.size + 1 := by rw [hs'.1, Heap.size_push]
    have keep' : ∀ b o, s4.heap.get? b = some o → h'.get? b = some o := fun b o e => hs'.extBut b o (Nat.ne_of_lt (Heap.lt_size e)) (Heap.get?_push_of_some _ e)
    have gsz : s4.gens.size = s4.gens.size := rfl
    generalize hog : ({ cls := .type "generator", data := .fields #[.int s4.gens.size 0, .str "<genexpr>" (s4.toks + 1), .str (X.env.qual ++ "<genexpr>") (s4.toks + 1 + 1)] } : Obj) = og
    generalize hce : genEnv scope (cloFrom X.env.cells scope.names []) s4.heap.objs.size code builtinsNs X.env = cenv
    have hgen : ∀ h : Heap, h.get? h'.objs.size = some og → h.IsGen h'.objs.size s4.gens.size := fun h e => by subst hog; exact ⟨_, _, _, e, rfl, rfl, rfl⟩
    have hA : (X.A.in1.in1.over (.compLoop (.GeneratorExp elt [⟨.Name x px, iter, [], 0⟩] scope gpos) 0 (.ref it) .none cenv) []).frames = some (cenv :: X.stack) := by
      show pushEnvs [cenv] (pushEnvs [] X.A.frames) = _
      rw [I2.ok.frames]
      rfl
    have hrA : Room k (X.A.in1.in1.over (.compLoop (.GeneratorExp elt [⟨.Name x px, iter, [], 0⟩] scope gpos) 0 (.ref it) .none cenv) []) :=
      ⟨hr.hd, by have := hr.dp; show X.A.depth + 0 + 1 + 3 * k + 5 < _; omega, by have := hr.un; show X.A.units + 1 + 1 + 0 + 3 + 16 * k + 200 < _; omega⟩
    have keep5 : ∀ b o, s4.heap.get? b = some o → (h'.push og).get? b = some o := fun b o e => Heap.get?_push_of_some _ (keep' b o e)
    have hoga : (h'.push og).get? h'.objs.size = some og := by subst hog; exact Heap.get?_push_size _ rfl
    have bare5 : AllBare (s4.gens.push (.fresh (.compStart (.GeneratorExp elt [⟨.Name x px, iter, [], 0⟩] scope gpos) 0 (.ref it) .none cenv))) := AllBare.push I4.bare rfl
    -- the frame's first state
    have I5 := gx_inv (s5 := { s4 with gens := s4.gens.push (.fresh (.compStart (.GeneratorExp elt [⟨.Name x px, iter, [], 0⟩] scope gpos) 0 (.ref it) .none cenv)), toks := s4.toks + 1 + 1 + 1, heap := h'.push og })
      (A' := X.A.in1.in1.over (.compLoop (.GeneratorExp elt [⟨.Name x px, iter, [], 0⟩] scope gpos) 0 (.ref it) .none cenv) []) (caps := caps) (code := code) (C := s4.heap.objs.size) (itv := .ref it) I4 f4 hob4 S (Nat.le_refl _) hr.hd (by rw [hce]; exact hA) hcap keep5 rfl bare5 (hn'.push _) h'.objs.size og hoga (by subst hog; intro v z; cases z) (by rw [hsz]; exact Nat.succ_ne_self _) (by rw [hsz]; exact Nat.le_succ _)
    have hel := he _ fp s4 (upd H2 P (.tbl (ps ++ more))) s4.heap.objs.size code hrA
    rw [hce] at I5 hel
    generalize hXg : gx X (X.A.in1.in1.over (.compLoop (.GeneratorExp elt [⟨.Name x px, iter, [], 0⟩] scope gpos) 0 (.ref it) .none cenv) []) fp s4 (upd H2 P (.tbl (ps ++ more))) (x :: caps.map (·.2)) cenv = Xg at I5 hel
    have hkg : Xg.K = X.K := by rw [← hXg]; rfl
    have hel : PE Xg elt (tE X.K ⟨pm.T, pm.cl, noW⟩ f) := by
      have hel' : PE Xg elt (tE Xg.K ⟨pm.T, pm.cl, noW⟩ f) := hel
      rw [hkg] at hel'
      exact hel'
    have hXfs : Xg.fs = frs X.stack := by rw [← hXg]; rfl
    have hXex : Xg.ex = fp := by rw [← hXg]; rfl
    have hst : ∀ H', (∀ b ∈ fp, H' b = none) → ∀ b ∈ fp, FpOk Xg [(h'.objs.size, og)] H' b := fun H' hn b hb => by
      obtain ⟨o, eo⟩ := hob4 b hb
      have hlt := Heap.lt_size eo
      refine ⟨hn b hb, ?_, ?_, .inl (by rw [hXex]; exact hb), ?_, fun p hp => ?_⟩
      · rw [← hXg, ← hce]; exact Nat.ne_of_lt hlt
      · rw [hXfs]
        intro z
        rcases List.mem_cons.mp (I4.stkSub b z) with q | q
        · exact (f4 b hb).2.1 q
        · exact (f4 b hb).2.2.1 q
      · rw [← hXg, ← hce]
        exact fun y c e => (f4 b hb).2.2.2.2.1 y c (clo_lookup S.free e).1
      · have hp : p ∈ [(h'.objs.size, og)] := by rw [← hXg] at hp; exact hp
        rw [List.mem_singleton.mp hp]
        show h'.objs.size ≠ b
        rw [hsz]
        exact Nat.ne_of_gt (Nat.lt_succ_of_lt hlt)
    have tabS : Stp X.K pm.T A1 H2 A1 M1 (upd H2 P (.tbl (ps ++ more))) := Stp.tab s12.rel hPT tabbed
    have S6 : RepS X.K A1 (upd H2 P (.tbl (ps ++ more))) (none :: capsE (caps.map (·.1)) env) (none :: caps.map fun p => (σ[p.1]?).join) := caps_rep (RepS.stp s12.rel tabS (RepS.stp R s12 S')) caps
    refine hQ h'.objs.size og s4.gens.size Xg fp It.ds.length _ hgen ⟨hoga, I5.nolimit, bare5, _, Array.getElem?_push_size .., rfl, ?_⟩ fun b s' hd => ?_
    · have I7 : Inv Xg [(h'.objs.size, og)] (none :: caps.map fun p => (σ[p.1]?).join) (upd H2 P (.tbl (ps ++ more))) (({ s4 with gens := s4.gens.push (.fresh (.compStart (.GeneratorExp elt [⟨.Name x px, iter, [], 0⟩] scope gpos) 0 (.ref it) .none cenv)), toks := s4.toks + 1 + 1 + 1, heap := h'.push og } : Shared).setGen s4.gens.size .running) :=
        I5.call' (ch := []) rfl Un.refl I5.hok (allBare_setGen bare5 rfl) (fun b z => by cases z)
      have hT0 : tn 0 (h'.push og) := hT.keep 0 _ _ st4 fun b hb o e => keep5 b o e
      have loop := fun s₀ => seg_any (X := X) (A := X.A.in1.in1) (iter := iter) (gpos := gpos) (all := all) (Q := Q) (K := X.K) (T := pm.T) (cl := pm.cl) (N := caps.map (·.2)) hXg.symm (by rw [← hXg]; rfl) hN (by rw [← hce]; rfl) S.co S.loc hT hel s12 io hst It.ds 0 s₀ _ A1 M1 _ _ none (by rfl) (by simp) I7 hT0 (fun b hb => (f4 b hb).1) tabS S6 qA
      show Seg _ X.A.in1.in1 _ _ _ _ _ ((compStart (.GeneratorExp elt [⟨.Name x px, iter, [], 0⟩] scope gpos) 0 (.ref it) .none cenv).onRaise (leaving cenv)) [] _
      unfold compStart
      rw [Sem.onRaise_eq_wrap]
      show Seg _ X.A.in1.in1 _ _ _ _ _ ((ask >>= _).wrap _ _ _ _) [] _
      refine seg_bind_wrap (wpAny_askSetting ?_)
      split
      · exact seg_again rfl (loop _)
      · first
          | exact seg_bind_wrap (wpAny_rule (seg_bind_wrap (wpAny_standAt (seg_bind_wrap (hT.self _ 0 _ _ _ hT0 (seg_again rfl (loop _)))))))
          | (refine seg_bind_wrap (wpAny_rule ?_); show Seg _ X.A.in1.in1 _ _ _ _ _ ((standAt iter.pos >>= _).wrap _ _ _ _) [] _; exact seg_bind_wrap (wpAny_standAt (seg_bind_wrap (hT.self _ 0 _ _ _ hT0 (seg_again rfl (loop _))))))
    · obtain ⟨hb', σ'', H'', I'', _, qf⟩ := hd
      have un : Un (frs X.stack) fp (upd H2 P (.tbl (ps ++ more))) H'' s4.heap s'.heap := by
        have := I''.base
        rw [← hXg] at this
        exact this
      have os' : s'.os = s4.os := by
        have := I''.os
        rw [← hXg] at this
        exact this
      have hok' : HOk X.prog X.w H'' s'.heap := by
        have := I''.hok
        rw [← hXg] at this
        exact this
      exact ⟨.bl b, H'', I4.call' (ch := fp) os' un hok' hb' fun b' hb2 => ⟨(f4 b' hb2).2.2.2.1, (f4 b' hb2).2.1, (f4 b' hb2).2.2.2.2.1, (f4 b' hb2).2.2.2.2.2⟩, rfl, qf⟩
  refine ⟨I2.nolimit, ?_⟩
  cases hfc : codeAmong gpos ps.toList with
  | none =>
    refine wpAny_genexprCodeX hcode (cd.code hPs ht) (cd.tab hPs) hfc fun c' h' tk hx hge hlt hco' _ htab' _ => ?_
    obtain ⟨o1, vs, f1, tf, fl, tg, inF, tx, tt, op, _, _, _, _, _, _, _, _, _, htr, _⟩ := hco'
    exact cont _ h' tk _ hx htab'.2 ⟨_, rfl⟩ htr
  | some cv =>
    refine wpAny_genexprCode_hit hcode (cd.code hPs ht) hfc ?_
    exact cont cv s2.heap s2.toks ps (Heap.ExtBut.refl _ _) hPs ⟨#[], by simp⟩ ht
theorem all_gen {c P : Addr} {elt iter : Expr} {x : Str} {px p gpos pos : Pos} {scope : Scope} {caps : List (Nat × Str)} {f : EvE} {itE : EvI} {k : Nat} {pins : List (Addr × Obj)} {σ : L2.St} {H : Hp} {s : Shared} {Q : VK}
    (hg : Gl X "all") (hmA : X.mg "all" = none) (hr : Room (k + 1) X.A) (TB : TabB X.base X.mg c P) (hPT : P ∈ pm.T) (hcode : X.env.code = .ref c) (S : GenS X.env scope x) (hN : (x :: caps.map (·.2)).Nodup)
    (hcap : ∀ p ∈ caps, X.N[p.1]? = some p.2 ∧ scope.names.lookup p.2 = some .free ∧ (X.env.scope.names.lookup p.2 = some .cell ∨ X.env.scope.names.lookup p.2 = some .free))
    (hi : SI X pm (.Name x px) iter itE)
    (he : ∀ (A' : Around) (fp : List Addr) (s0 : Shared) (H0 : Hp) (C : Addr) (code : Value), Room k A' → SE (gx X A' fp s0 H0 (x :: caps.map (·.2)) (genEnv scope (cloFrom X.env.cells scope.names []) C code builtinsNs X.env)) pm.calm elt f)
    (hs : ∀ v, genFold iter X.env v = pure v) (I : Inv X pins σ H s) (h : tE X.K pm (eAny true itE (caps.map (·.1)) f) σ H Q)
    (hst : starEach [.GeneratorExp elt [⟨.Name x px, iter, [], 0⟩] scope gpos] X.env = (false, eval (.GeneratorExp elt [⟨.Name x px, iter, [], 0⟩] scope gpos) X.env) :: starEach [] X.env := by rfl) :
    wpAny (model X.prog X.w) X.A (eval (.Call (.Name "all" p) [.GeneratorExp elt [⟨.Name x px, iter, [], 0⟩] scope gpos] [] pos) X.env) (EP X pins σ Q) X.xe s := by
  refine wpAny_Call_Name_kw (ld_blt I hg hmA PyProof.Rows.boot_all ?_)
  refine PyProof.Rows.callWith_builtin1 ?_ hst (by rfl)
  rw [hst]
  show wpAny _ _ (spliced ((false, eval (.GeneratorExp elt [⟨.Name x px, iter, [], 0⟩] scope gpos) X.env) :: backTo pos (starEach [] X.env))) _ _ s
  refine Calls.spliced_cons (gen_make (all := true) hr TB hPT hcode S hN hcap hi he hs I h fun a og g Xg fp m s5 hog hrdy hfin => ?_)
  refine Calls.spliced_nil ?_
  refine call_function_tree F.kind_all F.plain_all F.entry_all (F.args_all1 _) ?_
  unfold Builtin.«all»
  refine wpAny_bind (m := oneArg "all" _) (wpAny_pure ?_)
  refine wpAny_bind (wpAny_pyIter_gen (hog _ hrdy.1) ?_)
  refine wpAny_pure ⟨plainId_quiet F.plain_all_loop _, all_loop (A := X.A) hr.hd (by have := hr.depth; first | exact this | omega) hog (fun b s' hd => hfin b s' hd) m s5 hrdy⟩
theorem any_gen {c P : Addr} {elt iter : Expr} {x : Str} {px p gpos pos : Pos} {scope : Scope} {caps : List (Nat × Str)} {f : EvE} {itE : EvI} {k : Nat} {pins : List (Addr × Obj)} {σ : L2.St} {H : Hp} {s : Shared} {Q : VK}
    (hg : Gl X "any") (hmA : X.mg "any" = none) (hr : Room (k + 1) X.A) (TB : TabB X.base X.mg c P) (hPT : P ∈ pm.T) (hcode : X.env.code = .ref c) (S : GenS X.env scope x) (hN : (x :: caps.map (·.2)).Nodup)
    (hcap : ∀ p ∈ caps, X.N[p.1]? = some p.2 ∧ scope.names.lookup p.2 = some .free ∧ (X.env.scope.names.lookup p.2 = some .cell ∨ X.env.scope.names.lookup p.2 = some .free))
    (hi : SI X pm (.Name x px) iter itE)
    (he : ∀ (A' : Around) (fp : List Addr) (s0 : Shared) (H0 : Hp) (C : Addr) (code : Value), Room k A' → SE (gx X A' fp s0 H0 (x :: caps.map (·.2)) (genEnv scope (cloFrom X.env.cells scope.names []) C code builtinsNs X.env)) pm.calm elt f)
    (hs : ∀ v, genFold iter X.env v = pure v) (I : Inv X pins σ H s) (h : tE X.K pm (eAny false itE (caps.map (·.1)) f) σ H Q)
    (hst : starEach [.GeneratorExp elt [⟨.Name x px, iter, [], 0⟩] scope gpos] X.env = (false, eval (.GeneratorExp elt [⟨.Name x px, iter, [], 0⟩] scope gpos) X.env) :: starEach [] X.env := by rfl) :
    wpAny (model X.prog X.w) X.A (eval (.Call (.Name "any" p) [.GeneratorExp elt [⟨.Name x px, iter, [], 0⟩] scope gpos] [] pos) X.env) (EP X pins σ Q) X.xe s := by
  refine wpAny_Call_Name_kw (ld_blt I hg hmA PyProof.Rows.boot_any ?_)
  refine PyProof.Rows.callWith_builtin1 ?_ hst (by rfl)
  rw [hst]
  show wpAny _ _ (spliced ((false, eval (.GeneratorExp elt [⟨.Name x px, iter, [], 0⟩] scope gpos) X.env) :: backTo pos (starEach [] X.env))) _ _ s
  refine Calls.spliced_cons (gen_make (all := false) hr TB hPT hcode S hN hcap hi he hs I h fun a og g Xg fp m s5 hog hrdy hfin => ?_)
  refine Calls.spliced_nil ?_
  refine call_function_tree F.kind_any F.plain_any F.entry_any (F.args_any1 _) ?_
  unfold Builtin.«any»
  refine wpAny_bind (m := oneArg "any" _) (wpAny_pure ?_)
  refine wpAny_bind (wpAny_pyIter_gen (hog _ hrdy.1) ?_)
  refine wpAny_pure ⟨plainId_quiet F.plain_any_loop _, any_loop (A := X.A) hr.hd (by have := hr.depth; first | exact this | omega) hog (fun b s' hd => hfin b s' hd) m s5 hrdy⟩
theorem se_any {c P : Addr} {elt iter : Expr} {x : Str} {px p gpos pos : Pos} {scope : Scope} {f : EvE} {itE : EvI} {k : Nat} (caps : List (Nat × Str))
    (hr : Room (k + 1) X.A) (hg : Gl X "any") (hmA : X.mg "any" = none) (TB : TabB X.base X.mg c P) (hPT : P ∈ pm.T) (hcode : X.env.code = .ref c)
    (h1 : scope.kind = .function) (h2 : scope.isCoroutine = false) (h3 : ∀ y ∈ scope.names, y.2 ≠ .cell) (h4 : scope.names.lookup (".0" : Str) = some NameKind.local) (h5 : scope.names.lookup x = some .local)
    (h6 : ∀ y ∈ scope.names, y.2 = .free → X.env.scope.names.lookup y.1 = some .cell ∨ X.env.scope.names.lookup y.1 = some .free) (hN : (x :: caps.map (·.2)).Nodup)
    (hcap : ∀ p ∈ caps, X.N[p.1]? = some p.2 ∧ scope.names.lookup p.2 = some .free ∧ (X.env.scope.names.lookup p.2 = some .cell ∨ X.env.scope.names.lookup p.2 = some .free))
    (hi : SI X pm (.Name x px) iter itE)
    (he : ∀ (A' : Around) (fp : List Addr) (s0 : Shared) (H0 : Hp) (C : Addr) (code : Value), Room k A' → SE (gx X A' fp s0 H0 (x :: caps.map (·.2)) (genEnv scope (cloFrom X.env.cells scope.names []) C code builtinsNs X.env)) pm.calm elt f)
    (hs : ∀ v, genFold iter X.env v = pure v)
    (hst : starEach [.GeneratorExp elt [⟨.Name x px, iter, [], 0⟩] scope gpos] X.env = (false, eval (.GeneratorExp elt [⟨.Name x px, iter, [], 0⟩] scope gpos) X.env) :: starEach [] X.env := by rfl) :
    SE X pm (.Call (.Name "any" p) [.GeneratorExp elt [⟨.Name x px, iter, [], 0⟩] scope gpos] [] pos) (eAny false itE (caps.map (·.1)) f) :=
  ⟨fun pins s σ H Q I q => any_gen hg hmA hr TB hPT hcode ⟨h1, h2, h3, h4, h5, fun y hy e => I.ok.has y.1 (h6 y hy e)⟩ hN hcap hi he hs I q hst⟩
theorem se_all {c P : Addr} {elt iter : Expr} {x : Str} {px p gpos pos : Pos} {scope : Scope} {f : EvE} {itE : EvI} {k : Nat} (caps : List (Nat × Str))
    (hr : Room (k + 1) X.A) (hg : Gl X "all") (hmA : X.mg "all" = none) (TB : TabB X.base X.mg c P) (hPT : P ∈ pm.T) (hcode : X.env.code = .ref c)
    (h1 : scope.kind = .function) (h2 : scope.isCoroutine = false) (h3 : ∀ y ∈ scope.names, y.2 ≠ .cell) (h4 : scope.names.lookup (".0" : Str) = some NameKind.local) (h5 : scope.names.lookup x = some .local)
    (h6 : ∀ y ∈ scope.names, y.2 = .free → X.env.scope.names.lookup y.1 = some .cell ∨ X.env.scope.names.lookup y.1 = some .free) (hN : (x :: caps.map (·.2)).Nodup)
    (hcap : ∀ p ∈ caps, X.N[p.1]? = some p.2 ∧ scope.names.lookup p.2 = some .free ∧ (X.env.scope.names.lookup p.2 = some .cell ∨ X.env.scope.names.lookup p.2 = some .free))
    (hi : SI X pm (.Name x px) iter itE)
    (he : ∀ (A' : Around) (fp : List Addr) (s0 : Shared) (H0 : Hp) (C : Addr) (code : Value), Room k A' → SE (gx X A' fp s0 H0 (x :: caps.map (·.2)) (genEnv scope (cloFrom X.env.cells scope.names []) C code builtinsNs X.env)) pm.calm elt f)
    (hs : ∀ v, genFold iter X.env v = pure v)
    (hst : starEach [.GeneratorExp elt [⟨.Name x px, iter, [], 0⟩] scope gpos] X.env = (false, eval (.GeneratorExp elt [⟨.Name x px, iter, [], 0⟩] scope gpos) X.env) :: starEach [] X.env := by rfl) :
    SE X pm (.Call (.Name "all" p) [.GeneratorExp elt [⟨.Name x px, iter, [], 0⟩] scope gpos] [] pos) (eAny true itE (caps.map (·.1)) f) :=
  ⟨fun pins s σ H Q I q => all_gen hg hmA hr TB hPT hcode ⟨h1, h2, h3, h4, h5, fun y hy e => I.ok.has y.1 (h6 y hy e)⟩ hN hcap hi he hs I q hst⟩
end
/-! ### extend -/
noncomputable def opExtend : D → List D → List MO → Out D
  | .ref n, [.ref m], M => match M[n]?, M[m]? with
    | some (.lst l), some (.lst k) => if l.length + k.length ≤ sizeLine then .ok .non (M.set n (.lst (l ++ k))) else .no
    | _, _ => .no
  | _, _, _ => .no
section
variable {X : Cx} {p : Pm} {a b e o : Expr} {es : List Expr} {f g : EvE} {fs gs : EvEs} {pn pos p2 p3 apos cpos : Pos} {name : Str}
theorem se_extend (ho : SE X p o f) (ha : SA X p (e :: es) fs) (hbase : attributeBase o "extend" X.env (eval o X.env) = eval o X.env := by rfl)
    (hfew : ((backTo cpos (starEach (e :: es) X.env)).all (fun x => !x.1) && (backToKw cpos (keywordEach [] X.env)).all (fun x => x.1.isSome)
      && decide ((e :: es).length + ([] : List Keyword).length + (if ([] : List Keyword).isEmpty then 0 else 1) < 30)) = true := by rfl)
    (hline : (apos.endLine == cpos.line) = true := by rfl) (hs : starEach (e :: es) X.env = (false, eval e X.env) :: starEach es X.env := by rfl) (hplain : (backTo cpos (starEach es X.env)).any (·.1) = false := by rfl) :
    SE X p (.Call (.Attribute o "extend" apos) (e :: es) [] cpos) (eM opExtend f fs) :=
  se_bm PySem.F.slot_list_extend PySem.F.type_list_extend mt_extend (fun T A M H x xs v vs Q R rx rxs h => by
    unfold opExtend at h
    split at h
    · rename_i n m
      obtain ⟨w, e1, ry⟩ := reps1 rxs
      subst e1
      split at h
      · rename_i l k hm hk
        obtain ⟨hz, h⟩ := ifO h
        obtain ⟨a', e2, ha', ws, h2, t⟩ := R.ref rx hm (fun z => by cases z)
        obtain ⟨b', e3, hb', zs, h3, t3⟩ := R.ref ry hk (fun z => by cases z)
        refine ⟨a', b', ws, zs, e2, by rw [e3], h2, h3, by rw [← t.length, ← t3.length]; exact hz, ?_⟩
        exact h _ _ A (Stp.setO R ha' fun m => ⟨_, upd_same, (t.mv R m).append (t3.mv R m)⟩) .non
      · exact h.elim
    · exact h.elim) (fun x xs M c d e M' q => by
      unfold opExtend at q
      split at q
      · split at q
        · exact calm_of calm_ok _ _ _ _ q
        · cases q
      · cases q) ho ha hbase hfew hline hs hplain
end
end SX
end
section
set_option Elab.async false
set_option linter.all false
set_option maxRecDepth 100000
open Classical
/-! SXzz: methods of lists without arguments. -/
namespace SX
open PySem PySem.Spec PyProof.Rows L2 PySem.W PySem.Calls
noncomputable def eM0 (op : D → List D → List MO → Out D) (f : EvE) : EvE := fun env M => (f env M).bind fun o M1 => if (asL M1 o).isSome = true then op o [] M1 else .no
noncomputable def opReverse : D → List D → List MO → Out D
  | .ref n, [], M => match M[n]? with
    | some (.lst l) => .ok .non (M.set n (.lst l.reverse))
    | _ => .no
  | _, _, _ => .no
section
variable {X : Cx} {p : Pm} {o : Expr} {f : EvE} {apos cpos : Pos}
theorem se_reverse (ho : SE X p o f) (hbase : attributeBase o "reverse" X.env (eval o X.env) = eval o X.env := by rfl) (hline : (apos.endLine == cpos.line) = true := by rfl) :
    SE X p (.Call (.Attribute o "reverse" apos) [] [] cpos) (eM0 opReverse f) :=
  pe_imp (pe_bm0 PySem.F.plainAttrs_list PySem.F.slot_list_reverse PySem.F.type_list_reverse mt_reverse ho hbase hline) fun σ H Q ⟨A, M, env, R, S, q⟩ => seqE R S (fun _ _ _ _ z => z) q fun d M1 v H1 A1 s1 r1 q1 => by
    obtain ⟨hl, q1⟩ := ifO q1
    cases e1 : asL M1 d with
    | none => rw [e1] at hl; cases hl
    | some l =>
      obtain ⟨a', vs, e2, h2, t⟩ := asL_rep s1.rel r1 e1
      refine ⟨?_, ?_⟩
      · subst e2
        exact .inl ⟨rfl, vs, h2⟩
      · unfold opReverse at q1
        split at q1
        · rename_i n
          split at q1
          · rename_i l hm
            obtain ⟨b, e3, hb, ws, h3, t3⟩ := s1.rel.ref r1 hm (fun z => by cases z)
            refine ⟨b, ws, e3, rfl, h3, ?_⟩
            exact Fin.stp (p := p) s1 q1 _ _ _ (Stp.setO s1.rel hb fun m => ⟨_, upd_same, (t3.mv s1.rel m).reverse⟩) .non
          · exact q1.elim
        · exact q1.elim
end
end SX
end
section
set_option Elab.async false
set_option linter.all false
set_option maxRecDepth 100000
open Classical
/-! SXzy: all, any of a list of truths; isinstance of three; o[i] += e. -/
namespace SX
open PySem PySem.Spec PyProof.Rows L2 PySem.W PySem.Calls
def boolsOf : List D → Option (List Bool)
  | [] => some []
  | .bl b :: r => (boolsOf r).map (b :: ·)
  | _ :: _ => none
theorem boolsOf_eq : ∀ {ds : List D} {bs : List Bool}, boolsOf ds = some bs → ds = bs.map D.bl
  | [], bs, e => by cases e; rfl
  | d :: r, bs, e => by
    cases d with
    | bl b =>
      have e : (boolsOf r).map (b :: ·) = some bs := e
      cases h : boolsOf r with
      | none => rw [h] at e; cases e
      | some cs =>
        rw [h] at e
        have e : b :: cs = bs := Option.some.inj e
        subst e
        rw [boolsOf_eq h]
        rfl
    | _ => cases e
theorem boolsOf_map : ∀ bs : List Bool, boolsOf (bs.map D.bl) = some bs
  | [] => rfl
  | b :: bs => by
    show (boolsOf (bs.map D.bl)).map (b :: ·) = _
    rw [boolsOf_map bs]
    rfl
theorem reps_bools {K A H} : ∀ {bs : List Bool} {vs : List V}, Reps K A H (bs.map D.bl) vs → vs = bs.map V.bl
  | [], vs, t => by cases t; rfl
  | b :: bs, vs, t => by
    cases t with
    | cons r t => rw [rep_bl r, reps_bools t]; rfl
def opAA (al : Bool) : List D → List MO → Out D
  | [d], M => match (asL M d).bind boolsOf with
    | some bs => .ok (.bl (if al then bs.all id else bs.any id)) M
    | none => .no
  | _, _ => .no
theorem opAA_calm (al : Bool) : ∀ xs M c d e M', opAA al xs M ≠ .ex c d e M' := fun xs M c d e M' q => by
  unfold opAA at q
  split at q
  · split at q <;> cases q
  · cases q
section
variable {X : Cx} {p : Pm} {a b e o : Expr} {es : List Expr} {f g : EvE} {fs gs : EvEs} {pn pos p2 p3 p4 p5 apos : Pos}
theorem opAA_ok {al : Bool} {T : List Addr} {A : Ads} {M : List MO} {H : Hp} {xs : List D} {vs : List V} {Q : VK} (R : Rel X.K T A M H) (r : Reps X.K A H xs vs) (h : OutR (opAA al xs M) (Fin X.K T A H Q) (fun _ _ _ _ => False)) :
    ∃ (a : Addr) (bs : List Bool), vs = [V.ref a] ∧ SqL X.K H a (bs.map V.bl) ∧ Q (.bl (if al then bs.all id else bs.any id)) H := by
  unfold opAA at h
  split at h
  · rename_i d
    obtain ⟨v, e, r'⟩ := reps1 r
    subst e
    split at h
    · rename_i bs e1
      cases e2 : asL M d with
      | none => rw [e2] at e1; cases e1
      | some l =>
        rw [e2] at e1
        obtain ⟨a', ws, e3, h2, t⟩ := asL_rep R r' e2
        have e1 : boolsOf l = some bs := e1
        rw [boolsOf_eq e1] at t
        subst e3
        exact ⟨a', bs, rfl, by rw [← reps_bools t]; exact h2, h _ H A (.refl R) (.bl _)⟩
    · exact h.elim
  · exact h.elim
theorem se_allL (hc : X.calm = true) (hg : Gl X "all") (hm : X.mg "all" = none) (h : SA X p (e :: es) fs) (he : starEach (e :: es) X.env = (false, eval e X.env) :: starEach es X.env := by rfl) (hpl : (backTo pos (starEach es X.env)).any (·.1) = false := by rfl) :
    SE X p (.Call (.Name "all" pn) (e :: es) [] pos) (eB (opAA true) fs) :=
  se_b (fun t ht => pe_callB (cr_all hc) hg hm PyProof.Rows.boot_all ht (by decide) (by decide) he hpl) (fun T A M H xs vs Q R r h => opAA_ok R r h) (opAA_calm true) h
theorem se_anyL (hc : X.calm = true) (hg : Gl X "any") (hm : X.mg "any" = none) (h : SA X p (e :: es) fs) (he : starEach (e :: es) X.env = (false, eval e X.env) :: starEach es X.env := by rfl) (hpl : (backTo pos (starEach es X.env)).any (·.1) = false := by rfl) :
    SE X p (.Call (.Name "any" pn) (e :: es) [] pos) (eB (opAA false) fs) :=
  se_b (fun t ht => pe_callB (cr_any hc) hg hm PyProof.Rows.boot_any ht (by decide) (by decide) he hpl) (fun T A M H xs vs Q R r h => opAA_ok R r h) (opAA_calm false) h
/-- isinstance(x, (c, d, e)) -/
theorem se_isi3 (t u w : Bty) {x y z : Str} {k : Nat} (hx : x = Str.ofString t.nm) (hy : y = Str.ofString u.nm) (hz : z = Str.ofString w.nm) (hg : Gl X "isinstance") (hm : X.mg "isinstance" = none) (hg2 : Gl X x) (hm2 : X.mg x = none) (hg3 : Gl X y) (hm3 : X.mg y = none) (hg4 : Gl X z) (hm4 : X.mg z = none) (ha : SE X p a f)
    (he : starEach [a, .Tuple [.Name x p2, .Name y p3, .Name z p5] k p4] X.env = (false, eval a X.env) :: starEach [.Tuple [.Name x p2, .Name y p3, .Name z p5] k p4] X.env := by rfl)
    (he2 : starEach [.Tuple [.Name x p2, .Name y p3, .Name z p5] k p4] X.env = (false, eval (.Tuple [.Name x p2, .Name y p3, .Name z p5] k p4) X.env) :: starEach [] X.env := by rfl)
    (he3 : starEach [.Name x p2, .Name y p3, .Name z p5] X.env = (false, eval (.Name x p2) X.env) :: starEach [.Name y p3, .Name z p5] X.env := by rfl) (he4 : starEach [.Name y p3, .Name z p5] X.env = (false, eval (.Name y p3) X.env) :: starEach [.Name z p5] X.env := by rfl)
    (he5 : starEach [.Name z p5] X.env = (false, eval (.Name z p5) X.env) :: starEach [] X.env := by rfl)
    (hpl : (backTo pos (starEach [.Tuple [.Name x p2, .Name y p3, .Name z p5] k p4] X.env)).any (·.1) = false := by rfl) :
    SE X p (.Call (.Name "isinstance" pn) [a, .Tuple [.Name x p2, .Name y p3, .Name z p5] k p4] [] pos) (eUn (opIsi [t, u, w]) f) :=
  pe_imp (pe_callB call_isiT hg hm PyProof.Rows.boot_isinstance (pa_cons ha (pa_cons (pe_tup (pa_cons (pe_bty t hx hg2 hm2) (pa_cons (pe_bty u hy hg3 hm3) (pa_cons (pe_bty w hz hg4 hm4) pa_nil he5) he4) he3)) pa_nil he2) he) (he := he) (hpl := hpl)) fun σ H Q ⟨A, M, env, R, S, q⟩ => seqE R S (fun _ _ _ _ z => z) q fun d M1 v H1 A1 s1 r1 q1 => by
    have q2 : OutR (if tyKn M1 d = true then Out.ok (D.bl ([t, u, w].any (isTy d))) M1 else .no) _ _ := q1
    obtain ⟨hk, q2⟩ := ifO q2
    refine ⟨by show 3 ≤ sizeLine; rw [sizeLine_eq]; omega, fun tp htp => ?_⟩
    have sl : Stp X.K p.T A1 H1 A1 M1 (upd H1 tp (.tup [.ty t.nm, .ty u.nm, .ty w.nm])) := .lay s1.rel htp
    refine ⟨v, tp, [.ty t.nm, .ty u.nm, .ty w.nm], _, [.type t.nm, .type u.nm, .type w.nm], isTy d t || (isTy d u || isTy d w), rfl, upd_same, .cons (.ty _) (.cons (.ty _) (.cons (.ty _) .nil)), tyX_rep sl.rel (r1.stp s1.rel sl) hk, ?_, ?_⟩
    · refine kitAny_cons (kit_isTy d t) (fun e1 => ?_) fun e1 => by rw [e1]; rfl
      refine kitAny_cons (kit_isTy d u) (fun e2 => ?_) fun e2 => by rw [e2, Bool.true_or, Bool.or_true]
      refine kitAny_cons (kit_isTy d w) (fun e3 => ?_) fun e3 => by rw [e3, Bool.or_true, Bool.or_true]
      rw [e1, e2, e3]
      exact kitAny_nil
    · have e : ([t, u, w].any (isTy d)) = (isTy d t || (isTy d u || isTy d w)) := by simp
      rw [e] at q2
      exact q2 _ _ A1 (s1.trans sl) (.bl _)
end
end SX
end
section
set_option Elab.async false
set_option linter.all false
set_option maxRecDepth 100000
open Classical
/-! SXzx: o[i] += e, whole numbers of a list. -/
namespace SX
open PySem PySem.Spec PyProof.Rows L2 PySem.W PySem.Calls
section
variable {X : Cx}
def rGetN (K : PySem.W.Frag) : V → V → Hp → VK → Prop := fun x y H Q => ∃ p xs i v, x = .ref p ∧ y = .int i ∧ SqL K H p xs ∧ 0 ≤ i ∧ i < 2 ^ 63 ∧ xs[i.toNat]? = some v ∧ Q v H
theorem get_list : PGet X (rGetN X.K) := by
  intro pins s σ H x y v u Q I rx ry h
  obtain ⟨p, xs, i, z, rfl, rfl, hq, h0, h1, he, q⟩ := h
  cases rx
  obtain ⟨t, rfl⟩ := ry
  obtain ⟨its, r, pl, hz⟩ := I.list hq
  obtain ⟨w, ew, rw'⟩ := r.get he
  exact wpAny_getItem_list pl.isList h0 h1 (by simpa using ew) ⟨z, H, I, rw', q⟩
end
noncomputable def sAugI (fo fi fe : EvE) : EvS := fun env M => (fo env M).bind fun o M1 => (fi env M1).bind fun i M2 => match o, i with
  | .ref n, .int k => match M2[n]? with
    | some (.lst l) => if 0 ≤ k ∧ k < 2 ^ 63 then (match l[k.toNat]? with
      | some (.int x) => (fe env M2).bind fun y M3 => match y with
        | .int z => match M3[n]? with
          | some (.lst l2) => if k.toNat < l2.length then .ok (.nx env) (M3.set n (.lst (l2.set k.toNat (.int (x + z))))) else .no
          | _ => .no
        | _ => .no
      | _ => .no) else .no
    | _ => .no
  | _, _ => .no
section
variable {X : Cx} {p : Pm} {o i e : Expr} {fo fi fe : EvE} {tpos pos : Pos}
theorem ss_augI (ho : SE X p o fo) (hi : SE X p i fi) (he : SE X p e fe)
    (ha : ∀ ov iv new, augStore i ov iv new = (do holding [new, ov, iv] (setItem ov iv new); release [new, ov, iv] []; pure .next) := by intros; rfl) :
    SS X p (.AugAssign (.Subscript o i tpos) .Add e pos) (sAugI fo fi fe) :=
  ps_imp (ps_augS ho hi get_list he ip_add set_list ha) fun D σ H ⟨A, M, env, R, S, q⟩ => seqE R S (fun _ _ _ _ z => z) q fun d M1 ov H1 A1 s1 r1 q1 =>
    seqE s1.rel (S.stp R s1) (fun _ _ _ _ z => Exc.stp s1 z) q1 fun k M2 iv H2 A2 s2 r2 q2 => by
      have S2 := (S.stp R s1).stp s1.rel s2
      cases d with
      | ref n =>
        cases k with
        | int k =>
          cases hm : M2[n]? with
          | none => simp only [hm] at q2; exact q2.elim
          | some ob =>
            cases ob with
            | lst l =>
              simp only [hm] at q2
              obtain ⟨⟨h0, h63⟩, q2⟩ := ifO q2
              cases hx : l[k.toNat]? with
              | none => simp only [hx] at q2; exact q2.elim
              | some x =>
                cases x with
                | int x =>
                  simp only [hx] at q2
                  obtain ⟨a', vs, e1, h2, t⟩ := asL_rep (l := l) s2.rel (r1.stp s1.rel s2) (by show (match M2[n]? with | some (.lst l) => some l | _ => none) = some l; rw [hm])
                  obtain ⟨w, hw, rw'⟩ := t.get hx
                  refine ⟨a', vs, k, w, e1, rep_int r2, h2, h0, h63, hw, ?_⟩
                  refine seqE s2.rel S2 (fun _ _ _ _ z => Exc.stp (s1.trans s2) z) q2 fun y M3 yv H3 A3 s3 r3 q3 => ?_
                  have S3 := S2.stp s2.rel s3
                  cases y with
                  | int z =>
                    cases hm3 : M3[n]? with
                    | none => simp only [hm3] at q3; exact q3.elim
                    | some ob3 =>
                      cases ob3 with
                      | lst l2 =>
                        simp only [hm3] at q3
                        obtain ⟨hk, q3⟩ := ifO q3
                        obtain ⟨a3, e3, ha3, vs3, h3, t3⟩ := s3.rel.ref ((r1.stp s1.rel s2).stp s2.rel s3) hm3 (fun z => by cases z)
                        refine ⟨x, z, rep_int rw', rep_int r3, ?_⟩
                        have hj : ixN l2.length k = some k.toNat := by
                          unfold ixN
                          rw [if_pos h0, if_pos (by omega)]
                        refine ⟨a3, vs3, k, k.toNat, e3, rep_int r2, h3, by rw [← t3.length]; exact hj, ?_⟩
                        have s4 : Stp X.K p.T A3 H3 A3 (M3.set n (.lst (l2.set k.toNat (.int (x + z))))) (upd H3 a3 (.lst (vs3.set k.toNat (.int (x + z))))) := Stp.setO s3.rel ha3 fun m => ⟨_, upd_same, Reps.set (.int _) k.toNat (t3.mv s3.rel m)⟩
                        exact q3 σ _ A3 (((s1.trans s2).trans s3).trans s4) (S3.stp s3.rel s4)
                      | _ => simp only [hm3] at q3; exact q3.elim
                  | _ => exact q3.elim
                | _ => simp only [hx] at q2; exact q2.elim
            | _ => simp only [hm] at q2; exact q2.elim
        | _ => exact q2.elim
      | _ => exact q2.elim
end
end SX
end
section
set_option Elab.async false
set_option linter.all false
set_option maxRecDepth 100000
open Classical
/-! SXzw: in, not in (lists and tuples of data); constants of the module. -/
namespace SX
open PySem PySem.Spec PyProof.Rows L2 PySem.W PySem.Calls
section
variable {X : Cx}
def rInA (K : PySem.W.Frag) (neg : Bool) : R2 := fun x y H Q => ∃ d c ds, Dp K H x d ∧ Dp K H y c ∧ (c = .list ds ∨ c = .tuple ds) ∧ SeqAt.shaped d = true ∧ SeqAt.shaped c = true ∧ Q (.bl (if neg then !ds.any fun z => PyData.eqv z d else ds.any fun z => PyData.eqv z d)) H
theorem op_inA (hu : X.A.units + 65 < cLine) : OpR X (compareOp .In) (rInA X.K false) := by
  intro pins s σ H x y v u Q I rx ry h
  obtain ⟨d, c, ds, hd, he, hc, sd, se, q⟩ := h
  obtain ⟨as, r1⟩ := Dp.reads I d x v hd rx
  obtain ⟨bs, r2⟩ := Dp.reads I c y u he ry
  rcases hc with rfl | rfl
  · exact SeqAt.in_list_reads r2 r1 (SeqAt.canLay_of_shaped se) (SeqAt.canLay_of_shaped sd) (room_in_shaped sd hu) ⟨.bl _, H, I, rfl, q⟩
  · exact SeqAt.in_tuple_reads r2 r1 (SeqAt.canLay_of_shaped se) (SeqAt.canLay_of_shaped sd) (room_in_shaped sd hu) ⟨.bl _, H, I, rfl, q⟩
theorem op_notInA (hu : X.A.units + 65 < cLine) : OpR X (compareOp .NotIn) (rInA X.K true) := by
  intro pins s σ H x y v u Q I rx ry h
  obtain ⟨d, c, ds, hd, he, hc, sd, se, q⟩ := h
  obtain ⟨as, r1⟩ := Dp.reads I d x v hd rx
  obtain ⟨bs, r2⟩ := Dp.reads I c y u he ry
  rcases hc with rfl | rfl
  · exact SeqAt.notIn_list_reads r2 r1 (SeqAt.canLay_of_shaped se) (SeqAt.canLay_of_shaped sd) (room_in_shaped sd hu) ⟨.bl _, H, I, rfl, q⟩
  · exact SeqAt.notIn_tuple_reads r2 r1 (SeqAt.canLay_of_shaped se) (SeqAt.canLay_of_shaped sd) (room_in_shaped sd hu) ⟨.bl _, H, I, rfl, q⟩
end
noncomputable def opIn (neg : Bool) : D → D → List MO → Out D := fun x y M => match toPyR M x, toPyR M y with
  | some d, some (.list ds) => if SeqAt.shaped d = true ∧ SeqAt.shaped (.list ds) = true then .ok (.bl (if neg then !ds.any fun z => PyData.eqv z d else ds.any fun z => PyData.eqv z d)) M else .no
  | some d, some (.tuple ds) => if SeqAt.shaped d = true ∧ SeqAt.shaped (.tuple ds) = true then .ok (.bl (if neg then !ds.any fun z => PyData.eqv z d else ds.any fun z => PyData.eqv z d)) M else .no
  | _, _ => .no
theorem opIn_calm {neg} : Calm2 (opIn neg) := by
  intro x y M c d e M'
  unfold opIn
  split
  · exact calm_of calm_ok _ _ _ _
  · exact calm_of calm_ok _ _ _ _
  · intro q; cases q
theorem opIn_pre {K : PySem.W.Frag} {neg : Bool} {T : List Addr} {A : Ads} {M : List MO} {H : Hp} {x y : D} {v w : V} {Q : VK} (R : Rel K T A M H) (rx : Rep K A H x v) (ry : Rep K A H y w)
    (h : OutR (opIn neg x y M) (Fin K T A H Q) (fun _ _ _ _ => False)) : rInA K neg v w H Q := by
  unfold opIn at h
  split at h
  · rename_i d ds e1 e2
    obtain ⟨hz, h⟩ := ifO h
    exact ⟨d, _, ds, toPyR_rep R rx e1, toPyR_rep R ry e2, .inl rfl, hz.1, hz.2, h _ H A (.refl R) (.bl _)⟩
  · rename_i d ds e1 e2
    obtain ⟨hz, h⟩ := ifO h
    exact ⟨d, _, ds, toPyR_rep R rx e1, toPyR_rep R ry e2, .inr rfl, hz.1, hz.2, h _ H A (.refl R) (.bl _)⟩
  · exact h.elim
section
variable {X : Cx} {p : Pm} {a b c : Expr} {f g h : EvE} {pos : Pos} {k : Nat}
theorem se_in (hr : Room k X.A) (ha : SE X p a f) (hb : SE X p b g) (hm : behindInMarks .In b = false := by rfl) : SE X p (.Compare a [.In] [b] pos) (eBin (opIn false) f g) := se_bin (fun ta tb h1 h2 => pe_cmpR (op_inA (by have := hr.un; omega)) h1 h2 hm) (fun T A M H x y v w Q R rx ry h => opIn_pre R rx ry h) opIn_calm ha hb
theorem se_notIn (hr : Room k X.A) (ha : SE X p a f) (hb : SE X p b g) (hm : behindInMarks .NotIn b = false := by rfl) : SE X p (.Compare a [.NotIn] [b] pos) (eBin (opIn true) f g) := se_bin (fun ta tb h1 h2 => pe_cmpR (op_notInA (by have := hr.un; omega)) h1 h2 hm) (fun T A M H x y v w Q R rx ry h => opIn_pre R rx ry h) opIn_calm ha hb
/-- a constant of the module -/
theorem se_gl {x : Str} {d : D} (hg : Gl X x) (h : ∃ u v, X.mg x = some u ∧ RelV v u ∧ ∀ A H, Rep X.K A H d v) (hd : (x == ("__debug__" : Str)) = false := by decide) : SE X p (.Name x pos) (eC d) := by
  obtain ⟨u, v, hm, r, hr⟩ := h
  exact pe_imp (pe_glob hg hm r hd) fun σ H Q ⟨A, M, env, R, S, q⟩ => q v H A (.refl R) (hr _ _)
end
end SX
end
section
set_option Elab.async false
set_option linter.all false
set_option maxRecDepth 100000
open Classical
/-! SXzt: count of a list of whole numbers. -/
namespace SX
open PySem PySem.Spec PyProof.Rows L2 PySem.W PySem.Calls
section
variable {X : Cx}
def rLCt (K : PySem.W.Frag) : V → List V → Hp → VK → Prop := fun x xs H Q => ∃ (a : Addr) (ns : List Int) (i : Int), x = .ref a ∧ xs = [.int i] ∧ SqL K H a (ns.map V.int) ∧ Q (.int (ns.count i : Nat)) H
theorem mt_lcount : MtR X "list.count" (rLCt X.K) := by
  intro pins s σ H x xs v us Q I rx rs h
  obtain ⟨a, ns, i, rfl, rfl, hq, q⟩ := h
  cases rx
  obtain ⟨u, rfl, t, rfl⟩ := vals1 rs
  obtain ⟨its, r, ⟨⟨cls, dd, data, sls⟩, n, ho, hc, hdn, hdt⟩, hlen⟩ := I.list hq
  simp only at hc hdt
  subst hc hdt
  refine call_meets PySem.F.slot_list_count ⟨_, ho, rfl⟩ PySem.F.entry_list_count (PySem.F.args_list_count_2 _ _) (SeqAt.list_countAt a its.toArray n dd sls (.int i t) (eqU (.int i)))
    ⟨ho, fun w hw => mem_eqAt (x := .int i) ⟨t, rfl⟩ rfl r (flat_ints ns) w (by simpa using hw), ?_⟩
  rw [show its.toArray.toList.countP (eqU (.int i)) = ns.count i by rw [List.toList_toArray]; exact countP_eqU r]
  exact ⟨.int (ns.count i : Nat), H, I.tok _, ⟨_, rfl⟩, q⟩
end
noncomputable def opLCt : D → List D → List MO → Out D
  | x, [.int i], M => match (asL M x).bind intsOf with
    | some ns => .ok (.int (ns.count i : Nat)) M
    | none => .no
  | _, _, _ => .no
section
variable {X : Cx} {p : Pm} {a b e o : Expr} {es : List Expr} {f g : EvE} {fs gs : EvEs} {pn pos p2 p3 apos cpos : Pos} {name : Str}
theorem se_lcount (ho : SE X p o f) (ha : SA X p (e :: es) fs) (hbase : attributeBase o "count" X.env (eval o X.env) = eval o X.env := by rfl)
    (hfew : ((backTo cpos (starEach (e :: es) X.env)).all (fun x => !x.1) && (backToKw cpos (keywordEach [] X.env)).all (fun x => x.1.isSome)
      && decide ((e :: es).length + ([] : List Keyword).length + (if ([] : List Keyword).isEmpty then 0 else 1) < 30)) = true := by rfl)
    (hline : (apos.endLine == cpos.line) = true := by rfl) (hs : starEach (e :: es) X.env = (false, eval e X.env) :: starEach es X.env := by rfl) (hplain : (backTo cpos (starEach es X.env)).any (·.1) = false := by rfl) :
    SE X p (.Call (.Attribute o "count" apos) (e :: es) [] cpos) (eM opLCt f fs) :=
  se_bm PySem.F.slot_list_count PySem.F.type_list_count mt_lcount (fun T A M H x xs v vs Q R rx rxs h => by
    unfold opLCt at h
    split at h
    · rename_i i
      obtain ⟨w, e1, ri⟩ := reps1 rxs
      subst e1
      cases e1 : asL M x with
      | none => rw [e1] at h; exact h.elim
      | some l =>
        rw [e1] at h
        cases e2 : intsOf l with
        | none => simp only [Option.bind_some, e2] at h; exact h.elim
        | some ns =>
          simp only [Option.bind_some, e2] at h
          obtain ⟨a', ws, e3, h2, t⟩ := asL_rep R rx e1
          have := reps_ints t e2
          subst this
          exact ⟨a', ns, i, e3, by rw [rep_int ri], h2, h _ H A (.refl R) (.int _)⟩
    · exact h.elim) (fun x xs M c d e M' q => by
      unfold opLCt at q
      split at q
      · split at q <;> cases q
      · cases q) ho ha hbase hfew hline hs hplain
end
end SX
end
section
set_option Elab.async false
set_option linter.all false
set_option maxRecDepth 100000
open Classical
/-! SXzs: enumerate of a tuple; a list unpacked. -/
namespace SX
open PySem PySem.Spec PyProof.Rows L2 PySem.W PySem.Calls
set_option maxHeartbeats 1000000 in
theorem meets_enum_newB {v : Value} {o : Obj} {H : Heap → Prop} (B : Begins v o H) :
    Meets (Builtin.«enumerate.__new__» ⟨[.type "enumerate", v], []⟩) (fun _ R s => H s.heap ∧
      R (.ok (.ret (.ref (s.heap.push o).objs.size))) { s with heap := (s.heap.push o).push { cls := .type "enumerate", data := .fields #[.none, .bool false, .ref s.heap.objs.size, rawInt 0, .none, .none] } }) :=
  .of_wp fun prog w A R s h => by
    obtain ⟨hp, g, d, tk, os⟩ := s; obtain ⟨h1, h⟩ := h
    have hsub := sub_enumerate
    have q1 : ∀ {A' : Around} {E : Value → Shared → Prop} {Q : Value → Shared → Prop}, Q (.ref hp.objs.size) ⟨hp.push o, g, d, tk, os⟩ → wpAny (model prog w) A' (pyIter v) Q E ⟨hp, g, d, tk, os⟩ :=
      fun q => B.iter prog w _ _ ⟨hp, g, d, tk, os⟩ _ h1 q
    wp_walk using q1
    refine wpAny_stack_any fun st => wpAny_pure ?_
    split
    · rename_i c _ _ _ _ _
      cases (c == Value.type "enumerate")
      · wp_walk using q1
        exact ⟨_, rfl, h⟩
      · wp_walk using q1
        exact ⟨_, rfl, h⟩
    · wp_walk using q1
      exact ⟨_, rfl, h⟩
section
variable {prog : Program} {w : World} {A : Around} {E : Value → Shared → Prop} {s : Shared}
theorem call_enum_begins {v : Value} {o : Obj} {H : Heap → Prop} {Q : Value → Shared → Prop} (B : Begins v o H) (h1 : H s.heap)
    (h : ∀ h', IsEnum h' (s.heap.objs.size + 1) s.heap.objs.size 0 .none → h'.get? s.heap.objs.size = some o → h'.objs.size = s.heap.objs.size + 2 →
      (∀ b o, s.heap.get? b = some o → h'.get? b = some o) → Q (.ref (s.heap.objs.size + 1)) { s with heap := h' }) :
    wpAny (model prog w) A (call (.type "enumerate") [v]) Q E s := by
  refine callType_new F.called_enumerate (by decide) (F.typeCall_enumerate_1 _) (F.newCall_enumerate_1 _) (fun obj => F.args_object_init_2 obj _) F.entry_enumerate_new
    (meets_enum_newB B) ⟨h1, ?_⟩
  have hz : (s.heap.push o).objs.size = s.heap.objs.size + 1 := Heap.size_push ..
  show _ ∧ _
  rw [hz]
  have he : IsEnum ((s.heap.push o).push { cls := .type "enumerate", data := .fields #[.none, .bool false, .ref s.heap.objs.size, rawInt 0, .none, .none] }) (s.heap.objs.size + 1) s.heap.objs.size 0 .none := by
    have := Heap.get?_push_size (s.heap.push o) (o := { cls := .type "enumerate", data := .fields #[.none, .bool false, .ref s.heap.objs.size, rawInt 0, .none, .none] }) rfl
    rw [hz] at this; exact this
  refine ⟨⟨_, he, rfl⟩, h _ he (Heap.get?_push_of_some _ (Heap.get?_push_size _ B.free)) (by rw [Heap.size_push, hz]) fun b o x => Heap.get?_push_of_some _ (Heap.get?_push_of_some _ x)⟩
end
/-- the tuple at a, each item in a new pair with its place -/
def IteT (K : PySem.W.Frag) (a : Addr) : It :=
  ⟨fun i H => ∃ (xs : List V) (x : V), SqT K H a xs ∧ xs[i]? = some x, fun i H v H' => ∃ T x, v = .ref T ∧ H T = none ∧ H' = upd H T (.tup [.int (i : Nat), x]) ∧ ∀ xs, SqT K H a xs → xs[i]? = some x, fun i H => ∃ xs : List V, SqT K H a xs ∧ xs.length = i⟩
theorem turn_enumT {P : Program} {w : World} {K : PySem.W.Frag} {elts : List Expr} {kk : Nat} {tpos : Pos} (a e it : Addr) :
    Turn P w K (.Tuple elts kk tpos) (IteT K a) [e, it] e (fun i h => (∃ old, IsEnum h e it ((i : Nat) : Int) old) ∧ h.IsTupleIter it a i ∧ e ≠ it) where
  mem := by simp
  obj := fun i h st b hb => by
    obtain ⟨⟨old, he⟩, ⟨o, ho, hc, hd⟩, _⟩ := st
    have e' : b = e ∨ b = it := by simpa using hb
    rcases e' with z | z
    · rw [z]; exact ⟨_, he, fun v q => nomatch q⟩
    · rw [z]; exact ⟨o, ho, fun v q => by rw [hd] at q; cases q⟩
  keep := fun i h h' st k => let ⟨⟨old, he⟩, hi, hne⟩ := st; ⟨⟨old, k e (by simp) _ he⟩, hi.at fun o q => k it (by simp) o q, hne⟩
  item := by
    intro X hP hw hK hc i pins s σ H E I hf st hg
    subst hP hw hK
    obtain ⟨⟨old, he⟩, hit, hne⟩ := st
    obtain ⟨xs, x, hq, hx⟩ := hg
    obtain ⟨its, rv, p, hz⟩ := I.tuple hq
    obtain ⟨u, hu, ru⟩ := rv.get hx
    have hel : e < s.heap.objs.size := Heap.lt_size he
    have hil : it < s.heap.objs.size := by obtain ⟨_, q, _⟩ := hit; exact Heap.lt_size q
    have hai : a ≠ it := fun z => by
      obtain ⟨o1, h1, c1, _⟩ := p
      obtain ⟨o2, h2, c2, _⟩ := hit
      rw [z, h2] at h1
      cases h1
      rw [c2] at c1
      exact absurd (Value.type.inj c1) (by decide)
    have hae : e ≠ a := fun z => by
      obtain ⟨o1, h1, c1, _⟩ := p
      have he' : s.heap.get? e = some _ := he
      rw [z, h1] at he'
      cases he'
      exact absurd (Value.type.inj c1) (by decide)
    have hii : i < its.toArray.size := by
      have := (List.getElem?_eq_some_iff.mp hu).1
      simpa using this
    refine wpAny_pyNext_enum_itemD (Draws.tuple (A := X.A.in1) (I.ok.hd hc) it a hai its.toArray) he ⟨hit, p⟩ hii hne (by simp [hne, hae]) fun u' h' tk hPu ho hit' hT hsz hk => ?_
    have hu' : its[i]? = some u' := by simpa using hPu
    rw [hu] at hu'
    cases hu'
    refine ⟨_, rfl, wpAny_letOwnedTupleGo_enum (s := { s with heap := h', toks := tk + 1 }) ho fun h'' he' sb => ?_⟩
    have hT2 : h''.get? s.heap.objs.size = some { cls := .type "tuple", data := .seq #[.int i tk, u] } := (sb.2 _ (Nat.ne_of_gt hel)).trans hT
    have new : ObjOk X.prog X.w (upd H s.heap.objs.size (.tup [.int (i : Nat), x])) h'' s.heap.objs.size (.tup [.int (i : Nat), x]) :=
      ⟨by show 2 ≤ sizeLine; decide, [.int i tk, u], .cons ⟨_, rfl⟩ (.cons ru .nil), ⟨_, hT2, rfl, _, rfl⟩⟩
    have I1 : Inv X pins σ (upd H s.heap.objs.size (.tup [.int (i : Nat), x])) { s with heap := h'', toks := tk + 1 } :=
      I.turnedNew (ch := [e, it]) (fun b ob hb q => (sb.2 b (fun z => hb (by simp [z]))).trans (hk b ob (fun z => hb (by simp [z])) (fun z => hb (by simp [z])) q)) hf (Nat.le_refl _) new
    refine ⟨.ref s.heap.objs.size, _, I1, rfl, ⟨_, x, rfl, I.hok.fresh (Nat.le_refl _), rfl, fun ys hy => by rw [I.tuple_inj hy hq]; exact hx⟩, ⟨⟨u, ?_⟩, hit'.1.at fun o q => (sb.2 it (Ne.symm hne)).trans q, hne⟩, fun b hb => ?_⟩
    · have e1 : ((i + 1 : Nat) : Int) = (i : Int) + 1 := by omega
      rw [e1]; exact he'
    · have hb' : b < s.heap.objs.size := by
        have e' : b = e ∨ b = it := by simpa using hb
        rcases e' with z | z
        · rw [z]; exact hel
        · rw [z]; exact hil
      rw [upd_ne (Nat.ne_of_lt hb')]
      exact (hf b hb).1
  done := by
    intro X hP hw hK hc i pins s σ H E I hf st hg
    subst hP hw hK
    obtain ⟨⟨old, he⟩, hit, hne⟩ := st
    obtain ⟨xs, hq, hx⟩ := hg
    obtain ⟨its, rv, p, hz⟩ := I.tuple hq
    obtain ⟨f0, f1, f2, f3, f4, f5⟩ := hf it (by simp)
    have hl := rv.length
    have hai : a ≠ it := fun z => by
      obtain ⟨o1, h1, c1, _⟩ := p
      obtain ⟨o2, h2, c2, _⟩ := hit
      rw [z, h2] at h1
      cases h1
      rw [c2] at c1
      exact absurd (Value.type.inj c1) (by decide)
    have hsz : i = its.toArray.size := by rw [List.size_toArray]; omega
    exact wpAny_pyNext_enum_endD (Draws.tuple (A := X.A.in1) (I.ok.hd hc) it a hai its.toArray) he (by rw [← hsz]; exact ⟨hit, p⟩) fun h' eb => ⟨rfl, I.turned (t' := s.toks) (fun b o hb q => eb b o hb q) f0 f1 f3 f4 f5⟩
  self := fun A i s Q E st h => let ⟨⟨_, he⟩, _⟩ := st; wpAny_pyIter_enum he h
def iEnumT (K : PySem.W.Frag) (ta : TA) : TI := fun σ H R => ta σ H fun vs H1 => ∃ a xs, vs = [.ref a] ∧ SqT K H1 a xs ∧ R (IteT K a) H1
theorem pi_enumT {X : Cx} {e : Expr} {ta : TA} {p pos tpos : Pos} {elts : List Expr} {kk : Nat} (hg : Gl X "enumerate") (hm : X.mg "enumerate" = none) (ha : PA X [e] ta) (hs : starEach [e] X.env = [(false, eval e X.env)] := by rfl) :
    PI X (.Tuple elts kk tpos) (.Call (.Name "enumerate" p) [e] [] pos) (iEnumT X.K ta) := by
  refine ⟨fun pins s σ H R I h => ?_⟩
  refine Call_ (ld_blt I hg hm PyProof.Rows.boot_enumerate (PyProof.Rows.callWith_type1 (thn (ha.run pos pins s σ H _ I h) fun us s1 ⟨vs, H1, I1, r1, q1⟩ => ?_) hs rfl))
  obtain ⟨a, xs, ex, hq, q⟩ := q1
  subst ex
  cases r1 with
  | cons r rr =>
    cases rr
    cases r
    obtain ⟨its, rv, p', hz⟩ := I1.tuple hq
    refine call_enum_begins (begins_tuple a its.toArray) p' fun h' he hit hsz hk => wpAny_pyIter_enum he ?_
    have I2 : Inv X pins σ H1 { s1 with heap := h' } := I1.kept (t' := s1.toks) hk
    refine ⟨s1.heap.objs.size + 1, [s1.heap.objs.size + 1, s1.heap.objs.size], _, _, H1, rfl, I2, turn_enumT a (s1.heap.objs.size + 1) s1.heap.objs.size, ⟨⟨.none, he⟩, ⟨_, hit, rfl, rfl⟩, Nat.succ_ne_self _⟩, fun b hb => ?_, q⟩
    have e' : b = s1.heap.objs.size + 1 ∨ b = s1.heap.objs.size := by simpa using hb
    have hle : s1.heap.objs.size ≤ b := by
      rcases e' with z | z
      · rw [z]; exact Nat.le_add_right _ _
      · rw [z]; exact Nat.le_refl _
    exact I1.fpOk hle (I1.hok.fresh hle)
end SX
end
section
set_option Elab.async false
set_option linter.all false
set_option maxRecDepth 100000
open Classical
/-! SXzr: readings of enumerate of a tuple and of a list unpacked. -/
namespace SX
open PySem PySem.Spec PyProof.Rows L2 PySem.W PySem.Calls
theorem room65 {k : Nat} {A : Around} (hr : Room k A) : A.units + 65 < cLine := by
  have := hr.un
  omega
def enD (xs : List D) : List D := (List.range xs.length).zipWith (fun (i : Nat) d => D.pr [.int (i : Int), d]) xs
theorem enD_at {xs : List D} {i : Nat} {d : D} (h : (enD xs)[i]? = some d) : ∃ x, xs[i]? = some x ∧ d = .pr [.int (i : Int), x] := by
  unfold enD at h
  rw [List.getElem?_zipWith] at h
  cases hx : xs[i]? with
  | none =>
    rw [hx] at h
    cases hr : (List.range xs.length)[i]? <;> rw [hr] at h <;> cases h
  | some x =>
    have hi := (List.getElem?_eq_some_iff.mp hx).1
    rw [hx, List.getElem?_range hi] at h
    exact ⟨x, rfl, (Option.some.inj h).symm⟩
theorem enD_len (xs : List D) : (enD xs).length = xs.length := by
  unfold enD
  rw [List.length_zipWith, List.length_range, Nat.min_self]
theorem itOk_enum {K : PySem.W.Frag} {T : List Addr} {A0 : Ads} {M0 : List MO} {H0 : Hp} {a : Addr} {vs : List V} {l : List D} (R0 : Rel K T A0 M0 H0) (h : SqT K H0 a vs) (t : Reps K A0 H0 l vs) : ItOk K T (IteT K a) A0 H0 ⟨enD l, fun _ => True⟩ where
  go := fun A M H s _ i d hd => by
    obtain ⟨x, hx, e⟩ := enD_at hd
    subst e
    obtain ⟨v, hv, r⟩ := t.get hx
    have k1 := s.mv.sqT R0 h
    refine ⟨⟨vs, v, k1, hv⟩, fun z H' ⟨Tt, x', e1, hT, e2, y1⟩ => ?_⟩
    have z1 := y1 vs k1
    rw [hv] at z1
    cases z1
    subst e1
    subst e2
    have sl : Stp K T A H A M (upd H Tt (.tup [.int (i : Nat), v])) := .lay s.rel hT
    exact ⟨sl, .pr (.of upd_same) (.cons (.int _) (.cons ((r.stp R0 s).stp s.rel sl) .nil))⟩
  stop := fun A M H s _ => ⟨vs, s.mv.sqT R0 h, by
    show vs.length = (enD l).length
    rw [enD_len, t.length]⟩
def iEnum1 (fs : EvEs) : EvI := fun env M => (fs env M).bind fun ds M1 => match ds with
  | [.tup l] => .ok ⟨enD l, fun _ => True⟩ M1
  | _ => .no
section
variable {X : Cx} {p : Pm} {a : Expr} {fs : EvEs} {pn pos : Pos}
theorem si_enum {elts : List Expr} {kk : Nat} {tpos : Pos} (hg : Gl X "enumerate") (hm : X.mg "enumerate" = none) (ha : SA X p [a] fs) (hn : Cnt fs 1)
    (hs : starEach [a] X.env = [(false, eval a X.env)] := by rfl) : SI X p (.Tuple elts kk tpos) (.Call (.Name "enumerate" pn) [a] [] pos) (iEnum1 fs) :=
  pi_imp (pi_enumT hg hm ha hs) fun σ H Q ⟨A, M, env, R, S, q⟩ => ⟨A, M, env, R, S, (OutR.of_bind q).imp (fun ds M1 e q1 vs H1 A1 s1 r1 => by
    have hl := hn _ _ _ _ e
    match ds, hl with
    | [d], _ =>
      obtain ⟨v, e1, r⟩ := reps1 r1
      subst e1
      cases d with
      | tup xs =>
        obtain ⟨a', vs, e1, h1, t1⟩ := rep_tup r
        subst e1
        exact ⟨a', vs, rfl, h1, q1 _ H1 A1 s1 (itOk_enum s1.rel h1 t1)⟩
      | _ => exact q1.elim) fun _ _ _ _ _ z => z⟩
/-- a, b, .. = a list -/
def gtLst (n : Nat) (g : EvGs) : EvG := fun d env M => match asL M d with
  | some l => if l.length = n then g l env M else .no
  | none => .no
theorem sg_lst {es : List Expr} {k n : Nat} {u : EvGs} (hc : X.calm = true) (h : SGs X p es u) (hn : (assignEach es X.env).length = n := by rfl) (hst : (assignEach es X.env).findIdx? (·.1) = none := by rfl) : SG X p (.Tuple es k pos) (gtLst n u) :=
  pg_imp (pg_lst hc h hn hst) fun v σ H Q ⟨A, M, env, d, R, S, r, q⟩ => by
    have q : OutR (match asL M d with | some l => if l.length = n then u l env M else .no | none => .no) _ _ := q
    cases e : asL M d with
    | none => rw [e] at q; exact q.elim
    | some l =>
      rw [e] at q
      obtain ⟨hl, q⟩ := ifO q
      obtain ⟨a, vs, e1, h1, t⟩ := asL_rep R r e
      exact ⟨a, vs, e1, h1, by rw [← t.length]; exact hl, A, M, env, l, R, S, t, q⟩
end
end SX
end
section
set_option Elab.async false
set_option linter.all false
set_option maxRecDepth 100000
open Classical
/-! SXzq: sorted(x, key=f), f a def that answers (len(order), order). -/
namespace SX
open PySem PySem.Spec PyProof.Rows L2 PySem.W PySem.Calls
/-- f(t), t a tuple: a new (len(t), t), all else as it was -/
def SizeLeaf (P : Program) (w : World) (base : Heap) (f : Addr) : Prop := ∀ (A : Around) (E : Value → Shared → Prop) (s : Shared) (a : Addr) (items : Array Value), A.depth < recursionLimit → (∀ b o, base.get? b = some o → s.heap.get? b = some o) → IsTup s.heap a items → items.size ≤ sizeLine →
  wpAny (model P w) A (call (.ref f) [.ref a]) (fun r s' => ∃ h' tk D t, r = .ref D ∧ s' = { s with heap := h', toks := tk } ∧ (∀ b o, s.heap.get? b = some o → h'.get? b = some o) ∧ h'.get? D = some { cls := .type "tuple", data := .seq #[.int items.size t, .ref a] }) E s
section
variable {P : Program} {w : World} {K : PySem.W.Frag} {mg : Str → Option Value} {base : Heap}
theorem size_low {A : Around} {E : Value → Shared → Prop} {s : Shared} {env : PySem.Env} (Mo : Mod K mg base) (bk : ∀ b o, base.get? b = some o → s.heap.get? b = some o) (hk : env.scope.kind = .function) (hgl : env.globals = mainGlobals) (hbl : env.builtins = builtinsNs)
    {x : Str} {m : Str → Option Value} {a : Addr} {items : Array Value} {p1 p2 p3 p4 p5 : Pos} {x1} (hn : s.heap.Ns env.locals m) (hx : env.scope.names.lookup x = some .local) (hm : m x = some (.ref a)) (hxd : (x == ("__debug__" : Str)) = false)
    (hgi : env.kindOf "len" = some .globalImplicit) (hmi : mg "len" = none) (ht : IsTup s.heap a items) (hz : items.size ≤ sizeLine) {Q : Value → Shared → Prop}
    (hs1 : starEach [.Call (.Name "len" p1) [.Name x p2] [] p3, .Name x p4] env = (false, eval (.Call (.Name "len" p1) [.Name x p2] [] p3) env) :: starEach [.Name x p4] env := by rfl) (hs2 : starEach [.Name x p4] env = (false, eval (.Name x p4) env) :: starEach [] env := by rfl) (hs3 : starEach [.Name x p2] env = (false, eval (.Name x p2) env) :: starEach [] env := by rfl) (hpl : (backTo p3 (starEach [] env)).any (·.1) = false := by rfl)
    (h : ∀ tk tk2, Q (.ref s.heap.objs.size) { s with heap := s.heap.push { cls := .type "tuple", data := .seq #[.int items.size tk, .ref a] }, toks := tk2 }) :
    wpAny (model P w) A (eval (.Tuple [.Call (.Name "len" p1) [.Name x p2] [] p3, .Name x p4] x1 p5) env) Q E s := by
  obtain ⟨mb, h1, h2⟩ := Mo.blt
  have hglob : s.heap.Ns env.globals mg := by rw [hgl]; exact Mo.glob.keeps bk
  have hblt : s.heap.Ns env.builtins mb := by rw [hbl]; exact h1.keeps bk
  have hline := line63
  refine wpAny_Tuple_spliced (PyProof.Rows.spliced_more ?_ hs1)
  refine wpAny_Call_Name_kw (Calls.Name_function_global hk hgi (Calls.loadGlobal_builtin hglob hmi hblt ((h2 "len" (by decide)).trans PySem.boot_len) ?_))
  refine PyProof.Rows.callWith_builtin1 (PyProof.Rows.args_cons (wpAny_Name (wpAny_loadName_local hk hx hn hm ?_) hxd) hs3) hs3 hpl
  refine PyProof.Rows.args_nil ?_
  refine len_tuple ht (by omega) ?_
  refine PyProof.Rows.spliced_more ?_ hs2
  refine wpAny_Name (wpAny_loadName_local (s := { s with toks := _ }) hk hx hn hm ?_) hxd
  refine PyProof.Rows.spliced_none ⟨by rw [sizeLine_eq]; show 2 ≤ 16777216; decide, ?_⟩
  exact h _ _
theorem size_leaf {x qual tl : Str} {st : Stmt} {f : Addr} {fd : FuncData} {p1 p2 p3 p4 p5 p6 : Pos} {x1} (F : L2.Fun K x qual st f fd) (Mo : Mod K mg base) (hb : Binds K fd [tl] [])
    (hS : (defScope st).kind = .function) (hco : (defScope st).isCoroutine = false) (hge : (defScope st).isGenerator = false) (hl : (defScope st).names.lookup tl = some .local) (htd : (tl == ("__debug__" : Str)) = false)
    (hgi : (defScope st).names.lookup ("len" : Str) = some .globalImplicit) (hmi : mg "len" = none)
    (hbody : defBody st = [.Return (some (.Tuple [.Call (.Name "len" p1) [.Name tl p2] [] p3, .Name tl p4] x1 p5)) p6]) :
    SizeLeaf P w base f := by
  intro A E s a items hA bk ht hz
  obtain ⟨oc, od, kV, doc, pm, an, cdv, ct, osl, rfl, lk, hcd⟩ := F.ex
  have KX : K.In s.heap := Mo.kin.keeps bk
  have lim : s.heap.NoLimit := Mo.nolimit.keeps bk
  refine wpAny_call (codeAny_mono (R := fun r s' => ∃ v, r = .ok (.ret v) ∧ ∃ h' tk D t, v = .ref D ∧ s' = { s with heap := h', toks := tk } ∧ (∀ b o, s.heap.get? b = some o → h'.get? b = some o) ∧ h'.get? D = some { cls := .type "tuple", data := .seq #[.int items.size t, .ref a] }) ?_ fun r s' hr => ?_)
  · refine codeAny_call_function hA (KX _ _ lk) rfl hco hge rfl (PySem.W.codeRec_of KX hcd) ?_
    refine hb s [.ref a] KX rfl _ _ _ _ ?_
    refine wpAny_newFunctionEnv_cells hS (fun y hy => ?_) fun env he s1 xx => ?_
    · have : y = (tl, .ref a) := by simpa using hy
      subst this
      exact .inl hl
    subst he
    refine ⟨lim.keeps xx.toInCall.keep, codeAny_func ?_⟩
    have bk1 : ∀ a o, base.get? a = some o → s1.heap.get? a = some o := fun a o q => xx.toInCall.keep a o (bk a o q)
    have hns := xx.toInCall.ns
    obtain ⟨h1, tk1, hs1⟩ := xx.toInCall.same
    have keep := xx.toInCall.keep
    have ht1 : IsTup s1.heap a items := by
      obtain ⟨o, ho, hc, hd⟩ := ht
      exact ⟨o, keep _ _ ho, hc, hd⟩
    show wpAny _ _ (execs (defBody st) _) _ _ s1
    rw [hbody]
    refine wpAny_execs_cons (wpAny_Return_some (size_low (E := _) Mo bk1 hS rfl rfl hns hl (bindL1 hl) htd hgi hmi ht1 hz (h := fun tk tk2 => ?_)))
    refine ⟨_, rfl, ?_⟩
    subst hs1
    exact ⟨_, _, _, _, rfl, rfl, fun b o q => Heap.get?_push_of_some _ (keep b o q), Heap.get?_push_size _ rfl⟩
  · obtain ⟨v, rfl, hk⟩ := hr
    exact hk
end
section
variable {prog : Program} {w : World} {A : Around} {E : Value → Shared → Prop} {s : Shared} {β : Type} {vs : List Value} {bs : List β} {R : Value → β → Prop}
/-- sorted(x, key=f), x a list or a tuple -/
theorem sorted_seq_key {it f : Addr} {T : String} {o : Obj} {n : Nat} {Q : Value → Shared → Prop} (hT : T = "list" ∨ T = "tuple") (ho : s.heap.get? it = some o) (hc : o.cls = .type T) (hd : o.data = .seq vs.toArray n)
    (k : β → PyData) (e : EachIs R vs bs) (hal : AllAlike (bs.map k)) (hk : Sortable (bs.map k)) (hL : bs.length ≤ sizeLine) (hu : ∀ x, x ∈ bs → A.units + 2 + (k x).depth < cLine)
    (turn : ∀ (v : Value) (x : β), R v x → x ∈ bs → ∀ (h : Heap) (tk : Nat), (∀ b o, s.heap.get? b = some o → h.get? b = some o) →
      wpAny (model prog w) A.in1.in1 (call (.ref f) [v]) (KeyPure (k x) { s with heap := h, toks := tk }) (fun _ _ => False) { s with heap := h, toks := tk })
    (h : ∀ (h1 h' : Heap) (tk : Nat) (D : Addr) (out : List Value) (c : Nat), (∀ b o, s.heap.get? b = some o → h1.get? b = some o) → (∀ b o, h1.get? b = some o → h'.get? b = some o) → h1.objs.size ≤ D → h'.get? D = some (seqObj "list" out.toArray c) → out.length = bs.length → EachIs R out (bs.mergeSort (dataLe false k)) → Q (.ref D) { s with heap := h', toks := tk }) :
    wpAny (model prog w) A (call (.builtin "sorted") [.ref it] [(Str.ofString "key", .ref f)]) Q E s := by
  have hz : vs.length ≤ sizeLine := by rw [e.length]; exact hL
  refine call_function_entry_kw kind_sorted plain_sorted entry_sorted (PyProof.Rows.ksk_s1 _ _) ?_
  unfold Builtin.«sorted»
  refine wpAny_bind (m := checkCount "sorted" 1 1 _) (wpAny_pure ?_)
  refine wpAny_bind (wpAny_collect_seq it hT ho hc hd (fun h1 k1 => ?_) (by simpa using hz))
  rw [List.toList_toArray]
  refine wpAny_bind (wpAny_newList ?_ hz)
  show wpAny _ _ _ _ _ { s with heap := h1.push (seqObj "list" vs.toArray 0) }
  have hat : (h1.push (seqObj "list" vs.toArray 0)).get? h1.objs.size = some (seqObj "list" vs.toArray 0) := Heap.get?_push_size _ rfl
  have up : ∀ {g : Heap}, KeepsBut h1.objs.size (h1.push (seqObj "list" vs.toArray 0)) g → ∀ b o, h1.get? b = some o → g.get? b = some o := fun {g} kp b o q =>
    kp b o (Nat.ne_of_lt (Heap.lt_size q)) (Heap.get?_push_of_some _ q)
  refine wpAny_bind (wpAny_holding (wpAny_call_entry_kw slot_list_sort ⟨_, hat, rfl⟩ entry_list_sort ?body (PyProof.Rows.ksk_l1 _ _)))
  case body =>
    rw [PyProof.Rows.ksk_t1]
    refine keyH_tree (kz := bs.map k) (s := { s with heap := h1.push (seqObj "list" vs.toArray 0) }) hat (by rw [List.length_map]; exact e.length.symm) hz hal hk (bound_map (A := A.in1.in1) hu)
      (keyH_turns (s := { s with heap := h1.push (seqObj "list" vs.toArray 0) }) e fun v x hR hx h tk kp => turn v x hR hx h tk fun b o q => up kp b o (k1 b o q)) fun h' tk out c kp hD ko => ?_
    refine ⟨_, rfl, wpAny_pure ⟨_, rfl, ?_⟩⟩
    exact h h1 h' tk _ out c k1 (up kp) (Nat.le_refl _) hD ((ko.length (by rw [List.length_map]; exact e.length.symm)).trans e.length) (keyedOut_each k ko e)
end
/-! ### sorted(x, key=f) -/
/-- the tuples of whole numbers of a list -/
def tupsOf : List D → Option (List (List Int))
  | [] => some []
  | .tup l :: r => match intsOf l, tupsOf r with
    | some ns, some ls => some (ns :: ls)
    | _, _ => none
  | _ => none
theorem tupsOf_eq : ∀ {l : List D} {ls : List (List Int)}, tupsOf l = some ls → l = ls.map fun p => D.tup (p.map D.int)
  | [], ls, e => by
    unfold tupsOf at e
    cases e
    rfl
  | .tup l :: r, ls, e => by
    unfold tupsOf at e
    cases h1 : intsOf l with
    | none => rw [h1] at e; cases e
    | some ns =>
      cases h2 : tupsOf r with
      | none => rw [h1, h2] at e; cases e
      | some ms =>
        rw [h1, h2] at e
        cases e
        rw [tupsOf_eq h2, intsOf_eq h1]
        rfl
  | .non :: _, _, e => by cases e
  | .bl _ :: _, _, e => by cases e
  | .int _ :: _, _, e => by cases e
  | .str _ :: _, _, e => by cases e
  | .pr _ :: _, _, e => by cases e
  | .lst _ :: _, _, e => by cases e
  | .rol _ :: _, _, e => by cases e
  | .ref _ :: _, _, e => by cases e
  | .exc _ _ _ :: _, _, e => by cases e
  | .adr _ :: _, _, e => by cases e
/-- a tuple's key: its length and itself -/
def szOf (p : List Int) : PyData := .tuple [.int p.length, .tuple (p.map .int)]
def szL (ls : List (List Int)) : List (List Int) := ls.mergeSort (dataLe false szOf)
noncomputable def opSortedK (mk : Mk) : List D → List MO → Out D
  | [d], M => match (asSeq M d).bind tupsOf with
    | some ls => if ls.length ≤ sizeLine then mk ((szL ls).map fun p => D.tup (p.map D.int)) M else .no
    | none => .no
  | _, _ => .no
theorem sz_alike (ls : List (List Int)) : AllAlike (ls.map szOf) := AllAlike.of fun p q => by
  show alikeAll _ _ = true
  rw [alikeAll, alikeAll]
  rw [show alike (PyData.tuple (p.map .int)) (.tuple (q.map .int)) = alikeAll (p.map .int) (q.map .int) from by rw [alike], alike_ints]
  simp [alike, alikeAll]
theorem sz_kind (ls : List (List Int)) : Sortable (ls.map szOf) := Sortable.tuples fun p => ⟨_, _, rfl⟩
theorem dep_ints : ∀ ns : List Int, PyData.depthAll (ns.map PyData.int) = 0
  | [] => by simp [PyData.depthAll]
  | n :: ns => by rw [List.map_cons]; simp only [PyData.depthAll, PyData.depth]; rw [dep_ints ns]; rfl
theorem sz_depth (p : List Int) : (szOf p).depth ≤ 2 := by
  unfold szOf
  simp only [PyData.depth, PyData.depthAll]
  rw [dep_ints]
  decide
theorem reads_ints {h : Heap} : ∀ {ns : List Int} {us : List Value}, Vals (ns.map V.int) us → ReadsAll h us (ns.map .int) []
  | [], _, .nil => .nil
  | n :: ns, _, .cons ⟨t, e⟩ r => by
    subst e
    exact ReadsAll.cons (.int n t) (reads_ints r)
noncomputable def eSortedK (mk : Mk) (f : EvE) : EvE := fun env M => (f env M).bind fun d M1 => opSortedK mk [d] M1
section
variable {X : Cx}
def rSortedK (X : Cx) (f : Addr) : List V → List V → Hp → VK → Prop := fun xs zs H Q => ∃ T A M d l ls a vs, xs = [V.ref a] ∧ zs = [V.ref f] ∧ Rel X.K T A M H ∧ Rep X.K A H d (.ref a) ∧ asSeq M d = some l ∧ tupsOf l = some ls ∧ ls.length ≤ sizeLine ∧ (SqL X.K H a vs ∨ SqT X.K H a vs) ∧ Reps X.K A H l vs ∧
  ∀ D0 ws, H D0 = none → Reps X.K A H ((szL ls).map fun p => D.tup (p.map D.int)) ws → Q (.ref D0) (upd H D0 (.lst ws))
theorem each_tups {K : PySem.W.Frag} {A : Ads} {H : Hp} : ∀ {ls : List (List Int)} {vs : List V} {us : List Value}, Reps K A H (ls.map fun p => D.tup (p.map D.int)) vs → Vals vs us → EachIs (fun u (p : List Int) => ∃ a, u = .ref a ∧ TpL K H a (p.map V.int)) us ls
  | [], _, _, .nil, .nil => .nil
  | p :: ls, _, _, .cons (.tup h1 t1) t, .cons q k => by
    rw [Reps.ints t1] at h1
    exact .cons ⟨_, q, h1⟩ (each_tups t k)
theorem tups_each {K : PySem.W.Frag} {A : Ads} {H : Hp} : ∀ {ls : List (List Int)} {us : List Value}, EachIs (fun u (p : List Int) => ∃ a, u = .ref a ∧ TpL K H a (p.map V.int)) us ls → ∃ vs, Vals vs us ∧ Reps K A H (ls.map fun p => D.tup (p.map D.int)) vs
  | [], _, .nil => ⟨[], .nil, .nil⟩
  | p :: ls, _, .cons ⟨a, e, h1⟩ t => by
    obtain ⟨vs, h2, h3⟩ := tups_each (A := A) t
    exact ⟨.ref a :: vs, .cons e h2, .cons (.tup h1 (Reps.ofInts p)) h3⟩
theorem cr_sortedK {k : Nat} {f : Addr} (hr : Room k X.A) (hf : Mod X.K X.mg X.base → SizeLeaf X.prog X.w X.base f) : CallRK X (.builtin "sorted") [Str.ofString "key"] (rSortedK X f) := by
  intro pins s σ H xs zs us ws Q I r rz h
  obtain ⟨T, A, M, d, l, ls, a, ys, rfl, rfl, R, rd, e1, e2, hl, hs, t, q⟩ := h
  obtain ⟨u, rfl, rx⟩ := vals1 r
  cases rx
  obtain ⟨u2, rfl, rx2⟩ := vals1 rz
  cases rx2
  obtain ⟨its, rv, T', o, n, hT, ho, hc, hd, hz⟩ : ∃ (its : List Value) (_ : Vals ys its) (T' : String) (o : Obj) (n : Nat), (T' = "list" ∨ T' = "tuple") ∧ s.heap.get? a = some o ∧ o.cls = .type T' ∧ o.data = .seq its.toArray n ∧ its.length ≤ sizeLine := by
    rcases hs with hs | hs
    · obtain ⟨its, rv, pl, hz⟩ := I.list hs
      obtain ⟨o, ho, hc, n, hd⟩ := pl.isList
      exact ⟨its, rv, _, o, n, .inl rfl, ho, hc, hd, by rw [← rv.length]; exact hz⟩
    · obtain ⟨its, rv, pl, hz⟩ := I.tuple hs
      obtain ⟨o, ho, hc, n, hd⟩ := pl
      exact ⟨its, rv, _, o, n, .inr rfl, ho, hc, hd, by rw [← rv.length]; exact hz⟩
  rw [tupsOf_eq e2] at t
  have e := each_tups t rv
  have hline := line63
  refine sorted_seq_key (s := s) hT ho hc hd szOf e (sz_alike ls) (sz_kind ls) hl (fun p _ => by have := sz_depth p; have := hr.un; omega) (fun v p ⟨b, hv, hp⟩ _ h tk keep => ?_) fun h1 h' tk D out c k1 k2 hD hat hlen he => ?_
  · subst hv
    obtain ⟨vals, rvals, pt, hpz⟩ := I.tuple hp.sq
    have pt' : IsTup h b vals.toArray := by
      obtain ⟨o, ho, hc, hd⟩ := pt
      exact ⟨o, keep _ _ ho, hc, hd⟩
    have hlen : vals.length = p.length := by rw [← rvals.length, List.length_map]
    refine wpAny_mono (hf I.mod (X.A.in1.in1) (fun _ _ => False) { s with heap := h, toks := tk } b vals.toArray (by show X.A.depth < _; have := hr.dp; omega) (fun b o q => keep b o (I.bk b o q)) pt' (by rw [List.size_toArray, hlen]; rw [List.length_map] at hpz; exact hpz)) (fun r s' hk => ?_) fun _ _ z => z
    obtain ⟨h2, tk2, D, t', rfl, rfl, keep2, hD⟩ := hk
    refine ⟨h2, tk2, rfl, keep2, ?_⟩
    obtain ⟨o, ho, hc, n', hd⟩ := pt'
    refine Reads.tuple (as := []) hD rfl rfl ?_
    show ReadsAll h2 [.int vals.toArray.size t', .ref b] [.int p.length, .tuple (p.map .int)] []
    rw [List.size_toArray, hlen]
    refine ReadsAll.cons (.int _ _) (ReadsAll.cons (as := []) (bs := []) (.tuple (keep2 _ _ ho) hc hd ?_) .nil)
    exact reads_ints rvals
  · have I1 : Inv X pins σ H { s with heap := h1 } := I.kept (t' := s.toks) k1
    obtain ⟨ws, rw', tw⟩ := tups_each (A := A) he
    refine ⟨.ref D, upd H D (.lst ws), I1.laid (t' := tk) k2 hD ⟨?_, out, c, rw', hat⟩, rfl, q D ws (I1.hok.fresh hD) tw⟩
    rw [rw'.length, hlen]
    exact hl
variable {p : Pm} {e : Expr} {f : EvE} {pn pos p2 p3 : Pos}
theorem se_sortedK (mk : Mk) (hk : MkOk mk) {k : Nat} {y : Str} {g : Addr} {kp : Pos} (hr : Room k X.A) (hg : Gl X "sorted") (hm : X.mg "sorted" = none) (hgy : Gl X y) (hmy : X.mg y = some (.ref g)) (hf : Mod X.K X.mg X.base → SizeLeaf X.prog X.w X.base g) (h : SE X p e f)
    (hyd : (y == ("__debug__" : Str)) = false := by decide) (he1 : starEach [e] X.env = [(false, eval e X.env)] := by rfl)
    (he : backTo pos (starEach [e] X.env) = (false, eval e X.env) :: backTo pos (starEach [] X.env) := by rfl) (hpl : (backTo pos (starEach [e] X.env)).any (·.1) = false := by rfl)
    (hall : (backToKw pos (keywordEach [⟨some (Str.ofString "key"), .Name y p2, kp⟩] X.env)).all (·.1.isSome) = true := by rfl) (hnone : (backToKw pos (keywordEach [⟨some (Str.ofString "key"), .Name y p2, kp⟩] X.env)).any (·.1.isNone) = false := by rfl) (hks : (backToKw pos (keywordEach [⟨some (Str.ofString "key"), .Name y p2, kp⟩] X.env)).filterMap (·.1) = [Str.ofString "key"] := by rfl) :
    SE X p (.Call (.Name "sorted" pn) [e] [⟨some (Str.ofString "key"), .Name y p2, kp⟩] pos) (eSortedK mk f) := by
  refine pe_imp (pe_callBK (cr_sortedK hr hf) hg hm PyProof.Rows.boot_sorted (pa_cons h pa_nil (by rw [he1]; rfl)) (pk_cons (pe_glob hgy hmy (v := .ref g) rfl hyd) pk_nil) (he := he) (hpl := hpl) (hall := hall) (hnone := hnone) (hks := hks)) fun σ H Q ⟨A, M, env, R, S, q⟩ => ?_
  refine seqE (exP := Exc X.K p A H) R S (fun _ _ _ _ z => z) q fun d M1 v H1 A1 s1 r1 q1 => ?_
  have q2 : OutR (match (asSeq M1 d).bind tupsOf with
    | some ls => if ls.length ≤ sizeLine then mk ((szL ls).map fun p => D.tup (p.map D.int)) M1 else .no
    | none => .no) (Fin X.K p.T A H Q) (Exc X.K p A H) := q1
  cases e1 : asSeq M1 d with
  | none => rw [e1] at q2; exact q2.elim
  | some l =>
    rw [e1, Option.bind_some] at q2
    cases e2 : tupsOf l with
    | none => rw [e2] at q2; exact q2.elim
    | some ls =>
      rw [e2] at q2
      obtain ⟨hl, q3⟩ := ifO q2
      obtain ⟨a', ws, e3, h3, t⟩ := asSeq_rep s1.rel r1 e1
      subst e3
      refine ⟨p.T, A1, M1, d, l, ls, a', ws, rfl, rfl, s1.rel, r1, e1, e2, hl, h3, t, fun D0 us hD tu => ?_⟩
      refine hk.run _ _ _ _ _ _ _ _ _ s1.rel hD tu ?_
      exact q3.imp (fun a M2 _ z => Fin.stp s1 z) fun c d e M2 z _ => absurd z (hk.calm _ _ _ _ _ _)
end
end SX
end
section
set_option Elab.async false
set_option linter.all false
set_option maxRecDepth 100000
/-! SXzp: x is True, x is not True, both truths. -/
namespace SX
open PySem PySem.Spec PyProof.Rows L2
section
variable {X : Cx}
def rIsB (neg : Bool) : V → V → Hp → VK → Prop := fun x y H Q => ∃ a b, x = .bl a ∧ y = .bl b ∧ Q (.bl (if neg then !decide (a = b) else decide (a = b))) H
theorem bl_beq (a b : Bool) : (Value.bool a == Value.bool b) = decide (a = b) := by
  by_cases e : a = b
  · subst e
    exact (beq_self_eq_true (Value.bool a)).trans (decide_eq_true (p := a = a) rfl).symm
  · exact (beq_eq_false_iff_ne.mpr fun z => e (Value.bool.inj z)).trans (decide_eq_false e).symm
theorem op_isB : OpR X (compareOp .Is) (rIsB false) := by
  intro pins s σ H x y v u Q I rx ry h
  obtain ⟨a, b, rfl, rfl, q⟩ := h
  cases (show v = Value.bool a from rx)
  cases (show u = Value.bool b from ry)
  exact wpAny_is_plain rfl (fin_bl I q (bl_beq a b).symm)
theorem op_notB : OpR X (compareOp .IsNot) (rIsB true) := by
  intro pins s σ H x y v u Q I rx ry h
  obtain ⟨a, b, rfl, rfl, q⟩ := h
  cases (show v = Value.bool a from rx)
  cases (show u = Value.bool b from ry)
  exact wpAny_isNot_plain rfl (fin_bl I q (congrArg not (bl_beq a b).symm))
/-- x is True -/
def opIsB (neg : Bool) : D → D → List MO → Out D
  | .bl a, .bl b, M => .ok (.bl (if neg then !decide (a = b) else decide (a = b))) M
  | _, _, _ => .no
theorem opIsB_calm {neg} : Calm2 (opIsB neg) := by intro x y M c d e M' q; unfold opIsB at q; split at q <;> cases q
theorem opIsB_pre {K : PySem.W.Frag} {neg : Bool} {T : List Addr} {A : Ads} {M : List MO} {H : Hp} {x y : D} {v w : V} {Q : VK} (R : Rel K T A M H) (rx : Rep K A H x v) (ry : Rep K A H y w)
    (h : OutR (opIsB neg x y M) (Fin K T A H Q) (fun _ _ _ _ => False)) : rIsB neg v w H Q := by
  unfold opIsB at h
  split at h
  · cases rx
    cases ry
    exact ⟨_, _, rfl, rfl, h _ H A (.refl R) (.bl _)⟩
  · exact h.elim
variable {p : Pm} {a b : Expr} {f g : EvE} {pos : Pos}
theorem se_isB (ha : SE X p a f) (hb : SE X p b g) : SE X p (.Compare a [.Is] [b] pos) (eBin (opIsB false) f g) := se_bin (fun ta tb h1 h2 => pe_cmpR op_isB h1 h2 (nomark _)) (fun T A M H x y v w Q R rx ry h => opIsB_pre R rx ry h) opIsB_calm ha hb
theorem se_notB (ha : SE X p a f) (hb : SE X p b g) : SE X p (.Compare a [.IsNot] [b] pos) (eBin (opIsB true) f g) := se_bin (fun ta tb h1 h2 => pe_cmpR op_notB h1 h2 (nomark _)) (fun T A M H x y v w Q R rx ry h => opIsB_pre R rx ry h) opIsB_calm ha hb
end
end SX
end
section
set_option Elab.async false
set_option linter.all false
set_option maxRecDepth 100000
open Classical
/-! SXzo: min(x, key=f, default=None), x a list of tuples, f a def that answers (len(order), order). -/
namespace SX
open PySem PySem.Spec PyProof.Rows L2 PySem.W PySem.Calls
/-- f(t), t a tuple: a new (len(t), t) that did not stand, all else as it was -/
def SizeNew (P : Program) (w : World) (base : Heap) (f : Addr) : Prop := ∀ (A : Around) (E : Value → Shared → Prop) (s : Shared) (a : Addr) (items : Array Value), A.depth < recursionLimit → (∀ b o, base.get? b = some o → s.heap.get? b = some o) → IsTup s.heap a items → items.size ≤ sizeLine →
  wpAny (model P w) A (call (.ref f) [.ref a]) (fun r s' => ∃ h' tk D t, r = .ref D ∧ s' = { s with heap := h', toks := tk } ∧ (∀ b o, s.heap.get? b = some o → h'.get? b = some o) ∧ s.heap.get? D = none ∧ h'.get? D = some { cls := .type "tuple", data := .seq #[.int items.size t, .ref a] }) E s
section
variable {P : Program} {w : World} {K : PySem.W.Frag} {mg : Str → Option Value} {base : Heap}
theorem size_new {x qual tl : Str} {st : Stmt} {f : Addr} {fd : FuncData} {p1 p2 p3 p4 p5 p6 : Pos} {x1} (F : L2.Fun K x qual st f fd) (Mo : Mod K mg base) (hb : Binds K fd [tl] [])
    (hS : (defScope st).kind = .function) (hco : (defScope st).isCoroutine = false) (hge : (defScope st).isGenerator = false) (hl : (defScope st).names.lookup tl = some .local) (htd : (tl == ("__debug__" : Str)) = false)
    (hgi : (defScope st).names.lookup ("len" : Str) = some .globalImplicit) (hmi : mg "len" = none)
    (hbody : defBody st = [.Return (some (.Tuple [.Call (.Name "len" p1) [.Name tl p2] [] p3, .Name tl p4] x1 p5)) p6]) :
    SizeNew P w base f := by
  intro A E s a items hA bk ht hz
  obtain ⟨oc, od, kV, doc, pm, an, cdv, ct, osl, rfl, lk, hcd⟩ := F.ex
  have KX : K.In s.heap := Mo.kin.keeps bk
  have lim : s.heap.NoLimit := Mo.nolimit.keeps bk
  refine wpAny_call (codeAny_mono (R := fun r s' => ∃ v, r = .ok (.ret v) ∧ ∃ h' tk D t, v = .ref D ∧ s' = { s with heap := h', toks := tk } ∧ (∀ b o, s.heap.get? b = some o → h'.get? b = some o) ∧ s.heap.get? D = none ∧ h'.get? D = some { cls := .type "tuple", data := .seq #[.int items.size t, .ref a] }) ?_ fun r s' hr => ?_)
  · refine codeAny_call_function hA (KX _ _ lk) rfl hco hge rfl (PySem.W.codeRec_of KX hcd) ?_
    refine hb s [.ref a] KX rfl _ _ _ _ ?_
    refine wpAny_newFunctionEnv_cells hS (fun y hy => ?_) fun env he s1 xx => ?_
    · have : y = (tl, .ref a) := by simpa using hy
      subst this
      exact .inl hl
    subst he
    refine ⟨lim.keeps xx.toInCall.keep, codeAny_func ?_⟩
    have bk1 : ∀ a o, base.get? a = some o → s1.heap.get? a = some o := fun a o q => xx.toInCall.keep a o (bk a o q)
    have hns := xx.toInCall.ns
    obtain ⟨h1, tk1, hs1⟩ := xx.toInCall.same
    have keep := xx.toInCall.keep
    have ht1 : IsTup s1.heap a items := by
      obtain ⟨o, ho, hc, hd⟩ := ht
      exact ⟨o, keep _ _ ho, hc, hd⟩
    show wpAny _ _ (execs (defBody st) _) _ _ s1
    rw [hbody]
    refine wpAny_execs_cons (wpAny_Return_some (size_low (E := _) Mo bk1 hS rfl rfl hns hl (bindL1 hl) htd hgi hmi ht1 hz (h := fun tk tk2 => ?_)))
    refine ⟨_, rfl, ?_⟩
    subst hs1
    exact ⟨_, _, _, _, rfl, rfl, fun b o q => Heap.get?_push_of_some _ (keep b o q), fresh_in keep, Heap.get?_push_size _ rfl⟩
  · obtain ⟨v, rfl, hk⟩ := hr
    exact hk
end
/-- the place of the first of the least by its size -/
def szLt (p q : List Int) : Bool := dataLt (szOf p) (szOf q)
def minT (p : List Int) (ls : List (List Int)) : List Int := ls.foldl (fun a y => if szLt y a then y else a) p
theorem szOf_nn (p : List Int) : szOf p ≠ PyData.none := fun h => by cases h
theorem sz_alk (p q : List Int) : alike (szOf p) (szOf q) = true := by
  show alikeAll _ _ = true
  rw [alikeAll, alikeAll]
  rw [show alike (PyData.tuple (p.map .int)) (.tuple (q.map .int)) = alikeAll (p.map .int) (q.map .int) from by rw [alike], alike_ints]
  simp [alike, alikeAll]
section
variable {prog : Program} {w : World} {A : Around} {E : Value → Shared → Prop} {s : Shared}
theorem min_list_size {base : Heap} {l f : Addr} {vs : Array Value} {ls : List (List Int)} {d : Value} {Q : Value → Shared → Prop} (hh : A.handled = none) (hdp : A.depth < recursionLimit) (hun : A.units + 10 < cLine) (hl : s.heap.IsList l vs)
    (hbk : ∀ b o, base.get? b = some o → s.heap.get? b = some o) (hf : SizeNew prog w base f)
    (ht : ∀ (i : Nat) (v : Value), vs[i]? = some v → ∃ (a : Addr) (p : List Int) (items : Array Value), v = Value.ref a ∧ ls[i]? = some p ∧ IsTup s.heap a items ∧ items.size = p.length ∧ items.size ≤ sizeLine ∧ ReadsAll s.heap items.toList (p.map .int) [])
    (hn : vs.size = ls.length)
    (h0 : ls = [] → ∀ h' tk, (∀ b o, s.heap.get? b = some o → h'.get? b = some o) → Q d { s with heap := h', toks := tk })
    (h : ∀ (p : List Int) (r : List (List Int)) (i : Nat) v h' tk, ls = p :: r → vs[i]? = some v → ls[i]? = some (minT p r) → (∀ b o, s.heap.get? b = some o → h'.get? b = some o) → Q v { s with heap := h', toks := tk }) :
    wpAny (model prog w) A (call (.builtin "min") [.ref l] [(Str.ofString "key", .ref f), (Str.ofString "default", d)]) Q E s := by
  refine call_min_walkKD (iter_listW (A := A.in1) hh hl fun s₂ e W st hfp hw hk => ?_)
  have hsz : s₂.heap.objs.size = s.heap.objs.size + 1 := by rw [e]; exact Heap.size_push _ _
  have e' : s₂ = { s with heap := s₂.heap, toks := s₂.toks } := by rw [e]
  refine ⟨_, _, _, _, _, _, _, (fun s' => ∃ h' tk, s' = { s with heap := h', toks := tk } ∧ ∀ b o, s.heap.get? b = some o → h'.get? b = some o),
    (fun i k s' => ∃ (p : List Int) (D : Addr) (t : Tok) (a : Addr) (items : Array Value), ls[i]? = some p ∧ k = Value.ref D ∧ D ∉ (s₂.heap.objs.size :: [s.heap.objs.size]) ∧ s'.heap.get? D = some { cls := .type "tuple", data := .seq #[.int items.size t, .ref a] } ∧ IsTup s.heap a items ∧ items.size = p.length ∧ ReadsAll s.heap items.toList (p.map .int) []),
    (fun i j => szLt (ls.getD i []) (ls.getD j [])), rfl, W, st, hfp, ?_, ⟨s₂.heap, s₂.toks, e', hk⟩, fun hz s' hJ => ?_, fun hp v s' hP hJ => ?_⟩
  · constructor
    · rintro s1 s' ⟨h', tk, rfl, k1⟩ hm
      refine ⟨s'.heap, s'.toks, ?_, fun b o q => hm.heap b o (fun hb => ?_) (k1 b o q)⟩
      · obtain ⟨hp, g, dr, tk', os⟩ := s'
        have h1 : g = s.gens := hm.gens
        have h2 : dr = s.drawn := hm.drawn
        have h3 : os = s.os := hm.os
        subst h1
        subst h2
        subst h3
        rfl
      · have := Heap.lt_size q
        rcases List.mem_cons.mp hb with e2 | e2
        · rw [e2, hsz] at this; exact absurd this (Nat.not_lt.mpr (Nat.le_succ _))
        · rw [List.mem_singleton.mp e2] at this; exact absurd this (Nat.lt_irrefl _)
    · rintro i k s1 s' ⟨p, D, t, a, items, h1, h2, h3, h4, h5⟩ hm
      exact ⟨p, D, t, a, items, h1, h2, h3, hm.heap D _ h3 h4, h5⟩
    · rintro i v s1 o Q' E' hi hP ⟨h', tk, rfl, k1⟩ hst hS hQ
      obtain ⟨a, p, items, rfl, hp, htp, hps, hzz, hrd⟩ := ht i v hP
      have htp' : IsTup h' a items := by
        obtain ⟨o, ho, hc, hd⟩ := htp
        exact ⟨o, k1 _ _ ho, hc, hd⟩
      refine wpAny_mono (hf A.in1 (fun _ _ => False) { s with heap := h', toks := tk } a items hdp (fun b o q => k1 b o (hbk b o q)) htp' hzz) (fun r s' hk => ?_) fun _ _ z => z.elim
      obtain ⟨h2, tk2, D, t, rfl, rfl, keep2, hDn, hD⟩ := hk
      refine hQ (.ref D) _ ⟨h2, tk2, rfl, fun b o q => keep2 b o (k1 b o q)⟩ ?_ (keep2 _ _ hS) ⟨p, D, t, a, items, hp, rfl, fun hb => ?_, hD, htp, hps, hrd⟩ ?_
      · obtain ⟨hst1, hst2⟩ := hst
        refine ⟨?_, ?_⟩
        · obtain ⟨o1, g1, g2⟩ := hst1
          exact ⟨o1, keep2 _ _ g1, g2⟩
        · obtain ⟨o1, g1, g2⟩ := hst2
          exact ⟨o1, keep2 _ _ g1, g2⟩
      · rcases List.mem_cons.mp hb with e2 | e2
        · rw [e2] at hDn
          rw [show h'.get? s₂.heap.objs.size = some o from hS] at hDn
          cases hDn
        · rw [List.mem_singleton.mp e2] at hDn
          obtain ⟨⟨o1, g1, g2⟩, _⟩ := hst
          rw [show h'.get? s.heap.objs.size = some o1 from g1] at hDn
          cases hDn
      · rintro j k' ⟨p', D', t', a', it', h1, h2, h3, h4, h5⟩
        exact ⟨p', D', t', a', it', h1, h2, h3, keep2 _ _ h4, h5⟩
    · rintro i j ki kj s1 Q' E' ⟨h', tk, rfl, k1⟩ ⟨p, D, t, a, items, h1, rfl, h3, h4, ⟨o5, g5, c5, n5, d5⟩, h6, h7⟩ ⟨p', D', t', a', items', h1', rfl, h3', h4', ⟨o5', g5', c5', n5', d5'⟩, h6', h7'⟩ hq
      have r1 : Reads h' (.ref D) (szOf p) [] := by
        refine Reads.tuple (as := []) h4 rfl rfl ?_
        show ReadsAll h' [.int items.size t, .ref a] [.int p.length, .tuple (p.map .int)] []
        rw [h6]
        exact ReadsAll.cons (.int _ _) (ReadsAll.cons (as := []) (bs := []) (reads_keeps k1 (.tuple g5 c5 d5 h7)) .nil)
      have r2 : Reads h' (.ref D') (szOf p') [] := by
        refine Reads.tuple (as := []) h4' rfl rfl ?_
        show ReadsAll h' [.int items'.size t', .ref a'] [.int p'.length, .tuple (p'.map .int)] []
        rw [h6']
        exact ReadsAll.cons (.int _ _) (ReadsAll.cons (as := []) (bs := []) (reads_keeps k1 (.tuple g5' c5' d5' h7')) .nil)
      refine rcLt_alike _ _ A.in1 { s with heap := h', toks := tk } (.ref D) (.ref D') _ _ r1 r2 (sz_alk p p') (szOf_nn p) ?_ prog w E' Q' ?_
      · have d1 := sz_depth p
        have := Nat.min_le_left (szOf p).depth (szOf p').depth
        show A.units + 1 + _ < _
        omega
      · have q1 : ls.getD i [] = p := by rw [List.getD_eq_getElem?_getD, h1]; rfl
        have q2 : ls.getD j [] = p' := by rw [List.getD_eq_getElem?_getD, h1']; rfl
        have hq' : Q' (.bool (szLt (ls.getD i []) (ls.getD j []))) _ := hq
        rw [q1, q2] at hq'
        exact hq'
  · obtain ⟨h', tk, rfl, k1⟩ := hJ
    exact h0 (List.eq_nil_of_length_eq_zero (by omega)) h' tk k1
  · obtain ⟨h', tk, rfl, k1⟩ := hJ
    cases ls with
    | nil => exact absurd hp (by rw [hn]; exact Nat.lt_irrefl 0)
    | cons p r =>
      have e1 : vs.size - 1 = r.length := by rw [hn]; rfl
      have e2 := (argBest_fold szLt [] p r r.length (Nat.le_refl _))
      rw [List.take_length] at e2
      rw [e1] at hP
      refine h p r _ v h' tk rfl hP ?_ k1
      have e3 : (p :: r).getD (argBest (fun i j => szLt ((p :: r).getD i []) ((p :: r).getD j [])) r.length) [] = minT p r := e2.2
      rw [List.getD_eq_getElem?_getD] at e3
      have hlt : argBest (fun i j => szLt ((p :: r).getD i []) ((p :: r).getD j [])) r.length < (p :: r).length := Nat.lt_succ_of_le e2.1
      rw [List.getElem?_eq_getElem hlt] at e3 ⊢
      exact congrArg some e3
end
/-! ### min(x, key=f, default=None) -/
def opMinK : List D → List MO → Out D
  | [d], M => match (asL M d).bind tupsOf with
    | some (p :: ls) => .ok (.tup ((minT p ls).map D.int)) M
    | some [] => .ok .non M
    | none => .no
  | _, _ => .no
noncomputable def eMinK (f : EvE) : EvE := fun env M => (f env M).bind fun d M1 => opMinK [d] M1
section
variable {X : Cx}
def rMinK (X : Cx) (f : Addr) : List V → List V → Hp → VK → Prop := fun xs zs H Q => ∃ T A M ls a vs, xs = [V.ref a] ∧ zs = [V.ref f, V.non] ∧ Rel X.K T A M H ∧ SqL X.K H a vs ∧ Reps X.K A H (ls.map fun p => D.tup (p.map D.int)) vs ∧
  (ls = [] → Q .non H) ∧ (∀ p r v, ls = p :: r → Rep X.K A H (.tup ((minT p r).map D.int)) v → Q v H)
theorem each_at {α : Type} {R : Value → α → Prop} : ∀ {us : List Value} {ls : List α}, EachIs R us ls → ∀ (i : Nat) (u : Value), us[i]? = some u → ∃ p, ls[i]? = some p ∧ R u p
  | _, _, .nil, i, u, h => by cases i <;> cases h
  | _, _, .cons q k, 0, u, h => by
    cases h
    exact ⟨_, rfl, q⟩
  | _, _, .cons q k, i + 1, u, h => each_at k i u h
theorem vals_at : ∀ {vs : List V} {us : List Value}, Vals vs us → ∀ (i : Nat) (u : Value), us[i]? = some u → ∃ v, vs[i]? = some v ∧ RelV v u
  | _, _, .nil, i, u, h => by cases i <;> cases h
  | _, _, .cons q k, 0, u, h => by
    cases h
    exact ⟨_, rfl, q⟩
  | _, _, .cons q k, i + 1, u, h => vals_at k i u h
theorem reps_at {K : PySem.W.Frag} {A : Ads} {H : Hp} : ∀ {ds : List D} {vs : List V}, Reps K A H ds vs → ∀ (i : Nat) (v : V), vs[i]? = some v → ∃ d, ds[i]? = some d ∧ Rep K A H d v
  | _, _, .nil, i, u, h => by cases i <;> cases h
  | _, _, .cons q k, 0, u, h => by
    cases h
    exact ⟨_, rfl, q⟩
  | _, _, .cons q k, i + 1, u, h => reps_at k i u h
theorem cr_minK {k : Nat} {f : Addr} (hr : Room k X.A) (hc : X.calm = true) (hf : Mod X.K X.mg X.base → SizeNew X.prog X.w X.base f) : CallRK X (.builtin "min") [Str.ofString "key", Str.ofString "default"] (rMinK X f) := by
  intro pins s σ H xs zs us ws Q I r rz h
  obtain ⟨T, A, M, ls, a, ys, rfl, rfl, R, hs, t, q0, q⟩ := h
  obtain ⟨u, rfl, rx⟩ := vals1 r
  cases rx
  obtain ⟨u2, u3, rfl, rx2, rx3⟩ : ∃ u2 u3, ws = [u2, u3] ∧ RelV (.ref f) u2 ∧ RelV .non u3 := by
    cases rz with
    | cons g1 g2 => cases g2 with
      | cons g3 g4 => cases g4; exact ⟨_, _, rfl, g1, g3⟩
  cases rx2
  obtain ⟨its, rv, pl, hz⟩ := I.list hs
  have e := each_tups t rv
  have hun := hr.units
  have hline := line63
  refine min_list_size (s := s) (vs := its.toArray) (ls := ls) (I.ok.hd hc) (by show X.A.depth < _; have := hr.dp; omega) (by have := hr.un; omega) pl.isList (fun b o q => I.bk b o q) (hf I.mod) (fun i v hv => ?_) (by rw [List.size_toArray]; exact e.length) (fun e0 h' tk k2 => ⟨.non, H, I.kept k2, rx3, q0 e0⟩) fun p r' i v h' tk e1 hv hi k2 => ?_
  · rw [List.getElem?_toArray] at hv
    obtain ⟨p, hp, b, rfl, h1⟩ := each_at e i v hv
    obtain ⟨vals, rvals, pt, hpz⟩ := I.tuple h1.sq
    have hlen : vals.length = p.length := by rw [← rvals.length, List.length_map]
    refine ⟨b, p, vals.toArray, rfl, hp, pt, by rw [List.size_toArray, hlen], ?_, ?_⟩
    · rw [List.size_toArray, hlen]
      rw [List.length_map] at hpz
      exact hpz
    · exact reads_ints rvals
  · rw [List.getElem?_toArray] at hv
    obtain ⟨x, hx, rxv⟩ := vals_at rv i v hv
    obtain ⟨d, hd, rd⟩ := reps_at t i x hx
    rw [List.getElem?_map, hi] at hd
    cases hd
    exact ⟨x, H, I.kept k2, rxv, q p r' x e1 rd⟩
variable {p : Pm} {e : Expr} {f : EvE} {pn pos p2 p3 : Pos}
theorem se_minK {k : Nat} {y : Str} {g : Addr} {kp kp2 : Pos} {j : Nat} (hr : Room k X.A) (hc : X.calm = true) (hg : Gl X "min") (hm : X.mg "min" = none) (hgy : Gl X y) (hmy : X.mg y = some (.ref g)) (hf : Mod X.K X.mg X.base → SizeNew X.prog X.w X.base g) (h : SE X p e f)
    (hyd : (y == ("__debug__" : Str)) = false := by decide) (he1 : starEach [e] X.env = [(false, eval e X.env)] := by rfl)
    (he : backTo pos (starEach [e] X.env) = (false, eval e X.env) :: backTo pos (starEach [] X.env) := by rfl) (hpl : (backTo pos (starEach [e] X.env)).any (·.1) = false := by rfl)
    (hall : (backToKw pos (keywordEach [⟨some (Str.ofString "key"), .Name y p2, kp⟩, ⟨some (Str.ofString "default"), .Constant .none j p3, kp2⟩] X.env)).all (·.1.isSome) = true := by rfl) (hnone : (backToKw pos (keywordEach [⟨some (Str.ofString "key"), .Name y p2, kp⟩, ⟨some (Str.ofString "default"), .Constant .none j p3, kp2⟩] X.env)).any (·.1.isNone) = false := by rfl) (hks : (backToKw pos (keywordEach [⟨some (Str.ofString "key"), .Name y p2, kp⟩, ⟨some (Str.ofString "default"), .Constant .none j p3, kp2⟩] X.env)).filterMap (·.1) = [Str.ofString "key", Str.ofString "default"] := by rfl) :
    SE X p (.Call (.Name "min" pn) [e] [⟨some (Str.ofString "key"), .Name y p2, kp⟩, ⟨some (Str.ofString "default"), .Constant .none j p3, kp2⟩] pos) (eMinK f) := by
  refine pe_imp (pe_callBK (cr_minK hr hc hf) hg hm (mx_boot false) (pa_cons h pa_nil (by rw [he1]; rfl)) (pk_cons (pe_glob hgy hmy (v := .ref g) rfl hyd) (pk_cons pe_non pk_nil)) (he := he) (hpl := hpl) (hall := hall) (hnone := hnone) (hks := hks)) fun σ H Q ⟨A, M, env, R, S, q⟩ => ?_
  refine seqE (exP := Exc X.K p A H) R S (fun _ _ _ _ z => z) q fun d M1 v H1 A1 s1 r1 q1 => ?_
  have q2 : OutR (match (asL M1 d).bind tupsOf with
    | some (p :: ls) => Out.ok (D.tup ((minT p ls).map D.int)) M1
    | some [] => .ok .non M1
    | none => .no) (Fin X.K p.T A H Q) (Exc X.K p A H) := q1
  cases e1 : asL M1 d with
  | none => rw [e1] at q2; exact q2.elim
  | some l =>
    rw [e1, Option.bind_some] at q2
    cases e2 : tupsOf l with
    | none => rw [e2] at q2; exact q2.elim
    | some ls =>
      rw [e2] at q2
      obtain ⟨a', ws, e3, h3, t⟩ := asL_rep s1.rel r1 e1
      subst e3
      rw [tupsOf_eq e2] at t
      refine ⟨p.T, A1, M1, ls, a', ws, rfl, rfl, s1.rel, h3, t, fun e0 => ?_, fun p' r' v e0 rv => ?_⟩
      · subst e0
        exact q2 .non H1 A1 s1 .non
      · subst e0
        exact q2 v H1 A1 s1 rv
end
end SX
end
section
set_option Elab.async false
set_option linter.all false
set_option maxRecDepth 100000
open Classical
/-! SXzn: x[::k], x a list, k 1 or -1. -/
namespace SX
open PySem PySem.Spec PyProof.Rows L2 HT
section
variable {X : Cx}
def stepped {α : Type} (i : Int) (l : List α) : List α := if i = 1 then l else l.reverse
def rStepI (K : PySem.W.Frag) (x : V) (i : Int) (H : Hp) (Q : VK) : Prop := ∃ a xs, x = .ref a ∧ (i = 1 ∨ i = -1) ∧ SqL K H a xs ∧ ∀ p, H p = none → Q (.ref p) (upd H p (.lst (stepped i xs)))
def rStep (K : PySem.W.Frag) : R2 := fun x y H Q => ∃ i, y = .int i ∧ rStepI K x i H Q
theorem pick_one (items : Array Value) : slicePick items none none (some 1) = items.toList.toArray := by
  have e : slicePick items none none (some 1) = slicePick items none none none := rfl
  rw [e, show items = items.toList.toArray from by simp, slicePick_cut]
  congr 1
  rw [HT.sIx_none, HT.sIx_none, List.drop_zero, Nat.sub_zero, List.take_of_length_le (Nat.le_refl _)]
theorem pick_step {i : Int} (h : i = 1 ∨ i = -1) (its : List Value) : slicePick its.toArray none none (some i) = (stepped i its).toArray := by
  rcases h with rfl | rfl
  · rw [pick_one]
    rfl
  · rw [PySem.W.krv_pick]
    rfl
theorem stepped_len {α : Type} (i : Int) (l : List α) : (stepped i l).length = l.length := by
  unfold stepped
  split
  · rfl
  · exact List.length_reverse
theorem stepped_vals {i : Int} {xs : List V} {its : List Value} (r : Vals xs its) : Vals (stepped i xs) (stepped i its) := by
  unfold stepped
  split
  · exact r
  · exact r.reverse
theorem stepped_reps {K : PySem.W.Frag} {A : Ads} {H : Hp} {i : Int} {ds : List D} {vs : List V} (t : Reps K A H ds vs) : Reps K A H (stepped i ds) (stepped i vs) := by
  unfold stepped
  split
  · exact t
  · exact t.reverse
theorem pe_step {e st : Expr} {te ts : TE} {p3 pos : Pos} (he : PE X e te) (hs : PE X st ts)
    (hsub : ∀ u v : Value, subscripted (.Slice none none (some st) p3) false u v = operate [u, v] (getItem u v) := by intros; with_unfolding_all rfl) : PE X (.Subscript e (.Slice none none (some st) p3) pos) (tOp (rStep X.K) te ts) := by
  refine ⟨fun pins s σ H Q I h => ?_⟩
  refine Subscript_ (thn (he.run pins s σ H _ I h) fun v s1 ⟨x, H1, I1, r1, q1⟩ => ?_)
  refine wpAny_Slice (thn (po_none.run pins s1 σ H1 (fun o H2 => o = none ∧ H2 = H1) I1 ⟨rfl, rfl⟩) fun vl s2 ⟨l, H2, I2, pl, el, e2⟩ => ?_)
  subst el e2
  refine thn (po_none.run pins s2 σ H2 (fun o H3 => o = none ∧ H3 = H2) I2 ⟨rfl, rfl⟩) fun vu s3 ⟨u, H3, I3, pu, eu, e3⟩ => ?_
  subst eu e3
  refine thn ((po_some hs).run pins s3 σ H3 (fun o H4 => match o with | some i => rStepI X.K x i H4 Q | none => False) I3 q1) fun vs s4 ⟨o, H4, I4, ps, eo⟩ => ?_
  cases o with
  | none => exact eo.elim
  | some i =>
    obtain ⟨a, xs, ex, hi, hx, q⟩ := (show rStepI X.K x i H4 Q from eo)
    subst ex
    cases r1
    have I5 : Inv X pins σ H4 { s4 with heap := s4.heap.push { cls := .type "slice", data := .fields #[vl, vu, vs] } } := I4.kept (t' := s4.toks) fun b ob q => Heap.get?_push_of_some _ q
    show wpAny (model X.prog X.w) X.A (subscriptTail e (.Slice none none (some st) p3) (.ref a) (.ref s4.heap.objs.size)) (EP X pins σ Q) X.xe { s4 with heap := s4.heap.push { cls := .type "slice", data := .fields #[vl, vu, vs] } }
    obtain ⟨its, r, ht, hz⟩ := I5.list hx
    have hlen := r.length
    refine tail_any (ops := [.ref a, .ref s4.heap.objs.size]) ht.isList.typeIs (PySem.slot_list_getitem.lookup) ?_ (hsub _ _)
    refine wpAny_getItem_list_slice ht.isList (Heap.IsSliceOf.new _ vl vu vs) pl pu ps (by rcases hi with rfl | rfl <;> decide) ?_ (by rw [List.size_toArray]; omega)
    rw [pick_step hi]
    refine ⟨.ref _, _, I5.laid (t' := s4.toks) (o := .lst (stepped i xs)) (fun b ob q => Heap.get?_push_of_some _ q) (Nat.le_refl _) ?_, rfl, q _ (I5.hok.fresh (Nat.le_refl _))⟩
    exact ⟨by rw [stepped_len]; exact hz, _, 0, stepped_vals r, Heap.get?_push_size _ rfl⟩
end
noncomputable def opStep (mk : Mk) : D → D → List MO → Out D
  | d, .int i, M => match asL M d with
    | some l => if i = 1 ∨ i = -1 then mk (stepped i l) M else .no
    | none => .no
  | _, _, _ => .no
section
variable {X : Cx} {p : Pm} {a b e : Expr} {f g : EvE} {p3 pos : Pos}
theorem se_step (mk : Mk) (hk : MkOk mk) (ha : SE X p a f) (hb : SE X p b g)
    (hsub : ∀ u v : Value, subscripted (.Slice none none (some b) p3) false u v = operate [u, v] (getItem u v) := by intros; with_unfolding_all rfl) : SE X p (.Subscript a (.Slice none none (some b) p3) pos) (eBin (opStep mk) f g) :=
  se_bin (r := rStep X.K) (fun ta tb h1 h2 => pe_step h1 h2 hsub) (fun T A M H x y v w Q R rx ry h => by
    unfold opStep at h
    split at h
    · rename_i i
      cases ry
      split at h
      · rename_i l e1
        split at h
        · rename_i hi
          obtain ⟨a', vs, e2, h2, t⟩ := asL_rep R rx e1
          exact ⟨i, rfl, a', vs, e2, hi, h2, fun q hq => hk.run _ _ _ _ _ _ _ _ _ R hq (stepped_reps t) h⟩
        · exact h.elim
      · exact h.elim
    · exact h.elim) (fun x y M c d e M' q => by
      unfold opStep at q
      split at q
      · split at q
        · split at q
          · exact hk.calm _ _ _ _ _ _ q
          · cases q
        · cases q
      · cases q) ha hb
end
/-! ### f() -/
def g0 {α : Type} (us _ws : List α) : List α := us
theorem kb_none {K : PySem.W.Frag} {fd : FuncData} (b : Binds K fd [] []) : KB K fd [] [] g0 g0 g0 := by
  refine ⟨⟨fun s us ws hk hl => ?_, fun r _ => r⟩, fun r _ => r⟩
  cases us with
  | nil => exact b s [] hk rfl
  | cons u us => exact absurd hl (Nat.succ_ne_zero _)
section
variable {X : Cx} {p : Pm} {f : Addr} {fd : FuncData} {F : Fn} {k : Nat} {x : Str} {pn pos : Pos}
theorem se_call0 (Fk : FOk X.prog X.w X.K X.mg X.base p.T p.cl k f fd [] F) (hr : Room k X.A) (hg : Gl X x) (hm : X.mg x = some (.ref f)) (hk : PySem.W.keepIn X.K (.ref f) = true) (hb : Binds X.K fd [] []) (tk : Takes X p.W)
    (hdb : (x == ("__debug__" : Str)) = false := by decide)
    (hpl : ((backTo pos (starEach [] X.env)).any (·.1) || (backToKw pos (keywordEach [] X.env)).any (·.1.isNone)) = false := by rfl) :
    SE X p (.Call (.Name x pn) [] [] pos) (eCallK F g0 0 esNil esNil) :=
  se_callK0 (kws := []) Fk hr hg hm hk (kb_none hb) tk sk_nil (hdb := hdb) (hpl := hpl)
end
end SX
end
section
set_option Elab.async false
set_option linter.all false
set_option maxRecDepth 100000
set_option maxHeartbeats 1000000
open Classical
/-! SXzm: zip of two lists whose pairs are kept by a name. -/
namespace SX
open PySem PySem.Spec PyProof.Rows L2 HT
/-- a zip, whatever it knows of the pair that it gave last -/
abbrev Zp (h : Heap) (z TI TO : Addr) (f0 : Value) (f : Bool) : Prop := h.get? z = some { cls := .type "zip", dict := none, data := .fields #[f0, .bool f, .bool false, .ref TI, .ref TO], slots := #[] }
/-- the pair that it gave last is gone -/
def Gone (h : Heap) (f0 : Value) : Prop := f0 = .none ∨ ∃ T : Addr, f0 = rawInt T ∧ h.get? T = none
section
variable {prog : Program} {w : World} {A : Around} {E : Value → Shared → Prop} {s : Shared}
theorem look_gone {T : Addr} {Q : Option Obj → Shared → Prop} (ho : s.heap.get? T = none) (q : Q none s) : wpAny (model prog w) A (loadIfAlive T) Q E s := by
  have q' : Q (s.heap.get? T) s := by rw [ho]; exact q
  exact fun _ _ _ => q'
theorem free_gone {z TI TO : Addr} {f0 : Value} {f : Bool} {Q : Bool → Shared → Prop} (zs : Zp s.heap z TI TO f0 f) (g : Gone s.heap f0) (q : Q true s) : wpAny (model prog w) A (Builtin.SmallTypes.ownedTupleIsFree (.ref z)) Q E s := by
  unfold Builtin.SmallTypes.ownedTupleIsFree
  rcases g with rfl | ⟨T, rfl, dead⟩
  · exact wpAny_bind (wpAny_field zs rfl (x := .none) rfl (wpAny_pure q))
  · refine wpAny_bind (wpAny_field zs rfl (x := rawInt T) rfl ?_)
    show wpAny _ _ (loadIfAlive ((T : Int).toNat) >>= _) _ _ _
    rw [Int.toNat_natCast]
    exact wpAny_bind (look_gone dead (wpAny_pure q))
theorem zpN_item {z TI TO i1 i2 l1 l2 : Addr} {k1 k2 : Nat} {xs ys : Array Value} {x y a b f0 : Value} {f : Bool} {Q : Value → Shared → Prop} (D : ZipApart z TI TO i1 i2 l1 l2)
    (zs : Zp s.heap z TI TO f0 f) (g : Gone s.heap f0) (tI : IsPair s.heap TI (.ref i1) (.ref i2)) (tO : IsPair s.heap TO a b)
    (j1 : s.heap.IsListIter i1 l1 k1) (j2 : s.heap.IsListIter i2 l2 k2) (m1 : s.heap.IsList l1 xs) (m2 : s.heap.IsList l2 ys) (hx : xs[k1]? = some x) (hy : ys[k2]? = some y)
    (hQ : ∀ h', Zp h' z TI TO (rawInt s.heap.objs.size) false → IsPair h' TO x y → h'.IsListIter i1 l1 (k1 + 1) → h'.IsListIter i2 l2 (k2 + 1) → IsPair h' s.heap.objs.size x y → h'.objs.size = s.heap.objs.size + 1 →
      (∀ c o, c ≠ z → c ≠ TO → c ≠ i1 → c ≠ i2 → s.heap.get? c = some o → h'.get? c = some o) → Q (.ref s.heap.objs.size) { s with heap := h' }) :
    wpAny (model prog w) A (Builtin.«zip.__next__» ⟨[.ref z], []⟩) (fun fin s' => ∃ v, fin = .done (.ret v) ∧ Q v s') E s := by
  show wpAny _ _ (field (.ref z) 2 >>= _) _ _ _
  refine wpAny_bind (wpAny_field zs rfl (x := .bool false) rfl ?_)
  show wpAny _ _ (field (.ref z) 3 >>= _) _ _ _
  refine wpAny_bind (wpAny_field zs rfl (x := .ref TI) rfl ?_)
  refine wpAny_bind (wpAny_seqItems tI rfl ?_)
  show wpAny _ _ (Builtin.SmallTypes.ownedTupleIsFree (.ref z) >>= _) _ _ _
  refine wpAny_bind (free_gone zs g ?_)
  simp only [if_true]
  refine wpAny_bind (wpAny_rule ?_)
  refine wpAny_bind (wpAny_field zs rfl (x := .ref TO) rfl ?_)
  refine wpAny_bind (wpAny_setField_rec zs (by simp) fun g1 z1 c1 => ?_)
  replace z1 : Zp g1 z TI TO .ellipsis f := z1
  refine wpAny_bind ?_
  simp only [List.zipIdx_cons, List.zipIdx_nil, List.forIn_cons, List.forIn_nil]
  refine wpAny_bind (wpAny_bind (wpAny_onRaise ?_))
  show wpAny _ _ (Builtin.SmallTypes.nextOf (.ref i1) >>= _) _ _ _
  refine wpAny_bind (wpAny_nextOf_list_item (j1.extBut c1.extBut D.i1z) (m1.extBut c1.extBut D.l1z) hx fun g2 n1 c2 => wpAny_pure ?_)
  have o2 : IsPair g2 TO a b := c2.extBut _ _ D.TOi1 (c1.extBut _ _ D.TOz tO)
  refine wpAny_bind (wpAny_seqItems o2 rfl ?_)
  refine wpAny_bind (wpAny_updateSeq_pair o2 fun g3 o3 c3 => ?_)
  replace o3 : IsPair g3 TO x b := o3
  refine wpAny_bind (wpAny_letGo (wpAny_pure ?_))
  refine wpAny_bind (wpAny_bind (wpAny_onRaise ?_))
  show wpAny _ _ (Builtin.SmallTypes.nextOf (.ref i2) >>= _) _ _ _
  refine wpAny_bind (wpAny_nextOf_list_item (((j2.extBut c1.extBut D.i2z).extBut c2.extBut D.i12.symm).extBut c3.extBut D.TOi2.symm) (((m2.extBut c1.extBut D.l2z).extBut c2.extBut D.l2i1).extBut c3.extBut D.l2TO) hy fun g4 n2 c4 => wpAny_pure ?_)
  have o4 : IsPair g4 TO x b := c4.extBut _ _ D.TOi2 o3
  refine wpAny_bind (wpAny_seqItems o4 rfl ?_)
  refine wpAny_bind (wpAny_updateSeq_pair o4 fun g5 o5 c5 => ?_)
  replace o5 : IsPair g5 TO x y := o5
  refine wpAny_bind (wpAny_letGo (wpAny_pure (wpAny_pure ?_)))
  refine wpAny_bind (wpAny_seqItems o5 rfl ?_)
  refine wpAny_bind (wpAny_newTuple ?_)
  have esz : g5.objs.size = s.heap.objs.size := by rw [c5.1, c4.1, c3.1, c2.1, c1.1]
  have z5 : Zp g5 z TI TO .ellipsis f := c5.extBut _ _ D.TOz.symm (c4.extBut _ _ D.i2z.symm (c3.extBut _ _ D.TOz.symm (c2.extBut _ _ D.i1z.symm z1)))
  have keep5 : ∀ c o, c ≠ z → c ≠ TO → c ≠ i1 → c ≠ i2 → s.heap.get? c = some o → g5.get? c = some o := fun c o q1 q2 q3 q4 e => c5.extBut _ _ q2 (c4.extBut _ _ q4 (c3.extBut _ _ q2 (c2.extBut _ _ q3 (c1.extBut _ _ q1 e))))
  have p1 : g5.IsListIter i1 l1 (k1 + 1) := ((n1.extBut c3.extBut D.TOi1.symm).extBut c4.extBut D.i12).extBut c5.extBut D.TOi1.symm
  have p2 : g5.IsListIter i2 l2 (k2 + 1) := n2.extBut c5.extBut D.TOi2.symm
  have zlt : z < g5.objs.size := Heap.lt_size z5
  show wpAny _ _ (Builtin.SmallTypes.ownedTupleHandOut (.ref z) (.ref g5.objs.size) >>= _) _ _ _
  refine wpAny_bind ?_
  unfold Builtin.SmallTypes.ownedTupleHandOut
  have z6 : Zp (g5.push { cls := .type "tuple", data := .seq #[x, y] }) z TI TO .ellipsis f := Heap.get?_push_of_some _ z5
  refine wpAny_bind (wpAny_setField_rec z6 (by simp) fun g7 z7 c7 => ?_)
  replace z7 : Zp g7 z TI TO (rawInt g5.objs.size) f := z7
  refine wpAny_setField_rec z7 (by simp) fun g8 z8 c8 => ?_
  replace z8 : Zp g8 z TI TO (rawInt g5.objs.size) false := z8
  have up : ∀ c o, c ≠ z → g5.get? c = some o → g8.get? c = some o := fun c o q1 e => c8.extBut _ _ q1 (c7.extBut _ _ q1 (Heap.get?_push_of_some _ e))
  have t8 : IsPair g8 g5.objs.size x y := c8.extBut _ _ (Nat.ne_of_gt zlt) (c7.extBut _ _ (Nat.ne_of_gt zlt) (Heap.get?_push_size _ rfl))
  have e8 : g8.objs.size = g5.objs.size + 1 := by rw [c8.1, c7.1, Heap.size_push]
  rw [esz] at z8 t8 e8
  refine wpAny_pure ⟨_, rfl, ?_⟩
  show Q (.ref g5.objs.size) _
  rw [esz]
  exact hQ g8 z8 (up _ _ D.TOz o5) (p1.at fun o e => up _ o D.i1z e) (p2.at fun o e => up _ o D.i2z e) t8 e8 fun c o q1 q2 q3 q4 e => up c o q1 (keep5 c o q1 q2 q3 q4 e)
theorem zpN_end {z TI TO i1 i2 l1 l2 : Addr} {k1 k2 : Nat} {xs ys : Array Value} {a b f0 : Value} {f : Bool} {Q : PySem.Fin → Shared → Prop} (hh : A.handled = none) (D : ZipApart z TI TO i1 i2 l1 l2)
    (zs : Zp s.heap z TI TO f0 f) (g : Gone s.heap f0) (tI : IsPair s.heap TI (.ref i1) (.ref i2)) (tO : IsPair s.heap TO a b)
    (j1 : s.heap.IsListIter i1 l1 k1) (j2 : s.heap.IsListIter i2 l2 k2) (m1 : s.heap.IsList l1 xs) (m2 : s.heap.IsList l2 ys) (hend : xs[k1]? = none ∨ ys[k2]? = none)
    (hE : ∀ h' e, (∀ c o, c ≠ z → c ≠ TO → c ≠ i1 → c ≠ i2 → s.heap.get? c = some o → h'.get? c = some o) → (∃ o, h'.get? e = some o ∧ o.cls = .type "StopIteration") → E (.ref e) { s with heap := h' }) :
    wpAny (model prog w) A (Builtin.«zip.__next__» ⟨[.ref z], []⟩) Q E s := by
  show wpAny _ _ (field (.ref z) 2 >>= _) _ _ _
  refine wpAny_bind (wpAny_field zs rfl (x := .bool false) rfl ?_)
  show wpAny _ _ (field (.ref z) 3 >>= _) _ _ _
  refine wpAny_bind (wpAny_field zs rfl (x := .ref TI) rfl ?_)
  refine wpAny_bind (wpAny_seqItems tI rfl ?_)
  show wpAny _ _ (Builtin.SmallTypes.ownedTupleIsFree (.ref z) >>= _) _ _ _
  refine wpAny_bind (free_gone zs g ?_)
  simp only [if_true]
  refine wpAny_bind (wpAny_rule ?_)
  refine wpAny_bind (wpAny_field zs rfl (x := .ref TO) rfl ?_)
  refine wpAny_bind (wpAny_setField_rec zs (by simp) fun g1 z1 c1 => ?_)
  replace z1 : Zp g1 z TI TO .ellipsis f := z1
  refine wpAny_bind ?_
  simp only [List.zipIdx_cons, List.zipIdx_nil, List.forIn_cons, List.forIn_nil]
  refine wpAny_bind (wpAny_bind (wpAny_onRaise ?_))
  show wpAny _ _ (Builtin.SmallTypes.nextOf (.ref i1) >>= _) _ _ _
  cases hx : xs[k1]? with
  | none =>
    refine wpAny_bind (wpAny_nextOf_list_end hh (j1.extBut c1.extBut D.i1z) (m1.extBut c1.extBut D.l1z) hx fun g2 e c2 he => ?_)
    obtain ⟨oe, hoe, hce⟩ := he
    have z2 : Zp g2 z TI TO .ellipsis f := c2 _ _ D.i1z.symm z1
    have hez : e ≠ z := fun x => by subst x; rw [z2] at hoe; cases hoe; simp at hce
    exact wpAny_setField_rec z2 (by simp) fun g3 _ c3 => hE g3 e (fun c o q1 _ q3 _ x => c3.extBut _ _ q1 (c2 _ _ q3 (c1.extBut _ _ q1 x))) ⟨oe, c3.extBut _ _ hez hoe, hce⟩
  | some x =>
    have hy : ys[k2]? = none := by rcases hend with q | q; rw [hx] at q; cases q; exact q
    refine wpAny_bind (wpAny_nextOf_list_item (j1.extBut c1.extBut D.i1z) (m1.extBut c1.extBut D.l1z) hx fun g2 n1 c2 => wpAny_pure ?_)
    have o2 : IsPair g2 TO a b := c2.extBut _ _ D.TOi1 (c1.extBut _ _ D.TOz tO)
    refine wpAny_bind (wpAny_seqItems o2 rfl ?_)
    refine wpAny_bind (wpAny_updateSeq_pair o2 fun g3 o3 c3 => ?_)
    refine wpAny_bind (wpAny_letGo (wpAny_pure ?_))
    refine wpAny_bind (wpAny_bind (wpAny_onRaise ?_))
    show wpAny _ _ (Builtin.SmallTypes.nextOf (.ref i2) >>= _) _ _ _
    refine wpAny_bind (wpAny_nextOf_list_end hh (((j2.extBut c1.extBut D.i2z).extBut c2.extBut D.i12.symm).extBut c3.extBut D.TOi2.symm) (((m2.extBut c1.extBut D.l2z).extBut c2.extBut D.l2i1).extBut c3.extBut D.l2TO) hy fun g4 e c4 he => ?_)
    obtain ⟨oe, hoe, hce⟩ := he
    have z4 : Zp g4 z TI TO .ellipsis f := c4 _ _ D.i2z.symm (c3.extBut _ _ D.TOz.symm (c2.extBut _ _ D.i1z.symm z1))
    have hez : e ≠ z := fun x => by subst x; rw [z4] at hoe; cases hoe; simp at hce
    exact wpAny_setField_rec z4 (by simp) fun g5 _ c5 => hE g5 e (fun c o q1 q2 q3 q4 x => c5.extBut _ _ q1 (c4 _ _ q4 (c3.extBut _ _ q2 (c2.extBut _ _ q3 (c1.extBut _ _ q1 x))))) ⟨oe, c5.extBut _ _ hez hoe, hce⟩
theorem nxN_item {z TI TO i1 i2 l1 l2 : Addr} {k1 k2 : Nat} {xs ys : Array Value} {x y a b f0 : Value} {f : Bool} {Q : Option Value → Shared → Prop} (D : ZipApart z TI TO i1 i2 l1 l2)
    (zs : Zp s.heap z TI TO f0 f) (g : Gone s.heap f0) (tI : IsPair s.heap TI (.ref i1) (.ref i2)) (tO : IsPair s.heap TO a b)
    (j1 : s.heap.IsListIter i1 l1 k1) (j2 : s.heap.IsListIter i2 l2 k2) (m1 : s.heap.IsList l1 xs) (m2 : s.heap.IsList l2 ys) (hx : xs[k1]? = some x) (hy : ys[k2]? = some y)
    (hQ : ∀ h', Zp h' z TI TO (rawInt s.heap.objs.size) false → IsPair h' TO x y → h'.IsListIter i1 l1 (k1 + 1) → h'.IsListIter i2 l2 (k2 + 1) → IsPair h' s.heap.objs.size x y → h'.objs.size = s.heap.objs.size + 1 →
      (∀ c o, c ≠ z → c ≠ TO → c ≠ i1 → c ≠ i2 → s.heap.get? c = some o → h'.get? c = some o) → Q (some (.ref s.heap.objs.size)) { s with heap := h' }) :
    wpAny (model prog w) A (pyNext (.ref z)) Q E s := by
  have ty : s.TypeIs (.ref z) "zip" := ⟨_, zs, rfl⟩
  unfold pyNext
  exact wpAny_bind (wpAny_attempt (wpAny_callSpecial?_slot (name := Str.ofString "__next__") ty F.slot_zip_next (wpAny_call_entry F.slot_zip_next ty F.entry_zip_next
    (zpN_item D zs g tI tO j1 j2 m1 m2 hx hy fun h' a1 a2 a3 a4 a5 a6 a7 => wpAny_pure (hQ h' a1 a2 a3 a4 a5 a6 a7)) (F.args_zip_next_1 _))))
theorem nxN_end {z TI TO i1 i2 l1 l2 : Addr} {k1 k2 : Nat} {xs ys : Array Value} {a b f0 : Value} {f : Bool} {Q : Option Value → Shared → Prop} (hh : A.handled = none) (D : ZipApart z TI TO i1 i2 l1 l2)
    (zs : Zp s.heap z TI TO f0 f) (g : Gone s.heap f0) (tI : IsPair s.heap TI (.ref i1) (.ref i2)) (tO : IsPair s.heap TO a b)
    (j1 : s.heap.IsListIter i1 l1 k1) (j2 : s.heap.IsListIter i2 l2 k2) (m1 : s.heap.IsList l1 xs) (m2 : s.heap.IsList l2 ys) (hend : xs[k1]? = none ∨ ys[k2]? = none)
    (hQ : ∀ h', (∀ c o, c ≠ z → c ≠ TO → c ≠ i1 → c ≠ i2 → s.heap.get? c = some o → h'.get? c = some o) → Q none { s with heap := h' }) : wpAny (model prog w) A (pyNext (.ref z)) Q E s := by
  have ty : s.TypeIs (.ref z) "zip" := ⟨_, zs, rfl⟩
  unfold pyNext
  refine wpAny_bind (wpAny_attempt (wpAny_callSpecial?_slot (name := Str.ofString "__next__") ty F.slot_zip_next (wpAny_call_entry F.slot_zip_next ty F.entry_zip_next
    (zpN_end hh D zs g tI tO j1 j2 m1 m2 hend fun h' e hk he => ?_) (F.args_zip_next_1 _))))
  obtain ⟨o, ho, hc⟩ := he
  refine wpAny_bind (wpAny_isInstance (T := "StopIteration") (b := true) ⟨o, ho, hc⟩ isSubtype_stop ?_)
  exact wpAny_pure (hQ _ hk)
theorem iterN {z TI TO : Addr} {f0 : Value} {f : Bool} {Q : Value → Shared → Prop} (zs : Zp s.heap z TI TO f0 f) (h : Q (.ref z) s) : wpAny (model prog w) A (pyIter (.ref z)) Q E s := by
  have ty : s.TypeIs (.ref z) "zip" := ⟨_, zs, rfl⟩
  refine wpAny_pyIter_slot ty F.slot_zip_iter (wpAny_call_entry F.slot_zip_iter ty F.entry_zip_iter ?_ (F.args_zip_iter_1 _))
  show wpAny _ _ (ret (.ref z)) _ _ s
  exact wpAny_pure ⟨_, rfl, "zip", _, ty, F.slot_zip_next.lookup, h⟩
end
end SX
end
section
set_option Elab.async false
set_option linter.all false
set_option maxRecDepth 100000
set_option maxHeartbeats 1000000
open Classical
/-! SXzl: for p in zip(x, y) of two lists; for a, b in zip(x, t) of a list and a tuple; a pair walked. -/
namespace SX
open PySem PySem.Spec PyProof.Rows L2 HT
theorem not_gone {h : Heap} {f0 : Value} (hf : f0 = .none ∨ ∃ T : Addr, f0 = rawInt T) (g : ¬ Gone h f0) : ∃ T : Addr, f0 = rawInt T ∧ ∃ o, h.get? T = some o := by
  rcases hf with e | ⟨T, e⟩
  · exact absurd (.inl e) g
  · cases q : h.get? T with
    | none => exact absurd (.inr ⟨T, e, q⟩) g
    | some o => exact ⟨T, e, o, q⟩
theorem turnN {P : Program} {w : World} {K : PySem.W.Frag} {nm : Str} {tpos : Pos} {a b z TI TO i1 i2 : Addr} (D : ZipApart z TI TO i1 i2 a b) :
    Turn P w K (.Name nm tpos) (Itz K a b) [z, TI, TO, i1, i2] z (fun i h => (∃ f0 f, Zp h z TI TO f0 f ∧ (f0 = .none ∨ ∃ T : Addr, f0 = rawInt T)) ∧ IsPair h TI (.ref i1) (.ref i2) ∧ (∃ x y, IsPair h TO x y) ∧ h.IsListIter i1 a i ∧ h.IsListIter i2 b i) where
  mem := by simp
  obj := fun i h st c hc => by
    obtain ⟨⟨f0, f, zs, _⟩, tI, ⟨x, y, tO⟩, ⟨o1, e1, _, d1⟩, ⟨o2, e2, _, d2⟩⟩ := st
    have e' : c = z ∨ c = TI ∨ c = TO ∨ c = i1 ∨ c = i2 := by simpa using hc
    rcases e' with q | q | q | q | q
    · rw [q]; exact ⟨_, zs, fun v q => nomatch q⟩
    · rw [q]; exact ⟨_, tI, fun v q => nomatch q⟩
    · rw [q]; exact ⟨_, tO, fun v q => nomatch q⟩
    · rw [q]; exact ⟨o1, e1, fun v q => by rw [d1] at q; cases q⟩
    · rw [q]; exact ⟨o2, e2, fun v q => by rw [d2] at q; cases q⟩
  keep := fun i h h' st k => by
    obtain ⟨⟨f0, f, zs, hf⟩, tI, ⟨x, y, tO⟩, h1, h2⟩ := st
    exact ⟨⟨f0, f, k z (by simp) _ zs, hf⟩, k TI (by simp) _ tI, ⟨x, y, k TO (by simp) _ tO⟩, h1.at fun o q => k i1 (by simp) o q, h2.at fun o q => k i2 (by simp) o q⟩
  item := by
    intro X hP hw hK hc i pins s σ H E I hf st hg
    subst hP hw hK
    obtain ⟨⟨f0, f, zs, hf0⟩, tI, ⟨x0, y0, tO⟩, h1, h2⟩ := st
    obtain ⟨xs, ys, x, y, hqx, hqy, hx, hy⟩ := hg
    obtain ⟨its, rv, p, _⟩ := I.list hqx
    obtain ⟨its2, rv2, p2, _⟩ := I.list hqy
    obtain ⟨u, hu, ru⟩ := rv.get hx
    obtain ⟨u2, hu2, ru2⟩ := rv2.get hy
    have fin : ∀ (h' : Heap) (f0' : Value) (f' : Bool), Zp h' z TI TO f0' f' → (f0' = .none ∨ ∃ T : Addr, f0' = rawInt T) → (∃ x y, IsPair h' TO x y) → h'.IsListIter i1 a (i + 1) → h'.IsListIter i2 b (i + 1) → IsPair h' s.heap.objs.size u u2 →
        (∀ c o, c ≠ z → c ≠ TO → c ≠ i1 → c ≠ i2 → s.heap.get? c = some o → h'.get? c = some o) →
        ∃ v, some (Value.ref s.heap.objs.size) = some v ∧ wpAny (model X.prog X.w) X.A (letOwnedTupleGo (.Name nm tpos) (.ref z) v) (fun _ s2 => ∃ x H', Inv X pins σ H' s2 ∧ RelV x v ∧ (Itz X.K a b).yld i H x H' ∧ ((∃ f0 f, Zp s2.heap z TI TO f0 f ∧ (f0 = .none ∨ ∃ T : Addr, f0 = rawInt T)) ∧ IsPair s2.heap TI (.ref i1) (.ref i2) ∧ (∃ x y, IsPair s2.heap TO x y) ∧ s2.heap.IsListIter i1 a (i + 1) ∧ s2.heap.IsListIter i2 b (i + 1)) ∧ ∀ c ∈ [z, TI, TO, i1, i2], H' c = none) E { s with heap := h' } := by
      intro h' f0' f' z' g' tO' j1 j2 hT hk
      have new : ObjOk X.prog X.w (upd H s.heap.objs.size (.tup [x, y])) h' s.heap.objs.size (.tup [x, y]) := ⟨by show 2 ≤ sizeLine; decide, [u, u2], .cons ru (.cons ru2 .nil), ⟨_, hT, rfl, _, rfl⟩⟩
      have I1 : Inv X pins σ (upd H s.heap.objs.size (.tup [x, y])) { s with heap := h' } :=
        I.turnedNew (t' := s.toks) (ch := [z, TI, TO, i1, i2]) (fun c o hb q => hk c o (fun q' => hb (by simp [q'])) (fun q' => hb (by simp [q'])) (fun q' => hb (by simp [q'])) (fun q' => hb (by simp [q'])) q) hf (Nat.le_refl _) new
      refine ⟨_, rfl, ?_⟩
      unfold letOwnedTupleGo
      refine wpAny_pure ⟨.ref s.heap.objs.size, _, I1, rfl, ⟨_, x, y, rfl, I.hok.fresh (Nat.le_refl _), rfl, fun l hl => by rw [I.list_inj hl hqx]; exact hx, fun l hl => by rw [I.list_inj hl hqy]; exact hy⟩, ⟨⟨f0', f', z', g'⟩, hk _ _ D.TIz D.TITO D.TIi1 D.TIi2 tI, tO', j1, j2⟩, fun c hcm => ?_⟩
      have hlt : c < s.heap.objs.size := by
        have e' : c = z ∨ c = TI ∨ c = TO ∨ c = i1 ∨ c = i2 := by simpa using hcm
        rcases e' with q | q | q | q | q
        · rw [q]; exact Heap.lt_size zs
        · rw [q]; exact Heap.lt_size tI
        · rw [q]; exact Heap.lt_size tO
        · rw [q]; obtain ⟨_, e1, _⟩ := h1; exact Heap.lt_size e1
        · rw [q]; obtain ⟨_, e2, _⟩ := h2; exact Heap.lt_size e2
      rw [upd_ne (Nat.ne_of_lt hlt)]
      exact (hf c hcm).1
    by_cases g : Gone s.heap f0
    · exact nxN_item D zs g tI tO h1 h2 p.isList p2.isList (x := u) (y := u2) (by simpa using hu) (by simpa using hu2) fun h' z' tO' j1 j2 hT hsz hk => fin h' _ false z' (.inr ⟨_, rfl⟩) ⟨_, _, tO'⟩ j1 j2 hT hk
    · obtain ⟨T, rfl, oT, e⟩ := not_gone hf0 g
      exact wpAny_pyNext_zip_item_held D zs e tI h1 h2 p.isList p2.isList (x := u) (y := u2) (by simpa using hu) (by simpa using hu2) fun h' z' j1 j2 hT hsz hk =>
        fin h' _ true z' (.inr ⟨_, rfl⟩) ⟨_, _, hk _ _ D.TOz D.TOi1 D.TOi2 tO⟩ j1 j2 hT fun c o c1 _ c3 c4 q => hk c o c1 c3 c4 q
  done := by
    intro X hP hw hK hc i pins s σ H E I hf st hg
    subst hP hw hK
    obtain ⟨⟨f0, f, zs, hf0⟩, tI, ⟨x0, y0, tO⟩, h1, h2⟩ := st
    obtain ⟨xs, ys, hqx, hqy, hend⟩ := hg
    obtain ⟨its, rv, p, _⟩ := I.list hqx
    obtain ⟨its2, rv2, p2, _⟩ := I.list hqy
    have l1 := rv.length
    have l2 := rv2.length
    have he : its.toArray[i]? = none ∨ its2.toArray[i]? = none := by
      rcases hend with q | q
      · exact .inl (by simp; omega)
      · exact .inr (by simp; omega)
    by_cases g : Gone s.heap f0
    · exact nxN_end (I.ok.hd hc) D zs g tI tO h1 h2 p.isList p2.isList he fun h' hk => ⟨rfl, I.turnedL (t' := s.toks) (ch := [z, TI, TO, i1, i2]) (fun c o hb q =>
        hk c o (fun q' => hb (by simp [q'])) (fun q' => hb (by simp [q'])) (fun q' => hb (by simp [q'])) (fun q' => hb (by simp [q'])) q) hf⟩
    · obtain ⟨T, rfl, oT, e⟩ := not_gone hf0 g
      exact wpAny_pyNext_zip_end_held (I.ok.hd hc) D zs e tI h1 h2 p.isList p2.isList he fun h' hk => ⟨rfl, I.turnedL (t' := s.toks) (ch := [z, TI, TO, i1, i2]) (fun c o hb q =>
        hk c o (fun q' => hb (by simp [q'])) (fun q' => hb (by simp [q'])) (fun q' => hb (by simp [q'])) q) hf⟩
  self := fun A i s Q E st h => by
    obtain ⟨⟨f0, f, zs, _⟩, _⟩ := st
    exact iterN zs h
/-- a list and a tuple side by side -/
def ItzM (K : PySem.W.Frag) (a b : Addr) : It :=
  ⟨fun i H => ∃ (xs ys : List V) (x y : V), SqL K H a xs ∧ SqT K H b ys ∧ xs[i]? = some x ∧ ys[i]? = some y,
    fun i H v H' => ∃ T x y, v = .ref T ∧ H T = none ∧ H' = upd H T (.tup [x, y]) ∧ (∀ xs, SqL K H a xs → xs[i]? = some x) ∧ ∀ ys, SqT K H b ys → ys[i]? = some y,
    fun i H => ∃ xs ys : List V, SqL K H a xs ∧ SqT K H b ys ∧ i = min xs.length ys.length⟩
theorem turnM {P : Program} {w : World} {K : PySem.W.Frag} {elts : List Expr} {kk : Nat} {tpos : Pos} {a b z TI TO i1 i2 : Addr} (S : ZipSep2 z TI TO i1 i2 [i1, a] [i2, b]) :
    Turn P w K (.Tuple elts kk tpos) (ItzM K a b) [z, TI, TO, i1, i2] z (fun i h => IsZip h z TI TO .none ∧ IsPair h TI (.ref i1) (.ref i2) ∧ (∃ x y, IsPair h TO x y) ∧ h.IsListIter i1 a i ∧ h.IsTupleIter i2 b i) where
  mem := by simp
  obj := fun i h st c hc => by
    obtain ⟨zs, tI, ⟨x, y, tO⟩, ⟨o1, e1, _, d1⟩, ⟨o2, e2, _, d2⟩⟩ := st
    have e' : c = z ∨ c = TI ∨ c = TO ∨ c = i1 ∨ c = i2 := by simpa using hc
    rcases e' with q | q | q | q | q
    · rw [q]; exact ⟨_, zs, fun v q => nomatch q⟩
    · rw [q]; exact ⟨_, tI, fun v q => nomatch q⟩
    · rw [q]; exact ⟨_, tO, fun v q => nomatch q⟩
    · rw [q]; exact ⟨o1, e1, fun v q => by rw [d1] at q; cases q⟩
    · rw [q]; exact ⟨o2, e2, fun v q => by rw [d2] at q; cases q⟩
  keep := fun i h h' st k => by
    obtain ⟨zs, tI, ⟨x, y, tO⟩, h1, h2⟩ := st
    exact ⟨k z (by simp) _ zs, k TI (by simp) _ tI, ⟨x, y, k TO (by simp) _ tO⟩, h1.at fun o q => k i1 (by simp) o q, h2.at fun o q => k i2 (by simp) o q⟩
  item := by
    intro X hP hw hK hc i pins s σ H E I hf st hg
    subst hP hw hK
    obtain ⟨zs, tI, ⟨x0, y0, tO⟩, h1, h2⟩ := st
    obtain ⟨xs, ys, x, y, hqx, hqy, hx, hy⟩ := hg
    obtain ⟨its, rv, p, _⟩ := I.list hqx
    obtain ⟨its2, rv2, p2, _⟩ := I.tuple hqy
    obtain ⟨u, hu, ru⟩ := rv.get hx
    obtain ⟨u2, hu2, ru2⟩ := rv2.get hy
    have i1i : i < its.toArray.size := by have := (List.getElem?_eq_some_iff.mp hu).1; simpa using this
    have i2i : i < its2.toArray.size := by have := (List.getElem?_eq_some_iff.mp hu2).1; simpa using this
    have ha1 : a ≠ i1 := fun q => by
      obtain ⟨o1, g1, c1, _⟩ := p.isList
      obtain ⟨o2, g2, c2, _⟩ := h1
      rw [q, g2] at g1
      cases g1
      rw [c2] at c1
      exact absurd (Value.type.inj c1) (by decide)
    have hb2 : b ≠ i2 := fun q => by
      obtain ⟨o1, g1, c1, _⟩ := p2
      obtain ⟨o2, g2, c2, _⟩ := h2
      rw [q, g2] at g1
      cases g1
      rw [c2] at c1
      exact absurd (Value.type.inj c1) (by decide)
    have zl : z < s.heap.objs.size := Heap.lt_size zs
    refine wpAny_pyNext_zipD2_item S (Draws.list (A := X.A.in1) (I.ok.hd hc) i1 a ha1 its.toArray) (Draws.tuple (A := X.A.in1) (I.ok.hd hc) i2 b hb2 its2.toArray) zs tI tO ⟨h1, p.isList⟩ ⟨h2, p2⟩ i1i i2i fun x1 x2 h' tk q1 q2 z' tO' s1 s2 hT hsz hk => ?_
    have q1' : its[i]? = some x1 := by simpa using q1
    have q2' : its2[i]? = some x2 := by simpa using q2
    rw [hu] at q1'
    rw [hu2] at q2'
    cases q1'
    cases q2'
    refine ⟨_, rfl, wpAny_letOwnedTupleGo_zip (s := { s with heap := h', toks := tk }) z' fun h'' z'' sb => ?_⟩
    have hT2 : h''.get? s.heap.objs.size = some { cls := .type "tuple", data := .seq #[u, u2] } := (sb.2 _ (Nat.ne_of_gt zl)).trans hT
    have new : ObjOk X.prog X.w (upd H s.heap.objs.size (.tup [x, y])) h'' s.heap.objs.size (.tup [x, y]) := ⟨by show 2 ≤ sizeLine; decide, [u, u2], .cons ru (.cons ru2 .nil), ⟨_, hT2, rfl, _, rfl⟩⟩
    have I1 : Inv X pins σ (upd H s.heap.objs.size (.tup [x, y])) { s with heap := h'', toks := tk } :=
      I.turnedNew (t' := tk) (ch := [z, TI, TO, i1, i2]) (fun c o hb q => (sb.2 c (fun q' => hb (by simp [q']))).trans (hk c o (fun q' => hb (by simp [q'])) (fun q' => hb (by simp [q'])) (fun q' => hb (by simp [q'])) (fun q' => hb (by simp [q'])) q)) hf (Nat.le_refl _) new
    refine ⟨.ref s.heap.objs.size, _, I1, rfl, ⟨_, x, y, rfl, I.hok.fresh (Nat.le_refl _), rfl, fun l hl => by rw [I.list_inj hl hqx]; exact hx, fun l hl => by rw [I.tuple_inj hl hqy]; exact hy⟩, ⟨z'', ?_, ⟨u, u2, ?_⟩, ?_, ?_⟩, fun c hcm => ?_⟩
    · exact (sb.2 _ S.TIz).trans (hk _ _ S.TIz S.TITO S.TIi1 S.TIi2 tI)
    · exact (sb.2 _ S.TOz).trans tO'
    · exact s1.1.at fun o q => (sb.2 _ (Ne.symm S.zi1)).trans q
    · exact s2.1.at fun o q => (sb.2 _ (Ne.symm S.zi2)).trans q
    · have hlt : c < s.heap.objs.size := by
        have e' : c = z ∨ c = TI ∨ c = TO ∨ c = i1 ∨ c = i2 := by simpa using hcm
        rcases e' with q | q | q | q | q
        · rw [q]; exact zl
        · rw [q]; exact Heap.lt_size tI
        · rw [q]; exact Heap.lt_size tO
        · rw [q]; obtain ⟨_, e1, _⟩ := h1; exact Heap.lt_size e1
        · rw [q]; obtain ⟨_, e2, _⟩ := h2; exact Heap.lt_size e2
      rw [upd_ne (Nat.ne_of_lt hlt)]
      exact (hf c hcm).1
  done := by
    intro X hP hw hK hc i pins s σ H E I hf st hg
    subst hP hw hK
    obtain ⟨zs, tI, ⟨x0, y0, tO⟩, h1, h2⟩ := st
    obtain ⟨xs, ys, hqx, hqy, hend⟩ := hg
    obtain ⟨its, rv, p, _⟩ := I.list hqx
    obtain ⟨its2, rv2, p2, _⟩ := I.tuple hqy
    have l1 := rv.length
    have l2 := rv2.length
    have ha1 : a ≠ i1 := fun q => by
      obtain ⟨o1, g1, c1, _⟩ := p.isList
      obtain ⟨o2, g2, c2, _⟩ := h1
      rw [q, g2] at g1
      cases g1
      rw [c2] at c1
      exact absurd (Value.type.inj c1) (by decide)
    have hb2 : b ≠ i2 := fun q => by
      obtain ⟨o1, g1, c1, _⟩ := p2
      obtain ⟨o2, g2, c2, _⟩ := h2
      rw [q, g2] at g1
      cases g1
      rw [c2] at c1
      exact absurd (Value.type.inj c1) (by decide)
    exact wpAny_pyNext_zipD2_end S (Draws.list (A := X.A.in1) (I.ok.hd hc) i1 a ha1 its.toArray) (Draws.tuple (A := X.A.in1) (I.ok.hd hc) i2 b hb2 its2.toArray) zs tI tO ⟨h1, p.isList⟩ ⟨h2, p2⟩ (by rw [List.size_toArray]; omega) (by rw [List.size_toArray]; omega) (by rw [List.size_toArray, List.size_toArray]; omega) fun h' tk hk => ⟨rfl, I.turnedL (t' := tk) (ch := [z, TI, TO, i1, i2]) (fun c o hb q =>
      hk c o (fun q' => hb (by simp [q'])) (fun q' => hb (by simp [q'])) (fun q' => hb (by simp [q'])) (fun q' => hb (by simp [q'])) q) hf⟩
  self := fun A i s Q E st h => wpAny_pyIter_zip st.1 h
theorem new5 {X : Cx} {pins : List (Addr × Obj)} {σ : L2.St} {H : Hp} {s : Shared} (I : Inv X pins σ H s) : ∀ c, c ∈ [s.heap.objs.size + 4, s.heap.objs.size + 2, s.heap.objs.size + 3, s.heap.objs.size, s.heap.objs.size + 1] → FpOk X pins H c := fun c hcm => by
  have e' : c = s.heap.objs.size + 4 ∨ c = s.heap.objs.size + 2 ∨ c = s.heap.objs.size + 3 ∨ c = s.heap.objs.size ∨ c = s.heap.objs.size + 1 := by simpa using hcm
  have hle : s.heap.objs.size ≤ c := by
    rcases e' with z | z | z | z | z
    · rw [z]; exact Nat.le_add_right _ _
    · rw [z]; exact Nat.le_add_right _ _
    · rw [z]; exact Nat.le_add_right _ _
    · rw [z]; exact Nat.le_refl _
    · rw [z]; exact Nat.le_add_right _ _
  exact I.fpOk hle (I.hok.fresh hle)
def iZipN (K : PySem.W.Frag) (ta : TA) : TI := fun σ H R => ta σ H fun vs H1 => ∃ a b xs ys, vs = [.ref a, .ref b] ∧ SqL K H1 a xs ∧ SqL K H1 b ys ∧ R (Itz K a b) H1
def iZipM (K : PySem.W.Frag) (ta : TA) : TI := fun σ H R => ta σ H fun vs H1 => ∃ a b xs ys, vs = [.ref a, .ref b] ∧ SqL K H1 a xs ∧ SqT K H1 b ys ∧ R (ItzM K a b) H1
section
variable {X : Cx} {e e2 : Expr} {ta : TA} {p pos tpos : Pos} {elts : List Expr} {kk : Nat} {nm : Str}
theorem pi_zipN (hg : Gl X "zip") (hm : X.mg "zip" = none) (ha : PA X [e, e2] ta)
    (hs : starEach [e, e2] X.env = (false, eval e X.env) :: starEach [e2] X.env := by rfl) (hpl : (backTo pos (starEach [e2] X.env)).any (·.1) = false := by rfl) :
    PI X (.Name nm tpos) (.Call (.Name "zip" p) [e, e2] [] pos) (iZipN X.K ta) := by
  refine ⟨fun pins s σ H R I h => ?_⟩
  refine Call_ (ld_blt I hg hm PyProof.Rows.boot_zip (PyProof.Rows.callWith_type1 (thn (ha.run pos pins s σ H _ I h) fun us s1 ⟨vs, H1, I1, r1, q1⟩ => ?_) hs hpl))
  obtain ⟨a, b, xs, ys, ex, hqx, hqy, q⟩ := q1
  subst ex
  obtain ⟨u, u2, rfl, r, r2⟩ : ∃ u u2, us = [u, u2] ∧ RelV (.ref a) u ∧ RelV (.ref b) u2 := by
    cases r1 with
    | cons g1 g2 => cases g2 with
      | cons g3 g4 => cases g4; exact ⟨_, _, rfl, g1, g3⟩
  cases r
  cases r2
  obtain ⟨its, rv, p1, _⟩ := I1.list hqx
  obtain ⟨its2, rv2, p2, _⟩ := I1.list hqy
  refine call_zip_2 p1.isList p2.isList fun h' hz hTI hTO h1 h2 hsz hk => wpAny_pyIter_zip hz ?_
  have I2 : Inv X pins σ H1 { s1 with heap := h' } := I1.kept (t' := s1.toks) hk
  exact ⟨s1.heap.objs.size + 4, [s1.heap.objs.size + 4, s1.heap.objs.size + 2, s1.heap.objs.size + 3, s1.heap.objs.size, s1.heap.objs.size + 1], _, _, H1, rfl, I2, turnN (PySem.W.ktu_apart s1.heap.objs.size a b p1.lt p2.lt), ⟨⟨_, _, hz, .inl rfl⟩, hTI, ⟨_, _, hTO⟩, h1, h2⟩, new5 I1, q⟩
theorem pi_zipM (hg : Gl X "zip") (hm : X.mg "zip" = none) (ha : PA X [e, e2] ta)
    (hs : starEach [e, e2] X.env = (false, eval e X.env) :: starEach [e2] X.env := by rfl) (hpl : (backTo pos (starEach [e2] X.env)).any (·.1) = false := by rfl) :
    PI X (.Tuple elts kk tpos) (.Call (.Name "zip" p) [e, e2] [] pos) (iZipM X.K ta) := by
  refine ⟨fun pins s σ H R I h => ?_⟩
  refine Call_ (ld_blt I hg hm PyProof.Rows.boot_zip (PyProof.Rows.callWith_type1 (thn (ha.run pos pins s σ H _ I h) fun us s1 ⟨vs, H1, I1, r1, q1⟩ => ?_) hs hpl))
  obtain ⟨a, b, xs, ys, ex, hqx, hqy, q⟩ := q1
  subst ex
  obtain ⟨u, u2, rfl, r, r2⟩ : ∃ u u2, us = [u, u2] ∧ RelV (.ref a) u ∧ RelV (.ref b) u2 := by
    cases r1 with
    | cons g1 g2 => cases g2 with
      | cons g3 g4 => cases g4; exact ⟨_, _, rfl, g1, g3⟩
  cases r
  cases r2
  obtain ⟨its, rv, p1, _⟩ := I1.list hqx
  obtain ⟨its2, rv2, p2, _⟩ := I1.tuple hqy
  obtain ⟨o2, ho2, _⟩ := id p2
  refine zip_begins2 (begins_list a its.toArray) (begins_tuple b its2.toArray) p1.isList p2 fun h' hz hTI hTO h1 h2 hsz hk => wpAny_pyIter_zip hz ?_
  have I2 : Inv X pins σ H1 { s1 with heap := h' } := I1.kept (t' := s1.toks) hk
  exact ⟨s1.heap.objs.size + 4, [s1.heap.objs.size + 4, s1.heap.objs.size + 2, s1.heap.objs.size + 3, s1.heap.objs.size, s1.heap.objs.size + 1], _, _, H1, rfl, I2, turnM (zip_sep2 (fun c hc => by rw [List.mem_singleton.mp hc]; exact p1.lt) (fun c hc => by rw [List.mem_singleton.mp hc]; exact Heap.lt_size ho2)), ⟨hz, hTI, ⟨_, _, hTO⟩, ⟨_, h1, rfl, rfl⟩, ⟨_, h2, rfl, rfl⟩⟩, new5 I1, q⟩
end
/-! ### the readings -/
section
variable {K : PySem.W.Frag} {T : List Addr} {A0 : Ads} {M0 : List MO} {H0 : Hp} {a b : Addr} {l m : List D}
theorem itOk_zipN (st1 : ∀ A M H, Stp K T A0 H0 A M H → ∃ ws, SqL K H a ws ∧ Reps K A H l ws) (st2 : ∀ A M H, Stp K T A0 H0 A M H → ∃ ws, SqL K H b ws ∧ Reps K A H m ws) : ItOk K T (Itz K a b) A0 H0 ⟨zipD l m, fun _ => True⟩ where
  go := fun A M H s _ i d hd => by
    obtain ⟨x, y, hx, hy, e⟩ := zipD_at hd
    subst e
    obtain ⟨vs, k1, t1⟩ := st1 A M H s
    obtain ⟨ws, k2, t2⟩ := st2 A M H s
    obtain ⟨v, hv, r⟩ := t1.get hx
    obtain ⟨w, hw, r2⟩ := t2.get hy
    refine ⟨⟨vs, ws, v, w, k1, k2, hv, hw⟩, fun z H' ⟨Tt, x', y', e1, hT, e2, y1, y2⟩ => ?_⟩
    have z1 := y1 vs k1
    have z2 := y2 ws k2
    rw [hv] at z1
    rw [hw] at z2
    cases z1
    cases z2
    subst e1
    subst e2
    have sl : Stp K T A H A M (upd H Tt (.tup [v, w])) := .lay s.rel hT
    exact ⟨sl, .pr (.of upd_same) (.cons (r.stp s.rel sl) (.cons (r2.stp s.rel sl) .nil))⟩
  stop := fun A M H s _ => by
    obtain ⟨vs, k1, t1⟩ := st1 A M H s
    obtain ⟨ws, k2, t2⟩ := st2 A M H s
    refine ⟨vs, ws, k1, k2, ?_⟩
    have e : (zipD l m).length = min vs.length ws.length := by unfold zipD; rw [List.length_map, List.length_zip, t1.length, t2.length]
    rw [e]
    omega
theorem itOk_zipM (st1 : ∀ A M H, Stp K T A0 H0 A M H → ∃ ws, SqL K H a ws ∧ Reps K A H l ws) (st2 : ∀ A M H, Stp K T A0 H0 A M H → ∃ ws, SqT K H b ws ∧ Reps K A H m ws) : ItOk K T (ItzM K a b) A0 H0 ⟨zipD l m, fun _ => True⟩ where
  go := fun A M H s _ i d hd => by
    obtain ⟨x, y, hx, hy, e⟩ := zipD_at hd
    subst e
    obtain ⟨vs, k1, t1⟩ := st1 A M H s
    obtain ⟨ws, k2, t2⟩ := st2 A M H s
    obtain ⟨v, hv, r⟩ := t1.get hx
    obtain ⟨w, hw, r2⟩ := t2.get hy
    refine ⟨⟨vs, ws, v, w, k1, k2, hv, hw⟩, fun z H' ⟨Tt, x', y', e1, hT, e2, y1, y2⟩ => ?_⟩
    have z1 := y1 vs k1
    have z2 := y2 ws k2
    rw [hv] at z1
    rw [hw] at z2
    cases z1
    cases z2
    subst e1
    subst e2
    have sl : Stp K T A H A M (upd H Tt (.tup [v, w])) := .lay s.rel hT
    exact ⟨sl, .pr (.of upd_same) (.cons (r.stp s.rel sl) (.cons (r2.stp s.rel sl) .nil))⟩
  stop := fun A M H s _ => by
    obtain ⟨vs, k1, t1⟩ := st1 A M H s
    obtain ⟨ws, k2, t2⟩ := st2 A M H s
    refine ⟨vs, ws, k1, k2, ?_⟩
    show (zipD l m).length = _
    unfold zipD
    rw [List.length_map, List.length_zip, t1.length, t2.length]
end
def iZipLL (fs : EvEs) : EvI := fun env M => (fs env M).bind fun ds M1 => match ds with
  | [.lst xs, .lst ys] => .ok ⟨zipD xs ys, fun _ => True⟩ M1
  | _ => .no
def iZipLT (fs : EvEs) : EvI := fun env M => (fs env M).bind fun ds M1 => match ds with
  | [.lst xs, .tup ys] => .ok ⟨zipD xs ys, fun _ => True⟩ M1
  | _ => .no
def iPr (f : EvE) : EvI := fun env M => (f env M).bind fun d M1 => match d with
  | .pr l => .ok ⟨l, fun _ => True⟩ M1
  | _ => .no
section
variable {X : Cx} {p : Pm} {a b tg : Expr} {f : EvE} {fs : EvEs} {pn pos tpos : Pos} {nm : Str} {elts : List Expr} {kk : Nat}
theorem si_zipN (hg : Gl X "zip") (hm : X.mg "zip" = none) (ha : SA X p [a, b] fs) (hn : Cnt fs 2)
    (hs : starEach [a, b] X.env = (false, eval a X.env) :: starEach [b] X.env := by rfl) (hpl : (backTo pos (starEach [b] X.env)).any (·.1) = false := by rfl) : SI X p (.Name nm tpos) (.Call (.Name "zip" pn) [a, b] [] pos) (iZipLL fs) :=
  pi_imp (pi_zipN hg hm ha hs hpl) fun σ H Q ⟨A, M, env, R, S, q⟩ => ⟨A, M, env, R, S, (OutR.of_bind q).imp (fun ds M1 e q1 vs H1 A1 s1 r1 => by
    have hl := hn _ _ _ _ e
    match ds, hl with
    | [d, d2], _ =>
      obtain ⟨v, w, e1, r, r2⟩ := reps2 r1
      subst e1
      cases d with
      | lst xs =>
        cases d2 with
        | lst ys =>
          cases r with
          | lst h hn' t =>
            cases r2 with
            | lst h2 hn2 t2 =>
              exact ⟨_, _, _, _, rfl, .of h, .of h2, q1 _ H1 A1 s1 (itOk_zipN (fun A M H s => ⟨_, .of (s.mv.lst s1.rel h hn'), t.stp s1.rel s⟩) fun A M H s => ⟨_, .of (s.mv.lst s1.rel h2 hn2), t2.stp s1.rel s⟩)⟩
        | _ => exact q1.elim
      | _ => exact q1.elim) fun _ _ _ _ _ z => z⟩
theorem si_zipM (hg : Gl X "zip") (hm : X.mg "zip" = none) (ha : SA X p [a, b] fs) (hn : Cnt fs 2)
    (hs : starEach [a, b] X.env = (false, eval a X.env) :: starEach [b] X.env := by rfl) (hpl : (backTo pos (starEach [b] X.env)).any (·.1) = false := by rfl) : SI X p (.Tuple elts kk tpos) (.Call (.Name "zip" pn) [a, b] [] pos) (iZipLT fs) :=
  pi_imp (pi_zipM hg hm ha hs hpl) fun σ H Q ⟨A, M, env, R, S, q⟩ => ⟨A, M, env, R, S, (OutR.of_bind q).imp (fun ds M1 e q1 vs H1 A1 s1 r1 => by
    have hl := hn _ _ _ _ e
    match ds, hl with
    | [d, d2], _ =>
      obtain ⟨v, w, e1, r, r2⟩ := reps2 r1
      subst e1
      cases d with
      | lst xs =>
        cases d2 with
        | tup ys =>
          cases r with
          | lst h hn' t =>
            obtain ⟨b', ws, e2, h2, t2⟩ := rep_tup r2
            subst e2
            exact ⟨_, _, _, _, rfl, .of h, h2, q1 _ H1 A1 s1 (itOk_zipM (fun A M H s => ⟨_, .of (s.mv.lst s1.rel h hn'), t.stp s1.rel s⟩) fun A M H s => ⟨_, s.mv.sqT s1.rel h2, t2.stp s1.rel s⟩)⟩
        | _ => exact q1.elim
      | _ => exact q1.elim) fun _ _ _ _ _ z => z⟩
theorem si_pr (ha : SE X p a f) : SI X p tg a (iPr f) := pi_imp (pi_any ha) fun σ H Q ⟨A, M, env, R, S, q⟩ => seqE R S (fun _ _ _ _ z => z) q fun d M1 v H1 A1 s1 r1 q1 => by
  cases d with
  | pr l =>
    obtain ⟨a', vs, e1, h1, t⟩ := rep_pr r1
    exact ⟨a', e1, .inr ⟨⟨vs, h1⟩, q1 _ H1 A1 s1 (itOk_tup s1.rel h1 t)⟩⟩
  | _ => exact q1.elim
end
end SX
end
section
set_option Elab.async false
set_option linter.all false
set_option maxRecDepth 100000
open Classical
/-! SXA1: ** of greater bases, abs, list.pop, x += e of a name, tables of the top by texts. -/
namespace SX
open PySem PySem.Spec PyProof.Rows L2 PySem.W PySem.Calls
/-! ### ** -/
def CPowW (i j : Int) : Prop := 0 ≤ j ∧ ((i.natAbs.log2 + 1 : Nat) : Int) * j ≤ 2 ^ 27
theorem bits_le (x : Int) : Builtin.Int.intBits x ≤ x.natAbs.log2 + 1 := by
  unfold Builtin.Int.intBits
  split <;> omega
theorem op_powW {X : Cx} : OpR X (binaryOp .Pow) (L2.rI CPowW fun i j => .int (i ^ j.toNat)) := L2.opI fun i j _ _ _ _ _ hc q => pow_int hc.1 (Int.le_trans (Int.mul_le_mul_of_nonneg_right (by have := bits_le i; omega) hc.1) hc.2) q
section
variable {X : Cx} {p : Pm} {a b e o : Expr} {es : List Expr} {f g : EvE} {fs gs : EvEs} {pn pos apos cpos : Pos}
noncomputable abbrev ePowW := eBin (opIC CPowW (fun i j => i ^ j.toNat))
theorem se_powW (ha : SE X p a f) (hb : SE X p b g) : SE X p (.BinOp a .Pow b pos) (ePowW f g) := se_bin (fun ta tb h1 h2 => pe_op op_powW h1 h2) opIC_ok opIC_calm ha hb
/-! ### * -/
def CMulX (i j : Int) : Prop := i.natAbs.log2 + j.natAbs.log2 ≤ 134217000
theorem op_mulX {X : Cx} : OpR X (binaryOp .Mult) (L2.rI CMulX fun i j => .int (i * j)) := L2.opI fun i j _ _ _ _ _ hc q => mul_int q (by
  have hc : i.natAbs.log2 + j.natAbs.log2 ≤ 134217000 := hc
  exact IntMulOk.of_le (bits_le i) (bits_le j) (by omega))
section
variable {X : Cx} {p : Pm} {a b : Expr} {f g : EvE} {pos : Pos}
noncomputable abbrev eMulX := eBin (opIC CMulX (· * ·))
theorem se_mulX (ha : SE X p a f) (hb : SE X p b g) : SE X p (.BinOp a .Mult b pos) (eMulX f g) := se_bin (fun ta tb h1 h2 => pe_op op_mulX h1 h2) opIC_ok opIC_calm ha hb
end
theorem mulX_int {i j : Int} (M : List MO) (h : CMulX i j) : opIC CMulX (· * ·) (.int i) (.int j) M = .ok (.int (i * j)) M := if_pos h
theorem log2_le {x : Int} {k : Nat} (h1 : -(2 ^ k : Int) < x) (h2 : x < 2 ^ k) : x.natAbs.log2 ≤ k := by
  by_cases h : x.natAbs = 0
  · rw [h]; exact Nat.zero_le _
  · have h3 : x.natAbs < 2 ^ k := by
      have : (x.natAbs : Int) < ((2 ^ k : Nat) : Int) := by
        rw [Int.natCast_pow]
        show (x.natAbs : Int) < 2 ^ k
        omega
      omega
    exact Nat.le_of_lt ((Nat.log2_lt h).mpr h3)
theorem cmulX {i j : Int} (a b : Nat) (h1 : -(2 ^ a : Int) < i) (h2 : i < 2 ^ a) (h3 : -(2 ^ b : Int) < j) (h4 : j < 2 ^ b) (h : a + b ≤ 134217000 := by decide) : CMulX i j := by
  have x := log2_le h1 h2
  have y := log2_le h3 h4
  unfold CMulX
  omega
theorem cpowW {i j : Int} (a : Nat) (h1 : -(2 ^ a : Int) < i) (h2 : i < 2 ^ a) (h0 : 0 ≤ j) (h : ((a + 1 : Nat) : Int) * j ≤ 2 ^ 27) : CPowW i j := by
  have x := log2_le h1 h2
  exact ⟨h0, Int.le_trans (Int.mul_le_mul_of_nonneg_right (by omega) h0) h⟩
theorem bits_log {z : Int} {n : Nat} (h : Builtin.Int.intBits z ≤ n) : z.natAbs.log2 ≤ n := by
  unfold Builtin.Int.intBits at h
  split at h
  · rename_i e
    have : z.natAbs = 0 := by simpa using e
    rw [this]; exact Nat.zero_le _
  · omega
/-! ### abs -/
def opAbs : List D → List MO → Out D
  | [.int i], M => .ok (.int (if i < 0 then -i else i)) M
  | _, _ => .no
theorem opAbs_calm : CalmC opAbs := by intro xs M c d e M' q; unfold opAbs at q; split at q <;> cases q
theorem se_abs (hg : Gl X "abs") (hm : X.mg "abs" = none) (h : SA X p (e :: es) fs) (he : starEach (e :: es) X.env = (false, eval e X.env) :: starEach es X.env := by rfl) (hpl : (backTo pos (starEach es X.env)).any (·.1) = false := by rfl) :
    SE X p (.Call (.Name "abs" pn) (e :: es) [] pos) (eB opAbs fs) :=
  se_b (fun t ht => pe_callB call_abs hg hm PyProof.Rows.boot_abs ht (he := he) (hpl := hpl)) (fun T A M H xs vs Q R r h => by
    unfold opAbs at h
    split at h
    · obtain ⟨v, e, r'⟩ := reps1 r
      subst e
      exact ⟨_, by rw [rep_int r'], h _ H A (.refl R) (.int _)⟩
    · exact h.elim) opAbs_calm h
/-! ### list.pop -/
noncomputable def opPop : D → List D → List MO → Out D
  | .ref n, [], M => match M[n]? with
    | some (.lst l) => match l[l.length - 1]? with
      | some y => .ok y (M.set n (.lst l.dropLast))
      | none => .no
    | _ => .no
  | _, _, _ => .no
theorem opPop_inv {d : D} {M : List MO} {p : D → List MO → Prop} {x : Nat → D → Env → List MO → Prop} (h : OutR (opPop d [] M) p x) : ∃ n l y, d = .ref n ∧ M[n]? = some (.lst l) ∧ l[l.length - 1]? = some y ∧ p y (M.set n (.lst l.dropLast)) := by
  cases d with
  | ref n =>
    unfold opPop at h
    dsimp only at h
    cases hm : M[n]? with
    | none => rw [hm] at h; exact h.elim
    | some o =>
      rw [hm] at h
      cases o with
      | lst l =>
        dsimp only at h
        cases hy : l[l.length - 1]? with
        | none => rw [hy] at h; exact h.elim
        | some y =>
          rw [hy] at h
          exact ⟨n, l, y, rfl, hm, hy, h⟩
      | _ => exact h.elim
  | _ => exact h.elim
theorem se_pop (ho : SE X p o f) (hbase : attributeBase o "pop" X.env (eval o X.env) = eval o X.env := by rfl) (hline : (apos.endLine == cpos.line) = true := by rfl) :
    SE X p (.Call (.Attribute o "pop" apos) [] [] cpos) (eM0 opPop f) :=
  pe_imp (pe_bm0 PySem.F.plainAttrs_list PySem.F.slot_list_pop PySem.F.type_list_pop mt_pop ho hbase hline) fun σ H Q ⟨A, M, env, R, S, q⟩ => seqE R S (fun _ _ _ _ z => z) q fun d M1 v H1 A1 s1 r1 q1 => by
    obtain ⟨hl, q1⟩ := ifO q1
    cases e1 : asL M1 d with
    | none => rw [e1] at hl; cases hl
    | some l =>
      obtain ⟨a', vs, e2, h2, t⟩ := asL_rep s1.rel r1 e1
      refine ⟨?_, ?_⟩
      · subst e2
        exact .inl ⟨rfl, vs, h2⟩
      · obtain ⟨n, l', y, rfl, hm, hy, q1⟩ := opPop_inv q1
        obtain ⟨b, e3, hb, ws, h3, t3⟩ := s1.rel.ref r1 hm (fun z => by cases z)
        obtain ⟨w, hw, rw'⟩ := t3.get hy
        refine ⟨b, ws, w, e3, rfl, h3, by rw [← t3.length]; exact hw, ?_⟩
        have s2 : Stp X.K p.T A1 H1 A1 (M1.set n (.lst l'.dropLast)) (upd H1 b (.lst ws.dropLast)) := Stp.setO s1.rel hb fun m => ⟨_, upd_same, (t3.mv s1.rel m).dropLast⟩
        exact Fin.stp (p := p) s1 q1 _ _ _ s2 (rw'.stp s1.rel s2)
noncomputable def opPopAt : D → List D → List MO → Out D
  | .ref n, [.int i], M => match M[n]? with
    | some (.lst l) => if 0 ≤ i ∧ i < 2 ^ 63 then (match l[i.toNat]? with
      | some y => .ok y (M.set n (.lst (l.eraseIdx i.toNat)))
      | none => .no) else .no
    | _ => .no
  | _, _, _ => .no
theorem Reps.eraseIdx {K : PySem.W.Frag} {A : Ads} {H : Hp} : ∀ {ds : List D} {vs : List V} (n : Nat), Reps K A H ds vs → Reps K A H (ds.eraseIdx n) (vs.eraseIdx n)
  | _, _, _, .nil => .nil
  | _, _, 0, .cons _ t => t
  | _, _, n + 1, .cons r t => .cons r (Reps.eraseIdx n t)
theorem se_popAt (ho : SE X p o f) (ha : SA X p (e :: es) fs) (hbase : attributeBase o "pop" X.env (eval o X.env) = eval o X.env := by rfl)
    (hfew : ((backTo cpos (starEach (e :: es) X.env)).all (fun x => !x.1) && (backToKw cpos (keywordEach [] X.env)).all (fun x => x.1.isSome)
      && decide ((e :: es).length + ([] : List Keyword).length + (if ([] : List Keyword).isEmpty then 0 else 1) < 30)) = true := by rfl)
    (hline : (apos.endLine == cpos.line) = true := by rfl) (hs : starEach (e :: es) X.env = (false, eval e X.env) :: starEach es X.env := by rfl) (hplain : (backTo cpos (starEach es X.env)).any (·.1) = false := by rfl) :
    SE X p (.Call (.Attribute o "pop" apos) (e :: es) [] cpos) (eM opPopAt f fs) :=
  se_bm PySem.F.slot_list_pop PySem.F.type_list_pop mt_popAt (fun T A M H x xs v vs Q R rx rxs h => by
    unfold opPopAt at h
    split at h
    · rename_i n i
      obtain ⟨w, e1, ri⟩ := reps1 rxs
      subst e1
      split at h
      · rename_i l hm
        obtain ⟨⟨h0, h63⟩, h⟩ := ifO h
        split at h
        · rename_i y hy
          obtain ⟨a', e2, ha', ws, h2, t⟩ := R.ref rx hm (fun z => by cases z)
          obtain ⟨w, hw, rw'⟩ := t.get hy
          have hlt : i.toNat < ws.length := by have := (List.getElem?_eq_some_iff.mp hw).1; exact this
          refine ⟨a', ws, i, i.toNat, w, e2, by rw [rep_int ri], h2, by omega, h63, ?_, hw, ?_⟩
          · unfold seqIndex?
            have e0 : (if i < 0 then i + (ws.length : Int) else i) = i := if_neg (by omega)
            show (if (decide (0 ≤ (if i < 0 then i + (ws.length : Int) else i)) && decide ((if i < 0 then i + (ws.length : Int) else i) < (ws.length : Int))) = true then some (if i < 0 then i + (ws.length : Int) else i).toNat else none) = some i.toNat
            rw [e0, if_pos (by rw [decide_eq_true h0, decide_eq_true (by omega)]; rfl)]
          · have s2 : Stp X.K T A H A (M.set n (.lst (l.eraseIdx i.toNat))) (upd H a' (.lst (ws.eraseIdx i.toNat))) := Stp.setO R ha' fun m => ⟨_, upd_same, (t.mv R m).eraseIdx _⟩
            exact h _ _ A s2 (rw'.stp R s2)
        · exact h.elim
      · exact h.elim
    · exact h.elim) (fun x xs M c d e M' q => by
      unfold opPopAt at q
      split at q
      · split at q
        · rename_i l _
          rename_i n i _ _
          by_cases z : 0 ≤ i ∧ i < 2 ^ 63
          · rw [if_pos z] at q
            split at q <;> cases q
          · rw [if_neg z] at q; cases q
        · cases q
      · cases q) ho ha hbase hfew hline hs hplain
end
/-! ### x += e -/
def sAugN (i : Nat) (f : EvE) : EvS := fun env M => match env[i]? with
  | some (some (.int x)) => (f env M).bind fun y M1 => match y with
    | .int z => .ok (.nx (env.set i (some (.int (x + z))))) M1
    | _ => .no
  | _ => .no
section
variable {X : Cx} {p : Pm} {e : Expr} {f : EvE} {pos pos' : Pos}
theorem ss_augN {i : Nat} {x : Str} (hN : X.N.Nodup) (hi : X.N[i]? = some x) (hx : Loc X.env.scope x) (he : SE X p e f) (hf : X.fn x = true ∨ X.env.scope.names.lookup x = some .local := by first | exact .inl rfl | exact .inr rfl | assumption) :
    SS X p (.AugAssign (.Name x pos') .Add e pos) (sAugN i f) :=
  ps_imp (ps_aug hN hi hx he ip_add hf) fun D σ H ⟨A, M, env, R, S, q⟩ => by
    unfold sAugN at q
    split at q
    · rename_i k hk
      obtain ⟨v, hv, rv⟩ := S.2 i _ hk
      refine ⟨v, hv, seqE R S (fun _ _ _ _ z => z) q fun d M1 w H1 A1 s1 r1 q1 => ?_⟩
      cases d with
      | int z =>
        refine ⟨k, z, rep_int rv, rep_int r1, ?_⟩
        exact q1 _ H1 A1 s1 ((S.stp R s1).set (.int _))
      | _ => exact q1.elim
    · exact q.elim
end
/-! ### tables of the top, by texts -/
/-- a written dict that has these texts -/
def GKeys (K : PySem.W.Frag) (w : World) (d : Addr) (ks : List Str) : Prop := ∃ es n, KDict K w d es n ∧ ∀ z ∈ ks, ∃ u, PySem.W.nsIn K d z = some (some u)
noncomputable def eInG (ks : List Str) (f : EvE) : EvE := fun env M => (f env M).bind fun d M1 => match d with
  | .str z => if z ∈ ks then .ok (.bl true) M1 else .no
  | _ => .no
section
variable {X : Cx} {p : Pm} {e a : Expr} {es : List Expr} {f : EvE} {fs : EvEs} {pos pn : Pos}
theorem se_inG {x : Str} {d : Addr} {ks : List Str} (hg : Gl X x) (hm : X.mg x = some (.ref d)) (G : GKeys X.K X.w d ks) (ha : SE X p a f) (hd : (x == ("__debug__" : Str)) = false := by decide) :
    SE X p (.Compare a [.In] [.Name x pn] pos) (eInG ks f) := by
  obtain ⟨es, n, kd, hk⟩ := G
  refine pe_imp (pe_cmpR (op_in_kd kd) ha (pe_glob (v := .ref d) hg hm rfl hd) rfl) fun σ H Q ⟨A, M, env, R, S, q⟩ => seqE R S (fun _ _ _ _ z => z) q fun x M1 v H1 A1 s1 r1 q1 => ?_
  split at q1
  · rename_i z
    obtain ⟨hz, q1⟩ := ifO q1
    obtain ⟨u, hu⟩ := hk z hz
    exact ⟨z, some u, rep_str r1, rfl, hu, q1 _ H1 A1 s1 (.bl true)⟩
  · exact q1.elim
/-- .. with these values -/
def GVals (K : PySem.W.Frag) (w : World) (d : Addr) (tb : List (Str × D)) : Prop := ∀ z x, tb.lookup z = some x → ∃ v, KDct K w d z v ∧ ∀ A H, Rep K A H x v
noncomputable def eIxG (tb : List (Str × D)) (f : EvE) : EvE := fun env M => (f env M).bind fun d M1 => match d with
  | .str z => match tb.lookup z with
    | some x => .ok x M1
    | none => .no
  | _ => .no
theorem se_ixG {x : Str} {d : Addr} {tb : List (Str × D)} (hg : Gl X x) (hm : X.mg x = some (.ref d)) (G : GVals X.K X.w d tb) (hs : PlainIx a) (ha : SE X p a f) (hd : (x == ("__debug__" : Str)) = false := by decide) :
    SE X p (.Subscript (.Name x pn) a pos) (eIxG tb f) := by
  refine pe_imp (pe_ix ix_kdict (pe_glob (pos := pn) (v := .ref d) hg hm rfl hd) ha hs) fun σ H Q ⟨A, M, env, R, S, q⟩ => ?_
  show tE X.K p f σ H _
  refine seqE R S (fun _ _ _ _ z => z) q fun y M1 v H1 A1 s1 r1 q1 => ?_
  split at q1
  · rename_i z
    split at q1
    · rename_i x' hx
      obtain ⟨u, hu, hr⟩ := G z x' hx
      exact ⟨d, z, u, rfl, rep_str r1, hu, q1 _ H1 A1 s1 (hr _ _)⟩
    · exact q1.elim
  · exact q1.elim
/-- x = TABLE[y]; return x(..), the table's values being defs of one argument list -/
noncomputable def sDisp (tb : List (Str × Fn)) (j i : Nat) (fs : EvEs) : EvS := fun env M => match env[j]? with
  | some (some (.str z)) => match tb.lookup z with
    | some F => (fs (env.set i none) M).bindN fun ds M1 => match F ds M1 with
      | .ok d M2 => .ok (.rt d) M2
      | _ => .no
    | none => .no
  | _ => .no
/-- a def of the top, by its promise -/
def GFn (P : Program) (w : World) (K : PySem.W.Frag) (mg : Str → Option Value) (base : Heap) (T : List Addr) (cl : Nat → Addr) (k n : Nat) (f : Addr) (F : Fn) : Prop := ∃ fd ps, FOk P w K mg base T cl k f fd ps F ∧ PySem.W.keepIn K (.ref f) = true ∧ Binds K fd ps [] ∧ ps.length = n
theorem RepS.gone {K : PySem.W.Frag} {A : Ads} {H : Hp} {env : Env} {σ : L2.St} (S : RepS K A H env σ) (i : Nat) (v : V) : RepS K A H (env.set i none) (σ.set i (some v)) := ⟨by rw [List.length_set, List.length_set]; exact S.1, fun j d e => by
  by_cases h : i = j
  · subst h
    by_cases hl : i < env.length
    · rw [List.getElem?_set_self hl] at e; cases e
    · rw [List.getElem?_eq_none (by rw [List.length_set]; omega)] at e; cases e
  · rw [List.getElem?_set_ne h] at e
    rw [List.getElem?_set_ne h]
    exact S.2 j d e⟩
theorem lookup_mem {α : Type} {z : Str} {F : α} : ∀ {l : List (Str × α)}, l.lookup z = some F → (z, F) ∈ l
  | [], h => by cases h
  | (y, G) :: r, h => by
    rw [List.lookup_cons] at h
    split at h
    · rename_i e
      cases h
      have e : z = y := by simpa using e
      subst e
      exact List.mem_cons_self
    · exact List.mem_cons_of_mem _ (lookup_mem h)
theorem sss_disp {i j k n : Nat} {x y g : Str} {dA : Addr} {tb : List (Str × Fn)} {p1 p2 p3 p4 p5 p6 p7 p8 : Pos} (hN : X.N.Nodup) (hi : X.N[i]? = some x) (hj : X.N[j]? = some y) (hx : Loc X.env.scope x) (hvx : Vis X.env.scope x) (hvy : Vis X.env.scope y) (hg : Gl X g) (hm : X.mg g = some (.ref dA)) (hr : Room k X.A)
    (G : ∀ z F, tb.lookup z = some F → ∃ f, KDct X.K X.w dA z (.ref f) ∧ GFn X.prog X.w X.K X.mg X.base p.T p.cl k n f F) (ha : SA X p (e :: es) fs) (hn : Cnt fs n)
    (hf : X.fn x = true ∨ X.env.scope.names.lookup x = some .local := by first | exact .inl rfl | exact .inr rfl | assumption)
    (hs : swapsWith (.Subscript (.Name g p2) (.Name y p3) p4) (some (.Name x p1)) p5.line X.env = pure false := by rfl)
    (hdg : (g == ("__debug__" : Str)) = false := by decide) (hdx : (x == ("__debug__" : Str)) = false := by decide) (hdy : (y == ("__debug__" : Str)) = false := by decide)
    (hcx : (x == ("__classdict__" : Str)) = false := by decide) (hcy : (y == ("__classdict__" : Str)) = false := by decide)
    (he : starEach (e :: es) X.env = (false, eval e X.env) :: starEach es X.env := by rfl) (hpl : (backTo p7 (starEach es X.env)).any (·.1) = false := by rfl) :
    SSs X p [.Assign [.Name x p1] (.Subscript (.Name g p2) (.Name y p3) p4) p5, .Return (some (.Call (.Name x p6) (e :: es) [] p7)) p8] (sDisp tb j i fs) := by
  refine ⟨fun pins s σ H D I ⟨A, M, env, R, S, q⟩ => ?_⟩
  unfold sDisp at q
  split at q
  · rename_i z hz
    split at q
    · rename_i F hF
      obtain ⟨v, hv, rv⟩ := S.2 j _ hz
      obtain rfl := rep_str rv
      obtain ⟨f, kd, fd, ps, Fk, hk, hb, hps⟩ := G z F hF
      refine (pss_cons (ps_set (pos := p5) (pos' := p1) hN hi hx (pe_ix (pos := p4) ix_kdict (pe_glob (pos := p2) (v := .ref dA) hg hm rfl hdg) (pe_var (pos := p3) hj hvy hdy hcy) (fun _ _ => rfl)) hs hf) (pss_one (ps_ret (pos := p8) (pe_callL (pos := p7) (p := p6) (E := fun _ _ _ => False) Fk hr hi hvx hk hb .nil (fun _ _ _ _ _ _ _ c => by
        obtain ⟨_, _, _, _, _, _, _, _, _, _, _, _, z⟩ := c
        exact z.elim) (pa_imp (t' := tEs X.K p fs) ha fun _ _ _ z => z) hdx hcx he hpl)))).run pins s σ H D I ?_
      have hi' : i < σ.length := by rw [I.len]; exact (List.getElem?_eq_some_iff.mp hi).1
      refine ⟨.str z, hv, dA, z, .ref f, rfl, rfl, kd, ?_⟩
      refine ⟨List.getElem?_set_self hi', ?_⟩
      have S' := S.gone (H := H) i (.ref f)
      show tEs X.K p fs (σ.set i (some (.ref f))) H (fun vs H1 => spF X.K p.T p.cl ps.length F (vs ++ []) H1 D.rt (fun _ _ _ => False))
      refine ⟨A, M, env.set i none, R, S', (OutR.of_bindN q _).imp (fun ds M1 e1 q1 vs H1 A1 s1 r1 => ?_) fun _ _ _ _ _ z => z⟩
      show spF X.K p.T p.cl ps.length F (vs ++ []) H1 D.rt (fun _ _ _ => False)
      rw [List.append_nil]
      refine ⟨A1, M1, ds, s1.rel, r1, by rw [hps]; exact hn _ _ _ _ e1, ?_⟩
      cases hF2 : F ds M1 with
      | ok d M2 =>
        rw [hF2] at q1
        exact Fin.stp s1 q1
      | ex c d e' M2 => rw [hF2] at q1; exact q1.elim
      | no => rw [hF2] at q1; exact q1.elim
    · exact q.elim
  · exact q.elim
end
end SX
end
section
set_option Elab.async false
set_option linter.all false
set_option maxRecDepth 100000
set_option maxHeartbeats 1000000
open Classical
/-! SXu: reckoning: the lemmas that speak of no def of a text; cuts of orders, sums, the mirrored order; the deck. -/
namespace SX
def isCut (row : List Int) (k : Nat) : Prop := (row.take k).Perm (rI 1 k)
theorem rI_append (lo : Int) (a b : Nat) : rI lo (a + b) = rI lo a ++ rI (lo + a) b := by
  unfold rI
  rw [List.range_add, List.map_append, List.map_map]
  congr 1
  exact List.map_congr_left fun i _ => by show lo + ((a + i : Nat) : Int) = lo + a + i; omega
theorem isCut.len {row : List Int} {k : Nat} (h : isCut row k) : k ≤ row.length := by
  have := h.length_eq
  rw [List.length_take, rI_length] at this
  omega
theorem isCut.mem {row : List Int} {k : Nat} (h : isCut row k) {x : Int} : x ∈ row.take k ↔ 1 ≤ x ∧ x < 1 + k := h.mem_iff.trans rI_mem
theorem isCut.ord {row : List Int} {k : Nat} (h : isCut row k) : Ord (row.take k) := by
  show (row.take k).Perm (rI 1 (row.take k).length)
  rw [List.length_take, Nat.min_eq_left h.len]
  exact h
theorem isCut_zero (row : List Int) : isCut row 0 := .refl _
theorem isCut_all {row : List Int} (h : Ord row) : isCut row row.length := by
  show (row.take row.length).Perm _
  rw [List.take_length]
  exact h
/-- what follows b, from 1 on -/
def restAt (row : List Int) (b : Nat) : List Int := (row.drop b).map fun x => x - b
theorem shift_perm {X : List Int} {b k : Nat} : (X.map fun x => x - (b : Int)).Perm (rI 1 k) ↔ X.Perm (rI (1 + b) k) := by
  have e : rI (1 + (b : Int)) k = (rI 1 k).map (fun x => x + (b : Int)) := by
    unfold rI
    rw [List.map_map]
    exact List.map_congr_left fun i _ => by show 1 + (b : Int) + i = 1 + (i : Int) + b; omega
  rw [e]
  constructor
  · intro h
    have := h.map (fun x : Int => x + b)
    rw [List.map_map] at this
    have e2 : ((fun x : Int => x + b) ∘ fun x => x - (b : Int)) = id := by funext x; show x - b + b = x; omega
    rw [e2, List.map_id] at this
    exact this
  · intro h
    have := h.map (fun x : Int => x - b)
    rw [List.map_map] at this
    have e2 : ((fun x : Int => x - b) ∘ fun x => x + (b : Int)) = id := by funext x; show x + b - b = x; omega
    rw [e2, List.map_id] at this
    exact this
theorem cut_rest {row : List Int} {b : Nat} (hb : isCut row b) (k : Nat) : isCut (restAt row b) k ↔ isCut row (b + k) := by
  unfold isCut restAt
  rw [← List.map_take, shift_perm, List.take_add, rI_append]
  exact ⟨fun h => hb.append h, fun h => (List.perm_append_left_iff _).mp (((hb.symm.append_right _).trans h))⟩
theorem rest_ord {row : List Int} (h : Ord row) {b : Nat} (hb : isCut row b) : Ord (restAt row b) ∧ (restAt row b).length = row.length - b := by
  have hl : (restAt row b).length = row.length - b := by unfold restAt; rw [List.length_map, List.length_drop]
  have := (cut_rest hb (row.length - b)).mpr (by rw [Nat.add_sub_cancel' hb.len]; exact isCut_all h)
  have h2 := this.ord
  rw [← hl, List.take_length] at h2
  exact ⟨h2, hl⟩
/-- the greatest of a part is its end exactly if the end is a cut -/
theorem cut_max {row : List Int} (h : Ord row) {b e : Nat} (hb : isCut row b) (hbe : b < e) (he : e ≤ row.length) {m : Int} (hm : m ∈ (row.take e).drop b) (hmax : ∀ x ∈ (row.take e).drop b, x ≤ m) : m = e ↔ isCut row e := by
  have split : row.take e = row.take b ++ (row.take e).drop b := by
    have := (List.take_append_drop b (row.take e)).symm
    rw [List.take_take, Nat.min_eq_left (Nat.le_of_lt hbe)] at this
    exact this
  have pos : ∀ x ∈ row.take e, 1 ≤ x := fun x hx => (h.mem.mp (List.mem_of_mem_take hx)).1
  constructor
  · intro hme
    have hlen : (row.take e).length = e := by rw [List.length_take]; omega
    have : Ord (row.take e) := ord_of_mem ((List.take_sublist _ _).nodup h.nodup) fun x hx => by
      rw [hlen]
      refine ⟨pos x hx, ?_⟩
      rw [split] at hx
      rcases List.mem_append.mp hx with hx | hx
      · have := hb.mem.mp hx
        omega
      · have := hmax x hx
        omega
    show (row.take e).Perm (rI 1 e)
    have h2 : (row.take e).Perm (rI 1 (row.take e).length) := this
    rwa [hlen] at h2
  · intro hc
    have he1 : (e : Int) ∈ row.take e := hc.mem.mpr (by omega)
    have he2 : (e : Int) ∈ (row.take e).drop b := by
      rw [split] at he1
      rcases List.mem_append.mp he1 with q | q
      · have := hb.mem.mp q
        omega
      · exact q
    have h1 := hmax _ he2
    have h2 := (hc.mem.mp (List.mem_of_mem_drop hm)).2
    omega
/-- the last cut so far, and the parts up to it -/
noncomputable def PP (row : List Int) : Nat → Nat × List (List Int)
  | 0 => (0, [])
  | e + 1 => if isCut row (e + 1) then (e + 1, (PP row e).2 ++ [((row.take (e + 1)).drop (PP row e).1).map fun x => x - ((PP row e).1 : Int)]) else PP row e
theorem PP_yes {row : List Int} {e : Nat} (h : isCut row (e + 1)) : PP row (e + 1) = (e + 1, (PP row e).2 ++ [((row.take (e + 1)).drop (PP row e).1).map fun x => x - ((PP row e).1 : Int)]) := if_pos h
theorem PP_no {row : List Int} {e : Nat} (h : ¬ isCut row (e + 1)) : PP row (e + 1) = PP row e := if_neg h
theorem PP_cut (row : List Int) : ∀ e, isCut row (PP row e).1 ∧ (PP row e).1 ≤ e
  | 0 => ⟨isCut_zero row, Nat.le_refl _⟩
  | e + 1 => by
    unfold PP
    split
    · rename_i h; exact ⟨h, Nat.le_refl _⟩
    · exact ⟨(PP_cut row e).1, Nat.le_succ_of_le (PP_cut row e).2⟩
theorem PP_at {row : List Int} {b : Nat} (hb : isCut row b) : (PP row b).1 = b := by
  cases b with
  | zero => rfl
  | succ b => rw [PP_yes hb]
theorem PP_skip {row : List Int} {b : Nat} : ∀ k, (∀ j, 1 ≤ j → j ≤ k → ¬ isCut row (b + j)) → PP row (b + k) = PP row b
  | 0, _ => rfl
  | k + 1, h => by
    rw [show b + (k + 1) = (b + k) + 1 from rfl, PP_no (e := b + k) (h (k + 1) (by omega) (Nat.le_refl _)), PP_skip k fun j h1 h2 => h j h1 (by omega)]
theorem PP_next {row : List Int} {b k : Nat} (hb : isCut row b) (hk : isCut row (b + (k + 1))) (hn : ∀ j, 1 ≤ j → j ≤ k → ¬ isCut row (b + j)) : (PP row (b + (k + 1))).2 = (PP row b).2 ++ [(restAt row b).take (k + 1)] := by
  rw [show b + (k + 1) = (b + k) + 1 from rfl, PP_yes (e := b + k) hk, PP_skip k hn, PP_at hb]
  unfold restAt
  rw [← List.map_take, show b + k + 1 = b + (k + 1) from rfl, List.drop_take, show b + (k + 1) - b = k + 1 by omega]
theorem PP_ord {row : List Int} (h : Ord row) : ∀ e, ∀ p ∈ (PP row e).2, Ord p ∧ p.length ≤ row.length
  | 0, p, hp => by cases hp
  | e + 1, p, hp => by
    unfold PP at hp
    split at hp
    · rename_i hc
      rcases List.mem_append.mp hp with hp | hp
      · exact PP_ord h e p hp
      · have e1 : p = ((row.take (e + 1)).drop (PP row e).1).map fun x => x - ((PP row e).1 : Int) := by simpa using hp
        obtain ⟨hb, hbe⟩ := PP_cut row e
        have hk := (cut_rest hb (e + 1 - (PP row e).1)).mpr (by rw [Nat.add_sub_cancel' (by omega)]; exact hc)
        have h2 := hk.ord
        unfold restAt at h2
        rw [← List.map_take, ← List.drop_take] at h2
        subst e1
        refine ⟨h2, ?_⟩
        rw [List.length_map, List.length_drop, List.length_take]
        omega
    · exact PP_ord h e p hp
theorem PP_len (row : List Int) : ∀ e, (PP row e).2.length ≤ e ∧ (1 ≤ (PP row e).2.length → 1 ≤ (PP row e).1)
  | 0 => ⟨Nat.le_refl _, fun h => absurd h (by unfold PP; simp)⟩
  | e + 1 => by
    have ih := PP_len row e
    unfold PP
    split
    · exact ⟨by rw [List.length_append]; simp; omega, fun _ => Nat.succ_le_succ (Nat.zero_le _)⟩
    · exact ⟨by omega, ih.2⟩
theorem PP_two (row : List Int) : ∀ e, 2 ≤ (PP row e).2.length → ∃ b, 1 ≤ b ∧ b < e ∧ isCut row b
  | 0, h => absurd h (by unfold PP; simp)
  | e + 1, h => by
    unfold PP at h
    split at h
    · rw [List.length_append, List.length_singleton] at h
      obtain ⟨hb, hbe⟩ := PP_cut row e
      exact ⟨(PP row e).1, (PP_len row e).2 (by omega), by omega, hb⟩
    · obtain ⟨b, h1, h2, h3⟩ := PP_two row e h
      exact ⟨b, h1, by omega, h3⟩
def likeI (c : List Int) : List Int := c.map fun y => 1 + ((c.filter fun x => decide (x < y)).length : Int)
theorem cnt_rI (lo : Int) : ∀ (n : Nat) (x : Int), lo ≤ x → x ≤ lo + n → (((rI lo n).filter fun y => decide (y < x)).length : Int) = x - lo
  | 0, x, h0, h1 => by
    have : x = lo := by omega
    subst this
    simp [rI]
  | n + 1, x, h0, h1 => by
    rw [rI_succ, List.filter_append, List.length_append]
    by_cases h : x ≤ lo + n
    · have := cnt_rI lo n x h0 h
      rw [List.filter_cons_of_neg (by simp; omega)]
      simp
      exact this
    · have e : x = lo + n + 1 := by omega
      have h2 : (rI lo n).filter (fun y => decide (y < x)) = rI lo n := List.filter_eq_self.mpr fun y hy => by
        have := rI_mem.mp hy
        simp
        omega
      rw [h2, List.filter_cons_of_pos (by simp; omega), rI_length]
      simp
      omega
theorem like_shift {c : List Int} {b k : Nat} (h : c.Perm (rI (1 + b) k)) : likeI c = c.map fun x => x - (b : Int) := by
  unfold likeI
  refine List.map_congr_left fun y hy => ?_
  have hm := rI_mem.mp (h.mem_iff.mp hy)
  have h1 := (h.filter fun x => decide (x < y)).length_eq
  have h2 := cnt_rI (1 + b) k y (by omega) (by omega)
  rw [h1]
  omega
theorem like_ord {p : List Int} (h : Ord p) : likeI p = p := by
  have := like_shift (b := 0) (k := p.length) (c := p) h
  rw [this]
  have : (fun x : Int => x - ((0 : Nat) : Int)) = id := by funext x; show x - 0 = x; omega
  rw [this, List.map_id]
theorem like_rest {row : List Int} (h : Ord row) {b : Nat} (hb : isCut row b) : likeI (row.drop b) = restAt row b := by
  refine like_shift (k := row.length - b) ?_
  have h2 := (cut_rest hb (row.length - b)).mpr (by rw [Nat.add_sub_cancel' hb.len]; exact isCut_all h)
  unfold isCut restAt at h2
  rw [List.take_of_length_le (by rw [List.length_map, List.length_drop]; exact Nat.le_refl _)] at h2
  exact shift_perm.mp h2
theorem restAt_restAt {row : List Int} (b k : Nat) : restAt (restAt row b) k = restAt row (b + k) := by
  unfold restAt
  rw [← List.map_drop, List.drop_drop, List.map_map]
  refine List.map_congr_left fun x _ => ?_
  show x - (b : Int) - (k : Int) = x - ((b + k : Nat) : Int)
  omega
def mirI (a : List Int) : List Int := a.map fun x => (a.length : Int) + 1 - x
def sumI (a b : List Int) : List Int := a ++ b.map ((a.length : Int) + ·)
def skewI (a b : List Int) : List Int := a.map ((b.length : Int) + ·) ++ b
theorem mir_length (a : List Int) : (mirI a).length = a.length := List.length_map _
theorem mir_ord {a : List Int} (h : Ord a) : Ord (mirI a) := by
  refine ord_of_mem (List.pairwise_map.mpr (h.nodup.imp fun h e => h (by omega))) fun x hx => ?_
  rw [mir_length]
  obtain ⟨y, hy, rfl⟩ := List.mem_map.mp hx
  have := h.mem.mp hy
  omega
theorem mir_mir (a : List Int) : mirI (mirI a) = a := by
  have hl := mir_length a
  unfold mirI at hl ⊢
  rw [hl, List.map_map]
  have : ((fun x => (a.length : Int) + 1 - x) ∘ fun x => (a.length : Int) + 1 - x) = id := by funext x; show (a.length : Int) + 1 - ((a.length : Int) + 1 - x) = x; omega
  rw [this, List.map_id]
/-- not both -/
theorem not_both {row : List Int} (h : Ord row) {b c : Nat} (hb : isCut row b) (hc : isCut (mirI row) c) (b0 : 1 ≤ b) (b1 : b < row.length) (c0 : 1 ≤ c) (c1 : c < row.length) : False := by
  have tk : ∀ k, (mirI row).take k = (row.take k).map fun x => (row.length : Int) + 1 - x := fun k => by unfold mirI; rw [← List.map_take]
  have sub : ∀ {i j : Nat}, i ≤ j → ∀ x, x ∈ row.take i → x ∈ row.take j := fun {i j} hij x hx => by
    have : row.take i = (row.take j).take i := by rw [List.take_take, Nat.min_eq_left hij]
    rw [this] at hx
    exact List.mem_of_mem_take hx
  have inC : ∀ x, x ∈ row.take c → (row.length : Int) + 1 - x < 1 + c := fun x hx => by
    have : (row.length : Int) + 1 - x ∈ (mirI row).take c := by rw [tk]; exact List.mem_map.mpr ⟨x, hx, rfl⟩
    exact (hc.mem.mp this).2
  rcases Nat.le_total b c with hbc | hbc
  · have h1 : (1 : Int) ∈ row.take b := hb.mem.mpr (by omega)
    have := inC 1 (sub hbc 1 h1)
    omega
  · have h1 : (1 : Int) ∈ (mirI row).take c := hc.mem.mpr (by omega)
    rw [tk] at h1
    obtain ⟨x, hx, e⟩ := List.mem_map.mp h1
    have := (hb.mem.mp (sub hbc x hx)).2
    omega
theorem foldl_snoc {α β : Type} (f : β → α → β) (z : β) (l : List α) (x : α) : (l ++ [x]).foldl f z = f (l.foldl f z) x := by
  rw [List.foldl_append]; rfl
theorem sum_again {row : List Int} : ∀ e, (PP row e).2.foldl sumI [] = row.take (PP row e).1
  | 0 => rfl
  | e + 1 => by
    by_cases hc : isCut row (e + 1)
    · obtain ⟨hb, hbe⟩ := PP_cut row e
      rw [PP_yes hc, foldl_snoc, sum_again e]
      show sumI (row.take (PP row e).1) _ = row.take (e + 1)
      unfold sumI
      rw [List.map_map, List.length_take, Nat.min_eq_left hb.len]
      have e1 : (((PP row e).1 : Int) + ·) ∘ (fun x => x - ((PP row e).1 : Int)) = id := by funext x; show ((PP row e).1 : Int) + (x - _) = x; omega
      rw [e1, List.map_id]
      have := List.take_append_drop (PP row e).1 (row.take (e + 1))
      rw [List.take_take, Nat.min_eq_left (by omega)] at this
      exact this
    · rw [PP_no hc, sum_again e]
theorem skew_again {c : List Int} : ∀ e, ((PP c e).2.map mirI).foldl skewI [] = mirI (c.take (PP c e).1)
  | 0 => rfl
  | e + 1 => by
    by_cases hc : isCut c (e + 1)
    · obtain ⟨hb, hbe⟩ := PP_cut c e
      have hlen := hc.len
      rw [PP_yes hc, List.map_append, List.map_cons, List.map_nil, foldl_snoc, skew_again e]
      show skewI (mirI (c.take (PP c e).1)) (mirI (((c.take (e + 1)).drop (PP c e).1).map fun x => x - ((PP c e).1 : Int))) = mirI (c.take (e + 1))
      generalize (PP c e).1 = b at hb hbe
      have hd : ((c.take (e + 1)).drop b).length = e + 1 - b := by rw [List.length_drop, List.length_take]; omega
      have ht : (c.take b).length = b := by rw [List.length_take]; omega
      have hs : (c.take (e + 1)).length = e + 1 := by rw [List.length_take]; omega
      unfold skewI
      rw [mir_length]
      unfold mirI
      rw [List.length_map, hd, ht, hs, List.map_map, List.map_map]
      have split := List.take_append_drop b (c.take (e + 1))
      rw [List.take_take, Nat.min_eq_left (by omega)] at split
      conv => rhs; rw [← split, List.map_append]
      congr 1
      · refine List.map_congr_left fun x _ => ?_
        show ((e + 1 - b : Nat) : Int) + ((b : Int) + 1 - x) = ((e + 1 : Nat) : Int) + 1 - x
        omega
      · refine List.map_congr_left fun x _ => ?_
        show ((e + 1 - b : Nat) : Int) + 1 - (x - (b : Int)) = ((e + 1 : Nat) : Int) + 1 - x
        omega
    · rw [PP_no hc, skew_again e]
theorem isi_tup (ts : List Bty) (l : List D) (M : List MO) : opIsi ts (.tup l) M = .ok (.bl (ts.any (tab .tuple))) M := rfl
theorem truV_bl (b : Bool) (M : List MO) : truV M (.bl b) = some b := rfl
theorem allW_IL {e : EvE} {env : Env} {M : List MO} {ns : List Int} (h : e env M = .ok (.tup (IL ns)) M) : eAllW e env M = .ok (.bl true) M := by
  unfold eAllW
  rw [h, Out.bind_ok]
  dsimp only
  have h1 : ∀ x ∈ IL ns, tyKn M x = true := fun x hx => by obtain ⟨i, _, rfl⟩ := List.mem_map.mp hx; rfl
  rw [if_pos h1]
  have h2 : (IL ns).all isW = true := List.all_eq_true.mpr fun x hx => by obtain ⟨i, _, rfl⟩ := List.mem_map.mp hx; rfl
  rw [h2]
theorem call_eq {F : Fn} {fs : EvEs} {env : Env} {M M1 M2 : List MO} {ds : List D} {d : D} (h : fs env M = .ok ds M1) (hF : F ds M1 = .ok d M2) : eCall F fs env M = .ok d M2 := by
  unfold eCall
  rw [h, Out.bind_ok, hF]
theorem len_tup (l : List D) (M : List MO) : opLen [.tup l] M = .ok (.int l.length) M := rfl
theorem len_lst (l : List D) (M : List MO) : opLen [.lst l] M = .ok (.int l.length) M := rfl
theorem add_int (mk : Mk) (i j : Int) (M : List MO) : opAdd mk (.int i) (.int j) M = .ok (.int (i + j)) M := rfl
theorem sub_int (i j : Int) (M : List MO) : opI (· - ·) (.int i) (.int j) M = .ok (.int (i - j)) M := rfl
theorem add_tI (mk : Mk) (a b : List Int) (M : List MO) (h : a.length + b.length ≤ 1000000) : opAdd mk (.tup (IL a)) (.tup (IL b)) M = .ok (.tup (IL (a ++ b))) M := by
  unfold opAdd
  dsimp only
  rw [if_pos (by rw [List.length_map, List.length_map]; exact small_line h), ← List.map_append]
theorem add_lI (a b : List Int) (M : List MO) (h : a.length + b.length ≤ 1000000) : opAdd mkF (.lst (IL a)) (.lst (IL b)) M = .ok (.lst (IL (a ++ b))) M := by
  show (if (IL a).length + (IL b).length ≤ PySem.sizeLine then mkF (IL a ++ IL b) M else .no) = _
  rw [if_pos (by rw [List.length_map, List.length_map]; exact small_line h), ← List.map_append]
  rfl
theorem tupOf_lst (l : List D) (M : List MO) : opTupOf (.lst l) M = .ok (.tup l) M := rfl
theorem rgL_ok {mk : Mk} {r : EvR} {env : Env} {M : List MO} {i j : Int} (h : r env M = .ok (i, j) M) (hi : 0 ≤ i ∧ i ≤ 1000000) (hj : 0 ≤ j ∧ j ≤ 1000000) : eRgL mk r env M = mk (IL (rI i (j - i).toNat)) M := by
  unfold eRgL
  rw [h, Out.bind_ok, if_pos (L2.RgOk.of_le (by omega) (by omega) (by omega) (by omega)), rng_rI]
theorem exp_call {F : Fn} {fs : EvEs} {env : Env} {M M1 M2 : List MO} {ds : List D} {d : D} (h : fs env M = .ok ds M1) (hF : F ds M1 = .ok d M2) : sExp (eCall F fs) env M = .ok (.nx env) M2 := by
  unfold sExp
  rw [call_eq h hF]
  rfl
theorem eLst_nil (env : Env) (M : List MO) : eLst mkF esNil env M = .ok (.lst (IL [])) M := by
  unfold eLst esNil
  rw [Out.bind_ok]
  exact if_pos (Nat.zero_le _)
/-- a tuple of orders -/
abbrev TL (l : List (List Int)) : List D := l.map fun p => .tup (IL p)
def Dk (n : Nat) (M : List MO) : Prop := ∃ a b : Int, 0 ≤ b ∧ b < 18446744073709551616 ∧ M[n]? = some (.lst [.int a, .int b])
/-- only the n-th object is another -/
def Only (n : Nat) (M M' : List MO) : Prop := M'.length = M.length ∧ ∀ i, i ≠ n → M'[i]? = M[i]?
theorem Only.refl (n : Nat) (M : List MO) : Only n M M := ⟨rfl, fun _ _ => rfl⟩
theorem Only.trans {n : Nat} {M M1 M2 : List MO} (a : Only n M M1) (b : Only n M1 M2) : Only n M M2 := ⟨b.1.trans a.1, fun i h => (b.2 i h).trans (a.2 i h)⟩
theorem Only.set {n : Nat} {M : List MO} {o : MO} : Only n M (M.set n o) := ⟨List.length_set, fun i h => List.getElem?_set_ne (Ne.symm h)⟩
theorem moLt_ints (N : Nat) (ns : List Int) : moLt N (.lst (IL ns)) := by
  show refsLtL N (IL ns)
  exact noRefL.lt (noRef_IL ns)
theorem gc_only {n : Nat} {M M' : List MO} {d : D} (h : Only n M M') (hm : Dk n M') (hd : noRef d) : gc M (.ok d M') = .ok d M' := by
  rw [gc_ok_of hd.lt, ← h.1, List.take_length]
  intro i hi o ho
  by_cases e : i = n
  · obtain ⟨a, b, _, _, hab⟩ := hm
    rw [e, hab] at ho
    cases ho
    exact .inr (moLt_ints _ [a, b])
  · rw [h.2 i e] at ho
    exact .inl ho
theorem ix_ref0 {n : Nat} {M : List MO} {a b : D} (h : M[n]? = some (.lst [a, b])) : opIx (.ref n) (.int 0) M = .ok a M := by
  unfold opIx
  rw [show asSeq M (.ref n) = some [a, b] by show (match M[n]? with | some (.lst l) => some l | _ => none) = _; rw [h]]
  rfl
theorem ix_ref1 {n : Nat} {M : List MO} {a b : D} (h : M[n]? = some (.lst [a, b])) : opIx (.ref n) (.int 1) M = .ok b M := by
  unfold opIx
  rw [show asSeq M (.ref n) = some [a, b] by show (match M[n]? with | some (.lst l) => some l | _ => none) = _; rw [h]]
  rfl
theorem setL0 {n : Nat} {M : List MO} {a b d : D} (h : M[n]? = some (.lst [a, b])) : opSetL (.ref n) (.int 0) d M = .ok () (M.set n (.lst [d, b])) := by
  unfold opSetL
  dsimp only
  rw [h]
  rfl
theorem setL1 {n : Nat} {M : List MO} {a b d : D} (h : M[n]? = some (.lst [a, b])) : opSetL (.ref n) (.int 1) d M = .ok () (M.set n (.lst [a, d])) := by
  unfold opSetL
  dsimp only
  rw [h]
  rfl
theorem mod_int {i j : Int} (M : List MO) (h : 0 < j) : opIC (fun _ j => 0 < j) (· % ·) (.int i) (.int j) M = .ok (.int (i % j)) M := if_pos h
theorem fdiv_int {i j : Int} (M : List MO) (h : L2.CDivW i j) : opIC L2.CDivW (· / ·) (.int i) (.int j) M = .ok (.int (i / j)) M := if_pos h
theorem mul_int {i j : Int} (M : List MO) (h : L2.CMulW i j) : opIC L2.CMulW (· * ·) (.int i) (.int j) M = .ok (.int (i * j)) M := if_pos h
theorem pow_int {i j : Int} (M : List MO) (h : L2.CPow i j) : opIC L2.CPow (fun i j => i ^ j.toNat) (.int i) (.int j) M = .ok (.int (i ^ j.toNat)) M := if_pos h
theorem log2_lt {x : Int} {k : Nat} (h1 : -(2 ^ k : Int) < x) (h2 : x < 2 ^ k) (hk : 0 < k) : x.natAbs.log2 < k := by
  by_cases h0 : x.natAbs = 0
  · rw [h0]; simpa using hk
  · rw [Nat.log2_lt h0]
    have : ((2 ^ k : Nat) : Int) = (2 ^ k : Int) := by push_cast; rfl
    omega
theorem cdiv_small {i j : Int} (h : 0 < j) (h2 : j < 18446744073709551616) : L2.CDivW i j := ⟨h, Nat.lt_trans (log2_lt (k := 64) (by omega) (by omega) (by omega)) (by omega)⟩
theorem cmul_small {i j : Int} (h1 : -(18446744073709551616) < i) (h2 : i < 18446744073709551616) (h3 : -(2 ^ 200 : Int) < j) (h4 : j < 2 ^ 200) : L2.CMulW i j := by
  have a := log2_lt (x := i) (k := 64) (by omega) (by omega) (by omega)
  have b := log2_lt (x := j) (k := 200) h3 h4 (by omega)
  show _ + _ < 1000000
  omega
theorem gt_int (i j : Int) (M : List MO) : opB (fun i j => decide (j < i)) (.int i) (.int j) M = .ok (.bl (decide (j < i))) M := rfl
theorem lt_int (i j : Int) (M : List MO) : opB (fun i j => decide (i < j)) (.int i) (.int j) M = .ok (.bl (decide (i < j))) M := rfl
theorem int1 (i : Int) (M : List MO) : opInt1 [.int i] M = .ok (.int i) M := rfl
/-- the objects of M but for the n-th stand, the deck is one, and one more object is at the end -/
structure Grown (n : Nat) (M M' : List MO) (o : MO) : Prop where
  len : M'.length = M.length + 1
  old : ∀ i, i ≠ n → i < M.length → M'[i]? = M[i]?
  dk : Dk n M'
  new : M'[M.length]? = some o
theorem Dk.lt {n : Nat} {M : List MO} (h : Dk n M) : n < M.length := let ⟨_, _, _, _, e⟩ := h; (List.getElem?_eq_some_iff.mp e).1
theorem Dk.app {n : Nat} {M : List MO} (h : Dk n M) (X : List MO) : Dk n (M ++ X) := by
  have hl := h.lt
  obtain ⟨a, b, h0, h1, e⟩ := h
  exact ⟨a, b, h0, h1, by rw [List.getElem?_append_left hl]; exact e⟩
theorem Dk.only {n m : Nat} {M M' : List MO} (h : Dk n M) (ho : Only m M M') (hm : n ≠ m) : Dk n M' := by
  obtain ⟨a, b, h0, h1, e⟩ := h
  exact ⟨a, b, h0, h1, by rw [ho.2 n hm]; exact e⟩
theorem Grown.start {n : Nat} {M : List MO} (h : Dk n M) (o : MO) : Grown n M (M ++ [o]) o where
  len := by rw [List.length_append]; rfl
  old := fun i _ hi => List.getElem?_append_left hi
  dk := h.app _
  new := by rw [List.getElem?_append_right (Nat.le_refl _), Nat.sub_self]; rfl
theorem Grown.only {n : Nat} {M M1 M2 : List MO} {o : MO} (hn : n < M.length) (g : Grown n M M1 o) (h : Only n M1 M2) (hd : Dk n M2) : Grown n M M2 o where
  len := h.1.trans g.len
  old := fun i hi hl => (h.2 i hi).trans (g.old i hi hl)
  dk := hd
  new := (h.2 _ (Nat.ne_of_gt hn)).trans g.new
theorem Grown.put {n : Nat} {M M1 : List MO} {o o' : MO} (hn : n < M.length) (g : Grown n M M1 o) : Grown n M (M1.set M.length o') o' where
  len := by rw [List.length_set]; exact g.len
  old := fun i hi hl => by rw [List.getElem?_set_ne (Nat.ne_of_gt hl)]; exact g.old i hi hl
  dk := by
    obtain ⟨a, b, h0, h1, e⟩ := g.dk
    exact ⟨a, b, h0, h1, by rw [List.getElem?_set_ne (Nat.ne_of_gt hn)]; exact e⟩
  new := List.getElem?_set_self (by rw [g.len]; exact Nat.lt_succ_self _)
theorem Grown.gc {n : Nat} {M M1 : List MO} {o : MO} {d : D} (hn : n < M.length) (g : Grown n M M1 o) (hd : noRef d) : ∃ M2, gc M (.ok d M1) = .ok d M2 ∧ Dk n M2 ∧ Only n M M2 := by
  refine ⟨M1.take M.length, gc_ok_of hd.lt fun i hi x hx => ?_, ?_, ?_, fun i hi => ?_⟩
  · by_cases e : i = n
    · obtain ⟨a, b, _, _, hab⟩ := g.dk
      rw [e, hab] at hx
      cases hx
      exact .inr (moLt_ints _ [a, b])
    · rw [g.old i e hi] at hx
      exact .inl hx
  · obtain ⟨a, b, h0, h1, e⟩ := g.dk
    exact ⟨a, b, h0, h1, by rw [List.getElem?_take, if_pos hn]; exact e⟩
  · rw [List.length_take, g.len]; omega
  · by_cases hl : i < M.length
    · rw [List.getElem?_take, if_pos hl]; exact g.old i hi hl
    · rw [List.getElem?_eq_none (by rw [List.length_take]; omega), List.getElem?_eq_none (by omega)]
theorem insert_ok {N : Nat} {M : List MO} {p : List Int} (h : M[N]? = some (.lst (IL p))) (hp : p.length ≤ 1000000) {t j : Int} (h0 : 0 ≤ t) (h1 : t ≤ 1000000) : opInsert (.ref N) [.int t, .int j] M = .ok .non (M.set N (.lst (IL (p.take t.toNat ++ [j] ++ p.drop t.toNat)))) := by
  unfold opInsert
  dsimp only
  rw [h]
  dsimp only
  rw [if_pos ⟨by rw [List.length_map]; exact Nat.lt_of_le_of_lt hp (by decide), h0, by omega⟩]
  unfold IL
  rw [List.map_append, List.map_append, List.map_take, List.map_drop]
  rfl
theorem tupOf_ref {N : Nat} {M : List MO} {l : List D} (h : M[N]? = some (.lst l)) : opTupOf (.ref N) M = .ok (.tup l) M := by
  unfold opTupOf
  dsimp only
  rw [show asL M (.ref N) = some l by show (match M[N]? with | some (.lst l) => some l | _ => none) = _; rw [h]]
theorem asL_ref {N : Nat} {M : List MO} {l : List D} (h : M[N]? = some (.lst l)) : asL M (.ref N) = some l := by
  show (match M[N]? with | some (.lst l) => some l | _ => none) = _
  rw [h]
theorem eLst_nilN (env : Env) (M : List MO) : eLst mkN esNil env M = .ok (.ref M.length) (M ++ [.lst []]) := by
  unfold eLst esNil
  rw [Out.bind_ok]
  exact if_pos (Nat.zero_le _)
/-- how many things stand in blocks whose number is below b -/
def less (zs : List (Int × List Int)) (b : Int) : Int := ((zs.filter fun z => decide (z.1 < b)).map fun z => (z.2.length : Int)).sum
def fillI (zs : List (Int × List Int)) (of : List (Int × List Int)) : List Int := (of.map fun z => z.2.map (less zs z.1 + ·)).flatten
theorem less_cons (y : Int × List Int) (r : List (Int × List Int)) (b : Int) : less (y :: r) b = (if y.1 < b then (y.2.length : Int) else 0) + less r b := by
  unfold less
  by_cases h : y.1 < b
  · rw [List.filter_cons_of_pos (by simpa using h), if_pos h]
    simp
  · rw [List.filter_cons_of_neg (by simpa using h), if_neg h]
    omega
theorem less_nn (zs : List (Int × List Int)) (b : Int) : 0 ≤ less zs b := by
  induction zs with
  | nil => exact Int.le_refl _
  | cons y r ih => rw [less_cons]; split <;> omega
theorem less_mono (zs : List (Int × List Int)) {b c : Int} (h : b ≤ c) : less zs b ≤ less zs c := by
  induction zs with
  | nil => exact Int.le_refl _
  | cons y r ih => rw [less_cons, less_cons]; split <;> split <;> omega
theorem less_step {zs : List (Int × List Int)} {z : Int × List Int} (hz : z ∈ zs) {c : Int} (h : z.1 < c) : less zs z.1 + (z.2.length : Int) ≤ less zs c := by
  induction zs with
  | nil => cases hz
  | cons y r ih =>
    rw [less_cons, less_cons]
    rcases List.mem_cons.mp hz with e | e
    · subst e
      rw [if_neg (Int.lt_irrefl _), if_pos h]
      have := less_mono r (Int.le_of_lt h)
      omega
    · have := ih e
      split <;> split <;> omega
def total (zs : List (Int × List Int)) : Int := (zs.map fun z => (z.2.length : Int)).sum
theorem total_cons (y : Int × List Int) (r : List (Int × List Int)) : total (y :: r) = (y.2.length : Int) + total r := by
  unfold total; simp
theorem less_total (zs : List (Int × List Int)) (c : Int) : less zs c ≤ total zs := by
  induction zs with
  | nil => exact Int.le_refl _
  | cons y r ih => rw [less_cons, total_cons]; split <;> omega
theorem less_stepT {zs : List (Int × List Int)} {z : Int × List Int} (hz : z ∈ zs) : less zs z.1 + (z.2.length : Int) ≤ total zs := by
  have h1 := less_step hz (c := z.1 + 1) (by omega)
  exact Int.le_trans h1 (less_total _ _)
theorem fill_length (zs : List (Int × List Int)) : ∀ of : List (Int × List Int), ((fillI zs of).length : Int) = total of
  | [] => rfl
  | y :: r => by
    have ih := fill_length zs r
    unfold fillI at ih ⊢
    rw [List.map_cons, List.flatten_cons, List.length_append, List.length_map, total_cons]
    omega
theorem fill_ord {zs : List (Int × List Int)} (hb : zs.Pairwise fun z z' => z.1 ≠ z'.1) (hp : ∀ z ∈ zs, Ord z.2) : Ord (fillI zs zs) := by
  have inb : ∀ z ∈ zs, ∀ x ∈ z.2.map (less zs z.1 + ·), less zs z.1 < x ∧ x ≤ less zs z.1 + (z.2.length : Int) := fun z hz x hx => by
    obtain ⟨y, hy, rfl⟩ := List.mem_map.mp hx
    have := (hp z hz).mem.mp hy
    omega
  refine ord_of_mem ?_ fun x hx => ?_
  · unfold fillI
    refine List.pairwise_flatten.mpr ⟨fun l hl => ?_, ?_⟩
    · obtain ⟨z, hz, rfl⟩ := List.mem_map.mp hl
      exact List.pairwise_map.mpr ((hp z hz).nodup.imp fun h e => h (by omega))
    · refine List.pairwise_map.mpr (hb.imp_of_mem fun {z z'} hz hz' h x hx y hy => ?_)
      have a := inb z hz x hx
      have b := inb z' hz' y hy
      rcases Int.lt_or_gt_of_ne h with h | h
      · have := less_step hz h
        omega
      · have := less_step hz' h
        omega
  · unfold fillI at hx
    obtain ⟨l, hl, hxl⟩ := List.mem_flatten.mp hx
    obtain ⟨z, hz, rfl⟩ := List.mem_map.mp hl
    have a := inb z hz x hxl
    have b := less_stepT hz
    have c := less_nn zs z.1
    have d := fill_length zs zs
    omega
/-- the numbers and their orders side by side -/
def zsOf (base : List Int) (ps : List (List Int)) : List (Int × List Int) := (List.range base.length).map fun j => (base.getD j 0, ps.getD j [])
theorem comp_filtI {it : EvI} {f : EvE} {t : EvT} {i : Nat} {env : Env} {M : List MO} {ns : List Int} (p : Int → Bool) (g : Int → Int) (he : it env M = .ok ⟨IL ns, fun _ => True⟩ M)
    (ht : ∀ x ∈ ns, ∀ acc, t ((wipeE env [i]).set i (some (.int x))) (M ++ [.lst acc]) = .ok (p x) (M ++ [.lst acc]))
    (hf : ∀ x ∈ ns, p x = true → ∀ acc, f ((wipeE env [i]).set i (some (.int x))) (M ++ [.lst acc]) = .ok (.int (g x)) (M ++ [.lst acc])) (hl : ns.length ≤ 1000000) :
    eComp true it (.nm i) [i] t f env M = .ok (.lst (IL ((ns.filter p).map g))) M := by
  let y : D → D := fun d => match d with | .int x => .int (g x) | d => d
  let q : D → Bool := fun d => match d with | .int x => p x | _ => false
  rw [eComp_frz (c := .nm i) (vs := [i]) (fun d => (wipeE env [i]).set i (some d)) q y he (fun _ => trivial) (fun _ _ => rfl) (fun d hd acc => ?_) (fun d hd hq acc => ?_) (fun d hd _ => ?_) (by rw [List.length_map]; exact small_line hl)]
  · have e1 : (IL ns).filter q = IL (ns.filter p) := by unfold IL; rw [List.filter_map]; rfl
    rw [e1]
    unfold IL
    rw [List.map_map, List.map_map]
    rfl
  · obtain ⟨x, hx, rfl⟩ := List.mem_map.mp hd
    exact ht x hx acc
  · obtain ⟨x, hx, rfl⟩ := List.mem_map.mp hd
    exact hf x hx hq acc
  · obtain ⟨x, hx, rfl⟩ := List.mem_map.mp hd
    exact noRef_int _
theorem ix_at {z : D} {l : List D} {d : D} {M : List MO} {i : Int} (h0 : 0 ≤ i) (h1 : asSeq M z = some l) (h2 : l[i.toNat]? = some d) : opIx z (.int i) M = .ok d M := by
  unfold opIx
  rw [h1]
  dsimp only
  have : L2.atI l i = some d := by
    obtain ⟨k, rfl⟩ := Int.eq_ofNat_of_zero_le h0
    exact L2.atI_nat h2
  rw [this]
theorem sum_IL (ns : List Int) (M : List MO) : opSum [.lst (IL ns)] M = .ok (.int ns.sum) M := by
  unfold opSum
  dsimp only
  rw [show (asL M (.lst (IL ns))).bind intsOf = some ns from intsOf_map ns]
theorem asSeq_ref {N : Nat} {M : List MO} {l : List D} (h : M[N]? = some (.lst l)) : asSeq M (.ref N) = some l := asL_ref h
theorem two_ix {x y : D} {t : Int} (M : List MO) (h0 : 0 ≤ t) (h1 : t < 2) : opIx (.lst [x, y]) (.int t) M = .ok (if t = 0 then x else y) M := by
  by_cases e : t = 0
  · subst e
    rw [if_pos rfl]
    exact ix_at (by omega) rfl rfl
  · have : t = 1 := by omega
    subst this
    rw [if_neg e]
    exact ix_at (by omega) rfl rfl
theorem lst2 {f g : EvE} {env : Env} {M : List MO} {x y : D} (h1 : f env M = .ok x M) (h2 : g env M = .ok y M) : eLst mkF (esCons f (esCons g esNil)) env M = .ok (.lst [x, y]) M := by
  unfold eLst esCons esNil
  rw [h1, Out.bind_ok, h2, Out.bind_ok, Out.bind_ok, Out.bind_ok, Out.bind_ok]
  exact if_pos (small_line (n := 2) (by omega))
theorem rgT_ok {r : EvR} {env : Env} {M : List MO} {i j : Int} (h : r env M = .ok (i, j) M) (hi : 0 ≤ i ∧ i ≤ 1000000) (hj : 0 ≤ j ∧ j ≤ 1000000) : eRgT r env M = .ok (.tup (IL (rI i (j - i).toNat))) M := by
  unfold eRgT
  rw [h, Out.bind_ok, if_pos (L2.RgOk.of_le (by omega) (by omega) (by omega) (by omega)), rng_rI]
theorem rev_tup (l : List D) (M : List MO) : opRev mkF (.tup l) M = .ok (.tup l.reverse) M := rfl
theorem ord_rI (n : Nat) : Ord (rI 1 n) := by
  show (rI 1 n).Perm (rI 1 (rI 1 n).length)
  rw [rI_length]
theorem ord_rev {p : List Int} (h : Ord p) : Ord p.reverse := by
  show p.reverse.Perm (rI 1 p.reverse.length)
  rw [List.length_reverse]
  exact (List.reverse_perm p).trans h
theorem dn_length (n : Nat) : (dnV (n : Int) 0).length = n := by
  unfold dnV; rw [List.length_map, List.length_range]; omega
theorem ord_dn (n : Nat) : Ord (dnV (n : Int) 0) := by
  refine ord_of_mem ?_ fun x hx => ?_
  · unfold dnV
    exact List.pairwise_map.mpr (List.nodup_range.imp fun h e => h (by omega))
  · rw [dn_length]
    unfold dnV at hx
    obtain ⟨i, hi, rfl⟩ := List.mem_map.mp hx
    have := List.mem_range.mp hi
    omega
theorem tupDn_ok {f g h : EvE} {env : Env} {M : List MO} {n : Nat} (h1 : f env M = .ok (.int n) M) (h2 : g env M = .ok (.int 0) M) (h3 : h env M = .ok (.int (-1)) M) (hn : n ≤ 1000000) : eTupDn f g h env M = .ok (.tup (IL (dnV (n : Int) 0))) M := by
  unfold eTupDn
  rw [h1, Out.bind_ok, h2, Out.bind_ok, h3, Out.bind_ok]
  unfold opTupDn
  dsimp only
  rw [if_pos ⟨rfl, by omega, by omega, by omega, by omega⟩]
/-- what a row is drawn to be -/
def RowRes (n : Nat) (most : Int) (M : List MO) (o : Out D) : Prop := ∃ p M', o = .ok (.tup (IL p)) M' ∧ Ord p ∧ (p.length : Int) ≤ most ∧ Dk n M' ∧ Only n M M'
theorem append_ok {N : Nat} {M : List MO} {l : List D} {d : D} (h : M[N]? = some (.lst l)) (hl : l.length ≤ 1000000) : opAppend (.ref N) [d] M = .ok .non (M.set N (.lst (l ++ [d]))) := by
  unfold opAppend
  dsimp only
  rw [h]
  dsimp only
  rw [if_pos (Nat.lt_of_le_of_lt hl (by decide))]
theorem total_map (l : List (Int × List Int)) : total l = (l.map fun z => (z.2.length : Int)).sum := rfl
theorem total_zs {base : List Int} {ps : List (List Int)} (h : base.length = ps.length) : total (zsOf base ps) = (ps.map fun p => (p.length : Int)).sum := by
  unfold total zsOf
  rw [List.map_map]
  have : (List.range base.length).map ((fun z : Int × List Int => (z.2.length : Int)) ∘ fun j => (base.getD j 0, ps.getD j [])) = ps.map fun p => (p.length : Int) := by
    apply List.ext_getElem
    · rw [List.length_map, List.length_map, List.length_range, h]
    · intro i h1 h2
      rw [List.length_map] at h2
      rw [List.getElem_map, List.getElem_range, List.getElem_map]
      show (((ps.getD i []).length : Nat) : Int) = _
      rw [List.getD_eq_getElem?_getD, List.getElem?_eq_getElem h2]
      rfl
  rw [this]
theorem zs_ord {base : List Int} {ps : List (List Int)} (h : base.length = ps.length) (hb : Ord base) (hp : ∀ p ∈ ps, Ord p) : (zsOf base ps).Pairwise (fun z z' => z.1 ≠ z'.1) ∧ ∀ z ∈ zsOf base ps, Ord z.2 := by
  constructor
  · unfold zsOf
    refine List.pairwise_map.mpr ((List.nodup_range (n := base.length)).imp_of_mem fun {i j} hi hj hne e => hne ?_)
    have hi' := List.mem_range.mp hi
    have hj' := List.mem_range.mp hj
    have e' : base[i] = base[j] := by
      have e2 : base.getD i 0 = base.getD j 0 := e
      rw [List.getD_eq_getElem?_getD, List.getD_eq_getElem?_getD, List.getElem?_eq_getElem hi', List.getElem?_eq_getElem hj'] at e2
      exact e2
    rcases Nat.lt_trichotomy i j with q | q | q
    · exact absurd e' (List.pairwise_iff_getElem.mp hb.nodup i j hi' hj' q)
    · exact q
    · exact absurd e'.symm (List.pairwise_iff_getElem.mp hb.nodup j i hj' hi' q)
  · intro z hz
    unfold zsOf at hz
    obtain ⟨j, hj, rfl⟩ := List.mem_map.mp hz
    have hj' := List.mem_range.mp hj
    refine hp _ ?_
    show ps.getD j [] ∈ ps
    rw [List.getD_eq_getElem?_getD, List.getElem?_eq_getElem (by omega)]
    exact List.getElem_mem _
theorem or_lt {f g : EvT} {env : Env} {M : List MO} {a b : Bool} (h1 : f env M = .ok a M) (h2 : g env M = .ok b M) : tOrE f g env M = .ok (a || b) M := by
  unfold tOrE
  rw [h1, Out.bind_ok]
  cases a with
  | true => rfl
  | false => rw [if_neg Bool.false_ne_true, h2]; rfl
theorem tBl_of {f : EvE} {env : Env} {M M1 : List MO} {b : Bool} (h : f env M = .ok (.bl b) M1) : tBl f env M = .ok b M1 := by
  unfold tBl
  rw [h]
  rfl
theorem tTru_of {f : EvE} {env : Env} {M M1 : List MO} {b : Bool} (h : f env M = .ok (.bl b) M1) : tTru f env M = .ok b M1 := by
  unfold tTru
  rw [h]
  rfl
theorem sIf_t {t : EvT} {u v : EvS} {env : Env} {M M1 : List MO} (h : t env M = .ok true M1) : sIf t u v env M = u env M1 := by
  unfold sIf
  rw [h, Out.bind_ok, if_pos rfl]
theorem sIf_f {t : EvT} {u v : EvS} {env : Env} {M M1 : List MO} (h : t env M = .ok false M1) : sIf t u v env M = v env M1 := by
  unfold sIf
  rw [h, Out.bind_ok, if_neg Bool.false_ne_true]
theorem sCons_nx {t u : EvS} {env e1 : Env} {M M1 : List MO} (h : t env M = .ok (.nx e1) M1) : sCons t u env M = u e1 M1 := by
  unfold sCons
  rw [h, Out.bind_ok, next_nx]
theorem sCons_rt {t u : EvS} {env : Env} {M M1 : List MO} {d : D} (h : t env M = .ok (.rt d) M1) : sCons t u env M = .ok (.rt d) M1 := by
  unfold sCons
  rw [h, Out.bind_ok, next_rt]
theorem sRet_of {f : EvE} {env : Env} {M M1 : List MO} {d : D} (h : f env M = .ok d M1) : sRet f env M = .ok (.rt d) M1 := by
  unfold sRet
  rw [h, Out.bind_ok]
theorem sAsg_of {f : EvE} {i : Nat} {env : Env} {M M1 : List MO} {d : D} (h : f env M = .ok d M1) : sAsg f (gtName i) env M = .ok (.nx (env.set i (some d))) M1 := by
  unfold sAsg
  rw [h]
  rfl
theorem fnF_only {n m : Nat} {body : EvS} {ds : List D} {M M1 : List MO} {d : D} (h : body (ds.map some ++ List.replicate (m - ds.length) none) M = .ok (.rt d) M1) (ho : Only n M M1) (hd : Dk n M1) (hr : noRef d) : fnF m body ds M = .ok d M1 := by
  rw [fnF_rtq h]
  exact gc_only ho hd hr
end SX
end
section
set_option Elab.async false
set_option linter.all false
set_option maxRecDepth 100000
set_option maxHeartbeats 1000000
open Classical
/-! SXv: places at which an order shows a pattern; the inverse order: as mathematics. -/
namespace SX
def at0 (l : List Int) (i : Int) : Int := l.getD i.toNat 0
theorem at0_get {l : List Int} {i : Nat} (h : i < l.length) : at0 l i = l[i] := by
  unfold at0
  rw [Int.toNat_natCast, List.getD_eq_getElem?_getD, List.getElem?_eq_getElem h]
  rfl
theorem at0_mem {l : List Int} {i : Int} (h0 : 0 ≤ i) (h1 : i < l.length) : at0 l i ∈ l := by
  obtain ⟨k, rfl⟩ := Int.eq_ofNat_of_zero_le h0
  rw [at0_get (by omega)]
  exact List.getElem_mem _
theorem at0_inj {l : List Int} (hn : l.Nodup) {i j : Int} (i0 : 0 ≤ i) (i1 : i < l.length) (j0 : 0 ≤ j) (j1 : j < l.length) (e : at0 l i = at0 l j) : i = j := by
  obtain ⟨a, rfl⟩ := Int.eq_ofNat_of_zero_le i0
  obtain ⟨b, rfl⟩ := Int.eq_ofNat_of_zero_le j0
  rw [at0_get (by omega), at0_get (by omega)] at e
  have := (List.getElem_inj hn).mp e
  omega
/-! ### pairs of a pattern's number and a place -/
/-- how two pairs stand -/
def Rp (row : List Int) (z z' : Int × Int) : Prop := z.2 < z'.2 ∧ (z.1 < z'.1 → at0 row z.2 < at0 row z'.2) ∧ (z'.1 < z.1 → at0 row z'.2 < at0 row z.2)
/-- the order shows the pattern's first j numbers at t -/
def Occ (row pat : List Int) (j : Nat) (t : List Int) : Prop := t.length = j ∧ (∀ x ∈ t, 0 ≤ x ∧ x < (row.length : Int)) ∧ ((pat.take j).zip t).Pairwise (Rp row)
def firstI (t : List Int) : Int := match t.getLast? with
  | some x => x + 1
  | none => 0
noncomputable def okN (row : List Int) (zs : List (Int × Int)) (mark x : Int) : Bool := zs.all fun z => decide ((z.1 < mark → at0 row z.2 < at0 row x) ∧ (mark < z.1 → at0 row x < at0 row z.2))
noncomputable def nextI (row pat t : List Int) : List Int := (rI (firstI t) ((row.length : Int) - firstI t).toNat).filter fun x => okN row (pat.zip t) (at0 pat t.length) x
noncomputable def placesI (row pat : List Int) : Nat → List (List Int)
  | 0 => [[]]
  | j + 1 => (placesI row pat j).flatMap fun t => (nextI row pat t).map fun x => t ++ [x]
theorem zip_take {pat t : List Int} (h : t.length ≤ pat.length) : pat.zip t = (pat.take t.length).zip t := by
  induction t generalizing pat with
  | nil => simp
  | cons x t ih =>
    cases pat with
    | nil => rfl
    | cons y pat => rw [List.zip_cons_cons, List.length_cons, List.take_succ_cons, List.zip_cons_cons, ih (by simpa using h)]
theorem mem_next {row pat t : List Int} {x : Int} (ht : t.length ≤ pat.length) (h0 : ∀ y ∈ t, 0 ≤ y) : x ∈ nextI row pat t ↔ firstI t ≤ x ∧ x < row.length ∧ ∀ z ∈ (pat.take t.length).zip t, (z.1 < at0 pat t.length → at0 row z.2 < at0 row x) ∧ (at0 pat t.length < z.1 → at0 row x < at0 row z.2) := by
  unfold nextI okN
  rw [List.mem_filter, rI_mem, List.all_eq_true, ← zip_take ht]
  simp only [decide_eq_true_eq]
  have hf : 0 ≤ firstI t := by
    unfold firstI
    split
    · rename_i y e
      have := h0 y (List.mem_of_getLast? e)
      omega
    · exact Int.le_refl _
  constructor
  · rintro ⟨⟨h1, h2⟩, h3⟩
    exact ⟨h1, by omega, h3⟩
  · rintro ⟨h1, h2, h3⟩
    exact ⟨⟨h1, by omega⟩, h3⟩
theorem occ_snoc {row pat t : List Int} {j : Nat} {x : Int} (hj : j < pat.length) (ht : t.length = j) : Occ row pat (j + 1) (t ++ [x]) ↔ Occ row pat j t ∧ 0 ≤ x ∧ x < row.length ∧ ∀ z ∈ (pat.take j).zip t, Rp row z (at0 pat j, x) := by
  unfold Occ
  have e1 : pat.take (j + 1) = pat.take j ++ [at0 pat j] := by
    rw [List.take_add_one, List.getElem?_eq_getElem hj, at0_get hj]; rfl
  have e2 : (pat.take (j + 1)).zip (t ++ [x]) = (pat.take j).zip t ++ [(at0 pat j, x)] := by
    rw [e1, List.zip_append (by rw [List.length_take, ht]; omega)]
    rfl
  rw [e2, List.pairwise_append, List.length_append]
  simp only [List.length_singleton, List.mem_append, List.mem_singleton, List.pairwise_singleton, true_and]
  constructor
  · rintro ⟨h1, h2, h3, h4⟩
    exact ⟨⟨ht, fun y hy => h2 y (.inl hy), h3⟩, (h2 x (.inr rfl)).1, (h2 x (.inr rfl)).2, fun z hz => h4 z hz _ rfl⟩
  · rintro ⟨⟨_, h2, h3⟩, h4, h5, h6⟩
    exact ⟨by omega, fun y hy => hy.elim (h2 y) fun e => by subst e; exact ⟨h4, h5⟩, h3, fun z hz b hb => by subst hb; exact h6 z hz⟩
theorem occ_asc {row pat t : List Int} {j : Nat} (hj : j ≤ pat.length) (h : Occ row pat j t) : t.Pairwise (· < ·) := by
  obtain ⟨h1, _, h3⟩ := h
  have : ((pat.take j).zip t).map Prod.snd = t := List.map_snd_zip (by rw [List.length_take, h1]; omega)
  rw [← this]
  exact List.pairwise_map.mpr (h3.imp fun h => h.1)
theorem mem_places {row pat : List Int} : ∀ {j : Nat}, j ≤ pat.length → ∀ t, t ∈ placesI row pat j ↔ Occ row pat j t
  | 0, _, t => by
    unfold placesI Occ
    rw [List.mem_singleton]
    constructor
    · rintro rfl
      exact ⟨rfl, (fun x hx => by cases hx), by simp⟩
    · exact fun h => List.length_eq_zero_iff.mp h.1
  | j + 1, hj, t => by
    have ih := mem_places (row := row) (pat := pat) (j := j) (by omega)
    unfold placesI
    rw [List.mem_flatMap]
    constructor
    · rintro ⟨u, hu, hx⟩
      obtain ⟨x, hx2, rfl⟩ := List.mem_map.mp hx
      have ho := (ih u).mp hu
      have hl := ho.1
      rw [mem_next (by omega) (fun y hy => (ho.2.1 y hy).1), hl] at hx2
      obtain ⟨h1, h2, h3⟩ := hx2
      have hf : 0 ≤ firstI u := by
        unfold firstI
        split
        · rename_i y e
          have := (ho.2.1 y (List.mem_of_getLast? e)).1
          omega
        · exact Int.le_refl _
      refine (occ_snoc (by omega) hl).mpr ⟨ho, by omega, h2, fun z hz => ⟨?_, (h3 z hz).1, (h3 z hz).2⟩⟩
      have hm : z.2 ∈ u := (List.of_mem_zip (a := z.1) (b := z.2) hz).2
      have asc := occ_asc (by omega) ho
      show z.2 < x
      unfold firstI at h1
      cases e : u.getLast? with
      | none =>
        rw [List.getLast?_eq_none_iff] at e
        rw [e] at hm
        cases hm
      | some y =>
        rw [e] at h1
        have h1 : y + 1 ≤ x := h1
        obtain ⟨v, rfl⟩ : ∃ v, u = v ++ [y] := by
          rw [List.getLast?_eq_some_iff] at e
          exact e
        rw [List.pairwise_append] at asc
        rcases List.mem_append.mp hm with q | q
        · have := asc.2.2 _ q y List.mem_cons_self
          omega
        · have : z.2 = y := by simpa using q
          omega
    · intro h
      have hne : t ≠ [] := fun e => by rw [e] at h; exact absurd h.1 (by simp)
      obtain ⟨u, x, rfl⟩ : ∃ u x, t = u ++ [x] := ⟨t.dropLast, t.getLast hne, (List.dropLast_concat_getLast hne).symm⟩
      have hl : u.length = j := by have := h.1; rw [List.length_append] at this; simpa using this
      obtain ⟨ho, x0, x1, hz⟩ := (occ_snoc (by omega) hl).mp h
      refine ⟨u, (ih u).mpr ho, List.mem_map.mpr ⟨x, ?_, rfl⟩⟩
      rw [mem_next (by omega) (fun y hy => (ho.2.1 y hy).1), hl]
      refine ⟨?_, x1, fun z hzm => (hz z hzm).2⟩
      unfold firstI
      split
      · rename_i y e
        rw [List.getLast?_eq_some_iff] at e
        obtain ⟨v, rfl⟩ := e
        have : ∃ m, (m, y) ∈ (pat.take j).zip (v ++ [y]) := by
          have e2 : ((pat.take j).zip (v ++ [y])).map Prod.snd = v ++ [y] := List.map_snd_zip (by rw [List.length_take, hl]; omega)
          have : y ∈ ((pat.take j).zip (v ++ [y])).map Prod.snd := by rw [e2]; simp
          obtain ⟨z, hz1, hz2⟩ := List.mem_map.mp this
          exact ⟨z.1, by rw [show (z.1, y) = z from by rw [← hz2]]; exact hz1⟩
        obtain ⟨m, hm⟩ := this
        have := (hz _ hm).1
        have h2 : y < x := this
        omega
      · exact x0
/-! ### their sequence -/
theorem lt_snoc_of {a b : List Int} (hl : a.length = b.length) (h : a < b) (x y : Int) : a ++ [x] < b ++ [y] := by
  induction a generalizing b with
  | nil =>
    cases b with
    | nil => exact absurd h (List.lt_irrefl _)
    | cons _ _ => cases hl
  | cons u a ih =>
    cases b with
    | nil => cases hl
    | cons v b =>
      rw [List.cons_append, List.cons_append]
      rw [List.cons_lt_cons_iff] at h ⊢
      rcases h with h | ⟨h1, h2⟩
      · exact .inl h
      · exact .inr ⟨h1, ih (by simpa using hl) h2⟩
theorem lt_snoc {a : List Int} {x y : Int} (h : x < y) : a ++ [x] < a ++ [y] := by
  induction a with
  | nil => rw [List.nil_append, List.nil_append, List.cons_lt_cons_iff]; exact .inl h
  | cons u a ih => rw [List.cons_append, List.cons_append, List.cons_lt_cons_iff]; exact .inr ⟨rfl, ih⟩
theorem places_len {row pat : List Int} : ∀ {j : Nat} {t : List Int}, t ∈ placesI row pat j → t.length = j
  | 0, t, h => by
    unfold placesI at h
    rw [List.mem_singleton] at h
    rw [h]; rfl
  | j + 1, t, h => by
    unfold placesI at h
    obtain ⟨u, hu, hx⟩ := List.mem_flatMap.mp h
    obtain ⟨x, _, rfl⟩ := List.mem_map.mp hx
    rw [List.length_append, places_len hu]
    rfl
theorem next_asc (row pat t : List Int) : (nextI row pat t).Pairwise (· < ·) := (rI_sorted _ _).sublist List.filter_sublist
theorem places_asc (row pat : List Int) : ∀ j : Nat, (placesI row pat j).Pairwise (· < ·)
  | 0 => by unfold placesI; exact List.pairwise_singleton _ _
  | j + 1 => by
    unfold placesI
    rw [List.flatMap_def]
    refine List.pairwise_flatten.mpr ⟨fun l hl => ?_, ?_⟩
    · obtain ⟨t, _, rfl⟩ := List.mem_map.mp hl
      exact List.pairwise_map.mpr ((next_asc row pat t).imp lt_snoc)
    · refine List.pairwise_map.mpr ((places_asc row pat j).imp_of_mem fun {a b} ha hb h x hx y hy => ?_)
      obtain ⟨u, _, rfl⟩ := List.mem_map.mp hx
      obtain ⟨v, _, rfl⟩ := List.mem_map.mp hy
      exact lt_snoc_of (by rw [places_len ha, places_len hb]) h u v
/-- sorted as tuples -/
def msL (l : List (List Int)) : List (List Int) := l.mergeSort fun a b => decide (a ≤ b)
theorem msL_perm (l : List (List Int)) : (msL l).Perm l := List.mergeSort_perm _ _
theorem msL_sorted (l : List (List Int)) : (msL l).Pairwise (· ≤ ·) :=
  (List.pairwise_mergeSort (le := fun a b : List Int => decide (a ≤ b)) (fun a b c h1 h2 => by simp only [decide_eq_true_eq] at h1 h2 ⊢; exact List.le_trans h1 h2) (fun a b => by simp only [Bool.or_eq_true, decide_eq_true_eq]; exact List.le_total a b) l).imp fun h => by simpa using h
theorem lt_nodup {l : List (List Int)} (h : l.Pairwise (· < ·)) : l.Nodup := h.imp fun {a b} h e => by subst e; exact List.lt_irrefl _ h
theorem msL_eq {l m : List (List Int)} (hm : m.Pairwise (· < ·)) (hl : l.Nodup) (h : ∀ t, t ∈ l ↔ t ∈ m) : msL l = m := by
  have hp : l.Perm m := (List.perm_ext_iff_of_nodup hl (lt_nodup hm)).mpr h
  exact ((msL_perm l).trans hp).eq_of_pairwise (fun a b _ _ h1 h2 => List.le_antisymm h1 h2) (msL_sorted l) (hm.imp fun h => List.le_of_lt h)
end SX
end
section
set_option Elab.async false
set_option linter.all false
set_option maxRecDepth 100000
set_option maxHeartbeats 1000000
open Classical
/-! SXw: places of the order turned about, mirrored, inverse. -/
namespace SX
theorem occ_whole {row pat t : List Int} : Occ row pat pat.length t ↔ t.length = pat.length ∧ (∀ x ∈ t, 0 ≤ x ∧ x < (row.length : Int)) ∧ (pat.zip t).Pairwise (Rp row) := by
  unfold Occ
  rw [List.take_length]
/-! ### turned about -/
def backI (n : Nat) (t : List Int) : List Int := t.reverse.map fun x => (n : Int) - 1 - x
theorem back_back (n : Nat) (t : List Int) : backI n (backI n t) = t := by
  unfold backI
  rw [← List.map_reverse, List.reverse_reverse, List.map_map]
  have : ((fun x => (n : Int) - 1 - x) ∘ fun x => (n : Int) - 1 - x) = id := by funext x; show (n : Int) - 1 - (n - 1 - x) = x; omega
  rw [this, List.map_id]
theorem at0_rev {row : List Int} {x : Int} (h0 : 0 ≤ x) (h1 : x < row.length) : at0 row.reverse ((row.length : Int) - 1 - x) = at0 row x := by
  obtain ⟨i, rfl⟩ := Int.eq_ofNat_of_zero_le h0
  have e : (row.length : Int) - 1 - (i : Int) = ((row.length - 1 - i : Nat) : Int) := by omega
  rw [e, at0_get (by rw [List.length_reverse]; omega), at0_get (by omega), List.getElem_reverse]
  congr 1
  omega
theorem zip_rev : ∀ {a b : List Int}, a.length = b.length → a.reverse.zip b.reverse = (a.zip b).reverse
  | [], [], _ => rfl
  | x :: a, y :: b, h => by
    have h' : a.length = b.length := by simpa using h
    rw [List.reverse_cons, List.reverse_cons, List.zip_append (by rw [List.length_reverse, List.length_reverse, h']), zip_rev h']
    show _ = ((x, y) :: a.zip b).reverse
    rw [List.reverse_cons]
    rfl
theorem pw_mem {α : Type} {R S : α → α → Prop} {l : List α} (h : l.Pairwise R) (i : ∀ a ∈ l, ∀ b ∈ l, R a b → S a b) : l.Pairwise S := h.imp_of_mem fun ha hb r => i _ ha _ hb r
theorem occ_back {row pat t : List Int} (h : Occ row pat pat.length t) : Occ row.reverse pat.reverse pat.length (backI row.length t) := by
  have hl : pat.reverse.length = pat.length := List.length_reverse
  rw [← hl, occ_whole, List.length_reverse]
  obtain ⟨h1, h2, h3⟩ := occ_whole.mp h
  refine ⟨by unfold backI; rw [List.length_map, List.length_reverse, h1], fun x hx => ?_, ?_⟩
  · unfold backI at hx
    obtain ⟨y, hy, rfl⟩ := List.mem_map.mp hx
    have := h2 y (List.mem_reverse.mp hy)
    rw [List.length_reverse]
    omega
  · unfold backI
    rw [List.zip_map_right, zip_rev h1.symm]
    refine List.pairwise_map.mpr (List.pairwise_reverse.mpr (pw_mem h3 fun a ha b hb r => ?_))
    have ba := h2 a.2 (List.of_mem_zip (a := a.1) (b := a.2) ha).2
    have bb := h2 b.2 (List.of_mem_zip (a := b.1) (b := b.2) hb).2
    obtain ⟨r1, r2, r3⟩ := r
    refine ⟨?_, fun q => ?_, fun q => ?_⟩
    · show (row.length : Int) - 1 - b.2 < (row.length : Int) - 1 - a.2
      omega
    · show at0 row.reverse ((row.length : Int) - 1 - b.2) < at0 row.reverse ((row.length : Int) - 1 - a.2)
      rw [at0_rev ba.1 ba.2, at0_rev bb.1 bb.2]
      exact r3 q
    · show at0 row.reverse ((row.length : Int) - 1 - a.2) < at0 row.reverse ((row.length : Int) - 1 - b.2)
      rw [at0_rev ba.1 ba.2, at0_rev bb.1 bb.2]
      exact r2 q
theorem back_places (row pat : List Int) : msL ((placesI row pat pat.length).map (backI row.length)) = placesI row.reverse pat.reverse pat.length := by
  refine msL_eq (places_asc _ _ _) ?_ fun u => ?_
  · refine List.pairwise_map.mpr ((lt_nodup (places_asc row pat pat.length)).imp fun {a b} h e => h ?_)
    rw [← back_back row.length a, e, back_back]
  · rw [mem_places (by rw [List.length_reverse]; exact Nat.le_refl _), List.mem_map]
    constructor
    · rintro ⟨t, ht, rfl⟩
      exact occ_back ((mem_places (Nat.le_refl _) t).mp ht)
    · intro h
      refine ⟨backI row.length u, (mem_places (Nat.le_refl _) _).mpr ?_, back_back _ _⟩
      have hr : pat.reverse.length = pat.length := List.length_reverse
      have := occ_back (row := row.reverse) (pat := pat.reverse) (t := u) (by rw [hr]; exact h)
      rw [List.reverse_reverse, List.reverse_reverse, hr, List.length_reverse] at this
      exact this
/-! ### mirrored -/
theorem at0_mir {row : List Int} {x : Int} (h0 : 0 ≤ x) (h1 : x < row.length) : at0 (mirI row) x = (row.length : Int) + 1 - at0 row x := by
  obtain ⟨i, rfl⟩ := Int.eq_ofNat_of_zero_le h0
  rw [at0_get (by rw [mir_length]; omega), at0_get (by omega)]
  unfold mirI
  rw [List.getElem_map]
theorem occ_mir {row pat t : List Int} (h : Occ row pat pat.length t) : Occ (mirI row) (mirI pat) pat.length t := by
  have hl := mir_length pat
  obtain ⟨h1, h2, h3⟩ := occ_whole.mp h
  rw [← hl, occ_whole, mir_length, mir_length]
  refine ⟨h1, h2, ?_⟩
  unfold mirI
  rw [List.zip_map_left]
  refine List.pairwise_map.mpr (pw_mem h3 fun a ha b hb r => ?_)
  have ba := h2 a.2 (List.of_mem_zip (a := a.1) (b := a.2) ha).2
  have bb := h2 b.2 (List.of_mem_zip (a := b.1) (b := b.2) hb).2
  obtain ⟨r1, r2, r3⟩ := r
  refine ⟨r1, fun q => ?_, fun q => ?_⟩
  · show at0 (mirI row) a.2 < at0 (mirI row) b.2
    rw [at0_mir ba.1 ba.2, at0_mir bb.1 bb.2]
    have q : (pat.length : Int) + 1 - a.1 < (pat.length : Int) + 1 - b.1 := q
    have := r3 (by omega)
    omega
  · show at0 (mirI row) b.2 < at0 (mirI row) a.2
    rw [at0_mir ba.1 ba.2, at0_mir bb.1 bb.2]
    have q : (pat.length : Int) + 1 - b.1 < (pat.length : Int) + 1 - a.1 := q
    have := r2 (by omega)
    omega
theorem asc_ext {l m : List (List Int)} (hl : l.Pairwise (· < ·)) (hm : m.Pairwise (· < ·)) (h : ∀ t, t ∈ l ↔ t ∈ m) : l = m :=
  ((List.perm_ext_iff_of_nodup (lt_nodup hl) (lt_nodup hm)).mpr h).eq_of_pairwise (fun a b _ _ h1 h2 => absurd (List.lt_trans h1 h2) (List.lt_irrefl _)) hl hm
theorem mir_places (row pat : List Int) : placesI (mirI row) (mirI pat) pat.length = placesI row pat pat.length := by
  have hl := mir_length pat
  refine asc_ext (places_asc _ _ _) (places_asc _ _ _) fun t => ?_
  rw [mem_places (by omega), mem_places (Nat.le_refl _)]
  refine ⟨fun h => ?_, occ_mir⟩
  have := occ_mir (row := mirI row) (pat := mirI pat) (t := t) (by rw [hl]; exact h)
  rw [mir_mir, mir_mir, hl] at this
  exact this
/-! ### inverse -/
def invI (p : List Int) : List Int := (rI 1 p.length).map fun i => (p.idxOf i : Int) + 1
theorem inv_length (p : List Int) : (invI p).length = p.length := by unfold invI; rw [List.length_map, rI_length]
theorem at0_rI {n : Nat} {x : Int} (h0 : 0 ≤ x) (h1 : x < n) : at0 (rI 1 n) x = x + 1 := by
  obtain ⟨i, rfl⟩ := Int.eq_ofNat_of_zero_le h0
  rw [at0_get (by rw [rI_length]; omega)]
  unfold rI
  rw [List.getElem_map, List.getElem_range]
  omega
theorem at0_map {l : List Int} {f : Int → Int} {x : Int} (h0 : 0 ≤ x) (h1 : x < l.length) : at0 (l.map f) x = f (at0 l x) := by
  obtain ⟨i, rfl⟩ := Int.eq_ofNat_of_zero_le h0
  rw [at0_get (by rw [List.length_map]; omega), at0_get (by omega), List.getElem_map]
theorem at0_inv {p : List Int} {x : Int} (h0 : 0 ≤ x) (h1 : x < p.length) : at0 (invI p) x = (p.idxOf (x + 1) : Int) + 1 := by
  unfold invI
  rw [at0_map h0 (by rw [rI_length]; exact h1), at0_rI h0 h1]
theorem idx_at {p : List Int} (hn : p.Nodup) {x : Int} (h0 : 0 ≤ x) (h1 : x < p.length) : (p.idxOf (at0 p x) : Int) = x := by
  obtain ⟨i, rfl⟩ := Int.eq_ofNat_of_zero_le h0
  rw [at0_get (by omega)]
  have := List.Nodup.idxOf_getElem hn i (by omega)
  omega
theorem at_idx {p : List Int} {v : Int} (h : v ∈ p) : at0 p (p.idxOf v : Int) = v := by
  rw [at0_get (List.idxOf_lt_length_iff.mpr h)]
  exact List.getElem_idxOf _
/-- the place of a number, the number of a place -/
theorem inv_at {p : List Int} (h : Ord p) {x : Int} (h0 : 0 ≤ x) (h1 : x < p.length) : at0 (invI p) (at0 p x - 1) = x + 1 := by
  have hm := h.mem.mp (at0_mem h0 h1)
  rw [at0_inv (by omega) (by omega), Int.sub_add_cancel, idx_at h.nodup h0 h1]
theorem at_inv {p : List Int} (h : Ord p) {x : Int} (h0 : 0 ≤ x) (h1 : x < p.length) : at0 p (at0 (invI p) x - 1) = x + 1 := by
  rw [at0_inv h0 h1, Int.add_sub_cancel]
  exact at_idx (h.mem.mpr (by omega))
theorem inv_rg {p : List Int} (h : Ord p) {x : Int} (h0 : 0 ≤ x) (h1 : x < p.length) : 1 ≤ at0 (invI p) x ∧ at0 (invI p) x ≤ p.length := by
  rw [at0_inv h0 h1]
  have := List.idxOf_lt_length_iff.mpr (h.mem.mpr (show 1 ≤ x + 1 ∧ x + 1 < 1 + (p.length : Int) by omega))
  omega
theorem mem_at0 {p : List Int} {v : Int} (h : v ∈ p) : ∃ x : Int, 0 ≤ x ∧ x < p.length ∧ at0 p x = v := by
  obtain ⟨i, hi, e⟩ := List.getElem_of_mem h
  exact ⟨i, by omega, by omega, by rw [at0_get hi, e]⟩
theorem nodup_at0 {p : List Int} (h : ∀ x y : Int, 0 ≤ x → x < p.length → 0 ≤ y → y < p.length → at0 p x = at0 p y → x = y) : p.Nodup := by
  refine List.pairwise_iff_getElem.mpr fun i j hi hj hij e => ?_
  have := h i j (by omega) (by omega) (by omega) (by omega) (by rw [at0_get hi, at0_get hj]; exact e)
  omega
theorem inv_ord {p : List Int} (h : Ord p) : Ord (invI p) := by
  refine ord_of_mem (nodup_at0 fun x y x0 x1 y0 y1 e => ?_) fun v hv => ?_
  · rw [inv_length] at x1 y1
    have a := at_inv h x0 x1
    have b := at_inv h y0 y1
    rw [e, b] at a
    omega
  · obtain ⟨x, x0, x1, rfl⟩ := mem_at0 hv
    rw [inv_length] at x1 ⊢
    exact inv_rg h x0 x1
theorem at0_ext {a b : List Int} (hl : a.length = b.length) (h : ∀ x : Int, 0 ≤ x → x < a.length → at0 a x = at0 b x) : a = b := by
  refine List.ext_getElem hl fun i h1 h2 => ?_
  have := h i (by omega) (by omega)
  rwa [at0_get h1, at0_get h2] at this
theorem inv_inv {p : List Int} (h : Ord p) : invI (invI p) = p := by
  refine at0_ext (by rw [inv_length, inv_length]) fun x x0 x1 => ?_
  rw [inv_length, inv_length] at x1
  have hm := h.mem.mp (at0_mem x0 x1)
  have e := inv_at h x0 x1
  have := inv_at (inv_ord h) (x := at0 p x - 1) (by omega) (by rw [inv_length]; omega)
  rw [e, Int.add_sub_cancel] at this
  omega
def acrossI (row t : List Int) : List Int := msI (t.map fun x => at0 row x - 1)
/-- the numbers of the places, in the sequence of the pattern's numbers -/
def crossU (row pat t : List Int) : List Int := (invI pat).map fun m => at0 row (at0 t (m - 1)) - 1
theorem occ_at {row pat t : List Int} (h : Occ row pat pat.length t) {i j : Int} (i0 : 0 ≤ i) (hij : i < j) (j1 : j < pat.length) : Rp row (at0 pat i, at0 t i) (at0 pat j, at0 t j) := by
  obtain ⟨h1, h2, h3⟩ := occ_whole.mp h
  obtain ⟨a, rfl⟩ := Int.eq_ofNat_of_zero_le i0
  obtain ⟨b, rfl⟩ := Int.eq_ofNat_of_zero_le (by omega : 0 ≤ j)
  have hz : (pat.zip t).length = pat.length := by rw [List.length_zip, h1, Nat.min_self]
  have := List.pairwise_iff_getElem.mp h3 a b (by omega) (by omega) (by omega)
  rw [List.getElem_zip, List.getElem_zip] at this
  rw [at0_get (by omega), at0_get (by omega), at0_get (by omega), at0_get (by omega)]
  exact this
/-- numbers compare as the pattern's -/
theorem occ_lt {row pat t : List Int} (h : Occ row pat pat.length t) {i j : Int} (i0 : 0 ≤ i) (i1 : i < pat.length) (j0 : 0 ≤ j) (j1 : j < pat.length) (hlt : at0 pat i < at0 pat j) : at0 row (at0 t i) < at0 row (at0 t j) := by
  rcases Int.lt_trichotomy i j with q | q | q
  · exact (occ_at h i0 q j1).2.1 hlt
  · subst q; exact absurd hlt (Int.lt_irrefl _)
  · exact (occ_at h j0 q i1).2.2 hlt
theorem cross_length (row pat t : List Int) : (crossU row pat t).length = pat.length := by unfold crossU; rw [List.length_map, inv_length]
theorem cross_at {row pat t : List Int} {x : Int} (h0 : 0 ≤ x) (h1 : x < pat.length) : at0 (crossU row pat t) x = at0 row (at0 t (at0 (invI pat) x - 1)) - 1 := by
  unfold crossU
  rw [at0_map h0 (by rw [inv_length]; exact h1)]
theorem cross_perm {row pat t : List Int} (hp : Ord pat) (ht : t.length = pat.length) : (crossU row pat t).Perm (t.map fun x => at0 row x - 1) := by
  have h1 : (invI pat).Perm (rI 1 pat.length) := by
    have := inv_ord hp
    unfold Ord at this
    rwa [inv_length] at this
  unfold crossU
  refine (h1.map _).trans ?_
  have : (rI 1 pat.length).map (fun m => at0 row (at0 t (m - 1)) - 1) = t.map fun x => at0 row x - 1 := by
    refine at0_ext (by rw [List.length_map, List.length_map, rI_length, ht]) fun x x0 x1 => ?_
    rw [List.length_map, rI_length] at x1
    rw [at0_map x0 (by rw [rI_length]; exact x1), at0_map x0 (by omega), at0_rI x0 x1, Int.add_sub_cancel]
  rw [this]
theorem pw_at0 {l : List Int} {R : Int → Int → Prop} (h : ∀ x y : Int, 0 ≤ x → x < y → y < l.length → R (at0 l x) (at0 l y)) : l.Pairwise R := by
  refine List.pairwise_iff_getElem.mpr fun i j hi hj hij => ?_
  have := h i j (by omega) (by omega) (by omega)
  rwa [at0_get hi, at0_get hj] at this
theorem cross_asc {row pat t : List Int} (hp : Ord pat) (h : Occ row pat pat.length t) : (crossU row pat t).Pairwise (· < ·) := by
  refine pw_at0 fun x y x0 xy y1 => ?_
  rw [cross_length] at y1
  rw [cross_at x0 (by omega), cross_at (by omega) y1]
  have a := inv_rg hp x0 (by omega)
  have b := inv_rg hp (x := y) (by omega) y1
  have := occ_lt h (i := at0 (invI pat) x - 1) (j := at0 (invI pat) y - 1) (by omega) (by omega) (by omega) (by omega) (by
    rw [at_inv hp x0 (by omega), at_inv hp (by omega) y1]; omega)
  omega
theorem across_eq {row pat t : List Int} (hp : Ord pat) (h : Occ row pat pat.length t) : acrossI row t = crossU row pat t := by
  obtain ⟨h1, _, _⟩ := occ_whole.mp h
  exact (msI_eq ((cross_asc hp h).imp Int.le_of_lt)).mpr (cross_perm hp h1).symm
theorem t_at {row pat t : List Int} (h : Occ row pat pat.length t) {x : Int} (h0 : 0 ≤ x) (h1 : x < pat.length) : 0 ≤ at0 t x ∧ at0 t x < row.length := by
  obtain ⟨a, b, _⟩ := occ_whole.mp h
  exact b _ (at0_mem h0 (by omega))
theorem occ_across {row pat t : List Int} (hr : Ord row) (hp : Ord pat) (h : Occ row pat pat.length t) : Occ (invI row) (invI pat) pat.length (acrossI row t) := by
  rw [across_eq hp h]
  have hl := inv_length pat
  rw [← hl, occ_whole, cross_length, inv_length, inv_length]
  have tr : ∀ {x : Int}, 0 ≤ x → x < pat.length → 0 ≤ at0 t (at0 (invI pat) x - 1) ∧ at0 t (at0 (invI pat) x - 1) < row.length := fun {x} x0 x1 => by
    have a := inv_rg hp x0 x1
    exact t_at h (by omega) (by omega)
  refine ⟨rfl, fun v hv => ?_, ?_⟩
  · obtain ⟨x, x0, x1, rfl⟩ := mem_at0 hv
    rw [cross_length] at x1
    rw [cross_at x0 x1]
    have := tr x0 x1
    have := hr.mem.mp (at0_mem this.1 this.2)
    omega
  · have asc := cross_asc hp h
    refine List.pairwise_iff_getElem.mpr fun i j hi hj hij => ?_
    have hz : ((invI pat).zip (crossU row pat t)).length = pat.length := by rw [List.length_zip, inv_length, cross_length, Nat.min_self]
    rw [List.getElem_zip, List.getElem_zip]
    have ci : i < (crossU row pat t).length := by rw [cross_length]; omega
    have cj : j < (crossU row pat t).length := by rw [cross_length]; omega
    have ii : i < (invI pat).length := by rw [inv_length]; omega
    have ij : j < (invI pat).length := by rw [inv_length]; omega
    have e1 := at0_get ci
    have e2 := at0_get cj
    have e3 := at0_get ii
    have e4 := at0_get ij
    rw [← e1, ← e2, ← e3, ← e4]
    have x0 : (0 : Int) ≤ i := by omega
    have x1 : (i : Int) < pat.length := by omega
    have y0 : (0 : Int) ≤ j := by omega
    have y1 : (j : Int) < pat.length := by omega
    have ra := inv_rg hp x0 x1
    have rb := inv_rg hp y0 y1
    have ta := tr x0 x1
    have tb := tr y0 y1
    have ia : at0 (invI row) (at0 (crossU row pat t) i) = at0 t (at0 (invI pat) i - 1) + 1 := by rw [cross_at x0 x1, inv_at hr ta.1 ta.2]
    have ib : at0 (invI row) (at0 (crossU row pat t) j) = at0 t (at0 (invI pat) j - 1) + 1 := by rw [cross_at y0 y1, inv_at hr tb.1 tb.2]
    refine ⟨?_, fun q => ?_, fun q => ?_⟩
    · show at0 (crossU row pat t) i < at0 (crossU row pat t) j
      rw [e1, e2]
      exact List.pairwise_iff_getElem.mp asc i j ci cj hij
    · show at0 (invI row) (at0 (crossU row pat t) i) < at0 (invI row) (at0 (crossU row pat t) j)
      have q : at0 (invI pat) i < at0 (invI pat) j := q
      rw [ia, ib]
      have := (occ_at h (i := at0 (invI pat) i - 1) (j := at0 (invI pat) j - 1) (by omega) (by omega) (by omega)).1
      have this : at0 t (at0 (invI pat) i - 1) < at0 t (at0 (invI pat) j - 1) := this
      omega
    · show at0 (invI row) (at0 (crossU row pat t) j) < at0 (invI row) (at0 (crossU row pat t) i)
      have q : at0 (invI pat) j < at0 (invI pat) i := q
      rw [ia, ib]
      have := (occ_at h (i := at0 (invI pat) j - 1) (j := at0 (invI pat) i - 1) (by omega) (by omega) (by omega)).1
      have this : at0 t (at0 (invI pat) j - 1) < at0 t (at0 (invI pat) i - 1) := this
      omega
theorem across_across {row pat t : List Int} (hr : Ord row) (hp : Ord pat) (h : Occ row pat pat.length t) : acrossI (invI row) (acrossI row t) = t := by
  obtain ⟨h1, h2, _⟩ := occ_whole.mp h
  have asc := occ_asc (Nat.le_refl _) h
  unfold acrossI
  refine (msI_eq (asc.imp Int.le_of_lt)).mpr ?_
  refine ((msI_perm (t.map fun x => at0 row x - 1)).map _).trans ?_
  rw [List.map_map]
  have : t.map ((fun x => at0 (invI row) x - 1) ∘ fun x => at0 row x - 1) = t.map id := List.map_congr_left fun x hx => by
    show at0 (invI row) (at0 row x - 1) - 1 = x
    rw [inv_at hr (h2 x hx).1 (h2 x hx).2]
    omega
  rw [this, List.map_id]
theorem across_places {row pat : List Int} (hr : Ord row) (hp : Ord pat) : msL ((placesI row pat pat.length).map (acrossI row)) = placesI (invI row) (invI pat) pat.length := by
  have hl := inv_length pat
  refine msL_eq (places_asc _ _ _) ?_ fun u => ?_
  · refine List.pairwise_map.mpr ((lt_nodup (places_asc row pat pat.length)).imp_of_mem fun {a b} ha hb h e => h ?_)
    rw [← across_across hr hp ((mem_places (Nat.le_refl _) a).mp ha), e, across_across hr hp ((mem_places (Nat.le_refl _) b).mp hb)]
  · rw [mem_places (by omega), List.mem_map]
    constructor
    · rintro ⟨t, ht, rfl⟩
      exact occ_across hr hp ((mem_places (Nat.le_refl _) t).mp ht)
    · intro h
      have h' : Occ (invI row) (invI pat) (invI pat).length u := by rw [hl]; exact h
      have a := occ_across (inv_ord hr) (inv_ord hp) h'
      rw [inv_inv hr, inv_inv hp, hl] at a
      have b := across_across (inv_ord hr) (inv_ord hp) h'
      rw [inv_inv hr] at b
      exact ⟨acrossI (invI row) u, (mem_places (Nat.le_refl _) _).mpr a, b⟩
/-! ### one behind the other -/
theorem rev_inv {p : List Int} (h : Ord p) : invI p.reverse = mirI (invI p) := by
  have hr := ord_rev h
  have hrl : p.reverse.length = p.length := List.length_reverse
  refine at0_ext (by rw [inv_length, mir_length, inv_length, hrl]) fun x x0 x1 => ?_
  rw [inv_length, hrl] at x1
  rw [at0_mir x0 (by rw [inv_length]; exact x1), inv_length]
  have a := inv_rg h x0 x1
  have e1 := at_inv h x0 x1
  have e2 : at0 p.reverse ((p.length : Int) - at0 (invI p) x) = x + 1 := by
    have := at0_rev (row := p) (x := at0 (invI p) x - 1) (by omega) (by omega)
    rw [show (p.length : Int) - 1 - (at0 (invI p) x - 1) = (p.length : Int) - at0 (invI p) x by omega] at this
    rw [this, e1]
  have e3 := inv_at hr (x := (p.length : Int) - at0 (invI p) x) (by omega) (by rw [hrl]; omega)
  rw [e2, Int.add_sub_cancel] at e3
  omega
end SX
end
section
set_option Elab.async false
set_option linter.all false
set_option maxRecDepth 100000
set_option maxHeartbeats 1000000
open Classical
/-! SXx: reckoning: comprehensions of two clauses, over pairs; sorted tuples. -/
namespace SX
open PySem (sizeLine PyData)
theorem compL2_pure {chk : List MO → Prop} {c c1 : CT} {t t1 : EvT} {it1 : EvI} {vs1 : List Nat} {f : EvE} {env : Env} {M : List MO} {pe : D → Env} {tb : D → Bool} {chk1 : List MO → Prop} {ds1 : D → List D} {pe1 : D → D → Env} {tb1 : D → D → Bool} {y : D → D → D} : ∀ (ds : List D) (acc : List D),
    (∀ acc, chk (M ++ [.lst acc])) → (∀ acc, chk1 (M ++ [.lst acc])) → (∀ d ∈ ds, c.put d env = some (pe d)) → (∀ d ∈ ds, ∀ acc, t (pe d) (M ++ [.lst acc]) = .ok (tb d) (M ++ [.lst acc])) →
    (∀ d ∈ ds, tb d = true → ∀ acc, it1 (pe d) (M ++ [.lst acc]) = .ok ⟨ds1 d, chk1⟩ (M ++ [.lst acc])) → (∀ d ∈ ds, ∀ e ∈ ds1 d, c1.put e (wipeE (pe d) vs1) = some (pe1 d e)) →
    (∀ d ∈ ds, ∀ e ∈ ds1 d, ∀ acc, t1 (pe1 d e) (M ++ [.lst acc]) = .ok (tb1 d e) (M ++ [.lst acc])) → (∀ d ∈ ds, ∀ e ∈ ds1 d, tb1 d e = true → ∀ acc, f (pe1 d e) (M ++ [.lst acc]) = .ok (y d e) (M ++ [.lst acc])) →
    acc.length + ((ds.map fun d => (ds1 d).length).sum) ≤ sizeLine → compL2 chk c t it1 c1 vs1 t1 f env M.length ds (M ++ [.lst acc]) = .ok () (M ++ [.lst (acc ++ (ds.filter tb).flatMap fun d => ((ds1 d).filter (tb1 d)).map (y d))])
  | [], acc, hc, _, _, _, _, _, _, _, _ => by
    unfold compL2
    rw [if_pos (hc acc)]
    simp
  | d :: r, acc, hc, hc1, hp, ht, hi, hp1, ht1, hf, hl => by
    have hd : d ∈ d :: r := List.mem_cons_self
    have sub : ∀ x ∈ r, x ∈ d :: r := fun x hx => List.mem_cons_of_mem _ hx
    rw [List.map_cons, List.sum_cons] at hl
    have rec_ : ∀ acc : List D, acc.length + ((r.map fun d => (ds1 d).length).sum) ≤ sizeLine → compL2 chk c t it1 c1 vs1 t1 f env M.length r (M ++ [.lst acc]) = .ok () (M ++ [.lst (acc ++ (r.filter tb).flatMap fun d => ((ds1 d).filter (tb1 d)).map (y d))]) := fun acc hz =>
      compL2_pure r acc hc hc1 (fun x hx => hp x (sub x hx)) (fun x hx => ht x (sub x hx)) (fun x hx => hi x (sub x hx)) (fun x hx => hp1 x (sub x hx)) (fun x hx => ht1 x (sub x hx)) (fun x hx => hf x (sub x hx)) hz
    unfold compL2
    rw [if_pos (hc acc), hp d hd]
    dsimp only
    rw [ht d hd acc, Out.bindN_ok]
    cases e : tb d with
    | false =>
      rw [if_neg Bool.false_ne_true, rec_ acc (by omega), List.filter_cons_of_neg (by rw [e]; exact Bool.false_ne_true)]
    | true =>
      rw [if_pos rfl, hi d hd e acc, Out.bindN_ok]
      dsimp only
      rw [compL_pure (pe := pe1 d) (tb := tb1 d) (y := y d) (ds1 d) acc hc1 (hp1 d hd) (ht1 d hd) (hf d hd) (by omega), Out.bindN_ok]
      have hlen : (((ds1 d).filter (tb1 d)).map (y d)).length ≤ (ds1 d).length := by rw [List.length_map]; exact List.length_filter_le _ _
      rw [rec_ _ (by rw [List.length_append]; omega), List.filter_cons_of_pos e, List.flatMap_cons, List.append_assoc]
theorem eComp2_frz {it : EvI} {c c1 : CT} {vs : List Nat} {t t1 : EvT} {it1 : EvI} {vs1 : List Nat} {f : EvE} {env : Env} {M M1 : List MO} {ds : List D} {chk chk1 : List MO → Prop} (pe : D → Env) (tb : D → Bool) (ds1 : D → List D) (pe1 : D → D → Env) (tb1 : D → D → Bool) (y : D → D → D)
    (hit : it env M = .ok ⟨ds, chk⟩ M1) (hc : ∀ acc, chk (M1 ++ [.lst acc])) (hc1 : ∀ acc, chk1 (M1 ++ [.lst acc])) (hp : ∀ d ∈ ds, c.put d (wipeE env vs) = some (pe d)) (ht : ∀ d ∈ ds, ∀ acc, t (pe d) (M1 ++ [.lst acc]) = .ok (tb d) (M1 ++ [.lst acc]))
    (hi : ∀ d ∈ ds, tb d = true → ∀ acc, it1 (pe d) (M1 ++ [.lst acc]) = .ok ⟨ds1 d, chk1⟩ (M1 ++ [.lst acc])) (hp1 : ∀ d ∈ ds, ∀ e ∈ ds1 d, c1.put e (wipeE (pe d) vs1) = some (pe1 d e))
    (ht1 : ∀ d ∈ ds, ∀ e ∈ ds1 d, ∀ acc, t1 (pe1 d e) (M1 ++ [.lst acc]) = .ok (tb1 d e) (M1 ++ [.lst acc])) (hf : ∀ d ∈ ds, ∀ e ∈ ds1 d, tb1 d e = true → ∀ acc, f (pe1 d e) (M1 ++ [.lst acc]) = .ok (y d e) (M1 ++ [.lst acc]))
    (hr : ∀ d ∈ ds, ∀ e ∈ ds1 d, noRef (y d e)) (hl : ((ds.map fun d => (ds1 d).length).sum) ≤ sizeLine) :
    eComp2 true it c vs t it1 c1 vs1 t1 f env M = .ok (.lst ((ds.filter tb).flatMap fun d => ((ds1 d).filter (tb1 d)).map (y d))) M1 := by
  unfold eComp2
  rw [hit, Out.bind_ok]
  rw [compL2_pure (pe := pe) (tb := tb) (ds1 := ds1) (pe1 := pe1) (tb1 := tb1) (y := y) ds [] hc hc1 hp ht hi hp1 ht1 hf (by simpa using hl), Out.bindN_ok, List.nil_append]
  generalize hout : ((ds.filter tb).flatMap fun d => ((ds1 d).filter (tb1 d)).map (y d)) = out
  have hno : noRefL out := noRefL_of fun d hd => by
    rw [← hout] at hd
    obtain ⟨x, hx, hd⟩ := List.mem_flatMap.mp hd
    obtain ⟨z, hz, rfl⟩ := List.mem_map.mp hd
    exact hr x (List.mem_filter.mp hx).1 z (List.mem_filter.mp hz).1
  have hcond : CutOk M1.length M1 (M1 ++ [.lst out]) ∧ refsLtL M1.length out ∧ (M1 ++ [MO.lst out]).length = M1.length + 1 :=
    ⟨fun i hi o ho => by rw [List.getElem?_append_left hi] at ho; exact .inl ho, noRefL.lt hno, by rw [List.length_append]; rfl⟩
  unfold compEnd
  rw [List.getElem?_append_right (Nat.le_refl _), Nat.sub_self]
  dsimp only [List.getElem?_cons_zero]
  rw [if_pos rfl, if_pos hcond, List.take_left]
/-- pairs that a zip yields -/
abbrev PL (zs : List (Int × Int)) : List D := zs.map fun z => .pr [.int z.1, .int z.2]
theorem zip_IL (a b : List Int) : zipD (IL a) (IL b) = PL (a.zip b) := by
  unfold zipD IL PL
  rw [List.zip_map, List.map_map]
  rfl
theorem iZip_ok {fs : EvEs} {env : Env} {M : List MO} {a b : List Int} (h : fs env M = .ok [.tup (IL a), .tup (IL b)] M) : iZip fs env M = .ok ⟨PL (a.zip b), fun _ => True⟩ M := by
  unfold iZip
  rw [h, Out.bind_ok]
  dsimp only
  rw [zip_IL]
theorem comp_zip {it : EvI} {f : EvE} {t : EvT} {i j : Nat} {env : Env} {M : List MO} {zs : List (Int × Int)} (p : Int × Int → Bool) (g : Int × Int → Int) (he : it env M = .ok ⟨PL zs, fun _ => True⟩ M)
    (ht : ∀ z ∈ zs, ∀ acc, t (((wipeE env [i, j]).set i (some (.int z.1))).set j (some (.int z.2))) (M ++ [.lst acc]) = .ok (p z) (M ++ [.lst acc]))
    (hf : ∀ z ∈ zs, p z = true → ∀ acc, f (((wipeE env [i, j]).set i (some (.int z.1))).set j (some (.int z.2))) (M ++ [.lst acc]) = .ok (.int (g z)) (M ++ [.lst acc])) (hl : zs.length ≤ 1000000) :
    eComp true it (.tp [i, j]) [i, j] t f env M = .ok (.lst (IL ((zs.filter p).map g))) M := by
  let un : D → Int × Int := fun d => match d with | .pr [.int a, .int b] => (a, b) | _ => (0, 0)
  rw [eComp_frz (c := .tp [i, j]) (vs := [i, j]) (fun d => ((wipeE env [i, j]).set i (some (.int (un d).1))).set j (some (.int (un d).2))) (fun d => p (un d)) (fun d => .int (g (un d))) he (fun _ => trivial) (fun d hd => ?_) (fun d hd acc => ?_) (fun d hd hq acc => ?_) (fun d hd _ => noRef_int _) (by rw [List.length_map]; exact small_line hl)]
  · have e1 : (PL zs).filter (fun d => p (un d)) = PL (zs.filter p) := by unfold PL; rw [List.filter_map]; rfl
    rw [e1]
    unfold PL IL
    rw [List.map_map, List.map_map]
    rfl
  · obtain ⟨z, hz, rfl⟩ := List.mem_map.mp hd
    rfl
  · obtain ⟨z, hz, rfl⟩ := List.mem_map.mp hd
    exact ht z hz acc
  · obtain ⟨z, hz, rfl⟩ := List.mem_map.mp hd
    exact hf z hz hq acc
/-! ### max, min by default -/
theorem mmK_max {l : List Int} {z : Int} (M : List MO) (h : ∀ x ∈ l, z < x) : ∃ m, opMmK true [.lst (IL l)] [.int z] M = .ok (.int m) M ∧ (∀ x, z < x → (m < x ↔ ∀ y ∈ l, y < x)) := by
  cases l with
  | nil =>
    refine ⟨z, ?_, fun x hx => ⟨fun _ y hy => (by cases hy), fun _ => hx⟩⟩
    unfold opMmK
    dsimp only
    rw [show asInts M (.lst (IL [])) = some [] from rfl]
  | cons y ys =>
    refine ⟨mxI true y ys, ?_, fun x hx => ?_⟩
    · unfold opMmK
      dsimp only
      rw [show asInts M (.lst (IL (y :: ys))) = some (y :: ys) from intsOf_map _]
    · have go : ∀ (ys : List Int) (y : Int), PySem.W.maxOf y ys < x ↔ ∀ v ∈ y :: ys, v < x := fun ys => by
        induction ys with
        | nil => intro y; show y < x ↔ _; simp
        | cons v ys ih =>
          intro y
          have e : PySem.W.maxOf y (v :: ys) = PySem.W.maxOf (if y < v then v else y) ys := by
            unfold PySem.W.maxOf
            rw [List.foldl_cons]
            congr 1
            show (if decide (y < v) = true then v else y) = _
            simp
          rw [e, ih]
          simp only [List.mem_cons, forall_eq_or_imp]
          by_cases q : y < v
          · rw [if_pos q]
            exact ⟨fun ⟨h1, h2⟩ => ⟨by omega, h1, h2⟩, fun ⟨_, h2, h3⟩ => ⟨h2, h3⟩⟩
          · rw [if_neg q]
            exact ⟨fun ⟨h1, h2⟩ => ⟨h1, by omega, h2⟩, fun ⟨h1, _, h3⟩ => ⟨h1, h3⟩⟩
      exact go ys y
theorem mmK_min {l : List Int} {z : Int} (M : List MO) (h : ∀ x ∈ l, x < z) : ∃ m, opMmK false [.lst (IL l)] [.int z] M = .ok (.int m) M ∧ (∀ x, x < z → (x < m ↔ ∀ y ∈ l, x < y)) := by
  cases l with
  | nil =>
    refine ⟨z, ?_, fun x hx => ⟨fun _ y hy => (by cases hy), fun _ => hx⟩⟩
    unfold opMmK
    dsimp only
    rw [show asInts M (.lst (IL [])) = some [] from rfl]
  | cons y ys =>
    refine ⟨mxI false y ys, ?_, fun x hx => ?_⟩
    · unfold opMmK
      dsimp only
      rw [show asInts M (.lst (IL (y :: ys))) = some (y :: ys) from intsOf_map _]
    · have go : ∀ (ys : List Int) (y : Int), x < PySem.W.minOf y ys ↔ ∀ v ∈ y :: ys, x < v := fun ys => by
        induction ys with
        | nil => intro y; show x < y ↔ _; simp
        | cons v ys ih =>
          intro y
          have e : PySem.W.minOf y (v :: ys) = PySem.W.minOf (if v < y then v else y) ys := by
            unfold PySem.W.minOf
            rw [List.foldl_cons]
            congr 1
            show (if decide (v < y) = true then v else y) = _
            simp
          rw [e, ih]
          simp only [List.mem_cons, forall_eq_or_imp]
          by_cases q : v < y
          · rw [if_pos q]
            exact ⟨fun ⟨h1, h2⟩ => ⟨by omega, h1, h2⟩, fun ⟨_, h2, h3⟩ => ⟨h2, h3⟩⟩
          · rw [if_neg q]
            exact ⟨fun ⟨h1, h2⟩ => ⟨h1, by omega, h2⟩, fun ⟨h1, _, h3⟩ => ⟨h1, h3⟩⟩
      exact go ys y
/-! ### sorted tuples -/
theorem encD_tI (M : List MO) (t : List Int) : encD M (.tup (IL t)) = .tuple (t.map .int) := by
  unfold encD toPy
  rw [toPyL_IL]
  rfl
theorem alikeAll_ints : ∀ a b : List Int, a.length = b.length → PySem.W.alikeAll (a.map .int) (b.map .int) = true
  | [], _, _ => by simp [PySem.W.alikeAll]
  | x :: a, y :: b, h => by
    rw [List.map_cons, List.map_cons, PySem.W.alikeAll, alikeAll_ints a b (by simpa using h)]
    simp [PySem.W.alike]
  | _ :: _, [], h => by cases h
theorem depth_ints : ∀ ns : List Int, PyData.depthAll (ns.map PyData.int) = 0
  | [] => by simp [PyData.depthAll]
  | n :: ns => by rw [List.map_cons]; simp only [PyData.depthAll, PyData.depth]; rw [depth_ints ns]; rfl
theorem sortOk_TL (M : List MO) {l : List (List Int)} {k : Nat} (hk : 1 ≤ k) (hl : ∀ t ∈ l, t.length = k) (h : l.length ≤ 1000000) : SortOk M (TL l) where
  all := fun d hd => by
    obtain ⟨t, _, rfl⟩ := List.mem_map.mp hd
    unfold toPy
    rw [toPyL_IL]
    rfl
  alike := fun d hd d' hd' => by
    obtain ⟨x, hx, rfl⟩ := List.mem_map.mp hd
    obtain ⟨t, ht, rfl⟩ := List.mem_map.mp hx
    obtain ⟨x', hx', rfl⟩ := List.mem_map.mp hd'
    obtain ⟨t', ht', rfl⟩ := List.mem_map.mp hx'
    rw [encD_tI, encD_tI]
    show PySem.W.alikeAll _ _ = true
    exact alikeAll_ints t t' (by rw [hl t ht, hl t' ht'])
  kind := .inl fun d hd => by
    obtain ⟨x, hx, rfl⟩ := List.mem_map.mp hd
    obtain ⟨t, ht, rfl⟩ := List.mem_map.mp hx
    rw [encD_tI]
    have := hl t ht
    cases t with
    | nil => simp at this; omega
    | cons y t => exact ⟨.int y, t.map .int, rfl⟩
  len := by rw [List.length_map]; exact small_line h
  deep := fun d hd => by
    obtain ⟨t, _, rfl⟩ := List.mem_map.mp hd
    rw [encD_tI]
    simp only [PyData.depth]
    rw [depth_ints]
    decide
theorem sortD_TL (M : List MO) (l : List (List Int)) : sortD M (TL l) = TL (msL l) := by
  unfold sortD msL
  symm
  refine List.map_mergeSort fun a _ b _ => ?_
  show decide (a ≤ b) = !PySem.W.dataLt (encD M (.tup (IL b))) (encD M (.tup (IL a)))
  rw [encD_tI, encD_tI, PySem.W.dataLt_tuple]
  have := PySem.W.dataLt_ints b a
  unfold PySem.W.rowLt at this
  rw [this]
  by_cases h : b < a
  · have h' : ¬ a ≤ b := fun r => List.not_lt.mpr r h
    simp [h, h']
  · have h' : a ≤ b := List.not_lt.mp h
    simp [h, h']
theorem opSorted_TL (M : List MO) {l : List (List Int)} {k : Nat} (hk : 1 ≤ k) (hl : ∀ t ∈ l, t.length = k) (h : l.length ≤ 1000000) : opSorted mkF [.lst (TL l)] M = .ok (.lst (TL (msL l))) M := by
  show (if SortOk M (TL l) then mkF (sortD M (TL l)) M else .no) = _
  rw [if_pos (sortOk_TL M hk hl h), sortD_TL]
  rfl
theorem opSorted_lI (M : List MO) {ns : List Int} (h : ns.length ≤ 1000000) : opSorted mkF [.lst (IL ns)] M = .ok (.lst (IL (msI ns))) M := by
  show (if SortOk M (IL ns) then mkF (sortD M (IL ns)) M else .no) = _
  rw [if_pos (sortOk_IL M h), sortD_IL]
  rfl
end SX
end
section
set_option Elab.async false
set_option linter.all false
set_option maxRecDepth 100000
set_option maxHeartbeats 1000000
open Classical
/-! SXy: more reckoning: the lemmas of k04 that speak of no def. -/
namespace SX
theorem sl_tup (l : List D) (lo hi : Option Int) (M : List MO) : opSl mkF (.tup l) lo hi M = .ok (.tup (cutD l lo hi)) M := rfl
theorem cutD_IL (ns : List Int) (lo hi : Option Int) : cutD (IL ns) lo hi = IL ((ns.drop (HT.sIx ns.length 0 lo)).take (HT.sIx ns.length ns.length hi - HT.sIx ns.length 0 lo)) := by
  unfold cutD IL
  rw [List.length_map, ← List.map_drop, ← List.map_take]
theorem sl_to (ns : List Int) (k : Nat) (hk : k ≤ ns.length) : cutD (IL ns) none (some (k : Int)) = IL (ns.take k) := by
  rw [cutD_IL, HT.sIx_none, HT.sIx_nat, Nat.min_eq_left hk, List.drop_zero, Nat.sub_zero]
theorem sl_from (ns : List Int) (k : Nat) (hk : k ≤ ns.length) : cutD (IL ns) (some (k : Int)) none = IL (ns.drop k) := by
  rw [cutD_IL, HT.sIx_none, HT.sIx_nat, Nat.min_eq_left hk, List.take_of_length_le (by rw [List.length_drop]; exact Nat.le_refl _)]
theorem sl_mid (ns : List Int) (b e : Nat) (hb : b ≤ e) (he : e ≤ ns.length) : cutD (IL ns) (some (b : Int)) (some (e : Int)) = IL ((ns.take e).drop b) := by
  rw [cutD_IL, HT.sIx_nat, HT.sIx_nat, Nat.min_eq_left he, Nat.min_eq_left (Nat.le_trans hb he), List.drop_take]
theorem mx_spec : ∀ (ys : List Int) (y : Int), mxI true y ys ∈ y :: ys ∧ ∀ x ∈ y :: ys, x ≤ mxI true y ys := by
  have go : ∀ (ys : List Int) (y : Int), (PySem.W.maxOf y ys) ∈ y :: ys ∧ ∀ x ∈ y :: ys, x ≤ PySem.W.maxOf y ys := fun ys => by
    induction ys with
    | nil => intro y; exact ⟨List.mem_cons_self, fun x hx => by have : x = y := by simpa using hx
                                                                rw [this]; exact Int.le_refl _⟩
    | cons z ys ih =>
      intro y
      have e : PySem.W.maxOf y (z :: ys) = PySem.W.maxOf (if y < z then z else y) ys := by
        show ys.foldl _ (if PySem.W.DatumOrd.lt y z = true then z else y) = _
        have : PySem.W.DatumOrd.lt y z = decide (y < z) := rfl
        rw [this]
        by_cases h : y < z
        · rw [if_pos (decide_eq_true h), if_pos h]; rfl
        · rw [if_neg (by simpa using h), if_neg h]; rfl
      rw [e]
      obtain ⟨h1, h2⟩ := ih (if y < z then z else y)
      refine ⟨?_, fun x hx => ?_⟩
      · rcases List.mem_cons.mp h1 with q | q
        · rw [q]
          split
          · exact List.mem_cons_of_mem _ List.mem_cons_self
          · exact List.mem_cons_self
        · exact List.mem_cons_of_mem _ (List.mem_cons_of_mem _ q)
      · have h0 := h2 _ List.mem_cons_self
        have hw : y ≤ (if y < z then z else y) ∧ z ≤ (if y < z then z else y) := by split <;> omega
        rcases List.mem_cons.mp hx with q | q
        · rw [q]
          exact Int.le_trans hw.1 h0
        · rcases List.mem_cons.mp q with q | q
          · rw [q]
            exact Int.le_trans hw.2 h0
          · exact h2 x (List.mem_cons_of_mem _ q)
  exact fun ys y => go ys y
theorem mm_tI {y : Int} {ys : List Int} (M : List MO) : opMm true [.tup (IL (y :: ys))] M = .ok (.int (mxI true y ys)) M := by
  unfold opMm
  dsimp only
  rw [show asInts M (.tup (IL (y :: ys))) = some (y :: ys) from intsOf_map (y :: ys)]
theorem idx_rI (lo x : Int) : ∀ n : Nat, lo ≤ x → x < lo + n → ((rI lo n).idxOf x : Int) = x - lo
  | 0, h0, h1 => by omega
  | n + 1, h0, h1 => by
    rw [rI_succ, List.idxOf_append]
    by_cases h : x < lo + n
    · rw [if_pos (rI_mem.mpr ⟨h0, h⟩)]
      exact idx_rI lo x n h0 h
    · have e : x = lo + n := by omega
      rw [if_neg (fun z => h (rI_mem.mp z).2), rI_length, e]
      simp
      omega
theorem lenSet_ok {ns : List Int} (h : ns.length ≤ 1000) (M : List MO) : opLenSet (.tup (IL ns)) M = .ok (.int (dd ns).length) M := by
  unfold opLenSet
  dsimp only
  rw [intsOf_map]
  dsimp only
  rw [if_pos (by omega)]
theorem index_ok {ns : List Int} {x : Int} (h : x ∈ ns) (M : List MO) : opIndex (.lst (IL ns)) [.int x] M = .ok (.int (ns.idxOf x : Nat)) M := by
  unfold opIndex
  dsimp only
  rw [show (asL M (.lst (IL ns))).bind intsOf = some ns from intsOf_map ns]
  dsimp only
  rw [if_pos h]
theorem exp_app {n : Nat} {i : Nat} {f : EvE} {env : Env} {M : List MO} {l : List D} {d : D} (h0 : eVar i env M = .ok (.ref n) M) (hl : M[n]? = some (.lst l)) (hz : l.length ≤ 1000000) (hf : f env M = .ok d M) :
    sExp (eM opAppend (eVar i) (esCons f esNil)) env M = .ok (.nx env) (M.set n (.lst (l ++ [d]))) := by
  unfold sExp eM
  rw [h0, Out.bind_ok, asL_ref hl, Option.isSome_some, if_pos rfl]
  unfold esCons esNil
  rw [hf, Out.bind_ok, Out.bind_ok, Out.bind_ok, append_ok hl hz, Out.bind_ok]
/-- one new object at the end, all before it as it was -/
def Ends (M M' : List MO) (o : MO) : Prop := M' = M ++ [o]
theorem set_end (M : List MO) (o o' : MO) : (M ++ [o]).set M.length o' = M ++ [o'] := by
  rw [List.set_append_right _ _ (Nat.le_refl _), Nat.sub_self]; rfl
theorem at_end (M : List MO) (o : MO) : (M ++ [o])[M.length]? = some o := by
  rw [List.getElem?_append_right (Nat.le_refl _), Nat.sub_self]; rfl
theorem gc_end {M : List MO} {o : MO} {d : D} (hd : noRef d) : gc M (.ok d (M ++ [o])) = .ok d M := by
  rw [gc_ok_of hd.lt fun i hi x hx => by rw [List.getElem?_append_left hi] at hx; exact .inl hx, List.take_left]
theorem noRef_TL (l : List (List Int)) : noRef (.tup (TL l)) := noRef_tup (noRefL_of fun d hd => by
  obtain ⟨p, _, rfl⟩ := List.mem_map.mp hd
  exact noRef_tI p)
theorem sFor_range2 {fs : EvEs} {g : EvG} {body : EvS} {env : Env} {M : List MO} {i j : Int} {o : Out Fl} (h : fs env M = .ok [.int i, .int j] M) (hi : -1000000 ≤ i ∧ i ≤ 1000000) (hj : -1000000 ≤ j ∧ j ≤ 1000000) (hf : forL (fun _ => True) g body (rng i (j - i).toNat) env M = o) : sFor (iRange fs) g body env M = o := by
  unfold sFor
  rw [iRange2 h hi hj, Out.bind_ok]
  exact hf
theorem sFor_range1 {fs : EvEs} {g : EvG} {body : EvS} {env : Env} {M : List MO} {n : Nat} {o : Out Fl} (h : fs env M = .ok [.int n] M) (hn : n ≤ 1000000) (hf : forL (fun _ => True) g body (rng 0 n) env M = o) : sFor (iRange fs) g body env M = o := by
  unfold sFor
  rw [iRange1 h hn, Out.bind_ok]
  exact hf
theorem sFor_seq {e : EvE} {g : EvG} {body : EvS} {env : Env} {M : List MO} {l : List D} {o : Out Fl} (h : e env M = .ok (.tup l) M) (hf : forL (fun _ => True) g body l env M = o) : sFor (iSeq e) g body env M = o := by
  unfold sFor
  rw [iSeq_tup h, Out.bind_ok]
  exact hf
theorem least {P : Nat → Prop} : ∀ n, P n → ∃ k, k ≤ n ∧ P k ∧ ∀ j, j < k → ¬ P j := fun n => by
  induction n using Nat.strongRecOn with
  | _ n ih =>
    intro h
    by_cases hx : ∃ j, j < n ∧ P j
    · obtain ⟨j, hj, hp⟩ := hx
      obtain ⟨k, h1, h2, h3⟩ := ih j hj hp
      exact ⟨k, by omega, h2, h3⟩
    · exact ⟨n, Nat.le_refl _, h, fun j hj hp => hx ⟨j, hj, hp⟩⟩
theorem mir_rI (m : Int) (k : Nat) : ((rI 1 k).map fun x => m + 1 - x).Perm (rI (m - k + 1) k) :=
  (List.perm_ext_iff_of_nodup (List.pairwise_map.mpr ((rI_nodup 1 k).imp fun h e => h (by omega))) (rI_nodup _ _)).mpr fun x => by
    rw [rI_mem, List.mem_map]
    constructor
    · rintro ⟨y, hy, rfl⟩
      have := rI_mem.mp hy
      omega
    · intro h
      exact ⟨m + 1 - x, rI_mem.mpr (by omega), by omega⟩
theorem mir_perm {X : List Int} {m : Int} {k : Nat} : (X.map fun x => m + 1 - x).Perm (rI (m - k + 1) k) ↔ X.Perm (rI 1 k) := by
  have inv : (fun x : Int => m + 1 - x) ∘ (fun x => m + 1 - x) = id := by funext x; show m + 1 - (m + 1 - x) = x; omega
  constructor
  · intro h
    have h2 := (h.trans (mir_rI m k).symm).map fun x => m + 1 - x
    rw [List.map_map, List.map_map, inv, List.map_id, List.map_id] at h2
    exact h2
  · intro h
    exact (h.map _).trans (mir_rI m k)
/-- as it is, or mirrored -/
def fm (sk : Bool) (l : List Int) : List Int := if sk then mirI l else l
theorem fm_len (sk : Bool) (l : List Int) : (fm sk l).length = l.length := by unfold fm; split; exact mir_length _; rfl
def loI (sk : Bool) (m k : Nat) : Int := if sk then (m : Int) - k + 1 else 1
theorem fm_cut {R : List Int} (sk : Bool) {k : Nat} : ((fm sk R).take k).Perm (rI (loI sk R.length k) k) ↔ isCut R k := by
  cases sk with
  | false => exact Iff.rfl
  | true =>
    show ((mirI R).take k).Perm (rI ((R.length : Int) - k + 1) k) ↔ _
    unfold mirI
    rw [← List.map_take, mir_perm]
    exact Iff.rfl
theorem fm_like_take {R : List Int} (sk : Bool) {k : Nat} (h : isCut R k) : likeI ((fm sk R).take k) = fm sk (R.take k) := by
  cases sk with
  | false => exact like_ord h.ord
  | true =>
    show likeI ((mirI R).take k) = mirI (R.take k)
    have hk := h.len
    have hp : ((mirI R).take k).Perm (rI (1 + ((R.length - k : Nat) : Int)) k) := by
      have := (fm_cut true).mpr h
      rwa [show loI true R.length k = 1 + ((R.length - k : Nat) : Int) by show (R.length : Int) - k + 1 = _; omega] at this
    rw [like_shift hp]
    unfold mirI
    rw [← List.map_take, List.map_map, List.length_take, Nat.min_eq_left hk]
    refine List.map_congr_left fun x _ => ?_
    show (R.length : Int) + 1 - x - ((R.length - k : Nat) : Int) = (k : Int) + 1 - x
    omega
theorem fm_like_drop {R : List Int} (hR : Ord R) (sk : Bool) {k : Nat} (h : isCut R k) : likeI ((fm sk R).drop k) = fm sk (restAt R k) := by
  cases sk with
  | false => exact like_rest hR h
  | true =>
    show likeI ((mirI R).drop k) = mirI (restAt R k)
    obtain ⟨ho, hl⟩ := rest_ord hR h
    have hk := h.len
    have e : (mirI R).drop k = mirI (restAt R k) := by
      unfold mirI
      rw [hl]
      unfold restAt
      rw [← List.map_drop, List.map_map]
      refine List.map_congr_left fun x _ => ?_
      show (R.length : Int) + 1 - x = ((R.length - k : Nat) : Int) + 1 - (x - (k : Int))
      omega
    rw [e]
    exact like_ord (mir_ord ho)
def mirD (d : D) : D := match d with
  | .tup l => match intsOf l with
    | some ns => .tup (IL (mirI ns))
    | none => .non
  | _ => .non
theorem mirD_tup (p : List Int) : mirD (.tup (IL p)) = .tup (IL (mirI p)) := by
  show (match intsOf (IL p) with | some ns => D.tup (IL (mirI ns)) | none => .non) = _
  rw [intsOf_map]
theorem mirD_TL (l : List (List Int)) : (TL l).map mirD = TL (l.map mirI) := by
  unfold TL
  rw [List.map_map, List.map_map]
  exact List.map_congr_left fun p _ => mirD_tup p
theorem es_cons {f : EvE} {fs : EvEs} {env : Env} {M : List MO} {d : D} {ds : List D} (h1 : f env M = .ok d M) (h2 : fs env M = .ok ds M) : esCons f fs env M = .ok (d :: ds) M := by
  unfold esCons
  rw [h1, Out.bind_ok, h2]
  rfl
theorem es_nil (env : Env) (M : List MO) : esNil env M = .ok [] M := rfl
theorem bin_of {op : D → D → List MO → Out D} {f g : EvE} {env : Env} {M M1 M2 : List MO} {x y : D} (h1 : f env M = .ok x M1) (h2 : g env M1 = .ok y M2) : eBin op f g env M = op x y M2 := by
  unfold eBin
  rw [h1, Out.bind_ok, h2, Out.bind_ok]
theorem tup_of {fs : EvEs} {env : Env} {M M1 : List MO} {ds : List D} (h : fs env M = .ok ds M1) (hl : ds.length ≤ 1000000) : eTup fs env M = .ok (.tup ds) M1 := by
  unfold eTup
  rw [h, Out.bind_ok]
  exact if_pos (small_line hl)
theorem tNot_t {t : EvT} {env : Env} {M M1 : List MO} (h : t env M = .ok true M1) : tNotT t env M = .ok false M1 := by
  unfold tNotT
  rw [h]
  rfl
theorem callK_eq {F : Fn} {gD : List D → List D → List D} {n : Nat} {gs : EvEs} {env : Env} {M M1 M2 : List MO} {es : List D} {d : D} (h : gs env M = .ok es M1) (hn : (gD [] es).length = n) (hF : F (gD [] es) M1 = .ok d M2) : eCallK F gD n esNil gs env M = .ok d M2 := by
  unfold eCallK esNil
  rw [Out.bind_ok, h, Out.bind_ok, if_pos hn, hF]
theorem sum_length (a b : List Int) : (sumI a b).length = a.length + b.length := by unfold sumI; rw [List.length_append, List.length_map]
theorem skew_length (a b : List Int) : (skewI a b).length = a.length + b.length := by unfold skewI; rw [List.length_append, List.length_map]
theorem sum_ord {a b : List Int} (ha : Ord a) (hb : Ord b) : Ord (sumI a b) := by
  refine ord_of_mem ?_ fun x hx => ?_
  · unfold sumI
    refine List.nodup_append.mpr ⟨ha.nodup, List.pairwise_map.mpr (hb.nodup.imp fun h e => h (by omega)), fun x hx y hy e => ?_⟩
    obtain ⟨z, hz, rfl⟩ := List.mem_map.mp hy
    have h1 := ha.mem.mp hx
    have h2 := hb.mem.mp hz
    omega
  · rw [sum_length]
    unfold sumI at hx
    rcases List.mem_append.mp hx with q | q
    · have := ha.mem.mp q
      omega
    · obtain ⟨z, hz, rfl⟩ := List.mem_map.mp q
      have := hb.mem.mp hz
      omega
theorem skew_ord {a b : List Int} (ha : Ord a) (hb : Ord b) : Ord (skewI a b) := by
  refine ord_of_mem ?_ fun x hx => ?_
  · unfold skewI
    refine List.nodup_append.mpr ⟨List.pairwise_map.mpr (ha.nodup.imp fun h e => h (by omega)), hb.nodup, fun x hx y hy e => ?_⟩
    obtain ⟨z, hz, rfl⟩ := List.mem_map.mp hx
    have h1 := ha.mem.mp hz
    have h2 := hb.mem.mp hy
    omega
  · rw [skew_length]
    unfold skewI at hx
    rcases List.mem_append.mp hx with q | q
    · obtain ⟨z, hz, rfl⟩ := List.mem_map.mp q
      have := ha.mem.mp hz
      omega
    · have := hb.mem.mp q
      omega
theorem lst_of {fs : EvEs} {env : Env} {M : List MO} {ds : List D} (h : fs env M = .ok ds M) (hl : ds.length ≤ 1000000) : eLst mkF fs env M = .ok (.lst ds) M := by
  unfold eLst
  rw [h, Out.bind_ok]
  exact if_pos (small_line hl)
theorem fold_len (f : List Int → List Int → List Int) (hf : ∀ a b, (f a b).length = a.length + b.length) : ∀ (l : List (List Int)) (z : List Int), (l.foldl f z).length = z.length + (l.map List.length).sum
  | [], z => by simp
  | p :: r, z => by rw [List.foldl_cons, fold_len f hf r, hf, List.map_cons, List.sum_cons, Nat.add_assoc]
theorem fold_ord (f : List Int → List Int → List Int) (hf : ∀ a b : List Int, SX.Ord a → SX.Ord b → SX.Ord (f a b)) : ∀ (l : List (List Int)) (z : List Int), SX.Ord z → (∀ p ∈ l, Ord p) → Ord (l.foldl f z)
  | [], z, hz, _ => hz
  | p :: r, z, hz, h => fold_ord f hf r _ (hf _ _ hz (h p List.mem_cons_self)) fun q hq => h q (List.mem_cons_of_mem _ hq)
theorem take_sum (l : List Nat) (i : Nat) : (l.take i).sum ≤ l.sum := by
  induction l generalizing i with
  | nil => simp
  | cons x r ih =>
    cases i with
    | zero => simp
    | succ i => rw [List.take_succ_cons, List.sum_cons, List.sum_cons]; have := ih i; omega
theorem fold_take_len {f : List Int → List Int → List Int} (hf : ∀ a b, (f a b).length = a.length + b.length) (l : List (List Int)) {n : Nat} (h : (l.foldl f []).length = n) {i : Nat} {p : List Int} (hp : l[i]? = some p) : ((l.take i).foldl f []).length + p.length ≤ n := by
  have e : (l.take (i + 1)).foldl f [] = f ((l.take i).foldl f []) p := by
    rw [List.take_add_one, hp]
    exact foldl_snoc f [] _ p
  have h1 : ((l.take (i + 1)).foldl f []).length ≤ n := by
    rw [fold_len f hf, ← h, fold_len f hf, List.map_take]
    have := take_sum (l.map List.length) (i + 1)
    omega
  rw [e, hf] at h1
  exact h1
theorem fold_step {f : List Int → List Int → List Int} {l : List (List Int)} {i : Nat} {p : List Int} (hp : l[i]? = some p) : (l.take (i + 1)).foldl f [] = f ((l.take i).foldl f []) p := by
  rw [List.take_add_one, hp]
  exact foldl_snoc f [] _ p
theorem TL_at {l : List (List Int)} {i : Nat} {d : D} (h : (TL l)[i]? = some d) : ∃ p, l[i]? = some p ∧ d = .tup (IL p) := by
  rw [List.getElem?_map] at h
  cases e : l[i]? with
  | none => rw [e] at h; cases h
  | some p => rw [e] at h; exact ⟨p, rfl, (Option.some.inj h).symm⟩
theorem cmul200 {i j : Int} (h1 : -(2 ^ 200 : Int) < i) (h2 : i < 2 ^ 200) (h3 : -(2 ^ 200 : Int) < j) (h4 : j < 2 ^ 200) : L2.CMulW i j := by
  have a := log2_lt (x := i) (k := 200) h1 h2 (by omega)
  have b := log2_lt (x := j) (k := 200) h3 h4 (by omega)
  show _ + _ < 1000000
  omega
theorem lst2N {f g : EvE} {env : Env} {M : List MO} {x y : D} (h1 : f env M = .ok x M) (h2 : g env M = .ok y M) : eLst mkN (esCons f (esCons g esNil)) env M = .ok (.ref M.length) (M ++ [.lst [x, y]]) := by
  unfold eLst
  rw [es_cons h1 (es_cons h2 (es_nil _ _)), Out.bind_ok]
  exact if_pos (small_line (n := 2) (by omega))
theorem es_cons2 {f : EvE} {fs : EvEs} {env : Env} {M M1 M2 : List MO} {d : D} {ds : List D} (h1 : f env M = .ok d M1) (h2 : fs env M1 = .ok ds M2) : esCons f fs env M = .ok (d :: ds) M2 := by
  unfold esCons
  rw [h1, Out.bind_ok, h2]
  rfl
theorem ord_nil : Ord [] := .refl _
theorem or_f {f g : EvT} {env : Env} {M : List MO} (h1 : f env M = .ok false M) (h2 : g env M = .ok false M) : tOrE f g env M = .ok false M := or_lt h1 h2
end SX
end
section
set_option Elab.async false
set_option linter.all false
set_option maxRecDepth 100000
set_option maxHeartbeats 1000000
open Classical
namespace SX
open SX
theorem shaped_tI (ns : List Int) : PySem.SeqAt.shaped (.tuple (ns.map PySem.PyData.int)) = true := by
  unfold PySem.SeqAt.shaped
  rw [Bool.and_eq_true]
  refine ⟨?_, decide_eq_true ?_⟩
  · show PySem.PyData.canLayAll0 (ns.map PySem.PyData.int) = true
    exact canAll_ints ns
  · have := PySem.W.Datum.depth_le (α := PySem.W.Tup Int) ⟨ns⟩
    exact Nat.le_trans this (by decide)
theorem opEq_tI (neg : Bool) (a b : List Int) (M : List MO) : opEq neg (.tup (IL a)) (.tup (IL b)) M = .ok (.bl (if neg then !decide (a = b) else decide (a = b))) M := by
  have e1 : ∀ ns, toPyR M (.tup (IL ns)) = some (.tuple (ns.map PySem.PyData.int)) := fun ns => by
    show toPy M (.tup (IL ns)) = _
    unfold toPy
    rw [toPyL_IL]
    rfl
  unfold opEq
  rw [e1, e1]
  dsimp only
  rw [if_pos ⟨shaped_tI a, shaped_tI b⟩]
  have e2 : PySem.PyData.eqv (.tuple (a.map PySem.PyData.int)) (.tuple (b.map PySem.PyData.int)) = decide (a = b) := by
    have h := PySem.W.Datum.eqv (α := PySem.W.Tup Int) ⟨a⟩ ⟨b⟩
    refine h.trans (decide_eq_decide.mpr ⟨fun e => congrArg PySem.W.Tup.items e, fun e => by rw [e]⟩)
  rw [e2]
theorem gc_endL {M X : List MO} {d : D} (hd : noRef d) : gc M (.ok d (M ++ X)) = .ok d M := by
  rw [gc_ok_of hd.lt fun i hi x hx => by rw [List.getElem?_append_left hi] at hx; exact .inl hx, List.take_left]
theorem gc_ref {M X : List MO} {r : Nat} {o : MO} (h : (M ++ X)[r]? = some o) (hr : M.length ≤ r) (hd : o ≠ .dead) (ho : moLt M.length o) : gc M (.ok (.ref r) (M ++ X)) = .ok (.ref M.length) (M ++ [o]) := by
  have hcut : CutOk M.length M (M ++ X) := fun i hi x hx => by rw [List.getElem?_append_left hi] at hx; exact .inl hx
  unfold gc
  dsimp only
  have h1 : ¬ (CutOk M.length M (M ++ X) ∧ refsLt M.length (.ref r)) := fun q => by
    have := q.2
    unfold refsLt at this
    omega
  rw [if_neg h1]
  rw [h]
  cases o with
  | dead => exact absurd rfl hd
  | _ =>
    dsimp only
    rw [if_pos ⟨hr, hcut, ho⟩, List.take_left]
theorem iSeq_ref {e : EvE} {env : Env} {M M1 : List MO} {n : Nat} {l : List D} (h : e env M = .ok (.ref n) M1) (hn : M1[n]? = some (.lst l)) : iSeq e env M = .ok ⟨l, fun M' => M'[n]? = some (.lst l)⟩ M1 := by
  unfold iSeq
  rw [h, Out.bind_ok]
  dsimp only
  rw [hn]
theorem ix_tI {p : List Int} {i : Int} (M : List MO) (h0 : 0 ≤ i) (h1 : i < p.length) : opIx (.tup (IL p)) (.int i) M = .ok (.int (at0 p i)) M := by
  refine ix_at h0 rfl ?_
  obtain ⟨k, rfl⟩ := Int.eq_ofNat_of_zero_le h0
  rw [Int.toNat_natCast, List.getElem?_map, List.getElem?_eq_getElem (by omega), at0_get (by omega)]
  rfl
theorem ix_neg1 {t : List Int} {x : Int} (M : List MO) (h : t.getLast? = some x) : opIx (.tup (IL t)) (.int (-1)) M = .ok (.int x) M := by
  unfold opIx
  rw [show asSeq M (.tup (IL t)) = some (IL t) from rfl]
  dsimp only
  have : L2.atI (IL t) (-1) = some (.int x) := by
    rw [List.getLast?_eq_some_iff] at h
    obtain ⟨u, rfl⟩ := h
    unfold L2.atI L2.ixN IL
    rw [List.length_map, List.length_append, List.length_singleton]
    rw [if_neg (by decide), if_pos (by omega), show ((-1 : Int) + ((u.length + 1 : Nat) : Int)).toNat = u.length by omega, List.map_append]
    simp
  rw [this]
theorem tup1 {f : EvE} {env : Env} {M : List MO} {x : D} (h : f env M = .ok x M) : eTup (esCons f esNil) env M = .ok (.tup [x]) M := by
  unfold eTup esCons esNil
  rw [h, Out.bind_ok, Out.bind_ok, Out.bind_ok]
  exact if_pos (small_line (n := 1) (by omega))
theorem eB_of {op : List D → List MO → Out D} {fs : EvEs} {env : Env} {M M1 : List MO} {ds : List D} (h : fs env M = .ok ds M1) : eB op fs env M = op ds M1 := by
  unfold eB
  rw [h, Out.bind_ok]
theorem tAnd_of {f g : EvT} {env : Env} {M M1 M2 : List MO} {b : Bool} (h1 : f env M = .ok true M1) (h2 : g env M1 = .ok b M2) : tAndE f g env M = .ok b M2 := by
  unfold tAndE
  rw [h1, Out.bind_ok, if_pos rfl, h2]
theorem tAnd_f {f g : EvT} {env : Env} {M M1 : List MO} (h1 : f env M = .ok false M1) : tAndE f g env M = .ok false M1 := by
  unfold tAndE
  rw [h1, Out.bind_ok, if_neg Bool.false_ne_true]
theorem ixp {n : Nat} {l : List Int} {M : List MO} (h : M[n]? = some (.lst (IL l))) {k : Nat} {x : Int} (hk : l[k]? = some x) : opIx (.ref n) (.int k) M = .ok (.int x) M :=
  ix_at (l := IL l) (by omega) (asSeq_ref h) (by rw [Int.toNat_natCast, List.getElem?_map, hk]; rfl)
theorem setp {n : Nat} {l : List Int} {M : List MO} {k : Nat} {x : Int} (h : M[n]? = some (.lst (IL l))) (hk : k < l.length) : opSetL (.ref n) (.int k) (.int x) M = .ok () (M.set n (.lst (IL (l.set k x)))) := by
  unfold opSetL
  dsimp only
  rw [h]
  have e : L2.ixN (IL l).length (k : Int) = some k := by
    unfold L2.ixN
    rw [List.length_map, if_pos (by omega), if_pos (by omega), Int.toNat_natCast]
  dsimp only
  rw [e]
  dsimp only
  unfold IL
  rw [List.map_set]
theorem ten18 (env : Env) (M : List MO) : ePow (eC (.int 10)) (eC (.int 18)) env M = .ok (.int (10 ^ 18)) M := by
  refine (bin_of (x := .int 10) (y := .int 18) (M1 := M) (M2 := M) rfl rfl).trans ?_
  rw [pow_int M (by refine ⟨?_, ?_, ?_⟩ <;> decide)]
  rfl
theorem eAnd_t {f g : EvE} {env : Env} {M M1 : List MO} {o : Out D} (h1 : f env M = .ok (.bl true) M1) (h2 : g env M1 = o) : eAnd f g env M = o := by
  unfold eAnd
  rw [h1, Out.bind_ok, truV_bl]
  exact h2
theorem eAnd_f {f g : EvE} {env : Env} {M M1 : List MO} (h1 : f env M = .ok (.bl false) M1) : eAnd f g env M = .ok (.bl false) M1 := by
  unfold eAnd
  rw [h1, Out.bind_ok, truV_bl]
theorem ref_app {n : Nat} {M : List MO} {o : MO} (h : M[n]? = some o) (X : List MO) : (M ++ X)[n]? = some o := by
  rw [List.getElem?_append_left (List.getElem?_eq_some_iff.mp h).1]; exact h
theorem all_true (k : Nat) (M : List MO) : opAA true [.lst (List.replicate k (.bl true))] M = .ok (.bl true) M := by
  have e : (List.replicate k (D.bl true)) = (List.replicate k true).map D.bl := by rw [List.map_replicate]
  unfold opAA
  dsimp only
  rw [show asL M (.lst (List.replicate k (D.bl true))) = some (List.replicate k (D.bl true)) from rfl, e]
  rw [show (some ((List.replicate k true).map D.bl)).bind boolsOf = some (List.replicate k true) from boolsOf_map _]
  dsimp only
  rw [if_pos rfl]
  congr 2
  rw [List.all_eq_true]
  intro b hb
  exact List.eq_of_mem_replicate hb
theorem len_ref {N : Nat} {M : List MO} {l : List D} (h : M[N]? = some (.lst l)) : opLen [.ref N] M = .ok (.int l.length) M := by
  unfold opLen
  dsimp only
  rw [show asSeq M (.ref N) = some l from asSeq_ref h]
theorem isi_ref {N : Nat} {M : List MO} {l : List D} (h : M[N]? = some (.lst l)) (ts : List Bty) : opIsi ts (.ref N) M = .ok (.bl (ts.any (isTy (.ref N)))) M := by
  have hk : tyKn M (.ref N) = true := by
    unfold tyKn
    dsimp only
    rw [h]
  unfold opIsi
  exact if_pos hk
theorem forL_or {chk : List MO → Prop} {g : EvG} {body : EvS} (I : Env → List MO → Prop) (R : D → List MO → Prop) (fin : ∀ env M, I env M → chk M) : ∀ (ds : List D) (env : Env) (M : List MO),
    (∀ d env M, d ∈ ds → I env M → ∃ e1 M1, g d env M = .ok e1 M1 ∧ ((∃ e2 M2, body e1 M1 = .ok (.nx e2) M2 ∧ I e2 M2) ∨ ∃ v M2, body e1 M1 = .ok (.rt v) M2 ∧ R v M2)) → I env M →
    (∃ e' M', forL chk g body ds env M = .ok (.nx e') M' ∧ I e' M') ∨ ∃ v M', forL chk g body ds env M = .ok (.rt v) M' ∧ R v M'
  | [], env, M, _, h => .inl ⟨env, M, by unfold forL; rw [if_pos (fin env M h)], h⟩
  | d :: r, env, M, step, h => by
    obtain ⟨e1, M1, h1, h2⟩ := step d env M List.mem_cons_self h
    rcases h2 with ⟨e2, M2, h2, h3⟩ | ⟨v, M2, h2, h3⟩
    · rcases forL_or I R fin r e2 M2 (fun x env M hx => step x env M (List.mem_cons_of_mem _ hx)) h3 with ⟨e', M', h4, h5⟩ | ⟨v, M', h4, h5⟩
      · refine .inl ⟨e', M', ?_, h5⟩
        unfold forL
        rw [if_pos (fin env M h), h1, Out.bind_ok, h2, Out.bind_ok]
        exact h4
      · refine .inr ⟨v, M', ?_, h5⟩
        unfold forL
        rw [if_pos (fin env M h), h1, Out.bind_ok, h2, Out.bind_ok]
        exact h4
    · refine .inr ⟨v, M2, ?_, h3⟩
      unfold forL
      rw [if_pos (fin env M h), h1, Out.bind_ok, h2, Out.bind_ok]
theorem sFor_lst {e : EvE} {g : EvG} {body : EvS} {env : Env} {M : List MO} {l : List D} {o : Out Fl} (h : e env M = .ok (.lst l) M) (hf : forL (fun _ => True) g body l env M = o) : sFor (iSeq e) g body env M = o := by
  unfold sFor
  rw [iSeq_lst h, Out.bind_ok]
  exact hf
/-- a comprehension whose list stays open to change -/
theorem eComp_new {it : EvI} {c : CT} {vs : List Nat} {t : EvT} {f : EvE} {env : Env} {M M1 : List MO} {ds : List D} {chk : List MO → Prop} (pe : D → Env) (tb : D → Bool) (y : D → D) (hit : it env M = .ok ⟨ds, chk⟩ M1)
    (hc : ∀ acc, chk (M1 ++ [.lst acc])) (hp : ∀ d ∈ ds, c.put d (wipeE env vs) = some (pe d)) (ht : ∀ d ∈ ds, ∀ acc, t (pe d) (M1 ++ [.lst acc]) = .ok (tb d) (M1 ++ [.lst acc])) (hf : ∀ d ∈ ds, tb d = true → ∀ acc, f (pe d) (M1 ++ [.lst acc]) = .ok (y d) (M1 ++ [.lst acc]))
    (hl : ds.length ≤ PySem.sizeLine) : eComp false it c vs t f env M = .ok (.ref M1.length) (M1 ++ [.lst ((ds.filter tb).map y)]) := by
  unfold eComp
  rw [hit, Out.bind_ok]
  rw [compL_pure (pe := pe) (tb := tb) (y := y) ds [] hc hp ht hf (by simpa using hl), Out.bindN_ok, List.nil_append]
  unfold compEnd
  rw [List.getElem?_append_right (Nat.le_refl _), Nat.sub_self]
  dsimp only [List.getElem?_cons_zero]
  rw [if_neg Bool.false_ne_true]
theorem tNot_f {t : EvT} {env : Env} {M M1 : List MO} (h : t env M = .ok false M1) : tNotT t env M = .ok true M1 := by
  unfold tNotT
  rw [h]
  rfl
def PD (l : List (Int × Int)) : List D := l.map fun z => .tup [.int z.1, .int z.2]
theorem noRef_PD (l : List (Int × Int)) : noRefL (PD l) := noRefL_of fun d h => by
  obtain ⟨t, _, rfl⟩ := List.mem_map.mp h
  exact noRef_tI [t.1, t.2]
end SX
end
section
set_option Elab.async false
set_option linter.all false
set_option maxRecDepth 100000
open Classical
/-! SXA2: loops step by step; two objects at the end; sequences of whole numbers. -/
namespace SX
open PySem (PyData sizeLine)
section
variable {chk : List MO → Prop} {g : EvG} {body : EvS} {t : EvT} {d : D} {r : List D} {env e1 e2 : Env} {M M1 M2 : List MO} {v : D} {n : Nat}
theorem forL_nil (h : chk M) : forL chk g body [] env M = .ok (.nx env) M := by unfold forL; rw [if_pos h]
theorem forL_go (h : chk M) (h1 : g d env M = .ok e1 M1) (h2 : body e1 M1 = .ok (.nx e2) M2) : forL chk g body (d :: r) env M = forL chk g body r e2 M2 := by
  conv => lhs; unfold forL
  rw [if_pos h, h1, Out.bind_ok, h2, Out.bind_ok]
theorem forL_end (h : chk M) (h1 : g d env M = .ok e1 M1) (h2 : body e1 M1 = .ok (.rt v) M2) : forL chk g body (d :: r) env M = .ok (.rt v) M2 := by
  conv => lhs; unfold forL
  rw [if_pos h, h1, Out.bind_ok, h2, Out.bind_ok]
theorem whileL_go (h1 : t env M = .ok true M1) (h2 : body env M1 = .ok (.nx e2) M2) : whileL t body (n + 1) env M = whileL t body n e2 M2 := by
  conv => lhs; unfold whileL
  rw [h1, Out.bind_ok, if_pos rfl, h2, Out.bind_ok]
theorem whileL_rt (h1 : t env M = .ok true M1) (h2 : body env M1 = .ok (.rt v) M2) : whileL t body (n + 1) env M = .ok (.rt v) M2 := by
  conv => lhs; unfold whileL
  rw [h1, Out.bind_ok, if_pos rfl, h2, Out.bind_ok]
theorem whileL_end (h1 : t env M = .ok false M1) : whileL t body (n + 1) env M = .ok (.nx env) M1 := by
  conv => lhs; unfold whileL
  rw [h1, Out.bind_ok, if_neg Bool.false_ne_true]
end
/-! ### two objects at the end -/
theorem at2a {M : List MO} {a b : MO} : (M ++ [a, b])[M.length]? = some a := by rw [List.getElem?_append_right (Nat.le_refl _), Nat.sub_self]; rfl
theorem at2b {M : List MO} {a b : MO} : (M ++ [a, b])[M.length + 1]? = some b := by rw [List.getElem?_append_right (by omega), Nat.add_sub_cancel_left]; rfl
theorem set2a {M : List MO} {a b x : MO} : (M ++ [a, b]).set M.length x = M ++ [x, b] := by rw [List.set_append_right _ _ (Nat.le_refl _), Nat.sub_self]; rfl
theorem set2b {M : List MO} {a b x : MO} : (M ++ [a, b]).set (M.length + 1) x = M ++ [a, x] := by rw [List.set_append_right _ _ (by omega), Nat.add_sub_cancel_left]; rfl
/-! ### reckoning, with side conditions -/
theorem eqI (a b : Int) (M : List MO) : opEq false (.int a) (.int b) M = .ok (.bl (decide (a = b))) M := by rw [opEq_int, if_neg Bool.false_ne_true]
theorem neI (a b : Int) (M : List MO) : opEq true (.int a) (.int b) M = .ok (.bl (!decide (a = b))) M := by rw [opEq_int, if_pos rfl]
theorem eqT (a b : List Int) (M : List MO) : opEq false (.tup (IL a)) (.tup (IL b)) M = .ok (.bl (decide (a = b))) M := by rw [opEq_tI, if_neg Bool.false_ne_true]
theorem neT (a b : List Int) (M : List MO) : opEq true (.tup (IL a)) (.tup (IL b)) M = .ok (.bl (!decide (a = b))) M := by rw [opEq_tI, if_pos rfl]
theorem eqL (a b : List Int) (M : List MO) : opEq false (.lst (IL a)) (.lst (IL b)) M = .ok (.bl (decide (a = b))) M := by rw [opEq_IL, if_neg Bool.false_ne_true]
theorem neL (a b : List Int) (M : List MO) : opEq true (.lst (IL a)) (.lst (IL b)) M = .ok (.bl (!decide (a = b))) M := by rw [opEq_IL, if_pos rfl]
theorem eqS {a b : PySem.Str} (M : List MO) (ha : PyData.strOk a = true) (hb : PyData.strOk b = true) : opEq false (.str a) (.str b) M = .ok (.bl (decide (a = b))) M := by
  have e2 : PyData.eqv (.str a) (.str b) = decide (a = b) := PySem.W.Datum.eqv (α := PySem.Str) a b
  have e1 : ∀ i : PySem.Str, toPyR M (.str i) = some (.str i) := fun _ => rfl
  unfold opEq
  rw [e1, e1]
  dsimp only
  have sh : ∀ x : PySem.Str, PyData.strOk x = true → PySem.SeqAt.shaped (.str x) = true := fun x hx => by
    unfold PySem.SeqAt.shaped
    rw [Bool.and_eq_true]
    exact ⟨hx, decide_eq_true (by show 0 ≤ 64; omega)⟩
  rw [if_pos ⟨sh a ha, sh b hb⟩, e2, if_neg Bool.false_ne_true]
theorem lenT (a : List Int) (M : List MO) : opLen [.tup (IL a)] M = .ok (.int a.length) M := by rw [len_tup, List.length_map]
theorem lenL (a : List Int) (M : List MO) : opLen [.lst (IL a)] M = .ok (.int a.length) M := by rw [len_lst, List.length_map]
theorem le_int (i j : Int) (M : List MO) : opB (fun i j => decide (i ≤ j)) (.int i) (.int j) M = .ok (.bl (decide (i ≤ j))) M := rfl
theorem ge_int (i j : Int) (M : List MO) : opB (fun i j => decide (j ≤ i)) (.int i) (.int j) M = .ok (.bl (decide (j ≤ i))) M := rfl
theorem neg_int (i : Int) (M : List MO) : opNeg (.int i) M = .ok (.int (-i)) M := rfl
theorem tru_tI (a : List Int) (M : List MO) : truV M (.tup (IL a)) = some (!a.isEmpty) := by cases a <;> rfl
theorem tru_lI (a : List Int) (M : List MO) : truV M (.lst (IL a)) = some (!a.isEmpty) := by cases a <;> rfl
theorem tru_ref {n : Nat} {M : List MO} {a : List Int} (h : M[n]? = some (.lst (IL a))) : truV M (.ref n) = some (!a.isEmpty) := by
  unfold truV
  dsimp only
  rw [h]
  cases a <;> rfl
theorem sl1_to (a : List Int) (M : List MO) : opSl mkF (.tup (IL a)) none (some 1) M = .ok (.tup (IL (a.take 1))) M := by
  rw [sl_tup]
  cases a with
  | nil => rfl
  | cons x r => rw [show (1 : Int) = ((1 : Nat) : Int) from rfl, sl_to _ 1 (by rw [List.length_cons]; omega)]
theorem sl1_from (a : List Int) (M : List MO) : opSl mkF (.tup (IL a)) (some 1) none M = .ok (.tup (IL (a.drop 1))) M := by
  rw [sl_tup]
  cases a with
  | nil => rfl
  | cons x r => rw [show (1 : Int) = ((1 : Nat) : Int) from rfl, sl_from _ 1 (by rw [List.length_cons]; omega)]
theorem ix0T (x : Int) (a : List Int) (M : List MO) : opIx (.tup (IL (x :: a))) (.int 0) M = .ok (.int x) M := ix_at (Int.le_refl _) rfl rfl
theorem ixR {n : Nat} {M : List MO} {a : List Int} {x : Int} (h : M[n]? = some (.lst (IL a))) (hx : a.getLast? = some x) : opIx (.ref n) (.int (-1)) M = .ok (.int x) M := by
  have : opIx (.tup (IL a)) (.int (-1)) M = .ok (.int x) M := ix_neg1 M hx
  unfold opIx at this ⊢
  rw [asSeq_ref h]
  exact this
theorem tup1I {f : EvE} {env : Env} {M : List MO} {x : Int} (h : f env M = .ok (.int x) M) : eTup (esCons f esNil) env M = .ok (.tup (IL [x])) M := tup1 h
theorem tup0 (env : Env) (M : List MO) : eTup esNil env M = .ok (.tup (IL [])) M := tup_of rfl (by show 0 ≤ 1000000; omega)
theorem lst0 (env : Env) (M : List MO) : eLst mkF esNil env M = .ok (.lst (IL [])) M := eLst_nil env M
theorem mm2_max (i j : Int) (M : List MO) : opMm2 true [.int i, .int j] M = .ok (.int (if j > i then j else i)) M := rfl
theorem mm2_min (i j : Int) (M : List MO) : opMm2 false [.int i, .int j] M = .ok (.int (if j < i then j else i)) M := rfl
theorem abs_int (i : Int) (M : List MO) : opAbs [.int i] M = .ok (.int (if i < 0 then -i else i)) M := rfl
theorem intB (b : Bool) (M : List MO) : opInt1 [.bl b] M = .ok (.int (if b then 1 else 0)) M := rfl
theorem powW_int {i j : Int} (M : List MO) (h : CPowW i j) : opIC CPowW (fun i j => i ^ j.toNat) (.int i) (.int j) M = .ok (.int (i ^ j.toNat)) M := if_pos h
theorem pops {n : Nat} {M : List MO} {a : List D} {x : D} (h : M[n]? = some (.lst (a ++ [x]))) : opPop (.ref n) [] M = .ok x (M.set n (.lst a)) := by
  unfold opPop
  dsimp only
  rw [h]
  dsimp only
  rw [show (a ++ [x])[(a ++ [x]).length - 1]? = some x by rw [List.length_append, List.length_singleton, Nat.add_sub_cancel, List.getElem?_append_right (Nat.le_refl _), Nat.sub_self]; rfl]
  dsimp only
  rw [List.dropLast_concat]
theorem eM_ref {op : D → List D → List MO → Out D} {f : EvE} {fs : EvEs} {env : Env} {M M2 : List MO} {n : Nat} {l : List D} {ds : List D} (h : f env M = .ok (.ref n) M) (hn : M[n]? = some (.lst l)) (hs : fs env M = .ok ds M2) : eM op f fs env M = op (.ref n) ds M2 := by
  unfold eM
  rw [h, Out.bind_ok, asL_ref hn, if_pos Option.isSome_some, hs, Out.bind_ok]
theorem eM0_ref {op : D → List D → List MO → Out D} {f : EvE} {env : Env} {M : List MO} {n : Nat} {l : List D} (h : f env M = .ok (.ref n) M) (hn : M[n]? = some (.lst l)) : eM0 op f env M = op (.ref n) [] M := by
  unfold eM0
  rw [h, Out.bind_ok, asL_ref hn, if_pos Option.isSome_some]theorem oT_some (b : Bool) (M : List MO) : oT (some b) M = .ok b M := rfl
theorem asB_bl (b : Bool) : asB (.bl b) = some b := rfl
theorem IL_app (a b : List Int) : IL (a ++ b) = IL a ++ IL b := List.map_append
theorem append_okI {N : Nat} {M : List MO} {l : List Int} {y : Int} (h : M[N]? = some (.lst (IL l))) (hl : l.length ≤ 1000000) : opAppend (.ref N) [.int y] M = .ok .non (M.set N (.lst (IL (l ++ [y])))) := by
  rw [append_ok h (by rw [List.length_map]; exact hl), IL_app]
  rfl
/-- o.append(e), whole numbers -/
theorem exp_appI {n : Nat} {f g : EvE} {env : Env} {M M1 : List MO} {l0 : List D} {l : List Int} {y : Int} (h : f env M = .ok (.ref n) M) (h0 : M[n]? = some (.lst l0)) (hg : g env M = .ok (.int y) M1) (h1 : M1[n]? = some (.lst (IL l))) (hl : l.length ≤ 1000000) :
    sExp (eM opAppend f (esCons g esNil)) env M = .ok (.nx env) (M1.set n (.lst (IL (l ++ [y])))) := by
  unfold sExp
  rw [eM_ref h h0 (es_cons2 hg (es_nil _ _)), append_okI h1 hl, Out.bind_ok]
theorem add_refL {n : Nat} {M : List MO} {a b : List Int} (h : M[n]? = some (.lst (IL a))) (hl : a.length + b.length ≤ 1000000) : opAdd mkF (.ref n) (.lst (IL b)) M = .ok (.lst (IL (a ++ b))) M := by
  unfold opAdd
  dsimp only
  rw [show asLt M (.ref n) = some (IL a) from asL_ref h, show asLt M (.lst (IL b)) = some (IL b) from rfl]
  dsimp only
  rw [if_pos (small_line (by rw [List.length_map, List.length_map]; exact hl)), IL_app]
  rfl
theorem rev_refI {n : Nat} {M : List MO} {a : List Int} (h : M[n]? = some (.lst (IL a))) : opRev mkF (.ref n) M = .ok (.lst (IL a.reverse)) M := by
  unfold opRev
  dsimp only
  rw [asL_ref h]
  show Out.ok (D.lst (IL a).reverse) M = _
  rw [← List.map_reverse]
theorem rev_refN {n : Nat} {M : List MO} {a : List Int} (h : M[n]? = some (.lst (IL a))) : opRev mkN (.ref n) M = .ok (.ref M.length) (M ++ [.lst (IL a.reverse)]) := by
  unfold opRev
  dsimp only
  rw [asL_ref h]
  show Out.ok (D.ref M.length) (M ++ [.lst (IL a).reverse]) = _
  rw [← List.map_reverse]
theorem extend_refI {N n : Nat} {M : List MO} {l m : List Int} (h : M[N]? = some (.lst (IL l))) (h2 : M[n]? = some (.lst (IL m))) (hl : l.length + m.length ≤ 1000000) : opExtend (.ref N) [.ref n] M = .ok .non (M.set N (.lst (IL (l ++ m)))) := by
  unfold opExtend
  dsimp only
  rw [h, h2]
  dsimp only
  rw [if_pos (small_line (by rw [List.length_map, List.length_map]; exact hl)), IL_app]
theorem at_app {M X : List MO} (i : Nat) : (M ++ X)[M.length + i]? = X[i]? := by rw [List.getElem?_append_right (by omega), Nat.add_sub_cancel_left]
theorem at_app0 {M X : List MO} : (M ++ X)[M.length]? = X[0]? := at_app 0
theorem set_app {M X : List MO} (i : Nat) (o : MO) : (M ++ X).set (M.length + i) o = M ++ X.set i o := by rw [List.set_append_right _ _ (by omega), Nat.add_sub_cancel_left]
theorem set_app0 {M X : List MO} (o : MO) : (M ++ X).set M.length o = M ++ X.set 0 o := set_app 0 o
theorem eTup1 (f : EvE) (env : Env) (M : List MO) : eTup (esCons f esNil) env M = (f env M).bind fun d M1 => .ok (.tup [d]) M1 := by
  unfold eTup esCons
  cases f env M with
  | ok d M1 =>
    show (if [d].length ≤ sizeLine then Out.ok (D.tup [d]) M1 else Out.no) = _
    exact if_pos (small_line (by show 1 ≤ 1000000; omega))
  | ex => rfl
  | no => rfl
theorem tupI1 (x : Int) : D.tup [D.int x] = D.tup (IL [x]) := rfl
theorem lstI1 (x : Int) : D.lst [D.int x] = D.lst (IL [x]) := rfl
end SX
end
section
set_option Elab.async false
set_option linter.all false
set_option maxRecDepth 100000
open Classical
/-! SXA3: dicts whose keys are tuples. -/
namespace SX
open PySem PySem.Spec PyProof.Rows L2 PySem.W PySem.Calls
section
variable {X : Cx} {pins : List (Addr × Obj)} {σ : L2.St} {H : Hp} {s : Shared} {A : Ads}
mutual
theorem keyN_is (I : Inv X pins σ H s) : ∀ {d : D} {v : V} {nk : NestedKey} {u : Value}, Rep X.K A H d v → keyN d = some nk → RelV v u → NestedIs s.heap nk u
  | .non, _, _, _, r, e, h => by
    cases r; cases e
    obtain rfl := h
    exact .none
  | .bl b, _, _, _, r, e, h => by
    cases r; cases e
    obtain rfl := h
    exact .bool rfl
  | .int i, _, _, _, r, e, h => by
    cases r; cases e
    obtain ⟨t, rfl⟩ := h
    exact .int i t
  | .str x, _, _, _, r, e, h => by cases e
  | .tup l, _, _, _, r, e, h => by
    unfold keyN at e
    cases h1 : keyNs l with
    | none => rw [h1] at e; cases e
    | some ks =>
      rw [h1] at e
      cases e
      cases r with
      | tup ht hr =>
        obtain rfl := h
        obtain ⟨its, hv, it, _⟩ := I.tuple ht.sq
        obtain ⟨o, hg, hc, n, hd⟩ := it
        exact .tup hg hc hd (keyNs_is I hr h1 hv)
  | .pr l, _, _, _, r, e, h => by cases e
  | .lst l, _, _, _, r, e, h => by cases e
  | .rol l, _, _, _, r, e, h => by cases e
  | .ref n, _, _, _, r, e, h => by cases e
  | .exc _ _ _, _, _, _, r, e, h => by cases e
  | .adr _, _, _, _, r, e, h => by cases e
theorem keyNs_is (I : Inv X pins σ H s) : ∀ {ds : List D} {vs : List V} {ks : List NestedKey} {us : List Value}, Reps X.K A H ds vs → keyNs ds = some ks → Vals vs us → NestedAll s.heap ks us
  | [], _, _, _, r, e, h => by
    cases r; cases h
    unfold keyNs at e
    cases e
    exact .nil
  | d :: ds, _, _, _, r, e, h => by
    unfold keyNs at e
    cases h1 : keyN d with
    | none => rw [h1] at e; cases e
    | some k =>
      cases h2 : keyNs ds with
      | none => rw [h1, h2] at e; cases e
      | some ks =>
        rw [h1, h2] at e
        cases e
        cases r with
        | cons r1 r2 =>
          cases h with
          | cons v1 v2 => exact .cons (keyN_is I r1 h1 v1) (keyNs_is I r2 h2 v2)
end
end
mutual
theorem keyN_hash : ∀ {d : D} {nk : NestedKey}, keyN d = some nk → ∀ w w' : World, nk.hash w = nk.hash w'
  | .non, _, e, _, _ => by cases e; rfl
  | .bl b, _, e, _, _ => by cases e; rfl
  | .int i, _, e, _, _ => by cases e; rfl
  | .str x, _, e, _, _ => by cases e
  | .tup l, _, e, w, w' => by
    unfold keyN at e
    cases h1 : keyNs l with
    | none => rw [h1] at e; cases e
    | some ks =>
      rw [h1] at e
      cases e
      show reduceHash (Builtin.Tuple.tupleHashOf (NestedKey.hashes w ks)) = reduceHash (Builtin.Tuple.tupleHashOf (NestedKey.hashes w' ks))
      rw [keyNs_hash h1 w w']
  | .pr l, _, e, _, _ => by cases e
  | .lst l, _, e, _, _ => by cases e
  | .rol l, _, e, _, _ => by cases e
  | .ref n, _, e, _, _ => by cases e
  | .exc _ _ _, _, e, _, _ => by cases e
  | .adr _, _, e, _, _ => by cases e
theorem keyNs_hash : ∀ {ds : List D} {ks : List NestedKey}, keyNs ds = some ks → ∀ w w' : World, NestedKey.hashes w ks = NestedKey.hashes w' ks
  | [], _, e, _, _ => by unfold keyNs at e; cases e; rfl
  | d :: ds, _, e, w, w' => by
    unfold keyNs at e
    cases h1 : keyN d with
    | none => rw [h1] at e; cases e
    | some k =>
      cases h2 : keyNs ds with
      | none => rw [h1, h2] at e; cases e
      | some ks =>
        rw [h1, h2] at e
        cases e
        show k.hash w :: NestedKey.hashes w ks = k.hash w' :: NestedKey.hashes w' ks
        rw [keyN_hash h1 w w', keyNs_hash h2 w w']
end
/-- the keys' hashes lean on no text -/
def Plain (xs : List (NestedKey × Addr × Value)) : Prop := ∀ x ∈ xs, ∀ w w' : World, x.1.hash w = x.1.hash w'
theorem KRep.plain {K : PySem.W.Frag} {A : Ads} {H : Hp} : ∀ {kvs : List (D × D)} {xs : List (NestedKey × Addr × Value)}, KRep K A H kvs xs → Plain xs
  | _, _, .nil => fun x hx => by cases hx
  | _, _, .cons h1 h2 h3 h4 h5 t => fun x hx => by
    rcases List.mem_cons.mp hx with rfl | hx
    · exact keyN_hash h1
    · exact KRep.plain t x hx
theorem entries_eq {xs : List (NestedKey × Addr × Value)} (h : Plain xs) (P P' : Program) (w w' : World) : xs.map (entryOfKey (nestedKind P w)) = xs.map (entryOfKey (nestedKind P' w')) := by
  refine List.map_congr_left fun x hx => ?_
  show DictEntry.mk (x.1.hash w) _ _ = DictEntry.mk (x.1.hash w') _ _
  rw [h x hx w w']
section
variable {X : Cx} {pins : List (Addr × Obj)} {σ : L2.St} {H : Hp} {s : Shared} {A : Ads}
theorem KRep.is (I : Inv X pins σ H s) : ∀ {kvs : List (D × D)} {xs : List (NestedKey × Addr × Value)}, KRep X.K A H kvs xs → ∀ x ∈ xs, (nestedKind X.prog X.w).is s.heap x.1 x.2.1
  | _, _, .nil => fun x hx => by cases hx
  | _, _, .cons h1 h2 h3 h4 h5 t => fun x hx => by
    rcases List.mem_cons.mp hx with rfl | hx
    · exact ⟨keyN_is I h3 h1 rfl, h2⟩
    · exact KRep.is I t x hx
/-- the dict in the heap -/
theorem dict_of (I : Inv X pins σ H s) {a : Addr} {kvs : List (D × D)} {xs : List (NestedKey × Addr × Value)} (h : H a = some (.ext (DRec a xs))) (k : KRep X.K A H kvs xs) (nd : (xs.map (·.1)).Nodup) : s.heap.DictOfH (nestedKind X.prog X.w) a xs := by
  obtain ⟨f, _, _⟩ := I.hok a _ h
  obtain ⟨o, es, ep, h1, h2, h3, h4⟩ := f X.prog X.w
  exact ⟨o, es, ep, h1, h2, h3, h4, k.is I, nd⟩
theorem drec_ok {H2 : Hp} {h : Heap} {a : Addr} {xs : List (NestedKey × Addr × Value)} (hm : h.DictOfH (nestedKind X.prog X.w) a xs) (pl : Plain xs) : ObjOk X.prog X.w H2 h a (.ext (DRec a xs)) := by
  obtain ⟨o, es, ep, h1, h2, h3, h4, _, _⟩ := hm
  refine ⟨fun P w => ⟨o, es, ep, h1, h2, h3, h4.trans (entries_eq pl _ _ _ _)⟩, ⟨o, h1⟩, fun g g' f k P w => ?_⟩
  obtain ⟨o, es, ep, k1, k2, k3, k4⟩ := f P w
  exact ⟨o, es, ep, k o k1, k2, k3, k4⟩
end
/-! ### {} -/
def tDNew : TE := fun _ H Q => ∀ p, H p = none → (p == sysModules) = false → Q (.ref p) (upd H p (.ext (DRec p [])))
section
variable {X : Cx} {p : Pm} {a b : Expr} {f g : EvE} {pos pn : Pos}
theorem pe_dnew : PE X (.Dict [] [] pos) tDNew := ⟨fun pins s σ H Q I h => by
  refine wpAny_Dict_empty ⟨.ref s.heap.objs.size, _, I.laid (a := s.heap.objs.size) (o := .ext (DRec s.heap.objs.size [])) (t' := s.toks) (fun _ _ q => Heap.get?_push_of_some _ q) (Nat.le_refl _) ?_, rfl, h _ (I.hok.fresh (Nat.le_refl _)) (beq_eq_false_iff_ne.mpr (Ne.symm (Nat.ne_of_lt I.big)))⟩
  exact drec_ok (X := X) ⟨_, #[], 0, Heap.get?_push_size _ rfl, ⟨rfl, rfl, rfl⟩, rfl, rfl, (fun x hx => by cases hx), List.nodup_nil⟩ (fun x hx => by cases hx)⟩
def eDict0 : EvE := fun _ M => .ok (.ref M.length) (M ++ [.dK []])
theorem se_dict0 : SE X p (.Dict [] [] pos) eDict0 := pe_imp pe_dnew fun σ H Q ⟨A, M, env, R, S, q⟩ q' hq hs => by
  have s1 : Stp X.K p.T A H (A ++ [some q']) (M ++ [.dK []]) (upd H q' (.ext (DRec q' []))) := .newO R hq ⟨[], upd_same, hs, Nat.zero_le _, List.nodup_nil, .nil⟩
  refine q _ _ _ s1 (.ref ?_)
  rw [← R.len, List.getElem?_append_right (Nat.le_refl _), Nat.sub_self]
  rfl
/-! ### d[k] = v -/
/-- a key that is there, up to == -/
noncomputable def hasK (kvs : List (D × D)) (k : D) : Bool := kvs.any fun q => decide (keyN q.1 = keyN k)
noncomputable def storeD (kvs : List (D × D)) (k v : D) : List (D × D) := if hasK kvs k = true then kvs.map (fun q => if keyN q.1 = keyN k then (q.1, v) else q) else kvs ++ [(k, v)]
noncomputable def findK (kvs : List (D × D)) (k : D) : Option D := (kvs.find? fun q => decide (keyN q.1 = keyN k)).map (·.2)
theorem KRep.has {K : PySem.W.Frag} {A : Ads} {H : Hp} {k : D} {nk : NestedKey} (hk : keyN k = some nk) : ∀ {kvs : List (D × D)} {xs : List (NestedKey × Addr × Value)}, KRep K A H kvs xs → (atKey xs nk).isSome = hasK kvs k
  | _, _, .nil => rfl
  | _, _, .cons (l := l) (nk := nk') h1 h2 h3 h4 h5 t => by
    have ih := KRep.has hk t
    unfold hasK atKey at ih ⊢
    rw [List.any_cons, List.find?_cons, ← ih, h1, hk]
    by_cases e : nk' = nk
    · subst e
      simp
    · have e2 : ¬ (some nk' = some nk) := fun z => e (Option.some.inj z)
      rw [decide_eq_false e2, decide_eq_false (show ¬ ((nk', _, _) : NestedKey × Addr × Value).1 = nk from e), Bool.false_or]
theorem KRep.put {K : PySem.W.Frag} {A : Ads} {H : Hp} {k v : D} {nk : NestedKey} {u : Value} {vv : V} (hk : keyN k = some nk) (hu : RelV vv u) (hv : Rep K A H v vv) : ∀ {kvs : List (D × D)} {xs : List (NestedKey × Addr × Value)}, KRep K A H kvs xs → KRep K A H (kvs.map fun q => if keyN q.1 = keyN k then (q.1, v) else q) (xs.map (putAt nk u))
  | _, _, .nil => .nil
  | _, _, .cons (nk := nk') h1 h2 h3 h4 h5 t => by
    rw [List.map_cons, List.map_cons]
    unfold putAt
    by_cases e : nk' = nk
    · rw [if_pos (by rw [h1, hk, e]), if_pos (show ((nk', _, _) : NestedKey × Addr × Value).1 = nk from e)]
      exact .cons h1 h2 h3 hu hv (KRep.put hk hu hv t)
    · rw [if_neg (by rw [h1, hk]; exact fun z => e (Option.some.inj z)), if_neg (show ¬ ((nk', _, _) : NestedKey × Addr × Value).1 = nk from e)]
      exact .cons h1 h2 h3 h4 h5 (KRep.put hk hu hv t)
theorem KRep.snoc {K : PySem.W.Frag} {A : Ads} {H : Hp} {kvs' : List (D × D)} {xs' : List (NestedKey × Addr × Value)} (t' : KRep K A H kvs' xs') : ∀ {kvs : List (D × D)} {xs : List (NestedKey × Addr × Value)}, KRep K A H kvs xs → KRep K A H (kvs ++ kvs') (xs ++ xs')
  | _, _, .nil => t'
  | _, _, .cons h1 h2 h3 h4 h5 t => .cons h1 h2 h3 h4 h5 (KRep.snoc t' t)
theorem KRep.store {K : PySem.W.Frag} {A : Ads} {H : Hp} {l : List D} {v : D} {nk : NestedKey} {ka : Addr} {u : Value} {vv : V} (hk : keyN (.tup l) = some nk) (hd : nk.depth ≤ 8) (hr : Rep K A H (.tup l) (.ref ka)) (hu : RelV vv u) (hv : Rep K A H v vv) {kvs : List (D × D)} {xs : List (NestedKey × Addr × Value)} (t : KRep K A H kvs xs) : KRep K A H (storeD kvs (.tup l) v) (storedH xs nk ka u) := by
  unfold storeD storedH
  rw [t.has hk]
  split
  · exact t.put hk hu hv
  · exact KRep.snoc (.cons hk hd hr hu hv .nil) t
theorem stored_nodup {xs : List (NestedKey × Addr × Value)} {nk : NestedKey} {ka : Addr} {u : Value} (h : (xs.map (·.1)).Nodup) : ((storedH xs nk ka u).map (·.1)).Nodup := by
  unfold storedH
  split
  · have e : (xs.map (putAt nk u)).map (·.1) = xs.map (·.1) := by
      rw [List.map_map]
      refine List.map_congr_left fun x _ => ?_
      show (putAt nk u x).1 = x.1
      unfold putAt
      split <;> rfl
    rw [e]; exact h
  · rename_i hn
    rw [List.map_append]
    refine List.nodup_append.mpr ⟨h, by simp, fun a ha b hb e => ?_⟩
    have hb : b = nk := by simpa using hb
    obtain ⟨x, hx, rfl⟩ := List.mem_map.mp ha
    apply hn
    unfold atKey
    rw [Option.isSome_map, List.find?_isSome]
    exact ⟨x, hx, decide_eq_true (e.trans hb)⟩
theorem stored_len {xs : List (NestedKey × Addr × Value)} {nk : NestedKey} {ka : Addr} {u : Value} : (storedH xs nk ka u).length ≤ xs.length + 1 := by
  unfold storedH
  split
  · rw [List.length_map]; omega
  · rw [List.length_append]; exact Nat.le_refl _
def rSetD (K : PySem.W.Frag) : V → V → V → Hp → (Hp → Prop) → Prop := fun o i v H Q => ∃ A kvs xs a l ka nk, o = .ref a ∧ i = .ref ka ∧ H a = some (.ext (DRec a xs)) ∧ xs.length ≤ sizeLine ∧ (xs.map (·.1)).Nodup ∧ KRep K A H kvs xs ∧ Rep K A H (.tup l) (.ref ka) ∧ keyN (.tup l) = some nk ∧ nk.depth ≤ 8 ∧
  ∀ u, RelV v u → Q (upd H a (.ext (DRec a (storedH xs nk ka u))))
theorem set_dict {k : Nat} (hr : Room k X.A) : PSet X (rSetD X.K) := by
  intro pins s σ H o i v ov iv u Q I ro ri rv h
  obtain ⟨A, kvs, xs, a, l, ka, nk, rfl, rfl, hH, hz, nd, kr, kk, hk, hd, q⟩ := h
  obtain rfl : ov = .ref a := ro
  obtain rfl : iv = .ref ka := ri
  have hun := hr.units
  refine wpAny_setItem_heap (knd := nestedKind X.prog X.w) (hsz := hz) (by show X.A.units + 1 + 8 < cLine; omega) ⟨keyN_is I kk hk rfl, hd⟩ (dict_of I hH kr nd) fun h' hm' hs => ?_
  refine ⟨_, I.write (x := a) (e := a) (by rw [hH]; trivial) (.inl rfl) (fun b u hb e => (hs.2 b hb).trans e) ?_ ?_, q u rv⟩
  · obtain ⟨o, _, _, e, _⟩ := hm'
    exact ⟨o, e⟩
  · refine drec_ok (X := X) hm' fun x hx w w' => ?_
    unfold storedH at hx
    split at hx
    · obtain ⟨y, hy, rfl⟩ := List.mem_map.mp hx
      have := kr.plain y hy w w'
      unfold putAt
      split <;> exact this
    · rcases List.mem_append.mp hx with hx | hx
      · exact kr.plain x hx w w'
      · rw [List.mem_singleton.mp hx]; exact keyN_hash hk w w'
/-- is it a key of no great depth -/
noncomputable def keyOk (k : D) : Bool := match keyN k with
  | some nk => decide (nk.depth ≤ 8)
  | none => false
noncomputable def opSetD (o i d : D) (M : List MO) : Out Unit := match o, i with
  | .ref n, .tup l => match M[n]? with
    | some (.dK kvs) => if keyOk (.tup l) = true ∧ kvs.length < sizeLine then .ok () (M.set n (.dK (storeD kvs (.tup l) d))) else .no
    | _ => .no
  | _, _ => .no
theorem KRep.len {K : PySem.W.Frag} {A : Ads} {H : Hp} : ∀ {kvs : List (D × D)} {xs : List (NestedKey × Addr × Value)}, KRep K A H kvs xs → kvs.length = xs.length
  | _, _, .nil => rfl
  | _, _, .cons h1 h2 h3 h4 h5 t => by rw [List.length_cons, List.length_cons, KRep.len t]
theorem keyOk_of {k : D} (h : keyOk k = true) : ∃ nk, keyN k = some nk ∧ nk.depth ≤ 8 := by
  unfold keyOk at h
  cases e : keyN k with
  | none => rw [e] at h; cases h
  | some nk => rw [e] at h; exact ⟨nk, rfl, of_decide_eq_true h⟩
noncomputable def gtSubD (f g : EvE) : EvG := fun d env M => (f env M).bind fun o M1 => (g env M1).bind fun i M2 => (opSetD o i d M2).bind fun _ M3 => .ok env M3
theorem sg_subD {k : Nat} (hr : Room k X.A) (ha : SE X p a f) (hb : SE X p b g)
    (hh : ∀ v, assign (.Subscript a b pos) X.env v = (do
      let ov ← holding [v] (eval a X.env)
      let iv ← holding [v, ov] (eval b X.env)
      standAt pos
      holding [v, ov, iv] (setItem ov iv v)
      release [v, ov, iv] []) := by intro _; rfl) : SG X p (.Subscript a b pos) (gtSubD f g) :=
  pg_imp (pg_sub ha hb (set_dict hr) hh) fun v σ H Q ⟨A, M, env, d, R, S, r, q⟩ => seqE R S (fun _ _ _ _ z => z) q fun o M1 ov H1 A1 s1 r1 q1 =>
    seqE s1.rel (S.stp R s1) (fun _ _ _ _ z => Exc.stp s1 z) q1 fun i M2 iv H2 A2 s2 r2 q2 => by
      have S2 := (S.stp R s1).stp s1.rel s2
      have rd := (r.stp R s1).stp s1.rel s2
      unfold opSetD at q2
      cases o with
      | ref n =>
        cases i with
        | tup l =>
          dsimp only at q2
          cases hm : M2[n]? with
          | none => rw [hm] at q2; exact q2.elim
          | some ob =>
            rw [hm] at q2
            cases ob with
            | dK kvs =>
              dsimp only at q2
              by_cases c : keyOk (.tup l) = true ∧ kvs.length < sizeLine
              · rw [if_pos c] at q2
                obtain ⟨nk, hk, hd⟩ := keyOk_of c.1
                obtain ⟨a', e1, ha', xs, h2, hsy, hz, nd, kr⟩ := s2.rel.ref (r1.stp s1.rel s2) hm (fun z => by cases z)
                obtain ⟨ka, vs, e2, _, _⟩ := rep_tpl r2
                subst e1
                subst e2
                refine ⟨A2, kvs, xs, a', l, ka, nk, rfl, rfl, h2, hz, nd, kr, r2, hk, hd, fun u hu => ?_⟩
                have s3 : Stp X.K p.T A2 H2 A2 (M2.set n (.dK (storeD kvs (.tup l) d))) (upd H2 a' (.ext (DRec a' (storedH xs nk ka u)))) := Stp.setO s2.rel ha' fun m => ⟨_, upd_same, hsy, Nat.le_trans stored_len (by rw [← kr.len]; exact c.2), stored_nodup nd, KRep.store hk hd (r2.mv s2.rel m) hu (rd.mv s2.rel m) (kr.mv s2.rel m)⟩
                exact q2 σ _ A2 ((s1.trans s2).trans s3) (S2.stp s2.rel s3)
              · rw [if_neg c] at q2; exact q2.elim
            | _ => exact q2.elim
        | _ => exact q2.elim
      | _ => exact q2.elim
/-! ### k in d -/
def rInK (K : PySem.W.Frag) (neg : Bool) : R2 := fun x y H Q => ∃ A kvs xs a l ka nk, y = .ref a ∧ x = .ref ka ∧ H a = some (.ext (DRec a xs)) ∧ (a == sysModules) = false ∧ (xs.map (·.1)).Nodup ∧ KRep K A H kvs xs ∧ Rep K A H (.tup l) (.ref ka) ∧ keyN (.tup l) = some nk ∧ nk.depth ≤ 8 ∧ Q (.bl (if neg then !(atKey xs nk).isSome else (atKey xs nk).isSome)) H
theorem op_inK {k : Nat} (hr : Room k X.A) : OpR X (compareOp .In) (rInK X.K false) := by
  intro pins s σ H x y v u Q I rx ry h
  obtain ⟨A, kvs, xs, a, l, ka, nk, rfl, rfl, hH, hsy, nd, kr, kk, hk, hd, q⟩ := h
  obtain rfl : v = .ref ka := rx
  obtain rfl : u = .ref a := ry
  have hun := hr.units
  exact wpAny_in_heap (knd := nestedKind X.prog X.w) (by show X.A.units + 1 + 8 < cLine; omega) ⟨keyN_is I kk hk rfl, hd⟩ hsy (dict_of I hH kr nd) ⟨.bl (atKey xs nk).isSome, H, I.tok _, rfl, q⟩
theorem op_notInK {k : Nat} (hr : Room k X.A) : OpR X (compareOp .NotIn) (rInK X.K true) := by
  intro pins s σ H x y v u Q I rx ry h
  obtain ⟨A, kvs, xs, a, l, ka, nk, rfl, rfl, hH, hsy, nd, kr, kk, hk, hd, q⟩ := h
  obtain rfl : v = .ref ka := rx
  obtain rfl : u = .ref a := ry
  have hun := hr.units
  show wpAny _ _ (do return Value.bool (!(← contains (.ref a) (.ref ka)))) _ _ s
  exact wpAny_bind (wpAny_contains_heap (knd := nestedKind X.prog X.w) (by show X.A.units + 1 + 8 < cLine; omega) ⟨keyN_is I kk hk rfl, hd⟩ hsy (dict_of I hH kr nd) (wpAny_pure ⟨.bl (!(atKey xs nk).isSome), H, I.tok _, rfl, q⟩))
noncomputable def opInK (neg : Bool) : D → D → List MO → Out D := fun x y M => match x, y with
  | .tup l, .ref n => match M[n]? with
    | some (.dK kvs) => if keyOk (.tup l) = true then .ok (.bl (if neg then !hasK kvs (.tup l) else hasK kvs (.tup l))) M else .no
    | _ => .no
  | _, _ => .no
theorem opInK_calm {neg} : Calm2 (opInK neg) := by
  intro x y M c d e M' q
  unfold opInK at q
  split at q
  · split at q
    · split at q <;> cases q
    · cases q
  · cases q
theorem opInK_pre {K : PySem.W.Frag} {neg : Bool} {T : List Addr} {A : Ads} {M : List MO} {H : Hp} {x y : D} {v w : V} {Q : VK} (R : Rel K T A M H) (rx : Rep K A H x v) (ry : Rep K A H y w)
    (h : OutR (opInK neg x y M) (Fin K T A H Q) (fun _ _ _ _ => False)) : rInK K neg v w H Q := by
  unfold opInK at h
  cases x with
  | tup l =>
    cases y with
    | ref n =>
      dsimp only at h
      cases hm : M[n]? with
      | none => rw [hm] at h; exact h.elim
      | some ob =>
        rw [hm] at h
        cases ob with
        | dK kvs =>
          obtain ⟨c, h⟩ := ifO h
          obtain ⟨nk, hk, hd⟩ := keyOk_of c
          obtain ⟨a', e1, ha', xs, h2, hsy, hz, nd, kr⟩ := R.ref ry hm (fun z => by cases z)
          obtain ⟨ka, vs, e2, _, _⟩ := rep_tpl rx
          subst e1
          subst e2
          refine ⟨A, kvs, xs, a', l, ka, nk, rfl, rfl, h2, hsy, nd, kr, rx, hk, hd, ?_⟩
          rw [kr.has hk]
          exact h _ H A (.refl R) (.bl _)
        | _ => exact h.elim
    | _ => exact h.elim
  | _ => exact h.elim
theorem se_inK {k : Nat} (hr : Room k X.A) (ha : SE X p a f) (hb : SE X p b g) (hm : behindInMarks .In b = false := by rfl) : SE X p (.Compare a [.In] [b] pos) (eBin (opInK false) f g) := se_bin (fun ta tb h1 h2 => pe_cmpR (op_inK hr) h1 h2 hm) (fun T A M H x y v w Q R rx ry h => opInK_pre R rx ry h) opInK_calm ha hb
theorem se_notInK {k : Nat} (hr : Room k X.A) (ha : SE X p a f) (hb : SE X p b g) (hm : behindInMarks .NotIn b = false := by rfl) : SE X p (.Compare a [.NotIn] [b] pos) (eBin (opInK true) f g) := se_bin (fun ta tb h1 h2 => pe_cmpR (op_notInK hr) h1 h2 hm) (fun T A M H x y v w Q R rx ry h => opInK_pre R rx ry h) opInK_calm ha hb
/-! ### len(d) -/
def rLenK (K : PySem.W.Frag) : List V → Hp → VK → Prop := fun vs H Q => ∃ A kvs xs a, vs = [V.ref a] ∧ H a = some (.ext (DRec a xs)) ∧ (a == sysModules) = false ∧ xs.length ≤ sizeLine ∧ (xs.map (·.1)).Nodup ∧ KRep K A H kvs xs ∧ Q (.int xs.length) H
theorem call_lenK : CallR X (.builtin "len") (rLenK X.K) := by
  intro pins s σ H xs us Q I r h
  obtain ⟨A, kvs, xs, a, rfl, hH, hsy, hz, nd, kr, q⟩ := h
  obtain ⟨u, rfl, rx⟩ := vals1 r
  obtain rfl : u = .ref a := rx
  exact call_len_dictH (knd := nestedKind X.prog X.w) hsy (dict_of I hH kr nd) (by rw [sizeLine_eq] at hz; omega) ⟨.int _, H, I.tok _, ⟨_, rfl⟩, q⟩
def opLenK : List D → List MO → Out D
  | [.ref n], M => match M[n]? with
    | some (.dK kvs) => .ok (.int kvs.length) M
    | _ => .no
  | _, _ => .no
theorem opLenK_calm : CalmC opLenK := by
  intro xs M c d e M' q
  unfold opLenK at q
  split at q
  · split at q <;> cases q
  · cases q
theorem se_lenK {es : List Expr} {e : Expr} {fs : EvEs} (hg : Gl X "len") (hm : X.mg "len" = none) (h : SA X p (e :: es) fs) (he : starEach (e :: es) X.env = (false, eval e X.env) :: starEach es X.env := by rfl) (hpl : (backTo pos (starEach es X.env)).any (·.1) = false := by rfl) :
    SE X p (.Call (.Name "len" pn) (e :: es) [] pos) (eB opLenK fs) :=
  se_b (fun t ht => pe_callB call_lenK hg hm PySem.boot_len ht (he := he) (hpl := hpl)) (fun T A M H xs vs Q R r h => by
    unfold opLenK at h
    split at h
    · rename_i n
      obtain ⟨v, e, r'⟩ := reps1 r
      subst e
      split at h
      · rename_i kvs hm
        obtain ⟨a', e1, ha', xs, h2, hsy, hz, nd, kr⟩ := R.ref r' hm (fun z => by cases z)
        subst e1
        exact ⟨A, kvs, xs, a', rfl, h2, hsy, hz, nd, kr, by rw [← kr.len]; exact h _ H A (.refl R) (.int _)⟩
      · exact h.elim
    · exact h.elim) opLenK_calm h
end
end SX
end
section
set_option Elab.async false
set_option linter.all false
set_option maxRecDepth 100000
open Classical
/-! SXA4: enumerate of a frozen list. -/
namespace SX
open PySem PySem.Spec PyProof.Rows L2 PySem.W PySem.Calls
theorem itOk_enumL {K : PySem.W.Frag} {T : List Addr} {A0 : Ads} {M0 : List MO} {H0 : Hp} {a : Addr} {l : List D} (st1 : ∀ A M H, Stp K T A0 H0 A M H → ∃ ws, SqL K H a ws ∧ Reps K A H l ws) : ItOk K T (Ite K a) A0 H0 ⟨enD l, fun _ => True⟩ where
  go := fun A M H s _ i d hd => by
    obtain ⟨x, hx, e⟩ := enD_at hd
    subst e
    obtain ⟨vs, k1, t⟩ := st1 A M H s
    obtain ⟨v, hv, r⟩ := t.get hx
    refine ⟨⟨vs, v, k1, hv⟩, fun z H' ⟨Tt, x', e1, hT, e2, y1⟩ => ?_⟩
    have z1 := y1 vs k1
    rw [hv] at z1
    cases z1
    subst e1
    subst e2
    have sl : Stp K T A H A M (upd H Tt (.tup [.int (i : Nat), v])) := .lay s.rel hT
    exact ⟨sl, .pr (.of upd_same) (.cons (.int _) (.cons (r.stp s.rel sl) .nil))⟩
  stop := fun A M H s _ => by
    obtain ⟨vs, k1, t⟩ := st1 A M H s
    exact ⟨vs, k1, Nat.le_of_eq (by
      show vs.length = (enD l).length
      rw [enD_len, t.length])⟩
def iEnumL (fs : EvEs) : EvI := fun env M => (fs env M).bind fun ds M1 => match ds with
  | [.lst l] => .ok ⟨enD l, fun _ => True⟩ M1
  | _ => .no
section
variable {X : Cx} {p : Pm} {a : Expr} {fs : EvEs} {pn pos : Pos}
theorem si_enumL {elts : List Expr} {kk : Nat} {tpos : Pos} (hg : Gl X "enumerate") (hm : X.mg "enumerate" = none) (ha : SA X p [a] fs) (hn : Cnt fs 1)
    (hs : starEach [a] X.env = [(false, eval a X.env)] := by rfl) : SI X p (.Tuple elts kk tpos) (.Call (.Name "enumerate" pn) [a] [] pos) (iEnumL fs) :=
  pi_imp (L2.pi_enum hg hm ha hs) fun σ H Q ⟨A, M, env, R, S, q⟩ => ⟨A, M, env, R, S, (OutR.of_bind q).imp (fun ds M1 e q1 vs H1 A1 s1 r1 => by
    have hl := hn _ _ _ _ e
    match ds, hl with
    | [d], _ =>
      obtain ⟨v, e1, r⟩ := reps1 r1
      subst e1
      cases d with
      | lst xs =>
        cases r with
        | lst h hn' t =>
          exact ⟨_, _, rfl, .of h, q1 _ H1 A1 s1 (itOk_enumL (M0 := M1) fun A M H s => ⟨_, .of (s.mv.lst s1.rel h hn'), t.stp s1.rel s⟩)⟩
      | _ => exact q1.elim) fun _ _ _ _ _ z => z⟩
end
end SX
end
section
set_option Elab.async false
set_option linter.all false
set_option maxRecDepth 100000
set_option maxHeartbeats 1000000
open Classical
/-! SXA5: dict comprehensions whose keys are tuples. -/
namespace SX
open PySem PySem.Spec PyProof.Rows L2 PySem.W PySem.Calls
theorem d_setX {X : Cx} {pins : List (Addr × Obj)} {σ : L2.St} {H : Hp} {s : Shared} {k : Nat} (hr : Room k X.A) {o i v : V} {iv u : Value} {Q : Hp → Prop} {D : Addr} {E : Value → Shared → Prop} (I : Inv X pins σ H s) (ho : o = .ref D) (ri : RelV i iv) (rv : RelV v u)
    (h : rSetD X.K o i v H Q) : wpAny (model X.prog X.w) X.A (dictSet D iv u) (fun _ s' => ∃ H', Inv X pins σ H' s' ∧ Q H') E s := by
  obtain ⟨A, kvs, xs, a, l, ka, nk, e, rfl, hH, hz, nd, kr, kk, hk, hd, q⟩ := h
  subst ho
  cases e
  obtain rfl : iv = .ref ka := ri
  have hun := hr.units
  refine wpAny_dictSet_heap (knd := nestedKind X.prog X.w) (by show X.A.units + 8 < cLine; omega) ⟨keyN_is I kk hk rfl, hd⟩ (dict_of I hH kr nd) (fun h' hm' hs => ?_) hz
  refine ⟨_, I.write (x := D) (e := D) (by rw [hH]; trivial) (.inl rfl) (fun b u hb e => (hs.2 b hb).trans e) ?_ ?_, q u rv⟩
  · obtain ⟨o, _, _, e, _⟩ := hm'
    exact ⟨o, e⟩
  · refine drec_ok (X := X) hm' fun x hx w w' => ?_
    unfold storedH at hx
    split at hx
    · obtain ⟨y, hy, rfl⟩ := List.mem_map.mp hx
      have := kr.plain y hy w w'
      unfold putAt
      split <;> exact this
    · rcases List.mem_append.mp hx with hx | hx
      · exact kr.plain x hx w w'
      · rw [List.mem_singleton.mp hx]; exact keyN_hash hk w w'
def tDcX (K : PySem.W.Frag) (wi : TI) (g : TG) (tt : TT) (tk tv : TE) (vs : List Nat) : TE := fun σ H Q =>
  wi σ H fun J H1 => ∀ D, H1 D = none → (D == sysModules) = false → ∃ W : Nat → Nat → Hp → Prop, (∃ m, W 0 m (upd H1 D (.ext (DRec D [])))) ∧
    ∀ i m H, W i m H → (J.stop i H ∧ Q (.ref D) H) ∨ (J.go i H ∧ ∃ Nx : Hp → Prop, (∀ H', Nx H' → ∃ m', m' < m ∧ W (i + 1) m' H') ∧
      ∀ x H', J.yld i H x H' → g x (wipe σ vs) H' fun σ2 H2 => wipe σ2 vs = wipe σ vs ∧ tt σ2 H2 fun b H3 => if b = true then tk σ2 H3 fun y H4 => tv σ2 H4 fun z H5 => rSetD K (.ref D) y z H5 Nx else Nx H3)
section
variable {X : Cx} {kx vx tg iter : Expr} {ifs : List Expr} {scope : Scope} {own : List (Str × Nat)} {pos pos' : Pos} {wi : TI} {g : TG} {tt : TT} {tk tv : TE}
theorem dc_coreX {k : Nat} (hr : Room k X.A) {pins : List (Addr × Obj)} {s : Shared} {σ : L2.St} {H : Hp} {Q : VK} {Qf : Value → Shared → Prop} {use : Option (Value → Sem Unit)} (hc : X.calm = true) (hN : X.N.Nodup) (I : Inv X pins σ H s) (hi : PI X tg iter wi) (ok : BlkOk X.N X.env.scope scope own)
    (hg : ∀ (s : Shared) (H : Hp) (C : Addr) (cl : List (Str × Addr)) (fp : List Addr), PG (X.blk s H scope (compEnvC scope cl C X.env) fp) tg g)
    (ht : ∀ (s : Shared) (H : Hp) (C : Addr) (cl : List (Str × Addr)) (fp : List Addr), PTs (X.blk s H scope (compEnvC scope cl C X.env) fp) ifs tt)
    (hk : ∀ (s : Shared) (H : Hp) (C : Addr) (cl : List (Str × Addr)) (fp : List Addr), PE (X.blk s H scope (compEnvC scope cl C X.env) fp) kx tk)
    (hv : ∀ (s : Shared) (H : Hp) (C : Addr) (cl : List (Str × Addr)) (fp : List Addr), PE (X.blk s H scope (compEnvC scope cl C X.env) fp) vx tv)
    (hs : ∀ x, foldedSetIterable iter X.env x = pure x) (h : tDcX X.K wi g tt tk tv (own.map (·.2)) σ H Q)
    (hpost : ∀ (D C : Addr) (s' : Shared) (m : Str → Option Value) (H' : Hp), Inv X pins σ H' s' → Q (.ref D) H' → s'.heap.Ns C m → FpOk X pins H' C → compPost (model X.prog X.w) X.A X.xe use Qf (.ref D) C (.ok .next) s') :
    wpAny (model X.prog X.w) X.A (comprehension (.DictComp kx vx [⟨tg, iter, ifs, 0⟩] scope pos) scope X.env pos' newDict false (eval iter X.env) use) Qf X.xe s := by
  have hcl : closureFor scope X.env = pure (cloFrom X.env.cells scope.names []) := closure_ok fun y hy hf => I.ok.has y.1 (by
    have := ok.free y hy hf
    unfold Env.kindOf
    exact this)
  refine wpAny_comprehension_free (gs := []) rfl hs hcl ok.kind (fun y hy hl => (ok.uniq y hy).trans (by rw [hl])) ?_
  refine thn (hi.run pins s σ H _ I h) fun v s1 h1 => thn h1 fun itv s2 ⟨it, fp, tn, J, H1, e, I2, T, t0, hfp, R⟩ => ?_
  subst e
  refine wpAny_newObj_type ?_
  refine newEnv_comp ?_
  have hD : H1 s2.heap.objs.size = none := I2.hok.fresh (Nat.le_refl _)
  obtain ⟨W, ⟨m0, w0⟩, step⟩ := R _ hD (beq_eq_false_iff_ne.mpr (Ne.symm (Nat.ne_of_lt I2.big)))
  generalize hDD : s2.heap.objs.size = D at *
  have I3 : Inv X pins σ (upd H1 D (.ext (DRec D []))) { s2 with heap := s2.heap.push { cls := .type "dict", data := .dict #[] } } := by
    refine I2.laid (a := D) (t' := s2.toks) (fun _ _ q => Heap.get?_push_of_some _ q) (Nat.le_of_eq hDD) ?_
    refine drec_ok (X := X) ⟨_, #[], 0, by rw [← hDD]; exact Heap.get?_push_size _ rfl, ⟨rfl, rfl, rfl⟩, rfl, rfl, (fun x hx => by cases hx), List.nodup_nil⟩ (fun x hx => by cases hx)
  have hlt : ∀ b ∈ fp, b < D := fun b hb => by
    obtain ⟨o, ho, _⟩ := T.obj 0 _ t0 b hb
    rw [← hDD]; exact Heap.lt_size ho
  have hfp3 : ∀ b ∈ fp, FpOk X pins (upd H1 D (.ext (DRec D []))) b ∧ b < (s2.heap.push { cls := .type "dict", data := .dict #[] }).objs.size := fun b hb => by
    have hb' := hlt b hb
    refine ⟨?_, by rw [Heap.size_push]; exact Nat.lt_of_lt_of_le hb' (hDD ▸ Nat.le_succ _)⟩
    obtain ⟨f0, f⟩ := hfp b hb
    exact ⟨by rw [upd_ne (Nat.ne_of_lt hb')]; exact f0, f⟩
  have B := block_start I3 ok hN hfp3
  generalize hC : ({ s2 with heap := s2.heap.push { cls := .type "dict", data := .dict #[] } } : Shared).heap.objs.size = C at B
  let cl := cellsFrom (({ s2 with heap := s2.heap.push { cls := .type "dict", data := .dict #[] } } : Shared).heap.objs.size + 1) scope.names (cloFrom X.env.cells scope.names [])
  let Y : Cx := X.blk { s2 with heap := s2.heap.push { cls := .type "dict", data := .dict #[] } } (upd H1 D (.ext (DRec D []))) scope (compEnvC scope (cellsFrom (C + 1) scope.names (cloFrom X.env.cells scope.names [])) C X.env) fp
  have B : Inv Y [] (wipe σ (own.map (·.2))) (upd H1 D (.ext (DRec D []))) { s2 with heap := pushCells ((s2.heap.push { cls := .type "dict", data := .dict #[] }).push { cls := .type "dict", data := .dict #[] }) scope.names } := B
  have fpY : ∀ b ∈ fp, ∀ H' : Hp, H' b = none → FpOk Y [] H' b := fun b hb H' hn => ⟨hn, (B.ok.exf b hb).1, B.ok.exfs b hb, .inl hb, (B.ok.exf b hb).2, fun p hp => by cases hp⟩
  have tk0 : tn 0 (pushCells ((s2.heap.push { cls := .type "dict", data := .dict #[] }).push { cls := .type "dict", data := .dict #[] }) scope.names) := T.keep 0 _ _ t0 fun b hb o q => pushCells_keeps _ _ _ _ (Heap.get?_push_of_some _ (Heap.get?_push_of_some _ q))
  have main : codeAny (model X.prog X.w) X.A (Code.compLoop (.DictComp kx vx [⟨tg, iter, ifs, 0⟩] scope pos) 0 (.ref it) (.ref D) Y.env) (compPost (model X.prog X.w) X.A X.xe use Qf (.ref D) C) { s2 with heap := pushCells ((s2.heap.push { cls := .type "dict", data := .dict #[] }).push { cls := .type "dict", data := .dict #[] }) scope.names } := by
    refine compLoop_anyD (fun m s' => ∃ i H', Inv Y [] (wipe σ (own.map (·.2))) H' s' ∧ W i m H' ∧ tn i s'.heap ∧ ∀ b ∈ fp, FpOk Y [] H' b) ?_ m0 ⟨0, _, B, w0, tk0, fun b hb => fpY b hb _ (hfp3 b hb).1.1⟩
    intro m s' ⟨i, H', IY, w, tn', fY⟩
    rcases step i m H' w with ⟨hstop, q⟩ | ⟨hgo, Nx, hnx, hy⟩
    · refine thn (T.done Y rfl rfl rfl hc i [] s' _ H' _ IY fY tn' hstop) fun r s4 ⟨e, I4⟩ => ?_
      subst e
      obtain ⟨mm, hns, _⟩ := I4.loc
      have I5 : Inv X pins σ H' s4 := I3.call' I4.os I4.base I4.hok I4.bare fun b hb => by
        obtain ⟨_, f1, f2, f3, f4, f5⟩ := (hfp3 b hb).1
        exact ⟨f3, f1, f4, f5⟩
      exact hpost D C s4 mm H' I5 q hns (I3.fpOk (by rw [← hC]; exact Nat.le_refl _) I4.free)
    · refine thn (T.item Y rfl rfl rfl hc i [] s' _ H' _ IY fY tn' hgo) fun r s4 ⟨u, e, h4⟩ => ?_
      subst e
      refine thn h4 fun _ s5 ⟨x, H5, I5, ru, hyld, tn5, f5⟩ => ?_
      have P5 := I5.pinned (fun b hb => fpY b hb _ (f5 b hb)) (T.obj (i + 1) _ tn5)
      have fin : ∀ σ6 H10 s10, wipe σ6 (own.map (·.2)) = wipe σ (own.map (·.2)) → Inv Y ([] ++ pinsAt fp s5.heap) σ6 H10 s10 → Nx H10 → ∃ m', m' < m ∧ ∃ i H', Inv Y [] (wipe σ (own.map (·.2))) H' s10 ∧ W i m' H' ∧ tn i s10.heap ∧ ∀ b ∈ fp, FpOk Y [] H' b := fun σ6 H10 s10 hw I10 a6 => by
        obtain ⟨m', hm, w'⟩ := hnx _ a6
        have pp : ∀ b ∈ fp, ∀ o, s5.heap.get? b = some o → s10.heap.get? b = some o ∧ H10 b = none := fun b hb o q => by
          have := I10.pin (b, o) (List.mem_append_right _ (List.mem_append_right _ (mem_pinsAt hb q)))
          exact ⟨this.1, this.2.1⟩
        refine ⟨m', hm, i + 1, H10, I10.unpinned.weak (by rw [← hw, wipe_length]) (fun j v e => by rw [← hw] at e; exact (wipe_some e).1), w', T.keep (i + 1) _ _ tn5 (fun b hb o q => (pp b hb o q).1), fun b hb => ?_⟩
        obtain ⟨o, ho, _⟩ := T.obj (i + 1) _ tn5 b hb
        exact fpY b hb _ (pp b hb o ho).2
      refine thnF ((hg _ _ _ _ _).run _ s5 _ H5 x u _ P5 ru (hy x H5 hyld)) fun _ s6 ⟨σ6, H6, I6, hw, a2⟩ => ?_
      refine thnF ((ht _ _ _ _ _).run _ s6 σ6 H6 _ I6 a2) fun b s7 ⟨H7, I7, a3⟩ => ?_
      dsimp only at a3
      by_cases hb : b = true
      · rw [if_pos hb] at a3 ⊢
        refine thnF ((hk _ _ _ _ _).run _ s7 σ6 H7 _ I7 a3) fun ku s8 ⟨y, H8, I8, ry, a4⟩ => ?_
        refine thnF ((hv _ _ _ _ _).run _ s8 σ6 H8 _ I8 a4) fun vu s9 ⟨z, H9, I9, rz, a5⟩ => ?_
        exact thn (d_setX (X := Y) hr I9 rfl ry rz a5) fun _ s10 ⟨H10, I10, a6⟩ => fin σ6 H10 s10 hw I10 a6
      · rw [if_neg hb] at a3 ⊢
        exact fin σ6 H7 s7 hw I7 a3
  exact codeAny_compStart_dict main (T.self _ 0 _ _ _ tk0 main)
theorem pe_dcX {k : Nat} (hr : Room k X.A) (hc : X.calm = true) (hN : X.N.Nodup) (hi : PI X tg iter wi) (ok : BlkOk X.N X.env.scope scope own)
    (hg : ∀ (s : Shared) (H : Hp) (C : Addr) (cl : List (Str × Addr)) (fp : List Addr), PG (X.blk s H scope (compEnvC scope cl C X.env) fp) tg g)
    (ht : ∀ (s : Shared) (H : Hp) (C : Addr) (cl : List (Str × Addr)) (fp : List Addr), PTs (X.blk s H scope (compEnvC scope cl C X.env) fp) ifs tt)
    (hk : ∀ (s : Shared) (H : Hp) (C : Addr) (cl : List (Str × Addr)) (fp : List Addr), PE (X.blk s H scope (compEnvC scope cl C X.env) fp) kx tk)
    (hv : ∀ (s : Shared) (H : Hp) (C : Addr) (cl : List (Str × Addr)) (fp : List Addr), PE (X.blk s H scope (compEnvC scope cl C X.env) fp) vx tv)
    (hs : ∀ x, foldedSetIterable iter X.env x = pure x := by intro _; rfl) : PE X (.DictComp kx vx [⟨tg, iter, ifs, 0⟩] scope pos) (tDcX X.K wi g tt tk tv (own.map (·.2))) := ⟨fun pins s σ H Q I h => by
  unfold eval
  refine dc_coreX hr hc hN I hi ok hg ht hk hv hs h fun D C s' m H' I' q hns hf => ?_
  refine ⟨m, hns, fun h' hb => ?_⟩
  obtain ⟨f0, f1, f2, f3, f4, f5⟩ := hf
  exact ⟨.ref D, H', I'.turned (t' := s'.toks) (fun b o ne e => (hb.2 b ne).trans e) f0 f1 f3 f4 f5, rfl, q⟩⟩
end
end SX
end
section
set_option Elab.async false
set_option linter.all false
set_option maxRecDepth 100000
set_option maxHeartbeats 1000000
open Classical
/-! SXA6: the readings of dict comprehensions. -/
namespace SX
open PySem PySem.Spec PyProof.Rows L2 PySem.W PySem.Calls
noncomputable def compDL (chk : List MO → Prop) (c : CT) (t : EvT) (f g : EvE) (env : Env) (N : Nat) : List D → List MO → Out Unit
  | [], M => if chk M then .ok () M else .no
  | d :: r, M => if chk M then (match c.put d env with
    | none => .no
    | some e1 => (t e1 M).bindN fun b M1 => if b = true then (f e1 M1).bindN fun y M2 => (g e1 M2).bindN fun z M3 => (opSetD (.ref N) y z M3).bindN fun _ M4 => compDL chk c t f g env N r M4
      else compDL chk c t f g env N r M1) else .no
def dictEnd (M1 M2 : List MO) : Out D := match M2[M1.length]? with
  | some (.dK _) => .ok (.ref M1.length) M2
  | _ => .no
noncomputable def eDComp (it : EvI) (c : CT) (vs : List Nat) (t : EvT) (f g : EvE) : EvE := fun env M => (it env M).bind fun I M1 =>
  (compDL I.chk c t f g (wipeE env vs) M1.length I.ds (M1 ++ [.dK []])).bindN fun _ M2 => dictEnd M1 M2
theorem at_ND {K : PySem.W.Frag} {T : List Addr} {A1 A2 : Ads} {M1 M2 : List MO} {H1 H2 : Hp} {D0 : Addr} {kvs : List (D × D)} (hl : A1.length = M1.length) (s : Stp K T (A1 ++ [some D0]) H1 A2 M2 H2) (h : M2[M1.length]? = some (.dK kvs)) :
    A2[M1.length]? = some (some D0) ∧ RepO K A2 H2 D0 (.dK kvs) := by
  have h0 : (A1 ++ [some D0])[M1.length]? = some (some D0) := by rw [← hl, List.getElem?_append_right (Nat.le_refl _), Nat.sub_self]; rfl
  have h1 : A2[M1.length]? = some (some D0) := by
    rcases s.mv.ix _ _ h0 with z | z
    · exact z
    · have := s.rel.dd _ z
      rw [h] at this
      cases this
  obtain ⟨o, e, r⟩ := s.rel.ob _ _ h1
  rw [h] at e
  cases e
  exact ⟨h1, r⟩
section
variable {X : Cx} {p : Pm} {tg e kx vx : Expr} {it : EvI} {c : CT} {vs : List Nat} {t : EvT} {f g : EvE}
theorem dcomp_read {wi : TI} {tk tv : TE} {tt : TT} {σ : L2.St} {H : Hp} {Q : VK} (hcv : ∀ i ∈ c.vs, i ∈ vs) (hi : ∀ R, tI X.K p it σ H R → wi σ H R) (htk : ∀ σ H Q, tE X.K p.calm f σ H Q → tk σ H Q) (htv : ∀ σ H Q, tE X.K p.calm g σ H Q → tv σ H Q) (htt : ∀ σ H Q, tT X.K p.calm t σ H Q → tt σ H Q)
    (h : tE X.K p (eDComp it c vs t f g) σ H Q) : tDcX X.K wi (c.tg X.K) tt tk tv vs σ H Q := by
  obtain ⟨A, M, env, R, S, q⟩ := h
  refine hi _ ⟨A, M, env, R, S, (OutR.of_bind q).imp (fun I M1 _ q1 J H1 A1 sA io D0 hD hsy => ?_) fun _ _ _ _ _ z => z⟩
  have s1 : Stp X.K p.T A1 H1 (A1 ++ [some D0]) (M1 ++ [.dK []]) (upd H1 D0 (.ext (DRec D0 []))) := .newO sA.rel hD ⟨[], upd_same, hsy, Nat.zero_le _, List.nodup_nil, .nil⟩
  have S1 := S.stp R sA
  let Go : Nat → List MO → Prop := fun i M2 => OutR ((compDL I.chk c t f g (wipeE env vs) M1.length (I.ds.drop i) M2).bindN fun _ M2 => dictEnd M1 M2) (Fin X.K p.T A H Q) (Exc X.K p A H)
  refine ⟨fun i m H2 => ∃ A2 M2, Stp X.K p.T (A1 ++ [some D0]) (upd H1 D0 (.ext (DRec D0 []))) A2 M2 H2 ∧ m + i = I.ds.length ∧ Go i M2, ⟨I.ds.length, _, _, .refl s1.rel, by omega, q1⟩, ?_⟩
  rintro i m H2 ⟨A2, M2, s2, hm, q2⟩
  have sA2 := s1.trans s2
  have q2 : OutR ((compDL I.chk c t f g (wipeE env vs) M1.length (I.ds.drop i) M2).bindN fun _ M2 => dictEnd M1 M2) (Fin X.K p.T A H Q) (Exc X.K p A H) := q2
  cases hd : I.ds.drop i with
  | nil =>
    have hlen : I.ds.length ≤ i := List.drop_eq_nil_iff.mp hd
    have e : i = I.ds.length := by omega
    rw [hd] at q2
    unfold compDL at q2
    by_cases hc : I.chk M2
    · rw [if_pos hc] at q2
      refine .inl ⟨by rw [e]; exact io.stop A2 M2 H2 sA2 hc, ?_⟩
      have q3 : OutR (dictEnd M1 M2) (Fin X.K p.T A H Q) (Exc X.K p A H) := q2
      unfold dictEnd at q3
      cases hN : M2[M1.length]? with
      | none => rw [hN] at q3; exact q3.elim
      | some o =>
        rw [hN] at q3
        cases o with
        | dK kvs =>
          obtain ⟨h1, _⟩ := at_ND sA.rel.len s2 hN
          exact q3 _ H2 A2 (sA.trans sA2) (.ref h1)
        | _ => exact q3.elim
    · rw [if_neg hc] at q2; exact q2.elim
  | cons d r =>
    obtain ⟨hat, hr⟩ := drop_at hd
    rw [hd] at q2
    unfold compDL at q2
    by_cases hc : I.chk M2
    · rw [if_pos hc] at q2
      obtain ⟨hgo, hy⟩ := io.go A2 M2 H2 sA2 hc i d hat
      have hlt : i < I.ds.length := (List.getElem?_eq_some_iff.mp hat).1
      refine .inr ⟨hgo, fun H3 => ∃ A3 M3, Stp X.K p.T (A1 ++ [some D0]) (upd H1 D0 (.ext (DRec D0 []))) A3 M3 H3 ∧ Go (i + 1) M3, fun H3 ⟨A3, M3, s3, q3⟩ => ⟨m - 1, by omega, A3, M3, s3, by omega, q3⟩, fun x H3 hyl => ?_⟩
      obtain ⟨sy, ry⟩ := hy x H3 hyl
      have s23 := s2.trans sy
      have S3 : RepS X.K A2 H3 (wipeE env vs) (L2.wipe σ vs) := (((S1.stp sA.rel s1).stp s1.rel s2).stp s2.rel sy).wipe vs
      cases hp : c.put d (wipeE env vs) with
      | none => rw [hp] at q2; exact q2.elim
      | some e1 =>
        rw [hp] at q2
        dsimp only at q2
        rw [bindN_assoc] at q2
        refine CT.ok hcv ry S3 hp fun σ2 S4 ew => ⟨ew.trans wipe_wipe, htt _ _ _ ⟨A2, M2, e1, sy.rel, S4, ?_⟩⟩
        refine (OutR.of_bindN q2 (Exc X.K p.calm A2 H3)).imp (fun b M4 _ q4 H4 A4 s4 => ?_) fun _ _ _ _ _ z => z
        have s14 := s23.trans s4
        cases b with
        | false =>
          dsimp only
          rw [if_neg Bool.false_ne_true] at q4 ⊢
          exact ⟨A4, M4, s14, by show OutR _ _ _; rw [hr]; exact q4⟩
        | true =>
          dsimp only
          rw [if_pos rfl] at q4 ⊢
          rw [bindN_assoc] at q4
          refine htk _ _ _ ⟨A4, M4, e1, s4.rel, S4.stp sy.rel s4, ?_⟩
          refine (OutR.of_bindN q4 (Exc X.K p.calm A4 H4)).imp (fun kd M5 _ q6 y H5 A5 s5 r5 => ?_) fun _ _ _ _ _ z => z
          have s15 := s14.trans s5
          rw [bindN_assoc] at q6
          refine htv _ _ _ ⟨A5, M5, e1, s5.rel, (S4.stp sy.rel s4).stp s4.rel s5, ?_⟩
          refine (OutR.of_bindN q6 (Exc X.K p.calm A5 H5)).imp (fun vd M6 _ q7 z H6 A6 s6 r6 => ?_) fun _ _ _ _ _ z => z
          have s16 := s15.trans s6
          have rk := r5.stp s5.rel s6
          rw [bindN_assoc] at q7
          unfold opSetD at q7
          cases kd with
          | tup l =>
            dsimp only at q7
            cases hN : M6[M1.length]? with
            | none => rw [hN] at q7; exact q7.elim
            | some o =>
              rw [hN] at q7
              cases o with
              | dK kvs =>
                dsimp only at q7
                by_cases cc : keyOk (.tup l) = true ∧ kvs.length < sizeLine
                · rw [if_pos cc] at q7
                  obtain ⟨nk, hk, hd⟩ := keyOk_of cc.1
                  obtain ⟨h1, xs, h2, _, hz, nd, kr⟩ := at_ND sA.rel.len s16 hN
                  obtain ⟨ka, ws, e2, _, _⟩ := rep_tpl rk
                  subst e2
                  refine ⟨A6, kvs, xs, D0, l, ka, nk, rfl, rfl, h2, hz, nd, kr, rk, hk, hd, fun u hu => ?_⟩
                  have s7 : Stp X.K p.T A6 H6 A6 (M6.set M1.length (.dK (storeD kvs (.tup l) vd))) (upd H6 D0 (.ext (DRec D0 (storedH xs nk ka u)))) := Stp.setO s16.rel h1 fun mv => ⟨_, upd_same, hsy, Nat.le_trans stored_len (by rw [← kr.len]; exact cc.2), stored_nodup nd, KRep.store hk hd (rk.mv s16.rel mv) hu (r6.mv s16.rel mv) (kr.mv s16.rel mv)⟩
                  exact ⟨A6, _, s16.trans s7, by show OutR _ _ _; rw [hr]; exact q7⟩
                · rw [if_neg cc] at q7; exact q7.elim
              | _ => exact q7.elim
          | _ => exact q7.elim
    · rw [if_neg hc] at q2; exact q2.elim
/-- {k: v for tg in e if ..} -/
theorem se_dc {k : Nat} (hr : Room k X.A) {scope : Scope} {own : List (Str × Nat)} {ifs : List Expr} {pos : Pos} (hc : X.calm = true) (hN : X.N.Nodup) (hi : SI X p tg e it) (ok : BlkOk X.N X.env.scope scope own) (hcv : ∀ i ∈ c.vs, i ∈ own.map (·.2))
    (hg : ∀ (s : Shared) (H : Hp) (C : Addr) (cl : List (Str × Addr)) (fp : List Addr), PG (X.blk s H scope (compEnvC scope cl C X.env) fp) tg (c.tg X.K))
    (ht : ∀ (s : Shared) (H : Hp) (C : Addr) (cl : List (Str × Addr)) (fp : List Addr), STs (X.blk s H scope (compEnvC scope cl C X.env) fp) p.calm ifs t)
    (hk : ∀ (s : Shared) (H : Hp) (C : Addr) (cl : List (Str × Addr)) (fp : List Addr), SE (X.blk s H scope (compEnvC scope cl C X.env) fp) p.calm kx f)
    (hv : ∀ (s : Shared) (H : Hp) (C : Addr) (cl : List (Str × Addr)) (fp : List Addr), SE (X.blk s H scope (compEnvC scope cl C X.env) fp) p.calm vx g) (hs : ∀ x, foldedSetIterable e X.env x = pure x := by intro _; rfl) :
    SE X p (.DictComp kx vx [⟨tg, e, ifs, 0⟩] scope pos) (eDComp it c (own.map (·.2)) t f g) :=
  pe_imp (pe_dcX (tt := tT X.K p.calm t) (tk := tE X.K p.calm f) (tv := tE X.K p.calm g) hr hc hN hi ok hg ht hk hv hs) fun σ H Q h => dcomp_read hcv (fun _ z => z) (fun _ _ _ z => z) (fun _ _ _ z => z) (fun _ _ _ z => z) h
end
end SX
end
section
set_option Elab.async false
set_option linter.all false
set_option maxRecDepth 100000
set_option maxHeartbeats 1000000
open Classical
/-! SXA7: list(d), {k: v}. -/
namespace SX
open PySem PySem.Spec PyProof.Rows L2 PySem.W PySem.Calls
section
variable {X : Cx} {p : Pm} {e : Expr} {es : List Expr} {fs : EvEs} {pn pos : Pos}
def keysV (xs : List (NestedKey × Addr × Value)) : List V := xs.map fun x => V.ref x.2.1
theorem keysV_vals : ∀ xs : List (NestedKey × Addr × Value), Vals (keysV xs) (xs.map fun x => Value.ref x.2.1)
  | [] => .nil
  | x :: r => .cons rfl (keysV_vals r)
def rListK (K : PySem.W.Frag) : List V → Hp → VK → Prop := fun vs H Q => ∃ A kvs xs a, vs = [V.ref a] ∧ H a = some (.ext (DRec a xs)) ∧ (a == sysModules) = false ∧ xs.length ≤ sizeLine ∧ (xs.map (·.1)).Nodup ∧ KRep K A H kvs xs ∧ ∀ q, H q = none → Q (.ref q) (upd H q (.lst (keysV xs)))
theorem call_listK (hc : X.calm = true) : CallR X (.type "list") (rListK X.K) := by
  intro pins s σ H vs us Q I r h
  obtain ⟨A, kvs, xs, a, rfl, hH, hsy, hz, nd, kr, q⟩ := h
  obtain ⟨u, rfl, rx⟩ := vals1 r
  obtain rfl : u = .ref a := rx
  obtain ⟨o, es, ep, h1, h2, h3, h4, _, _⟩ := dict_of I hH kr nd
  have hes : es.size = xs.length := by rw [← Array.length_toList, h4, List.length_map]
  refine W.kdl_call (KdlSrc.rawDict hsy) (I.ok.hd hc) ⟨o, h1, h2, h3⟩ (by omega) fun h' tk acc' c' keep hget items => ?_
  obtain ⟨hsz, hit⟩ := items
  have hv : Vals (keysV xs) acc'.toList := by
    have hlen : acc'.toList.length = xs.length := by rw [Array.length_toList, hsz, hes]
    have : acc'.toList = xs.map fun x => Value.ref x.2.1 := by
      refine List.ext_getElem? fun j => ?_
      by_cases hj : j < xs.length
      · have hj' : j < acc'.size := by omega
        obtain ⟨hi, e⟩ := hit j acc'[j] (Array.getElem?_eq_getElem hj')
        rw [Array.getElem?_toList, Array.getElem?_eq_getElem hj', e, List.getElem?_map, List.getElem?_eq_getElem hj]
        have e2 : es[j] = entryOfKey (nestedKind X.prog X.w) xs[j] := by
          have : es.toList[j]? = (xs.map (entryOfKey (nestedKind X.prog X.w)))[j]? := by rw [h4]
          rw [Array.getElem?_toList, Array.getElem?_eq_getElem hi, List.getElem?_map, List.getElem?_eq_getElem hj] at this
          exact Option.some.inj this
        rw [e2]
        rfl
      · rw [List.getElem?_eq_none (by omega), List.getElem?_eq_none (by rw [List.length_map]; omega)]
    rw [this]
    exact keysV_vals xs
  refine ⟨.ref s.heap.objs.size, _, I.laid (a := s.heap.objs.size) (o := .lst (keysV xs)) (t' := tk) keep (Nat.le_refl _) ?_, rfl, q _ (I.hok.fresh (Nat.le_refl _))⟩
  refine ⟨by unfold keysV; rw [List.length_map]; exact hz, acc'.toList, c', hv, hget⟩
theorem KRep.keys {K : PySem.W.Frag} {A : Ads} {H : Hp} : ∀ {kvs : List (D × D)} {xs : List (NestedKey × Addr × Value)}, KRep K A H kvs xs → Reps K A H (kvs.map (·.1)) (keysV xs)
  | _, _, .nil => .nil
  | _, _, .cons h1 h2 h3 h4 h5 t => .cons h3 (KRep.keys t)
noncomputable def opLstK (mk : Mk) : List D → List MO → Out D
  | [.ref n], M => match M[n]? with
    | some (.dK kvs) => mk (kvs.map (·.1)) M
    | _ => .no
  | _, _ => .no
theorem se_lstK (mk : Mk) (hk : MkOk mk) (hc : X.calm = true) (hg : Gl X "list") (hm : X.mg "list" = none) (h : SA X p (e :: es) fs) (he : starEach (e :: es) X.env = (false, eval e X.env) :: starEach es X.env := by rfl) (hpl : (backTo pos (starEach es X.env)).any (·.1) = false := by rfl) :
    SE X p (.Call (.Name "list" pn) (e :: es) [] pos) (eB (opLstK mk) fs) :=
  se_b (fun t ht => pe_callTy (call_listK hc) hg hm PyProof.Rows.boot_list ht (he := he) (hpl := hpl)) (fun T A M H xs vs Q R r h => by
    unfold opLstK at h
    split at h
    · rename_i n
      obtain ⟨v, e, r'⟩ := reps1 r
      subst e
      split at h
      · rename_i kvs hm
        obtain ⟨a', e1, ha', xs, h2, hsy, hz, nd, kr⟩ := R.ref r' hm (fun z => by cases z)
        subst e1
        exact ⟨A, kvs, xs, a', rfl, h2, hsy, hz, nd, kr, fun q hq => hk.run _ _ _ _ _ _ _ _ _ R hq kr.keys h⟩
      · exact h.elim
    · exact h.elim) (fun xs M c d e M' q => by
      unfold opLstK at q
      split at q
      · split at q
        · exact hk.calm _ _ _ _ _ _ q
        · cases q
      · cases q) h
end
end SX
end
section
set_option Elab.async false
set_option linter.all false
set_option maxRecDepth 100000
set_option maxHeartbeats 1000000
open Classical
/-! SXA8: {k: v}. -/
namespace SX
open PySem PySem.Spec PyProof.Rows L2 PySem.W PySem.Calls
section
variable {X : Cx} {p : Pm} {kx vx : Expr} {f g : EvE} {pos : Pos}
def tD1 (K : PySem.W.Frag) (tk tv : TE) : TE := fun σ H Q => ∀ D, H D = none → (D == sysModules) = false → tk σ (upd H D (.ext (DRec D []))) fun y H1 => tv σ H1 fun z H2 =>
  ∃ A l ka nk, y = .ref ka ∧ H2 D = some (.ext (DRec D [])) ∧ Rep K A H2 (.tup l) (.ref ka) ∧ keyN (.tup l) = some nk ∧ nk.depth ≤ 8 ∧ ∀ u, RelV z u → Q (.ref D) (upd H2 D (.ext (DRec D [(nk, ka, u)])))
theorem pe_d1 {k : Nat} {tk tv : TE} (hr : Room k X.A) (hk : PE X kx tk) (hv : PE X vx tv) : PE X (.Dict [some kx] [vx] pos) (tD1 X.K tk tv) := ⟨fun pins s σ H Q I h => by
  have hun := hr.units
  rw [arm_eval_Dict]
  refine wpAny_bind (wpAny_standAt ?_)
  show wpAny _ _ (dictDisplay (List.map (fun p => (some p.1, p.2)) [(eval kx X.env, (do let x ← eval vx X.env; standAt pos; pure x))])) _ _ s
  rw [dictDisplay_pairs _ (by simp) (by show 1 < 17; omega)]
  have I1 : Inv X pins σ (upd H s.heap.objs.size (.ext (DRec s.heap.objs.size []))) { s with heap := s.heap.push { cls := .type "dict", data := .dict #[] } } := by
    refine I.laid (a := s.heap.objs.size) (t' := s.toks) (fun _ _ q => Heap.get?_push_of_some _ q) (Nat.le_refl _) ?_
    exact drec_ok (X := X) ⟨_, #[], 0, Heap.get?_push_size _ rfl, ⟨rfl, rfl, rfl⟩, rfl, rfl, (fun x hx => by cases hx), List.nodup_nil⟩ (fun x hx => by cases hx)
  have h1 := h _ (I.hok.fresh (Nat.le_refl _)) (beq_eq_false_iff_ne.mpr (Ne.symm (Nat.ne_of_lt I.big)))
  refine wpAny_bind (wpAny_subDictH (knd := nestedKind X.prog X.w) (by show X.A.units + 8 < cLine; omega) (by show 1 ≤ 15; omega) ?_)
  rw [evalPairs.eq_2]
  refine wpAny_bind (thn (hk.run pins _ σ _ _ I1 h1) fun ku s2 ⟨y, H2, I2, ry, h2⟩ => ?_)
  refine wpAny_bind (wpAny_holding (wpAny_bind (thn (hv.run pins s2 σ H2 _ I2 h2) fun vu s3 ⟨z, H3, I3, rz, h3⟩ => wpAny_bind (wpAny_standAt (wpAny_pure ?_)))))
  refine wpAny_bind (wpAny_holding (wpAny_pure (wpAny_pure ?_)))
  obtain ⟨A, l, ka, nk, rfl, hH, kk, hk', hd, q⟩ := h3
  obtain rfl : ku = .ref ka := ry
  refine ⟨[(nk, ka, vu)], ?_, dict_of I3 hH (.nil (K := X.K) (A := A)) List.nodup_nil, fun h' tk hm hs => wpAny_pure ?_⟩
  · exact ⟨rfl, rfl, ⟨keyN_is I3 kk hk' rfl, hd⟩, trivial⟩
  · refine ⟨.ref s.heap.objs.size, _, I3.write (x := s.heap.objs.size) (e := s.heap.objs.size) (t' := tk) (by rw [hH]; trivial) (.inl rfl) (fun b u hb e => (hs.2 b hb).trans e) ?_ (drec_ok (X := X) hm fun x hx w w' => ?_), rfl, q vu rz⟩
    · obtain ⟨o, _, _, e, _⟩ := hm
      exact ⟨o, e⟩
    · have hx : x ∈ [(nk, ka, vu)] := hx
      rw [List.mem_singleton.mp hx]; exact keyN_hash hk' w w'⟩
noncomputable def eD1 (f g : EvE) : EvE := fun env M => (f env (M ++ [.dK []])).bindN fun y M1 => (g env M1).bindN fun z M2 => match y, M2[M.length]? with
  | .tup l, some (.dK []) => if keyOk (.tup l) = true then .ok (.ref M.length) (M2.set M.length (.dK [(.tup l, z)])) else .no
  | _, _ => .no
theorem se_d1 {k : Nat} (hr : Room k X.A) (hk : SE X p kx f) (hv : SE X p vx g) : SE X p (.Dict [some kx] [vx] pos) (eD1 f g) :=
  pe_imp (pe_d1 hr hk hv) fun σ H Q ⟨A, M, env, R, S, q⟩ D0 hD hsy => by
    have s1 : Stp X.K p.T A H (A ++ [some D0]) (M ++ [.dK []]) (upd H D0 (.ext (DRec D0 []))) := .newO R hD ⟨[], upd_same, hsy, Nat.zero_le _, List.nodup_nil, .nil⟩
    have S1 := S.stp R s1
    refine ⟨_, _, env, s1.rel, S1, (OutR.of_bindN q (Exc X.K p (A ++ [some D0]) (upd H D0 (.ext (DRec D0 []))))).imp (fun kd M1 _ q1 y H1 A1 s2 r1 => ?_) fun _ _ _ _ _ z => z⟩
    refine ⟨_, _, env, s2.rel, S1.stp s1.rel s2, (OutR.of_bindN q1 (Exc X.K p A1 H1)).imp (fun vd M2 _ q2 z H2 A2 s3 r2 => ?_) fun _ _ _ _ _ z => z⟩
    have rk := r1.stp s2.rel s3
    have s23 := s2.trans s3
    cases kd with
    | tup l =>
      cases hN : M2[M.length]? with
      | none => rw [hN] at q2; exact q2.elim
      | some o =>
        rw [hN] at q2
        cases o with
        | dK kvs =>
          cases kvs with
          | nil =>
            dsimp only at q2
            by_cases cc : keyOk (.tup l) = true
            · rw [if_pos cc] at q2
              obtain ⟨nk, hk, hd⟩ := keyOk_of cc
              obtain ⟨h1, xs, h2, _, hz, nd, kr⟩ := at_ND R.len s23 hN
              cases kr
              obtain ⟨ka, ws, e2, _, _⟩ := rep_tpl rk
              subst e2
              refine ⟨A2, l, ka, nk, rfl, h2, rk, hk, hd, fun u hu => ?_⟩
              have s7 : Stp X.K p.T A2 H2 A2 (M2.set M.length (.dK [(.tup l, vd)])) (upd H2 D0 (.ext (DRec D0 [(nk, ka, u)]))) := Stp.setO s23.rel h1 fun mv => ⟨_, upd_same, hsy, by show 1 ≤ sizeLine; decide, by simp, .cons hk hd (rk.mv s23.rel mv) hu (r2.mv s23.rel mv) .nil⟩
              refine q2 _ _ A2 ((s1.trans s23).trans s7) (.ref h1)
            · rw [if_neg cc] at q2; exact q2.elim
          | cons => exact q2.elim
        | _ => exact q2.elim
    | _ => exact q2.elim
end
end SX
end
section
set_option Elab.async false
set_option linter.all false
set_option maxRecDepth 100000
set_option maxHeartbeats 1000000
open Classical
/-! SXA9: is None, asked of a list with a place. -/
namespace SX
open PySem PySem.Spec PyProof.Rows L2 PySem.W PySem.Calls
def opIsNR (neg : Bool) : D → D → List MO → Out D
  | .ref n, .non, M => match M[n]? with
    | some (.lst _) => .ok (.bl neg) M
    | _ => .no
  | d, e, M => opIsN neg d e M
theorem opIsNR_calm {neg} : Calm2 (opIsNR neg) := by
  intro x y M c d e M' q
  unfold opIsNR at q
  split at q
  · split at q <;> cases q
  · exact opIsN_calm _ _ _ _ _ _ _ q
theorem opIsNR_pre {K : PySem.W.Frag} {neg : Bool} {T : List Addr} {A : Ads} {M : List MO} {H : Hp} {x y : D} {v w : V} {Q : VK} (R : Rel K T A M H) (rx : Rep K A H x v) (ry : Rep K A H y w)
    (h : OutR (opIsNR neg x y M) (Fin K T A H Q) (fun _ _ _ _ => False)) : w = .non ∧ Q (.bl (if neg then !decide (v = .non) else decide (v = .non))) H := by
  unfold opIsNR at h
  split at h
  · rename_i n
    split at h
    · rename_i l hm
      obtain ⟨a, e, _⟩ := R.ref rx hm (fun z => by cases z)
      subst e
      cases ry
      refine ⟨rfl, ?_⟩
      have : (if neg then !decide (V.ref a = V.non) else decide (V.ref a = V.non)) = neg := by
        rw [decide_eq_false (fun z => by cases z)]
        cases neg <;> rfl
      rw [this]
      exact h _ H A (.refl R) (.bl _)
    · exact h.elim
  · exact opIsN_pre R rx ry h
end SX
end
section
set_option Elab.async false
set_option linter.all false
set_option maxRecDepth 100000
open Classical
/-! SXB1: a table of the top asked for texts that it has not, too; its whole numbers. -/
namespace SX
open PySem PySem.Spec PyProof.Rows L2 PySem.W PySem.Calls
/-- a written dict that has the texts ks and not those of ns -/
def GKeysN (K : PySem.W.Frag) (w : World) (d : Addr) (ks ns : List Str) : Prop := ∃ es n, KDict K w d es n ∧ (∀ z ∈ ks, ∃ u, PySem.W.nsIn K d z = some (some u)) ∧ ∀ z ∈ ns, PySem.W.nsIn K d z = some none
noncomputable def inG2 (ks ns : List Str) (d : D) (M : List MO) : Out Bool := match d with
  | .str z => if z ∈ ks then .ok true M else if z ∈ ns then .ok false M else .no
  | _ => .no
noncomputable def eInG2 (ks ns : List Str) (f : EvE) : EvE := fun env M => (f env M).bind fun d M1 => (inG2 ks ns d M1).bind fun b M2 => .ok (.bl b) M2
noncomputable def tInG2 (ks ns : List Str) (f : EvE) : EvT := fun env M => (f env M).bind fun d M1 => inG2 ks ns d M1
theorem inG2_inv {ks ns : List Str} {d : D} {M : List MO} {p : Bool → List MO → Prop} {x : Nat → D → Env → List MO → Prop} (h : OutR (inG2 ks ns d M) p x) : ∃ z b, d = .str z ∧ p b M ∧ ((z ∈ ks ∧ b = true) ∨ (z ∈ ns ∧ b = false)) := by
  cases d with
  | str z =>
    unfold inG2 at h
    dsimp only at h
    by_cases h1 : z ∈ ks
    · rw [if_pos h1] at h; exact ⟨z, true, rfl, h, .inl ⟨h1, rfl⟩⟩
    · rw [if_neg h1] at h
      by_cases h2 : z ∈ ns
      · rw [if_pos h2] at h; exact ⟨z, false, rfl, h, .inr ⟨h2, rfl⟩⟩
      · rw [if_neg h2] at h; exact h.elim
  | _ => exact h.elim
section
variable {X : Cx} {p : Pm} {e a : Expr} {es : List Expr} {f : EvE} {fs : EvEs} {pos pn : Pos}
theorem se_inG2 {x : Str} {d : Addr} {ks ns : List Str} (hg : Gl X x) (hm : X.mg x = some (.ref d)) (G : GKeysN X.K X.w d ks ns) (ha : SE X p a f) (hd : (x == ("__debug__" : Str)) = false := by decide) :
    SE X p (.Compare a [.In] [.Name x pn] pos) (eInG2 ks ns f) := by
  obtain ⟨es, n, kd, hk, hn⟩ := G
  refine pe_imp (pe_cmpR (op_in_kd kd) ha (pe_glob (v := .ref d) hg hm rfl hd) rfl) fun σ H Q ⟨A, M, env, R, S, q⟩ => seqE R S (fun _ _ _ _ z => z) q fun x M1 v H1 A1 s1 r1 q1 => ?_
  obtain ⟨z, b, rfl, q2, hz⟩ := inG2_inv q1.of_bind
  rcases hz with ⟨hz, rfl⟩ | ⟨hz, rfl⟩
  · obtain ⟨u, hu⟩ := hk z hz
    exact ⟨z, some u, rep_str r1, rfl, hu, q2 _ H1 A1 s1 (.bl true)⟩
  · exact ⟨z, none, rep_str r1, rfl, hn z hz, q2 _ H1 A1 s1 (.bl false)⟩
theorem st_inG2 {x : Str} {d : Addr} {ks ns : List Str} (hg : Gl X x) (hm : X.mg x = some (.ref d)) (G : GKeysN X.K X.w d ks ns) (ha : SE X p a f) (hd : (x == ("__debug__" : Str)) = false := by decide) :
    ST X p (.Compare a [.In] [.Name x pn] pos) (tInG2 ks ns f) := by
  obtain ⟨es, n, kd, hk, hn⟩ := G
  refine pt_imp (pt_cmpR (op_in_kd kd) ha (pe_glob (v := .ref d) hg hm rfl hd) rfl) fun σ H Q ⟨A, M, env, R, S, q⟩ => seqE R S (fun _ _ _ _ z => z) q fun x M1 v H1 A1 s1 r1 q1 => ?_
  obtain ⟨z, b, rfl, q2, hz⟩ := inG2_inv q1
  rcases hz with ⟨hz, rfl⟩ | ⟨hz, rfl⟩
  · obtain ⟨u, hu⟩ := hk z hz
    exact ⟨z, some u, rep_str r1, rfl, hu, true, rfl, q2 H1 A1 s1⟩
  · exact ⟨z, none, rep_str r1, rfl, hn z hz, false, rfl, q2 H1 A1 s1⟩
end
theorem inG2_t {ks ns : List Str} {z : Str} {M : List MO} (h : z ∈ ks) : inG2 ks ns (.str z) M = .ok true M := by unfold inG2; dsimp only; rw [if_pos h]
theorem inG2_f {ks ns : List Str} {z : Str} {M : List MO} (h1 : z ∉ ks) (h2 : z ∈ ns) : inG2 ks ns (.str z) M = .ok false M := by unfold inG2; dsimp only; rw [if_neg h1, if_pos h2]
end SX
end
section
set_option Elab.async false
set_option linter.all false
set_option maxRecDepth 100000
open Classical
/-! SXB2: list.extend with a tuple. -/
namespace SX
open PySem PySem.Spec PyProof.Rows L2 PySem.W PySem.Calls
theorem list_extend_tupleG (l : Addr) (items : Array Value) (n : Nat) (b : Addr) (dc : Option Addr) (sl : Array (Option Value)) (items2 : Array Value) (n2 : Nat) (hs0 : ¬(!items.isEmpty && Builtin.List.listTooLong (items.size + items2.size)) = true) (hs1 : items.size ≤ sizeLine) (hs2 : items.size + items2.size ≤ sizeLine + 1) :
    Meets (Builtin.«list.extend» ⟨[.ref l, .ref b], []⟩) (fun _ R s => s.heap.get? l = some { cls := .type "list", dict := none, data := .seq items n, slots := #[] } ∧ s.heap.get? b = some { cls := .type "tuple", dict := dc, data := .seq items2 n2, slots := sl } ∧ R (.ok (.ret Value.none)) { s with heap := s.heap.update l (Obj.mapSeq fun x => x ++ items2), toks := s.toks }) :=
  .of_wp fun prog w A R s h => by
    obtain ⟨hp, g, d, tk, os⟩ := s; obtain ⟨hl, hb, h⟩ := h; have f1 := PySem.AutoSeq1.idx_int; have f2 := PySem.AutoSeq1.sub_tuple_tuple; have f3 := PySem.AutoSeq1.sub_list_list; have f4 := PySem.AutoSeq1.sub_tuple_list; have f5 := PySem.AutoSeq1.sub_list_tuple;
    have hz' : (items ++ items2).size ≤ sizeLine + 1 := by rw [Array.size_append]; exact hs2
    wp_walk using (wpAny_updateSeq hl rfl (hz := hs1) (_hz' := hz')), PySem.AutoSeq1.wpAny_loadPart' hl, PySem.AutoSeq1.wpAny_loadPart' hb; exact ⟨_, rfl, h⟩
def rExtendT (K : PySem.W.Frag) : V → List V → Hp → VK → Prop := fun x vs H Q => ∃ l b xs zs, x = .ref l ∧ vs = [.ref b] ∧ H l = some (.lst xs) ∧ SqT K H b zs ∧ xs.length + zs.length ≤ sizeLine ∧ Q .non (upd H l (.lst (xs ++ zs)))
theorem mt_extendT {X : Cx} : MtM X "list.extend" (rExtendT X.K) := by
  intro pins s σ H x vs v us Q I rx rv h
  obtain ⟨l, b, xs, zs, rfl, rfl, hH, hB, hz, q⟩ := h
  cases rx
  obtain ⟨u, rfl, ru⟩ := rv.one
  cases ru
  obtain ⟨z, its, n, r, hl, e⟩ := I.lstM hH
  obtain ⟨its2, r2, ⟨o, e2, hc, n2, hd⟩, hl2⟩ := I.tuple hB
  obtain ⟨oc, od, oa, os⟩ := o
  cases hc
  cases hd
  have hsz : its.toArray.size + its2.toArray.size ≤ sizeLine := by rw [List.size_toArray, List.size_toArray]; have := r2.length; omega
  have hlong : ¬ (!its.toArray.isEmpty && Builtin.List.listTooLong (its.toArray.size + its2.toArray.size)) = true := by
    rw [notLongL hsz, Bool.and_false]
    exact Bool.false_ne_true
  refine call_meets F.slot_list_extend ⟨_, e, rfl⟩ F.entry_list_extend (F.args_list_extend_2 _ _)
    (list_extend_tupleG l its.toArray n b od os its2.toArray n2 hlong (by rw [List.size_toArray]; omega) (by omega)) ⟨e, e2, ?_⟩
  refine ⟨.non, _, I.lset (its' := its ++ its2) hH e (by simp) (r.append r2) ?_, rfl, q⟩
  rw [List.length_append]
  omega
noncomputable def opExtendT : D → List D → List MO → Out D
  | .ref n, [.tup k], M => match M[n]? with
    | some (.lst l) => if l.length + k.length ≤ sizeLine then .ok .non (M.set n (.lst (l ++ k))) else .no
    | _ => .no
  | _, _, _ => .no
section
variable {X : Cx} {p : Pm} {a b e o : Expr} {es : List Expr} {f g : EvE} {fs gs : EvEs} {pn pos p2 p3 apos cpos : Pos} {name : Str}
theorem se_extendT (ho : SE X p o f) (ha : SA X p (e :: es) fs) (hbase : attributeBase o "extend" X.env (eval o X.env) = eval o X.env := by rfl)
    (hfew : ((backTo cpos (starEach (e :: es) X.env)).all (fun x => !x.1) && (backToKw cpos (keywordEach [] X.env)).all (fun x => x.1.isSome)
      && decide ((e :: es).length + ([] : List Keyword).length + (if ([] : List Keyword).isEmpty then 0 else 1) < 30)) = true := by rfl)
    (hline : (apos.endLine == cpos.line) = true := by rfl) (hs : starEach (e :: es) X.env = (false, eval e X.env) :: starEach es X.env := by rfl) (hplain : (backTo cpos (starEach es X.env)).any (·.1) = false := by rfl) :
    SE X p (.Call (.Attribute o "extend" apos) (e :: es) [] cpos) (eM opExtendT f fs) :=
  se_bm PySem.F.slot_list_extend PySem.F.type_list_extend mt_extendT (fun T A M H x xs v vs Q R rx rxs h => by
    unfold opExtendT at h
    split at h
    · rename_i n k
      obtain ⟨w, e1, ry⟩ := reps1 rxs
      subst e1
      split at h
      · rename_i l hm
        obtain ⟨hz, h⟩ := ifO h
        obtain ⟨a', e2, ha', ws, h2, t⟩ := R.ref rx hm (fun z => by cases z)
        obtain ⟨b', zs, e3, h3, t3⟩ := rep_tup ry
        refine ⟨a', b', ws, zs, e2, by rw [e3], h2, h3, by rw [← t.length, ← t3.length]; exact hz, ?_⟩
        exact h _ _ A (Stp.setO R ha' fun m => ⟨_, upd_same, (t.mv R m).append (t3.mv R m)⟩) .non
      · exact h.elim
    · exact h.elim) (fun x xs M c d e M' q => by
      unfold opExtendT at q
      split at q
      · split at q
        · exact calm_of calm_ok _ _ _ _ q
        · cases q
      · cases q) ho ha hbase hfew hline hs hplain
end
end SX
end
section
set_option Elab.async false
set_option linter.all false
set_option maxRecDepth 100000
open Classical
/-! SXB3: x[::k], x a tuple, k 1 or -1. -/
namespace SX
open PySem PySem.Spec PyProof.Rows L2 HT
section
variable {prog : Program} {w : World} {A : Around} {E : Value → Shared → Prop} {s : Shared}
theorem sliceApplied_one {sl : Addr} {vs : Value} {n : Nat} {Q : Int × Int × Nat → Shared → Prop} (hs : s.heap.IsSliceOf sl .none .none vs) (ps : IsPart vs (some 1))
    (h : Q (0, 1, n) s) : wpAny (model prog w) A (Builtin.Slice.sliceApplied (.ref sl) (pure (n : Int))) Q E s := by
  obtain ⟨os, hos, hcs, hds⟩ := id hs
  unfold Builtin.Slice.sliceApplied Builtin.Slice.sliceFields
  refine wpAny_bind (wpAny_bind (wpAny_field hos hds (x := .none) rfl (wpAny_bind (wpAny_field hos hds (x := .none) rfl (wpAny_bind (wpAny_field hos hds (x := vs) rfl (wpAny_pure ?_)))))))
  refine wpAny_bind (slicePart_ ps ?_)
  show wpAny _ _ (if ((1 : Int) == 0) = true then _ else _) _ _ s
  rw [if_neg (by decide)]
  refine wpAny_bind (slicePart_ .none (wpAny_bind (slicePart_ .none (wpAny_bind (wpAny_pure ?_)))))
  show wpAny _ _ (pure ((0 : Int), (1 : Int), Builtin.Slice.slicePlaces 0 (n : Int) 1)) _ _ s
  have e : Builtin.Slice.slicePlaces 0 (n : Int) 1 = n := by
    unfold Builtin.Slice.slicePlaces
    rw [if_pos (by decide)]
    split <;> omega
  rw [e]
  exact wpAny_pure h
theorem getItem_tuple_one {t sl : Addr} {items : Array Value} {vs : Value} {Q : Value → Shared → Prop} (ht : IsTup s.heap t items) (hs : s.heap.IsSliceOf sl .none .none vs) (ps : IsPart vs (some 1))
    (h : Q (.ref t) s) : wpAny (model prog w) A (getItem (.ref t) (.ref sl)) Q E s := by
  obtain ⟨os, hos, hcs, hds⟩ := id hs
  have hTs : s.TypeIs (.ref sl) "slice" := ⟨os, hos, hcs⟩
  unfold getItem
  try with_reducible refine wpAny_holding ?_
  first | refine wpAny_bind (wpAny_pure ?_) | skip
  refine wpAny_bind (wpAny_sequenceKey ht.typeIs (by decide) ?_)
  refine wpAny_bind (wpAny_callSpecial?_slot (name := Str.ofString "__getitem__") ht.typeIs PyProof.Rows.slot_tuple_getitem
    (wpAny_call_entry PyProof.Rows.slot_tuple_getitem ht.typeIs entry_tuple_getitem ?_ (args_tuple_getitem _ _)))
  show wpAny _ _ (Builtin.Tuple.tupleItemsOf (.ref t) >>= _) _ _ s
  refine wpAny_bind (tupleItemsOf_ ht ?_)
  refine wpAny_bind (wpAny_typeOf hTs ?_)
  rw [if_pos (by decide)]
  refine wpAny_bind (sliceApplied_one (n := items.size) hs ps ?_)
  have hyes : (((0 : Int) == 0 && (1 : Int) == 1 && items.size == items.size) = true) := by simp
  show wpAny _ _ (if (((0 : Int) == 0 && (1 : Int) == 1 && items.size == items.size) = true) then _ else _) _ _ s
  rw [if_pos hyes]
  refine wpAny_bind ?_
  show wpAny _ _ (typeOf (.ref t) >>= fun T => pure (T == .type "tuple")) _ _ s
  refine wpAny_bind (wpAny_typeOf ht.typeIs (wpAny_pure ?_))
  first
    | rw [if_pos (by decide)]
    | simp only [beq_self_eq_true, if_true]
  first
    | exact wpAny_bind (wpAny_rule (wpAny_pure ⟨_, rfl, wpAny_pure h⟩))
    | exact wpAny_bind (wpAny_rule (wpAny_bind (wpAny_pure (wpAny_pure ⟨_, rfl, wpAny_pure h⟩))))
end
section
variable {X : Cx}
def rStepTI (K : PySem.W.Frag) (x : V) (i : Int) (H : Hp) (Q : VK) : Prop := ∃ a xs, x = .ref a ∧ SqT K H a xs ∧ ((i = 1 ∧ Q (.ref a) H) ∨ (i = -1 ∧ LayT xs.reverse H Q))
def rStepT (K : PySem.W.Frag) : R2 := fun x y H Q => ∃ i, y = .int i ∧ rStepTI K x i H Q
theorem pe_stepT {e st : Expr} {te ts : TE} {p3 pos : Pos} (he : PE X e te) (hs : PE X st ts)
    (hsub : ∀ u v : Value, subscripted (.Slice none none (some st) p3) false u v = operate [u, v] (getItem u v) := by intros; with_unfolding_all rfl) : PE X (.Subscript e (.Slice none none (some st) p3) pos) (tOp (rStepT X.K) te ts) := by
  refine ⟨fun pins s σ H Q I h => ?_⟩
  refine Subscript_ (thn (he.run pins s σ H _ I h) fun v s1 ⟨x, H1, I1, r1, q1⟩ => ?_)
  refine wpAny_Slice (thn (po_none.run pins s1 σ H1 (fun o H2 => o = none ∧ H2 = H1) I1 ⟨rfl, rfl⟩) fun vl s2 ⟨l, H2, I2, pl, el, e2⟩ => ?_)
  subst el e2
  refine thn (po_none.run pins s2 σ H2 (fun o H3 => o = none ∧ H3 = H2) I2 ⟨rfl, rfl⟩) fun vu s3 ⟨u, H3, I3, pu, eu, e3⟩ => ?_
  subst eu e3
  refine thn ((po_some hs).run pins s3 σ H3 (fun o H4 => match o with | some i => rStepTI X.K x i H4 Q | none => False) I3 q1) fun vs s4 ⟨o, H4, I4, ps, eo⟩ => ?_
  cases o with
  | none => exact eo.elim
  | some i =>
    obtain ⟨a, xs, ex, hx, q⟩ := (show rStepTI X.K x i H4 Q from eo)
    subst ex
    cases r1
    have I5 : Inv X pins σ H4 { s4 with heap := s4.heap.push { cls := .type "slice", data := .fields #[vl, vu, vs] } } := I4.kept (t' := s4.toks) fun b ob q => Heap.get?_push_of_some _ q
    show wpAny (model X.prog X.w) X.A (subscriptTail e (.Slice none none (some st) p3) (.ref a) (.ref s4.heap.objs.size)) (EP X pins σ Q) X.xe { s4 with heap := s4.heap.push { cls := .type "slice", data := .fields #[vl, vu, vs] } }
    obtain ⟨its, r, ht, hz⟩ := I5.tuple hx
    have hlen := r.length
    cases pl
    cases pu
    refine tail_any (ops := [.ref a, .ref s4.heap.objs.size]) ht.typeIs (PyProof.Rows.slot_tuple_getitem.lookup) ?_ (hsub _ _)
    rcases q with ⟨rfl, q⟩ | ⟨rfl, q⟩
    · exact getItem_tuple_one ht (Heap.IsSliceOf.new _ .none .none vs) ps ⟨.ref a, H4, I5, rfl, q⟩
    · refine getItem_tuple_rev ht (Heap.IsSliceOf.new _ .none .none vs) ps ?_ (by rw [List.size_toArray]; omega)
      exact ⟨.ref _, _, layT I5 (t' := s4.toks) (fun b ob q => Heap.get?_push_of_some _ q) (Nat.le_refl _) (Heap.get?_push_size _ rfl) rfl rfl r.reverse (by rw [List.length_reverse]; exact hz), rfl, q _ _ (I5.hok.fresh (Nat.le_refl _)) rfl⟩
end
noncomputable def opStepT : D → D → List MO → Out D
  | .tup l, .int i, M => if i = 1 ∨ i = -1 then .ok (.tup (stepped i l)) M else .no
  | _, _, _ => .no
section
variable {X : Cx} {p : Pm} {a b e : Expr} {f g : EvE} {p3 pos : Pos}
theorem se_stepT (ha : SE X p a f) (hb : SE X p b g)
    (hsub : ∀ u v : Value, subscripted (.Slice none none (some b) p3) false u v = operate [u, v] (getItem u v) := by intros; with_unfolding_all rfl) : SE X p (.Subscript a (.Slice none none (some b) p3) pos) (eBin opStepT f g) :=
  se_bin (r := rStepT X.K) (fun ta tb h1 h2 => pe_stepT h1 h2 hsub) (fun T A M H x y v w Q R rx ry h => by
    unfold opStepT at h
    split at h
    · rename_i l i
      cases ry
      split at h
      · rename_i hi
        obtain ⟨a', vs, e2, h2, t⟩ := rep_tup rx
        refine ⟨i, rfl, a', vs, e2, h2, ?_⟩
        rcases hi with rfl | rfl
        · exact .inl ⟨rfl, h _ H A (.refl R) (e2 ▸ rx)⟩
        · exact .inr ⟨rfl, new_tup R t.reverse h⟩
      · exact h.elim
    · exact h.elim) (fun x y M c d e M' q => by
      unfold opStepT at q
      split at q
      · exact calm_of calm_ok _ _ _ _ q
      · cases q) ha hb
end
end SX
end
section
set_option Elab.async false
set_option linter.all false
set_option maxRecDepth 100000
open Classical
/-! SXB4: sorted of a list with one thing, whatever it is. -/
namespace SX
open PySem PySem.Spec PyProof.Rows L2 PySem.W PySem.Calls H
section
variable {prog : Program} {w : World} {A : Around} {E : Value → Shared → Prop} {s : Shared}
theorem SortsAt.one {v : Value} {d : PyData} {as : List Addr} (r : Reads s.heap v d as) (hn : d ≠ .none) (hal : PySem.W.alike d d = true) (hu : A.units + d.depth < cLine) : SortsAt prog w A s (dataKind s.heap [d]) [v] := by
  have hal' : AllAlike [d] := fun x hx y hy => by rw [List.mem_singleton.mp hx, List.mem_singleton.mp hy]; exact hal
  refine ⟨fun u hu' => ?_, general', fun E x y a b Q ha hb hq => ?_, fun h2 => absurd h2 (by simp)⟩
  · rw [List.mem_singleton.mp hu']
    exact ⟨_, dataKind_some hal' List.mem_cons_self r⟩
  · obtain ⟨d1, as1, hd1, ra, rfl⟩ := dataKind_inv ha
    obtain ⟨d2, as2, hd2, rb, rfl⟩ := dataKind_inv hb
    rw [List.mem_singleton.mp hd1] at ra hq
    rw [List.mem_singleton.mp hd2] at rb hq
    show wpAny (model prog w) A (oneLt' false x y) Q E s
    exact oneLt_alike (fun h => Bool.noConfusion h) ra rb hal hn (by have := Nat.min_le_left d.depth d.depth; omega) hq
theorem sorted_seq_one {it : Addr} {T : String} {o : Obj} {n : Nat} {Q : Value → Shared → Prop} {v : Value} {d : PyData} {as : List Addr} (hT : T = "list" ∨ T = "tuple") (ho : s.heap.get? it = some o) (hc : o.cls = .type T) (hd : o.data = .seq [v].toArray n)
    (r : Reads s.heap v d as) (hn : d ≠ .none) (hal : PySem.W.alike d d = true) (hu : A.units + 2 + d.depth < cLine)
    (h : ∀ (h1 h' : Heap) (D : Addr) (c : Nat), (∀ b o, s.heap.get? b = some o → h1.get? b = some o) → (∀ b o, h1.get? b = some o → h'.get? b = some o) → h1.objs.size ≤ D → h'.get? D = some (seqObj "list" [v].toArray c) → Q (.ref D) { s with heap := h' }) :
    wpAny (model prog w) A (call (.builtin "sorted") [.ref it]) Q E s := by
  have hz : [v].length ≤ sizeLine := by show 1 ≤ sizeLine; rw [PySem.sizeLine_eq]; omega
  refine Calls.call_function_entry kind_sorted plain_sorted entry_sorted (args_sorted1 _) ?_
  unfold Builtin.«sorted»
  refine wpAny_bind (m := checkCount "sorted" 1 1 _) (wpAny_pure ?_)
  refine wpAny_bind (wpAny_collect_seq it hT ho hc hd (fun h1 k1 => ?_) (by simpa using hz))
  rw [List.toList_toArray]
  refine wpAny_bind (wpAny_newList ?_ hz)
  show wpAny _ _ _ _ _ { s with heap := h1.push (seqObj "list" [v].toArray 0) }
  have hat : (h1.push (seqObj "list" [v].toArray 0)).get? h1.objs.size = some (seqObj "list" [v].toArray 0) := Heap.get?_push_size _ rfl
  have keep2 : ∀ b u, h1.get? b = some u → b ≠ h1.objs.size ∧ (h1.push (seqObj "list" [v].toArray 0)).get? b = some u := fun b u q => ⟨Nat.ne_of_lt (Heap.lt_size q), Heap.get?_push_of_some _ q⟩
  have r' : Reads (sortingHeap (h1.push (seqObj "list" [v].toArray 0)) h1.objs.size [v]) v d as := PyProof.Rows.Reads.keeps (fun b u q => sortingHeap_old (keep2 b u (k1 b u q)).1 (keep2 b u (k1 b u q)).2) r
  obtain ⟨c, hc'⟩ := PyProof.Rows.sortedHeap_at (vs := [v]) (out := (sortVals (dataKind (sortingHeap (h1.push (seqObj "list" [v].toArray 0)) h1.objs.size [v]) [d]) false [v] [v]).toArray) hat
  refine wpAny_bind (wpAny_holding (wpAny_call_entry slot_list_sort ⟨_, hat, rfl⟩ entry_list_sort (list_sort_vals (κ := dataKind (sortingHeap (h1.push (seqObj "list" [v].toArray 0)) h1.objs.size [v]) [d]) (s := { s with heap := h1.push (seqObj "list" [v].toArray 0) }) hat
    (SortsAt.one (s := { s with heap := sortingHeap (h1.push (seqObj "list" [v].toArray 0)) h1.objs.size [v] }) r' hn hal hu) hz ⟨_, rfl, ?_⟩) (args_list_sort _)))
  have e1 : sortVals (dataKind (sortingHeap (h1.push (seqObj "list" [v].toArray 0)) h1.objs.size [v]) [d]) false [v] [v] = [v] := by
    have hl := sortVals_length (κ := dataKind (sortingHeap (h1.push (seqObj "list" [v].toArray 0)) h1.objs.size [v]) [d]) (ks := [v]) (vs := [v]) false rfl
    unfold sortVals at hl ⊢
    simp
  rw [e1] at hc'
  refine wpAny_pure ⟨_, rfl, h h1 _ _ c k1 (fun b u q => ?_) (Nat.le_refl _) (by rw [e1]; exact hc')⟩
  rw [sortedHeap_old (keep2 b u q).1 (Heap.lt_size (keep2 b u q).2)]
  exact (keep2 b u q).2
end
/-- one thing that can be sorted alone -/
structure SortO (M : List MO) (d : D) : Prop where
  all : (toPy M d).isSome = true
  some : encD M d ≠ .none
  alike : PySem.W.alike (encD M d) (encD M d) = true
  deep : (encD M d).depth ≤ 60
noncomputable def opSortedB (mk : Mk) : List D → List MO → Out D
  | [d], M => match asSeq M d with
    | some [x] => if SortO M x then mk [x] M else .no
    | some l => if SortOk M l then mk (sortD M l) M else .no
    | none => .no
  | _, _ => .no
section
variable {X : Cx}
def rSorted1 (X : Cx) : List V → Hp → VK → Prop := fun xs H Q => ∃ T A M d x a vs, xs = [V.ref a] ∧ Rel X.K T A M H ∧ Rep X.K A H d (.ref a) ∧ asSeq M d = some [x] ∧ (SqL X.K H a vs ∨ SqT X.K H a vs) ∧ Reps X.K A H [x] vs ∧ SortO M x ∧
  ∀ D, H D = none → Q (.ref D) (upd H D (.lst vs))
theorem cr_sorted1 {k : Nat} (hr : Room k X.A) : CallR X (.builtin "sorted") (rSorted1 X) := by
  intro pins s σ H vs us Q I r h
  obtain ⟨T, A, M, d, x, a, ys, rfl, R, rd, e1, hs, t, ok, q⟩ := h
  obtain ⟨u, rfl, rx⟩ := vals1 r
  cases rx
  obtain ⟨its, rv, T', o, n, hT, ho, hc, hd, hz⟩ : ∃ (its : List Value) (_ : Vals ys its) (T' : String) (o : Obj) (n : Nat), (T' = "list" ∨ T' = "tuple") ∧ s.heap.get? a = some o ∧ o.cls = .type T' ∧ o.data = .seq its.toArray n ∧ its.length ≤ sizeLine := by
    rcases hs with hs | hs
    · obtain ⟨its, rv, pl, hz⟩ := I.list hs
      obtain ⟨o, ho, hc, n, hd⟩ := pl.isList
      exact ⟨its, rv, _, o, n, .inl rfl, ho, hc, hd, by rw [← rv.length]; exact hz⟩
    · obtain ⟨its, rv, pl, hz⟩ := I.tuple hs
      obtain ⟨o, ho, hc, n, hd⟩ := pl
      exact ⟨its, rv, _, o, n, .inr rfl, ho, hc, hd, by rw [← rv.length]; exact hz⟩
  have e := each_reps t rv
  have hr' := each_reads I R e (encD_of (l := [x]) fun y hy => by rw [List.mem_singleton.mp hy]; exact ok.all)
  cases hr' with
  | cons h1 h2 =>
    cases h2
    rename_i v
    obtain ⟨as, rd'⟩ := h1
    refine sorted_seq_one hT ho hc hd rd' ok.some ok.alike (by have := ok.deep; have := hr.units; omega) fun h1 h' D c k1 k2 hD hat => ?_
    have I1 : Inv X pins σ H { s with heap := h1 } := I.kept (t' := s.toks) k1
    refine ⟨.ref D, upd H D (.lst ys), I1.laid (t' := s.toks) k2 hD ⟨?_, [v], c, rv, hat⟩, rfl, q D (I1.hok.fresh hD)⟩
    rw [rv.length]
    exact hz
variable {p : Pm} {a b e : Expr} {es : List Expr} {f g : EvE} {fs : EvEs} {pn pos p2 : Pos}
def rSortedB (X : Cx) : List V → Hp → VK → Prop := fun xs H Q => rSortedD X xs H Q ∨ rSorted1 X xs H Q
theorem cr_sortedB {k : Nat} (hr : Room k X.A) : CallR X (.builtin "sorted") (rSortedB X) := by
  intro pins s σ H vs us Q I r h
  rcases h with h | h
  · exact cr_sortedD hr pins s σ H vs us Q I r h
  · exact cr_sorted1 hr pins s σ H vs us Q I r h
theorem se_sortedB (mk : Mk) (hk : MkOk mk) {k : Nat} (hr : Room k X.A) (hg : Gl X "sorted") (hm : X.mg "sorted" = none) (h : SA X p (e :: es) fs) (he : starEach (e :: es) X.env = (false, eval e X.env) :: starEach es X.env := by rfl) (hpl : (backTo pos (starEach es X.env)).any (·.1) = false := by rfl) :
    SE X p (.Call (.Name "sorted" pn) (e :: es) [] pos) (eB (opSortedB mk) fs) :=
  se_b (fun t ht => pe_callB (cr_sortedB hr) hg hm PyProof.Rows.boot_sorted ht (he := he) (hpl := hpl)) (fun T A M H xs vs Q R r h => by
    unfold opSortedB at h
    split at h
    · rename_i d
      obtain ⟨v, e, r'⟩ := reps1 r
      subst e
      split at h
      · rename_i x e1
        obtain ⟨ok, h⟩ := ifO h
        obtain ⟨a', ws, e2, h2, t⟩ := asSeq_rep R r' e1
        subst e2
        exact .inr ⟨T, A, M, d, x, a', ws, rfl, R, r', e1, h2, t, ok, fun D hD => hk.run _ _ _ _ _ _ _ _ _ R hD t h⟩
      · rename_i l _ e1
        obtain ⟨ok, h⟩ := ifO h
        obtain ⟨a', ws, e2, h2, t⟩ := asSeq_rep R r' e1
        subst e2
        exact .inl ⟨T, A, M, d, l, a', ws, rfl, R, r', e1, h2, t, ok, fun D us hD tu => hk.run _ _ _ _ _ _ _ _ _ R hD tu h⟩
      · exact h.elim
    · exact h.elim) (fun xs M c d e M' q => by
      unfold opSortedB at q
      split at q
      · split at q
        · exact calm_of (fun c d e M' => hk.calm _ _ c d e M') _ _ _ _ q
        · exact calm_of (fun c d e M' => hk.calm _ _ c d e M') _ _ _ _ q
        · cases q
      · cases q) h
end
theorem sortedB_one {mk : Mk} {d x : D} {M : List MO} (h : asSeq M d = some [x]) (ok : SortO M x) : opSortedB mk [d] M = mk [x] M := by
  unfold opSortedB
  dsimp only
  rw [h]
  exact if_pos ok
theorem sortedB_more {mk : Mk} {d : D} {l : List D} {M : List MO} (h : asSeq M d = some l) (hl : l.length ≠ 1) : opSortedB mk [d] M = opSorted mk [d] M := by
  unfold opSortedB opSorted
  dsimp only
  rw [h]
  match l, hl with
  | [], _ => rfl
  | [_], hl => exact absurd rfl hl
  | _ :: _ :: _, _ => rfl
end SX
end
section
set_option Elab.async false
set_option linter.all false
set_option maxRecDepth 100000
open Classical
/-! SXC1: texts: str(n), sep.join(xs), f-strings, one sign of a text, text * n. -/
namespace SX
open PySem PySem.Spec PyProof.Rows L2 PySem.W PySem.Calls
theorem reps_strs {K A H} : ∀ {ys : List Str} {vs : List V}, Reps K A H (ys.map D.str) vs → vs = ys.map V.str
  | [], _, t => by cases t; rfl
  | y :: ys, _, t => by
    cases t with
    | cons r t =>
      rw [reps_strs t, rep_str r]
      rfl
def strsL : List D → Option (List Str)
  | [] => some []
  | .str y :: l => (strsL l).map (y :: ·)
  | _ :: _ => none
theorem strsL_map : ∀ ys : List Str, strsL (ys.map D.str) = some ys
  | [] => rfl
  | y :: ys => by
    show (strsL (ys.map D.str)).map (y :: ·) = _
    rw [strsL_map ys]
    rfl
theorem strsL_eq : ∀ {l : List D} {ys : List Str}, strsL l = some ys → l = ys.map D.str
  | [], ys, e => by cases e; rfl
  | .str y :: l, ys, e => by
    unfold strsL at e
    cases h : strsL l with
    | none => rw [h] at e; cases e
    | some zs =>
      rw [h] at e
      cases e
      rw [strsL_eq h]
      rfl
  | .non :: _, _, e => by cases e
  | .bl _ :: _, _, e => by cases e
  | .int _ :: _, _, e => by cases e
  | .tup _ :: _, _, e => by cases e
  | .pr _ :: _, _, e => by cases e
  | .lst _ :: _, _, e => by cases e
  | .rol _ :: _, _, e => by cases e
  | .ref _ :: _, _, e => by cases e
  | .exc _ _ _ :: _, _, e => by cases e
  | .adr _ :: _, _, e => by cases e
section
variable {X : Cx} {p : Pm} {a b e o : Expr} {es : List Expr} {f g : EvE} {fs : EvEs} {pn pos p2 apos cpos : Pos}
/-! ### str(n) -/
def opStr1 : List D → List MO → Out D
  | [.int i], M => if i.natAbs.log2 < 1920 then .ok (.str (toString i)) M else .no
  | _, _ => .no
theorem opStr1_calm : CalmC opStr1 := by
  intro xs M c d e M'
  unfold opStr1
  split
  · exact calm_of calm_ok _ _ _ _
  · intro q; cases q
theorem se_str1 (hg : Gl X "str") (hm : X.mg "str" = none) (h : SA X p (e :: es) fs) (he : starEach (e :: es) X.env = (false, eval e X.env) :: starEach es X.env := by rfl) (hpl : (backTo pos (starEach es X.env)).any (·.1) = false := by rfl) :
    SE X p (.Call (.Name "str" pn) (e :: es) [] pos) (eB opStr1 fs) :=
  se_b (fun t ht => pe_callTy call_str_int hg hm PyProof.Rows.boot_str ht (he := he) (hpl := hpl)) (fun T A M H xs vs Q R r h => by
    unfold opStr1 at h
    split at h
    · obtain ⟨v, e, r'⟩ := reps1 r
      subst e
      obtain ⟨hz, h⟩ := ifO h
      exact ⟨_, by rw [rep_int r'], hz, h _ H A (.refl R) (.str _)⟩
    · exact h.elim) opStr1_calm h
/-! ### sep.join(xs) -/
def opJoin : D → D → List MO → Out D := fun x y M => match x, asSeq M y with
  | .str a, some l => match strsL l with
    | some ys => if (ys.map (·.length)).sum + ys.length * a.length ≤ 16777216 then .ok (.str (Txt.join a ys)) M else .no
    | none => .no
  | _, _ => .no
def eJoin (f g : EvE) : EvE := fun env M => (f env M).bind fun x M1 => match x with
  | .str a => (g env M1).bind fun y M2 => opJoin (.str a) y M2
  | _ => .no
theorem opJoin_calm : Calm2 opJoin := by
  intro x y M c d e M'
  unfold opJoin
  split
  · split
    · exact calm_of calm_ok _ _ _ _
    · intro q; cases q
  · intro q; cases q
theorem se_join (ho : SE X p o f) (he : SE X p e g) (hs : starEach [e] X.env = [(false, eval e X.env)] := by rfl) (hbase : attributeBase o "join" X.env (eval o X.env) = eval o X.env := by rfl) (hline : (apos.endLine == pos.line) = true := by rfl) :
    SE X p (.Call (.Attribute o "join" apos) [e] [] pos) (eJoin f g) :=
  pe_imp (pe_join ho he hs hbase hline) fun σ H Q ⟨A, M, env, R, S, q⟩ => seqE R S (fun _ _ _ _ z => z) q fun x M1 v H1 A1 s1 r1 q1 => by
    split at q1
    · rename_i a
      refine ⟨⟨a, rep_str r1⟩, seqE s1.rel (S.stp R s1) (fun _ _ _ _ z => Exc.stp s1 z) q1 fun y M2 w H2 A2 s2 r2 q2 => ?_⟩
      have q3 := noex (opJoin_calm (.str a) y M2) q2
      unfold opJoin at q3
      split at q3
      · rename_i a' l e0 e1
        cases e0
        split at q3
        · rename_i ys e2
          obtain ⟨hz, q3⟩ := ifO q3
          obtain ⟨b', ws, e3, h3, t⟩ := asSeq_rep s2.rel r2 e1
          rw [strsL_eq e2] at t
          refine ⟨a, b', ys, rep_str r1, by rw [e3], by rw [← reps_strs t]; exact h3, hz, ?_⟩
          exact Fin.stp (p := p) (s1.trans s2) q3 _ H2 A2 (.refl s2.rel) (.str _)
        · exact q3.elim
      · exact q3.elim
    · exact q1.elim
/-! ### one sign of a text -/
def opIxS : D → D → List MO → Out D := fun x y M => match x, y with
  | .str z, .int i => if 0 ≤ i ∧ i < 2 ^ 63 ∧ i < z.length then match z.cps[i.toNat]? with
    | some c => .ok (.str ⟨#[c]⟩) M
    | none => .no else .no
  | _, _ => .no
theorem opIxS_calm : Calm2 opIxS := by
  intro x y M c d e M'
  unfold opIxS
  split
  · refine calm_of (fun c d e M' => ?_) _ _ _ _
    split
    · exact calm_ok _ _ _ _
    · intro q; cases q
  · intro q; cases q
theorem se_ixS (ha : SE X p a f) (hb : SE X p b g) (hs : PlainIxT b := by first | exact fun _ _ => rfl | rfl) : SE X p (.Subscript a b pos) (eBin opIxS f g) :=
  se_bin (fun ta tb h1 h2 => pe_item_str h1 h2 hs) (fun T A M H x y v w Q R rx ry h => by
    unfold opIxS at h
    split at h
    · rename_i z i
      obtain ⟨⟨h0, h1, h2⟩, h⟩ := ifO h
      split at h
      · rename_i c e
        exact ⟨z, i, c, rep_str rx, rep_int ry, h0, h1, h2, e, h _ H A (.refl R) (.str _)⟩
      · exact h.elim
    · exact h.elim) opIxS_calm ha hb
/-! ### text * n -/
theorem op_mulS : OpR X (binaryOp .Mult) (fun x y H Q => ∃ a n, x = .str a ∧ y = .int n ∧ MulOk a n ∧ Q (.str (Txt.mul a n)) H) := by
  intro pins s σ H x y v u Q I rx ry h
  obtain ⟨a, n, rfl, rfl, ok, q⟩ := h
  obtain ⟨t, rfl⟩ := rx
  obtain ⟨t', rfl⟩ := ry
  exact SB.mul ok fun t2 k => ⟨.str _, H, I.tok k, ⟨t2, rfl⟩, q⟩
noncomputable def opMulS : D → D → List MO → Out D := fun x y M => match x, y with
  | .str a, .int n => if MulOk a n then .ok (.str (Txt.mul a n)) M else .no
  | _, _ => .no
theorem opMulS_calm : Calm2 opMulS := by
  intro x y M c d e M'
  unfold opMulS
  split
  · exact calm_of calm_ok _ _ _ _
  · intro q; cases q
theorem se_mulS (ha : SE X p a f) (hb : SE X p b g) : SE X p (.BinOp a .Mult b pos) (eBin opMulS f g) :=
  se_bin (fun ta tb h1 h2 => pe_op op_mulS h1 h2) (fun T A M H x y v w Q R rx ry h => by
    unfold opMulS at h
    split at h
    · obtain ⟨ok, h⟩ := ifO h
      exact ⟨_, _, rep_str rx, rep_int ry, ok, h _ H A (.refl R) (.str _)⟩
    · exact h.elim) opMulS_calm ha hb
/-! ### f-strings -/
def opFmt : D → List MO → Out D := fun x M => match x with
  | .str y => if y.length ≤ sizeLine then .ok (.str y) M else .no
  | .int i => if i.natAbs.log2 < 1920 then .ok (.str (toString i)) M else .no
  | _ => .no
theorem opFmt_calm : ∀ x M c d e M', opFmt x M ≠ .ex c d e M' := by
  intro x M c d e M'
  unfold opFmt
  split
  · exact calm_of calm_ok _ _ _ _
  · exact calm_of calm_ok _ _ _ _
  · intro q; cases q
theorem se_fmt (ha : SE X p a f) : SE X p (.FormattedValue a (-1) none pos) (eUn opFmt f) :=
  se_un (r := fun x H Q => (∃ y : Str, x = .str y ∧ y.length ≤ sizeLine ∧ Q (.str y) H) ∨ ∃ i : Int, x = .int i ∧ i.natAbs.log2 < 1920 ∧ Q (.str (toString i)) H) (fun ta h => pe_fmt h) (fun T A M H x v Q R rx h => by
    unfold opFmt at h
    split at h
    · obtain ⟨hz, h⟩ := ifO h
      exact .inl ⟨_, rep_str rx, hz, h _ H A (.refl R) (.str _)⟩
    · obtain ⟨hz, h⟩ := ifO h
      exact .inr ⟨_, rep_int rx, hz, h _ H A (.refl R) (.str _)⟩
    · exact h.elim) opFmt_calm ha
inductive SJ (X : Cx) (p : Pm) : List Expr → List EvE → Prop where
  | nil : SJ X p [] []
  | cons {e : Expr} {f : EvE} {es : List Expr} {fs : List EvE} (h : SE X p e f) (r : SJ X p es fs) : SJ X p (e :: es) (f :: fs)
def eFs : List EvE → Str → EvE
  | [], acc => fun _ M => .ok (.str acc) M
  | f :: fs, acc => fun env M => (f env M).bind fun d M1 => match d with
    | .str y => if (acc ++ y).length ≤ sizeLine then eFs fs (acc ++ y) env M1 else .no
    | _ => .no
theorem SJ.pj {es : List Expr} {fs : List EvE} (h : SJ X p es fs) : PJ X es (fs.map (tE X.K p)) := by
  induction h with
  | nil => exact .nil
  | cons h _ ih => exact .cons h ih
theorem js_run {p : Pm} {Q : VK} : ∀ (fs : List EvE) (acc : Str) (σ : L2.St) (A : Ads) (M : List MO) (H : Hp) (env : Env), Rel X.K p.T A M H → RepS X.K A H env σ → OutR (eFs fs acc env M) (Fin X.K p.T A H Q) (Exc X.K p A H) → tJs (fs.map (tE X.K p)) acc σ H fun out H1 => Q (.str out) H1
  | [], acc, σ, A, M, H, env, R, S, q => q _ H A (.refl R) (.str _)
  | f :: fs, acc, σ, A, M, H, env, R, S, q => seqE R S (fun _ _ _ _ z => z) q fun d M1 v H1 A1 s1 r1 q1 => by
    split at q1
    · rename_i y
      obtain ⟨hz, q1⟩ := ifO q1
      refine ⟨y, rep_str r1, hz, js_run fs (acc ++ y) σ A1 M1 H1 env s1.rel (S.stp R s1) ?_⟩
      exact q1.imp (fun d M' _ z => Fin.stp (p := p) s1 z) fun _ _ _ _ _ z => Exc.stp s1 z
    · exact q1.elim
theorem se_joined {v1 v2 : Expr} {rest : List Expr} {fs : List EvE} (h : SJ X p (v1 :: v2 :: rest) fs) : SE X p (.JoinedStr (v1 :: v2 :: rest) pos) (eFs fs Str.empty) :=
  pe_imp (pe_joined h.pj) fun σ H Q ⟨A, M, env, R, S, q⟩ => js_run fs Str.empty σ A M H env R S q
end
end SX
end
section
set_option Elab.async false
set_option linter.all false
set_option maxRecDepth 100000
open Classical
/-! SXC2: sorted(set(xs)), xs a list of few tuples of ints of one length. -/
namespace SX
open PySem PySem.Spec PyProof.Rows L2 PySem.W PySem.Calls
theorem code_inj {B : Int} : ∀ {x y : List Int}, x.length = y.length → TS.Bd B x → TS.Bd B y → TS.code B x = TS.code B y → x = y
  | [], [], _, _, _, _ => rfl
  | [], _ :: _, h, _, _, _ => by simp at h
  | _ :: _, [], h, _, _, _ => by simp at h
  | d :: r, e :: q, h, hx, hy, hc => by
    have hl : r.length = q.length := by simpa using h
    rcases Int.lt_trichotomy d e with z | z | z
    · have := TS.code_lt hl hx.tail hy.tail z
      omega
    · subst z
      have a1 := TS.code_same (B := B) (d := d) hl
      have a2 := TS.code_same (B := B) (d := d) hl.symm
      have : TS.code B r = TS.code B q := by
        rcases Int.lt_trichotomy (TS.code B r) (TS.code B q) with z | z | z
        · have := a1.mpr z; omega
        · exact z
        · have := a2.mpr z; omega
      rw [code_inj hl hx.tail hy.tail this]
    · have := TS.code_lt hl.symm hy.tail hx.tail z
      omega
/-- the tuples, each once, ascending -/
def SetS (B : Int) (ks R : List (List Int)) : Prop := R.Nodup ∧ (∀ k, k ∈ R ↔ k ∈ ks) ∧ R.Pairwise (fun q r => TS.code B q ≤ TS.code B r)
def topI (ks : List (List Int)) : Int := 1 + ks.flatten.sum
noncomputable def sortSet (ks : List (List Int)) : List (List Int) := if h : ∃ R, SetS (topI ks) ks R then h.choose else []
theorem sortSet_mem {ks : List (List Int)} {k : List Int} (h : k ∈ sortSet ks) : k ∈ ks := by
  unfold sortSet at h
  split at h
  · rename_i hx
    exact (hx.choose_spec.2.1 k).mp h
  · cases h
theorem sortSet_nodup (ks : List (List Int)) : (sortSet ks).Nodup := by
  unfold sortSet
  split
  · rename_i hx
    exact hx.choose_spec.1
  · exact List.nodup_nil
theorem sortSet_eq {ks R : List (List Int)} {d : Nat} (hd : ∀ k ∈ ks, k.length = d ∧ TS.Bd (topI ks) k) (h : SetS (topI ks) ks R) : sortSet ks = R := by
  unfold sortSet
  have hx : ∃ R, SetS (topI ks) ks R := ⟨R, h⟩
  rw [dif_pos hx]
  obtain ⟨n1, m1, p1⟩ := hx.choose_spec
  obtain ⟨n2, m2, p2⟩ := h
  refine List.Perm.eq_of_pairwise (le := fun q r => TS.code (topI ks) q ≤ TS.code (topI ks) r) (fun a b ha hb h1 h2 => ?_) p1 p2 ?_
  · have ka := hd a ((m1 a).mp ha)
    have kb := hd b ((m2 b).mp hb)
    exact code_inj (ka.1.trans kb.1.symm) ka.2 kb.2 (Int.le_antisymm h1 h2)
  · exact (List.perm_ext_iff_of_nodup n1 n2).mpr fun a => (m1 a).trans (m2 a).symm
theorem sum_nonneg : ∀ {l : List Int}, (∀ m ∈ l, 0 ≤ m) → 0 ≤ l.sum ∧ ∀ m ∈ l, m ≤ l.sum
  | [], _ => ⟨Int.le_refl _, fun m h => nomatch h⟩
  | x :: l, h => by
    obtain ⟨a, b⟩ := sum_nonneg (l := l) fun m hm => h m (List.mem_cons_of_mem _ hm)
    have hx := h x List.mem_cons_self
    rw [List.sum_cons]
    refine ⟨by omega, fun m hm => ?_⟩
    rcases List.mem_cons.mp hm with rfl | hm
    · omega
    · have := b m hm; omega
theorem bd_top {ks : List (List Int)} (h : ∀ k ∈ ks, ∀ m ∈ k, 0 ≤ m) {k : List Int} (hk : k ∈ ks) : TS.Bd (topI ks) k := fun m hm => by
  have : ∀ m ∈ ks.flatten, 0 ≤ m := fun m hm => by
    obtain ⟨k, hk, hm⟩ := List.mem_flatten.mp hm
    exact h k hk m hm
  refine ⟨h k hk m hm, ?_⟩
  have := (sum_nonneg this).2 m (List.mem_flatten.mpr ⟨k, hk, hm⟩)
  unfold topI
  omega
def tupsI : List D → Option (List (List Int))
  | [] => some []
  | .tup k :: l => match intsOf k, tupsI l with
    | some ns, some r => some (ns :: r)
    | _, _ => none
  | _ :: _ => none
theorem tupsI_map : ∀ ks : List (List Int), tupsI (ks.map fun k => .tup (k.map D.int)) = some ks
  | [] => rfl
  | k :: ks => by
    show (match intsOf (k.map D.int), tupsI (ks.map fun k => .tup (k.map D.int)) with
    | some ns, some r => some (ns :: r)
    | _, _ => none) = _
    rw [intsOf_map, tupsI_map ks]
theorem tupsI_eq : ∀ {l : List D} {ks : List (List Int)}, tupsI l = some ks → l = ks.map fun k => .tup (k.map D.int)
  | [], ks, e => by cases e; rfl
  | .tup k :: l, ks, e => by
    unfold tupsI at e
    split at e
    · rename_i ns r e1 e2
      cases e
      rw [intsOf_eq e1, tupsI_eq e2]
      rfl
    · cases e
  | .non :: _, _, e => by cases e
  | .bl _ :: _, _, e => by cases e
  | .int _ :: _, _, e => by cases e
  | .str _ :: _, _, e => by cases e
  | .pr _ :: _, _, e => by cases e
  | .lst _ :: _, _, e => by cases e
  | .rol _ :: _, _, e => by cases e
  | .ref _ :: _, _, e => by cases e
  | .exc _ _ _ :: _, _, e => by cases e
  | .adr _ :: _, _, e => by cases e
/-- what stands for a list of such tuples -/
theorem reps_tups {K A H} : ∀ {ks : List (List Int)} {vs : List V}, Reps K A H (ks.map fun k => .tup (k.map D.int)) vs → ∃ ps : List (Addr × List Int), ps.map (·.2) = ks ∧ vs = ps.map (fun p => V.ref p.1) ∧ ∀ p ∈ ps, Rep K A H (.tup (p.2.map D.int)) (.ref p.1)
  | [], _, t => by cases t; exact ⟨[], rfl, rfl, fun p h => nomatch h⟩
  | k :: ks, _, t => by
    cases t with
    | cons r t =>
      obtain ⟨ps, e1, e2, h⟩ := reps_tups t
      obtain ⟨a, us, e, _, _⟩ := rep_tup r
      subst e
      refine ⟨(a, k) :: ps, by rw [List.map_cons, e1], by rw [List.map_cons, e2], fun p hp => ?_⟩
      rcases List.mem_cons.mp hp with rfl | hp
      · exact r
      · exact h p hp
theorem tups_reps {K A H} : ∀ {ps : List (Addr × List Int)}, (∀ p ∈ ps, Rep K A H (.tup (p.2.map D.int)) (.ref p.1)) → Reps K A H ((ps.map (·.2)).map fun k => .tup (k.map D.int)) (ps.map fun p => V.ref p.1)
  | [], _ => .nil
  | p :: ps, h => .cons (h p List.mem_cons_self) (tups_reps fun q hq => h q (List.mem_cons_of_mem _ hq))
noncomputable def opSortSet (mk : Mk) : D → List MO → Out D := fun x M => match asL M x with
  | some l => match tupsI l with
    | some ks => if ks.length < 64 ∧ (∃ d : Nat, 1 ≤ d ∧ ∀ k ∈ ks, k.length = d) ∧ (∀ k ∈ ks, ∀ m ∈ k, 0 ≤ m) then mk ((sortSet ks).map fun k => .tup (k.map D.int)) M else .no
    | none => .no
  | none => .no
section
variable {X : Cx} {p : Pm} {a b e o : Expr} {es : List Expr} {f g : EvE} {fs : EvEs} {pn pn2 pos pos2 apos cpos : Pos}
theorem se_sortSet (mk : Mk) (hk : MkOk mk) {k : Nat} (hr : Room k X.A) (hc : X.calm = true) (hg : Gl X "sorted") (hm : X.mg "sorted" = none) (hg2 : Gl X "set") (hm2 : X.mg "set" = none) (ha : SE X p e f)
    (he2 : starEach [e] X.env = (false, eval e X.env) :: starEach [] X.env := by rfl) (hpl2 : (backTo pos2 (starEach [] X.env)).any (·.1) = false := by rfl)
    (he : starEach [Expr.Call (.Name "set" pn2) [e] [] pos2] X.env = (false, eval (.Call (.Name "set" pn2) [e] [] pos2) X.env) :: starEach [] X.env := by rfl) (hpl : (backTo pos (starEach [] X.env)).any (·.1) = false := by rfl) :
    SE X p (.Call (.Name "sorted" pn) [.Call (.Name "set" pn2) [e] [] pos2] [] pos) (eUn (opSortSet mk) f) :=
  pe_imp (pe_callB (cr_sortedT hc) hg hm PyProof.Rows.boot_sorted (pa_cons (pe_callTy (cr_setOfT hc (by have := hr.un; omega)) hg2 hm2 PyProof.Rows.boot_set (pa_cons ha pa_nil he2) (he := he2) (hpl := hpl2)) pa_nil he) (he := he) (hpl := hpl)) fun σ H Q ⟨A, M, env, R, S, q⟩ => seqE R S (fun _ _ _ _ z => z) q fun x M1 v H1 A1 s1 r1 q1 => by
    have q2 : OutR (opSortSet mk x M1) (Fin X.K p.T A1 H1 Q) (fun _ _ _ _ => False) := by
      refine (noex (fun c d e M' => ?_) q1).imp (fun d M' _ z => Fin.stp (p := p) s1 z) fun _ _ _ _ _ z => z
      unfold opSortSet
      split
      · split
        · exact calm_of (hk.calm _ _) _ _ _ _
        · intro q; cases q
      · intro q; cases q
    unfold opSortSet at q2
    split at q2
    · rename_i l e1
      split at q2
      · rename_i ks e2
        obtain ⟨⟨hz, ⟨d, hd, hl⟩, hp⟩, q2⟩ := ifO q2
        obtain ⟨a', us, e3, h3, t⟩ := asL_rep s1.rel r1 e1
        subst e3
        rw [tupsI_eq e2] at t
        obtain ⟨ps, ep, evq, hps⟩ := reps_tups t
        subst evq
        have sq : ∀ {A H} {p : Addr × List Int}, Rep X.K A H (.tup (p.2.map D.int)) (.ref p.1) → SqT X.K H p.1 (p.2.map V.int) := fun {A H p} r => by
          obtain ⟨a, us, e, h, t⟩ := rep_tup r
          cases e
          rw [t.ints] at h
          exact h
        have hlen : ps.length = ks.length := by rw [← ep, List.length_map]
        refine ⟨a', ps, rfl, h3, fun p hp => sq (hps p hp), by omega, fun a L ha hL1 hL2 => ?_⟩
        have st : Stp X.K p.T A1 H1 A1 M1 (upd H1 a (SetTO X.prog X.w a L)) := .lay s1.rel ha
        have hps2 : ∀ p ∈ ps, Rep X.K A1 (upd H1 a (SetTO X.prog X.w a L)) (.tup (p.2.map D.int)) (.ref p.1) := fun p hp => (hps p hp).stp s1.rel st
        have in1 : ∀ p ∈ ps, p.2 ∈ ks := fun p hp => by rw [← ep]; exact List.mem_map_of_mem hp
        refine ⟨a, L, d, topI ks, rfl, upd_same, fun p hp => sq (hps2 p (hL1 p hp)), hd, fun p h => ⟨hl _ (in1 p (hL1 p h)), bd_top hp (in1 p (hL1 p h))⟩, fun L' D pm nd hf pw hD => ?_⟩
        have hR : SetS (topI ks) ks (L'.map (·.2)) := ⟨nd, fun k => ⟨fun hk => ?_, fun hk => ?_⟩, List.pairwise_map.mpr pw⟩
        · have e9 := sortSet_eq (fun k hk => ⟨hl k hk, bd_top hp hk⟩) hR
          rw [e9] at q2
          refine hk.run _ _ _ _ _ _ _ _ _ st.rel hD (tups_reps fun q hq => hps2 q (hL1 q (pm.mem_iff.mp hq))) (q2.imp (fun d M' _ z => Fin.stp (p := p) st z) fun _ _ _ _ _ z => z)
        · obtain ⟨q, hq, rfl⟩ := List.mem_map.mp hk
          exact in1 q (hL1 q (pm.mem_iff.mp hq))
        · rw [← ep] at hk
          obtain ⟨q, hq, rfl⟩ := List.mem_map.mp hk
          have := hL2 q hq
          exact (pm.map (·.2)).mem_iff.mpr this
      · exact q2.elim
    · exact q2.elim
end
end SX
end
section
set_option Elab.async false
set_option linter.all false
set_option maxRecDepth 100000
open Classical
/-! SXD1: dicts with ints as keys: {}, d[i] = v, d[i]. -/
namespace SX
open PySem PySem.Spec PyProof.Rows L2 PySem.W PySem.Calls
abbrev izip (kvs : List (Int × D)) (vs : List V) : List (Key × V) := kvs.zipWith (fun q v => ((Sum.inl q.1 : Key), v)) vs
def findI (kvs : List (Int × D)) (k : Int) : Option D := (kvs.find? fun q => decide (q.1 = k)).map (·.2)
def putI (kvs : List (Int × D)) (k : Int) (d : D) : List (Int × D) := if (kvs.any fun q => decide (q.1 = k)) = true then kvs.map (fun q => if q.1 = k then (q.1, d) else q) else kvs ++ [(k, d)]
section
variable {K : PySem.W.Frag} {A : Ads} {H : Hp}
theorem iz_val {k : Int} {d : D} : ∀ {kvs : List (Int × D)} {vs : List V}, Reps K A H (kvs.map (·.2)) vs → findI kvs k = some d → ∃ v, valV (izip kvs vs) (Sum.inl k) = some v ∧ Rep K A H d v
  | [], _, _, e => by cases e
  | (i, x) :: r, _, t, e => by
    cases t with
    | @cons _ v _ vs hr t =>
      by_cases h : i = k
      · subst h
        have : x = d := by simpa [findI, List.find?_cons] using e
        subst this
        exact ⟨v, valV_pos rfl, hr⟩
      · have e' : findI r k = some d := by simpa [findI, List.find?_cons, h] using e
        obtain ⟨w, h1, h2⟩ := iz_val t e'
        exact ⟨w, (valV_neg (fun z => h (Sum.inl.inj z))).trans h1, h2⟩
theorem iz_any {k : Int} : ∀ {kvs : List (Int × D)} {vs : List V}, Reps K A H (kvs.map (·.2)) vs → ((izip kvs vs).any fun kv => decide (kv.1 = Sum.inl k)) = kvs.any fun q => decide (q.1 = k)
  | [], _, _ => rfl
  | (i, x) :: r, _, t => by
    cases t with
    | @cons _ v _ vs hr t =>
      show (decide ((Sum.inl i : Key) = Sum.inl k) || (izip r vs).any _) = (decide (i = k) || r.any _)
      rw [iz_any t]
      congr 1
      exact decide_eq_decide.mpr ⟨fun z => Sum.inl.inj z, fun z => by rw [z]⟩
theorem iz_map {k : Int} {d : D} {v : V} (hd : Rep K A H d v) : ∀ {kvs : List (Int × D)} {vs : List V}, Reps K A H (kvs.map (·.2)) vs → ∃ vs', (izip kvs vs).map (fun kv => if kv.1 = Sum.inl k then (kv.1, v) else kv) = izip (kvs.map fun q => if q.1 = k then (q.1, d) else q) vs' ∧ Reps K A H ((kvs.map fun q => if q.1 = k then (q.1, d) else q).map (·.2)) vs'
  | [], _, t => ⟨[], by cases t; rfl, .nil⟩
  | (i, x) :: r, _, t => by
    cases t with
    | @cons _ w _ vs hr t =>
      obtain ⟨vs', e, t'⟩ := iz_map (k := k) hd t
      by_cases h : i = k
      · subst h
        refine ⟨v :: vs', ?_, ?_⟩
        · show (if (Sum.inl i : Key) = Sum.inl i then _ else _) :: (izip r vs).map _ = _
          rw [e, if_pos rfl, List.map_cons, if_pos rfl]
          rfl
        · rw [List.map_cons, if_pos rfl, List.map_cons]
          exact .cons hd t'
      · refine ⟨w :: vs', ?_, ?_⟩
        · show (if (Sum.inl i : Key) = Sum.inl k then _ else _) :: (izip r vs).map _ = _
          rw [e, if_neg (fun z => h (Sum.inl.inj z)), List.map_cons, if_neg h]
          rfl
        · rw [List.map_cons, if_neg h, List.map_cons]
          exact .cons hr t'
theorem iz_len {kvs : List (Int × D)} {vs : List V} (t : Reps K A H (kvs.map (·.2)) vs) : kvs.length = vs.length ∧ (izip kvs vs).length = kvs.length := by
  have := t.length
  rw [List.length_map] at this
  refine ⟨this, ?_⟩
  rw [List.length_zipWith]
  omega
theorem reps_snoc {d : D} {v : V} (hd : Rep K A H d v) : ∀ {ds : List D} {vs : List V}, Reps K A H ds vs → Reps K A H (ds ++ [d]) (vs ++ [v])
  | _, _, .nil => .cons hd .nil
  | _, _, .cons r t => .cons r (reps_snoc hd t)
theorem iz_put {k : Int} {d : D} {v : V} (hd : Rep K A H d v) {kvs : List (Int × D)} {vs : List V} (t : Reps K A H (kvs.map (·.2)) vs) : ∃ vs', putK (izip kvs vs) (Sum.inl k) v = izip (putI kvs k d) vs' ∧ Reps K A H ((putI kvs k d).map (·.2)) vs' := by
  unfold putK putI
  rw [iz_any t]
  by_cases h : (kvs.any fun q => decide (q.1 = k)) = true
  · rw [if_pos h, if_pos h]
    exact iz_map hd t
  · rw [if_neg h, if_neg h]
    refine ⟨vs ++ [v], ?_, ?_⟩
    · show izip kvs vs ++ _ = List.zipWith _ (kvs ++ [(k, d)]) (vs ++ [v])
      rw [List.zipWith_append (iz_len t).1]
      rfl
    · rw [List.map_append]
      exact reps_snoc hd t
end
section
variable {X : Cx} {p : Pm} {a b : Expr} {f g : EvE} {pos pn : Pos}
def eDictI : EvE := fun _ M => .ok (.ref M.length) (M ++ [.dI []])
theorem se_dictI : SE X p (.Dict [] [] pos) eDictI := pe_imp pe_dnewK fun σ H Q ⟨A, M, env, R, S, q⟩ q' hq => by
  have s1 : Stp X.K p.T A H (A ++ [some q']) (M ++ [.dI []]) (upd H q' (.dK [])) := .newO R hq ⟨[], upd_same, .nil⟩
  refine q _ _ _ s1 (.ref ?_)
  rw [← R.len, List.getElem?_append_right (Nat.le_refl _), Nat.sub_self]
  rfl
def rSetI : V → V → V → Hp → (Hp → Prop) → Prop := fun o i v H Q => ∃ a kvs k, o = .ref a ∧ i = .int k ∧ H a = some (.dK kvs) ∧ kvs.length < sizeLine ∧ Q (upd H a (.dK (putK kvs (Sum.inl k) v)))
theorem set_dictI {k : Nat} (hr : Room k X.A) : PSet X rSetI := by
  intro pins s σ H o i v ov iv u Q I ro ri rv h
  obtain ⟨a, kvs, k', rfl, rfl, hH, hl, q⟩ := h
  obtain rfl : ov = .ref a := ro
  have hun := hr.units
  exact d_setItem (by omega) I (DPut.k (k := Sum.inl k') hH hl) ri rv fun s4 I4 => ⟨_, I4, q⟩
def opSetI (o i d : D) (M : List MO) : Out Unit := match o, i with
  | .ref n, .int k => match M[n]? with
    | some (.dI kvs) => if kvs.length < sizeLine then .ok () (M.set n (.dI (putI kvs k d))) else .no
    | _ => .no
  | _, _ => .no
def gtSubI (f g : EvE) : EvG := fun d env M => (f env M).bind fun o M1 => (g env M1).bind fun i M2 => (opSetI o i d M2).bind fun _ M3 => .ok env M3
theorem sg_subI {k : Nat} (hr : Room k X.A) (ha : SE X p a f) (hb : SE X p b g)
    (hh : ∀ v, assign (.Subscript a b pos) X.env v = (do
      let ov ← holding [v] (eval a X.env)
      let iv ← holding [v, ov] (eval b X.env)
      standAt pos
      holding [v, ov, iv] (setItem ov iv v)
      release [v, ov, iv] []) := by intro _; rfl) : SG X p (.Subscript a b pos) (gtSubI f g) :=
  pg_imp (pg_sub ha hb (set_dictI hr) hh) fun v σ H Q ⟨A, M, env, d, R, S, r, q⟩ => seqE R S (fun _ _ _ _ z => z) q fun o M1 ov H1 A1 s1 r1 q1 =>
    seqE s1.rel (S.stp R s1) (fun _ _ _ _ z => Exc.stp s1 z) q1 fun i M2 iv H2 A2 s2 r2 q2 => by
      have S2 := (S.stp R s1).stp s1.rel s2
      have rd := (r.stp R s1).stp s1.rel s2
      unfold opSetI at q2
      cases o with
      | ref n =>
        cases i with
        | int k' =>
          dsimp only at q2
          cases hm : M2[n]? with
          | none => rw [hm] at q2; exact q2.elim
          | some ob =>
            rw [hm] at q2
            cases ob with
            | dI kvs =>
              dsimp only at q2
              by_cases c : kvs.length < sizeLine
              · rw [if_pos c] at q2
                obtain ⟨a', e1, ha', vs, h2, t⟩ := s2.rel.ref (r1.stp s1.rel s2) hm (fun z => by cases z)
                subst e1
                rw [rep_int r2]
                obtain ⟨vs', e3, t'⟩ := iz_put (k := k') rd t
                refine ⟨a', _, k', rfl, rfl, h2, by rw [(iz_len t).2]; exact c, ?_⟩
                have s3 : Stp X.K p.T A2 H2 A2 (M2.set n (.dI (putI kvs k' d))) (upd H2 a' (.dK (putK (izip kvs vs) (Sum.inl k') v))) := Stp.setO s2.rel ha' fun m => ⟨vs', by rw [upd_same, e3], t'.mv s2.rel m⟩
                exact q2 σ _ A2 ((s1.trans s2).trans s3) (S2.stp s2.rel s3)
              · rw [if_neg c] at q2; exact q2.elim
            | _ => exact q2.elim
        | _ => exact q2.elim
      | _ => exact q2.elim
/-! ### d[i] -/
def opIxI : D → D → List MO → Out D := fun x y M => match x, y with
  | .ref n, .int k => match M[n]? with
    | some (.dI kvs) => match findI kvs k with
      | some d => .ok d M
      | none => .no
    | _ => .no
  | _, _ => .no
theorem opIxI_calm : Calm2 opIxI := by
  intro x y M c d e M' q
  unfold opIxI at q
  split at q
  · split at q
    · split at q <;> cases q
    · cases q
  · cases q
theorem se_ixI {k : Nat} (hr : Room k X.A) (ha : SE X p a f) (hb : SE X p b g) (hs : NoSl b := by intro _ _; rfl) : SE X p (.Subscript a b pos) (eBin opIxI f g) :=
  se_bin (r := fun x y H Q => ∃ a v, x = .ref a ∧ DGet H a y (some v) ∧ Q v H) (fun ta tb h1 h2 => pe_dget (by have := hr.units; omega) h1 h2 hs) (fun T A M H x y v w Q R rx ry h => by
    unfold opIxI at h
    split at h
    · rename_i n k'
      split at h
      · rename_i kvs hm
        split at h
        · rename_i d e
          obtain ⟨a', e1, ha', vs, h2, t⟩ := R.ref rx hm (fun z => by cases z)
          obtain ⟨u, h3, h4⟩ := iz_val t e
          rw [rep_int ry]
          exact ⟨a', u, e1, h3 ▸ DGet.k (k := Sum.inl k') h2, h _ H A (.refl R) h4⟩
        · exact h.elim
      · exact h.elim
    · exact h.elim) opIxI_calm ha hb
end
end SX
end
section
set_option Elab.async false
set_option linter.all false
set_option maxRecDepth 100000
set_option maxHeartbeats 2000000
open Classical
/-! SXE1: own errors: raised, caught by clauses with a name or without, held as data, their value read, asked of which class they are. -/
namespace SX
open PySem PySem.Spec PyProof.Rows L2
/-! ### raise -/
/-- what an own error's __init__(self, value) promises -/
def spInit (K : PySem.W.Frag) : Sp := fun vs H Q _ => ∃ (a C : Addr) (w : V), vs = [.ref a, w] ∧ OexC K C ∧ PySem.W.findIn K (.ref C) "value" = some none ∧ H a = some (exo a C none) ∧
  ∀ dx, H dx = none → dx ≠ a → Q .non (upd (upd H dx (exd dx [(("value" : Str), w)])) a (exo a C (some dx)))
theorem init_reads {K : PySem.W.Frag} {vs : List V} {H : Hp} {Q : VK} {E : XK} (h : spInit K vs H Q E) : tOst K "value" (tVar 0) (tVar 1) { nx := fun _ H' => Q .non H', rt := Q } (L2.start ["self", "value"] vs) H := by
  obtain ⟨a, C, w, rfl, T, hn, ha, q⟩ := h
  exact ⟨w, rfl, .ref a, rfl, a, C, rfl, T, hn, .inl ⟨ha, fun dx n ne => q dx n ne⟩⟩
/-- an own class of errors at C, as a def that raises it needs it -/
structure XCls (P : Program) (w : World) (K : PySem.W.Frag) (mg : Str → Option Value) (base : Heap) (C : Addr) : Prop where
  o : OexC K C
  f : XcF K C
  i : ∃ (fI : Addr) (fd : FuncData), PySem.W.findIn K (.ref C) "__init__" = some (some (.ref fI)) ∧ PySem.W.typeIn K (.ref fI) = some (.type "function") ∧ FnOk P w K mg base CX0 1 fI fd ["self", "value"] (spInit K) ∧ Binds K fd ["self", "value"] [] ∧
    ∀ (s : Shared) (self u : Value), BindsTo s fd ⟨[self], [(("value" : Str), u)]⟩ [(("self" : Str), self), (("value" : Str), u)]
theorem del_upd {H : Hp} {a dx : Addr} {u x y z : HO} (hn : H a = none) (hne : dx ≠ a) : upd (del (upd (upd (upd H a u) dx x) a y) a) dx z = upd H dx z := by
  funext b
  by_cases e : b = dx
  · rw [e, upd_same, upd_same]
  · rw [upd_ne e, upd_ne e]
    by_cases e2 : b = a
    · rw [e2, del_same, hn]
    · rw [del_ne e2, upd_ne e2, upd_ne e, upd_ne e2]
section
variable {X : Cx} {p : Pm} {e : Expr} {f : EvE} {x : Str} {C : Addr} {p1 p2 p3 : Pos} {k : Nat}
/-- C(e), handed on to what makes use of the class and its dict -/
theorem mk_reads {σ : L2.St} {H : Hp} {Q : XK} (T : XCls X.prog X.w X.K X.mg X.base C) 
    (h : tE X.K p f σ H fun v H1 => H1 = H1 ∧ ∀ dx, H1 dx = none → Q (.ref C) (some dx) (upd H1 dx (.xd [(("value" : Str), v)]))) :
    tMkO C (spInit X.K) [] (tCons (tE X.K p f) tNil) σ H Q := by
  obtain ⟨A, M, env, R, S, q⟩ := h
  refine ⟨A, M, env, R, S, q.imp (fun d M1 _ q1 v H1 A1 s1 r1 => ?_) fun _ _ _ _ _ z => z⟩
  have q2 := (q1 v H1 A1 s1 r1).2
  refine ⟨(by decide : (1 : Nat) ≤ 1000), fun a ha => ⟨a, C, v, rfl, T.o, T.f.nv, upd_same, fun dx hd hne => ⟨rfl, dx, [(("value" : Str), v)], upd_same, ?_, ?_, ?_⟩⟩⟩
  · rw [upd_ne hne, upd_same]
  · rw [upd_ne hne] at hd
    exact hd
  · have hd' : H1 dx = none := by rw [upd_ne hne] at hd; exact hd
    rw [del_upd ha hne]
    exact q2 dx hd'
def sRaise (c : Nat) (f : EvE) : EvS := fun env M => (f env M).bind fun d M1 => .ex c d env M1
theorem ss_raise {c : Nat} (hc : X.calm = true) (T : XCls X.prog X.w X.K X.mg X.base (p.cl c)) (hr : Room 2 X.A) (tk : Takes X p.W) (hg : Gl X x) (hm : X.mg x = some (.ref (p.cl c))) (ha : SE X p e f)
    (hdb : (x == ("__debug__" : Str)) = false := by decide) (he : starEach [e] X.env = (false, eval e X.env) :: starEach [] X.env := by rfl) (hpl : (backTo p2 (starEach [] X.env)).any (·.1) = false := by rfl) :
    SS X p (.Raise (some (.Call (.Name x p1) [e] [] p2)) none p3) (sRaise c f) := by
  obtain ⟨fI, fd, iC, tI, F1, hb, _⟩ := T.i
  refine ps_imp (ps_raise hc tk (pmk_oex T.o iC tI F1 hr hb .nil pass0 hg hm (pa_cons ha pa_nil he) hdb he hpl)) fun D σ H ⟨A, M, env, R, S, q⟩ => ?_
  refine mk_reads T (seqE R S (fun _ _ _ _ z => z) q fun d M1 v H1 A1 s1 r1 q1 => ⟨rfl, fun dx hd => ?_⟩)
  exact q1 v σ _ A1 dx (s1.trans (.lay s1.rel hd)) ((S.stp R s1).stp s1.rel (.lay s1.rel hd)) (r1.stp s1.rel (.lay s1.rel hd)) upd_same
end
/-! ### try -/
section
variable {X : Cx} {pins : List (Addr × Obj)} {σ : L2.St} {H : Hp} {s : Shared}
/-- an object that the run's own record does not know yet is told from now on -/
theorem _root_.L2.Inv.trk {a : Addr} {o : HO} (I : Inv X pins σ H s) (hn : H a = none) (h0 : X.s_0.heap.get? a = none) (hL : a ≠ X.env.locals) (hC : ∀ x c, X.env.cells.lookup x = some c → c ≠ a) (hP : ∀ q ∈ X.pn ++ pins, q.1 ≠ a)
    (new : ObjOk X.prog X.w (upd H a o) s.heap a o) : Inv X pins σ (upd H a o) s := by
  refine ⟨I.ok, I.os, I.bare, ⟨I.base.keep, I.base.slot, fun b u q n hx => ?_, I.base.there, fun b xs q => ?_, fun b u z q => ?_, fun b ps q => ?_⟩, I.loc, I.cell, ?_, fun x c e => ?_, fun q hq => ?_, I.hok.laidN (fun _ _ q => q) hn new, I.len⟩
  · rw [upd_ne (fun z => by rw [z, h0] at q; cases q)]
    exact I.base.free b u q n hx
  · have q2 := I.base.tups b xs q
    rw [upd_ne (ne_of_none q2 hn)]; exact q2
  · have q2 := I.base.frzs b u z q
    rw [upd_ne (ne_of_none q2 hn)]; exact q2
  · obtain ⟨m, q2⟩ := I.base.tbls b ps q
    exact ⟨m, by rw [upd_ne (ne_of_none q2 hn)]; exact q2⟩
  · rw [upd_ne (Ne.symm hL)]; exact I.free
  · rw [upd_ne (hC x c e)]; exact I.freeC x c e
  · obtain ⟨e1, e2, e3⟩ := I.pin q hq
    exact ⟨e1, by rw [upd_ne (hP q hq)]; exact e2, e3⟩
theorem exR_ok {P : Program} {w : World} {H : Hp} {h : Heap} {a C dx : Addr} {oe : Obj} {vs : Array Value} (e : h.get? a = some oe) (z : Zc (.ref C) (some dx) oe) (hd : oe.data = .fields vs) : ObjOk P w H h a (exR a C dx) :=
  ⟨⟨oe, vs, e, z.1, z.2, hd⟩, ⟨oe, e⟩, fun h1 h2 ⟨o, v, q, r⟩ k => ⟨o, v, k o q, r⟩⟩
theorem exR_at {P : Program} {w : World} {H : Hp} {h : Heap} {a C dx : Addr} (hok : HOk P w H h) (he : H a = some (exR a C dx)) : ∃ (oe : Obj) (vs : Array Value), h.get? a = some oe ∧ oe.cls = .ref C ∧ oe.dict = some dx ∧ oe.data = .fields vs := by
  have z : ObjOk P w H h a (.ext fun h => ∃ (oe : Obj) (vs : Array Value), h.get? a = some oe ∧ oe.cls = .ref C ∧ oe.dict = some dx ∧ oe.data = .fields vs) := hok a _ he
  exact z.1
theorem _root_.L2.Inv.inSuite {a : Addr} (I : Inv X pins σ H s) : Inv (X.suite a (X.pn ++ pins)) [] σ H s :=
  ⟨I.ok.suite _ _, I.os, I.bare, I.base, I.loc, I.cell, I.free, I.freeC, fun q hq => I.pin q (by rw [List.append_nil] at hq; exact hq), I.hok, I.len⟩
theorem _root_.L2.Inv.outSuite {a : Addr} {pn' : List (Addr × Obj)} (I : Inv (X.suite a (X.pn ++ pins)) pn' σ H s) (ok : X.Ok) : Inv X pins σ H s :=
  ⟨ok, I.os, I.bare, I.base, I.loc, I.cell, I.free, I.freeC, fun q hq => I.pin q (List.mem_append_left _ hq), I.hok, I.len⟩
end
def inV (i : Option Nat) (v : V) (σ : L2.St) : L2.St := match i with
  | some i => σ.set i (some v)
  | none => σ
def outV (i : Option Nat) (σ : L2.St) : L2.St := match i with
  | some i => σ.set i none
  | none => σ
def outEn (i : Option Nat) (D : L2.Ends) : L2.Ends := { nx := fun σ H => D.nx (outV i σ) H, rt := D.rt, bk := fun σ H => D.bk (outV i σ) H, ct := fun σ H => D.ct (outV i σ) H }
/-- what the clauses wish of an error of the body: the first that names its class has it -/
def wX (K : PySem.W.Frag) (Wout : WX) (D : L2.Ends) : List (Value × Option Nat × TS) → WX
  | [] => Wout
  | (c, i, t) :: r => fun cls d σ H => ∃ b, PySem.W.exmOne K cls c = some b ∧
      (b = true → ∃ C dx, cls = .ref C ∧ d = some dx ∧ ∀ a, H a = none → t (outEn i D) (inV i (.ref a) σ) (upd H a (exR a C dx))) ∧ (b = false → wX K Wout D r cls d σ H)
inductive HX (X : Cx) : List ExceptHandler → List (Value × Option Nat × TS) → Prop
  | nil : HX X [] []
  | as {x y : Str} {c : Value} {i : Nat} {t : TS} {b : Stmt} {bs : List Stmt} {q1 q2 : Pos} {hs : List ExceptHandler} {l : List (Value × Option Nat × TS)} (hc : Names X x c) (hi : X.N[i]? = some y) (hy : X.env.kindOf y = some .local)
      (ht : ∀ (a : Addr) (pn : List (Addr × Obj)), PSs (X.suite a pn) (b :: bs) t) (r : HX X hs l) : HX X (.ExceptHandler (some (.Name x q1)) (some y) (b :: bs) q2 :: hs) ((c, some i, t) :: l)
  | no {x : Str} {c : Value} {t : TS} {b : Stmt} {bs : List Stmt} {q1 q2 : Pos} {hs : List ExceptHandler} {l : List (Value × Option Nat × TS)} (hc : Names X x c)
      (ht : ∀ (a : Addr) (pn : List (Addr × Obj)), PSs (X.suite a pn) (b :: bs) t) (r : HX X hs l) : HX X (.ExceptHandler (some (.Name x q1)) none (b :: bs) q2 :: hs) ((c, none, t) :: l)
section
variable {X : Cx} {body : List Stmt} {h0 : ExceptHandler} {hs : List ExceptHandler} {l : List (Value × Option Nat × TS)} {pos : Pos} {tb : WX → TS} {Wout : WX}
theorem ps_tryX (e1 : X.stack = X.env :: X.outer) (e2 : X.env.frame = some X.env.locals) (e3 : X.ex = []) (hN : X.N.Nodup) (tk : Takes X Wout)
    (hb : ∀ (W : WX) (pn : List (Addr × Obj)) (xe : Value → Shared → Prop), Takes (X.tr pn xe) W → PSs (X.tr pn xe) body (tb W))
    (hh : HX X (h0 :: hs) l) : PS X (.Try body (h0 :: hs) [] [] pos) (fun D σ H => tb (wX X.K Wout D l) D σ H) := by
  constructor
  intro pins s σ H D I h
  have kk := I.ok
  have fr : X.A.frames = some (X.env :: X.outer) := by rw [kk.frames, e1]
  refine wpAny_Try_except (wpAny_mono ((hb (wX X.K Wout D l) (X.pn ++ pins) _ (fun u s' g => ?_)).run [] s σ H D (I.toTry _) h) (fun fl s1 z => ?_) (fun e s1 z => z))
  · obtain ⟨a, B, sI, pins', σ', H', cls, d, rfl, J0, nb, up, sky, na, os, ag, wsh⟩ := g
    have J : Inv X pins σ' H' sI := J0.ofTry kk
    show wpAny (model X.prog X.w) X.A (noteFrame (.ref a) X.env) _ _ _
    refine Sky.land Zc.steady fr e2 (show Sky B (X.env :: X.outer) a (Zc cls d) X.env.locals s'.heap by rw [← e1]; exact sky) fun h3 fl3 up3 => ?_
    obtain ⟨oe, vs, ge, ze, de⟩ := fl3.there
    have aF : a ∉ frs (X.env :: X.outer) := fun hm => by
      obtain ⟨_, o, q1, q2⟩ := fl3.2.2.1.mem hm
      rw [ge] at q1
      cases q1
      exact q2 _ de
    have aI : sI.heap.get? a = none := by
      cases q : sI.heap.get? a with
      | none => rfl
      | some o =>
        have z := nb a o q (by rw [e1]; exact aF)
        rw [fl3.2.1] at z
        cases z
    have a0 : X.s_0.heap.get? a = none := by
      cases q : X.s_0.heap.get? a with
      | none => rfl
      | some o =>
        obtain ⟨o2, z⟩ := J.base.there a o q (by rw [e3]; exact fun z => nomatch z)
        rw [aI] at z
        cases z
    have aL : a ≠ X.env.locals := by
      obtain ⟨m, ⟨o, es, ep, ho, _⟩, _⟩ := J.loc
      intro z
      rw [← z, aI] at ho
      cases ho
    have aC : ∀ x c, X.env.cells.lookup x = some c → c ≠ a := fun x c e z => by
      obtain ⟨v, o, ho, _⟩ := J.cell x c e
      rw [z, aI] at ho
      cases ho
    have aP : ∀ q ∈ X.pn ++ pins, q.1 ≠ a := fun q hq z => by
      have ho := (J.pin q hq).1
      rw [z, aI] at ho
      cases ho
    have land : ∀ {h5 : Heap}, HandSPX.FlyingZ B (X.env :: X.outer) a (Zc cls d) h5 → s'.heap.UpToSlots h5 → Inv X pins σ' H' { s' with heap := h5 } := fun f5 u5 => J.landed nb f5.1 (up.trans u5) os ag
    have trk : ∀ {h5 : Heap} {C dx : Addr}, HandSPX.FlyingZ B (X.env :: X.outer) a (Zc (.ref C) (some dx)) h5 → Inv X pins σ' H' { s' with heap := h5 } → Inv X pins σ' (upd H' a (exR a C dx)) { s' with heap := h5 } := fun {h5 C dx} f5 I5 => by
      obtain ⟨oe5, vs5, ge5, ze5, de5⟩ := f5.there
      exact I5.trk na a0 aL aC aP (exR_ok ge5 ze5 de5)
    have go : ∀ {hs' : List ExceptHandler} {l' : List (Value × Option Nat × TS)}, HX X hs' l' → wX X.K Wout D l' cls d σ' H' → wpAny (model X.prog X.w) X.A (handleBy (.ref a) X.env hs') (SP X pins D) X.xe { s' with heap := h3 } := by
      intro hs' l' hk
      have LT : PySem.W.Looks (model X.prog X.w) h3 (typeOf (.ref a)) cls := fun A Q E s5 k q => wpAny_typeOf_ref (k _ _ ge) (by rw [ze.1]; exact q)
      have test : ∀ {x : Str} {c : Value} {np : Pos} {Q E : Value → Shared → Prop}, Names X x c → Q c { s' with heap := h3 } → wpAny (model X.prog X.w) (X.A.mark (some (.ref a))) (eval (.Name x np) X.env) Q E { s' with heap := h3 } := fun {x c np Q E} hn q => by
        have I6 := (land fl3 up3).inSuite (a := a)
        obtain ⟨g1, g2, g3 | ⟨g3, g4, g5⟩⟩ := hn
        · exact ld_glob (X := X.suite a (X.pn ++ pins)) I6 g1 g3 q g2
        · exact ld_blt (X := X.suite a (X.pn ++ pins)) I6 g1 g3 g4 q g5 g2
      induction hk with
      | nil =>
        intro w
        refine wpAny_handleBy_nil ?_
        obtain ⟨_, _, _, o5, v5, T5, oT5, t5, f1, f2, f3, f4, f5⟩ := id fl3
        unfold PySem.passOn
        refine wpAny_bind (wpAny_field f1 f3 f4 ?_)
        rw [if_neg (show ¬ ((Value.ref T5 == Value.none) = true) by simp)]
        have fin : wpAny (model X.prog X.w) X.A (setFlight (.ref a) X.env.frame) (fun _ s4 => wpAny (model X.prog X.w) X.A (throw (.ref a) : Sem Flow) (SP X pins D) X.xe s4) X.xe { s' with heap := h3 } := by
          rw [e2]
          refine HandSPX.setFlight_upZ fl3 fun h6 f6 u6 => wpAny_throw (tk _ _ ⟨a, B, sI, pins, σ', H', cls, d, rfl, J, nb, (up.trans up3).trans u6, .inr (.inr ?_), na, os, ag, w⟩)
          rw [e1]; exact f6
        first
          | exact wpAny_bind (wpAny_pure (wpAny_bind fin))
          | exact wpAny_bind fin
      | @as x y c i t b bs q1 q2 hs2 l2 hc hi hy ht r ih =>
        intro w
        obtain ⟨bb, w1, w2, w3⟩ := w
        refine wpAny_handleBy_cons (codeAny_handlers_test (test hc ((PySem.W.exm_one (M := model X.prog X.w) (land fl3 up3).kIn LT w1).here ?_))) (by intro q; cases q)
        cases bb with
        | false => exact ih (w3 rfl)
        | true =>
          obtain ⟨C, dx, rfl, rfl, w4⟩ := w2 rfl
          refine codeAny_handlers_suite_as (HandSPX.lands_againZ fl3 fun h4 f4 u4 => ?_)
          have I4 := trk f4 (land f4 (up3.trans u4))
          refine store_ok (X := X.suite a (X.pn ++ pins)) (v := .ref a) I4.inSuite hN hi (.inl hy) rfl (fun s5 I5 => ?_) (.inr hy)
          refine wpAny_mono ((ht a (X.pn ++ pins)).run [] s5 _ _ _ I5 (w4 a na)) (fun fl s6 z => ?_) (fun _ _ z => z.elim)
          have away : ∀ {σ6 : L2.St} {H6 : Hp} {Q : Shared → Prop}, Inv (X.suite a (X.pn ++ pins)) [] σ6 H6 s6 → (∀ s7, Inv X pins (σ6.set i none) H6 s7 → Q s7) → wpAny (model X.prog X.w) X.A (do bindName X.env y .none; unbindBehindTheSuite X.env y q2) (fun _ s7 => Q s7) X.xe s6 := fun I6 hq => gone_ok (I6.outSuite kk) hN hi hy hq
          cases fl with
          | ret u => obtain ⟨v6, σ6, H6, I6, r6, z⟩ := z; exact away I6 fun s7 I7 => ⟨v6, _, H6, I7, r6, z⟩
          | next => obtain ⟨σ6, H6, I6, z⟩ := z; exact away I6 fun s7 I7 => ⟨_, H6, I7, z⟩
          | brk => obtain ⟨σ6, H6, I6, z⟩ := z; exact away I6 fun s7 I7 => ⟨_, H6, I7, z⟩
          | cont => obtain ⟨σ6, H6, I6, z⟩ := z; exact away I6 fun s7 I7 => ⟨_, H6, I7, z⟩
      | @no x c t b bs q1 q2 hs2 l2 hc ht r ih =>
        intro w
        obtain ⟨bb, w1, w2, w3⟩ := w
        refine wpAny_handleBy_cons (codeAny_handlers_test (test hc ((PySem.W.exm_one (M := model X.prog X.w) (land fl3 up3).kIn LT w1).here ?_))) (by intro q; cases q)
        cases bb with
        | false => exact ih (w3 rfl)
        | true =>
          obtain ⟨C, dx, rfl, rfl, w4⟩ := w2 rfl
          refine codeAny_handlers_suite (HandSPX.lands_againZ fl3 fun h4 f4 u4 => ?_)
          have I4 := trk f4 (land f4 (up3.trans u4))
          refine wpAny_mono ((ht a (X.pn ++ pins)).run [] _ _ _ _ I4.inSuite (w4 a na)) (fun fl s6 z => ?_) (fun _ _ z => z.elim)
          cases fl with
          | ret u => obtain ⟨v6, σ6, H6, I6, r6, z⟩ := z; exact ⟨v6, σ6, H6, I6.outSuite kk, r6, z⟩
          | next => obtain ⟨σ6, H6, I6, z⟩ := z; exact ⟨σ6, H6, I6.outSuite kk, z⟩
          | brk => obtain ⟨σ6, H6, I6, z⟩ := z; exact ⟨σ6, H6, I6.outSuite kk, z⟩
          | cont => obtain ⟨σ6, H6, I6, z⟩ := z; exact ⟨σ6, H6, I6.outSuite kk, z⟩
    exact go hh wsh
  · cases fl with
    | ret u => obtain ⟨v, σ', H', J, r, z⟩ := z; exact ⟨v, σ', H', J.ofTry kk, r, z⟩
    | next => obtain ⟨σ', H', J, z⟩ := z; exact wpAny_execs_nil ⟨σ', H', J.ofTry kk, z⟩
    | brk => obtain ⟨σ', H', J, z⟩ := z; exact ⟨σ', H', J.ofTry kk, z⟩
    | cont => obtain ⟨σ', H', J, z⟩ := z; exact ⟨σ', H', J.ofTry kk, z⟩
end
/-! ### .. over data -/
def inE (i : Option Nat) (d : D) (env : Env) : Env := match i with
  | some i => env.set i (some d)
  | none => env
def outE (i : Option Nat) (env : Env) : Env := match i with
  | some i => env.set i none
  | none => env
def outF (i : Option Nat) : Fl → Fl
  | .nx e => .nx (outE i e)
  | .rt d => .rt d
  | .bk e => .bk (outE i e)
  | .ct e => .ct (outE i e)
theorem RepS.unset {K : PySem.W.Frag} {A : Ads} {H : Hp} {env : Env} {σ : L2.St} {i : Nat} (h : RepS K A H env σ) : RepS K A H (env.set i none) (σ.set i none) := ⟨by rw [List.length_set, List.length_set]; exact h.1, fun j d e => by
  by_cases hj : i = j
  · subst hj
    have hi : i < env.length := by have := (List.getElem?_eq_some_iff.mp e).1; rwa [List.length_set] at this
    rw [List.getElem?_set_self hi] at e
    cases e
  · rw [List.getElem?_set_ne hj] at e ⊢
    exact h.2 j d e⟩
theorem RepS.outE {K : PySem.W.Frag} {A : Ads} {H : Hp} {env : Env} {σ : L2.St} (i : Option Nat) (h : RepS K A H env σ) : RepS K A H (outE i env) (outV i σ) := by
  cases i with
  | none => exact h
  | some i => exact h.unset
theorem RepS.inE {K : PySem.W.Frag} {A : Ads} {H : Hp} {env : Env} {σ : L2.St} {d : D} {v : V} (i : Option Nat) (h : RepS K A H env σ) (r : Rep K A H d v) : RepS K A H (inE i d env) (inV i v σ) := by
  cases i with
  | none => exact h
  | some i => exact h.set r
/-- the clauses: the class's number (0 for the one that all are of), the name's slot, the suite -/
abbrev Hans := List (Nat × Option Nat × EvS)
/-- whether an error of the class c is of the class k: all are of the class 0 -/
def isX (c k : Nat) : Bool := c == k || k == 0
def sHan (cl : Nat → Addr) : Hans → Nat → D → EvS
  | [], c, d => fun env M => .ex c d env M
  | (k, i, t) :: r, c, d => fun env M => if isX c k = true then (match t (inE i (.exc (cl c) c d) env) M with
    | .ok fl M' => .ok (outF i fl) M'
    | _ => .no) else sHan cl r c d env M
/-- try, with classes by number below n -/
def sTry (n : Nat) (cl : Nat → Addr) (t : EvS) (l : Hans) : EvS := fun env M => match t env M with
  | .ex c d e M1 => if c < n then sHan cl l c d e M1 else .no
  | .ok fl M1 => .ok fl M1
  | .no => .no
/-- what K says of the classes by number -/
structure Xs (K : PySem.W.Frag) (n : Nat) (cl : Nat → Addr) : Prop where
  is : ∀ c k, c < n → k < n → PySem.W.exmOne K (.ref (cl c)) (.ref (cl k)) = some (isX c k)
  ki : ∀ c k, c < n → k < n → PySem.W.kitOne K (.ref (cl c)) (.ref (cl k)) = some (isX c k)
  kv : ∀ c, c < n → PySem.W.kitOne K (.ref (cl c)) (.type "ValueError") = some true
  f : ∀ c, c < n → XcF K (cl c)
inductive HXs (X : Cx) (p : Pm) (n : Nat) : List ExceptHandler → Hans → Prop
  | nil : HXs X p n [] []
  | as {x y : Str} {k i : Nat} {t : EvS} {b : Stmt} {bs : List Stmt} {q1 q2 : Pos} {hs : List ExceptHandler} {l : Hans} (hk : k < n) (hg : Gl X x) (hm : X.mg x = some (.ref (p.cl k))) (hdb : (x == ("__debug__" : Str)) = false) (hi : X.N[i]? = some y) (hy : X.env.kindOf y = some .local)
      (ht : ∀ (a : Addr) (pn : List (Addr × Obj)), SSs (X.suite a pn) p.calm (b :: bs) t) (r : HXs X p n hs l) : HXs X p n (.ExceptHandler (some (.Name x q1)) (some y) (b :: bs) q2 :: hs) ((k, some i, t) :: l)
  | no {x : Str} {k : Nat} {t : EvS} {b : Stmt} {bs : List Stmt} {q1 q2 : Pos} {hs : List ExceptHandler} {l : Hans} (hk : k < n) (hg : Gl X x) (hm : X.mg x = some (.ref (p.cl k))) (hdb : (x == ("__debug__" : Str)) = false)
      (ht : ∀ (a : Addr) (pn : List (Addr × Obj)), SSs (X.suite a pn) p.calm (b :: bs) t) (r : HXs X p n hs l) : HXs X p n (.ExceptHandler (some (.Name x q1)) none (b :: bs) q2 :: hs) ((k, none, t) :: l)
theorem HXs.raw {X : Cx} {p : Pm} {n : Nat} : ∀ {hs : List ExceptHandler} {l : Hans}, HXs X p n hs l → HX X hs (l.map fun q => (.ref (p.cl q.1), q.2.1, tS X.K p.calm q.2.2))
  | _, _, .nil => .nil
  | _, _, .as hk hg hm hdb hi hy ht r => .as ⟨hg, hdb, .inl hm⟩ hi hy ht r.raw
  | _, _, .no hk hg hm hdb ht r => .no ⟨hg, hdb, .inl hm⟩ ht r.raw
theorem HXs.lt {X : Cx} {p : Pm} {n : Nat} : ∀ {hs : List ExceptHandler} {l : Hans}, HXs X p n hs l → ∀ q ∈ l, q.1 < n
  | _, _, .nil => fun q h => nomatch h
  | _, _, .as hk _ _ _ _ _ _ r => List.forall_mem_cons.2 ⟨hk, r.lt⟩
  | _, _, .no hk _ _ _ _ r => List.forall_mem_cons.2 ⟨hk, r.lt⟩
theorem FlR.out {K : PySem.W.Frag} {p p' : Pm} (hT : p'.T = p.T) {A : Ads} {H : Hp} {D : L2.Ends} {fl : Fl} {M' : List MO} (i : Option Nat) (h : FlR K p A H D (outF i fl) M') : FlR K p' A H (outEn i D) fl M' := by
  obtain ⟨T, cl, W⟩ := p
  obtain ⟨T', cl', W'⟩ := p'
  cases hT
  cases fl with
  | rt d => exact h
  | nx e => exact fun σ H2 A2 s S => h _ H2 A2 s (S.outE i)
  | bk e => exact fun σ H2 A2 s S => h _ H2 A2 s (S.outE i)
  | ct e => exact fun σ H2 A2 s S => h _ H2 A2 s (S.outE i)
section
variable {X : Cx} {p : Pm} {n : Nat} {body : List Stmt} {h0 : ExceptHandler} {hs : List ExceptHandler} {l : Hans} {pos : Pos} {t : EvS}
theorem han_ok {K : PySem.W.Frag} {En : L2.Ends} {A A' : Ads} {M M' : List MO} {H H' : Hp} {c : Nat} {d : D} {env : Env} {v : V} {σ' : L2.St} {dx : Addr} (Xc : Xs K n p.cl) (hc : c < n) (R : Rel K p.T A M H) (s : Stp K p.T A H A' M' H') (S : RepS K A' H' env σ') (r : Rep K A' H' d v) (hd : H' dx = some (.xd [(("value" : Str), v)])) :
    ∀ l : Hans, (∀ q ∈ l, q.1 < n) → OutR (sHan p.cl l c d env M') (FlR K p A H En) (Exc K p A H) → wX K p.W En (l.map fun q => (.ref (p.cl q.1), q.2.1, tS K p.calm q.2.2)) (.ref (p.cl c)) (some dx) σ' H'
  | [], _, q => q v σ' H' A' dx s S r hd
  | (k, i, t) :: l, hl, q => by
    obtain ⟨hk, hl⟩ := List.forall_mem_cons.1 hl
    refine ⟨isX c k, Xc.is c k hc hk, fun hb => ⟨_, _, rfl, rfl, fun a ha => ?_⟩, fun hb => ?_⟩
    · unfold sHan at q
      rw [if_pos hb] at q
      have sl : Stp K p.T A' H' A' M' (upd H' a (exR a (p.cl c) dx)) := .lay s.rel ha
      refine ⟨A', M', _, sl.rel, (S.stp s.rel sl).inE i (.exc (c := c) upd_same (nA_of s.rel ha) (by rw [upd_ne (ne_of_none hd ha)]; exact hd) (Xc.f c hc) (r.stp s.rel sl)), ?_⟩
      show OutR (t (inE i (.exc (p.cl c) c d) env) M') (FlR K p.calm A' (upd H' a (exR a (p.cl c) dx)) (outEn i En)) (Exc K p.calm A' (upd H' a (exR a (p.cl c) dx)))
      cases ht : t (inE i (.exc (p.cl c) c d) env) M' with
      | ok fl M2 =>
        rw [ht] at q
        have q2 : FlR K p A H En (outF i fl) M2 := q
        exact FlR.out (p := p) rfl i (FlR.stp (s.trans sl) q2)
      | ex => rw [ht] at q; exact q.elim
      | no => rw [ht] at q; exact q.elim
    · unfold sHan at q
      rw [if_neg (by rw [hb]; exact Bool.false_ne_true)] at q
      exact han_ok Xc hc R s S r hd l hl q
theorem ss_try (e1 : X.stack = X.env :: X.outer) (e2 : X.env.frame = some X.env.locals) (e3 : X.ex = []) (hN : X.N.Nodup) (Xc : Xs X.K n p.cl) (tk : Takes X p.W)
    (hb : ∀ (W : WX) (pn : List (Addr × Obj)) (xe : Value → Shared → Prop), Takes (X.tr pn xe) W → SSs (X.tr pn xe) ⟨p.T, p.cl, W⟩ body t) (hh : HXs X p n (h0 :: hs) l) :
    SS X p (.Try body (h0 :: hs) [] [] pos) (sTry n p.cl t l) := by
  refine ps_imp (ps_tryX (tb := fun W => tS X.K ⟨p.T, p.cl, W⟩ t) e1 e2 e3 hN tk hb hh.raw) fun D σ H ⟨A, M, env, R, S, q⟩ => ⟨A, M, env, R, S, ?_⟩
  unfold sTry at q
  cases ht : t env M with
  | no => rw [ht] at q; exact q.elim
  | ok fl M1 =>
    rw [ht] at q
    have q' : FlR X.K p A H D fl M1 := q
    cases fl <;> exact q'
  | ex c d e M1 =>
    rw [ht] at q
    dsimp only at q
    by_cases hc : c < n
    · rw [if_pos hc] at q
      exact fun v σ' H' A' dx s' S' r' hd => han_ok Xc hc R s' S' r' hd l hh.lt q
    · rw [if_neg hc] at q; exact q.elim
end
/-! ### e.value, isinstance(e, C) -/
def opVal : D → List MO → Out D
  | .exc _ _ d, M => .ok d M
  | _, _ => .no
theorem opVal_calm : ∀ x M c d e M', opVal x M ≠ .ex c d e M' := by intro x M c d e M' q; unfold opVal at q; split at q <;> cases q
section
variable {X : Cx} {p : Pm} {a b : Expr} {f g : EvE} {pos pn : Pos}
theorem se_value (ha : SE X p a f) (hb : attributeBase a "value" X.env (eval a X.env) = eval a X.env := by rfl) : SE X p (.Attribute a "value" pos) (eUn opVal f) := by
  refine ⟨fun pins s σ H Q I h => ?_⟩
  obtain ⟨A, M, env, R, S, q⟩ := h
  have h1 : tE X.K p f σ H fun x H1 => ∃ (a C dx : Addr) (v : V), x = .ref a ∧ H1 a = some (exR a C dx) ∧ H1 dx = some (.xd [(("value" : Str), v)]) ∧ XcF X.K C ∧ Q v H1 :=
    seqE R S (fun _ _ _ _ z => z) q fun d M1 v H1 A1 s1 r1 q1 => by
      cases d with
      | exc C c d' =>
        cases r1 with
        | exc h1 hn h2 hf r => exact ⟨_, _, _, _, rfl, h1, h2, hf, q1 _ H1 A1 s1 r⟩
      | _ => exact q1.elim
  refine attr_of hb (thn (ha.run pins s σ H _ I h1) fun u s1 ⟨x, H1, I1, rx, a', C, dx, v, ex, k1, k2, T, q1⟩ => ?_)
  subst ex
  obtain rfl : u = Value.ref a' := rx
  obtain ⟨oe, vs, g1, g2, g3, g4⟩ := exR_at I1.hok k1
  have hx : ObjOk X.prog X.w H1 s1.heap dx (.xd [(("value" : Str), v)]) := I1.hok dx _ k2
  obtain ⟨mA, hns, hr⟩ := hx
  obtain ⟨od, ho, hl⟩ := lookIn_ns hns
  obtain ⟨u, hu, ru⟩ := RelO.some_of (v := v) (o := mA "value") (by have z := hr "value"; simpa [List.lookup] using z)
  have J : PySem.W.InstAt s1.heap a' oe C (some od) := ⟨g1, g2, by unfold PySem.W.notCls; rw [g4] <;> rfl, by rw [g3]; exact ho⟩
  exact HandSPX.exc_get I1.kIn J T.ga T.gg T.ex (PySem.W.findObj_own T.hd T.nv rfl (by rw [hl, hu])) (handed_of ru) ⟨v, H1, I1.tok _, ru, q1⟩
end
end SX
end
section
set_option Elab.async false
set_option linter.all false
set_option maxRecDepth 100000
set_option maxHeartbeats 2000000
open Classical
/-! SXE2: the own classes of errors of a text, by number. -/
namespace SX
open PySem PySem.Spec PyProof.Rows L2
/-- what the written part says of one class, at C; bm: its chain behind itself -/
structure XFact (K : PySem.W.Frag) (fI C : Addr) (bm : List Value) : Prop where
  lk : ∃ nm q N bs sn sub ab col dd k0 k1 k2 k3 k5, K.lookup C = some (excClassObj nm q C N bs bm true sn sub ab col dd k0 k1 k2 k3 k5 "ValueError.__new__")
  sa : PySem.W.findIn K (.ref C) "__setattr__" = some (some (.builtin "object.__setattr__"))
  ga : PySem.W.findIn K (.ref C) "__getattribute__" = some (some (.builtin "BaseException.__getattribute__"))
  gg : PySem.W.findIn K (.ref C) "__getattr__" = some none
  nv : PySem.W.findIn K (.ref C) "value" = some none
  cl : PySem.W.findIn K (.ref C) "__class__" = some (some (.builtin "object.__class__"))
  iC : PySem.W.findIn K (.ref C) "__init__" = some (some (.ref fI))
  kC : PySem.W.keepIn K (.ref C) = true
section
variable {K : PySem.W.Frag} {fI C : Addr} {bm : List Value}
theorem XFact.cls (F : XFact K fI C bm) : ∃ cd : ClassData, PySem.W.clsIn K C = some cd ∧ cd.mro = .ref C :: bm ∧ cd.hasDict = true := by
  obtain ⟨nm, q, N, bs, sn, sub, ab, col, dd, k0, k1, k2, k3, k5, h⟩ := F.lk
  refine ⟨_, by unfold PySem.W.clsIn; rw [h] <;> rfl, rfl, rfl⟩
theorem XFact.sub (F : XFact K fI C bm) (v : Value) : PySem.W.subIn K (.ref C) v = some ((.ref C :: bm : List Value).contains v) := by
  obtain ⟨cd, h1, h2, _⟩ := F.cls
  show PySem.W.mroIn K C v = _
  unfold PySem.W.mroIn
  rw [h1, Option.bind_some, h2]
  rfl
theorem XFact.ty (F : XFact K fI C bm) : PySem.W.typeIn K (.ref C) = some (.type "type") := by
  obtain ⟨nm, q, N, bs, sn, sub, ab, col, dd, k0, k1, k2, k3, k5, h⟩ := F.lk
  show (K.lookup C).map (·.cls) = _
  rw [h]
  rfl
theorem XFact.dict (F : XFact K fI C bm) : PySem.W.hasDictIn K C = true := by
  obtain ⟨cd, h1, _, h3⟩ := F.cls
  unfold PySem.W.hasDictIn
  rw [h1]
  exact h3
theorem tail_base {C : Addr} : (HandSPX.veTail).contains (Value.ref C) = false := by
  simp [HandSPX.veTail]
theorem XFact.base (F : XFact K fI C bm) (hb : HandSPX.refsVE bm = true) : PySem.W.subIn K (.ref C) (.type "BaseException") = some true := by
  rw [F.sub]
  have h := HandSPX.refsVE_contains "BaseException" bm hb
  have e : (HandSPX.veTail).contains (.type "BaseException") = true := by decide +kernel
  rw [e] at h
  rw [List.contains_cons, h, Bool.or_true]
theorem XFact.obj (F : XFact K fI C bm) (hb : HandSPX.refsVE bm = true) : PySem.W.mroIn K C (.type "object") = some true := by
  have z := F.sub (.type "object")
  have h := HandSPX.refsVE_contains "object" bm hb
  have e : (HandSPX.veTail).contains (.type "object") = true := by decide +kernel
  rw [e] at h
  rw [List.contains_cons, h, Bool.or_true] at z
  exact z
theorem XFact.oex (F : XFact K fI C bm) (hb : HandSPX.refsVE bm = true) : OexC K C := by
  obtain ⟨nm, q, N, bs, sn, sub, ab, col, dd, k0, k1, k2, k3, k5, h⟩ := id F.lk
  exact ⟨⟨nm, q, N, bs, bm, sn, sub, ab, col, dd, k0, k1, k2, k3, k5, h, hb⟩, F.sa, F.base hb, F.ty, F.kC⟩
theorem XFact.xcf (F : XFact K fI C bm) (hb : HandSPX.refsVE bm = true) (sp : PySem.W.specialIn K (.builtin "object.__class__") "__get__" = some (some (.builtin "getset_descriptor.__get__"))) (tk : PySem.W.takesIn K (.builtin "object.__class__") = some true) : XcF K C :=
  ⟨F.ga, F.gg, F.base hb, F.dict, F.nv, F.cl, sp, tk, F.obj hb⟩
theorem XFact.exm (F : XFact K fI C bm) (hb : HandSPX.refsVE bm = true) {D : Addr} {b : Bool} (h : PySem.W.subIn K (.ref D) (.ref C) = some b) : PySem.W.exmOne K (.ref D) (.ref C) = some b :=
  PySem.W.exm_ref (F.base hb) F.dict F.ty h
theorem XFact.kit (F : XFact K fI C bm) {D : Addr} {b : Bool} (h : PySem.W.subIn K (.ref D) (.ref C) = some b) (hb : D = C → b = true) : PySem.W.kitOne K (.ref D) (.ref C) = some b := by
  obtain ⟨cd, hc, _⟩ := F.cls
  unfold PySem.W.kitOne
  by_cases e : D = C
  · subst e
    rw [hb rfl]
    simp
  · have e2 : (Value.ref D == Value.ref C) = false := beq_eq_false_iff_ne.mpr fun z => e (Value.ref.inj z)
    rw [e2, if_neg Bool.false_ne_true]
    show (if ((PySem.W.clsIn K C).isSome && PySem.W.typeIn K (.ref C) == some (.type "type")) = true then PySem.W.subIn K (.ref D) (.ref C) else none) = some b
    rw [hc, F.ty, h]
    rfl
theorem XFact.kitV (F : XFact K fI C bm) (hb : HandSPX.refsVE bm = true) : PySem.W.kitOne K (.ref C) (.type "ValueError") = some true := by
  have h := HandSPX.refsVE_contains "ValueError" bm hb
  have e : (HandSPX.veTail).contains (.type "ValueError") = true := by decide +kernel
  rw [e] at h
  have z := F.sub (.type "ValueError")
  rw [List.contains_cons, h, Bool.or_true] at z
  show (if (Value.ref C == Value.type "ValueError") = true then some true else (if PySem.W.kitMeta "ValueError" = true then PySem.W.subIn K (.ref C) (.type "ValueError") else none)) = some true
  have e2 : PySem.W.kitMeta "ValueError" = true := by decide +kernel
  rw [if_neg (by simp), if_pos e2, z]
end
/-- all classes of a text, by number: 0 is the one that all others come of -/
structure XAll (P : Program) (w : World) (K : PySem.W.Frag) (mg : Str → Option Value) (base : Heap) (names : List Str) (cl : Nat → Addr) : Prop where
  g : ∀ k x, names[k]? = some x → mg x = some (.ref (cl k))
  c : ∀ k, k < names.length → XCls P w K mg base (cl k)
  s : Xs K names.length cl
/-- the chain of the k-th class behind itself -/
def bmOf (C0 : Addr) (k : Nat) : List Value := if k = 0 then HandSPX.veTail else .ref C0 :: HandSPX.veTail
theorem bmOf_ve {C0 : Addr} {k : Nat} : HandSPX.refsVE (bmOf C0 k) = true := by
  unfold bmOf
  split <;> rfl
def clOf (cs : List Addr) (k : Nat) : Addr := cs.getD k 0
theorem xall_mk {P : Program} {w : World} {K : PySem.W.Frag} {mg : Str → Option Value} {base : Heap} {names : List Str} {cs : List Addr} {C0 fI : Addr} {fd : FuncData} (h0 : cs[0]? = some C0) (hl : names.length = cs.length) (hn : cs.Nodup)
    (G : ∀ (k : Nat) (x : Str) (C : Addr), names[k]? = some x → cs[k]? = some C → mg x = some (.ref C)) (F : ∀ (k : Nat) (C : Addr), cs[k]? = some C → XFact K fI C (bmOf C0 k))
    (sp : PySem.W.specialIn K (.builtin "object.__class__") "__get__" = some (some (.builtin "getset_descriptor.__get__"))) (tk : PySem.W.takesIn K (.builtin "object.__class__") = some true) (tI : PySem.W.typeIn K (.ref fI) = some (.type "function"))
    (FI : FnOk P w K mg base CX0 1 fI fd ["self", "value"] (spInit K)) (bI : Binds K fd ["self", "value"] []) (bK : ∀ (s : Shared) (self u : Value), BindsTo s fd ⟨[self], [(("value" : Str), u)]⟩ [(("self" : Str), self), (("value" : Str), u)]) : XAll P w K mg base names (clOf cs) := by
  have at_ : ∀ k, k < names.length → cs[k]? = some (clOf cs k) := fun k hk => by
    rw [hl] at hk
    unfold clOf
    rw [List.getD_eq_getElem?_getD, List.getElem?_eq_getElem hk]
    rfl
  have sb : ∀ c k, c < names.length → k < names.length → PySem.W.subIn K (.ref (clOf cs c)) (.ref (clOf cs k)) = some (isX c k) := fun c k hc hk => by
    have f := F k _ (at_ k hk)
    have g := F c _ (at_ c hc)
    rw [g.sub]
    have inj : ∀ i j, i < names.length → j < names.length → clOf cs i = clOf cs j → i = j := fun i j hi hj e => by
      have a := at_ i hi
      have b := at_ j hj
      rw [e] at a
      rw [hl] at hi hj
      obtain ⟨hi2, a'⟩ := List.getElem?_eq_some_iff.mp a
      obtain ⟨hj2, b'⟩ := List.getElem?_eq_some_iff.mp b
      exact (List.getElem_inj hn).mp (a'.trans b'.symm)
    have e0 : clOf cs 0 = C0 := by unfold clOf; rw [List.getD_eq_getElem?_getD, h0]; rfl
    have l0 : 0 < names.length := by rw [hl]; exact (List.getElem?_eq_some_iff.mp h0).1
    have key : ∀ i j, i < names.length → j < names.length → ((Value.ref (clOf cs i)) == Value.ref (clOf cs j)) = (i == j) := fun i j hi hj => by
      by_cases e : i = j
      · subst e; simp
      · have : ¬ clOf cs i = clOf cs j := fun z => e (inj i j hi hj z)
        have e2 : (i == j) = false := by simpa using e
        rw [e2]
        exact beq_eq_false_iff_ne.mpr fun z => this (Value.ref.inj z)
    congr 1
    rw [List.contains_cons]
    unfold isX bmOf
    rw [key k c hk hc]
    by_cases hc0 : c = 0
    · rw [if_pos hc0, tail_base, Bool.or_false]
      rw [hc0]
      by_cases h : k = 0
      · subst h; rfl
      · have h1 : (k == 0) = false := beq_eq_false_iff_ne.mpr h
        have h2 : ((0 : Nat) == k) = false := beq_eq_false_iff_ne.mpr (Ne.symm h)
        rw [h1, h2]; rfl
    · rw [if_neg hc0, List.contains_cons, tail_base, Bool.or_false, ← e0, key k 0 hk l0]
      have h1 : (c == k) = (k == c) := by
        by_cases h : c = k
        · subst h; rfl
        · rw [beq_eq_false_iff_ne.mpr h, beq_eq_false_iff_ne.mpr (Ne.symm h)]
      rw [h1]
  have same : ∀ c k, c < names.length → k < names.length → clOf cs c = clOf cs k → isX c k = true := fun c k hc hk e => by
    have z := sb c k hc hk
    have g := F c _ (at_ c hc)
    rw [g.sub, e, List.contains_cons] at z
    have z2 := Option.some.inj z
    rw [← z2]
    simp
  refine ⟨fun k x hx => G k x _ hx (at_ k (List.getElem?_eq_some_iff.mp hx).1), fun k hk => ?_, fun c k hc hk => ?_, fun c k hc hk => ?_, fun c hc => ?_, fun c hc => ?_⟩
  · have f := F k _ (at_ k hk)
    exact ⟨f.oex bmOf_ve, f.xcf bmOf_ve sp tk, fI, fd, f.iC, tI, FI, bI, bK⟩
  · exact (F k _ (at_ k hk)).exm bmOf_ve (sb c k hc hk)
  · exact (F k _ (at_ k hk)).kit (sb c k hc hk) (same c k hc hk)
  · exact (F c _ (at_ c hc)).kitV bmOf_ve
  · exact (F c _ (at_ c hc)).xcf bmOf_ve sp tk
end SX
end
section
set_option Elab.async false
set_option linter.all false
set_option maxRecDepth 100000
set_option maxHeartbeats 4000000
open Classical
/-! SXE3: an own error made with its value as a keyword; isinstance of an error; the value of one just made. -/
namespace SX
open PySem PySem.Spec PyProof.Rows L2 PySem.HandSPX
section
variable {M : Model} {A : Around} {E : Value → Shared → Prop} {h : Heap} {g : Array GenState} {d : Drawn} {t : Nat} {os : OsState}
variable {nm q : Str} {C N : Addr} {bs bm tl : List Value} {hd : Bool} {sn : List Str} {sub : List Value} {ab : Bool} {col : Option Bool} {dd : Option Addr} {k0 k1 k2 k3 k5 : Option Value} {B nw ini : String} {kw : List (Str × Value)}
theorem chkNewK (F : ExcBaseFacts B nw ini tl) (hT : ∀ X : String, bm.contains (.type X) = tl.contains (.type X)) {us : List Value} {Q : Unit → Shared → Prop}
    (oc : h.get? C = some (excClassObj nm q C N bs bm hd sn sub ab col dd k0 k1 k2 k3 k5 nw)) (z : Q () ⟨h, g, d, t, os⟩) : wpAny M A (checkBuiltinCall nw ⟨.ref C :: us, kw⟩) Q E ⟨h, g, d, t, os⟩ := by
  have c1 : (Value.ref C :: bm).contains (.type B) = true := by rw [List.contains_cons, hT, F.hasB, Bool.or_true]
  have c2 := F.noStar
  simp only [checkBuiltinCall, F.newKind, F.newSplit, F.newRow]
  repeat (first | refine wpAny_loadPart_at oc ?_ | (refine wpAny_isSubtype_exc oc ?_; rw [c1]) | refine wpAny_staticBase_exc oc ?_ | refine wpAny_madeBy_exc oc ?_ | simp only [bne_self_eq_false, Bool.false_eq_true, if_false] | wp_step)
  exact z
end
section
variable {prog : Program} {w : World} {A : Around} {E : Value → Shared → Prop} {R : Result → Shared → Prop} {h : Heap} {g : Array GenState} {d : Drawn} {t : Nat} {os : OsState}
variable {nm q : Str} {C N : Addr} {bs bm tl : List Value} {hd : Bool} {sn : List Str} {sub : List Value} {ab : Bool} {col : Option Bool} {dd : Option Addr} {k0 k1 k2 k3 k5 : Option Value} {B nw ini : String} {kw : List (Str × Value)}
theorem newK (F : ExcBaseFacts B nw ini tl) (hT : ∀ X : String, bm.contains (.type X) = tl.contains (.type X)) {us : List Value} (oc : h.get? C = some (excClassObj nm q C N bs bm hd sn sub ab col dd k0 k1 k2 k3 k5 nw))
    (z : R (.ok (.ret (.ref (h.objs.size + 1)))) ⟨(h.push (W.kdv_tup us)).push (excO C h.objs.size), g, d, t, os⟩) (hu : us.length ≤ sizeLine) :
    codeAny (model prog w) A (.builtin nw ⟨.ref C :: us, kw⟩) R ⟨h, g, d, t, os⟩ := by
  have c0 := F.ends
  have c1 : (Value.ref C :: bm).contains (.type B) = true := by rw [List.contains_cons, hT, F.hasB, Bool.or_true]
  have c2 : (Value.ref C :: bm).contains (.type "AttributeError") = false := by rw [List.contains_cons, hT, F.noAttr]; rfl
  have c3 : (Value.ref C :: bm).contains (.type "NameError") = false := by rw [List.contains_cons, hT, F.noName]; rfl
  refine codeAny_builtinAt F.entry ?_
  unfold Builtin.«BaseException.__new__»
  refine PyProof.Rows.wpAt_bind ?_
  show PyProof.Rows.wpAt _ _ _ (stack >>= _) _ _ _
  refine PyProof.Rows.wpAt_bind (PyProof.Rows.wpAt_stack fun p below => wpAt_of_wpAny ?_)
  wp_walk
  refine wpAt_of_wpAny ?_
  rw [F.owner]
  repeat (first | with_reducible refine wpAny_madeHere_exc F.canon oc ?_ | with_reducible refine wpAny_loadPart_at oc ?_ | (with_reducible refine wpAny_isSubtype_exc oc ?_; first | rw [c1] | rw [c2] | rw [c3]) | wp_step)
  show R _ _
  rw [Heap.size_push]
  exact z
theorem typeCallK (F : ExcBaseFacts B nw ini tl) (hT : ∀ X : String, bm.contains (.type X) = tl.contains (.type X)) {us : List Value} {fI : Addr} {Q : PySem.Fin → Shared → Prop}
    (oc : h.get? C = some (excClassObj nm q C N bs bm hd sn sub ab col dd k0 k1 k2 k3 k5 nw)) (li : W.Looks (model prog w) h (typeLookup (.ref C) "__init__") (some (.ref fI)))
    (lb : ∀ self, W.Looks (model prog w) h (bindSpecial (.ref fI) self) (.ref fI, [self])) (hu : us.length ≤ sizeLine)
    (z : codeAny (model prog w) A (.call (.ref fI) ⟨.ref (h.objs.size + 1) :: us, kw⟩) (fun r s' => match r with | .ok (.ret v) => v = .none ∧ Q (.done (.ret (.ref (h.objs.size + 1)))) s' | .ok _ => False | .error e => E e s')
      ⟨(h.push (W.kdv_tup us)).push (excO C h.objs.size), g, d, t, os⟩) : wpAny (model prog w) A (Builtin.«type.__call__» ⟨.ref C :: us, kw⟩) Q E ⟨h, g, d, t, os⟩ := by
  repeat (first | with_reducible refine wpAny_loadPart_at oc ?_ | with_reducible refine wpAny_madeBy_exc oc ?_ | wp_step)
  refine codeAny_call_builtin_code (Code.quiet_builtin _ F.quiet) (chkNewK F hT oc (newK F hT oc ?_ hu))
  show wpAny _ _ _ _ _ _
  have kk : ∀ b o, h.get? b = some o → ((h.push (W.kdv_tup us)).push (excO C h.objs.size)).get? b = some o := fun b o e => Heap.get?_push_of_some _ (Heap.get?_push_of_some _ e)
  have oc2 := kk _ _ oc
  have ox : ((h.push (W.kdv_tup us)).push (excO C h.objs.size)).get? (h.objs.size + 1) = some (excO C h.objs.size) := by heap_get
  have c4 : (Value.ref C :: bm).contains (.ref C) = true := by simp
  have li2 := li.keeps kk
  have lb2 := (lb (.ref (h.objs.size + 1))).keeps kk
  unfold isInstance
  repeat (first | with_reducible refine wpAny_loadPart_at ox ?_ | (with_reducible refine wpAny_isSubtype_exc oc2 ?_; rw [c4]) | wp_step)
  show wpAny _ _ (typeLookup (.ref C) _) _ _ _
  refine li2.at (wpAny_holding (wpAny_bind (lb2.at ?_)))
  refine wpAny_bind (wpAny_call (codeAny_mono z fun r s' y => ?_))
  rcases r with e | (v | _ | _ | _) <;> first | exact y | exact y.elim | skip
  obtain ⟨rfl, y⟩ := y
  first
    | exact wpAny_pure (wpAny_pure y)
    | (wp_walk; exact y)
theorem callOwnK (F : ExcBaseFacts B nw ini tl) (hT : ∀ X : String, bm.contains (.type X) = tl.contains (.type X)) {us : List Value} {fI : Addr}
    (oc : h.get? C = some (excClassObj nm q C N bs bm hd sn sub ab col dd k0 k1 k2 k3 k5 nw)) (li : W.Looks (model prog w) h (typeLookup (.ref C) "__init__") (some (.ref fI)))
    (lb : ∀ self, W.Looks (model prog w) h (bindSpecial (.ref fI) self) (.ref fI, [self])) (hu : us.length ≤ sizeLine)
    (z : codeAny (model prog w) (A.under (.builtin "type.__call__" ⟨.ref C :: us, kw⟩)) (.call (.ref fI) ⟨.ref (h.objs.size + 1) :: us, kw⟩) (W.InitBack (h.objs.size + 1) R) ⟨(h.push (W.kdv_tup us)).push (excO C h.objs.size), g, d, t, os⟩) :
    codeAny (model prog w) A (.call (.ref C) ⟨us, kw⟩) R ⟨h, g, d, t, os⟩ := by
  have y1 := tc_lookup
  have y2 := tc_bind (.ref C)
  have y3 : (⟨h, g, d, t, os⟩ : Shared).TypeIs (.ref C) "type" := ⟨_, oc, rfl⟩
  refine codeAny_of_tree ?_
  show wpAny _ _ (callAny (.ref C) _) _ _ _
  repeat (any_goals (first | assumption | with_reducible refine wpAny_loadPart_at oc ?_ | wp_step))
  refine ⟨rfl, codeAny_call_builtin_at (Code.quiet_builtin _ (by decide +kernel)) entry_typeCall (wpAny_check_type_call_sub oc (typeCallK F hT oc li lb hu (codeAny_mono z fun r s' y => ?_)))⟩
  rcases r with e | (v | _ | _ | _) <;> exact y
end
section
variable {X : Cx} {p : Pm} {e : Expr} {f : EvE} {x : Str} {C : Addr} {p1 p2 p3 pos : Pos} {kp : Pos} {k : Nat} {ta : TA} {te : TE}
/-- C(value=e) -/
theorem pmkK (T : XCls X.prog X.w X.K X.mg X.base C) (hr : Room 2 X.A) (hg : Gl X x) (hm : X.mg x = some (.ref C)) (ha : PK X [⟨some "value", e, kp⟩] ta) (hdb : (x == ("__debug__" : Str)) = false := by decide)
    (hall : (backToKw pos (keywordEach [⟨some "value", e, kp⟩] X.env)).all (·.1.isSome) = true := by rfl) (hks : (backToKw pos (keywordEach [⟨some "value", e, kp⟩] X.env)).filterMap (·.1) = [("value" : Str)] := by rfl)
    (hpl : ((backTo pos (starEach [] X.env)).any (·.1) || (backToKw pos (keywordEach [⟨some "value", e, kp⟩] X.env)).any (·.1.isNone)) = false := by rfl) :
    PMk X (.Call (.Name x p1) [] [⟨some "value", e, kp⟩] pos) (tMkO C (spInit X.K) [] ta) := by
  intro pins s σ H Q I h
  obtain ⟨fI, fd, iC, tI, F1, _, bK⟩ := T.i
  obtain ⟨nm, q, N, bs, bm, sn, sub, ab, col, dd, k0, k1, k2, k3, k5, oc, vb⟩ := T.o.cls
  refine wpAny_Call_Name_kw (ld_glob I hg hm ?_ hdb)
  refine PySem.W.callWith_KW0 (h₀ := X.base) I.ok.mod.kin T.o.kC hall (thn (ha.run pos pins s σ H _ I h) fun ws s1 ⟨vs, H1, I1, rz, _, q1⟩ => ⟨I1.kIn, ?_⟩) hpl
  rw [hks]
  obtain ⟨hp, g, dr, tk, os⟩ := s1
  have small : hp.objs.size ≤ hp.objs.size + 1 := Nat.le_succ _
  have q2 := q1 (hp.objs.size + 1) (I1.hok.fresh small)
  obtain ⟨a', C', v, evq, _⟩ := id q2
  have ev2 : vs = [v] := by
    have z : V.ref (hp.objs.size + 1) :: (vs ++ []) = [V.ref a', v] := evq
    rw [List.append_nil] at z
    exact (List.cons.inj z).2
  subst ev2
  cases rz with
  | @cons _ u _ us ru rn =>
    cases rn
    have up : ∀ b o, hp.get? b = some o → ((hp.push (PySem.W.kdv_tup [])).push (excO C hp.objs.size)).get? b = some o := fun b o e => Heap.get?_push_of_some _ (Heap.get?_push_of_some _ e)
    have ox : ((hp.push (PySem.W.kdv_tup [])).push (excO C hp.objs.size)).get? (hp.objs.size + 1) = some (excO C hp.objs.size) := by heap_get
    have I2 : Inv X pins σ (upd H1 (hp.objs.size + 1) (exo (hp.objs.size + 1) C none)) ⟨(hp.push (PySem.W.kdv_tup [])).push (excO C hp.objs.size), g, dr, tk, os⟩ :=
      I1.laid (t' := tk) (a := hp.objs.size + 1) (o := exo (hp.objs.size + 1) C none) up small (exo_ok ox)
    have r2 : Vals (V.ref (hp.objs.size + 1) :: ([v] ++ [])) [Value.ref (hp.objs.size + 1), u] := .cons (show L2.RelV (V.ref (hp.objs.size + 1)) (Value.ref (hp.objs.size + 1)) from rfl) (.cons ru .nil)
    show wpAny _ _ (call (.ref C) [] [(("value" : Str), u)]) _ _ _
    refine wpAny_call (callOwnK (us := []) F.excBase_ValueError (fun Y => refsVE_contains Y bm vb) (I1.kIn _ _ oc) (PySem.W.looks_findIn I1.kIn iC) (fun self => PySem.W.bind_fn I1.kIn self tI) (Nat.zero_le _)
      (codeAny_mono (F1.run _ X.stack _ _ ⟨[.ref (hp.objs.size + 1)], [(("value" : Str), u)]⟩ [.ref (hp.objs.size + 1), u] _ _ (fun _ _ _ => False) (hr.make C [] _) (I2.env0.make C [] _) (bK _ _ _) (r2) q2) fun r s' y => ?_))
    cases r with
    | error er => exact False.elim y
    | ok fl =>
      cases fl with
      | ret u =>
        obtain ⟨v2, H2, os2, bare2, un2, hok2, rv, evq, dx, fs, e1, e2, e3, q3⟩ := y
        subst evq
        obtain ⟨h2, g2, d2, t2, os'⟩ := s'
        exact ⟨rv, mk_end (raises_own T.o.exC T.o.tyC) I1 small up un2 hok2 os2 bare2 e1 e2 e3 q3⟩
      | next => exact False.elim y
      | brk => exact False.elim y
      | cont => exact False.elim y
theorem ss_raiseK {c : Nat} (hc : X.calm = true) (T : XCls X.prog X.w X.K X.mg X.base (p.cl c)) (hr : Room 2 X.A) (tk : Takes X p.W) (hg : Gl X x) (hm : X.mg x = some (.ref (p.cl c))) (ha : SE X p e f) (hdb : (x == ("__debug__" : Str)) = false := by decide)
    (hall : (backToKw p2 (keywordEach [⟨some "value", e, kp⟩] X.env)).all (·.1.isSome) = true := by rfl) (hks : (backToKw p2 (keywordEach [⟨some "value", e, kp⟩] X.env)).filterMap (·.1) = [("value" : Str)] := by rfl)
    (hpl : ((backTo p2 (starEach [] X.env)).any (·.1) || (backToKw p2 (keywordEach [⟨some "value", e, kp⟩] X.env)).any (·.1.isNone)) = false := by rfl) :
    SS X p (.Raise (some (.Call (.Name x p1) [] [⟨some "value", e, kp⟩] p2)) none p3) (sRaise c f) := by
  refine ps_imp (ps_raise hc tk (pmkK T hr hg hm (pk_cons ha pk_nil) hdb hall hks hpl)) fun D σ H ⟨A, M, env, R, S, q⟩ => ?_
  refine mk_reads T (seqE R S (fun _ _ _ _ z => z) q fun d M1 v H1 A1 s1 r1 q1 => ⟨rfl, fun dx hd => ?_⟩)
  exact q1 v σ _ A1 dx (s1.trans (.lay s1.rel hd)) ((S.stp R s1).stp s1.rel (.lay s1.rel hd)) (r1.stp s1.rel (.lay s1.rel hd)) upd_same
/-! ### isinstance of an error -/
def rIsX (K : PySem.W.Frag) : List V → Hp → VK → Prop := fun xs H Q => ∃ (a C dx : Addr) (v c : V) (cv : Value) (b : Bool), xs = [.ref a, c] ∧ H a = some (exR a C dx) ∧ H dx = some (.xd [(("value" : Str), v)]) ∧ XcF K C ∧ (∀ u, RelV c u → u = cv) ∧ PySem.W.kitOne K (.ref C) cv = some b ∧ Q (.bl b) H
theorem call_isX : CallR X (.builtin "isinstance") (rIsX X.K) := by
  intro pins s σ H xs us Q I r ⟨a, C, dx, v, c, cv, b, ex, h1, h2, T, hcv, e, q⟩
  subst ex
  cases r with
  | cons rx rr =>
    cases rr with
    | cons rt rr =>
      cases rr
      cases rx
      have ec := hcv _ rt
      subst ec
      obtain ⟨oe, vs, g1, g2, g3, g4⟩ := exR_at I.hok h1
      obtain ⟨mA, hns, _⟩ := (show ObjOk X.prog X.w H s.heap dx (.xd [(("value" : Str), v)]) from I.hok dx _ h2)
      obtain ⟨od, ho, _⟩ := lookIn_ns hns
      have J : PySem.W.InstAt s.heap a oe C (some od) := ⟨g1, g2, by unfold PySem.W.notCls; rw [g4] <;> rfl, by rw [g3]; exact ho⟩
      obtain ⟨cd, hc, _⟩ := PySem.W.any_some T.hd
      exact PySem.W.kia_one (PySem.W.kitx_exc (by rw [hc]; rfl) T.ga T.gg T.ex T.cl T.sp T.tk T.mr) I.kIn J e (fun z => nomatch z) fun tk => ⟨.bl b, H, I.kept (t' := tk) fun _ _ z => z, rfl, q⟩
def opIsX (n : Nat) (cl : Nat → Addr) (g : Nat → Bool) : D → List MO → Out D
  | .exc C c _, M => if c < n ∧ C = cl c then .ok (.bl (g c)) M else .no
  | _, _ => .no
theorem isX_reads {n : Nat} {g : Nat → Bool} {c : V} {cv : Value} (Xc : Xs X.K n p.cl) (hcv : ∀ u, RelV c u → u = cv) (hk : ∀ i, i < n → PySem.W.kitOne X.K (.ref (p.cl i)) cv = some (g i)) {σ : L2.St} {H : Hp} {Q : VK} (h : tE X.K p (eUn (opIsX n p.cl g) f) σ H Q) :
    tE X.K p f σ H fun x H1 => rIsX X.K [x, c] H1 Q := by
  obtain ⟨A, M, env, R, S, q⟩ := h
  refine seqE R S (fun _ _ _ _ z => z) q fun d M1 v H1 A1 s1 r1 q1 => ?_
  cases d with
  | exc C i d' =>
    have q2 : OutR (if i < n ∧ C = p.cl i then Out.ok (D.bl (g i)) M1 else .no) _ _ := q1
    obtain ⟨⟨hi, rfl⟩, q3⟩ := ifO q2
    cases r1 with
    | exc h1 hn h2 hf r => exact ⟨_, _, _, _, c, cv, g i, rfl, h1, h2, hf, hcv, hk i hi, q3 _ H1 A1 s1 (.bl _)⟩
  | _ => exact q1.elim
/-- isinstance(e, C), C an own class of errors -/
theorem se_isX {n k : Nat} {a : Expr} {pn : Pos} (hk : k < n) (Xc : Xs X.K n p.cl) (hgi : Gl X "isinstance") (hmi : X.mg "isinstance" = none) (hg : Gl X x) (hm : X.mg x = some (.ref (p.cl k))) (hdb : (x == ("__debug__" : Str)) = false) (ha : SE X p a f)
    (he : starEach [a, .Name x p2] X.env = (false, eval a X.env) :: starEach [.Name x p2] X.env := by rfl) (he2 : starEach [.Name x p2] X.env = (false, eval (.Name x p2) X.env) :: starEach [] X.env := by rfl) (hpl : (backTo pos (starEach [.Name x p2] X.env)).any (·.1) = false := by rfl) :
    SE X p (.Call (.Name "isinstance" pn) [a, .Name x p2] [] pos) (eUn (opIsX n p.cl fun c => isX c k) f) :=
  pe_imp (pe_callB call_isX hgi hmi PyProof.Rows.boot_isinstance (pa_cons ha (pa_cons (pe_glob (v := .ref (p.cl k)) hg hm rfl hdb) pa_nil he2) he) (he := he) (hpl := hpl)) fun σ H Q h => isX_reads (c := .ref (p.cl k)) (cv := .ref (p.cl k)) Xc (fun u r => r) (fun i hi => Xc.ki i k hi hk) h
/-- isinstance(e, ValueError) -/
theorem se_isV {n : Nat} {a : Expr} {pn : Pos} (Xc : Xs X.K n p.cl) (hgi : Gl X "isinstance") (hmi : X.mg "isinstance" = none) (hg : Gl X "ValueError") (hm : X.mg "ValueError" = none) (ha : SE X p a f)
    (he : starEach [a, .Name "ValueError" p2] X.env = (false, eval a X.env) :: starEach [.Name "ValueError" p2] X.env := by rfl) (he2 : starEach [.Name "ValueError" p2] X.env = (false, eval (.Name "ValueError" p2) X.env) :: starEach [] X.env := by rfl) (hpl : (backTo pos (starEach [.Name "ValueError" p2] X.env)).any (·.1) = false := by rfl) :
    SE X p (.Call (.Name "isinstance" pn) [a, .Name "ValueError" p2] [] pos) (eUn (opIsX n p.cl fun _ => true) f) :=
  pe_imp (pe_callB call_isX hgi hmi PyProof.Rows.boot_isinstance (pa_cons ha (pa_cons (pe_bltn (v := .ty "ValueError") hg hm PyProof.Rows.Boot.«ValueError» rfl) pa_nil he2) he) (he := he) (hpl := hpl)) fun σ H Q h => isX_reads (c := .ty "ValueError") (cv := .type "ValueError") Xc (fun u r => r) (fun i hi => Xc.kv i hi) h
/-! ### C(e).value -/
theorem mkVal {o : Expr} {C : Addr} (T : XCls X.prog X.w X.K X.mg X.base C) (hm : PMk X o (tMkO C (spInit X.K) [] (tCons (tE X.K p f) tNil))) (hb : attributeBase o "value" X.env (eval o X.env) = eval o X.env) : SE X p (.Attribute o "value" pos) f := by
  refine ⟨fun pins s σ H Q I h => ?_⟩
  obtain ⟨A, M, env, R, S, q⟩ := h
  have h1 : tMkO C (spInit X.K) [] (tCons (tE X.K p f) tNil) σ H fun cls d H' => ∃ (dx : Addr) (v : V), cls = .ref C ∧ d = some dx ∧ H' dx = some (.xd [(("value" : Str), v)]) ∧ ∀ a, H' a = none → Q v (upd H' a (exR a C dx)) :=
    mk_reads T ⟨A, M, env, R, S, q.imp (fun d M1 _ q1 v H1 A1 s1 r1 => ⟨rfl, fun dx hd => ⟨dx, v, rfl, rfl, upd_same, fun a ha => by
      have s2 : Stp X.K p.T A1 H1 A1 M1 (upd H1 dx (.xd [(("value" : Str), v)])) := .lay s1.rel hd
      have s3 : Stp X.K p.T A1 (upd H1 dx (.xd [(("value" : Str), v)])) A1 M1 (upd (upd H1 dx (.xd [(("value" : Str), v)])) a (exR a C dx)) := .lay s2.rel ha
      exact q1 v _ A1 (s1.trans (s2.trans s3)) (r1.stp s1.rel (s2.trans s3))⟩⟩) fun _ _ _ _ _ z => z⟩
  refine attr_of hb (wpAny_mono (hm pins s σ H _ I h1) (fun u s1 hu => ?_) fun _ _ z => z)
  obtain ⟨a, oe, vs, sI, H', cls, d, rfl, J, k, hne, ha, hz, hd, _, na, os, ag, _, dx, v, rfl, rfl, e2, q2⟩ := hu
  have I1 : Inv X pins σ (upd H' a (exR a C dx)) s1 := J.call' (ch := []) os (Un.laidN k hne na) (J.hok.laidN k na (exR_ok ha hz hd)) ag (fun b z => nomatch z)
  have e3 : upd H' a (exR a C dx) dx = some (.xd [(("value" : Str), v)]) := by rw [upd_ne (ne_of_none e2 na)]; exact e2
  obtain ⟨mA, hns, hr⟩ := (show ObjOk X.prog X.w (upd H' a (exR a C dx)) s1.heap dx (.xd [(("value" : Str), v)]) from I1.hok dx _ e3)
  obtain ⟨od, ho, hl⟩ := lookIn_ns hns
  obtain ⟨u, hu, ru⟩ := RelO.some_of (v := v) (o := mA "value") (by have z := hr "value"; simpa [List.lookup] using z)
  have JJ : PySem.W.InstAt s1.heap a oe C (some od) := ⟨ha, hz.1, by unfold PySem.W.notCls; rw [hd] <;> rfl, by rw [hz.2]; exact ho⟩
  exact HandSPX.exc_get I1.kIn JJ T.f.ga T.f.gg T.f.ex (PySem.W.findObj_own T.f.hd T.f.nv rfl (by rw [hl, hu])) (handed_of ru) ⟨v, _, I1.tok _, ru, q2 a na⟩
/-- C(e).value -/
theorem se_mkVal (T : XCls X.prog X.w X.K X.mg X.base C) (hr : Room 2 X.A) (hg : Gl X x) (hm : X.mg x = some (.ref C)) (ha : SE X p e f)
    (hdb : (x == ("__debug__" : Str)) = false := by decide) (he : starEach [e] X.env = (false, eval e X.env) :: starEach [] X.env := by rfl) (hpl : (backTo p2 (starEach [] X.env)).any (·.1) = false := by rfl)
    (hb : attributeBase (.Call (.Name x p1) [e] [] p2) "value" X.env (eval (.Call (.Name x p1) [e] [] p2) X.env) = eval (.Call (.Name x p1) [e] [] p2) X.env := by rfl) :
    SE X p (.Attribute (.Call (.Name x p1) [e] [] p2) "value" pos) f := by
  obtain ⟨fI, fd, iC, tI, F1, hb2, _⟩ := T.i
  exact mkVal T (pmk_oex T.o iC tI F1 hr hb2 .nil pass0 hg hm (pa_cons ha pa_nil he) hdb he hpl) hb
end
end SX
end
section
set_option Elab.async false
set_option linter.all false
set_option maxRecDepth 100000
set_option maxHeartbeats 4000000
open Classical
namespace K00
open PySem PySem.Spec PyProof.Rows L2 SX
def topS (i : Nat) : Stmt := PySem.Challenge.pw_bannedorders_k00_errors.main.body.getD i (.Pass ⟨0, 0, 0, 0⟩)
abbrev s__law_deck : Stmt := topS 23
theorem sc__law_deck : FnScope ["script", "k", "cell", "stir"] ["script", "k"] (defScope s__law_deck) := ⟨rfl, rfl, rfl, by decide +kernel, rfl, by decide +kernel, by decide +kernel⟩
abbrev s__law_take : Stmt := topS 24
theorem sc__law_take : FnScope ["deck", "many", "taken"] ["deck", "many"] (defScope s__law_take) := ⟨rfl, rfl, rfl, by decide +kernel, rfl, by decide +kernel, by decide +kernel⟩
abbrev s__law_given : Stmt := topS 32
theorem sc__law_given : FnScope ["deck", "far", "some"] ["deck"] (defScope s__law_given) := ⟨rfl, rfl, rfl, by decide +kernel, rfl, by decide +kernel, by decide +kernel⟩
abbrev s__law_raise_named_first : Stmt := topS 28
theorem sc__law_raise_named_first : FnScope ["which", "given"] ["which", "given"] (defScope s__law_raise_named_first) := ⟨rfl, rfl, rfl, by decide +kernel, rfl, by decide +kernel, by decide +kernel⟩
abbrev s__law_raise_first : Stmt := topS 26
theorem sc__law_raise_first : FnScope ["which", "given"] ["which", "given"] (defScope s__law_raise_first) := ⟨rfl, rfl, rfl, by decide +kernel, rfl, by decide +kernel, by decide +kernel⟩
abbrev s__law_raise_named_second : Stmt := topS 29
theorem sc__law_raise_named_second : FnScope ["which", "given"] ["which", "given"] (defScope s__law_raise_named_second) := ⟨rfl, rfl, rfl, by decide +kernel, rfl, by decide +kernel, by decide +kernel⟩
abbrev s__law_raise_second : Stmt := topS 27
theorem sc__law_raise_second : FnScope ["which", "given"] ["which", "given"] (defScope s__law_raise_second) := ⟨rfl, rfl, rfl, by decide +kernel, rfl, by decide +kernel, by decide +kernel⟩
abbrev s__law_raised : Stmt := topS 30
theorem sc__law_raised : FnScope ["which", "given", "named"] ["which", "given", "named"] (defScope s__law_raised) := ⟨rfl, rfl, rfl, by decide +kernel, rfl, by decide +kernel, by decide +kernel⟩
abbrev s__law_same : Stmt := topS 25
theorem sc__law_same : FnScope ["found", "due", "k"] ["found", "due"] (defScope s__law_same) := ⟨rfl, rfl, rfl, by decide +kernel, rfl, by decide +kernel, by decide +kernel⟩
abbrev s__law_kinds : Stmt := topS 31
theorem sc__law_kinds : FnScope ["e", "found"] ["e"] (defScope s__law_kinds) := ⟨rfl, rfl, rfl, by decide +kernel, rfl, by decide +kernel, by decide +kernel⟩
abbrev s__law_right : Stmt := topS 33
theorem sc__law_right : FnScope ["which", "given", "named", "caught", "e", "k"] ["which", "given", "named"] (defScope s__law_right) := ⟨rfl, rfl, rfl, by decide +kernel, rfl, by decide +kernel, by decide +kernel⟩
abbrev s__law_base_right : Stmt := topS 34
theorem sc__law_base_right : FnScope ["given", "caught", "e"] ["given"] (defScope s__law_base_right) := ⟨rfl, rfl, rfl, by decide +kernel, rfl, by decide +kernel, by decide +kernel⟩
abbrev s_law : Stmt := topS 35
theorem sc_law : FnScope ["script", "first", "second", "k", "deck", "which", "named", "given", "other", "e"] ["script"] (defScope s_law) := ⟨rfl, rfl, rfl, by decide +kernel, rfl, by decide +kernel, by decide +kernel⟩
def clsBody : Stmt → List Stmt
  | .ClassDef (body := b) .. => b
  | _ => []
abbrev s_init : Stmt := (clsBody (topS 1)).getD 0 (.Pass ⟨0, 0, 0, 0⟩)
theorem sc_init : FnScope ["self", "value"] ["self", "value"] (defScope s_init) := ⟨rfl, rfl, rfl, by decide +kernel, rfl, by decide +kernel, by decide +kernel⟩
theorem ok_init {P : Program} {w : World} {K : PySem.W.Frag} {mg : Str → Option Value} {base : Heap} {f : Addr} {fd : FuncData} (F : L2.Fun K "__init__" "OrderError.__init__" s_init f fd) : FnOk P w K mg base CX0 1 f fd ["self", "value"] (spInit K) :=
  F.ok sc_init (fun vs H Q E ⟨_, _, _, h, _⟩ => by rw [h]; rfl) fun cdv A outer s H vs Q E hr h => ⟨_, pss_one (ps_ost (pv 0) (pv 1)), init_reads h⟩
/-! ### what the top has written -/
structure Tp (K : PySem.W.Frag) (mg : Str → Option Value) where
  f__law_deck : Addr
  fd__law_deck : FuncData
  F__law_deck : L2.Fun K "_law_deck" "_law_deck" s__law_deck f__law_deck fd__law_deck
  g__law_deck : mg "_law_deck" = some (.ref f__law_deck)
  b__law_deck : Binds K fd__law_deck ["script", "k"] []
  f__law_take : Addr
  fd__law_take : FuncData
  F__law_take : L2.Fun K "_law_take" "_law_take" s__law_take f__law_take fd__law_take
  g__law_take : mg "_law_take" = some (.ref f__law_take)
  b__law_take : Binds K fd__law_take ["deck", "many"] []
  f__law_given : Addr
  fd__law_given : FuncData
  F__law_given : L2.Fun K "_law_given" "_law_given" s__law_given f__law_given fd__law_given
  g__law_given : mg "_law_given" = some (.ref f__law_given)
  b__law_given : Binds K fd__law_given ["deck"] []
  f__law_raise_named_first : Addr
  fd__law_raise_named_first : FuncData
  F__law_raise_named_first : L2.Fun K "_law_raise_named_first" "_law_raise_named_first" s__law_raise_named_first f__law_raise_named_first fd__law_raise_named_first
  g__law_raise_named_first : mg "_law_raise_named_first" = some (.ref f__law_raise_named_first)
  b__law_raise_named_first : Binds K fd__law_raise_named_first ["which", "given"] []
  f__law_raise_first : Addr
  fd__law_raise_first : FuncData
  F__law_raise_first : L2.Fun K "_law_raise_first" "_law_raise_first" s__law_raise_first f__law_raise_first fd__law_raise_first
  g__law_raise_first : mg "_law_raise_first" = some (.ref f__law_raise_first)
  b__law_raise_first : Binds K fd__law_raise_first ["which", "given"] []
  f__law_raise_named_second : Addr
  fd__law_raise_named_second : FuncData
  F__law_raise_named_second : L2.Fun K "_law_raise_named_second" "_law_raise_named_second" s__law_raise_named_second f__law_raise_named_second fd__law_raise_named_second
  g__law_raise_named_second : mg "_law_raise_named_second" = some (.ref f__law_raise_named_second)
  b__law_raise_named_second : Binds K fd__law_raise_named_second ["which", "given"] []
  f__law_raise_second : Addr
  fd__law_raise_second : FuncData
  F__law_raise_second : L2.Fun K "_law_raise_second" "_law_raise_second" s__law_raise_second f__law_raise_second fd__law_raise_second
  g__law_raise_second : mg "_law_raise_second" = some (.ref f__law_raise_second)
  b__law_raise_second : Binds K fd__law_raise_second ["which", "given"] []
  f__law_raised : Addr
  fd__law_raised : FuncData
  F__law_raised : L2.Fun K "_law_raised" "_law_raised" s__law_raised f__law_raised fd__law_raised
  g__law_raised : mg "_law_raised" = some (.ref f__law_raised)
  b__law_raised : Binds K fd__law_raised ["which", "given", "named"] []
  f__law_same : Addr
  fd__law_same : FuncData
  F__law_same : L2.Fun K "_law_same" "_law_same" s__law_same f__law_same fd__law_same
  g__law_same : mg "_law_same" = some (.ref f__law_same)
  b__law_same : Binds K fd__law_same ["found", "due"] []
  f__law_kinds : Addr
  fd__law_kinds : FuncData
  F__law_kinds : L2.Fun K "_law_kinds" "_law_kinds" s__law_kinds f__law_kinds fd__law_kinds
  g__law_kinds : mg "_law_kinds" = some (.ref f__law_kinds)
  b__law_kinds : Binds K fd__law_kinds ["e"] []
  f__law_right : Addr
  fd__law_right : FuncData
  F__law_right : L2.Fun K "_law_right" "_law_right" s__law_right f__law_right fd__law_right
  g__law_right : mg "_law_right" = some (.ref f__law_right)
  b__law_right : Binds K fd__law_right ["which", "given", "named"] []
  f__law_base_right : Addr
  fd__law_base_right : FuncData
  F__law_base_right : L2.Fun K "_law_base_right" "_law_base_right" s__law_base_right f__law_base_right fd__law_base_right
  g__law_base_right : mg "_law_base_right" = some (.ref f__law_base_right)
  b__law_base_right : Binds K fd__law_base_right ["given"] []
  f_law : Addr
  fd_law : FuncData
  F_law : L2.Fun K "law" "law" s_law f_law fd_law
  g_law : mg "law" = some (.ref f_law)
  b_law : Binds K fd_law ["script"] []
  z_ValueError : mg "ValueError" = none
  z_bool : mg "bool" = none
  z_int : mg "int" = none
  z_isinstance : mg "isinstance" = none
  z_len : mg "len" = none
  z_list : mg "list" = none
  z_max : mg "max" = none
  z_min : mg "min" = none
  z_range : mg "range" = none
  z_str : mg "str" = none
  z_tuple : mg "tuple" = none
def Tl {K : PySem.W.Frag} {mg : Str → Option Value} (t : Tp K mg) : List Addr := []
structure Tbs {K : PySem.W.Frag} {mg : Str → Option Value} (t : Tp K mg) (base : Heap) : Prop where
noncomputable def b__law_deck : EvS := (sCons (sAsg (eC (.int 0)) (gtName 2))
    (sCons (sIf (tBl (eLt (eVar 1) (eB opLen (esCons (eVar 0) esNil)))) (sCons (sAsg (eIx (eVar 0) (eVar 1)) (gtName 2))
    sNil) sNil)
    (sCons (sAsg (eMod (eB opInt1 (esCons (eAdd mkF (eAdd mkF (eVar 2) (eMul (eC (.int 7919)) (eVar 1))) (eC (.int 104729))) esNil)) (eC (.int 2305843009213693951))) (gtName 3))
    (sCons (sAsg (eMod (eB opInt1 (esCons (eAdd mkF (eAdd mkF (eMul (eMul (eVar 3) (eVar 3)) (eVar 3)) (eMul (eC (.int 31)) (eVar 1))) (eC (.int 7))) esNil)) (eC (.int 2305843009213693951))) (gtName 3))
    (sCons (sIf (tBl (eLt (eVar 2) (ePow (eC (.int 10)) (eC (.int 18))))) (sCons (sRet (eLst mkN (esCons (eC (.int 0)) (esCons (eVar 3) esNil))))
    sNil) sNil)
    (sCons (sRet (eLst mkN (esCons (eSub (eVar 2) (ePow (eC (.int 10)) (eC (.int 18)))) (esCons (eVar 3) esNil))))
    sNil))))))
noncomputable def F__law_deck : Fn := fnF 4 b__law_deck
noncomputable def b__law_take : EvS := (sCons (sIf (tBl (eGt (eIx (eVar 0) (eC (.int 0))) (eC (.int 0)))) (sCons (sAsg (eMod (eB opInt1 (esCons (eIx (eVar 0) (eC (.int 0))) esNil)) (eVar 1)) (gtName 2))
    (sCons (sAsg (eFdiv (eIx (eVar 0) (eC (.int 0))) (eVar 1)) (gtSub (eVar 0) (eC (.int 0))))
    (sCons (sRet (eVar 2))
    sNil))) sNil)
    (sCons (sAsg (eMod (eB opInt1 (esCons (eAdd mkF (eMul (eIx (eVar 0) (eC (.int 1))) (eC (.int 6364136223846793005))) (eC (.int 1442695040888963407))) esNil)) (ePow (eC (.int 2)) (eC (.int 64)))) (gtSub (eVar 0) (eC (.int 1))))
    (sCons (sRet (eMod (eFdiv (eIx (eVar 0) (eC (.int 1))) (ePow (eC (.int 2)) (eC (.int 20)))) (eVar 1)))
    sNil)))
noncomputable def F__law_take : Fn := fnF 3 b__law_take
noncomputable def b__law_given : EvS := (sCons (sAsg (eSub (eCall F__law_take (esCons (eVar 0) (esCons (ePow (eC (.int 10)) (eC (.int 30))) esNil))) (ePow (eC (.int 10)) (eC (.int 29)))) (gtName 1))
    (sCons (sAsg (eLst mkF (esCons (eVar 1) (esCons (eCall F__law_take (esCons (eVar 0) (esCons (eC (.int 9)) esNil))) (esCons (eC (.str "")) (esCons (eC (.str "a b")) (esCons (eC .non) (esCons (eC (.bl true)) (esCons (eC (.bl false)) (esCons (eTup esNil) (esCons (eTup (esCons (eVar 1) (esCons (eC (.int 1)) esNil))) (esCons (eLst mkF (esCons (eVar 1) (esCons (eC (.str "x")) esNil))) (esCons (eTup (esCons (eTup (esCons (eC (.int 1)) (esCons (eC (.int 2)) esNil))) (esCons (eTup (esCons (eC (.str "a")) (esCons (eTup esNil) esNil))) esNil))) (esCons (eLst mkF esNil) (esCons (eNeg (eC (.int 1))) (esCons (eC (.int 0)) esNil))))))))))))))) (gtName 2))
    (sCons (sRet (eIx (eVar 2) (eCall F__law_take (esCons (eVar 0) (esCons (eC (.int 14)) esNil)))))
    sNil)))
noncomputable def F__law_given : Fn := fnF 3 b__law_given
noncomputable def b__law_raise_named_first : EvS := (sCons (sIf (tBl (eEq (eVar 0) (eC (.int 0)))) (sCons (sRaise 1 (eVar 1))
    sNil) sNil)
    (sCons (sIf (tBl (eEq (eVar 0) (eC (.int 1)))) (sCons (sRaise 2 (eVar 1))
    sNil) sNil)
    (sCons (sIf (tBl (eEq (eVar 0) (eC (.int 2)))) (sCons (sRaise 3 (eVar 1))
    sNil) sNil)
    (sCons (sIf (tBl (eEq (eVar 0) (eC (.int 3)))) (sCons (sRaise 4 (eVar 1))
    sNil) sNil)
    (sCons (sIf (tBl (eEq (eVar 0) (eC (.int 4)))) (sCons (sRaise 5 (eVar 1))
    sNil) sNil)
    (sCons (sIf (tBl (eEq (eVar 0) (eC (.int 5)))) (sCons (sRaise 6 (eVar 1))
    sNil) sNil)
    (sCons (sIf (tBl (eEq (eVar 0) (eC (.int 6)))) (sCons (sRaise 7 (eVar 1))
    sNil) sNil)
    (sCons (sIf (tBl (eEq (eVar 0) (eC (.int 7)))) (sCons (sRaise 8 (eVar 1))
    sNil) sNil)
    (sCons (sIf (tBl (eEq (eVar 0) (eC (.int 8)))) (sCons (sRaise 9 (eVar 1))
    sNil) sNil)
    (sCons (sRaise 10 (eVar 1))
    sNil))))))))))
noncomputable def F__law_raise_named_first : Fn := fnF 2 b__law_raise_named_first
noncomputable def b__law_raise_first : EvS := (sCons (sIf (tBl (eEq (eVar 0) (eC (.int 0)))) (sCons (sRaise 1 (eVar 1))
    sNil) sNil)
    (sCons (sIf (tBl (eEq (eVar 0) (eC (.int 1)))) (sCons (sRaise 2 (eVar 1))
    sNil) sNil)
    (sCons (sIf (tBl (eEq (eVar 0) (eC (.int 2)))) (sCons (sRaise 3 (eVar 1))
    sNil) sNil)
    (sCons (sIf (tBl (eEq (eVar 0) (eC (.int 3)))) (sCons (sRaise 4 (eVar 1))
    sNil) sNil)
    (sCons (sIf (tBl (eEq (eVar 0) (eC (.int 4)))) (sCons (sRaise 5 (eVar 1))
    sNil) sNil)
    (sCons (sIf (tBl (eEq (eVar 0) (eC (.int 5)))) (sCons (sRaise 6 (eVar 1))
    sNil) sNil)
    (sCons (sIf (tBl (eEq (eVar 0) (eC (.int 6)))) (sCons (sRaise 7 (eVar 1))
    sNil) sNil)
    (sCons (sIf (tBl (eEq (eVar 0) (eC (.int 7)))) (sCons (sRaise 8 (eVar 1))
    sNil) sNil)
    (sCons (sIf (tBl (eEq (eVar 0) (eC (.int 8)))) (sCons (sRaise 9 (eVar 1))
    sNil) sNil)
    (sCons (sRaise 10 (eVar 1))
    sNil))))))))))
noncomputable def F__law_raise_first : Fn := fnF 2 b__law_raise_first
noncomputable def b__law_raise_named_second : EvS := (sCons (sIf (tBl (eEq (eVar 0) (eC (.int 10)))) (sCons (sRaise 11 (eVar 1))
    sNil) sNil)
    (sCons (sIf (tBl (eEq (eVar 0) (eC (.int 11)))) (sCons (sRaise 12 (eVar 1))
    sNil) sNil)
    (sCons (sIf (tBl (eEq (eVar 0) (eC (.int 12)))) (sCons (sRaise 13 (eVar 1))
    sNil) sNil)
    (sCons (sIf (tBl (eEq (eVar 0) (eC (.int 13)))) (sCons (sRaise 14 (eVar 1))
    sNil) sNil)
    (sCons (sIf (tBl (eEq (eVar 0) (eC (.int 14)))) (sCons (sRaise 15 (eVar 1))
    sNil) sNil)
    (sCons (sIf (tBl (eEq (eVar 0) (eC (.int 15)))) (sCons (sRaise 16 (eVar 1))
    sNil) sNil)
    (sCons (sIf (tBl (eEq (eVar 0) (eC (.int 16)))) (sCons (sRaise 17 (eVar 1))
    sNil) sNil)
    (sCons (sIf (tBl (eEq (eVar 0) (eC (.int 17)))) (sCons (sRaise 18 (eVar 1))
    sNil) sNil)
    (sCons (sIf (tBl (eEq (eVar 0) (eC (.int 18)))) (sCons (sRaise 19 (eVar 1))
    sNil) sNil)
    (sCons (sRaise 20 (eVar 1))
    sNil))))))))))
noncomputable def F__law_raise_named_second : Fn := fnF 2 b__law_raise_named_second
noncomputable def b__law_raise_second : EvS := (sCons (sIf (tBl (eEq (eVar 0) (eC (.int 10)))) (sCons (sRaise 11 (eVar 1))
    sNil) sNil)
    (sCons (sIf (tBl (eEq (eVar 0) (eC (.int 11)))) (sCons (sRaise 12 (eVar 1))
    sNil) sNil)
    (sCons (sIf (tBl (eEq (eVar 0) (eC (.int 12)))) (sCons (sRaise 13 (eVar 1))
    sNil) sNil)
    (sCons (sIf (tBl (eEq (eVar 0) (eC (.int 13)))) (sCons (sRaise 14 (eVar 1))
    sNil) sNil)
    (sCons (sIf (tBl (eEq (eVar 0) (eC (.int 14)))) (sCons (sRaise 15 (eVar 1))
    sNil) sNil)
    (sCons (sIf (tBl (eEq (eVar 0) (eC (.int 15)))) (sCons (sRaise 16 (eVar 1))
    sNil) sNil)
    (sCons (sIf (tBl (eEq (eVar 0) (eC (.int 16)))) (sCons (sRaise 17 (eVar 1))
    sNil) sNil)
    (sCons (sIf (tBl (eEq (eVar 0) (eC (.int 17)))) (sCons (sRaise 18 (eVar 1))
    sNil) sNil)
    (sCons (sIf (tBl (eEq (eVar 0) (eC (.int 18)))) (sCons (sRaise 19 (eVar 1))
    sNil) sNil)
    (sCons (sRaise 20 (eVar 1))
    sNil))))))))))
noncomputable def F__law_raise_second : Fn := fnF 2 b__law_raise_second
noncomputable def b__law_raised : EvS := (sCons (sIf (tAndE (tBl (eLt (eVar 0) (eC (.int 10)))) (tTru (eVar 2))) (sCons (sExp (eCall F__law_raise_named_first (esCons (eVar 0) (esCons (eVar 1) esNil))))
    sNil) (sCons (sIf (tBl (eLt (eVar 0) (eC (.int 10)))) (sCons (sExp (eCall F__law_raise_first (esCons (eVar 0) (esCons (eVar 1) esNil))))
    sNil) (sCons (sIf (tTru (eVar 2)) (sCons (sExp (eCall F__law_raise_named_second (esCons (eVar 0) (esCons (eVar 1) esNil))))
    sNil) (sCons (sExp (eCall F__law_raise_second (esCons (eVar 0) (esCons (eVar 1) esNil))))
    sNil))
    sNil))
    sNil))
    sNil)
noncomputable def F__law_raised : Fn := fnF 3 b__law_raised
noncomputable def b__law_same (F : Fn) : EvS := (sCons (sIf (tTru (eUn (opIsi [.tuple, .list]) (eVar 1))) (sCons (sIf (tOrE (tBl (eNe (eUn (opIsi [.tuple]) (eVar 0)) (eUn (opIsi [.tuple]) (eVar 1)))) (tBl (eNe (eUn (opIsi [.list]) (eVar 0)) (eUn (opIsi [.list]) (eVar 1))))) (sCons (sRet (eC (.bl false)))
    sNil) sNil)
    (sCons (sIf (tBl (eNe (eB opLen (esCons (eVar 0) esNil)) (eB opLen (esCons (eVar 1) esNil)))) (sCons (sRet (eC (.bl false)))
    sNil) sNil)
    (sCons (sRet (eEq (eComp true (iRange (esCons (eB opLen (esCons (eVar 1) esNil)) esNil)) (.nm 2) [2] (tNotT (tTru (eCall F (esCons (eIx (eVar 0) (eVar 2)) (esCons (eIx (eVar 1) (eVar 2)) esNil))))) (eVar 2)) (eLst mkF esNil)))
    sNil))) sNil)
    (sCons (sIf (tBl (eIsN (eVar 1) (eC .non))) (sCons (sRet (eIsN (eVar 0) (eC .non)))
    sNil) sNil)
    (sCons (sIf (tTru (eUn (opIsi [.str]) (eVar 1))) (sCons (sRet (eAnd (eUn (opIsi [.str]) (eVar 0)) (eEq (eVar 0) (eVar 1))))
    sNil) sNil)
    (sCons (sIf (tOrE (tTru (eUn (opIsi [.bool]) (eVar 1))) (tTru (eUn (opIsi [.bool]) (eVar 0)))) (sCons (sRet (eAnd (eUn (opIsi [.bool]) (eVar 1)) (eAnd (eUn (opIsi [.bool]) (eVar 0)) (eEq (eVar 0) (eVar 1)))))
    sNil) sNil)
    (sCons (sRet (eAnd (eUn (opIsi [.int]) (eVar 0)) (eEq (eVar 0) (eVar 1))))
    sNil)))))
noncomputable def F__law_same : Nat → Fn
  | 0 => fun _ _ => .no
  | n + 1 => fnF 3 (b__law_same (F__law_same n))
noncomputable def b__law_kinds (cl : Nat → Addr) : EvS := (sCons (sAsg (eLst mkF (esCons (eUn (opIsX 21 cl fun c => isX c 1) (eVar 0)) (esCons (eUn (opIsX 21 cl fun c => isX c 2) (eVar 0)) (esCons (eUn (opIsX 21 cl fun c => isX c 3) (eVar 0)) esNil)))) (gtName 1))
    (sCons (sAsg (eAdd mkF (eVar 1) (eLst mkF (esCons (eUn (opIsX 21 cl fun c => isX c 4) (eVar 0)) (esCons (eUn (opIsX 21 cl fun c => isX c 5) (eVar 0)) (esCons (eUn (opIsX 21 cl fun c => isX c 6) (eVar 0)) esNil))))) (gtName 1))
    (sCons (sAsg (eAdd mkF (eVar 1) (eLst mkF (esCons (eUn (opIsX 21 cl fun c => isX c 7) (eVar 0)) (esCons (eUn (opIsX 21 cl fun c => isX c 8) (eVar 0)) (esCons (eUn (opIsX 21 cl fun c => isX c 9) (eVar 0)) esNil))))) (gtName 1))
    (sCons (sAsg (eAdd mkF (eVar 1) (eLst mkF (esCons (eUn (opIsX 21 cl fun c => isX c 10) (eVar 0)) (esCons (eUn (opIsX 21 cl fun c => isX c 11) (eVar 0)) (esCons (eUn (opIsX 21 cl fun c => isX c 12) (eVar 0)) esNil))))) (gtName 1))
    (sCons (sAsg (eAdd mkF (eVar 1) (eLst mkF (esCons (eUn (opIsX 21 cl fun c => isX c 13) (eVar 0)) (esCons (eUn (opIsX 21 cl fun c => isX c 14) (eVar 0)) (esCons (eUn (opIsX 21 cl fun c => isX c 15) (eVar 0)) esNil))))) (gtName 1))
    (sCons (sAsg (eAdd mkF (eVar 1) (eLst mkF (esCons (eUn (opIsX 21 cl fun c => isX c 16) (eVar 0)) (esCons (eUn (opIsX 21 cl fun c => isX c 17) (eVar 0)) (esCons (eUn (opIsX 21 cl fun c => isX c 18) (eVar 0)) esNil))))) (gtName 1))
    (sCons (sRet (eAdd mkF (eVar 1) (eLst mkF (esCons (eUn (opIsX 21 cl fun c => isX c 19) (eVar 0)) (esCons (eUn (opIsX 21 cl fun c => isX c 20) (eVar 0)) esNil)))))
    sNil)))))))
noncomputable def F__law_kinds (cl : Nat → Addr) : Fn := fnF 2 (b__law_kinds cl)
noncomputable def b__law_right (cl : Nat → Addr) : EvS := (sCons (sAsg (eC .non) (gtName 3))
    (sCons (sTry 21 cl (sCons (sExp (eCall F__law_raised (esCons (eVar 0) (esCons (eVar 1) (esCons (eVar 2) esNil)))))
    sNil) [(0, some 4, (sCons (sAsg (eVar 4) (gtName 3))
    sNil))])
    (sCons (sIf (tOrE (tBl (eIsN (eVar 3) (eC .non))) (tNotT (tTru (eUn (opIsX 21 cl fun _ => true) (eVar 3))))) (sCons (sRet (eC (.bl false)))
    sNil) sNil)
    (sCons (sRet (eAnd (eEq (eCall (F__law_kinds cl) (esCons (eVar 3) esNil)) (eComp true (iRange (esCons (eC (.int 20)) esNil)) (.nm 5) [5] tYesE (eEq (eVar 5) (eVar 0)))) (eCall (F__law_same 4) (esCons (eUn opVal (eVar 3)) (esCons (eVar 1) esNil)))))
    sNil))))
noncomputable def F__law_right (cl : Nat → Addr) : Fn := fnF 6 (b__law_right cl)
noncomputable def b__law_base_right (cl : Nat → Addr) : EvS := (sCons (sAsg (eC .non) (gtName 1))
    (sCons (sTry 21 cl (sCons (sRaise 0 (eVar 0))
    sNil) [(0, some 2, (sCons (sAsg (eVar 2) (gtName 1))
    sNil))])
    (sCons (sIf (tOrE (tNotT (tTru (eUn (opIsX 21 cl fun _ => true) (eVar 1)))) (tBl (eBin (opIn false) (eC (.bl true)) (eCall (F__law_kinds cl) (esCons (eVar 1) esNil))))) (sCons (sRet (eC (.bl false)))
    sNil) sNil)
    (sCons (sRet (eAnd (eCall (F__law_same 4) (esCons (eUn opVal (eVar 1)) (esCons (eVar 0) esNil))) (eCall (F__law_same 4) (esCons (eVar 0) (esCons (eVar 0) esNil)))))
    sNil))))
noncomputable def F__law_base_right (cl : Nat → Addr) : Fn := fnF 3 (b__law_base_right cl)
noncomputable def b_law_1 (cl : Nat → Addr) : EvS := (sCons (sAsg (eCall F__law_deck (esCons (eVar 0) (esCons (eVar 3) esNil))) (gtName 4))
    (sCons (sPar 5 6 (eCall F__law_take (esCons (eVar 4) (esCons (eC (.int 20)) esNil))) (eEq (eCall F__law_take (esCons (eVar 4) (esCons (eC (.int 2)) esNil))) (eC (.int 1))))
    (sCons (sPar 7 8 (eCall F__law_given (esCons (eVar 4) esNil)) (eCall F__law_given (esCons (eVar 4) esNil)))
    (sCons (sIf (tOrE (tNotT (tTru (eCall (F__law_right cl) (esCons (eVar 5) (esCons (eVar 7) (esCons (eVar 6) esNil)))))) (tOrE (tNotT (tTru (eCall (F__law_right cl) (esCons (eVar 5) (esCons (eVar 8) (esCons (eNot (eVar 6)) esNil)))))) (tNotT (tTru (eCall (F__law_base_right cl) (esCons (eVar 8) esNil)))))) (sCons (sRet (eC (.bl false)))
    sNil) sNil)
    (sCons (sTry 21 cl (sCons (sExp (eCall F__law_raised (esCons (eVar 5) (esCons (eVar 7) (esCons (eVar 6) esNil)))))
    sNil) [(0, some 9, (sCons (sAsg (eVar 9) (gtName 1))
    sNil))])
    (sCons (sTry 21 cl (sCons (sExp (eCall F__law_raised (esCons (eVar 5) (esCons (eVar 8) (esCons (eVar 6) esNil)))))
    sNil) [(0, some 9, (sCons (sAsg (eVar 9) (gtName 2))
    sNil))])
    (sCons (sIf (tOrE (tNotT (tTru (eCall (F__law_same 4) (esCons (eUn opVal (eVar 1)) (esCons (eVar 7) esNil))))) (tNotT (tTru (eCall (F__law_same 4) (esCons (eUn opVal (eVar 2)) (esCons (eVar 8) esNil)))))) (sCons (sRet (eC (.bl false)))
    sNil) sNil)
    sNil)))))))
noncomputable def b_law_2 (cl : Nat → Addr) : EvS := (sCons (sIf (tOrE (tNotT (tTru (eCall (F__law_right cl) (esCons (eVar 5) (esCons (eVar 5) (esCons (eC (.bl false)) esNil)))))) (tNotT (tTru (eCall (F__law_right cl) (esCons (eVar 5) (esCons (eC (.str "a")) (esCons (eC (.bl true)) esNil))))))) (sCons (sRet (eC (.bl false)))
    sNil) sNil)
    sNil)
noncomputable def b_law (cl : Nat → Addr) : EvS := (sCons (sAsg (eTup (esCons (eC .non) (esCons (eC .non) esNil))) (gtTup 2 (gtsCons (gtName 1) (gtsCons (gtName 2) gtsNil))))
    (sCons (sFor (iRange (esCons (eB (opMm2 true) (esCons (eC (.int 1)) (esCons (eB (opMm2 false) (esCons (eB opLen (esCons (eVar 0) esNil)) (esCons (eC (.int 40)) esNil))) esNil))) esNil)) (gtName 3) (b_law_1 cl))
    (sCons (sFor (iRange (esCons (eC (.int 20)) esNil)) (gtName 5) (b_law_2 cl))
    (sCons (sRet (eC (.bl true)))
    sNil))))
noncomputable def F_law (cl : Nat → Addr) : Fn := fnF 10 (b_law cl)
end K00
end
section
set_option Elab.async false
set_option linter.all false
set_option maxRecDepth 100000
set_option maxHeartbeats 4000000
open Classical
namespace K00
open PySem PySem.Spec PyProof.Rows L2 SX
section
variable {P : Program} {w : World} {K : PySem.W.Frag} {mg : Str → Option Value} {base : Heap} {cl : Nat → Addr}
theorem fno_ok {T : List Addr} {k : Nat} {f : Addr} {fd : FuncData} {ps : List Str} : FOk P w K mg base T cl k f fd ps (fun _ _ => .no) :=
  ⟨fun vs H Q E ⟨_, _, _, _, _, _, q⟩ => q.elim, fun A outer s H args us vs Q E _ _ _ _ ⟨_, _, _, _, _, _, q⟩ => q.elim⟩
theorem ok__law_deck (t : Tp K mg) (TB : Tbs t base) (XB : XAll P w K mg base ["OrderError", "InvalidOrder", "InvalidPattern", "InvalidList", "InvalidForm", "InvalidLetter", "InvalidWord", "InvalidKind", "InvalidNumber", "InvalidPair", "InvalidMachine", "NoMachine", "InvalidTape", "InvalidSorter", "InvalidSaying", "InvalidName", "NotLet", "UnknownName", "NothingToUndo", "Unreadable", "Unorderly"] cl) : FOk P w K mg base (Tl t) cl 1 t.f__law_deck t.fd__law_deck ["script", "k"] F__law_deck := by
  refine se_fn t.F__law_deck sc__law_deck fun cdv A outer s H E hr => ?_
  have nd := sc__law_deck.nd
  have tk : Takes (cxOf (L2.CX P w) P w K mg base ["script", "k", "cell", "stir"] "_law_deck" (defScope s__law_deck) t.f__law_deck cdv A outer s H E) (fun cls d _ H => E cls d H) := takes_of rfl rfl rfl rfl
  exact (ss_cons (ss_set (i := 2) (fun _ h => ps_set (i := 2) nd rfl (by first | exact .inl rfl | exact .inr rfl) h) se_int)
    (ss_cons (ss_if (st_bin (fun _ _ h1 h2 => pt_cmpR op_lt h1 h2 (nomark _)) opB_ok opB_calm (se_var (pv 1)) (se_len (by rfl) t.z_len (sa_cons (se_var (pv 0)) sa_nil))) (ss_cons (ss_set (i := 2) (fun _ h => ps_set (i := 2) nd rfl (by first | exact .inl rfl | exact .inr rfl) h) (se_ix (fun _ _ => rfl) (se_var (pv 0)) (se_var (pv 1))))
    ss_nil) ss_nil)
    (ss_cons (ss_set (i := 3) (fun _ h => ps_set (i := 3) nd rfl (by first | exact .inl rfl | exact .inr rfl) h) (se_mod (se_int1 (by rfl) t.z_int (sa_cons (se_add mkF mkF_ok (se_add mkF mkF_ok (se_var (pv 2)) (se_mul se_int (se_var (pv 1)))) se_int) sa_nil)) se_int))
    (ss_cons (ss_set (i := 3) (fun _ h => ps_set (i := 3) nd rfl (by first | exact .inl rfl | exact .inr rfl) h) (se_mod (se_int1 (by rfl) t.z_int (sa_cons (se_add mkF mkF_ok (se_add mkF mkF_ok (se_mul (se_mul (se_var (pv 3)) (se_var (pv 3))) (se_var (pv 3))) (se_mul se_int (se_var (pv 1)))) se_int) sa_nil)) se_int))
    (ss_cons (ss_if (st_bin (fun _ _ h1 h2 => pt_cmpR op_lt h1 h2 (nomark _)) opB_ok opB_calm (se_var (pv 2)) (se_pow se_int se_int)) (ss_cons (ss_ret (se_lst mkN mkN_ok (sa_cons se_int (sa_cons (se_var (pv 3)) sa_nil))))
    ss_nil) ss_nil)
    (ss_cons (ss_ret (se_lst mkN mkN_ok (sa_cons (se_sub (se_var (pv 2)) (se_pow se_int se_int)) (sa_cons (se_var (pv 3)) sa_nil))))
    ss_nil))))))
theorem ok__law_take (t : Tp K mg) (TB : Tbs t base) (XB : XAll P w K mg base ["OrderError", "InvalidOrder", "InvalidPattern", "InvalidList", "InvalidForm", "InvalidLetter", "InvalidWord", "InvalidKind", "InvalidNumber", "InvalidPair", "InvalidMachine", "NoMachine", "InvalidTape", "InvalidSorter", "InvalidSaying", "InvalidName", "NotLet", "UnknownName", "NothingToUndo", "Unreadable", "Unorderly"] cl) : FOk P w K mg base (Tl t) cl 1 t.f__law_take t.fd__law_take ["deck", "many"] F__law_take := by
  refine se_fn t.F__law_take sc__law_take fun cdv A outer s H E hr => ?_
  have nd := sc__law_take.nd
  have tk : Takes (cxOf (L2.CX P w) P w K mg base ["deck", "many", "taken"] "_law_take" (defScope s__law_take) t.f__law_take cdv A outer s H E) (fun cls d _ H => E cls d H) := takes_of rfl rfl rfl rfl
  exact (ss_cons (ss_if (st_bin (fun _ _ h1 h2 => pt_cmpR op_gt h1 h2 (nomark _)) opB_ok opB_calm (se_ix (fun _ _ => rfl) (se_var (pv 0)) se_int) se_int) (ss_cons (ss_set (i := 2) (fun _ h => ps_set (i := 2) nd rfl (by first | exact .inl rfl | exact .inr rfl) h) (se_mod (se_int1 (by rfl) t.z_int (sa_cons (se_ix (fun _ _ => rfl) (se_var (pv 0)) se_int) sa_nil)) (se_var (pv 1))))
    (ss_cons (ss_asg (se_fdiv (se_ix (fun _ _ => rfl) (se_var (pv 0)) se_int) (se_var (pv 1))) (sg_sub (se_var (pv 0)) se_int))
    (ss_cons (ss_ret (se_var (pv 2)))
    ss_nil))) ss_nil)
    (ss_cons (ss_asg (se_mod (se_int1 (by rfl) t.z_int (sa_cons (se_add mkF mkF_ok (se_mul (se_ix (fun _ _ => rfl) (se_var (pv 0)) se_int) se_int) se_int) sa_nil)) (se_pow se_int se_int)) (sg_sub (se_var (pv 0)) se_int))
    (ss_cons (ss_ret (se_mod (se_fdiv (se_ix (fun _ _ => rfl) (se_var (pv 0)) se_int) (se_pow se_int se_int)) (se_var (pv 1))))
    ss_nil)))
theorem ok__law_given (t : Tp K mg) (TB : Tbs t base) (XB : XAll P w K mg base ["OrderError", "InvalidOrder", "InvalidPattern", "InvalidList", "InvalidForm", "InvalidLetter", "InvalidWord", "InvalidKind", "InvalidNumber", "InvalidPair", "InvalidMachine", "NoMachine", "InvalidTape", "InvalidSorter", "InvalidSaying", "InvalidName", "NotLet", "UnknownName", "NothingToUndo", "Unreadable", "Unorderly"] cl) : FOk P w K mg base (Tl t) cl 2 t.f__law_given t.fd__law_given ["deck"] F__law_given := by
  refine se_fn t.F__law_given sc__law_given fun cdv A outer s H E hr => ?_
  have nd := sc__law_given.nd
  have tk : Takes (cxOf (L2.CX P w) P w K mg base ["deck", "far", "some"] "_law_given" (defScope s__law_given) t.f__law_given cdv A outer s H E) (fun cls d _ H => E cls d H) := takes_of rfl rfl rfl rfl
  exact (ss_cons (ss_set (i := 1) (fun _ h => ps_set (i := 1) nd rfl (by first | exact .inl rfl | exact .inr rfl) h) (se_sub (se_call ((ok__law_take t TB XB).mono (by decide)) hr (by rfl) t.g__law_take t.F__law_take.kp t.b__law_take tk (sa_cons (se_var (pv 0)) (sa_cons (se_pow se_int se_int) sa_nil)) (cnt_cons (cnt_cons cnt_nil))) (se_pow se_int se_int)))
    (ss_cons (ss_set (i := 2) (fun _ h => ps_set (i := 2) nd rfl (by first | exact .inl rfl | exact .inr rfl) h) (se_lst mkF mkF_ok (sa_cons (se_var (pv 1)) (sa_cons (se_call ((ok__law_take t TB XB).mono (by decide)) hr (by rfl) t.g__law_take t.F__law_take.kp t.b__law_take tk (sa_cons (se_var (pv 0)) (sa_cons se_int sa_nil)) (cnt_cons (cnt_cons cnt_nil))) (sa_cons se_str (sa_cons se_str (sa_cons se_non (sa_cons se_bl (sa_cons se_bl (sa_cons (se_tup sa_nil) (sa_cons (se_tup (sa_cons (se_var (pv 1)) (sa_cons se_int sa_nil))) (sa_cons (se_lst mkF mkF_ok (sa_cons (se_var (pv 1)) (sa_cons se_str sa_nil))) (sa_cons (se_tup (sa_cons (se_tup (sa_cons se_int (sa_cons se_int sa_nil))) (sa_cons (se_tup (sa_cons se_str (sa_cons (se_tup sa_nil) sa_nil))) sa_nil))) (sa_cons (se_lst mkF mkF_ok sa_nil) (sa_cons (se_neg se_int) (sa_cons se_int sa_nil))))))))))))))))
    (ss_cons (ss_ret (se_ix (fun _ _ => rfl) (se_var (pv 2)) (se_call ((ok__law_take t TB XB).mono (by decide)) hr (by rfl) t.g__law_take t.F__law_take.kp t.b__law_take tk (sa_cons (se_var (pv 0)) (sa_cons se_int sa_nil)) (cnt_cons (cnt_cons cnt_nil)))))
    ss_nil)))
theorem ok__law_raise_named_first (t : Tp K mg) (TB : Tbs t base) (XB : XAll P w K mg base ["OrderError", "InvalidOrder", "InvalidPattern", "InvalidList", "InvalidForm", "InvalidLetter", "InvalidWord", "InvalidKind", "InvalidNumber", "InvalidPair", "InvalidMachine", "NoMachine", "InvalidTape", "InvalidSorter", "InvalidSaying", "InvalidName", "NotLet", "UnknownName", "NothingToUndo", "Unreadable", "Unorderly"] cl) : FOk P w K mg base (Tl t) cl 3 t.f__law_raise_named_first t.fd__law_raise_named_first ["which", "given"] F__law_raise_named_first := by
  refine se_fn t.F__law_raise_named_first sc__law_raise_named_first fun cdv A outer s H E hr => ?_
  have nd := sc__law_raise_named_first.nd
  have tk : Takes (cxOf (L2.CX P w) P w K mg base ["which", "given"] "_law_raise_named_first" (defScope s__law_raise_named_first) t.f__law_raise_named_first cdv A outer s H E) (fun cls d _ H => E cls d H) := takes_of rfl rfl rfl rfl
  exact (ss_cons (ss_if (st_bin (fun _ _ h1 h2 => pt_cmpR (op_eqD hr.units) h1 h2 (nomark _)) (fun _ _ _ _ _ _ _ _ _ R rx ry h => opEq_pre R rx ry h) opEq_calm (se_var (pv 0)) se_int) (ss_cons (ss_raiseK (c := 1) rfl (XB.c 1 (by decide)) (hr.mono (by decide)) tk (by rfl) (XB.g 1 _ rfl) (se_var (pv 1)))
    ss_nil) ss_nil)
    (ss_cons (ss_if (st_bin (fun _ _ h1 h2 => pt_cmpR (op_eqD hr.units) h1 h2 (nomark _)) (fun _ _ _ _ _ _ _ _ _ R rx ry h => opEq_pre R rx ry h) opEq_calm (se_var (pv 0)) se_int) (ss_cons (ss_raiseK (c := 2) rfl (XB.c 2 (by decide)) (hr.mono (by decide)) tk (by rfl) (XB.g 2 _ rfl) (se_var (pv 1)))
    ss_nil) ss_nil)
    (ss_cons (ss_if (st_bin (fun _ _ h1 h2 => pt_cmpR (op_eqD hr.units) h1 h2 (nomark _)) (fun _ _ _ _ _ _ _ _ _ R rx ry h => opEq_pre R rx ry h) opEq_calm (se_var (pv 0)) se_int) (ss_cons (ss_raiseK (c := 3) rfl (XB.c 3 (by decide)) (hr.mono (by decide)) tk (by rfl) (XB.g 3 _ rfl) (se_var (pv 1)))
    ss_nil) ss_nil)
    (ss_cons (ss_if (st_bin (fun _ _ h1 h2 => pt_cmpR (op_eqD hr.units) h1 h2 (nomark _)) (fun _ _ _ _ _ _ _ _ _ R rx ry h => opEq_pre R rx ry h) opEq_calm (se_var (pv 0)) se_int) (ss_cons (ss_raiseK (c := 4) rfl (XB.c 4 (by decide)) (hr.mono (by decide)) tk (by rfl) (XB.g 4 _ rfl) (se_var (pv 1)))
    ss_nil) ss_nil)
    (ss_cons (ss_if (st_bin (fun _ _ h1 h2 => pt_cmpR (op_eqD hr.units) h1 h2 (nomark _)) (fun _ _ _ _ _ _ _ _ _ R rx ry h => opEq_pre R rx ry h) opEq_calm (se_var (pv 0)) se_int) (ss_cons (ss_raiseK (c := 5) rfl (XB.c 5 (by decide)) (hr.mono (by decide)) tk (by rfl) (XB.g 5 _ rfl) (se_var (pv 1)))
    ss_nil) ss_nil)
    (ss_cons (ss_if (st_bin (fun _ _ h1 h2 => pt_cmpR (op_eqD hr.units) h1 h2 (nomark _)) (fun _ _ _ _ _ _ _ _ _ R rx ry h => opEq_pre R rx ry h) opEq_calm (se_var (pv 0)) se_int) (ss_cons (ss_raiseK (c := 6) rfl (XB.c 6 (by decide)) (hr.mono (by decide)) tk (by rfl) (XB.g 6 _ rfl) (se_var (pv 1)))
    ss_nil) ss_nil)
    (ss_cons (ss_if (st_bin (fun _ _ h1 h2 => pt_cmpR (op_eqD hr.units) h1 h2 (nomark _)) (fun _ _ _ _ _ _ _ _ _ R rx ry h => opEq_pre R rx ry h) opEq_calm (se_var (pv 0)) se_int) (ss_cons (ss_raiseK (c := 7) rfl (XB.c 7 (by decide)) (hr.mono (by decide)) tk (by rfl) (XB.g 7 _ rfl) (se_var (pv 1)))
    ss_nil) ss_nil)
    (ss_cons (ss_if (st_bin (fun _ _ h1 h2 => pt_cmpR (op_eqD hr.units) h1 h2 (nomark _)) (fun _ _ _ _ _ _ _ _ _ R rx ry h => opEq_pre R rx ry h) opEq_calm (se_var (pv 0)) se_int) (ss_cons (ss_raiseK (c := 8) rfl (XB.c 8 (by decide)) (hr.mono (by decide)) tk (by rfl) (XB.g 8 _ rfl) (se_var (pv 1)))
    ss_nil) ss_nil)
    (ss_cons (ss_if (st_bin (fun _ _ h1 h2 => pt_cmpR (op_eqD hr.units) h1 h2 (nomark _)) (fun _ _ _ _ _ _ _ _ _ R rx ry h => opEq_pre R rx ry h) opEq_calm (se_var (pv 0)) se_int) (ss_cons (ss_raiseK (c := 9) rfl (XB.c 9 (by decide)) (hr.mono (by decide)) tk (by rfl) (XB.g 9 _ rfl) (se_var (pv 1)))
    ss_nil) ss_nil)
    (ss_cons (ss_raiseK (c := 10) rfl (XB.c 10 (by decide)) (hr.mono (by decide)) tk (by rfl) (XB.g 10 _ rfl) (se_var (pv 1)))
    ss_nil))))))))))
theorem ok__law_raise_first (t : Tp K mg) (TB : Tbs t base) (XB : XAll P w K mg base ["OrderError", "InvalidOrder", "InvalidPattern", "InvalidList", "InvalidForm", "InvalidLetter", "InvalidWord", "InvalidKind", "InvalidNumber", "InvalidPair", "InvalidMachine", "NoMachine", "InvalidTape", "InvalidSorter", "InvalidSaying", "InvalidName", "NotLet", "UnknownName", "NothingToUndo", "Unreadable", "Unorderly"] cl) : FOk P w K mg base (Tl t) cl 3 t.f__law_raise_first t.fd__law_raise_first ["which", "given"] F__law_raise_first := by
  refine se_fn t.F__law_raise_first sc__law_raise_first fun cdv A outer s H E hr => ?_
  have nd := sc__law_raise_first.nd
  have tk : Takes (cxOf (L2.CX P w) P w K mg base ["which", "given"] "_law_raise_first" (defScope s__law_raise_first) t.f__law_raise_first cdv A outer s H E) (fun cls d _ H => E cls d H) := takes_of rfl rfl rfl rfl
  exact (ss_cons (ss_if (st_bin (fun _ _ h1 h2 => pt_cmpR (op_eqD hr.units) h1 h2 (nomark _)) (fun _ _ _ _ _ _ _ _ _ R rx ry h => opEq_pre R rx ry h) opEq_calm (se_var (pv 0)) se_int) (ss_cons (ss_raise (c := 1) rfl (XB.c 1 (by decide)) (hr.mono (by decide)) tk (by rfl) (XB.g 1 _ rfl) (se_var (pv 1)))
    ss_nil) ss_nil)
    (ss_cons (ss_if (st_bin (fun _ _ h1 h2 => pt_cmpR (op_eqD hr.units) h1 h2 (nomark _)) (fun _ _ _ _ _ _ _ _ _ R rx ry h => opEq_pre R rx ry h) opEq_calm (se_var (pv 0)) se_int) (ss_cons (ss_raise (c := 2) rfl (XB.c 2 (by decide)) (hr.mono (by decide)) tk (by rfl) (XB.g 2 _ rfl) (se_var (pv 1)))
    ss_nil) ss_nil)
    (ss_cons (ss_if (st_bin (fun _ _ h1 h2 => pt_cmpR (op_eqD hr.units) h1 h2 (nomark _)) (fun _ _ _ _ _ _ _ _ _ R rx ry h => opEq_pre R rx ry h) opEq_calm (se_var (pv 0)) se_int) (ss_cons (ss_raise (c := 3) rfl (XB.c 3 (by decide)) (hr.mono (by decide)) tk (by rfl) (XB.g 3 _ rfl) (se_var (pv 1)))
    ss_nil) ss_nil)
    (ss_cons (ss_if (st_bin (fun _ _ h1 h2 => pt_cmpR (op_eqD hr.units) h1 h2 (nomark _)) (fun _ _ _ _ _ _ _ _ _ R rx ry h => opEq_pre R rx ry h) opEq_calm (se_var (pv 0)) se_int) (ss_cons (ss_raise (c := 4) rfl (XB.c 4 (by decide)) (hr.mono (by decide)) tk (by rfl) (XB.g 4 _ rfl) (se_var (pv 1)))
    ss_nil) ss_nil)
    (ss_cons (ss_if (st_bin (fun _ _ h1 h2 => pt_cmpR (op_eqD hr.units) h1 h2 (nomark _)) (fun _ _ _ _ _ _ _ _ _ R rx ry h => opEq_pre R rx ry h) opEq_calm (se_var (pv 0)) se_int) (ss_cons (ss_raise (c := 5) rfl (XB.c 5 (by decide)) (hr.mono (by decide)) tk (by rfl) (XB.g 5 _ rfl) (se_var (pv 1)))
    ss_nil) ss_nil)
    (ss_cons (ss_if (st_bin (fun _ _ h1 h2 => pt_cmpR (op_eqD hr.units) h1 h2 (nomark _)) (fun _ _ _ _ _ _ _ _ _ R rx ry h => opEq_pre R rx ry h) opEq_calm (se_var (pv 0)) se_int) (ss_cons (ss_raise (c := 6) rfl (XB.c 6 (by decide)) (hr.mono (by decide)) tk (by rfl) (XB.g 6 _ rfl) (se_var (pv 1)))
    ss_nil) ss_nil)
    (ss_cons (ss_if (st_bin (fun _ _ h1 h2 => pt_cmpR (op_eqD hr.units) h1 h2 (nomark _)) (fun _ _ _ _ _ _ _ _ _ R rx ry h => opEq_pre R rx ry h) opEq_calm (se_var (pv 0)) se_int) (ss_cons (ss_raise (c := 7) rfl (XB.c 7 (by decide)) (hr.mono (by decide)) tk (by rfl) (XB.g 7 _ rfl) (se_var (pv 1)))
    ss_nil) ss_nil)
    (ss_cons (ss_if (st_bin (fun _ _ h1 h2 => pt_cmpR (op_eqD hr.units) h1 h2 (nomark _)) (fun _ _ _ _ _ _ _ _ _ R rx ry h => opEq_pre R rx ry h) opEq_calm (se_var (pv 0)) se_int) (ss_cons (ss_raise (c := 8) rfl (XB.c 8 (by decide)) (hr.mono (by decide)) tk (by rfl) (XB.g 8 _ rfl) (se_var (pv 1)))
    ss_nil) ss_nil)
    (ss_cons (ss_if (st_bin (fun _ _ h1 h2 => pt_cmpR (op_eqD hr.units) h1 h2 (nomark _)) (fun _ _ _ _ _ _ _ _ _ R rx ry h => opEq_pre R rx ry h) opEq_calm (se_var (pv 0)) se_int) (ss_cons (ss_raise (c := 9) rfl (XB.c 9 (by decide)) (hr.mono (by decide)) tk (by rfl) (XB.g 9 _ rfl) (se_var (pv 1)))
    ss_nil) ss_nil)
    (ss_cons (ss_raise (c := 10) rfl (XB.c 10 (by decide)) (hr.mono (by decide)) tk (by rfl) (XB.g 10 _ rfl) (se_var (pv 1)))
    ss_nil))))))))))
theorem ok__law_raise_named_second (t : Tp K mg) (TB : Tbs t base) (XB : XAll P w K mg base ["OrderError", "InvalidOrder", "InvalidPattern", "InvalidList", "InvalidForm", "InvalidLetter", "InvalidWord", "InvalidKind", "InvalidNumber", "InvalidPair", "InvalidMachine", "NoMachine", "InvalidTape", "InvalidSorter", "InvalidSaying", "InvalidName", "NotLet", "UnknownName", "NothingToUndo", "Unreadable", "Unorderly"] cl) : FOk P w K mg base (Tl t) cl 3 t.f__law_raise_named_second t.fd__law_raise_named_second ["which", "given"] F__law_raise_named_second := by
  refine se_fn t.F__law_raise_named_second sc__law_raise_named_second fun cdv A outer s H E hr => ?_
  have nd := sc__law_raise_named_second.nd
  have tk : Takes (cxOf (L2.CX P w) P w K mg base ["which", "given"] "_law_raise_named_second" (defScope s__law_raise_named_second) t.f__law_raise_named_second cdv A outer s H E) (fun cls d _ H => E cls d H) := takes_of rfl rfl rfl rfl
  exact (ss_cons (ss_if (st_bin (fun _ _ h1 h2 => pt_cmpR (op_eqD hr.units) h1 h2 (nomark _)) (fun _ _ _ _ _ _ _ _ _ R rx ry h => opEq_pre R rx ry h) opEq_calm (se_var (pv 0)) se_int) (ss_cons (ss_raiseK (c := 11) rfl (XB.c 11 (by decide)) (hr.mono (by decide)) tk (by rfl) (XB.g 11 _ rfl) (se_var (pv 1)))
    ss_nil) ss_nil)
    (ss_cons (ss_if (st_bin (fun _ _ h1 h2 => pt_cmpR (op_eqD hr.units) h1 h2 (nomark _)) (fun _ _ _ _ _ _ _ _ _ R rx ry h => opEq_pre R rx ry h) opEq_calm (se_var (pv 0)) se_int) (ss_cons (ss_raiseK (c := 12) rfl (XB.c 12 (by decide)) (hr.mono (by decide)) tk (by rfl) (XB.g 12 _ rfl) (se_var (pv 1)))
    ss_nil) ss_nil)
    (ss_cons (ss_if (st_bin (fun _ _ h1 h2 => pt_cmpR (op_eqD hr.units) h1 h2 (nomark _)) (fun _ _ _ _ _ _ _ _ _ R rx ry h => opEq_pre R rx ry h) opEq_calm (se_var (pv 0)) se_int) (ss_cons (ss_raiseK (c := 13) rfl (XB.c 13 (by decide)) (hr.mono (by decide)) tk (by rfl) (XB.g 13 _ rfl) (se_var (pv 1)))
    ss_nil) ss_nil)
    (ss_cons (ss_if (st_bin (fun _ _ h1 h2 => pt_cmpR (op_eqD hr.units) h1 h2 (nomark _)) (fun _ _ _ _ _ _ _ _ _ R rx ry h => opEq_pre R rx ry h) opEq_calm (se_var (pv 0)) se_int) (ss_cons (ss_raiseK (c := 14) rfl (XB.c 14 (by decide)) (hr.mono (by decide)) tk (by rfl) (XB.g 14 _ rfl) (se_var (pv 1)))
    ss_nil) ss_nil)
    (ss_cons (ss_if (st_bin (fun _ _ h1 h2 => pt_cmpR (op_eqD hr.units) h1 h2 (nomark _)) (fun _ _ _ _ _ _ _ _ _ R rx ry h => opEq_pre R rx ry h) opEq_calm (se_var (pv 0)) se_int) (ss_cons (ss_raiseK (c := 15) rfl (XB.c 15 (by decide)) (hr.mono (by decide)) tk (by rfl) (XB.g 15 _ rfl) (se_var (pv 1)))
    ss_nil) ss_nil)
    (ss_cons (ss_if (st_bin (fun _ _ h1 h2 => pt_cmpR (op_eqD hr.units) h1 h2 (nomark _)) (fun _ _ _ _ _ _ _ _ _ R rx ry h => opEq_pre R rx ry h) opEq_calm (se_var (pv 0)) se_int) (ss_cons (ss_raiseK (c := 16) rfl (XB.c 16 (by decide)) (hr.mono (by decide)) tk (by rfl) (XB.g 16 _ rfl) (se_var (pv 1)))
    ss_nil) ss_nil)
    (ss_cons (ss_if (st_bin (fun _ _ h1 h2 => pt_cmpR (op_eqD hr.units) h1 h2 (nomark _)) (fun _ _ _ _ _ _ _ _ _ R rx ry h => opEq_pre R rx ry h) opEq_calm (se_var (pv 0)) se_int) (ss_cons (ss_raiseK (c := 17) rfl (XB.c 17 (by decide)) (hr.mono (by decide)) tk (by rfl) (XB.g 17 _ rfl) (se_var (pv 1)))
    ss_nil) ss_nil)
    (ss_cons (ss_if (st_bin (fun _ _ h1 h2 => pt_cmpR (op_eqD hr.units) h1 h2 (nomark _)) (fun _ _ _ _ _ _ _ _ _ R rx ry h => opEq_pre R rx ry h) opEq_calm (se_var (pv 0)) se_int) (ss_cons (ss_raiseK (c := 18) rfl (XB.c 18 (by decide)) (hr.mono (by decide)) tk (by rfl) (XB.g 18 _ rfl) (se_var (pv 1)))
    ss_nil) ss_nil)
    (ss_cons (ss_if (st_bin (fun _ _ h1 h2 => pt_cmpR (op_eqD hr.units) h1 h2 (nomark _)) (fun _ _ _ _ _ _ _ _ _ R rx ry h => opEq_pre R rx ry h) opEq_calm (se_var (pv 0)) se_int) (ss_cons (ss_raiseK (c := 19) rfl (XB.c 19 (by decide)) (hr.mono (by decide)) tk (by rfl) (XB.g 19 _ rfl) (se_var (pv 1)))
    ss_nil) ss_nil)
    (ss_cons (ss_raiseK (c := 20) rfl (XB.c 20 (by decide)) (hr.mono (by decide)) tk (by rfl) (XB.g 20 _ rfl) (se_var (pv 1)))
    ss_nil))))))))))
theorem ok__law_raise_second (t : Tp K mg) (TB : Tbs t base) (XB : XAll P w K mg base ["OrderError", "InvalidOrder", "InvalidPattern", "InvalidList", "InvalidForm", "InvalidLetter", "InvalidWord", "InvalidKind", "InvalidNumber", "InvalidPair", "InvalidMachine", "NoMachine", "InvalidTape", "InvalidSorter", "InvalidSaying", "InvalidName", "NotLet", "UnknownName", "NothingToUndo", "Unreadable", "Unorderly"] cl) : FOk P w K mg base (Tl t) cl 3 t.f__law_raise_second t.fd__law_raise_second ["which", "given"] F__law_raise_second := by
  refine se_fn t.F__law_raise_second sc__law_raise_second fun cdv A outer s H E hr => ?_
  have nd := sc__law_raise_second.nd
  have tk : Takes (cxOf (L2.CX P w) P w K mg base ["which", "given"] "_law_raise_second" (defScope s__law_raise_second) t.f__law_raise_second cdv A outer s H E) (fun cls d _ H => E cls d H) := takes_of rfl rfl rfl rfl
  exact (ss_cons (ss_if (st_bin (fun _ _ h1 h2 => pt_cmpR (op_eqD hr.units) h1 h2 (nomark _)) (fun _ _ _ _ _ _ _ _ _ R rx ry h => opEq_pre R rx ry h) opEq_calm (se_var (pv 0)) se_int) (ss_cons (ss_raise (c := 11) rfl (XB.c 11 (by decide)) (hr.mono (by decide)) tk (by rfl) (XB.g 11 _ rfl) (se_var (pv 1)))
    ss_nil) ss_nil)
    (ss_cons (ss_if (st_bin (fun _ _ h1 h2 => pt_cmpR (op_eqD hr.units) h1 h2 (nomark _)) (fun _ _ _ _ _ _ _ _ _ R rx ry h => opEq_pre R rx ry h) opEq_calm (se_var (pv 0)) se_int) (ss_cons (ss_raise (c := 12) rfl (XB.c 12 (by decide)) (hr.mono (by decide)) tk (by rfl) (XB.g 12 _ rfl) (se_var (pv 1)))
    ss_nil) ss_nil)
    (ss_cons (ss_if (st_bin (fun _ _ h1 h2 => pt_cmpR (op_eqD hr.units) h1 h2 (nomark _)) (fun _ _ _ _ _ _ _ _ _ R rx ry h => opEq_pre R rx ry h) opEq_calm (se_var (pv 0)) se_int) (ss_cons (ss_raise (c := 13) rfl (XB.c 13 (by decide)) (hr.mono (by decide)) tk (by rfl) (XB.g 13 _ rfl) (se_var (pv 1)))
    ss_nil) ss_nil)
    (ss_cons (ss_if (st_bin (fun _ _ h1 h2 => pt_cmpR (op_eqD hr.units) h1 h2 (nomark _)) (fun _ _ _ _ _ _ _ _ _ R rx ry h => opEq_pre R rx ry h) opEq_calm (se_var (pv 0)) se_int) (ss_cons (ss_raise (c := 14) rfl (XB.c 14 (by decide)) (hr.mono (by decide)) tk (by rfl) (XB.g 14 _ rfl) (se_var (pv 1)))
    ss_nil) ss_nil)
    (ss_cons (ss_if (st_bin (fun _ _ h1 h2 => pt_cmpR (op_eqD hr.units) h1 h2 (nomark _)) (fun _ _ _ _ _ _ _ _ _ R rx ry h => opEq_pre R rx ry h) opEq_calm (se_var (pv 0)) se_int) (ss_cons (ss_raise (c := 15) rfl (XB.c 15 (by decide)) (hr.mono (by decide)) tk (by rfl) (XB.g 15 _ rfl) (se_var (pv 1)))
    ss_nil) ss_nil)
    (ss_cons (ss_if (st_bin (fun _ _ h1 h2 => pt_cmpR (op_eqD hr.units) h1 h2 (nomark _)) (fun _ _ _ _ _ _ _ _ _ R rx ry h => opEq_pre R rx ry h) opEq_calm (se_var (pv 0)) se_int) (ss_cons (ss_raise (c := 16) rfl (XB.c 16 (by decide)) (hr.mono (by decide)) tk (by rfl) (XB.g 16 _ rfl) (se_var (pv 1)))
    ss_nil) ss_nil)
    (ss_cons (ss_if (st_bin (fun _ _ h1 h2 => pt_cmpR (op_eqD hr.units) h1 h2 (nomark _)) (fun _ _ _ _ _ _ _ _ _ R rx ry h => opEq_pre R rx ry h) opEq_calm (se_var (pv 0)) se_int) (ss_cons (ss_raise (c := 17) rfl (XB.c 17 (by decide)) (hr.mono (by decide)) tk (by rfl) (XB.g 17 _ rfl) (se_var (pv 1)))
    ss_nil) ss_nil)
    (ss_cons (ss_if (st_bin (fun _ _ h1 h2 => pt_cmpR (op_eqD hr.units) h1 h2 (nomark _)) (fun _ _ _ _ _ _ _ _ _ R rx ry h => opEq_pre R rx ry h) opEq_calm (se_var (pv 0)) se_int) (ss_cons (ss_raise (c := 18) rfl (XB.c 18 (by decide)) (hr.mono (by decide)) tk (by rfl) (XB.g 18 _ rfl) (se_var (pv 1)))
    ss_nil) ss_nil)
    (ss_cons (ss_if (st_bin (fun _ _ h1 h2 => pt_cmpR (op_eqD hr.units) h1 h2 (nomark _)) (fun _ _ _ _ _ _ _ _ _ R rx ry h => opEq_pre R rx ry h) opEq_calm (se_var (pv 0)) se_int) (ss_cons (ss_raise (c := 19) rfl (XB.c 19 (by decide)) (hr.mono (by decide)) tk (by rfl) (XB.g 19 _ rfl) (se_var (pv 1)))
    ss_nil) ss_nil)
    (ss_cons (ss_raise (c := 20) rfl (XB.c 20 (by decide)) (hr.mono (by decide)) tk (by rfl) (XB.g 20 _ rfl) (se_var (pv 1)))
    ss_nil))))))))))
theorem ok__law_raised (t : Tp K mg) (TB : Tbs t base) (XB : XAll P w K mg base ["OrderError", "InvalidOrder", "InvalidPattern", "InvalidList", "InvalidForm", "InvalidLetter", "InvalidWord", "InvalidKind", "InvalidNumber", "InvalidPair", "InvalidMachine", "NoMachine", "InvalidTape", "InvalidSorter", "InvalidSaying", "InvalidName", "NotLet", "UnknownName", "NothingToUndo", "Unreadable", "Unorderly"] cl) : FOk P w K mg base (Tl t) cl 4 t.f__law_raised t.fd__law_raised ["which", "given", "named"] F__law_raised := by
  refine se_fn t.F__law_raised sc__law_raised fun cdv A outer s H E hr => ?_
  have nd := sc__law_raised.nd
  have tk : Takes (cxOf (L2.CX P w) P w K mg base ["which", "given", "named"] "_law_raised" (defScope s__law_raised) t.f__law_raised cdv A outer s H E) (fun cls d _ H => E cls d H) := takes_of rfl rfl rfl rfl
  exact (ss_cons (ss_if (st_w (sw_and (st_bin (fun _ _ h1 h2 => pt_cmpR op_lt h1 h2 (nomark _)) opB_ok opB_calm (se_var (pv 0)) se_int) (sw_and1 (st_tru (se_var (pv 2)))))) (ss_cons (ss_expr (se_call ((ok__law_raise_named_first t TB XB).mono (by decide)) hr (by rfl) t.g__law_raise_named_first t.F__law_raise_named_first.kp t.b__law_raise_named_first tk (sa_cons (se_var (pv 0)) (sa_cons (se_var (pv 1)) sa_nil)) (cnt_cons (cnt_cons cnt_nil))))
    ss_nil) (ss_cons (ss_if (st_bin (fun _ _ h1 h2 => pt_cmpR op_lt h1 h2 (nomark _)) opB_ok opB_calm (se_var (pv 0)) se_int) (ss_cons (ss_expr (se_call ((ok__law_raise_first t TB XB).mono (by decide)) hr (by rfl) t.g__law_raise_first t.F__law_raise_first.kp t.b__law_raise_first tk (sa_cons (se_var (pv 0)) (sa_cons (se_var (pv 1)) sa_nil)) (cnt_cons (cnt_cons cnt_nil))))
    ss_nil) (ss_cons (ss_if (st_tru (se_var (pv 2))) (ss_cons (ss_expr (se_call ((ok__law_raise_named_second t TB XB).mono (by decide)) hr (by rfl) t.g__law_raise_named_second t.F__law_raise_named_second.kp t.b__law_raise_named_second tk (sa_cons (se_var (pv 0)) (sa_cons (se_var (pv 1)) sa_nil)) (cnt_cons (cnt_cons cnt_nil))))
    ss_nil) (ss_cons (ss_expr (se_call ((ok__law_raise_second t TB XB).mono (by decide)) hr (by rfl) t.g__law_raise_second t.F__law_raise_second.kp t.b__law_raise_second tk (sa_cons (se_var (pv 0)) (sa_cons (se_var (pv 1)) sa_nil)) (cnt_cons (cnt_cons cnt_nil))))
    ss_nil))
    ss_nil))
    ss_nil))
    ss_nil)
theorem ok__law_same (t : Tp K mg) (TB : Tbs t base) (XB : XAll P w K mg base ["OrderError", "InvalidOrder", "InvalidPattern", "InvalidList", "InvalidForm", "InvalidLetter", "InvalidWord", "InvalidKind", "InvalidNumber", "InvalidPair", "InvalidMachine", "NoMachine", "InvalidTape", "InvalidSorter", "InvalidSaying", "InvalidName", "NotLet", "UnknownName", "NothingToUndo", "Unreadable", "Unorderly"] cl) : ∀ n : Nat, FOk P w K mg base (Tl t) cl n t.f__law_same t.fd__law_same ["found", "due"] (F__law_same n)
  | 0 => fno_ok
  | n + 1 => by
    have ih := ok__law_same t TB XB n
    refine se_fn t.F__law_same sc__law_same fun cdv A outer s H E hr => ?_
    have nd := sc__law_same.nd
    have tk : Takes (cxOf (L2.CX P w) P w K mg base ["found", "due", "k"] "_law_same" (defScope s__law_same) t.f__law_same cdv A outer s H E) (fun cls d _ H => E cls d H) := takes_of rfl rfl rfl rfl
    exact (ss_cons (ss_if (st_tru (se_isi2 .tuple .list rfl rfl (by rfl) t.z_isinstance (by rfl) t.z_tuple (by rfl) t.z_list (se_var (pv 1)))) (ss_cons (ss_if (st_w (sw_or (st_bin (fun _ _ h1 h2 => pt_cmpR (op_neD hr.units) h1 h2 (nomark _)) (fun _ _ _ _ _ _ _ _ _ R rx ry h => opEq_pre R rx ry h) opEq_calm (se_isi .tuple rfl (by rfl) t.z_isinstance (by rfl) t.z_tuple (se_var (pv 0))) (se_isi .tuple rfl (by rfl) t.z_isinstance (by rfl) t.z_tuple (se_var (pv 1)))) (sw_or1 (st_bin (fun _ _ h1 h2 => pt_cmpR (op_neD hr.units) h1 h2 (nomark _)) (fun _ _ _ _ _ _ _ _ _ R rx ry h => opEq_pre R rx ry h) opEq_calm (se_isi .list rfl (by rfl) t.z_isinstance (by rfl) t.z_list (se_var (pv 0))) (se_isi .list rfl (by rfl) t.z_isinstance (by rfl) t.z_list (se_var (pv 1))))))) (ss_cons (ss_ret se_bl)
    ss_nil) ss_nil)
    (ss_cons (ss_if (st_bin (fun _ _ h1 h2 => pt_cmpR (op_neD hr.units) h1 h2 (nomark _)) (fun _ _ _ _ _ _ _ _ _ R rx ry h => opEq_pre R rx ry h) opEq_calm (se_len (by rfl) t.z_len (sa_cons (se_var (pv 0)) sa_nil)) (se_len (by rfl) t.z_len (sa_cons (se_var (pv 1)) sa_nil))) (ss_cons (ss_ret se_bl)
    ss_nil) ss_nil)
    (ss_cons (ss_ret (se_eq hr (se_lc true (c := (.nm 2)) (own := [("k", 2)]) rfl nd (si_range1 (by rfl) t.z_range (sa_cons (se_len (by rfl) t.z_len (sa_cons (se_var (pv 1)) sa_nil)) sa_nil) (cnt_cons cnt_nil)) (blkOk_by (own := [("k", 2)]) (by first | decide +kernel | rfl | with_unfolding_all rfl)) (by decide) (fun _ _ _ _ _ => (pg_name (i := 2) nd rfl (by first | exact .inl rfl | exact .inr rfl))) (fun _ _ _ _ _ => (sts_one (st_not (st_tru (se_call ih hr (by rfl) t.g__law_same t.F__law_same.kp t.b__law_same takes0 (sa_cons (se_ix (fun _ _ => rfl) (se_var (pv 0)) (se_var (pv 2))) (sa_cons (se_ix (fun _ _ => rfl) (se_var (pv 1)) (se_var (pv 2))) sa_nil)) (cnt_cons (cnt_cons cnt_nil))))))) (fun _ _ _ _ _ => (se_var (pv 2)))) (se_lst mkF mkF_ok sa_nil)))
    ss_nil))) ss_nil)
    (ss_cons (ss_if (st_bin (fun _ _ h1 h2 => pt_cmpR op_isN h1 h2 (nomark _)) (fun _ _ _ _ _ _ _ _ _ R rx ry h => opIsN_pre R rx ry h) opIsN_calm (se_var (pv 1)) se_non) (ss_cons (ss_ret (se_isN (se_var (pv 0)) se_non))
    ss_nil) ss_nil)
    (ss_cons (ss_if (st_tru (se_isi .str rfl (by rfl) t.z_isinstance (by rfl) t.z_str (se_var (pv 1)))) (ss_cons (ss_ret (se_and (se_isi .str rfl (by rfl) t.z_isinstance (by rfl) t.z_str (se_var (pv 0))) (se_one (se_eq hr (se_var (pv 0)) (se_var (pv 1))))))
    ss_nil) ss_nil)
    (ss_cons (ss_if (st_w (sw_or (st_tru (se_isi .bool rfl (by rfl) t.z_isinstance (by rfl) t.z_bool (se_var (pv 1)))) (sw_or1 (st_tru (se_isi .bool rfl (by rfl) t.z_isinstance (by rfl) t.z_bool (se_var (pv 0))))))) (ss_cons (ss_ret (se_and (se_isi .bool rfl (by rfl) t.z_isinstance (by rfl) t.z_bool (se_var (pv 1))) (se_and (se_isi .bool rfl (by rfl) t.z_isinstance (by rfl) t.z_bool (se_var (pv 0))) (se_one (se_eq hr (se_var (pv 0)) (se_var (pv 1)))))))
    ss_nil) ss_nil)
    (ss_cons (ss_ret (se_and (se_isi .int rfl (by rfl) t.z_isinstance (by rfl) t.z_int (se_var (pv 0))) (se_one (se_eq hr (se_var (pv 0)) (se_var (pv 1))))))
    ss_nil)))))
theorem ok__law_kinds (t : Tp K mg) (TB : Tbs t base) (XB : XAll P w K mg base ["OrderError", "InvalidOrder", "InvalidPattern", "InvalidList", "InvalidForm", "InvalidLetter", "InvalidWord", "InvalidKind", "InvalidNumber", "InvalidPair", "InvalidMachine", "NoMachine", "InvalidTape", "InvalidSorter", "InvalidSaying", "InvalidName", "NotLet", "UnknownName", "NothingToUndo", "Unreadable", "Unorderly"] cl) : FOk P w K mg base (Tl t) cl 1 t.f__law_kinds t.fd__law_kinds ["e"] (F__law_kinds cl) := by
  refine se_fn t.F__law_kinds sc__law_kinds fun cdv A outer s H E hr => ?_
  have nd := sc__law_kinds.nd
  have tk : Takes (cxOf (L2.CX P w) P w K mg base ["e", "found"] "_law_kinds" (defScope s__law_kinds) t.f__law_kinds cdv A outer s H E) (fun cls d _ H => E cls d H) := takes_of rfl rfl rfl rfl
  exact (ss_cons (ss_set (i := 1) (fun _ h => ps_set (i := 1) nd rfl (by first | exact .inl rfl | exact .inr rfl) h) (se_lst mkF mkF_ok (sa_cons (se_isX (k := 1) (by decide) XB.s (by rfl) t.z_isinstance (by rfl) (XB.g 1 _ rfl) (by decide) (se_var (pv 0))) (sa_cons (se_isX (k := 2) (by decide) XB.s (by rfl) t.z_isinstance (by rfl) (XB.g 2 _ rfl) (by decide) (se_var (pv 0))) (sa_cons (se_isX (k := 3) (by decide) XB.s (by rfl) t.z_isinstance (by rfl) (XB.g 3 _ rfl) (by decide) (se_var (pv 0))) sa_nil)))))
    (ss_cons (ss_set (i := 1) (fun _ h => ps_set (i := 1) nd rfl (by first | exact .inl rfl | exact .inr rfl) h) (se_add mkF mkF_ok (se_var (pv 1)) (se_lst mkF mkF_ok (sa_cons (se_isX (k := 4) (by decide) XB.s (by rfl) t.z_isinstance (by rfl) (XB.g 4 _ rfl) (by decide) (se_var (pv 0))) (sa_cons (se_isX (k := 5) (by decide) XB.s (by rfl) t.z_isinstance (by rfl) (XB.g 5 _ rfl) (by decide) (se_var (pv 0))) (sa_cons (se_isX (k := 6) (by decide) XB.s (by rfl) t.z_isinstance (by rfl) (XB.g 6 _ rfl) (by decide) (se_var (pv 0))) sa_nil))))))
    (ss_cons (ss_set (i := 1) (fun _ h => ps_set (i := 1) nd rfl (by first | exact .inl rfl | exact .inr rfl) h) (se_add mkF mkF_ok (se_var (pv 1)) (se_lst mkF mkF_ok (sa_cons (se_isX (k := 7) (by decide) XB.s (by rfl) t.z_isinstance (by rfl) (XB.g 7 _ rfl) (by decide) (se_var (pv 0))) (sa_cons (se_isX (k := 8) (by decide) XB.s (by rfl) t.z_isinstance (by rfl) (XB.g 8 _ rfl) (by decide) (se_var (pv 0))) (sa_cons (se_isX (k := 9) (by decide) XB.s (by rfl) t.z_isinstance (by rfl) (XB.g 9 _ rfl) (by decide) (se_var (pv 0))) sa_nil))))))
    (ss_cons (ss_set (i := 1) (fun _ h => ps_set (i := 1) nd rfl (by first | exact .inl rfl | exact .inr rfl) h) (se_add mkF mkF_ok (se_var (pv 1)) (se_lst mkF mkF_ok (sa_cons (se_isX (k := 10) (by decide) XB.s (by rfl) t.z_isinstance (by rfl) (XB.g 10 _ rfl) (by decide) (se_var (pv 0))) (sa_cons (se_isX (k := 11) (by decide) XB.s (by rfl) t.z_isinstance (by rfl) (XB.g 11 _ rfl) (by decide) (se_var (pv 0))) (sa_cons (se_isX (k := 12) (by decide) XB.s (by rfl) t.z_isinstance (by rfl) (XB.g 12 _ rfl) (by decide) (se_var (pv 0))) sa_nil))))))
    (ss_cons (ss_set (i := 1) (fun _ h => ps_set (i := 1) nd rfl (by first | exact .inl rfl | exact .inr rfl) h) (se_add mkF mkF_ok (se_var (pv 1)) (se_lst mkF mkF_ok (sa_cons (se_isX (k := 13) (by decide) XB.s (by rfl) t.z_isinstance (by rfl) (XB.g 13 _ rfl) (by decide) (se_var (pv 0))) (sa_cons (se_isX (k := 14) (by decide) XB.s (by rfl) t.z_isinstance (by rfl) (XB.g 14 _ rfl) (by decide) (se_var (pv 0))) (sa_cons (se_isX (k := 15) (by decide) XB.s (by rfl) t.z_isinstance (by rfl) (XB.g 15 _ rfl) (by decide) (se_var (pv 0))) sa_nil))))))
    (ss_cons (ss_set (i := 1) (fun _ h => ps_set (i := 1) nd rfl (by first | exact .inl rfl | exact .inr rfl) h) (se_add mkF mkF_ok (se_var (pv 1)) (se_lst mkF mkF_ok (sa_cons (se_isX (k := 16) (by decide) XB.s (by rfl) t.z_isinstance (by rfl) (XB.g 16 _ rfl) (by decide) (se_var (pv 0))) (sa_cons (se_isX (k := 17) (by decide) XB.s (by rfl) t.z_isinstance (by rfl) (XB.g 17 _ rfl) (by decide) (se_var (pv 0))) (sa_cons (se_isX (k := 18) (by decide) XB.s (by rfl) t.z_isinstance (by rfl) (XB.g 18 _ rfl) (by decide) (se_var (pv 0))) sa_nil))))))
    (ss_cons (ss_ret (se_add mkF mkF_ok (se_var (pv 1)) (se_lst mkF mkF_ok (sa_cons (se_isX (k := 19) (by decide) XB.s (by rfl) t.z_isinstance (by rfl) (XB.g 19 _ rfl) (by decide) (se_var (pv 0))) (sa_cons (se_isX (k := 20) (by decide) XB.s (by rfl) t.z_isinstance (by rfl) (XB.g 20 _ rfl) (by decide) (se_var (pv 0))) sa_nil)))))
    ss_nil)))))))
theorem ok__law_right (t : Tp K mg) (TB : Tbs t base) (XB : XAll P w K mg base ["OrderError", "InvalidOrder", "InvalidPattern", "InvalidList", "InvalidForm", "InvalidLetter", "InvalidWord", "InvalidKind", "InvalidNumber", "InvalidPair", "InvalidMachine", "NoMachine", "InvalidTape", "InvalidSorter", "InvalidSaying", "InvalidName", "NotLet", "UnknownName", "NothingToUndo", "Unreadable", "Unorderly"] cl) : FOk P w K mg base (Tl t) cl 5 t.f__law_right t.fd__law_right ["which", "given", "named"] (F__law_right cl) := by
  refine se_fn t.F__law_right sc__law_right fun cdv A outer s H E hr => ?_
  have nd := sc__law_right.nd
  have tk : Takes (cxOf (L2.CX P w) P w K mg base ["which", "given", "named", "caught", "e", "k"] "_law_right" (defScope s__law_right) t.f__law_right cdv A outer s H E) (fun cls d _ H => E cls d H) := takes_of rfl rfl rfl rfl
  exact (ss_cons (ss_set (i := 3) (fun _ h => ps_set (i := 3) nd rfl (by first | exact .inl rfl | exact .inr rfl) h) se_non)
    (ss_cons (ss_try rfl rfl rfl nd XB.s tk (fun W pn xe tk => (ss_cons (ss_expr (se_call ((ok__law_raised t TB XB).mono (by decide)) hr (by rfl) t.g__law_raised t.F__law_raised.kp t.b__law_raised tk (sa_cons (se_var (pv 0)) (sa_cons (se_var (pv 1)) (sa_cons (se_var (pv 2)) sa_nil))) (cnt_cons (cnt_cons (cnt_cons cnt_nil)))))
    ss_nil)) (.as (k := 0) (by decide) (by rfl) (XB.g 0 _ rfl) (by decide) rfl rfl (fun a pn => (ss_cons (ss_set (i := 3) (fun _ h => ps_set (i := 3) nd rfl (by first | exact .inl rfl | exact .inr rfl) h) (se_var (pv 4)))
    ss_nil)) .nil))
    (ss_cons (ss_if (st_w (sw_or (st_bin (fun _ _ h1 h2 => pt_cmpR op_isN h1 h2 (nomark _)) (fun _ _ _ _ _ _ _ _ _ R rx ry h => opIsN_pre R rx ry h) opIsN_calm (se_var (pv 3)) se_non) (sw_or1 (st_not (st_tru (se_isV XB.s (by rfl) t.z_isinstance (by rfl) t.z_ValueError (se_var (pv 3)))))))) (ss_cons (ss_ret se_bl)
    ss_nil) ss_nil)
    (ss_cons (ss_ret (se_and (se_eq hr (se_call ((ok__law_kinds t TB XB).mono (by decide)) hr (by rfl) t.g__law_kinds t.F__law_kinds.kp t.b__law_kinds tk (sa_cons (se_var (pv 3)) sa_nil) (cnt_cons cnt_nil)) (se_lc true (c := (.nm 5)) (own := [("k", 5)]) rfl nd (si_range1 (by rfl) t.z_range (sa_cons se_int sa_nil) (cnt_cons cnt_nil)) (blkOk_by (own := [("k", 5)]) (by first | decide +kernel | rfl | with_unfolding_all rfl)) (by decide) (fun _ _ _ _ _ => (pg_name (i := 5) nd rfl (by first | exact .inl rfl | exact .inr rfl))) (fun _ _ _ _ _ => sts_nil) (fun _ _ _ _ _ => (se_eq hr (se_var (pv 5)) (se_var (pv 0)))))) (se_one (se_call ((ok__law_same t TB XB 4).mono (by decide)) hr (by rfl) t.g__law_same t.F__law_same.kp t.b__law_same tk (sa_cons (se_value (se_var (pv 3))) (sa_cons (se_var (pv 1)) sa_nil)) (cnt_cons (cnt_cons cnt_nil))))))
    ss_nil))))
theorem ok__law_base_right (t : Tp K mg) (TB : Tbs t base) (XB : XAll P w K mg base ["OrderError", "InvalidOrder", "InvalidPattern", "InvalidList", "InvalidForm", "InvalidLetter", "InvalidWord", "InvalidKind", "InvalidNumber", "InvalidPair", "InvalidMachine", "NoMachine", "InvalidTape", "InvalidSorter", "InvalidSaying", "InvalidName", "NotLet", "UnknownName", "NothingToUndo", "Unreadable", "Unorderly"] cl) : FOk P w K mg base (Tl t) cl 5 t.f__law_base_right t.fd__law_base_right ["given"] (F__law_base_right cl) := by
  refine se_fn t.F__law_base_right sc__law_base_right fun cdv A outer s H E hr => ?_
  have nd := sc__law_base_right.nd
  have tk : Takes (cxOf (L2.CX P w) P w K mg base ["given", "caught", "e"] "_law_base_right" (defScope s__law_base_right) t.f__law_base_right cdv A outer s H E) (fun cls d _ H => E cls d H) := takes_of rfl rfl rfl rfl
  exact (ss_cons (ss_set (i := 1) (fun _ h => ps_set (i := 1) nd rfl (by first | exact .inl rfl | exact .inr rfl) h) se_non)
    (ss_cons (ss_try rfl rfl rfl nd XB.s tk (fun W pn xe tk => (ss_cons (ss_raiseK (c := 0) rfl (XB.c 0 (by decide)) (hr.mono (by decide)) tk (by rfl) (XB.g 0 _ rfl) (se_var (pv 0)))
    ss_nil)) (.as (k := 0) (by decide) (by rfl) (XB.g 0 _ rfl) (by decide) rfl rfl (fun a pn => (ss_cons (ss_set (i := 1) (fun _ h => ps_set (i := 1) nd rfl (by first | exact .inl rfl | exact .inr rfl) h) (se_var (pv 2)))
    ss_nil)) .nil))
    (ss_cons (ss_if (st_w (sw_or (st_not (st_tru (se_isV XB.s (by rfl) t.z_isinstance (by rfl) t.z_ValueError (se_var (pv 1))))) (sw_or1 (st_bin (fun _ _ h1 h2 => pt_cmpR (op_inA (room65 hr)) h1 h2 rfl) (fun _ _ _ _ _ _ _ _ _ R rx ry h => opIn_pre R rx ry h) opIn_calm se_bl (se_call ((ok__law_kinds t TB XB).mono (by decide)) hr (by rfl) t.g__law_kinds t.F__law_kinds.kp t.b__law_kinds tk (sa_cons (se_var (pv 1)) sa_nil) (cnt_cons cnt_nil)))))) (ss_cons (ss_ret se_bl)
    ss_nil) ss_nil)
    (ss_cons (ss_ret (se_and (se_call ((ok__law_same t TB XB 4).mono (by decide)) hr (by rfl) t.g__law_same t.F__law_same.kp t.b__law_same tk (sa_cons (se_value (se_var (pv 1))) (sa_cons (se_var (pv 0)) sa_nil)) (cnt_cons (cnt_cons cnt_nil))) (se_one (se_call ((ok__law_same t TB XB 4).mono (by decide)) hr (by rfl) t.g__law_same t.F__law_same.kp t.b__law_same tk (sa_cons (se_mkVal (XB.c 0 (by decide)) (hr.mono (by decide)) (by rfl) (XB.g 0 _ rfl) (se_var (pv 0))) (sa_cons (se_var (pv 0)) sa_nil)) (cnt_cons (cnt_cons cnt_nil))))))
    ss_nil))))
theorem ok_law (t : Tp K mg) (TB : Tbs t base) (XB : XAll P w K mg base ["OrderError", "InvalidOrder", "InvalidPattern", "InvalidList", "InvalidForm", "InvalidLetter", "InvalidWord", "InvalidKind", "InvalidNumber", "InvalidPair", "InvalidMachine", "NoMachine", "InvalidTape", "InvalidSorter", "InvalidSaying", "InvalidName", "NotLet", "UnknownName", "NothingToUndo", "Unreadable", "Unorderly"] cl) : FOk P w K mg base (Tl t) cl 6 t.f_law t.fd_law ["script"] (F_law cl) := by
  refine se_fn t.F_law sc_law fun cdv A outer s H E hr => ?_
  have nd := sc_law.nd
  have tk : Takes (cxOf (L2.CX P w) P w K mg base ["script", "first", "second", "k", "deck", "which", "named", "given", "other", "e"] "law" (defScope s_law) t.f_law cdv A outer s H E) (fun cls d _ H => E cls d H) := takes_of rfl rfl rfl rfl
  exact (ss_cons (ss_asg (se_tup (sa_cons se_non (sa_cons se_non sa_nil))) (sg_tup rfl (sgs_cons (sg_name (pg_name (i := 1) nd rfl (by first | exact .inl rfl | exact .inr rfl))) (sgs_cons (sg_name (pg_name (i := 2) nd rfl (by first | exact .inl rfl | exact .inr rfl))) sgs_nil))))
    (ss_cons (ss_for (passes_of rfl) rfl (si_range1 (by rfl) t.z_range (sa_cons (se_mm2 true rfl rfl (by rfl) t.z_max (sa_cons se_int (sa_cons (se_mm2 false rfl rfl (by rfl) t.z_min (sa_cons (se_len (by rfl) t.z_len (sa_cons (se_var (pv 0)) sa_nil)) (sa_cons se_int sa_nil))) sa_nil))) sa_nil) (cnt_cons cnt_nil)) (sg_name (pg_name (i := 3) nd rfl (by first | exact .inl rfl | exact .inr rfl))) (ss_cons (ss_set (i := 4) (fun _ h => ps_set (i := 4) nd rfl (by first | exact .inl rfl | exact .inr rfl) h) (se_call ((ok__law_deck t TB XB).mono (by decide)) hr (by rfl) t.g__law_deck t.F__law_deck.kp t.b__law_deck tk (sa_cons (se_var (pv 0)) (sa_cons (se_var (pv 3)) sa_nil)) (cnt_cons (cnt_cons cnt_nil))))
    (ss_cons (ss_par (i := 5) (j := 6) (fun _ h => ps_par (by rfl) nd rfl rfl (by decide) rfl rfl h (by rfl)) (se_call ((ok__law_take t TB XB).mono (by decide)) hr (by rfl) t.g__law_take t.F__law_take.kp t.b__law_take tk (sa_cons (se_var (pv 4)) (sa_cons se_int sa_nil)) (cnt_cons (cnt_cons cnt_nil))) (se_eq hr (se_call ((ok__law_take t TB XB).mono (by decide)) hr (by rfl) t.g__law_take t.F__law_take.kp t.b__law_take tk (sa_cons (se_var (pv 4)) (sa_cons se_int sa_nil)) (cnt_cons (cnt_cons cnt_nil))) se_int))
    (ss_cons (ss_par (i := 7) (j := 8) (fun _ h => ps_par (by rfl) nd rfl rfl (by decide) rfl rfl h (by rfl)) (se_call ((ok__law_given t TB XB).mono (by decide)) hr (by rfl) t.g__law_given t.F__law_given.kp t.b__law_given tk (sa_cons (se_var (pv 4)) sa_nil) (cnt_cons cnt_nil)) (se_call ((ok__law_given t TB XB).mono (by decide)) hr (by rfl) t.g__law_given t.F__law_given.kp t.b__law_given tk (sa_cons (se_var (pv 4)) sa_nil) (cnt_cons cnt_nil)))
    (ss_cons (ss_if (st_w (sw_or (st_not (st_tru (se_call ((ok__law_right t TB XB).mono (by decide)) hr (by rfl) t.g__law_right t.F__law_right.kp t.b__law_right tk (sa_cons (se_var (pv 5)) (sa_cons (se_var (pv 7)) (sa_cons (se_var (pv 6)) sa_nil))) (cnt_cons (cnt_cons (cnt_cons cnt_nil)))))) (sw_or (st_not (st_tru (se_call ((ok__law_right t TB XB).mono (by decide)) hr (by rfl) t.g__law_right t.F__law_right.kp t.b__law_right tk (sa_cons (se_var (pv 5)) (sa_cons (se_var (pv 8)) (sa_cons (se_not (se_var (pv 6))) sa_nil))) (cnt_cons (cnt_cons (cnt_cons cnt_nil)))))) (sw_or1 (st_not (st_tru (se_call ((ok__law_base_right t TB XB).mono (by decide)) hr (by rfl) t.g__law_base_right t.F__law_base_right.kp t.b__law_base_right tk (sa_cons (se_var (pv 8)) sa_nil) (cnt_cons cnt_nil)))))))) (ss_cons (ss_ret se_bl)
    ss_nil) ss_nil)
    (ss_cons (ss_try rfl rfl rfl nd XB.s tk (fun W pn xe tk => (ss_cons (ss_expr (se_call ((ok__law_raised t TB XB).mono (by decide)) hr (by rfl) t.g__law_raised t.F__law_raised.kp t.b__law_raised tk (sa_cons (se_var (pv 5)) (sa_cons (se_var (pv 7)) (sa_cons (se_var (pv 6)) sa_nil))) (cnt_cons (cnt_cons (cnt_cons cnt_nil)))))
    ss_nil)) (.as (k := 0) (by decide) (by rfl) (XB.g 0 _ rfl) (by decide) rfl rfl (fun a pn => (ss_cons (ss_set (i := 1) (fun _ h => ps_set (i := 1) nd rfl (by first | exact .inl rfl | exact .inr rfl) h) (se_var (pv 9)))
    ss_nil)) .nil))
    (ss_cons (ss_try rfl rfl rfl nd XB.s tk (fun W pn xe tk => (ss_cons (ss_expr (se_call ((ok__law_raised t TB XB).mono (by decide)) hr (by rfl) t.g__law_raised t.F__law_raised.kp t.b__law_raised tk (sa_cons (se_var (pv 5)) (sa_cons (se_var (pv 8)) (sa_cons (se_var (pv 6)) sa_nil))) (cnt_cons (cnt_cons (cnt_cons cnt_nil)))))
    ss_nil)) (.as (k := 0) (by decide) (by rfl) (XB.g 0 _ rfl) (by decide) rfl rfl (fun a pn => (ss_cons (ss_set (i := 2) (fun _ h => ps_set (i := 2) nd rfl (by first | exact .inl rfl | exact .inr rfl) h) (se_var (pv 9)))
    ss_nil)) .nil))
    (ss_cons (ss_if (st_w (sw_or (st_not (st_tru (se_call ((ok__law_same t TB XB 4).mono (by decide)) hr (by rfl) t.g__law_same t.F__law_same.kp t.b__law_same tk (sa_cons (se_value (se_var (pv 1))) (sa_cons (se_var (pv 7)) sa_nil)) (cnt_cons (cnt_cons cnt_nil))))) (sw_or1 (st_not (st_tru (se_call ((ok__law_same t TB XB 4).mono (by decide)) hr (by rfl) t.g__law_same t.F__law_same.kp t.b__law_same tk (sa_cons (se_value (se_var (pv 2))) (sa_cons (se_var (pv 8)) sa_nil)) (cnt_cons (cnt_cons cnt_nil)))))))) (ss_cons (ss_ret se_bl)
    ss_nil) ss_nil)
    ss_nil))))))))
    (ss_cons (ss_for (passes_of rfl) rfl (si_range1 (by rfl) t.z_range (sa_cons se_int sa_nil) (cnt_cons cnt_nil)) (sg_name (pg_name (i := 5) nd rfl (by first | exact .inl rfl | exact .inr rfl))) (ss_cons (ss_if (st_w (sw_or (st_not (st_tru (se_call ((ok__law_right t TB XB).mono (by decide)) hr (by rfl) t.g__law_right t.F__law_right.kp t.b__law_right tk (sa_cons (se_var (pv 5)) (sa_cons (se_var (pv 5)) (sa_cons se_bl sa_nil))) (cnt_cons (cnt_cons (cnt_cons cnt_nil)))))) (sw_or1 (st_not (st_tru (se_call ((ok__law_right t TB XB).mono (by decide)) hr (by rfl) t.g__law_right t.F__law_right.kp t.b__law_right tk (sa_cons (se_var (pv 5)) (sa_cons se_str (sa_cons se_bl sa_nil))) (cnt_cons (cnt_cons (cnt_cons cnt_nil))))))))) (ss_cons (ss_ret se_bl)
    ss_nil) ss_nil)
    ss_nil))
    (ss_cons (ss_ret se_bl)
    ss_nil))))
end
end K00
end
section
set_option Elab.async false
set_option linter.all false
set_option maxRecDepth 100000
set_option maxHeartbeats 2000000
open Classical
namespace K00
open SX
/-! ### what is drawn -/
def Sm (n : Nat) (a b : D) : Prop := ∀ M, F__law_same n [a, b] M = .ok (.bl true) M
theorem sm_int (n : Nat) (i : Int) : Sm (n + 1) (.int i) (.int i) := fun M => by
  refine fnF_rt ?_ (noRef_bl _)
  show b__law_same (F__law_same n) [some (.int i), some (.int i), none] M = _
  unfold b__law_same
  (try simp (implicitDefEqProofs := false) only [sCons, sNil, sAsg, sRet, sRetN, sIf, sExp, sPar, gtName, eC, eBin, eUn, eB, eIf, eAnd, eOr, eNot, esCons, esNil, tBl, tTru, tNotT, tAndE, tOrE, Out.bind_ok, next_nx, next_rt, next_bk, eVar_z, eVar_s, List.set_cons_zero, List.set_cons_succ, List.map_cons, List.map_nil, List.cons_append, List.nil_append, List.length_cons, List.length_nil, List.replicate_succ, List.replicate_zero, wipeE, oNone, oSome])
  rw [show opIsi [.tuple, .list] (.int i) M = .ok (.bl false) M from rfl]
  (try simp (implicitDefEqProofs := false) only [sCons, sNil, sAsg, sRet, sRetN, sIf, sExp, sPar, gtName, eC, eBin, eUn, eB, eIf, eAnd, eOr, eNot, esCons, esNil, tBl, tTru, tNotT, tAndE, tOrE, Out.bind_ok, next_nx, next_rt, next_bk, eVar_z, eVar_s, List.set_cons_zero, List.set_cons_succ, List.map_cons, List.map_nil, List.cons_append, List.nil_append, List.length_cons, List.length_nil, List.replicate_succ, List.replicate_zero, wipeE, oNone, oSome])
  rw [truV_bl]
  simp only [oT, Out.bind_ok, Bool.false_eq_true, if_false, next_nx]
  (try simp (implicitDefEqProofs := false) only [sCons, sNil, sAsg, sRet, sRetN, sIf, sExp, sPar, gtName, eC, eBin, eUn, eB, eIf, eAnd, eOr, eNot, esCons, esNil, tBl, tTru, tNotT, tAndE, tOrE, Out.bind_ok, next_nx, next_rt, next_bk, eVar_z, eVar_s, List.set_cons_zero, List.set_cons_succ, List.map_cons, List.map_nil, List.cons_append, List.nil_append, List.length_cons, List.length_nil, List.replicate_succ, List.replicate_zero, wipeE, oNone, oSome])
  rw [show opIsN false (.int i) .non M = .ok (.bl false) M from rfl]
  (try simp (implicitDefEqProofs := false) only [sCons, sNil, sAsg, sRet, sRetN, sIf, sExp, sPar, gtName, eC, eBin, eUn, eB, eIf, eAnd, eOr, eNot, esCons, esNil, tBl, tTru, tNotT, tAndE, tOrE, Out.bind_ok, next_nx, next_rt, next_bk, eVar_z, eVar_s, List.set_cons_zero, List.set_cons_succ, List.map_cons, List.map_nil, List.cons_append, List.nil_append, List.length_cons, List.length_nil, List.replicate_succ, List.replicate_zero, wipeE, oNone, oSome])
  simp only [asB, oT, Out.bind_ok, Bool.false_eq_true, if_false, next_nx]
  (try simp (implicitDefEqProofs := false) only [sCons, sNil, sAsg, sRet, sRetN, sIf, sExp, sPar, gtName, eC, eBin, eUn, eB, eIf, eAnd, eOr, eNot, esCons, esNil, tBl, tTru, tNotT, tAndE, tOrE, Out.bind_ok, next_nx, next_rt, next_bk, eVar_z, eVar_s, List.set_cons_zero, List.set_cons_succ, List.map_cons, List.map_nil, List.cons_append, List.nil_append, List.length_cons, List.length_nil, List.replicate_succ, List.replicate_zero, wipeE, oNone, oSome])
  rw [show opIsi [.str] (.int i) M = .ok (.bl false) M from rfl]
  (try simp (implicitDefEqProofs := false) only [sCons, sNil, sAsg, sRet, sRetN, sIf, sExp, sPar, gtName, eC, eBin, eUn, eB, eIf, eAnd, eOr, eNot, esCons, esNil, tBl, tTru, tNotT, tAndE, tOrE, Out.bind_ok, next_nx, next_rt, next_bk, eVar_z, eVar_s, List.set_cons_zero, List.set_cons_succ, List.map_cons, List.map_nil, List.cons_append, List.nil_append, List.length_cons, List.length_nil, List.replicate_succ, List.replicate_zero, wipeE, oNone, oSome])
  rw [truV_bl]
  simp only [oT, Out.bind_ok, Bool.false_eq_true, if_false, next_nx]
  (try simp (implicitDefEqProofs := false) only [sCons, sNil, sAsg, sRet, sRetN, sIf, sExp, sPar, gtName, eC, eBin, eUn, eB, eIf, eAnd, eOr, eNot, esCons, esNil, tBl, tTru, tNotT, tAndE, tOrE, Out.bind_ok, next_nx, next_rt, next_bk, eVar_z, eVar_s, List.set_cons_zero, List.set_cons_succ, List.map_cons, List.map_nil, List.cons_append, List.nil_append, List.length_cons, List.length_nil, List.replicate_succ, List.replicate_zero, wipeE, oNone, oSome])
  rw [show opIsi [.bool] (.int i) M = .ok (.bl false) M from rfl]
  (try simp (implicitDefEqProofs := false) only [sCons, sNil, sAsg, sRet, sRetN, sIf, sExp, sPar, gtName, eC, eBin, eUn, eB, eIf, eAnd, eOr, eNot, esCons, esNil, tBl, tTru, tNotT, tAndE, tOrE, Out.bind_ok, next_nx, next_rt, next_bk, eVar_z, eVar_s, List.set_cons_zero, List.set_cons_succ, List.map_cons, List.map_nil, List.cons_append, List.nil_append, List.length_cons, List.length_nil, List.replicate_succ, List.replicate_zero, wipeE, oNone, oSome])
  rw [truV_bl]
  simp only [oT, Out.bind_ok, Bool.false_eq_true, if_false, next_nx]
  (try simp (implicitDefEqProofs := false) only [sCons, sNil, sAsg, sRet, sRetN, sIf, sExp, sPar, gtName, eC, eBin, eUn, eB, eIf, eAnd, eOr, eNot, esCons, esNil, tBl, tTru, tNotT, tAndE, tOrE, Out.bind_ok, next_nx, next_rt, next_bk, eVar_z, eVar_s, List.set_cons_zero, List.set_cons_succ, List.map_cons, List.map_nil, List.cons_append, List.nil_append, List.length_cons, List.length_nil, List.replicate_succ, List.replicate_zero, wipeE, oNone, oSome])
  rw [show opIsi [.bool] (.int i) M = .ok (.bl false) M from rfl]
  (try simp (implicitDefEqProofs := false) only [sCons, sNil, sAsg, sRet, sRetN, sIf, sExp, sPar, gtName, eC, eBin, eUn, eB, eIf, eAnd, eOr, eNot, esCons, esNil, tBl, tTru, tNotT, tAndE, tOrE, Out.bind_ok, next_nx, next_rt, next_bk, eVar_z, eVar_s, List.set_cons_zero, List.set_cons_succ, List.map_cons, List.map_nil, List.cons_append, List.nil_append, List.length_cons, List.length_nil, List.replicate_succ, List.replicate_zero, wipeE, oNone, oSome])
  rw [truV_bl]
  simp only [oT, Out.bind_ok, Bool.false_eq_true, if_false, next_nx]
  (try simp (implicitDefEqProofs := false) only [sCons, sNil, sAsg, sRet, sRetN, sIf, sExp, sPar, gtName, eC, eBin, eUn, eB, eIf, eAnd, eOr, eNot, esCons, esNil, tBl, tTru, tNotT, tAndE, tOrE, Out.bind_ok, next_nx, next_rt, next_bk, eVar_z, eVar_s, List.set_cons_zero, List.set_cons_succ, List.map_cons, List.map_nil, List.cons_append, List.nil_append, List.length_cons, List.length_nil, List.replicate_succ, List.replicate_zero, wipeE, oNone, oSome])
  (try simp (implicitDefEqProofs := false) only [sCons, sNil, sAsg, sRet, sRetN, sIf, sExp, sPar, gtName, eC, eBin, eUn, eB, eIf, eAnd, eOr, eNot, esCons, esNil, tBl, tTru, tNotT, tAndE, tOrE, Out.bind_ok, next_nx, next_rt, next_bk, eVar_z, eVar_s, List.set_cons_zero, List.set_cons_succ, List.map_cons, List.map_nil, List.cons_append, List.nil_append, List.length_cons, List.length_nil, List.replicate_succ, List.replicate_zero, wipeE, oNone, oSome])
  rw [show opIsi [.int] (.int i) M = .ok (.bl true) M from rfl]
  (try simp (implicitDefEqProofs := false) only [sCons, sNil, sAsg, sRet, sRetN, sIf, sExp, sPar, gtName, eC, eBin, eUn, eB, eIf, eAnd, eOr, eNot, esCons, esNil, tBl, tTru, tNotT, tAndE, tOrE, Out.bind_ok, next_nx, next_rt, next_bk, eVar_z, eVar_s, List.set_cons_zero, List.set_cons_succ, List.map_cons, List.map_nil, List.cons_append, List.nil_append, List.length_cons, List.length_nil, List.replicate_succ, List.replicate_zero, wipeE, oNone, oSome])
  rw [truV_bl]
  dsimp only
  rw [opEq_int]
  simp only [Bool.false_eq_true, if_false, decide_true]
  (try simp (implicitDefEqProofs := false) only [sCons, sNil, sAsg, sRet, sRetN, sIf, sExp, sPar, gtName, eC, eBin, eUn, eB, eIf, eAnd, eOr, eNot, esCons, esNil, tBl, tTru, tNotT, tAndE, tOrE, Out.bind_ok, next_nx, next_rt, next_bk, eVar_z, eVar_s, List.set_cons_zero, List.set_cons_succ, List.map_cons, List.map_nil, List.cons_append, List.nil_append, List.length_cons, List.length_nil, List.replicate_succ, List.replicate_zero, wipeE, oNone, oSome])
theorem same_comp {n : Nat} {x y : D} {as bs : List D} {M : List MO} (hx : ∀ M, asSeq M x = some as) (hy : ∀ M, asSeq M y = some bs) (hl : as.length = bs.length) (hz : bs.length ≤ 1000000) (h : ∀ (i : Nat) a b, as[i]? = some a → bs[i]? = some b → Sm n a b) (hlen : ∀ M, opLen [y] M = .ok (.int bs.length) M) :
    eComp true (iRange (esCons (eB opLen (esCons (eVar 1) esNil)) esNil)) (.nm 2) [2] (tNotT (tTru (eCall (F__law_same n) (esCons (eIx (eVar 0) (eVar 2)) (esCons (eIx (eVar 1) (eVar 2)) esNil))))) (eVar 2) [some x, some y, none] M = .ok (.lst (IL [])) M := by
  rw [eComp_frz (c := .nm 2) (vs := [2]) (ds := rng 0 bs.length) (chk := fun _ => True) (fun d => [some x, some y, some d]) (fun _ => false) id (iRange1 (M1 := M) (by (try simp (implicitDefEqProofs := false) only [sCons, sNil, sAsg, sRet, sRetN, sIf, sExp, sPar, gtName, eC, eBin, eUn, eB, eIf, eAnd, eOr, eNot, esCons, esNil, tBl, tTru, tNotT, tAndE, tOrE, Out.bind_ok, next_nx, next_rt, next_bk, eVar_z, eVar_s, List.set_cons_zero, List.set_cons_succ, List.map_cons, List.map_nil, List.cons_append, List.nil_append, List.length_cons, List.length_nil, List.replicate_succ, List.replicate_zero, wipeE, oNone, oSome]); rw [hlen]; (try simp (implicitDefEqProofs := false) only [sCons, sNil, sAsg, sRet, sRetN, sIf, sExp, sPar, gtName, eC, eBin, eUn, eB, eIf, eAnd, eOr, eNot, esCons, esNil, tBl, tTru, tNotT, tAndE, tOrE, Out.bind_ok, next_nx, next_rt, next_bk, eVar_z, eVar_s, List.set_cons_zero, List.set_cons_succ, List.map_cons, List.map_nil, List.cons_append, List.nil_append, List.length_cons, List.length_nil, List.replicate_succ, List.replicate_zero, wipeE, oNone, oSome])) hz) (fun _ => trivial) (fun _ _ => rfl) (fun d hd acc => ?_) (fun d _ e => by cases e) (fun d _ e => by cases e) (by rw [rng_length]; exact small_line hz)]
  · rw [List.filter_eq_nil_iff.mpr (fun _ _ => Bool.false_ne_true)]
    rfl
  · obtain ⟨i, hi, rfl⟩ := rng_mem hd
    have ha : as[i]? = some as[i] := List.getElem?_eq_getElem (by omega)
    have hb : bs[i]? = some bs[i] := List.getElem?_eq_getElem hi
    have ix : ∀ (z : D) (l : List D) (d : D) (M : List MO), asSeq M z = some l → l[i]? = some d → opIx z (.int (0 + (i : Int))) M = .ok d M := fun z l d M h1 h2 => by
      unfold opIx
      rw [h1]
      dsimp only
      have : L2.atI l (0 + (i : Int)) = some d := by
        rw [Int.zero_add]
        exact L2.atI_nat h2
      rw [this]
    (try simp (implicitDefEqProofs := false) only [sCons, sNil, sAsg, sRet, sRetN, sIf, sExp, sPar, gtName, eC, eBin, eUn, eB, eIf, eAnd, eOr, eNot, esCons, esNil, tBl, tTru, tNotT, tAndE, tOrE, Out.bind_ok, next_nx, next_rt, next_bk, eVar_z, eVar_s, List.set_cons_zero, List.set_cons_succ, List.map_cons, List.map_nil, List.cons_append, List.nil_append, List.length_cons, List.length_nil, List.replicate_succ, List.replicate_zero, wipeE, oNone, oSome])
    rw [call_eq (M1 := M ++ [.lst acc]) (by
      (try simp (implicitDefEqProofs := false) only [sCons, sNil, sAsg, sRet, sRetN, sIf, sExp, sPar, gtName, eC, eBin, eUn, eB, eIf, eAnd, eOr, eNot, esCons, esNil, tBl, tTru, tNotT, tAndE, tOrE, Out.bind_ok, next_nx, next_rt, next_bk, eVar_z, eVar_s, List.set_cons_zero, List.set_cons_succ, List.map_cons, List.map_nil, List.cons_append, List.nil_append, List.length_cons, List.length_nil, List.replicate_succ, List.replicate_zero, wipeE, oNone, oSome])
      rw [ix x as _ _ (hx _) ha]
      (try simp (implicitDefEqProofs := false) only [sCons, sNil, sAsg, sRet, sRetN, sIf, sExp, sPar, gtName, eC, eBin, eUn, eB, eIf, eAnd, eOr, eNot, esCons, esNil, tBl, tTru, tNotT, tAndE, tOrE, Out.bind_ok, next_nx, next_rt, next_bk, eVar_z, eVar_s, List.set_cons_zero, List.set_cons_succ, List.map_cons, List.map_nil, List.cons_append, List.nil_append, List.length_cons, List.length_nil, List.replicate_succ, List.replicate_zero, wipeE, oNone, oSome])
      rw [ix y bs _ _ (hy _) hb]
      (try simp (implicitDefEqProofs := false) only [sCons, sNil, sAsg, sRet, sRetN, sIf, sExp, sPar, gtName, eC, eBin, eUn, eB, eIf, eAnd, eOr, eNot, esCons, esNil, tBl, tTru, tNotT, tAndE, tOrE, Out.bind_ok, next_nx, next_rt, next_bk, eVar_z, eVar_s, List.set_cons_zero, List.set_cons_succ, List.map_cons, List.map_nil, List.cons_append, List.nil_append, List.length_cons, List.length_nil, List.replicate_succ, List.replicate_zero, wipeE, oNone, oSome])) (h i _ _ ha hb _)]
    (try simp (implicitDefEqProofs := false) only [sCons, sNil, sAsg, sRet, sRetN, sIf, sExp, sPar, gtName, eC, eBin, eUn, eB, eIf, eAnd, eOr, eNot, esCons, esNil, tBl, tTru, tNotT, tAndE, tOrE, Out.bind_ok, next_nx, next_rt, next_bk, eVar_z, eVar_s, List.set_cons_zero, List.set_cons_succ, List.map_cons, List.map_nil, List.cons_append, List.nil_append, List.length_cons, List.length_nil, List.replicate_succ, List.replicate_zero, wipeE, oNone, oSome])
    rw [truV_bl]
    rfl
theorem sm_tup {n : Nat} {as bs : List D} (hl : as.length = bs.length) (hz : bs.length ≤ 1000000) (h : ∀ (i : Nat) a b, as[i]? = some a → bs[i]? = some b → Sm n a b) : Sm (n + 1) (.tup as) (.tup bs) := fun M => by
  refine fnF_rt ?_ (noRef_bl _)
  show b__law_same (F__law_same n) [some (.tup as), some (.tup bs), none] M = _
  unfold b__law_same
  (try simp (implicitDefEqProofs := false) only [sCons, sNil, sAsg, sRet, sRetN, sIf, sExp, sPar, gtName, eC, eBin, eUn, eB, eIf, eAnd, eOr, eNot, esCons, esNil, tBl, tTru, tNotT, tAndE, tOrE, Out.bind_ok, next_nx, next_rt, next_bk, eVar_z, eVar_s, List.set_cons_zero, List.set_cons_succ, List.map_cons, List.map_nil, List.cons_append, List.nil_append, List.length_cons, List.length_nil, List.replicate_succ, List.replicate_zero, wipeE, oNone, oSome])
  rw [show opIsi [.tuple, .list] (.tup bs) M = .ok (.bl true) M from rfl]
  (try simp (implicitDefEqProofs := false) only [sCons, sNil, sAsg, sRet, sRetN, sIf, sExp, sPar, gtName, eC, eBin, eUn, eB, eIf, eAnd, eOr, eNot, esCons, esNil, tBl, tTru, tNotT, tAndE, tOrE, Out.bind_ok, next_nx, next_rt, next_bk, eVar_z, eVar_s, List.set_cons_zero, List.set_cons_succ, List.map_cons, List.map_nil, List.cons_append, List.nil_append, List.length_cons, List.length_nil, List.replicate_succ, List.replicate_zero, wipeE, oNone, oSome])
  rw [truV_bl]
  simp only [oT, Out.bind_ok, if_true]
  (try simp (implicitDefEqProofs := false) only [sCons, sNil, sAsg, sRet, sRetN, sIf, sExp, sPar, gtName, eC, eBin, eUn, eB, eIf, eAnd, eOr, eNot, esCons, esNil, tBl, tTru, tNotT, tAndE, tOrE, Out.bind_ok, next_nx, next_rt, next_bk, eVar_z, eVar_s, List.set_cons_zero, List.set_cons_succ, List.map_cons, List.map_nil, List.cons_append, List.nil_append, List.length_cons, List.length_nil, List.replicate_succ, List.replicate_zero, wipeE, oNone, oSome])
  rw [show opIsi [.tuple] (.tup as) M = .ok (.bl true) M from rfl]
  (try simp (implicitDefEqProofs := false) only [sCons, sNil, sAsg, sRet, sRetN, sIf, sExp, sPar, gtName, eC, eBin, eUn, eB, eIf, eAnd, eOr, eNot, esCons, esNil, tBl, tTru, tNotT, tAndE, tOrE, Out.bind_ok, next_nx, next_rt, next_bk, eVar_z, eVar_s, List.set_cons_zero, List.set_cons_succ, List.map_cons, List.map_nil, List.cons_append, List.nil_append, List.length_cons, List.length_nil, List.replicate_succ, List.replicate_zero, wipeE, oNone, oSome])
  rw [show opIsi [.tuple] (.tup bs) M = .ok (.bl true) M from rfl]
  (try simp (implicitDefEqProofs := false) only [sCons, sNil, sAsg, sRet, sRetN, sIf, sExp, sPar, gtName, eC, eBin, eUn, eB, eIf, eAnd, eOr, eNot, esCons, esNil, tBl, tTru, tNotT, tAndE, tOrE, Out.bind_ok, next_nx, next_rt, next_bk, eVar_z, eVar_s, List.set_cons_zero, List.set_cons_succ, List.map_cons, List.map_nil, List.cons_append, List.nil_append, List.length_cons, List.length_nil, List.replicate_succ, List.replicate_zero, wipeE, oNone, oSome])
  rw [opEq_bl]
  simp only [asB, oT, Out.bind_ok, if_true, decide_true, Bool.not_true, Bool.false_eq_true, if_false]
  (try simp (implicitDefEqProofs := false) only [sCons, sNil, sAsg, sRet, sRetN, sIf, sExp, sPar, gtName, eC, eBin, eUn, eB, eIf, eAnd, eOr, eNot, esCons, esNil, tBl, tTru, tNotT, tAndE, tOrE, Out.bind_ok, next_nx, next_rt, next_bk, eVar_z, eVar_s, List.set_cons_zero, List.set_cons_succ, List.map_cons, List.map_nil, List.cons_append, List.nil_append, List.length_cons, List.length_nil, List.replicate_succ, List.replicate_zero, wipeE, oNone, oSome])
  rw [show opIsi [.list] (.tup as) M = .ok (.bl false) M from rfl]
  (try simp (implicitDefEqProofs := false) only [sCons, sNil, sAsg, sRet, sRetN, sIf, sExp, sPar, gtName, eC, eBin, eUn, eB, eIf, eAnd, eOr, eNot, esCons, esNil, tBl, tTru, tNotT, tAndE, tOrE, Out.bind_ok, next_nx, next_rt, next_bk, eVar_z, eVar_s, List.set_cons_zero, List.set_cons_succ, List.map_cons, List.map_nil, List.cons_append, List.nil_append, List.length_cons, List.length_nil, List.replicate_succ, List.replicate_zero, wipeE, oNone, oSome])
  rw [show opIsi [.list] (.tup bs) M = .ok (.bl false) M from rfl]
  (try simp (implicitDefEqProofs := false) only [sCons, sNil, sAsg, sRet, sRetN, sIf, sExp, sPar, gtName, eC, eBin, eUn, eB, eIf, eAnd, eOr, eNot, esCons, esNil, tBl, tTru, tNotT, tAndE, tOrE, Out.bind_ok, next_nx, next_rt, next_bk, eVar_z, eVar_s, List.set_cons_zero, List.set_cons_succ, List.map_cons, List.map_nil, List.cons_append, List.nil_append, List.length_cons, List.length_nil, List.replicate_succ, List.replicate_zero, wipeE, oNone, oSome])
  rw [opEq_bl]
  simp only [asB, oT, Out.bind_ok, if_true, decide_true, Bool.not_true, Bool.false_eq_true, if_false, next_nx]
  (try simp (implicitDefEqProofs := false) only [sCons, sNil, sAsg, sRet, sRetN, sIf, sExp, sPar, gtName, eC, eBin, eUn, eB, eIf, eAnd, eOr, eNot, esCons, esNil, tBl, tTru, tNotT, tAndE, tOrE, Out.bind_ok, next_nx, next_rt, next_bk, eVar_z, eVar_s, List.set_cons_zero, List.set_cons_succ, List.map_cons, List.map_nil, List.cons_append, List.nil_append, List.length_cons, List.length_nil, List.replicate_succ, List.replicate_zero, wipeE, oNone, oSome])
  rw [len_tup]
  (try simp (implicitDefEqProofs := false) only [sCons, sNil, sAsg, sRet, sRetN, sIf, sExp, sPar, gtName, eC, eBin, eUn, eB, eIf, eAnd, eOr, eNot, esCons, esNil, tBl, tTru, tNotT, tAndE, tOrE, Out.bind_ok, next_nx, next_rt, next_bk, eVar_z, eVar_s, List.set_cons_zero, List.set_cons_succ, List.map_cons, List.map_nil, List.cons_append, List.nil_append, List.length_cons, List.length_nil, List.replicate_succ, List.replicate_zero, wipeE, oNone, oSome])
  rw [len_tup]
  (try simp (implicitDefEqProofs := false) only [sCons, sNil, sAsg, sRet, sRetN, sIf, sExp, sPar, gtName, eC, eBin, eUn, eB, eIf, eAnd, eOr, eNot, esCons, esNil, tBl, tTru, tNotT, tAndE, tOrE, Out.bind_ok, next_nx, next_rt, next_bk, eVar_z, eVar_s, List.set_cons_zero, List.set_cons_succ, List.map_cons, List.map_nil, List.cons_append, List.nil_append, List.length_cons, List.length_nil, List.replicate_succ, List.replicate_zero, wipeE, oNone, oSome])
  rw [opEq_int, hl, if_pos rfl, decide_eq_true rfl, Out.bind_ok, Bool.not_true]
  rw [show oT (asB (.bl false)) M = .ok false M from rfl]
  rw [Out.bind_ok, if_neg Bool.false_ne_true, Out.bind_ok, next_nx]
  (try simp (implicitDefEqProofs := false) only [sCons, sNil, sAsg, sRet, sRetN, sIf, sExp, sPar, gtName, eC, eBin, eUn, eB, eIf, eAnd, eOr, eNot, esCons, esNil, tBl, tTru, tNotT, tAndE, tOrE, Out.bind_ok, next_nx, next_rt, next_bk, eVar_z, eVar_s, List.set_cons_zero, List.set_cons_succ, List.map_cons, List.map_nil, List.cons_append, List.nil_append, List.length_cons, List.length_nil, List.replicate_succ, List.replicate_zero, wipeE, oNone, oSome])
  rw [same_comp (as := as) (bs := bs) (fun _ => rfl) (fun _ => rfl) hl hz h (fun _ => rfl)]
  rw [Out.bind_ok, eLst_nil, Out.bind_ok, opEq_IL, if_neg Bool.false_ne_true, decide_eq_true rfl, Out.bind_ok, Out.bind_ok, next_rt, Out.bind_ok, next_rt]
theorem sm_lst {n : Nat} {as bs : List D} (hl : as.length = bs.length) (hz : bs.length ≤ 1000000) (h : ∀ (i : Nat) a b, as[i]? = some a → bs[i]? = some b → Sm n a b) : Sm (n + 1) (.lst as) (.lst bs) := fun M => by
  refine fnF_rt ?_ (noRef_bl _)
  show b__law_same (F__law_same n) [some (.lst as), some (.lst bs), none] M = _
  unfold b__law_same
  (try simp (implicitDefEqProofs := false) only [sCons, sNil, sAsg, sRet, sRetN, sIf, sExp, sPar, gtName, eC, eBin, eUn, eB, eIf, eAnd, eOr, eNot, esCons, esNil, tBl, tTru, tNotT, tAndE, tOrE, Out.bind_ok, next_nx, next_rt, next_bk, eVar_z, eVar_s, List.set_cons_zero, List.set_cons_succ, List.map_cons, List.map_nil, List.cons_append, List.nil_append, List.length_cons, List.length_nil, List.replicate_succ, List.replicate_zero, wipeE, oNone, oSome])
  rw [show opIsi [.tuple, .list] (.lst bs) M = .ok (.bl true) M from rfl]
  (try simp (implicitDefEqProofs := false) only [sCons, sNil, sAsg, sRet, sRetN, sIf, sExp, sPar, gtName, eC, eBin, eUn, eB, eIf, eAnd, eOr, eNot, esCons, esNil, tBl, tTru, tNotT, tAndE, tOrE, Out.bind_ok, next_nx, next_rt, next_bk, eVar_z, eVar_s, List.set_cons_zero, List.set_cons_succ, List.map_cons, List.map_nil, List.cons_append, List.nil_append, List.length_cons, List.length_nil, List.replicate_succ, List.replicate_zero, wipeE, oNone, oSome])
  rw [truV_bl]
  simp only [oT, Out.bind_ok, if_true]
  (try simp (implicitDefEqProofs := false) only [sCons, sNil, sAsg, sRet, sRetN, sIf, sExp, sPar, gtName, eC, eBin, eUn, eB, eIf, eAnd, eOr, eNot, esCons, esNil, tBl, tTru, tNotT, tAndE, tOrE, Out.bind_ok, next_nx, next_rt, next_bk, eVar_z, eVar_s, List.set_cons_zero, List.set_cons_succ, List.map_cons, List.map_nil, List.cons_append, List.nil_append, List.length_cons, List.length_nil, List.replicate_succ, List.replicate_zero, wipeE, oNone, oSome])
  rw [show opIsi [.tuple] (.lst as) M = .ok (.bl false) M from rfl]
  (try simp (implicitDefEqProofs := false) only [sCons, sNil, sAsg, sRet, sRetN, sIf, sExp, sPar, gtName, eC, eBin, eUn, eB, eIf, eAnd, eOr, eNot, esCons, esNil, tBl, tTru, tNotT, tAndE, tOrE, Out.bind_ok, next_nx, next_rt, next_bk, eVar_z, eVar_s, List.set_cons_zero, List.set_cons_succ, List.map_cons, List.map_nil, List.cons_append, List.nil_append, List.length_cons, List.length_nil, List.replicate_succ, List.replicate_zero, wipeE, oNone, oSome])
  rw [show opIsi [.tuple] (.lst bs) M = .ok (.bl false) M from rfl]
  (try simp (implicitDefEqProofs := false) only [sCons, sNil, sAsg, sRet, sRetN, sIf, sExp, sPar, gtName, eC, eBin, eUn, eB, eIf, eAnd, eOr, eNot, esCons, esNil, tBl, tTru, tNotT, tAndE, tOrE, Out.bind_ok, next_nx, next_rt, next_bk, eVar_z, eVar_s, List.set_cons_zero, List.set_cons_succ, List.map_cons, List.map_nil, List.cons_append, List.nil_append, List.length_cons, List.length_nil, List.replicate_succ, List.replicate_zero, wipeE, oNone, oSome])
  rw [opEq_bl]
  simp only [asB, oT, Out.bind_ok, if_true, decide_true, Bool.not_true, Bool.false_eq_true, if_false]
  (try simp (implicitDefEqProofs := false) only [sCons, sNil, sAsg, sRet, sRetN, sIf, sExp, sPar, gtName, eC, eBin, eUn, eB, eIf, eAnd, eOr, eNot, esCons, esNil, tBl, tTru, tNotT, tAndE, tOrE, Out.bind_ok, next_nx, next_rt, next_bk, eVar_z, eVar_s, List.set_cons_zero, List.set_cons_succ, List.map_cons, List.map_nil, List.cons_append, List.nil_append, List.length_cons, List.length_nil, List.replicate_succ, List.replicate_zero, wipeE, oNone, oSome])
  rw [show opIsi [.list] (.lst as) M = .ok (.bl true) M from rfl]
  (try simp (implicitDefEqProofs := false) only [sCons, sNil, sAsg, sRet, sRetN, sIf, sExp, sPar, gtName, eC, eBin, eUn, eB, eIf, eAnd, eOr, eNot, esCons, esNil, tBl, tTru, tNotT, tAndE, tOrE, Out.bind_ok, next_nx, next_rt, next_bk, eVar_z, eVar_s, List.set_cons_zero, List.set_cons_succ, List.map_cons, List.map_nil, List.cons_append, List.nil_append, List.length_cons, List.length_nil, List.replicate_succ, List.replicate_zero, wipeE, oNone, oSome])
  rw [show opIsi [.list] (.lst bs) M = .ok (.bl true) M from rfl]
  (try simp (implicitDefEqProofs := false) only [sCons, sNil, sAsg, sRet, sRetN, sIf, sExp, sPar, gtName, eC, eBin, eUn, eB, eIf, eAnd, eOr, eNot, esCons, esNil, tBl, tTru, tNotT, tAndE, tOrE, Out.bind_ok, next_nx, next_rt, next_bk, eVar_z, eVar_s, List.set_cons_zero, List.set_cons_succ, List.map_cons, List.map_nil, List.cons_append, List.nil_append, List.length_cons, List.length_nil, List.replicate_succ, List.replicate_zero, wipeE, oNone, oSome])
  rw [opEq_bl]
  simp only [asB, oT, Out.bind_ok, if_true, decide_true, Bool.not_true, Bool.false_eq_true, if_false, next_nx]
  (try simp (implicitDefEqProofs := false) only [sCons, sNil, sAsg, sRet, sRetN, sIf, sExp, sPar, gtName, eC, eBin, eUn, eB, eIf, eAnd, eOr, eNot, esCons, esNil, tBl, tTru, tNotT, tAndE, tOrE, Out.bind_ok, next_nx, next_rt, next_bk, eVar_z, eVar_s, List.set_cons_zero, List.set_cons_succ, List.map_cons, List.map_nil, List.cons_append, List.nil_append, List.length_cons, List.length_nil, List.replicate_succ, List.replicate_zero, wipeE, oNone, oSome])
  rw [len_lst]
  (try simp (implicitDefEqProofs := false) only [sCons, sNil, sAsg, sRet, sRetN, sIf, sExp, sPar, gtName, eC, eBin, eUn, eB, eIf, eAnd, eOr, eNot, esCons, esNil, tBl, tTru, tNotT, tAndE, tOrE, Out.bind_ok, next_nx, next_rt, next_bk, eVar_z, eVar_s, List.set_cons_zero, List.set_cons_succ, List.map_cons, List.map_nil, List.cons_append, List.nil_append, List.length_cons, List.length_nil, List.replicate_succ, List.replicate_zero, wipeE, oNone, oSome])
  rw [len_lst]
  (try simp (implicitDefEqProofs := false) only [sCons, sNil, sAsg, sRet, sRetN, sIf, sExp, sPar, gtName, eC, eBin, eUn, eB, eIf, eAnd, eOr, eNot, esCons, esNil, tBl, tTru, tNotT, tAndE, tOrE, Out.bind_ok, next_nx, next_rt, next_bk, eVar_z, eVar_s, List.set_cons_zero, List.set_cons_succ, List.map_cons, List.map_nil, List.cons_append, List.nil_append, List.length_cons, List.length_nil, List.replicate_succ, List.replicate_zero, wipeE, oNone, oSome])
  rw [opEq_int, hl, if_pos rfl, decide_eq_true rfl, Out.bind_ok, Bool.not_true]
  rw [show oT (asB (.bl false)) M = .ok false M from rfl]
  rw [Out.bind_ok, if_neg Bool.false_ne_true, Out.bind_ok, next_nx]
  (try simp (implicitDefEqProofs := false) only [sCons, sNil, sAsg, sRet, sRetN, sIf, sExp, sPar, gtName, eC, eBin, eUn, eB, eIf, eAnd, eOr, eNot, esCons, esNil, tBl, tTru, tNotT, tAndE, tOrE, Out.bind_ok, next_nx, next_rt, next_bk, eVar_z, eVar_s, List.set_cons_zero, List.set_cons_succ, List.map_cons, List.map_nil, List.cons_append, List.nil_append, List.length_cons, List.length_nil, List.replicate_succ, List.replicate_zero, wipeE, oNone, oSome])
  rw [same_comp (as := as) (bs := bs) (fun _ => rfl) (fun _ => rfl) hl hz h (fun _ => rfl)]
  rw [Out.bind_ok, eLst_nil, Out.bind_ok, opEq_IL, if_neg Bool.false_ne_true, decide_eq_true rfl, Out.bind_ok, Out.bind_ok, next_rt, Out.bind_ok, next_rt]
theorem sm_non (n : Nat) : Sm (n + 1) .non .non := fun M => by
  refine fnF_rt ?_ (noRef_bl _)
  show b__law_same (F__law_same n) [some .non, some .non, none] M = _
  unfold b__law_same
  (try simp (implicitDefEqProofs := false) only [sCons, sNil, sAsg, sRet, sRetN, sIf, sExp, sPar, gtName, eC, eBin, eUn, eB, eIf, eAnd, eOr, eNot, esCons, esNil, tBl, tTru, tNotT, tAndE, tOrE, Out.bind_ok, next_nx, next_rt, next_bk, eVar_z, eVar_s, List.set_cons_zero, List.set_cons_succ, List.map_cons, List.map_nil, List.cons_append, List.nil_append, List.length_cons, List.length_nil, List.replicate_succ, List.replicate_zero, wipeE, oNone, oSome])
  rw [show opIsi [.tuple, .list] .non M = .ok (.bl false) M from rfl]
  (simp (implicitDefEqProofs := false) (disch := first | assumption | omega) only [sCons, sNil, sAsg, sRet, sRetN, sIf, sExp, sPar, gtName, eC, eBin, eUn, eB, eIf, eAnd, eOr, eNot, esCons, esNil, tBl, tTru, tNotT, tAndE, tOrE, Out.bind_ok, next_nx, next_rt, next_bk, eVar_z, eVar_s, List.set_cons_zero, List.set_cons_succ, List.cons_append, List.nil_append, List.replicate_succ, List.replicate_zero, wipeE, oNone, oSome, eSl, gtTup, gtsCons, gtsNil, truV_bl, eTup1, tupI1, tup0, lst0, eLst_nilN, eqI, neI, eqT, neT, eqL, neL, lt_int, gt_int, le_int, ge_int, neg_int, add_int, sub_int, int1, intB, lenT, lenL, add_tI, add_lI, ix0T, sl1_to, sl1_from, tupOf_lst, rev_tup, mm2_max, mm2_min, abs_int, tru_tI, tru_lI, oT_some, asB_bl, eq_self, if_true, if_false, Bool.false_eq_true, Bool.not_true, Bool.not_false])
  (simp (implicitDefEqProofs := false) (disch := first | assumption | omega) only [sCons, sNil, sAsg, sRet, sRetN, sIf, sExp, sPar, gtName, eC, eBin, eUn, eB, eIf, eAnd, eOr, eNot, esCons, esNil, tBl, tTru, tNotT, tAndE, tOrE, Out.bind_ok, next_nx, next_rt, next_bk, eVar_z, eVar_s, List.set_cons_zero, List.set_cons_succ, List.cons_append, List.nil_append, List.replicate_succ, List.replicate_zero, wipeE, oNone, oSome, eSl, gtTup, gtsCons, gtsNil, truV_bl, eTup1, tupI1, tup0, lst0, eLst_nilN, eqI, neI, eqT, neT, eqL, neL, lt_int, gt_int, le_int, ge_int, neg_int, add_int, sub_int, int1, intB, lenT, lenL, add_tI, add_lI, ix0T, sl1_to, sl1_from, tupOf_lst, rev_tup, mm2_max, mm2_min, abs_int, tru_tI, tru_lI, oT_some, asB_bl, eq_self, if_true, if_false, Bool.false_eq_true, Bool.not_true, Bool.not_false, show opIsN false .non .non M = .ok (.bl true) M from rfl])
theorem sm_str (n : Nat) {x : PySem.Str} (hx : PySem.PyData.strOk x = true) : Sm (n + 1) (.str x) (.str x) := fun M => by
  refine fnF_rt ?_ (noRef_bl _)
  show b__law_same (F__law_same n) [some (.str x), some (.str x), none] M = _
  unfold b__law_same
  (try simp (implicitDefEqProofs := false) only [sCons, sNil, sAsg, sRet, sRetN, sIf, sExp, sPar, gtName, eC, eBin, eUn, eB, eIf, eAnd, eOr, eNot, esCons, esNil, tBl, tTru, tNotT, tAndE, tOrE, Out.bind_ok, next_nx, next_rt, next_bk, eVar_z, eVar_s, List.set_cons_zero, List.set_cons_succ, List.map_cons, List.map_nil, List.cons_append, List.nil_append, List.length_cons, List.length_nil, List.replicate_succ, List.replicate_zero, wipeE, oNone, oSome])
  rw [show opIsi [.tuple, .list] (.str x) M = .ok (.bl false) M from rfl]
  (simp (implicitDefEqProofs := false) (disch := first | assumption | omega) only [sCons, sNil, sAsg, sRet, sRetN, sIf, sExp, sPar, gtName, eC, eBin, eUn, eB, eIf, eAnd, eOr, eNot, esCons, esNil, tBl, tTru, tNotT, tAndE, tOrE, Out.bind_ok, next_nx, next_rt, next_bk, eVar_z, eVar_s, List.set_cons_zero, List.set_cons_succ, List.cons_append, List.nil_append, List.replicate_succ, List.replicate_zero, wipeE, oNone, oSome, eSl, gtTup, gtsCons, gtsNil, truV_bl, eTup1, tupI1, tup0, lst0, eLst_nilN, eqI, neI, eqT, neT, eqL, neL, lt_int, gt_int, le_int, ge_int, neg_int, add_int, sub_int, int1, intB, lenT, lenL, add_tI, add_lI, ix0T, sl1_to, sl1_from, tupOf_lst, rev_tup, mm2_max, mm2_min, abs_int, tru_tI, tru_lI, oT_some, asB_bl, eq_self, if_true, if_false, Bool.false_eq_true, Bool.not_true, Bool.not_false])
  rw [show opIsN false (.str x) .non M = .ok (.bl false) M from rfl]
  (simp (implicitDefEqProofs := false) (disch := first | assumption | omega) only [sCons, sNil, sAsg, sRet, sRetN, sIf, sExp, sPar, gtName, eC, eBin, eUn, eB, eIf, eAnd, eOr, eNot, esCons, esNil, tBl, tTru, tNotT, tAndE, tOrE, Out.bind_ok, next_nx, next_rt, next_bk, eVar_z, eVar_s, List.set_cons_zero, List.set_cons_succ, List.cons_append, List.nil_append, List.replicate_succ, List.replicate_zero, wipeE, oNone, oSome, eSl, gtTup, gtsCons, gtsNil, truV_bl, eTup1, tupI1, tup0, lst0, eLst_nilN, eqI, neI, eqT, neT, eqL, neL, lt_int, gt_int, le_int, ge_int, neg_int, add_int, sub_int, int1, intB, lenT, lenL, add_tI, add_lI, ix0T, sl1_to, sl1_from, tupOf_lst, rev_tup, mm2_max, mm2_min, abs_int, tru_tI, tru_lI, oT_some, asB_bl, eq_self, if_true, if_false, Bool.false_eq_true, Bool.not_true, Bool.not_false, show opIsi [.str] (.str x) M = .ok (.bl true) M from rfl, eqS M hx hx, decide_true])
theorem sm_bl (n : Nat) (b : Bool) : Sm (n + 1) (.bl b) (.bl b) := fun M => by
  refine fnF_rt ?_ (noRef_bl _)
  show b__law_same (F__law_same n) [some (.bl b), some (.bl b), none] M = _
  unfold b__law_same
  (try simp (implicitDefEqProofs := false) only [sCons, sNil, sAsg, sRet, sRetN, sIf, sExp, sPar, gtName, eC, eBin, eUn, eB, eIf, eAnd, eOr, eNot, esCons, esNil, tBl, tTru, tNotT, tAndE, tOrE, Out.bind_ok, next_nx, next_rt, next_bk, eVar_z, eVar_s, List.set_cons_zero, List.set_cons_succ, List.map_cons, List.map_nil, List.cons_append, List.nil_append, List.length_cons, List.length_nil, List.replicate_succ, List.replicate_zero, wipeE, oNone, oSome])
  rw [show opIsi [.tuple, .list] (.bl b) M = .ok (.bl false) M from rfl]
  (simp (implicitDefEqProofs := false) (disch := first | assumption | omega) only [sCons, sNil, sAsg, sRet, sRetN, sIf, sExp, sPar, gtName, eC, eBin, eUn, eB, eIf, eAnd, eOr, eNot, esCons, esNil, tBl, tTru, tNotT, tAndE, tOrE, Out.bind_ok, next_nx, next_rt, next_bk, eVar_z, eVar_s, List.set_cons_zero, List.set_cons_succ, List.cons_append, List.nil_append, List.replicate_succ, List.replicate_zero, wipeE, oNone, oSome, eSl, gtTup, gtsCons, gtsNil, truV_bl, eTup1, tupI1, tup0, lst0, eLst_nilN, eqI, neI, eqT, neT, eqL, neL, lt_int, gt_int, le_int, ge_int, neg_int, add_int, sub_int, int1, intB, lenT, lenL, add_tI, add_lI, ix0T, sl1_to, sl1_from, tupOf_lst, rev_tup, mm2_max, mm2_min, abs_int, tru_tI, tru_lI, oT_some, asB_bl, eq_self, if_true, if_false, Bool.false_eq_true, Bool.not_true, Bool.not_false])
  rw [show opIsN false (.bl b) .non M = .ok (.bl false) M from rfl]
  (simp (implicitDefEqProofs := false) (disch := first | assumption | omega) only [sCons, sNil, sAsg, sRet, sRetN, sIf, sExp, sPar, gtName, eC, eBin, eUn, eB, eIf, eAnd, eOr, eNot, esCons, esNil, tBl, tTru, tNotT, tAndE, tOrE, Out.bind_ok, next_nx, next_rt, next_bk, eVar_z, eVar_s, List.set_cons_zero, List.set_cons_succ, List.cons_append, List.nil_append, List.replicate_succ, List.replicate_zero, wipeE, oNone, oSome, eSl, gtTup, gtsCons, gtsNil, truV_bl, eTup1, tupI1, tup0, lst0, eLst_nilN, eqI, neI, eqT, neT, eqL, neL, lt_int, gt_int, le_int, ge_int, neg_int, add_int, sub_int, int1, intB, lenT, lenL, add_tI, add_lI, ix0T, sl1_to, sl1_from, tupOf_lst, rev_tup, mm2_max, mm2_min, abs_int, tru_tI, tru_lI, oT_some, asB_bl, eq_self, if_true, if_false, Bool.false_eq_true, Bool.not_true, Bool.not_false, show opIsi [.str] (.bl b) M = .ok (.bl false) M from rfl, show opIsi [.bool] (.bl b) M = .ok (.bl true) M from rfl, opEq_bl, decide_true])
/-- what may be handed to an error -/
def Gv (d : D) : Prop := noRef d ∧ Sm 4 d d
theorem gv_int (i : Int) : Gv (.int i) := ⟨noRef_int i, sm_int 3 i⟩
theorem gv_str {x : PySem.Str} (hx : PySem.PyData.strOk x = true) : Gv (.str x) := ⟨by unfold noRef; trivial, sm_str 3 hx⟩
theorem sm_all {n : Nat} {l : List D} (h : ∀ d ∈ l, Sm n d d) : ∀ (i : Nat) a b, l[i]? = some a → l[i]? = some b → Sm n a b := fun i a b h1 h2 => by
  rw [h1] at h2
  cases h2
  exact h a (List.mem_of_getElem? h1)
theorem nr_tup {l : List D} (h : ∀ d ∈ l, noRef d) : noRef (.tup l) := by unfold noRef; exact noRefL_of h
theorem nr_lst {l : List D} (h : ∀ d ∈ l, noRef d) : noRef (.lst l) := by unfold noRef; exact noRefL_of h
/-- the values of the menu -/
def menu (far t : Int) : List D := [.int far, .int t, .str "", .str "a b", .non, .bl true, .bl false, .tup [], .tup [.int far, .int 1], .lst [.int far, .str "x"], .tup [.tup [.int 1, .int 2], .tup [.str "a", .tup []]], .lst [], .int (-1), .int 0]
theorem menu_gv (far t : Int) : ∀ d ∈ menu far t, Gv d := by
  have nn : noRef .non := by unfold noRef; trivial
  have ns : ∀ x : PySem.Str, noRef (.str x) := fun x => by unfold noRef; trivial
  unfold menu
  simp only [List.forall_mem_cons]
  refine ⟨gv_int _, gv_int _, gv_str (by decide +kernel), gv_str (by decide +kernel), ⟨nn, sm_non 3⟩, ⟨noRef_bl _, sm_bl 3 _⟩, ⟨noRef_bl _, sm_bl 3 _⟩, ?_, ?_, ?_, ?_, ?_, gv_int _, gv_int _, fun _ h => nomatch h⟩
  · exact ⟨nr_tup fun _ h => (nomatch h), sm_tup rfl (Nat.zero_le _) fun i a b h => by simp at h⟩
  · refine ⟨nr_tup ?_, sm_tup rfl (by show 2 ≤ 1000000; omega) (sm_all ?_)⟩ <;> simp only [List.forall_mem_cons]
    · exact ⟨noRef_int _, noRef_int _, fun _ h => nomatch h⟩
    · exact ⟨sm_int 2 _, sm_int 2 _, fun _ h => nomatch h⟩
  · refine ⟨nr_lst ?_, sm_lst rfl (by show 2 ≤ 1000000; omega) (sm_all ?_)⟩ <;> simp only [List.forall_mem_cons]
    · exact ⟨noRef_int _, ns _, fun _ h => nomatch h⟩
    · exact ⟨sm_int 2 _, sm_str 2 (by decide +kernel), fun _ h => nomatch h⟩
  · refine ⟨nr_tup ?_, sm_tup rfl (by show 2 ≤ 1000000; omega) (sm_all ?_)⟩ <;> simp only [List.forall_mem_cons]
    · refine ⟨nr_tup ?_, nr_tup ?_, fun _ h => nomatch h⟩ <;> simp only [List.forall_mem_cons]
      · exact ⟨noRef_int _, noRef_int _, fun _ h => nomatch h⟩
      · exact ⟨ns _, nr_tup fun _ h => (nomatch h), fun _ h => nomatch h⟩
    · refine ⟨sm_tup rfl (by show 2 ≤ 1000000; omega) (sm_all ?_), sm_tup rfl (by show 2 ≤ 1000000; omega) (sm_all ?_), fun _ h => nomatch h⟩ <;> simp only [List.forall_mem_cons]
      · exact ⟨sm_int 1 _, sm_int 1 _, fun _ h => nomatch h⟩
      · exact ⟨sm_str 1 (by decide +kernel), sm_tup rfl (Nat.zero_le _) fun i a b h => by simp at h, fun _ h => nomatch h⟩
  · exact ⟨nr_lst fun _ h => (nomatch h), sm_lst rfl (Nat.zero_le _) fun i a b h => by simp at h⟩
end K00
end
section
set_option Elab.async false
set_option linter.all false
set_option maxRecDepth 100000
set_option maxHeartbeats 2000000
open Classical
namespace K00
open SX
/-! ### the deck -/
theorem deck_ok (ns : List Int) (k : Nat) (hk : k ≤ 100) (M : List MO) : ∃ M', F__law_deck [.rol (IL ns), .int k] M = .ok (.ref M.length) M' ∧ Dk M.length M' := by
  obtain ⟨c, hcell⟩ : ∃ c : Int, sIf (tBl (eLt (eVar 1) (eB opLen (esCons (eVar 0) esNil)))) (sCons (sAsg (eIx (eVar 0) (eVar 1)) (gtName 2)) sNil) sNil [some (.rol (IL ns)), some (.int k), some (.int 0), none] M = .ok (.nx [some (.rol (IL ns)), some (.int k), some (.int c), none]) M := by
    have ht : tBl (eLt (eVar 1) (eB opLen (esCons (eVar 0) esNil))) [some (.rol (IL ns)), some (.int k), some (.int 0), none] M = .ok (decide ((k : Int) < ((IL ns).length : Int))) M := by
      refine tBl_of ((bin_of (op := opB fun i j => decide (i < j)) (x := .int k) (y := .int (IL ns).length) (M1 := M) (M2 := M) rfl ?_).trans rfl)
      unfold eB
      rw [es_cons rfl (es_nil _ _), Out.bind_ok]
      rfl
    by_cases hc : (k : Int) < ((IL ns).length : Int)
    · have hkl : k < ns.length := by rw [List.length_map] at hc; omega
      refine ⟨ns[k], ?_⟩
      rw [sIf_t (M1 := M) (ht.trans (by rw [decide_eq_true hc]))]
      refine (sCons_nx (sAsg_of (d := .int ns[k]) (M1 := M) ?_)).trans rfl
      refine (bin_of (op := opIx) (x := .rol (IL ns)) (y := .int k) (M1 := M) (M2 := M) rfl rfl).trans ?_
      exact ix_at (l := IL ns) (by omega) rfl (by rw [Int.toNat_natCast, List.getElem?_map, List.getElem?_eq_getElem hkl]; rfl)
    · refine ⟨0, ?_⟩
      rw [sIf_f (M1 := M) (ht.trans (by rw [decide_eq_false hc]))]
      rfl
  generalize hs1 : (c + 7919 * (k : Int) + 104729) % 2305843009213693951 = r1
  have b1 : 0 ≤ r1 ∧ r1 < 2305843009213693951 := by rw [← hs1]; exact ⟨Int.emod_nonneg _ (by decide), Int.emod_lt_of_pos _ (by decide)⟩
  generalize hs2 : (r1 * r1 * r1 + 31 * (k : Int) + 7) % 2305843009213693951 = r2
  have b2 : 0 ≤ r2 ∧ r2 < 2305843009213693951 := by rw [← hs2]; exact ⟨Int.emod_nonneg _ (by decide), Int.emod_lt_of_pos _ (by decide)⟩
  have bsq : 0 ≤ r1 * r1 ∧ r1 * r1 < 2 ^ 122 := by
    refine ⟨Int.mul_nonneg b1.1 b1.1, ?_⟩
    have h1 : r1 * r1 ≤ 2305843009213693951 * r1 := Int.mul_le_mul_of_nonneg_right (by omega) b1.1
    have h2 : (2305843009213693951 : Int) * r1 ≤ 2305843009213693951 * 2305843009213693951 := Int.mul_le_mul_of_nonneg_left (by omega) (by decide)
    have h3 : (2305843009213693951 : Int) * 2305843009213693951 < 2 ^ 122 := by decide
    omega
  have st1 : sAsg (eMod (eB opInt1 (esCons (eAdd mkF (eAdd mkF (eVar 2) (eMul (eC (.int 7919)) (eVar 1))) (eC (.int 104729))) esNil)) (eC (.int 2305843009213693951))) (gtName 3) [some (.rol (IL ns)), some (.int k), some (.int c), none] M = .ok (.nx [some (.rol (IL ns)), some (.int k), some (.int c), some (.int r1)]) M := by
    refine (sAsg_of (d := .int r1) (M1 := M) ?_).trans rfl
    (try simp (implicitDefEqProofs := false) only [sCons, sNil, sAsg, sRet, sRetN, sIf, sExp, sPar, gtName, eC, eBin, eUn, eB, eIf, eAnd, eOr, eNot, esCons, esNil, tBl, tTru, tNotT, tAndE, tOrE, Out.bind_ok, next_nx, next_rt, next_bk, eVar_z, eVar_s, List.set_cons_zero, List.set_cons_succ, List.map_cons, List.map_nil, List.cons_append, List.nil_append, List.length_cons, List.length_nil, List.replicate_succ, List.replicate_zero, wipeE, oNone, oSome])
    rw [mul_int M (cmul200 (by decide) (by decide) (by omega) (by omega))]
    (try simp (implicitDefEqProofs := false) only [sCons, sNil, sAsg, sRet, sRetN, sIf, sExp, sPar, gtName, eC, eBin, eUn, eB, eIf, eAnd, eOr, eNot, esCons, esNil, tBl, tTru, tNotT, tAndE, tOrE, Out.bind_ok, next_nx, next_rt, next_bk, eVar_z, eVar_s, List.set_cons_zero, List.set_cons_succ, List.map_cons, List.map_nil, List.cons_append, List.nil_append, List.length_cons, List.length_nil, List.replicate_succ, List.replicate_zero, wipeE, oNone, oSome])
    rw [add_int]
    (try simp (implicitDefEqProofs := false) only [sCons, sNil, sAsg, sRet, sRetN, sIf, sExp, sPar, gtName, eC, eBin, eUn, eB, eIf, eAnd, eOr, eNot, esCons, esNil, tBl, tTru, tNotT, tAndE, tOrE, Out.bind_ok, next_nx, next_rt, next_bk, eVar_z, eVar_s, List.set_cons_zero, List.set_cons_succ, List.map_cons, List.map_nil, List.cons_append, List.nil_append, List.length_cons, List.length_nil, List.replicate_succ, List.replicate_zero, wipeE, oNone, oSome])
    rw [add_int]
    (try simp (implicitDefEqProofs := false) only [sCons, sNil, sAsg, sRet, sRetN, sIf, sExp, sPar, gtName, eC, eBin, eUn, eB, eIf, eAnd, eOr, eNot, esCons, esNil, tBl, tTru, tNotT, tAndE, tOrE, Out.bind_ok, next_nx, next_rt, next_bk, eVar_z, eVar_s, List.set_cons_zero, List.set_cons_succ, List.map_cons, List.map_nil, List.cons_append, List.nil_append, List.length_cons, List.length_nil, List.replicate_succ, List.replicate_zero, wipeE, oNone, oSome])
    rw [int1]
    (try simp (implicitDefEqProofs := false) only [sCons, sNil, sAsg, sRet, sRetN, sIf, sExp, sPar, gtName, eC, eBin, eUn, eB, eIf, eAnd, eOr, eNot, esCons, esNil, tBl, tTru, tNotT, tAndE, tOrE, Out.bind_ok, next_nx, next_rt, next_bk, eVar_z, eVar_s, List.set_cons_zero, List.set_cons_succ, List.map_cons, List.map_nil, List.cons_append, List.nil_append, List.length_cons, List.length_nil, List.replicate_succ, List.replicate_zero, wipeE, oNone, oSome])
    rw [mod_int M (by decide), hs1]
  have st2 : sAsg (eMod (eB opInt1 (esCons (eAdd mkF (eAdd mkF (eMul (eMul (eVar 3) (eVar 3)) (eVar 3)) (eMul (eC (.int 31)) (eVar 1))) (eC (.int 7))) esNil)) (eC (.int 2305843009213693951))) (gtName 3) [some (.rol (IL ns)), some (.int k), some (.int c), some (.int r1)] M = .ok (.nx [some (.rol (IL ns)), some (.int k), some (.int c), some (.int r2)]) M := by
    refine (sAsg_of (d := .int r2) (M1 := M) ?_).trans rfl
    (try simp (implicitDefEqProofs := false) only [sCons, sNil, sAsg, sRet, sRetN, sIf, sExp, sPar, gtName, eC, eBin, eUn, eB, eIf, eAnd, eOr, eNot, esCons, esNil, tBl, tTru, tNotT, tAndE, tOrE, Out.bind_ok, next_nx, next_rt, next_bk, eVar_z, eVar_s, List.set_cons_zero, List.set_cons_succ, List.map_cons, List.map_nil, List.cons_append, List.nil_append, List.length_cons, List.length_nil, List.replicate_succ, List.replicate_zero, wipeE, oNone, oSome])
    rw [mul_int M (cmul200 (by omega) (by omega) (by omega) (by omega))]
    (try simp (implicitDefEqProofs := false) only [sCons, sNil, sAsg, sRet, sRetN, sIf, sExp, sPar, gtName, eC, eBin, eUn, eB, eIf, eAnd, eOr, eNot, esCons, esNil, tBl, tTru, tNotT, tAndE, tOrE, Out.bind_ok, next_nx, next_rt, next_bk, eVar_z, eVar_s, List.set_cons_zero, List.set_cons_succ, List.map_cons, List.map_nil, List.cons_append, List.nil_append, List.length_cons, List.length_nil, List.replicate_succ, List.replicate_zero, wipeE, oNone, oSome])
    rw [mul_int M (cmul200 (by omega) (by omega) (by omega) (by omega))]
    (try simp (implicitDefEqProofs := false) only [sCons, sNil, sAsg, sRet, sRetN, sIf, sExp, sPar, gtName, eC, eBin, eUn, eB, eIf, eAnd, eOr, eNot, esCons, esNil, tBl, tTru, tNotT, tAndE, tOrE, Out.bind_ok, next_nx, next_rt, next_bk, eVar_z, eVar_s, List.set_cons_zero, List.set_cons_succ, List.map_cons, List.map_nil, List.cons_append, List.nil_append, List.length_cons, List.length_nil, List.replicate_succ, List.replicate_zero, wipeE, oNone, oSome])
    rw [mul_int M (cmul200 (by decide) (by decide) (by omega) (by omega))]
    (try simp (implicitDefEqProofs := false) only [sCons, sNil, sAsg, sRet, sRetN, sIf, sExp, sPar, gtName, eC, eBin, eUn, eB, eIf, eAnd, eOr, eNot, esCons, esNil, tBl, tTru, tNotT, tAndE, tOrE, Out.bind_ok, next_nx, next_rt, next_bk, eVar_z, eVar_s, List.set_cons_zero, List.set_cons_succ, List.map_cons, List.map_nil, List.cons_append, List.nil_append, List.length_cons, List.length_nil, List.replicate_succ, List.replicate_zero, wipeE, oNone, oSome])
    rw [add_int]
    (try simp (implicitDefEqProofs := false) only [sCons, sNil, sAsg, sRet, sRetN, sIf, sExp, sPar, gtName, eC, eBin, eUn, eB, eIf, eAnd, eOr, eNot, esCons, esNil, tBl, tTru, tNotT, tAndE, tOrE, Out.bind_ok, next_nx, next_rt, next_bk, eVar_z, eVar_s, List.set_cons_zero, List.set_cons_succ, List.map_cons, List.map_nil, List.cons_append, List.nil_append, List.length_cons, List.length_nil, List.replicate_succ, List.replicate_zero, wipeE, oNone, oSome])
    rw [add_int]
    (try simp (implicitDefEqProofs := false) only [sCons, sNil, sAsg, sRet, sRetN, sIf, sExp, sPar, gtName, eC, eBin, eUn, eB, eIf, eAnd, eOr, eNot, esCons, esNil, tBl, tTru, tNotT, tAndE, tOrE, Out.bind_ok, next_nx, next_rt, next_bk, eVar_z, eVar_s, List.set_cons_zero, List.set_cons_succ, List.map_cons, List.map_nil, List.cons_append, List.nil_append, List.length_cons, List.length_nil, List.replicate_succ, List.replicate_zero, wipeE, oNone, oSome])
    rw [int1]
    (try simp (implicitDefEqProofs := false) only [sCons, sNil, sAsg, sRet, sRetN, sIf, sExp, sPar, gtName, eC, eBin, eUn, eB, eIf, eAnd, eOr, eNot, esCons, esNil, tBl, tTru, tNotT, tAndE, tOrE, Out.bind_ok, next_nx, next_rt, next_bk, eVar_z, eVar_s, List.set_cons_zero, List.set_cons_succ, List.map_cons, List.map_nil, List.cons_append, List.nil_append, List.length_cons, List.length_nil, List.replicate_succ, List.replicate_zero, wipeE, oNone, oSome])
    rw [mod_int M (by decide), hs2]
  have pw : ∀ env, ePow (eC (.int 10)) (eC (.int 18)) env M = .ok (.int (10 ^ 18)) M := fun env => by
    refine (bin_of (x := .int 10) (y := .int 18) (M1 := M) (M2 := M) rfl rfl).trans ?_
    rw [pow_int M (by refine ⟨?_, ?_, ?_⟩ <;> decide)]
    rfl
  have fin : ∀ a : Int, ∃ M', gc M (.ok (.ref M.length) (M ++ [.lst [.int a, .int r2]])) = .ok (.ref M.length) M' ∧ Dk M.length M' := fun a =>
    ⟨_, gc_new (fun z => by cases z) (moLt_ints _ [a, r2]), a, r2, b2.1, by omega, at_end _ _⟩
  have tt : tBl (eLt (eVar 2) (ePow (eC (.int 10)) (eC (.int 18)))) [some (.rol (IL ns)), some (.int k), some (.int c), some (.int r2)] M = .ok (decide (c < 10 ^ 18)) M :=
    tBl_of ((bin_of (op := opB fun i j => decide (i < j)) (x := .int c) (y := .int (10 ^ 18)) (M1 := M) (M2 := M) rfl (pw _)).trans rfl)
  have start : sAsg (eC (.int 0)) (gtName 2) [some (.rol (IL ns)), some (.int k), none, none] M = .ok (.nx [some (.rol (IL ns)), some (.int k), some (.int 0), none]) M := rfl
  by_cases hc : c < 10 ^ 18
  · obtain ⟨M', h1, h2⟩ := fin 0
    refine ⟨M', (fnF_rtq (n := 4) (body := b__law_deck) (ds := [.rol (IL ns), .int k]) (d := .ref M.length) (M' := M ++ [.lst [.int 0, .int r2]]) ?_).trans h1, h2⟩
    show b__law_deck [some (.rol (IL ns)), some (.int k), none, none] M = _
    unfold b__law_deck
    rw [sCons_nx start, sCons_nx hcell, sCons_nx st1, sCons_nx st2]
    refine sCons_rt ?_
    rw [sIf_t (M1 := M) (tt.trans (by rw [decide_eq_true hc]))]
    exact sCons_rt (sRet_of (lst2N rfl rfl))
  · obtain ⟨M', h1, h2⟩ := fin (c - 10 ^ 18)
    refine ⟨M', (fnF_rtq (n := 4) (body := b__law_deck) (ds := [.rol (IL ns), .int k]) (d := .ref M.length) (M' := M ++ [.lst [.int (c - 10 ^ 18), .int r2]]) ?_).trans h1, h2⟩
    show b__law_deck [some (.rol (IL ns)), some (.int k), none, none] M = _
    unfold b__law_deck
    rw [sCons_nx start, sCons_nx hcell, sCons_nx st1, sCons_nx st2]
    refine (sCons_nx (e1 := [some (.rol (IL ns)), some (.int k), some (.int c), some (.int r2)]) (M1 := M) ((sIf_f (M1 := M) (tt.trans (by rw [decide_eq_false hc]))).trans rfl)).trans ?_
    refine sCons_rt (sRet_of (lst2N ?_ rfl))
    exact (bin_of (op := opI (· - ·)) (x := .int c) (y := .int (10 ^ 18)) (M1 := M) (M2 := M) rfl (pw _)).trans rfl
theorem take_ok {n : Nat} {M : List MO} (h : Dk n M) {many : Int} (h1 : 1 ≤ many) (h2 : many ≤ 1000000000000000000000000000000) :
    ∃ t M', F__law_take [.ref n, .int many] M = .ok (.int t) M' ∧ 0 ≤ t ∧ t < many ∧ Dk n M' ∧ Only n M M' := by
  obtain ⟨a, b, hb0, hb1, hab⟩ := h
  have hn : n < M.length := (List.getElem?_eq_some_iff.mp hab).1
  have hdv : ∀ i : Int, L2.CDivW i many := fun i => ⟨by omega, Nat.lt_trans (log2_lt (k := 200) (by omega) (by omega) (by omega)) (by omega)⟩
  by_cases ha : 0 < a
  · refine ⟨a % many, M.set n (.lst [.int (a / many), .int b]), ?_, Int.emod_nonneg _ (by omega), Int.emod_lt_of_pos _ (by omega), ⟨a / many, b, hb0, hb1, List.getElem?_set_self hn⟩, .set⟩
    unfold F__law_take
    rw [fnF_rtq (d := .int (a % many)) (M' := M.set n (.lst [.int (a / many), .int b])) (show b__law_take [some (.ref n), some (.int many), none] M = _ from ?_)]
    · exact gc_only .set ⟨a / many, b, hb0, hb1, List.getElem?_set_self hn⟩ (noRef_int _)
    unfold b__law_take
    (try simp (implicitDefEqProofs := false) only [sCons, sNil, sAsg, sRet, sRetN, sIf, sExp, sPar, gtName, eC, eBin, eUn, eB, eIf, eAnd, eOr, eNot, esCons, esNil, tBl, tTru, tNotT, tAndE, tOrE, Out.bind_ok, next_nx, next_rt, next_bk, eVar_z, eVar_s, List.set_cons_zero, List.set_cons_succ, List.map_cons, List.map_nil, List.cons_append, List.nil_append, List.length_cons, List.length_nil, List.replicate_succ, List.replicate_zero, wipeE, oNone, oSome])
    rw [ix_ref0 hab]
    (try simp (implicitDefEqProofs := false) only [sCons, sNil, sAsg, sRet, sRetN, sIf, sExp, sPar, gtName, eC, eBin, eUn, eB, eIf, eAnd, eOr, eNot, esCons, esNil, tBl, tTru, tNotT, tAndE, tOrE, Out.bind_ok, next_nx, next_rt, next_bk, eVar_z, eVar_s, List.set_cons_zero, List.set_cons_succ, List.map_cons, List.map_nil, List.cons_append, List.nil_append, List.length_cons, List.length_nil, List.replicate_succ, List.replicate_zero, wipeE, oNone, oSome])
    rw [gt_int, decide_eq_true ha]
    rw [Out.bind_ok, show oT (asB (.bl true)) M = .ok true M from rfl, Out.bind_ok, if_pos rfl]
    (try simp (implicitDefEqProofs := false) only [sCons, sNil, sAsg, sRet, sRetN, sIf, sExp, sPar, gtName, eC, eBin, eUn, eB, eIf, eAnd, eOr, eNot, esCons, esNil, tBl, tTru, tNotT, tAndE, tOrE, Out.bind_ok, next_nx, next_rt, next_bk, eVar_z, eVar_s, List.set_cons_zero, List.set_cons_succ, List.map_cons, List.map_nil, List.cons_append, List.nil_append, List.length_cons, List.length_nil, List.replicate_succ, List.replicate_zero, wipeE, oNone, oSome])
    rw [ix_ref0 hab]
    (try simp (implicitDefEqProofs := false) only [sCons, sNil, sAsg, sRet, sRetN, sIf, sExp, sPar, gtName, eC, eBin, eUn, eB, eIf, eAnd, eOr, eNot, esCons, esNil, tBl, tTru, tNotT, tAndE, tOrE, Out.bind_ok, next_nx, next_rt, next_bk, eVar_z, eVar_s, List.set_cons_zero, List.set_cons_succ, List.map_cons, List.map_nil, List.cons_append, List.nil_append, List.length_cons, List.length_nil, List.replicate_succ, List.replicate_zero, wipeE, oNone, oSome])
    rw [int1]
    (try simp (implicitDefEqProofs := false) only [sCons, sNil, sAsg, sRet, sRetN, sIf, sExp, sPar, gtName, eC, eBin, eUn, eB, eIf, eAnd, eOr, eNot, esCons, esNil, tBl, tTru, tNotT, tAndE, tOrE, Out.bind_ok, next_nx, next_rt, next_bk, eVar_z, eVar_s, List.set_cons_zero, List.set_cons_succ, List.map_cons, List.map_nil, List.cons_append, List.nil_append, List.length_cons, List.length_nil, List.replicate_succ, List.replicate_zero, wipeE, oNone, oSome])
    rw [mod_int M (by omega)]
    (try simp (implicitDefEqProofs := false) only [sCons, sNil, sAsg, sRet, sRetN, sIf, sExp, sPar, gtName, eC, eBin, eUn, eB, eIf, eAnd, eOr, eNot, esCons, esNil, tBl, tTru, tNotT, tAndE, tOrE, Out.bind_ok, next_nx, next_rt, next_bk, eVar_z, eVar_s, List.set_cons_zero, List.set_cons_succ, List.map_cons, List.map_nil, List.cons_append, List.nil_append, List.length_cons, List.length_nil, List.replicate_succ, List.replicate_zero, wipeE, oNone, oSome])
    rw [ix_ref0 hab]
    (try simp (implicitDefEqProofs := false) only [sCons, sNil, sAsg, sRet, sRetN, sIf, sExp, sPar, gtName, eC, eBin, eUn, eB, eIf, eAnd, eOr, eNot, esCons, esNil, tBl, tTru, tNotT, tAndE, tOrE, Out.bind_ok, next_nx, next_rt, next_bk, eVar_z, eVar_s, List.set_cons_zero, List.set_cons_succ, List.map_cons, List.map_nil, List.cons_append, List.nil_append, List.length_cons, List.length_nil, List.replicate_succ, List.replicate_zero, wipeE, oNone, oSome])
    rw [fdiv_int M (hdv _)]
    unfold gtSub
    (try simp (implicitDefEqProofs := false) only [sCons, sNil, sAsg, sRet, sRetN, sIf, sExp, sPar, gtName, eC, eBin, eUn, eB, eIf, eAnd, eOr, eNot, esCons, esNil, tBl, tTru, tNotT, tAndE, tOrE, Out.bind_ok, next_nx, next_rt, next_bk, eVar_z, eVar_s, List.set_cons_zero, List.set_cons_succ, List.map_cons, List.map_nil, List.cons_append, List.nil_append, List.length_cons, List.length_nil, List.replicate_succ, List.replicate_zero, wipeE, oNone, oSome])
    rw [setL0 hab]
    (try simp (implicitDefEqProofs := false) only [sCons, sNil, sAsg, sRet, sRetN, sIf, sExp, sPar, gtName, eC, eBin, eUn, eB, eIf, eAnd, eOr, eNot, esCons, esNil, tBl, tTru, tNotT, tAndE, tOrE, Out.bind_ok, next_nx, next_rt, next_bk, eVar_z, eVar_s, List.set_cons_zero, List.set_cons_succ, List.map_cons, List.map_nil, List.cons_append, List.nil_append, List.length_cons, List.length_nil, List.replicate_succ, List.replicate_zero, wipeE, oNone, oSome])
  · have r0 : 0 ≤ (b * 6364136223846793005 + 1442695040888963407) % 2 ^ 64 := Int.emod_nonneg _ (by decide)
    have r1 : (b * 6364136223846793005 + 1442695040888963407) % 2 ^ 64 < 2 ^ 64 := Int.emod_lt_of_pos _ (by decide)
    generalize hr : (b * 6364136223846793005 + 1442695040888963407) % 2 ^ 64 = r at r0 r1
    have hq : (M.set n (.lst [.int a, .int r]))[n]? = some (.lst [.int a, .int r]) := List.getElem?_set_self hn
    refine ⟨r / 2 ^ 20 % many, M.set n (.lst [.int a, .int r]), ?_, Int.emod_nonneg _ (by omega), Int.emod_lt_of_pos _ (by omega), ⟨a, r, r0, r1, hq⟩, .set⟩
    unfold F__law_take
    rw [fnF_rtq (d := .int (r / 2 ^ 20 % many)) (M' := M.set n (.lst [.int a, .int r])) (show b__law_take [some (.ref n), some (.int many), none] M = _ from ?_)]
    · exact gc_only .set ⟨a, r, r0, r1, hq⟩ (noRef_int _)
    unfold b__law_take
    (try simp (implicitDefEqProofs := false) only [sCons, sNil, sAsg, sRet, sRetN, sIf, sExp, sPar, gtName, eC, eBin, eUn, eB, eIf, eAnd, eOr, eNot, esCons, esNil, tBl, tTru, tNotT, tAndE, tOrE, Out.bind_ok, next_nx, next_rt, next_bk, eVar_z, eVar_s, List.set_cons_zero, List.set_cons_succ, List.map_cons, List.map_nil, List.cons_append, List.nil_append, List.length_cons, List.length_nil, List.replicate_succ, List.replicate_zero, wipeE, oNone, oSome])
    rw [ix_ref0 hab]
    (try simp (implicitDefEqProofs := false) only [sCons, sNil, sAsg, sRet, sRetN, sIf, sExp, sPar, gtName, eC, eBin, eUn, eB, eIf, eAnd, eOr, eNot, esCons, esNil, tBl, tTru, tNotT, tAndE, tOrE, Out.bind_ok, next_nx, next_rt, next_bk, eVar_z, eVar_s, List.set_cons_zero, List.set_cons_succ, List.map_cons, List.map_nil, List.cons_append, List.nil_append, List.length_cons, List.length_nil, List.replicate_succ, List.replicate_zero, wipeE, oNone, oSome])
    rw [gt_int, decide_eq_false ha]
    rw [Out.bind_ok, show oT (asB (.bl false)) M = .ok false M from rfl, Out.bind_ok, if_neg Bool.false_ne_true]
    (try simp (implicitDefEqProofs := false) only [sCons, sNil, sAsg, sRet, sRetN, sIf, sExp, sPar, gtName, eC, eBin, eUn, eB, eIf, eAnd, eOr, eNot, esCons, esNil, tBl, tTru, tNotT, tAndE, tOrE, Out.bind_ok, next_nx, next_rt, next_bk, eVar_z, eVar_s, List.set_cons_zero, List.set_cons_succ, List.map_cons, List.map_nil, List.cons_append, List.nil_append, List.length_cons, List.length_nil, List.replicate_succ, List.replicate_zero, wipeE, oNone, oSome])
    rw [ix_ref1 hab]
    (try simp (implicitDefEqProofs := false) only [sCons, sNil, sAsg, sRet, sRetN, sIf, sExp, sPar, gtName, eC, eBin, eUn, eB, eIf, eAnd, eOr, eNot, esCons, esNil, tBl, tTru, tNotT, tAndE, tOrE, Out.bind_ok, next_nx, next_rt, next_bk, eVar_z, eVar_s, List.set_cons_zero, List.set_cons_succ, List.map_cons, List.map_nil, List.cons_append, List.nil_append, List.length_cons, List.length_nil, List.replicate_succ, List.replicate_zero, wipeE, oNone, oSome])
    rw [mul_int M (cmul_small (by omega) (by omega) (by decide) (by decide))]
    (try simp (implicitDefEqProofs := false) only [sCons, sNil, sAsg, sRet, sRetN, sIf, sExp, sPar, gtName, eC, eBin, eUn, eB, eIf, eAnd, eOr, eNot, esCons, esNil, tBl, tTru, tNotT, tAndE, tOrE, Out.bind_ok, next_nx, next_rt, next_bk, eVar_z, eVar_s, List.set_cons_zero, List.set_cons_succ, List.map_cons, List.map_nil, List.cons_append, List.nil_append, List.length_cons, List.length_nil, List.replicate_succ, List.replicate_zero, wipeE, oNone, oSome])
    rw [add_int]
    (try simp (implicitDefEqProofs := false) only [sCons, sNil, sAsg, sRet, sRetN, sIf, sExp, sPar, gtName, eC, eBin, eUn, eB, eIf, eAnd, eOr, eNot, esCons, esNil, tBl, tTru, tNotT, tAndE, tOrE, Out.bind_ok, next_nx, next_rt, next_bk, eVar_z, eVar_s, List.set_cons_zero, List.set_cons_succ, List.map_cons, List.map_nil, List.cons_append, List.nil_append, List.length_cons, List.length_nil, List.replicate_succ, List.replicate_zero, wipeE, oNone, oSome])
    rw [int1]
    (try simp (implicitDefEqProofs := false) only [sCons, sNil, sAsg, sRet, sRetN, sIf, sExp, sPar, gtName, eC, eBin, eUn, eB, eIf, eAnd, eOr, eNot, esCons, esNil, tBl, tTru, tNotT, tAndE, tOrE, Out.bind_ok, next_nx, next_rt, next_bk, eVar_z, eVar_s, List.set_cons_zero, List.set_cons_succ, List.map_cons, List.map_nil, List.cons_append, List.nil_append, List.length_cons, List.length_nil, List.replicate_succ, List.replicate_zero, wipeE, oNone, oSome])
    rw [pow_int M (by refine ⟨?_, ?_, ?_⟩ <;> decide)]
    (try simp (implicitDefEqProofs := false) only [sCons, sNil, sAsg, sRet, sRetN, sIf, sExp, sPar, gtName, eC, eBin, eUn, eB, eIf, eAnd, eOr, eNot, esCons, esNil, tBl, tTru, tNotT, tAndE, tOrE, Out.bind_ok, next_nx, next_rt, next_bk, eVar_z, eVar_s, List.set_cons_zero, List.set_cons_succ, List.map_cons, List.map_nil, List.cons_append, List.nil_append, List.length_cons, List.length_nil, List.replicate_succ, List.replicate_zero, wipeE, oNone, oSome])
    rw [show ((2 : Int) ^ (64 : Int).toNat) = 2 ^ 64 from rfl, mod_int M (by decide), hr]
    unfold gtSub
    (try simp (implicitDefEqProofs := false) only [sCons, sNil, sAsg, sRet, sRetN, sIf, sExp, sPar, gtName, eC, eBin, eUn, eB, eIf, eAnd, eOr, eNot, esCons, esNil, tBl, tTru, tNotT, tAndE, tOrE, Out.bind_ok, next_nx, next_rt, next_bk, eVar_z, eVar_s, List.set_cons_zero, List.set_cons_succ, List.map_cons, List.map_nil, List.cons_append, List.nil_append, List.length_cons, List.length_nil, List.replicate_succ, List.replicate_zero, wipeE, oNone, oSome])
    rw [setL1 hab]
    (try simp (implicitDefEqProofs := false) only [sCons, sNil, sAsg, sRet, sRetN, sIf, sExp, sPar, gtName, eC, eBin, eUn, eB, eIf, eAnd, eOr, eNot, esCons, esNil, tBl, tTru, tNotT, tAndE, tOrE, Out.bind_ok, next_nx, next_rt, next_bk, eVar_z, eVar_s, List.set_cons_zero, List.set_cons_succ, List.map_cons, List.map_nil, List.cons_append, List.nil_append, List.length_cons, List.length_nil, List.replicate_succ, List.replicate_zero, wipeE, oNone, oSome])
    rw [ix_ref1 hq]
    (try simp (implicitDefEqProofs := false) only [sCons, sNil, sAsg, sRet, sRetN, sIf, sExp, sPar, gtName, eC, eBin, eUn, eB, eIf, eAnd, eOr, eNot, esCons, esNil, tBl, tTru, tNotT, tAndE, tOrE, Out.bind_ok, next_nx, next_rt, next_bk, eVar_z, eVar_s, List.set_cons_zero, List.set_cons_succ, List.map_cons, List.map_nil, List.cons_append, List.nil_append, List.length_cons, List.length_nil, List.replicate_succ, List.replicate_zero, wipeE, oNone, oSome])
    rw [pow_int _ (by refine ⟨?_, ?_, ?_⟩ <;> decide)]
    (try simp (implicitDefEqProofs := false) only [sCons, sNil, sAsg, sRet, sRetN, sIf, sExp, sPar, gtName, eC, eBin, eUn, eB, eIf, eAnd, eOr, eNot, esCons, esNil, tBl, tTru, tNotT, tAndE, tOrE, Out.bind_ok, next_nx, next_rt, next_bk, eVar_z, eVar_s, List.set_cons_zero, List.set_cons_succ, List.map_cons, List.map_nil, List.cons_append, List.nil_append, List.length_cons, List.length_nil, List.replicate_succ, List.replicate_zero, wipeE, oNone, oSome])
    rw [show ((2 : Int) ^ (20 : Int).toNat) = 2 ^ 20 from rfl, fdiv_int _ (cdiv_small (by decide) (by decide))]
    (try simp (implicitDefEqProofs := false) only [sCons, sNil, sAsg, sRet, sRetN, sIf, sExp, sPar, gtName, eC, eBin, eUn, eB, eIf, eAnd, eOr, eNot, esCons, esNil, tBl, tTru, tNotT, tAndE, tOrE, Out.bind_ok, next_nx, next_rt, next_bk, eVar_z, eVar_s, List.set_cons_zero, List.set_cons_succ, List.map_cons, List.map_nil, List.cons_append, List.nil_append, List.length_cons, List.length_nil, List.replicate_succ, List.replicate_zero, wipeE, oNone, oSome])
    rw [mod_int _ (by omega)]
    (try simp (implicitDefEqProofs := false) only [sCons, sNil, sAsg, sRet, sRetN, sIf, sExp, sPar, gtName, eC, eBin, eUn, eB, eIf, eAnd, eOr, eNot, esCons, esNil, tBl, tTru, tNotT, tAndE, tOrE, Out.bind_ok, next_nx, next_rt, next_bk, eVar_z, eVar_s, List.set_cons_zero, List.set_cons_succ, List.map_cons, List.map_nil, List.cons_append, List.nil_append, List.length_cons, List.length_nil, List.replicate_succ, List.replicate_zero, wipeE, oNone, oSome])
theorem given_ok {n : Nat} {M : List MO} (h : Dk n M) : ∃ g M', F__law_given [.ref n] M = .ok g M' ∧ Gv g ∧ Dk n M' ∧ Only n M M' := by
  obtain ⟨a, M1, e1, _, _, d1, o1⟩ := take_ok h (many := 1000000000000000000000000000000) (by decide) (by decide)
  obtain ⟨b, M2, e2, _, _, d2, o2⟩ := take_ok d1 (many := 9) (by decide) (by decide)
  obtain ⟨c, M3, e3, c0, c1, d3, o3⟩ := take_ok d2 (many := 14) (by decide) (by decide)
  have hl : c.toNat < (menu (a - 100000000000000000000000000000) b).length := by show c.toNat < 14; omega
  have hat : (menu (a - 100000000000000000000000000000) b)[c.toNat]? = some (menu (a - 100000000000000000000000000000) b)[c.toNat] := List.getElem?_eq_getElem hl
  have hg := menu_gv (a - 100000000000000000000000000000) b _ (List.mem_of_getElem? hat)
  refine ⟨_, M3, ?_, hg, d3, (o1.trans o2).trans o3⟩
  unfold F__law_given
  rw [fnF_rtq (d := (menu (a - 100000000000000000000000000000) b)[c.toNat]) (M' := M3) (show b__law_given [some (.ref n), none, none] M = _ from ?_)]
  · exact gc_only ((o1.trans o2).trans o3) d3 hg.1
  unfold b__law_given
  have pw : ∀ (env : Env) (M : List MO), ePow (eC (.int 10)) (eC (.int 30)) env M = .ok (.int 1000000000000000000000000000000) M := fun env M =>
    (bin_of (x := .int 10) (y := .int 30) (M1 := M) (M2 := M) rfl rfl).trans (by rw [pow_int M (by refine ⟨?_, ?_, ?_⟩ <;> decide)]; rfl)
  have pw2 : ∀ (env : Env) (M : List MO), ePow (eC (.int 10)) (eC (.int 29)) env M = .ok (.int 100000000000000000000000000000) M := fun env M =>
    (bin_of (x := .int 10) (y := .int 29) (M1 := M) (M2 := M) rfl rfl).trans (by rw [pow_int M (by refine ⟨?_, ?_, ?_⟩ <;> decide)]; rfl)
  have u1 : sAsg (eSub (eCall F__law_take (esCons (eVar 0) (esCons (ePow (eC (.int 10)) (eC (.int 30))) esNil))) (ePow (eC (.int 10)) (eC (.int 29)))) (gtName 1) [some (.ref n), none, none] M = .ok (.nx [some (.ref n), some (.int (a - 100000000000000000000000000000)), none]) M1 := by
    refine (sAsg_of (d := .int (a - 100000000000000000000000000000)) (M1 := M1) ?_).trans rfl
    refine (bin_of (op := opI (· - ·)) (x := .int a) (y := .int 100000000000000000000000000000) (M1 := M1) (M2 := M1) (call_eq (M1 := M) (es_cons rfl (es_cons (pw _ _) (es_nil _ _))) e1) (pw2 _ _)).trans rfl
  rw [sCons_nx u1]
  have tk : eCall F__law_take (esCons (eVar 0) (esCons (eC (.int 9)) esNil)) [some (.ref n), some (.int (a - 100000000000000000000000000000)), none] M1 = .ok (.int b) M2 := call_eq (M1 := M1) (es_cons rfl (es_cons rfl (es_nil _ _))) e2
  have t0 : ∀ (env : Env) (M : List MO), eTup esNil env M = .ok (.tup []) M := fun env M => tup0 env M
  have sz : ∀ {fs : EvEs} {env : Env} {M M' : List MO} {ds : List D}, fs env M = .ok ds M' → ds.length ≤ 1000000 → eTup fs env M = .ok (.tup ds) M' := fun {fs env M M' ds} h hl => by
    unfold eTup
    rw [h, Out.bind_ok, if_pos (small_line hl)]
  have szl : ∀ {fs : EvEs} {env : Env} {M M' : List MO} {ds : List D}, fs env M = .ok ds M' → ds.length ≤ 1000000 → eLst mkF fs env M = .ok (.lst ds) M' := fun {fs env M M' ds} h hl => by
    unfold eLst
    rw [h, Out.bind_ok, if_pos (small_line hl)]
    rfl
  have le2 : ∀ x y : D, [x, y].length ≤ 1000000 := fun _ _ => by show 2 ≤ 1000000; omega
  have u2 := szl (fs := (esCons (eVar 1) (esCons (eCall F__law_take (esCons (eVar 0) (esCons (eC (.int 9)) esNil))) (esCons (eC (.str "")) (esCons (eC (.str "a b")) (esCons (eC .non) (esCons (eC (.bl true)) (esCons (eC (.bl false)) (esCons (eTup esNil) (esCons (eTup (esCons (eVar 1) (esCons (eC (.int 1)) esNil))) (esCons (eLst mkF (esCons (eVar 1) (esCons (eC (.str "x")) esNil))) (esCons (eTup (esCons (eTup (esCons (eC (.int 1)) (esCons (eC (.int 2)) esNil))) (esCons (eTup (esCons (eC (.str "a")) (esCons (eTup esNil) esNil))) esNil))) (esCons (eLst mkF esNil) (esCons (eNeg (eC (.int 1))) (esCons (eC (.int 0)) esNil)))))))))))))))
    (env := [some (.ref n), some (.int (a - 100000000000000000000000000000)), none]) (M := M1) (M' := M2) (ds := menu (a - 100000000000000000000000000000) b) (by
      refine es_cons2 rfl (es_cons2 tk (es_cons2 rfl (es_cons2 rfl (es_cons2 rfl (es_cons2 rfl (es_cons2 rfl (es_cons2 (t0 _ _) (es_cons2 (sz (es_cons2 rfl (es_cons2 rfl (es_nil _ _))) (le2 _ _)) (es_cons2 (szl (es_cons2 rfl (es_cons2 rfl (es_nil _ _))) (le2 _ _)) (es_cons2 (sz (es_cons2 (sz (es_cons2 rfl (es_cons2 rfl (es_nil _ _))) (le2 _ _)) (es_cons2 (sz (es_cons2 rfl (es_cons2 (t0 _ _) (es_nil _ _))) (le2 _ _)) (es_nil _ _))) (le2 _ _)) (es_cons2 (szl (es_nil _ _) (Nat.zero_le _)) (es_cons2 rfl (es_cons2 rfl (es_nil _ _))))))))))))))) (by show 14 ≤ 1000000; omega)
  rw [sCons_nx ((sAsg_of (d := .lst (menu (a - 100000000000000000000000000000) b)) (M1 := M2) u2).trans rfl)]
  refine sCons_rt (sRet_of ?_)
  refine (bin_of (op := opIx) (x := .lst (menu (a - 100000000000000000000000000000) b)) (y := .int c) (M1 := M2) (M2 := M3) rfl (call_eq (M1 := M2) (es_cons rfl (es_cons rfl (es_nil _ _))) e3)).trans ?_
  exact ix_at (l := menu (a - 100000000000000000000000000000) b) c0 rfl hat
end K00
end
section
set_option Elab.async false
set_option linter.all false
set_option maxRecDepth 100000
set_option maxHeartbeats 2000000
open Classical
namespace K00
open SX
/-! ### raised, caught -/
theorem gc_exn {M : List MO} {c : Nat} {d : D} {e : Env} (h : noRef d) : gc M (.ex c d e M) = .ex c d [] M := by
  unfold gc
  dsimp only
  rw [if_pos ⟨cutOk_refl _ _, h.lt⟩, List.take_length]
theorem fnF_ex {n : Nat} {body : EvS} {ds : List D} {M : List MO} {c : Nat} {d : D} {e : Env} (h : body (ds.map some ++ List.replicate (n - ds.length) none) M = .ex c d e M) (hn : noRef d) : fnF n body ds M = .ex c d [] M := by
  unfold fnF
  rw [h]
  exact gc_exn hn
theorem call_ex {F : Fn} {fs : EvEs} {env : Env} {M M1 M2 : List MO} {ds : List D} {c : Nat} {d : D} {e : Env} (h : fs env M = .ok ds M1) (hF : F ds M1 = .ex c d e M2) : sExp (eCall F fs) env M = .ex c d env M2 := by
  unfold sExp eCall
  rw [h, Out.bind_ok, hF]
  rfl
theorem sCons_ex {t u : EvS} {env e : Env} {M M1 : List MO} {c : Nat} {d : D} (h : t env M = .ex c d e M1) : sCons t u env M = .ex c d e M1 := by
  unfold sCons
  rw [h]
  rfl
/-- a chain of ifs that raise -/
noncomputable def chain (z : Nat) : List (Int × Nat) → EvS
  | [] => sCons (sRaise z (eVar 1)) sNil
  | (i, k) :: r => sCons (sIf (tBl (eEq (eVar 0) (eC (.int i)))) (sCons (sRaise k (eVar 1)) sNil) sNil) (chain z r)
def pickX : List (Int × Nat) → Nat → Int → Nat
  | [], z, _ => z
  | (i, k) :: r, z, w => if w = i then k else pickX r z w
theorem chain_ok (w : Int) (g : D) (M : List MO) : ∀ l z, chain z l [some (.int w), some g] M = .ex (pickX l z w) g [some (.int w), some g] M
  | [], z => rfl
  | (i, k) :: r, z => by
    unfold chain pickX
    have t : tBl (eEq (eVar 0) (eC (.int i))) [some (.int w), some g] M = .ok (decide (w = i)) M := by (simp (implicitDefEqProofs := false) (disch := first | assumption | omega) only [sCons, sNil, sAsg, sRet, sRetN, sIf, sExp, sPar, gtName, eC, eBin, eUn, eB, eIf, eAnd, eOr, eNot, esCons, esNil, tBl, tTru, tNotT, tAndE, tOrE, Out.bind_ok, next_nx, next_rt, next_bk, eVar_z, eVar_s, List.set_cons_zero, List.set_cons_succ, List.cons_append, List.nil_append, List.replicate_succ, List.replicate_zero, wipeE, oNone, oSome, eSl, gtTup, gtsCons, gtsNil, truV_bl, eTup1, tupI1, tup0, lst0, eLst_nilN, eqI, neI, eqT, neT, eqL, neL, lt_int, gt_int, le_int, ge_int, neg_int, add_int, sub_int, int1, intB, lenT, lenL, add_tI, add_lI, ix0T, sl1_to, sl1_from, tupOf_lst, rev_tup, mm2_max, mm2_min, abs_int, tru_tI, tru_lI, oT_some, asB_bl, eq_self, if_true, if_false, Bool.false_eq_true, Bool.not_true, Bool.not_false])
    by_cases h : w = i
    · rw [if_pos h]
      refine sCons_ex ?_
      rw [sIf_t (M1 := M) (t.trans (by rw [decide_eq_true h]))]
      rfl
    · rw [if_neg h, sCons_nx (e1 := [some (.int w), some g]) (M1 := M) ((sIf_f (M1 := M) (t.trans (by rw [decide_eq_false h]))).trans rfl)]
      exact chain_ok w g M r z
def l1 : List (Int × Nat) := [(0, 1), (1, 2), (2, 3), (3, 4), (4, 5), (5, 6), (6, 7), (7, 8), (8, 9)]
def l2 : List (Int × Nat) := [(10, 11), (11, 12), (12, 13), (13, 14), (14, 15), (15, 16), (16, 17), (17, 18), (18, 19)]
theorem pick1 {w : Int} (h0 : 0 ≤ w) (h1 : w < 10) : pickX l1 10 w = w.toNat + 1 := by
  rcases (by omega : w = 0 ∨ w = 1 ∨ w = 2 ∨ w = 3 ∨ w = 4 ∨ w = 5 ∨ w = 6 ∨ w = 7 ∨ w = 8 ∨ w = 9) with h | h | h | h | h | h | h | h | h | h <;> subst h <;> decide
theorem pick2 {w : Int} (h0 : 10 ≤ w) (h1 : w < 20) : pickX l2 20 w = w.toNat + 1 := by
  rcases (by omega : w = 10 ∨ w = 11 ∨ w = 12 ∨ w = 13 ∨ w = 14 ∨ w = 15 ∨ w = 16 ∨ w = 17 ∨ w = 18 ∨ w = 19) with h | h | h | h | h | h | h | h | h | h <;> subst h <;> decide
theorem raised_ok {w : Int} {g : D} (b : Bool) (h0 : 0 ≤ w) (h1 : w < 20) (hg : noRef g) (M : List MO) : F__law_raised [.int w, g, .bl b] M = .ex (w.toNat + 1) g [] M := by
  refine fnF_ex (e := [some (.int w), some g, some (.bl b)]) ?_ hg
  show b__law_raised [some (.int w), some g, some (.bl b)] M = _
  unfold b__law_raised
  have args : (esCons (eVar 0) (esCons (eVar 1) esNil)) [some (.int w), some g, some (.bl b)] M = .ok [.int w, g] M := rfl
  have t1 : tBl (eLt (eVar 0) (eC (.int 10))) [some (.int w), some g, some (.bl b)] M = .ok (decide (w < 10)) M := by (simp (implicitDefEqProofs := false) (disch := first | assumption | omega) only [sCons, sNil, sAsg, sRet, sRetN, sIf, sExp, sPar, gtName, eC, eBin, eUn, eB, eIf, eAnd, eOr, eNot, esCons, esNil, tBl, tTru, tNotT, tAndE, tOrE, Out.bind_ok, next_nx, next_rt, next_bk, eVar_z, eVar_s, List.set_cons_zero, List.set_cons_succ, List.cons_append, List.nil_append, List.replicate_succ, List.replicate_zero, wipeE, oNone, oSome, eSl, gtTup, gtsCons, gtsNil, truV_bl, eTup1, tupI1, tup0, lst0, eLst_nilN, eqI, neI, eqT, neT, eqL, neL, lt_int, gt_int, le_int, ge_int, neg_int, add_int, sub_int, int1, intB, lenT, lenL, add_tI, add_lI, ix0T, sl1_to, sl1_from, tupOf_lst, rev_tup, mm2_max, mm2_min, abs_int, tru_tI, tru_lI, oT_some, asB_bl, eq_self, if_true, if_false, Bool.false_eq_true, Bool.not_true, Bool.not_false])
  have t2 : tTru (eVar 2) [some (.int w), some g, some (.bl b)] M = .ok b M := by (simp (implicitDefEqProofs := false) (disch := first | assumption | omega) only [sCons, sNil, sAsg, sRet, sRetN, sIf, sExp, sPar, gtName, eC, eBin, eUn, eB, eIf, eAnd, eOr, eNot, esCons, esNil, tBl, tTru, tNotT, tAndE, tOrE, Out.bind_ok, next_nx, next_rt, next_bk, eVar_z, eVar_s, List.set_cons_zero, List.set_cons_succ, List.cons_append, List.nil_append, List.replicate_succ, List.replicate_zero, wipeE, oNone, oSome, eSl, gtTup, gtsCons, gtsNil, truV_bl, eTup1, tupI1, tup0, lst0, eLst_nilN, eqI, neI, eqT, neT, eqL, neL, lt_int, gt_int, le_int, ge_int, neg_int, add_int, sub_int, int1, intB, lenT, lenL, add_tI, add_lI, ix0T, sl1_to, sl1_from, tupOf_lst, rev_tup, mm2_max, mm2_min, abs_int, tru_tI, tru_lI, oT_some, asB_bl, eq_self, if_true, if_false, Bool.false_eq_true, Bool.not_true, Bool.not_false])
  have t3 : tAndE (tBl (eLt (eVar 0) (eC (.int 10)))) (tTru (eVar 2)) [some (.int w), some g, some (.bl b)] M = .ok (decide (w < 10) && b) M := by
    unfold tAndE
    rw [t1, Out.bind_ok]
    cases decide (w < 10)
    · rfl
    · rw [if_pos rfl, t2]; rfl
  have r1 : ∀ F, F = fnF 2 (chain 10 l1) → w < 10 → F [.int w, g] M = .ex (w.toNat + 1) g [] M := fun F hF h => by
    rw [hF]
    refine fnF_ex (e := [some (.int w), some g]) ?_ hg
    rw [← pick1 h0 h]
    exact chain_ok w g M l1 10
  have r2 : ∀ F, F = fnF 2 (chain 20 l2) → ¬ w < 10 → F [.int w, g] M = .ex (w.toNat + 1) g [] M := fun F hF h => by
    rw [hF]
    refine fnF_ex (e := [some (.int w), some g]) ?_ hg
    rw [← pick2 (by omega) h1]
    exact chain_ok w g M l2 20
  refine sCons_ex ?_
  by_cases h : w < 10
  · rw [decide_eq_true h] at t1 t3
    cases b with
    | true =>
      rw [sIf_t (M1 := M) t3]
      exact sCons_ex (call_ex args (r1 _ rfl h))
    | false =>
      rw [sIf_f (M1 := M) t3]
      refine sCons_ex ?_
      rw [sIf_t (M1 := M) t1]
      exact sCons_ex (call_ex args (r1 _ rfl h))
  · rw [decide_eq_false h] at t1 t3
    rw [sIf_f (M1 := M) t3]
    refine sCons_ex ?_
    rw [sIf_f (M1 := M) t1]
    refine sCons_ex ?_
    cases b with
    | true =>
      rw [sIf_t (M1 := M) t2]
      exact sCons_ex (call_ex args (r2 _ rfl h))
    | false =>
      rw [sIf_f (M1 := M) t2]
      exact sCons_ex (call_ex args (r2 _ rfl h))
section
variable {cl : Nat → PySem.Addr}
theorem isX_at {c : Nat} (hc : c < 21) (f : Nat → Bool) (g : D) (M : List MO) : opIsX 21 cl f (.exc (cl c) c g) M = .ok (.bl (f c)) M := if_pos ⟨hc, rfl⟩
theorem add_ll {a b : List D} (M : List MO) (h : a.length + b.length ≤ 1000000) : opAdd mkF (.lst a) (.lst b) M = .ok (.lst (a ++ b)) M := by
  unfold opAdd
  dsimp only
  rw [show asLt M (.lst a) = some a from rfl, show asLt M (.lst b) = some b from rfl]
  dsimp only
  rw [if_pos (small_line h)]
  rfl
def kinds (c : Nat) : List Bool := (List.range 20).map fun j => isX c (j + 1)
theorem nr_exc {C : PySem.Addr} {c : Nat} {g : D} (h : noRef g) : noRef (.exc C c g) := by unfold noRef; exact h
theorem nr_bls (l : List Bool) : noRef (.lst (l.map D.bl)) := nr_lst fun d hd => by
  obtain ⟨b, _, rfl⟩ := List.mem_map.mp hd
  exact noRef_bl b
theorem lst3 {f g h : EvE} {env : Env} {M : List MO} {a b c : D} (h1 : f env M = .ok a M) (h2 : g env M = .ok b M) (h3 : h env M = .ok c M) : eLst mkF (esCons f (esCons g (esCons h esNil))) env M = .ok (.lst [a, b, c]) M := by
  unfold eLst
  rw [es_cons2 h1 (es_cons2 h2 (es_cons2 h3 (es_nil _ _))), Out.bind_ok, if_pos (small_line (by show 3 ≤ 1000000; omega))]
  rfl
theorem lst2 {f g : EvE} {env : Env} {M : List MO} {a b : D} (h1 : f env M = .ok a M) (h2 : g env M = .ok b M) : eLst mkF (esCons f (esCons g esNil)) env M = .ok (.lst [a, b]) M := by
  unfold eLst
  rw [es_cons2 h1 (es_cons2 h2 (es_nil _ _)), Out.bind_ok, if_pos (small_line (by show 2 ≤ 1000000; omega))]
  rfl
theorem kinds_ok {c : Nat} (hc : c < 21) (g : D) (M : List MO) : F__law_kinds cl [.exc (cl c) c g] M = .ok (.lst ((kinds c).map D.bl)) M := by
  refine fnF_rt ?_ (nr_bls _)
  show b__law_kinds cl [some (.exc (cl c) c g), none] M = _
  unfold b__law_kinds
  have one : ∀ (f : Nat → Bool) (x : Option D), eUn (opIsX 21 cl f) (eVar 0) [some (.exc (cl c) c g), x] M = .ok (.bl (f c)) M := fun f x => by
    show opIsX 21 cl f (.exc (cl c) c g) M = _
    exact isX_at hc f g M
  have ad : ∀ (l : List D) {h : EvE} {m : List D}, l.length + m.length ≤ 1000000 → h [some (.exc (cl c) c g), some (.lst l)] M = .ok (.lst m) M → eAdd mkF (eVar 1) h [some (.exc (cl c) c g), some (.lst l)] M = .ok (.lst (l ++ m)) M := fun l h m hl hh =>
    (bin_of (op := opAdd mkF) (x := .lst l) (y := .lst m) (M1 := M) (M2 := M) rfl hh).trans (add_ll M hl)
  have st : ∀ {f : EvE} {d : D} {x : Option D}, f [some (.exc (cl c) c g), x] M = .ok d M → sAsg f (gtName 1) [some (.exc (cl c) c g), x] M = .ok (.nx [some (.exc (cl c) c g), some d]) M := fun h => (sAsg_of h).trans rfl
  rw [sCons_nx (st (lst3 (one _ _) (one _ _) (one _ _)))]
  rw [sCons_nx (st (ad _ (by simp) (lst3 (one _ _) (one _ _) (one _ _))))]
  rw [sCons_nx (st (ad _ (by simp) (lst3 (one _ _) (one _ _) (one _ _))))]
  rw [sCons_nx (st (ad _ (by simp) (lst3 (one _ _) (one _ _) (one _ _))))]
  rw [sCons_nx (st (ad _ (by simp) (lst3 (one _ _) (one _ _) (one _ _))))]
  rw [sCons_nx (st (ad _ (by simp) (lst3 (one _ _) (one _ _) (one _ _))))]
  refine sCons_rt (sRet_of ?_)
  exact (ad _ (by simp) (lst2 (one _ _) (one _ _))).trans rfl
theorem sh_bls (l : List Bool) : PySem.SeqAt.shaped (.list (l.map PySem.PyData.bool)) = true := by
  have ok : ∀ l : List Bool, PySem.PyData.canLayAll0 (l.map PySem.PyData.bool) = true ∧ PySem.PyData.depthAll (l.map PySem.PyData.bool) = 0 := fun l => by
    induction l with
    | nil => exact ⟨rfl, rfl⟩
    | cons x l ih =>
      rw [List.map_cons]
      refine ⟨?_, ?_⟩
      · show (true && _) = true
        rw [ih.1]; rfl
      · show max 0 _ = 0
        rw [ih.2]; rfl
  unfold PySem.SeqAt.shaped
  rw [Bool.and_eq_true]
  refine ⟨(ok l).1, decide_eq_true ?_⟩
  have h2 := (ok l).2
  show PySem.PyData.depthAll (l.map PySem.PyData.bool) + 1 ≤ 64
  rw [h2]
  omega
theorem eqBs (a b : List Bool) (M : List MO) : opEq false (.lst (a.map D.bl)) (.lst (b.map D.bl)) M = .ok (.bl (decide (a = b))) M := by
  have py : ∀ l : List Bool, toPyL M (l.map D.bl) = some (l.map PySem.PyData.bool) := fun l => by
    induction l with
    | nil => unfold toPyL; rfl
    | cons x l ih =>
      rw [List.map_cons]
      unfold toPyL
      rw [ih]
      rfl
  have e1 : ∀ l : List Bool, toPyR M (.lst (l.map D.bl)) = some (.list (l.map PySem.PyData.bool)) := fun l => by
    show toPy M (.lst (l.map D.bl)) = _
    unfold toPy
    rw [py]
    rfl
  have e2 : PySem.PyData.eqv (.list (a.map PySem.PyData.bool)) (.list (b.map PySem.PyData.bool)) = decide (a = b) := PySem.W.Datum.eqv (α := List Bool) a b
  unfold opEq
  rw [e1, e1]
  dsimp only
  rw [if_pos ⟨sh_bls a, sh_bls b⟩, e2, if_neg Bool.false_ne_true]
end
end K00
end
section
set_option Elab.async false
set_option linter.all false
set_option maxRecDepth 100000
set_option maxHeartbeats 2000000
open Classical
namespace K00
open SX
variable {cl : Nat → PySem.Addr}
theorem sTry_ex {n c k : Nat} {t u : EvS} {l : Hans} {i : Option Nat} {env e : Env} {M M1 : List MO} {d : D} (h : t env M = .ex c d e M1) (hc : c < n) (hk : isX c k = true) {fl : Fl} {M2 : List MO} (hu : u (inE i (.exc (cl c) c d) e) M1 = .ok fl M2) :
    sTry n cl t ((k, i, u) :: l) env M = .ok (outF i fl) M2 := by
  unfold sTry
  rw [h]
  dsimp only
  rw [if_pos hc]
  unfold sHan
  rw [if_pos hk, hu]
theorem kinds_at : ∀ j : Nat, j < 20 → kinds (j + 1) = (List.range 20).map fun (i : Nat) => decide (((0 : Int) + (i : Int)) = (j : Int)) := by decide +kernel
theorem right_ok {w : Int} {g : D} (b : Bool) (h0 : 0 ≤ w) (h1 : w < 20) (hg : Gv g) (M : List MO) : F__law_right cl [.int w, g, .bl b] M = .ok (.bl true) M := by
  refine fnF_rt ?_ (noRef_bl _)
  show b__law_right cl [some (.int w), some g, some (.bl b), none, none, none] M = _
  unfold b__law_right
  have hc : w.toNat + 1 < 21 := by omega
  have u0 : sAsg (eC .non) (gtName 3) [some (.int w), some g, some (.bl b), none, none, none] M = .ok (.nx [some (.int w), some g, some (.bl b), some .non, none, none]) M := rfl
  have u1 : sTry 21 cl (sCons (sExp (eCall F__law_raised (esCons (eVar 0) (esCons (eVar 1) (esCons (eVar 2) esNil))))) sNil) [(0, some 4, (sCons (sAsg (eVar 4) (gtName 3)) sNil))] [some (.int w), some g, some (.bl b), some .non, none, none] M
      = .ok (.nx [some (.int w), some g, some (.bl b), some (.exc (cl (w.toNat + 1)) (w.toNat + 1) g), none, none]) M :=
    (sTry_ex (n := 21) (c := w.toNat + 1) (k := 0) (i := some 4) (fl := .nx [some (.int w), some g, some (.bl b), some (.exc (cl (w.toNat + 1)) (w.toNat + 1) g), some (.exc (cl (w.toNat + 1)) (w.toNat + 1) g), none]) (M2 := M) (e := [some (.int w), some g, some (.bl b), some .non, none, none]) (M1 := M) (sCons_ex (call_ex (M1 := M) (ds := [.int w, g, .bl b]) rfl (raised_ok b h0 h1 hg.1 M))) hc (by unfold isX; simp) rfl).trans rfl
  have u2 : sIf (tOrE (tBl (eIsN (eVar 3) (eC .non))) (tNotT (tTru (eUn (opIsX 21 cl fun _ => true) (eVar 3))))) (sCons (sRet (eC (.bl false))) sNil) sNil [some (.int w), some g, some (.bl b), some (.exc (cl (w.toNat + 1)) (w.toNat + 1) g), none, none] M
      = .ok (.nx [some (.int w), some g, some (.bl b), some (.exc (cl (w.toNat + 1)) (w.toNat + 1) g), none, none]) M := by
    refine (sIf_f (M1 := M) ?_).trans rfl
    unfold tOrE
    rw [show tBl (eIsN (eVar 3) (eC .non)) [some (.int w), some g, some (.bl b), some (.exc (cl (w.toNat + 1)) (w.toNat + 1) g), none, none] M = .ok false M from rfl, Out.bind_ok, if_neg Bool.false_ne_true]
    unfold tNotT tTru
    rw [show eUn (opIsX 21 cl fun _ => true) (eVar 3) [some (.int w), some g, some (.bl b), some (.exc (cl (w.toNat + 1)) (w.toNat + 1) g), none, none] M = .ok (.bl true) M from isX_at (cl := cl) hc (fun _ => true) g M]
    rfl
  rw [sCons_nx u0, sCons_nx u1, sCons_nx u2]
  refine sCons_rt (sRet_of ?_)
  refine (eAnd_t (M1 := M) ?_ ?_)
  · refine (bin_of (op := opEq false) (x := .lst ((kinds (w.toNat + 1)).map D.bl)) (y := .lst ((kinds (w.toNat + 1)).map D.bl)) (M1 := M) (M2 := M) (call_eq (M1 := M) rfl (kinds_ok hc g M)) ?_).trans ?_
    · rw [eComp_frz (c := .nm 5) (vs := [5]) (ds := rng 0 20) (chk := fun _ => True) (fun d => [some (.int w), some g, some (.bl b), some (.exc (cl (w.toNat + 1)) (w.toNat + 1) g), none, some d]) (fun _ => true) (fun d => match d with | .int i => .bl (decide (i = w)) | _ => .non) (iRange1 (M1 := M) (n := 20) rfl (by decide)) (fun _ => trivial) (fun _ _ => rfl) (fun d hd acc => rfl) (fun d hd _ acc => ?_) (fun d hd _ => ?_) (by rw [rng_length]; exact small_line (by decide))]
      · rw [kinds_at _ (by omega), List.filter_eq_self.mpr (fun _ _ => rfl)]
        unfold rng
        rw [List.map_map, List.map_map]
        have e : ((w.toNat : Nat) : Int) = w := by omega
        rw [e]
        rfl
      · obtain ⟨i, hi, rfl⟩ := rng_mem hd
        (try simp (implicitDefEqProofs := false) only [sCons, sNil, sAsg, sRet, sRetN, sIf, sExp, sPar, gtName, eC, eBin, eUn, eB, eIf, eAnd, eOr, eNot, esCons, esNil, tBl, tTru, tNotT, tAndE, tOrE, Out.bind_ok, next_nx, next_rt, next_bk, eVar_z, eVar_s, List.set_cons_zero, List.set_cons_succ, List.map_cons, List.map_nil, List.cons_append, List.nil_append, List.length_cons, List.length_nil, List.replicate_succ, List.replicate_zero, wipeE, oNone, oSome])
        rw [opEq_int, if_neg Bool.false_ne_true]
      · obtain ⟨i, hi, rfl⟩ := rng_mem hd
        exact noRef_bl _
    · rw [eqBs, decide_eq_true rfl]
  · exact call_eq (M1 := M) (es_cons rfl (es_cons rfl (es_nil _ _))) (hg.2 M)
theorem no_kind : kinds 0 = List.replicate 20 false := by decide +kernel
theorem base_ok {g : D} (hg : Gv g) (M : List MO) : F__law_base_right cl [g] M = .ok (.bl true) M := by
  refine fnF_rt ?_ (noRef_bl _)
  show b__law_base_right cl [some g, none, none] M = _
  unfold b__law_base_right
  have u0 : sAsg (eC .non) (gtName 1) [some g, none, none] M = .ok (.nx [some g, some .non, none]) M := rfl
  have u1 : sTry 21 cl (sCons (sRaise 0 (eVar 0)) sNil) [(0, some 2, (sCons (sAsg (eVar 2) (gtName 1)) sNil))] [some g, some .non, none] M = .ok (.nx [some g, some (.exc (cl 0) 0 g), none]) M :=
    (sTry_ex (n := 21) (c := 0) (k := 0) (i := some 2) (fl := .nx [some g, some (.exc (cl 0) 0 g), some (.exc (cl 0) 0 g)]) (M2 := M) (e := [some g, some .non, none]) (M1 := M) (sCons_ex (t := sRaise 0 (eVar 0)) (u := sNil) (show sRaise 0 (eVar 0) [some g, some .non, none] M = .ex 0 g [some g, some .non, none] M from rfl)) (by decide) rfl rfl).trans rfl
  have u2 : sIf (tOrE (tNotT (tTru (eUn (opIsX 21 cl fun _ => true) (eVar 1)))) (tBl (eBin (opIn false) (eC (.bl true)) (eCall (F__law_kinds cl) (esCons (eVar 1) esNil))))) (sCons (sRet (eC (.bl false))) sNil) sNil [some g, some (.exc (cl 0) 0 g), none] M
      = .ok (.nx [some g, some (.exc (cl 0) 0 g), none]) M := by
    refine (sIf_f (M1 := M) ?_).trans rfl
    unfold tOrE
    have t1 : tNotT (tTru (eUn (opIsX 21 cl fun _ => true) (eVar 1))) [some g, some (.exc (cl 0) 0 g), none] M = .ok false M := by
      unfold tNotT tTru
      rw [show eUn (opIsX 21 cl fun _ => true) (eVar 1) [some g, some (.exc (cl 0) 0 g), none] M = .ok (.bl true) M from isX_at (cl := cl) (by decide) (fun _ => true) g M]
      rfl
    rw [t1, Out.bind_ok, if_neg Bool.false_ne_true]
    refine tBl_of ?_
    refine (bin_of (op := opIn false) (x := .bl true) (y := .lst ((kinds 0).map D.bl)) (M1 := M) (M2 := M) rfl (call_eq (M1 := M) rfl (kinds_ok (by decide) g M))).trans ?_
    rw [no_kind]
    unfold opIn
    have e1 : toPyR M (.bl true) = some (.bool true) := rfl
    have e2 : toPyR M (.lst ((List.replicate 20 false).map D.bl)) = some (.list ((List.replicate 20 false).map PySem.PyData.bool)) := rfl
    rw [e1, e2]
    dsimp only
    rw [if_pos ⟨rfl, sh_bls (List.replicate 20 false)⟩]
    rfl
  rw [sCons_nx u0, sCons_nx u1, sCons_nx u2]
  refine sCons_rt (sRet_of ?_)
  exact eAnd_t (M1 := M) (call_eq (M1 := M) (es_cons rfl (es_cons rfl (es_nil _ _))) (hg.2 M)) (call_eq (M1 := M) (es_cons rfl (es_cons rfl (es_nil _ _))) (hg.2 M))
end K00
end
section
set_option Elab.async false
set_option linter.all false
set_option maxRecDepth 100000
set_option maxHeartbeats 2000000
open Classical
namespace K00
open SX
variable {cl : Nat → PySem.Addr}
theorem sPar_of {i j : Nat} {f g : EvE} {env : Env} {M M1 M2 : List MO} {x y : D} (h1 : f env M = .ok x M1) (h2 : g env M1 = .ok y M2) : sPar i j f g env M = .ok (.nx ((env.set i (some x)).set j (some y))) M2 := by
  unfold sPar
  rw [h1, Out.bind_ok, h2, Out.bind_ok]
theorem raise_st {env : Env} {M : List MO} {w : Int} {g : D} {b : Bool} {k : Nat} {f : EvEs} (hf : f env M = .ok [.int w, g, .bl b] M) (h0 : 0 ≤ w) (h1 : w < 20) (hg : Gv g) {e2 : Env} (h9 : sCons (sAsg (eVar 9) (gtName k)) sNil (env.set 9 (some (.exc (cl (w.toNat + 1)) (w.toNat + 1) g))) M = .ok (.nx e2) M) :
    sTry 21 cl (sCons (sExp (eCall F__law_raised f)) sNil) [(0, some 9, (sCons (sAsg (eVar 9) (gtName k)) sNil))] env M = .ok (.nx (e2.set 9 none)) M :=
  sTry_ex (n := 21) (c := w.toNat + 1) (k := 0) (i := some 9) (fl := .nx e2) (M2 := M) (e := env) (M1 := M) (sCons_ex (call_ex (M1 := M) (ds := [.int w, g, .bl b]) hf (raised_ok b h0 h1 hg.1 M))) (by omega) (by unfold isX; simp) h9
theorem not_tt {f : EvE} {env : Env} {M M1 : List MO} (h : f env M = .ok (.bl true) M1) : tNotT (tTru f) env M = .ok false M1 := by
  unfold tNotT tTru
  rw [h, Out.bind_ok, truV_bl]
  rfl
theorem or_ff {f g : EvT} {env : Env} {M M1 M2 : List MO} (h1 : f env M = .ok false M1) (h2 : g env M1 = .ok false M2) : tOrE f g env M = .ok false M2 := by
  unfold tOrE
  rw [h1, Out.bind_ok, if_neg Bool.false_ne_true, h2]
theorem turn_ok (ns : List Int) {i : Nat} (hi : i < 40) (s1 s2 s4 s5 s6 s7 s8 s9 : Option D) (M : List MO) :
    ∃ t1 t2 t4 t5 t6 t7 t8 t9 M', b_law_1 cl [some (.rol (IL ns)), s1, s2, some (.int (0 + (i : Int))), s4, s5, s6, s7, s8, s9] M = .ok (.nx [some (.rol (IL ns)), t1, t2, some (.int (0 + (i : Int))), t4, t5, t6, t7, t8, t9]) M' := by
  obtain ⟨M1, e1, d1⟩ := deck_ok ns i (by omega) M
  obtain ⟨w, M2, e2, w0, w1, d2, _⟩ := take_ok d1 (many := 20) (by decide) (by decide)
  obtain ⟨b, M3, e3, _, _, d3, _⟩ := take_ok d2 (many := 2) (by decide) (by decide)
  obtain ⟨g, M4, e4, hg, d4, _⟩ := given_ok d3
  obtain ⟨o, M5, e5, ho, d5, _⟩ := given_ok d4
  have e1' : F__law_deck [.rol (IL ns), .int (0 + (i : Int))] M = .ok (.ref M.length) M1 := by rw [Int.zero_add]; exact e1
  refine ⟨some (.exc (cl (w.toNat + 1)) (w.toNat + 1) g), some (.exc (cl (w.toNat + 1)) (w.toNat + 1) o), some (.ref M.length), some (.int w), some (.bl (decide (b = 1))), some g, some o, none, M5, ?_⟩
  unfold b_law_1
  have u1 : sAsg (eCall F__law_deck (esCons (eVar 0) (esCons (eVar 3) esNil))) (gtName 4) [some (.rol (IL ns)), s1, s2, some (.int (0 + (i : Int))), s4, s5, s6, s7, s8, s9] M = .ok (.nx [some (.rol (IL ns)), s1, s2, some (.int (0 + (i : Int))), some (.ref M.length), s5, s6, s7, s8, s9]) M1 :=
    (sAsg_of (d := .ref M.length) (M1 := M1) (call_eq (M1 := M) rfl e1')).trans rfl
  have u2 : sPar 5 6 (eCall F__law_take (esCons (eVar 4) (esCons (eC (.int 20)) esNil))) (eEq (eCall F__law_take (esCons (eVar 4) (esCons (eC (.int 2)) esNil))) (eC (.int 1))) [some (.rol (IL ns)), s1, s2, some (.int (0 + (i : Int))), some (.ref M.length), s5, s6, s7, s8, s9] M1
      = .ok (.nx [some (.rol (IL ns)), s1, s2, some (.int (0 + (i : Int))), some (.ref M.length), some (.int w), some (.bl (decide (b = 1))), s7, s8, s9]) M3 :=
    (sPar_of (x := .int w) (y := .bl (decide (b = 1))) (M1 := M2) (call_eq (M1 := M1) rfl e2) ((bin_of (op := opEq false) (x := .int b) (y := .int 1) (M1 := M3) (M2 := M3) (call_eq (M1 := M2) rfl e3) rfl).trans (eqI b 1 M3))).trans rfl
  have u3 : sPar 7 8 (eCall F__law_given (esCons (eVar 4) esNil)) (eCall F__law_given (esCons (eVar 4) esNil)) [some (.rol (IL ns)), s1, s2, some (.int (0 + (i : Int))), some (.ref M.length), some (.int w), some (.bl (decide (b = 1))), s7, s8, s9] M3
      = .ok (.nx [some (.rol (IL ns)), s1, s2, some (.int (0 + (i : Int))), some (.ref M.length), some (.int w), some (.bl (decide (b = 1))), some g, some o, s9]) M5 :=
    (sPar_of (x := g) (y := o) (M1 := M4) (call_eq (M1 := M3) rfl e4) (call_eq (M1 := M4) rfl e5)).trans rfl
  generalize hB : decide (b = 1) = B at u2 u3 ⊢
  have u4 : sIf (tOrE (tNotT (tTru (eCall (F__law_right cl) (esCons (eVar 5) (esCons (eVar 7) (esCons (eVar 6) esNil)))))) (tOrE (tNotT (tTru (eCall (F__law_right cl) (esCons (eVar 5) (esCons (eVar 8) (esCons (eNot (eVar 6)) esNil)))))) (tNotT (tTru (eCall (F__law_base_right cl) (esCons (eVar 8) esNil)))))) (sCons (sRet (eC (.bl false))) sNil) sNil
      [some (.rol (IL ns)), s1, s2, some (.int (0 + (i : Int))), some (.ref M.length), some (.int w), some (.bl B), some g, some o, s9] M5 = .ok (.nx [some (.rol (IL ns)), s1, s2, some (.int (0 + (i : Int))), some (.ref M.length), some (.int w), some (.bl B), some g, some o, s9]) M5 :=
    (sIf_f (M1 := M5) (or_ff (M1 := M5) (not_tt (call_eq (M1 := M5) rfl (right_ok B w0 w1 hg M5))) (or_ff (M1 := M5) (not_tt (call_eq (M1 := M5) (ds := [.int w, o, .bl (!B)]) rfl (right_ok (!B) w0 w1 ho M5))) (not_tt (call_eq (M1 := M5) rfl (base_ok ho M5)))))).trans rfl
  have u5 : sTry 21 cl (sCons (sExp (eCall F__law_raised (esCons (eVar 5) (esCons (eVar 7) (esCons (eVar 6) esNil))))) sNil) [(0, some 9, (sCons (sAsg (eVar 9) (gtName 1)) sNil))] [some (.rol (IL ns)), s1, s2, some (.int (0 + (i : Int))), some (.ref M.length), some (.int w), some (.bl B), some g, some o, s9] M5
      = .ok (.nx [some (.rol (IL ns)), some (.exc (cl (w.toNat + 1)) (w.toNat + 1) g), s2, some (.int (0 + (i : Int))), some (.ref M.length), some (.int w), some (.bl B), some g, some o, none]) M5 :=
    (raise_st (k := 1) (w := w) (g := g) (b := B) rfl w0 w1 hg (e2 := [some (.rol (IL ns)), some (.exc (cl (w.toNat + 1)) (w.toNat + 1) g), s2, some (.int (0 + (i : Int))), some (.ref M.length), some (.int w), some (.bl B), some g, some o, some (.exc (cl (w.toNat + 1)) (w.toNat + 1) g)]) rfl).trans rfl
  have u6 : sTry 21 cl (sCons (sExp (eCall F__law_raised (esCons (eVar 5) (esCons (eVar 8) (esCons (eVar 6) esNil))))) sNil) [(0, some 9, (sCons (sAsg (eVar 9) (gtName 2)) sNil))] [some (.rol (IL ns)), some (.exc (cl (w.toNat + 1)) (w.toNat + 1) g), s2, some (.int (0 + (i : Int))), some (.ref M.length), some (.int w), some (.bl B), some g, some o, none] M5
      = .ok (.nx [some (.rol (IL ns)), some (.exc (cl (w.toNat + 1)) (w.toNat + 1) g), some (.exc (cl (w.toNat + 1)) (w.toNat + 1) o), some (.int (0 + (i : Int))), some (.ref M.length), some (.int w), some (.bl B), some g, some o, none]) M5 :=
    (raise_st (k := 2) (w := w) (g := o) (b := B) rfl w0 w1 ho (e2 := [some (.rol (IL ns)), some (.exc (cl (w.toNat + 1)) (w.toNat + 1) g), some (.exc (cl (w.toNat + 1)) (w.toNat + 1) o), some (.int (0 + (i : Int))), some (.ref M.length), some (.int w), some (.bl B), some g, some o, some (.exc (cl (w.toNat + 1)) (w.toNat + 1) o)]) rfl).trans rfl
  rw [sCons_nx u1, sCons_nx u2, sCons_nx u3, sCons_nx u4, sCons_nx u5, sCons_nx u6]
  refine (sCons_nx ((sIf_f (M1 := M5) (or_ff (M1 := M5) (not_tt (call_eq (M1 := M5) (ds := [g, g]) rfl (hg.2 M5))) (not_tt (call_eq (M1 := M5) (ds := [o, o]) rfl (ho.2 M5))))).trans rfl)).trans rfl
theorem each_ok (ns : List Int) {i : Nat} (hi : i < 20) (s1 s2 s3 s4 s6 s7 s8 s9 : Option D) (M : List MO) :
    b_law_2 cl [some (.rol (IL ns)), s1, s2, s3, s4, some (.int (0 + (i : Int))), s6, s7, s8, s9] M = .ok (.nx [some (.rol (IL ns)), s1, s2, s3, s4, some (.int (0 + (i : Int))), s6, s7, s8, s9]) M := by
  unfold b_law_2
  refine (sCons_nx ((sIf_f (M1 := M) (or_ff (M1 := M) (not_tt (call_eq (M1 := M) (ds := [.int (0 + (i : Int)), .int (0 + (i : Int)), .bl false]) rfl (right_ok false (by omega) (by omega) (gv_int _) M))) (not_tt (call_eq (M1 := M) (ds := [.int (0 + (i : Int)), .str "a", .bl true]) rfl (right_ok true (by omega) (by omega) (gv_str (by decide +kernel)) M))))).trans rfl)).trans rfl
theorem law_ok (cl : Nat → PySem.Addr) (ns : List Int) (hlen : ns.length ≤ 63) : ∃ M', F_law cl [.rol (IL ns)] [] = .ok (.bl true) M' := by
  obtain ⟨n, hn, evq⟩ : ∃ n : Nat, n ≤ 40 ∧ (esCons (eB (opMm2 true) (esCons (eC (.int 1)) (esCons (eB (opMm2 false) (esCons (eB opLen (esCons (eVar 0) esNil)) (esCons (eC (.int 40)) esNil))) esNil))) esNil) [some (.rol (IL ns)), some .non, some .non, none, none, none, none, none, none, none] [] = .ok [.int n] [] := by
    refine ⟨(if (if (40 : Int) < ns.length then 40 else (ns.length : Int)) > 1 then (if (40 : Int) < ns.length then 40 else (ns.length : Int)) else 1).toNat, by split <;> (try split) <;> omega, ?_⟩
    have e1 : eB opLen (esCons (eVar 0) esNil) [some (.rol (IL ns)), some .non, some .non, none, none, none, none, none, none, none] [] = .ok (.int ns.length) [] := by
      show Out.ok (D.int (IL ns).length) [] = _
      rw [List.length_map]
    have e2 : eB (opMm2 false) (esCons (eB opLen (esCons (eVar 0) esNil)) (esCons (eC (.int 40)) esNil)) [some (.rol (IL ns)), some .non, some .non, none, none, none, none, none, none, none] [] = .ok (.int (if (40 : Int) < ns.length then 40 else (ns.length : Int))) [] := by
      have a : (esCons (eB opLen (esCons (eVar 0) esNil)) (esCons (eC (.int 40)) esNil)) [some (.rol (IL ns)), some .non, some .non, none, none, none, none, none, none, none] [] = .ok [.int ns.length, .int 40] [] := es_cons2 e1 (es_cons2 rfl (es_nil _ _))
      show ((esCons (eB opLen (esCons (eVar 0) esNil)) (esCons (eC (.int 40)) esNil)) [some (.rol (IL ns)), some .non, some .non, none, none, none, none, none, none, none] []).bind (opMm2 false) = _
      rw [a, Out.bind_ok, mm2_min]
    refine es_cons2 ?_ (es_nil _ _)
    have a : (esCons (eC (.int 1)) (esCons (eB (opMm2 false) (esCons (eB opLen (esCons (eVar 0) esNil)) (esCons (eC (.int 40)) esNil))) esNil)) [some (.rol (IL ns)), some .non, some .non, none, none, none, none, none, none, none] [] = .ok [.int 1, .int (if (40 : Int) < ns.length then 40 else (ns.length : Int))] [] := es_cons2 rfl (es_cons2 e2 (es_nil _ _))
    show ((esCons (eC (.int 1)) (esCons (eB (opMm2 false) (esCons (eB opLen (esCons (eVar 0) esNil)) (esCons (eC (.int 40)) esNil))) esNil)) [some (.rol (IL ns)), some .non, some .non, none, none, none, none, none, none, none] []).bind (opMm2 true) = _
    rw [a, Out.bind_ok, mm2_max]
    congr 2
    split <;> omega
  obtain ⟨e', M1, hfor, ⟨t1, t2, t3, t4, t5, t6, t7, t8, t9, he⟩⟩ := forL_inv (chk := fun _ => True) (g := gtName 3) (body := b_law_1 cl) (rng 0 n) (fun i env M1 => ∃ t1 t2 t3 t4 t5 t6 t7 t8 t9 : Option D, env = [some (.rol (IL ns)), t1, t2, t3, t4, t5, t6, t7, t8, t9]) [some (.rol (IL ns)), some .non, some .non, none, none, none, none, none, none, none] []
    (fun i d env M1 hd ⟨t1, t2, t3, t4, t5, t6, t7, t8, t9, he⟩ => by
      obtain ⟨hi, rfl⟩ := rng_at hd
      subst he
      obtain ⟨s1, s2, s4, s5, s6, s7, s8, s9, M2, hb⟩ := turn_ok (cl := cl) ns (i := i) (by omega) t1 t2 t4 t5 t6 t7 t8 t9 M1
      exact ⟨trivial, _, _, _, _, rfl, .inl hb, _, _, _, _, _, _, _, _, _, rfl⟩) (fun _ _ _ => trivial) ⟨_, _, _, _, _, _, _, _, _, rfl⟩
  subst he
  obtain ⟨e', M2, hfor2, ⟨r1, r2, r3, r4, r5, r6, r7, r8, r9, he⟩⟩ := forL_inv (chk := fun _ => True) (g := gtName 5) (body := b_law_2 cl) (rng 0 20) (fun i env M1 => ∃ t1 t2 t3 t4 t5 t6 t7 t8 t9 : Option D, env = [some (.rol (IL ns)), t1, t2, t3, t4, t5, t6, t7, t8, t9]) [some (.rol (IL ns)), t1, t2, t3, t4, t5, t6, t7, t8, t9] M1
    (fun i d env M1 hd ⟨t1, t2, t3, t4, t5, t6, t7, t8, t9, he⟩ => by
      obtain ⟨hi, rfl⟩ := rng_at hd
      subst he
      exact ⟨trivial, _, _, _, _, rfl, .inl (each_ok (cl := cl) ns (i := i) (by omega) t1 t2 t3 t4 t6 t7 t8 t9 M1), _, _, _, _, _, _, _, _, _, rfl⟩) (fun _ _ _ => trivial) ⟨_, _, _, _, _, _, _, _, _, rfl⟩
  subst he
  have hr : ∃ M', gc [] (.ok (.bl true) M2) = .ok (.bl true) M' := ⟨_, gc_ok_of (noRef_bl _).lt fun i hi => absurd hi (Nat.not_lt_zero _)⟩
  obtain ⟨M', hr⟩ := hr
  refine ⟨M', (fnF_rtq (n := 10) (body := b_law cl) (ds := [.rol (IL ns)]) (d := .bl true) (M' := M2) ?_).trans hr⟩
  show b_law cl [some (.rol (IL ns)), none, none, none, none, none, none, none, none, none] [] = _
  unfold b_law
  have v1 : sAsg (eTup (esCons (eC .non) (esCons (eC .non) esNil))) (gtTup 2 (gtsCons (gtName 1) (gtsCons (gtName 2) gtsNil))) [some (.rol (IL ns)), none, none, none, none, none, none, none, none, none] [] = .ok (.nx [some (.rol (IL ns)), some .non, some .non, none, none, none, none, none, none, none]) [] := by
    have a : eTup (esCons (eC .non) (esCons (eC .non) esNil)) [some (.rol (IL ns)), none, none, none, none, none, none, none, none, none] [] = .ok (.tup [.non, .non]) [] := by
      unfold eTup
      rw [es_cons2 rfl (es_cons2 rfl (es_nil _ _)), Out.bind_ok, if_pos (small_line (by show 2 ≤ 1000000; omega))]
    unfold sAsg
    rw [a, Out.bind_ok]
    rfl
  have v2 : sFor (iRange (esCons (eB (opMm2 true) (esCons (eC (.int 1)) (esCons (eB (opMm2 false) (esCons (eB opLen (esCons (eVar 0) esNil)) (esCons (eC (.int 40)) esNil))) esNil))) esNil)) (gtName 3) (b_law_1 cl) [some (.rol (IL ns)), some .non, some .non, none, none, none, none, none, none, none] [] = .ok (.nx [some (.rol (IL ns)), t1, t2, t3, t4, t5, t6, t7, t8, t9]) M1 := by
    unfold sFor
    rw [iRange1 (M1 := []) (n := n) evq (by omega), Out.bind_ok]
    exact hfor
  have v3 : sFor (iRange (esCons (eC (.int 20)) esNil)) (gtName 5) (b_law_2 cl) [some (.rol (IL ns)), t1, t2, t3, t4, t5, t6, t7, t8, t9] M1 = .ok (.nx [some (.rol (IL ns)), r1, r2, r3, r4, r5, r6, r7, r8, r9]) M2 := by
    unfold sFor
    rw [iRange1 (M1 := M1) (n := 20) rfl (by decide), Out.bind_ok]
    exact hfor2
  rw [sCons_nx v1, sCons_nx v2, sCons_nx v3]
  rfl
end K00
end
section
set_option Elab.async false
set_option linter.all false
set_option maxRecDepth 100000
set_option maxHeartbeats 4000000
open Classical
namespace K00
open PySem PySem.Spec PyProof.Rows L2 SX
theorem cx_top {P : World → Program} : ∀ (w : World) (H : Hp) (s : Shared) (e : Value) (s' : Shared), L2.CX (P w) w [] H s (fun _ _ _ => False) e s' → False := fun w H s e s' h => by
  obtain ⟨_, _, _, _, _, _, _, _, _, _, _, _, z⟩ := h
  exact z.elim
theorem walk_tab {l : PySem.W.OpenLaw} {n k : Nat} {q : Program} {loose : List Str} {XP : (Str → Option Value) → Heap → Prop} {YP : World → Heap → Prop} {d : DefRec} {K : Params → PySem.W.Frag} {CX : World → CXT} {x : Str} (ys : List Str)
    (hn : l.most = some n) (hn2 : n ≤ sizeLine) (hdf : d.params.defaults = []) (hr : Room k callerA) (hrec : ∀ y ∈ ys, ((recsOf q).any fun e => e.name == y) = true) (hY : ∀ (w : World) (h : Heap), YP w h → (K w.params).In h)
    (F : ∀ (w : World) (mg : Str → Option Value) (fa : Addr) (h : Heap), YP w h → (K w.params).In h → h.Ns mainGlobals mg → mg d.name = some (.ref fa) → (∀ y ∈ ys, ∀ f, mg y = some (.ref f) → LamX.OwnTab (K w.params) f h) → LamX.LawAtS l w (K w.params) (CX w) k n x mg fa h)
    (hCX : ∀ (w : World) (H : Hp) (s : Shared) (e : Value) (s' : Shared), CX w [] H s (fun _ _ _ => False) e s' → False) :
    PySem.W.WalkO q loose XP YP l.row.toRowW d [] (fun f vs => PySem.call f vs) := by
  refine Att.attach_callB hn hdf fun w s₀ s₁ mg mb fa o pm cd doc a vs ns G Y ho hd hcd hmg hobj hints hlen hbits hg => ?_
  have KX := hY w _ Y
  have own : ∀ y ∈ ys, ∀ f, mg y = some (.ref f) → LamX.OwnTab (K w.params) f s₁.heap := fun y hy f hf c P o1 fd1 e dd vs1 sl k1 k2 k3 k4 k5 => by
    obtain ⟨dL, hm, hn1⟩ := List.any_eq_true.mp (hrec y hy)
    have hn2 : dL.name = y := beq_iff_eq.mp hn1
    obtain ⟨a', o', fd', c', P', h1, h2, h3, h4, h5, h6⟩ := G.T.tab dL hm
    rw [hn2, hf] at h1
    cases h1
    have g1 := KX _ _ k1
    rw [g1] at h2
    cases h2
    rw [k2] at h3
    cases h3
    rw [k3] at h4
    cases h4
    obtain ⟨⟨oc, vc, e1, _, e3, e4⟩, hP⟩ := h6
    have g2 := KX _ _ k4
    rw [g2] at e1
    cases e1
    cases e3
    rw [k5] at e4
    cases e4
    exact hP
  obtain ⟨fd, cs, sp, hT, nT, C, hb, hsp, hF⟩ := F w mg fa _ Y KX G.T.g hmg own
  exact LamX.law_callTs KX G.T.g G.T.b G.T.builtins G.T.nolimit hg hT nT C G.T.bmain hobj hints (Nat.le_trans hlen hn2) hr hF hb (fun H hH hS => hsp H a ns hlen hbits hH hS) fun H e s' => hCX w H s₁ e s'
theorem all_mk {l : PySem.W.OpenLaw} {w : World} {K : PySem.W.Frag} {h : Heap} {mg : Str → Option Value} {fa : Addr} (X : K.In h) (G : h.Ns mainGlobals mg) (hfa : mg "law" = some (.ref fa)) (own : ∀ y ∈ ([] : List Str), ∀ f, mg y = some (.ref f) → LamX.OwnTab K f h)
        {f0 : Addr} {od0 an0 : Option Addr} {sl0 : Array (Option Value)} {oc0 kV0 dc0 pm0 cd0 ct0 : Value}
    {f1 : Addr} {od1 an1 : Option Addr} {sl1 : Array (Option Value)} {oc1 kV1 dc1 pm1 cd1 ct1 : Value}
    {f2 : Addr} {od2 an2 : Option Addr} {sl2 : Array (Option Value)} {oc2 kV2 dc2 pm2 cd2 ct2 : Value}
    {f3 : Addr} {od3 an3 : Option Addr} {sl3 : Array (Option Value)} {oc3 kV3 dc3 pm3 cd3 ct3 : Value}
    {f4 : Addr} {od4 an4 : Option Addr} {sl4 : Array (Option Value)} {oc4 kV4 dc4 pm4 cd4 ct4 : Value}
    {f5 : Addr} {od5 an5 : Option Addr} {sl5 : Array (Option Value)} {oc5 kV5 dc5 pm5 cd5 ct5 : Value}
    {f6 : Addr} {od6 an6 : Option Addr} {sl6 : Array (Option Value)} {oc6 kV6 dc6 pm6 cd6 ct6 : Value}
    {f7 : Addr} {od7 an7 : Option Addr} {sl7 : Array (Option Value)} {oc7 kV7 dc7 pm7 cd7 ct7 : Value}
    {f8 : Addr} {od8 an8 : Option Addr} {sl8 : Array (Option Value)} {oc8 kV8 dc8 pm8 cd8 ct8 : Value}
    {f9 : Addr} {od9 an9 : Option Addr} {sl9 : Array (Option Value)} {oc9 kV9 dc9 pm9 cd9 ct9 : Value}
    {f10 : Addr} {od10 an10 : Option Addr} {sl10 : Array (Option Value)} {oc10 kV10 dc10 pm10 cd10 ct10 : Value}
    {f11 : Addr} {od11 an11 : Option Addr} {sl11 : Array (Option Value)} {oc11 kV11 dc11 pm11 cd11 ct11 : Value}
    {f12 : Addr} {od12 an12 : Option Addr} {sl12 : Array (Option Value)} {oc12 kV12 dc12 pm12 cd12 ct12 : Value}
        (a0 : PySem.W.nsIn K mainGlobals "_law_deck" = some (some (.ref f0))) (l0 : K.lookup f0 = some ⟨oc0, od0, .func (PySem.W.fnOf "_law_deck" "_law_deck" (defArgs s__law_deck) (defBody s__law_deck) (defScope s__law_deck) .none kV0 dc0 pm0 an0 cd0 ct0), sl0⟩) (c0 : PySem.W.codeIn K cd0 "_law_deck" = true) (k0 : PySem.W.keepIn K (.ref f0) = true)
    (a1 : PySem.W.nsIn K mainGlobals "_law_take" = some (some (.ref f1))) (l1 : K.lookup f1 = some ⟨oc1, od1, .func (PySem.W.fnOf "_law_take" "_law_take" (defArgs s__law_take) (defBody s__law_take) (defScope s__law_take) .none kV1 dc1 pm1 an1 cd1 ct1), sl1⟩) (c1 : PySem.W.codeIn K cd1 "_law_take" = true) (k1 : PySem.W.keepIn K (.ref f1) = true)
    (a2 : PySem.W.nsIn K mainGlobals "_law_given" = some (some (.ref f2))) (l2 : K.lookup f2 = some ⟨oc2, od2, .func (PySem.W.fnOf "_law_given" "_law_given" (defArgs s__law_given) (defBody s__law_given) (defScope s__law_given) .none kV2 dc2 pm2 an2 cd2 ct2), sl2⟩) (c2 : PySem.W.codeIn K cd2 "_law_given" = true) (k2 : PySem.W.keepIn K (.ref f2) = true)
    (a3 : PySem.W.nsIn K mainGlobals "_law_raise_named_first" = some (some (.ref f3))) (l3 : K.lookup f3 = some ⟨oc3, od3, .func (PySem.W.fnOf "_law_raise_named_first" "_law_raise_named_first" (defArgs s__law_raise_named_first) (defBody s__law_raise_named_first) (defScope s__law_raise_named_first) .none kV3 dc3 pm3 an3 cd3 ct3), sl3⟩) (c3 : PySem.W.codeIn K cd3 "_law_raise_named_first" = true) (k3 : PySem.W.keepIn K (.ref f3) = true)
    (a4 : PySem.W.nsIn K mainGlobals "_law_raise_first" = some (some (.ref f4))) (l4 : K.lookup f4 = some ⟨oc4, od4, .func (PySem.W.fnOf "_law_raise_first" "_law_raise_first" (defArgs s__law_raise_first) (defBody s__law_raise_first) (defScope s__law_raise_first) .none kV4 dc4 pm4 an4 cd4 ct4), sl4⟩) (c4 : PySem.W.codeIn K cd4 "_law_raise_first" = true) (k4 : PySem.W.keepIn K (.ref f4) = true)
    (a5 : PySem.W.nsIn K mainGlobals "_law_raise_named_second" = some (some (.ref f5))) (l5 : K.lookup f5 = some ⟨oc5, od5, .func (PySem.W.fnOf "_law_raise_named_second" "_law_raise_named_second" (defArgs s__law_raise_named_second) (defBody s__law_raise_named_second) (defScope s__law_raise_named_second) .none kV5 dc5 pm5 an5 cd5 ct5), sl5⟩) (c5 : PySem.W.codeIn K cd5 "_law_raise_named_second" = true) (k5 : PySem.W.keepIn K (.ref f5) = true)
    (a6 : PySem.W.nsIn K mainGlobals "_law_raise_second" = some (some (.ref f6))) (l6 : K.lookup f6 = some ⟨oc6, od6, .func (PySem.W.fnOf "_law_raise_second" "_law_raise_second" (defArgs s__law_raise_second) (defBody s__law_raise_second) (defScope s__law_raise_second) .none kV6 dc6 pm6 an6 cd6 ct6), sl6⟩) (c6 : PySem.W.codeIn K cd6 "_law_raise_second" = true) (k6 : PySem.W.keepIn K (.ref f6) = true)
    (a7 : PySem.W.nsIn K mainGlobals "_law_raised" = some (some (.ref f7))) (l7 : K.lookup f7 = some ⟨oc7, od7, .func (PySem.W.fnOf "_law_raised" "_law_raised" (defArgs s__law_raised) (defBody s__law_raised) (defScope s__law_raised) .none kV7 dc7 pm7 an7 cd7 ct7), sl7⟩) (c7 : PySem.W.codeIn K cd7 "_law_raised" = true) (k7 : PySem.W.keepIn K (.ref f7) = true)
    (a8 : PySem.W.nsIn K mainGlobals "_law_same" = some (some (.ref f8))) (l8 : K.lookup f8 = some ⟨oc8, od8, .func (PySem.W.fnOf "_law_same" "_law_same" (defArgs s__law_same) (defBody s__law_same) (defScope s__law_same) .none kV8 dc8 pm8 an8 cd8 ct8), sl8⟩) (c8 : PySem.W.codeIn K cd8 "_law_same" = true) (k8 : PySem.W.keepIn K (.ref f8) = true)
    (a9 : PySem.W.nsIn K mainGlobals "_law_kinds" = some (some (.ref f9))) (l9 : K.lookup f9 = some ⟨oc9, od9, .func (PySem.W.fnOf "_law_kinds" "_law_kinds" (defArgs s__law_kinds) (defBody s__law_kinds) (defScope s__law_kinds) .none kV9 dc9 pm9 an9 cd9 ct9), sl9⟩) (c9 : PySem.W.codeIn K cd9 "_law_kinds" = true) (k9 : PySem.W.keepIn K (.ref f9) = true)
    (a10 : PySem.W.nsIn K mainGlobals "_law_right" = some (some (.ref f10))) (l10 : K.lookup f10 = some ⟨oc10, od10, .func (PySem.W.fnOf "_law_right" "_law_right" (defArgs s__law_right) (defBody s__law_right) (defScope s__law_right) .none kV10 dc10 pm10 an10 cd10 ct10), sl10⟩) (c10 : PySem.W.codeIn K cd10 "_law_right" = true) (k10 : PySem.W.keepIn K (.ref f10) = true)
    (a11 : PySem.W.nsIn K mainGlobals "_law_base_right" = some (some (.ref f11))) (l11 : K.lookup f11 = some ⟨oc11, od11, .func (PySem.W.fnOf "_law_base_right" "_law_base_right" (defArgs s__law_base_right) (defBody s__law_base_right) (defScope s__law_base_right) .none kV11 dc11 pm11 an11 cd11 ct11), sl11⟩) (c11 : PySem.W.codeIn K cd11 "_law_base_right" = true) (k11 : PySem.W.keepIn K (.ref f11) = true)
    (a12 : PySem.W.nsIn K mainGlobals "law" = some (some (.ref f12))) (l12 : K.lookup f12 = some ⟨oc12, od12, .func (PySem.W.fnOf "law" "law" (defArgs s_law) (defBody s_law) (defScope s_law) .none kV12 dc12 pm12 an12 cd12 ct12), sl12⟩) (c12 : PySem.W.codeIn K cd12 "law" = true) (k12 : PySem.W.keepIn K (.ref f12) = true)
    (z_ValueError : PySem.W.nsIn K mainGlobals "ValueError" = some none) (z_bool : PySem.W.nsIn K mainGlobals "bool" = some none) (z_int : PySem.W.nsIn K mainGlobals "int" = some none) (z_isinstance : PySem.W.nsIn K mainGlobals "isinstance" = some none) (z_len : PySem.W.nsIn K mainGlobals "len" = some none) (z_list : PySem.W.nsIn K mainGlobals "list" = some none) (z_max : PySem.W.nsIn K mainGlobals "max" = some none) (z_min : PySem.W.nsIn K mainGlobals "min" = some none) (z_range : PySem.W.nsIn K mainGlobals "range" = some none) (z_str : PySem.W.nsIn K mainGlobals "str" = some none) (z_tuple : PySem.W.nsIn K mainGlobals "tuple" = some none)
    
    
        {fI : Addr} {odI anI : Option Addr} {slI : Array (Option Value)} {ocI kVI dcI pmI cdI ctI : Value} {cC0 cC1 cC2 cC3 cC4 cC5 cC6 cC7 cC8 cC9 cC10 cC11 cC12 cC13 cC14 cC15 cC16 cC17 cC18 cC19 cC20 : Addr}
    {xn0 xq0 : Str} {xN0 : Addr} {xb0 : List Value} {xs0 : List Str} {xu0 : List Value} {xa0 : Bool} {xc0 : Option Bool} {xd0 : Option Addr} {x0_0 x1_0 x2_0 x3_0 x5_0 : Option Value}
    {xn1 xq1 : Str} {xN1 : Addr} {xb1 : List Value} {xs1 : List Str} {xu1 : List Value} {xa1 : Bool} {xc1 : Option Bool} {xd1 : Option Addr} {x0_1 x1_1 x2_1 x3_1 x5_1 : Option Value}
    {xn2 xq2 : Str} {xN2 : Addr} {xb2 : List Value} {xs2 : List Str} {xu2 : List Value} {xa2 : Bool} {xc2 : Option Bool} {xd2 : Option Addr} {x0_2 x1_2 x2_2 x3_2 x5_2 : Option Value}
    {xn3 xq3 : Str} {xN3 : Addr} {xb3 : List Value} {xs3 : List Str} {xu3 : List Value} {xa3 : Bool} {xc3 : Option Bool} {xd3 : Option Addr} {x0_3 x1_3 x2_3 x3_3 x5_3 : Option Value}
    {xn4 xq4 : Str} {xN4 : Addr} {xb4 : List Value} {xs4 : List Str} {xu4 : List Value} {xa4 : Bool} {xc4 : Option Bool} {xd4 : Option Addr} {x0_4 x1_4 x2_4 x3_4 x5_4 : Option Value}
    {xn5 xq5 : Str} {xN5 : Addr} {xb5 : List Value} {xs5 : List Str} {xu5 : List Value} {xa5 : Bool} {xc5 : Option Bool} {xd5 : Option Addr} {x0_5 x1_5 x2_5 x3_5 x5_5 : Option Value}
    {xn6 xq6 : Str} {xN6 : Addr} {xb6 : List Value} {xs6 : List Str} {xu6 : List Value} {xa6 : Bool} {xc6 : Option Bool} {xd6 : Option Addr} {x0_6 x1_6 x2_6 x3_6 x5_6 : Option Value}
    {xn7 xq7 : Str} {xN7 : Addr} {xb7 : List Value} {xs7 : List Str} {xu7 : List Value} {xa7 : Bool} {xc7 : Option Bool} {xd7 : Option Addr} {x0_7 x1_7 x2_7 x3_7 x5_7 : Option Value}
    {xn8 xq8 : Str} {xN8 : Addr} {xb8 : List Value} {xs8 : List Str} {xu8 : List Value} {xa8 : Bool} {xc8 : Option Bool} {xd8 : Option Addr} {x0_8 x1_8 x2_8 x3_8 x5_8 : Option Value}
    {xn9 xq9 : Str} {xN9 : Addr} {xb9 : List Value} {xs9 : List Str} {xu9 : List Value} {xa9 : Bool} {xc9 : Option Bool} {xd9 : Option Addr} {x0_9 x1_9 x2_9 x3_9 x5_9 : Option Value}
    {xn10 xq10 : Str} {xN10 : Addr} {xb10 : List Value} {xs10 : List Str} {xu10 : List Value} {xa10 : Bool} {xc10 : Option Bool} {xd10 : Option Addr} {x0_10 x1_10 x2_10 x3_10 x5_10 : Option Value}
    {xn11 xq11 : Str} {xN11 : Addr} {xb11 : List Value} {xs11 : List Str} {xu11 : List Value} {xa11 : Bool} {xc11 : Option Bool} {xd11 : Option Addr} {x0_11 x1_11 x2_11 x3_11 x5_11 : Option Value}
    {xn12 xq12 : Str} {xN12 : Addr} {xb12 : List Value} {xs12 : List Str} {xu12 : List Value} {xa12 : Bool} {xc12 : Option Bool} {xd12 : Option Addr} {x0_12 x1_12 x2_12 x3_12 x5_12 : Option Value}
    {xn13 xq13 : Str} {xN13 : Addr} {xb13 : List Value} {xs13 : List Str} {xu13 : List Value} {xa13 : Bool} {xc13 : Option Bool} {xd13 : Option Addr} {x0_13 x1_13 x2_13 x3_13 x5_13 : Option Value}
    {xn14 xq14 : Str} {xN14 : Addr} {xb14 : List Value} {xs14 : List Str} {xu14 : List Value} {xa14 : Bool} {xc14 : Option Bool} {xd14 : Option Addr} {x0_14 x1_14 x2_14 x3_14 x5_14 : Option Value}
    {xn15 xq15 : Str} {xN15 : Addr} {xb15 : List Value} {xs15 : List Str} {xu15 : List Value} {xa15 : Bool} {xc15 : Option Bool} {xd15 : Option Addr} {x0_15 x1_15 x2_15 x3_15 x5_15 : Option Value}
    {xn16 xq16 : Str} {xN16 : Addr} {xb16 : List Value} {xs16 : List Str} {xu16 : List Value} {xa16 : Bool} {xc16 : Option Bool} {xd16 : Option Addr} {x0_16 x1_16 x2_16 x3_16 x5_16 : Option Value}
    {xn17 xq17 : Str} {xN17 : Addr} {xb17 : List Value} {xs17 : List Str} {xu17 : List Value} {xa17 : Bool} {xc17 : Option Bool} {xd17 : Option Addr} {x0_17 x1_17 x2_17 x3_17 x5_17 : Option Value}
    {xn18 xq18 : Str} {xN18 : Addr} {xb18 : List Value} {xs18 : List Str} {xu18 : List Value} {xa18 : Bool} {xc18 : Option Bool} {xd18 : Option Addr} {x0_18 x1_18 x2_18 x3_18 x5_18 : Option Value}
    {xn19 xq19 : Str} {xN19 : Addr} {xb19 : List Value} {xs19 : List Str} {xu19 : List Value} {xa19 : Bool} {xc19 : Option Bool} {xd19 : Option Addr} {x0_19 x1_19 x2_19 x3_19 x5_19 : Option Value}
    {xn20 xq20 : Str} {xN20 : Addr} {xb20 : List Value} {xs20 : List Str} {xu20 : List Value} {xa20 : Bool} {xc20 : Option Bool} {xd20 : Option Addr} {x0_20 x1_20 x2_20 x3_20 x5_20 : Option Value}
        (xA0 : PySem.W.nsIn K mainGlobals "OrderError" = some (some (.ref cC0))) (xL0 : K.lookup cC0 = some (excClassObj xn0 xq0 cC0 xN0 xb0 [.type "ValueError", .type "Exception", .type "BaseException", .type "object"] true xs0 xu0 xa0 xc0 xd0 x0_0 x1_0 x2_0 x3_0 x5_0 "ValueError.__new__"))
    (xsa0 : PySem.W.findIn K (.ref cC0) "__setattr__" = some (some (.builtin "object.__setattr__"))) (xga0 : PySem.W.findIn K (.ref cC0) "__getattribute__" = some (some (.builtin "BaseException.__getattribute__"))) (xgg0 : PySem.W.findIn K (.ref cC0) "__getattr__" = some none) (xnv0 : PySem.W.findIn K (.ref cC0) "value" = some none) (xcl0 : PySem.W.findIn K (.ref cC0) "__class__" = some (some (.builtin "object.__class__"))) (xi0 : PySem.W.findIn K (.ref cC0) "__init__" = some (some (.ref fI))) (xk0 : PySem.W.keepIn K (.ref cC0) = true)
    (xA1 : PySem.W.nsIn K mainGlobals "InvalidOrder" = some (some (.ref cC1))) (xL1 : K.lookup cC1 = some (excClassObj xn1 xq1 cC1 xN1 xb1 [.ref cC0, .type "ValueError", .type "Exception", .type "BaseException", .type "object"] true xs1 xu1 xa1 xc1 xd1 x0_1 x1_1 x2_1 x3_1 x5_1 "ValueError.__new__"))
    (xsa1 : PySem.W.findIn K (.ref cC1) "__setattr__" = some (some (.builtin "object.__setattr__"))) (xga1 : PySem.W.findIn K (.ref cC1) "__getattribute__" = some (some (.builtin "BaseException.__getattribute__"))) (xgg1 : PySem.W.findIn K (.ref cC1) "__getattr__" = some none) (xnv1 : PySem.W.findIn K (.ref cC1) "value" = some none) (xcl1 : PySem.W.findIn K (.ref cC1) "__class__" = some (some (.builtin "object.__class__"))) (xi1 : PySem.W.findIn K (.ref cC1) "__init__" = some (some (.ref fI))) (xk1 : PySem.W.keepIn K (.ref cC1) = true)
    (xA2 : PySem.W.nsIn K mainGlobals "InvalidPattern" = some (some (.ref cC2))) (xL2 : K.lookup cC2 = some (excClassObj xn2 xq2 cC2 xN2 xb2 [.ref cC0, .type "ValueError", .type "Exception", .type "BaseException", .type "object"] true xs2 xu2 xa2 xc2 xd2 x0_2 x1_2 x2_2 x3_2 x5_2 "ValueError.__new__"))
    (xsa2 : PySem.W.findIn K (.ref cC2) "__setattr__" = some (some (.builtin "object.__setattr__"))) (xga2 : PySem.W.findIn K (.ref cC2) "__getattribute__" = some (some (.builtin "BaseException.__getattribute__"))) (xgg2 : PySem.W.findIn K (.ref cC2) "__getattr__" = some none) (xnv2 : PySem.W.findIn K (.ref cC2) "value" = some none) (xcl2 : PySem.W.findIn K (.ref cC2) "__class__" = some (some (.builtin "object.__class__"))) (xi2 : PySem.W.findIn K (.ref cC2) "__init__" = some (some (.ref fI))) (xk2 : PySem.W.keepIn K (.ref cC2) = true)
    (xA3 : PySem.W.nsIn K mainGlobals "InvalidList" = some (some (.ref cC3))) (xL3 : K.lookup cC3 = some (excClassObj xn3 xq3 cC3 xN3 xb3 [.ref cC0, .type "ValueError", .type "Exception", .type "BaseException", .type "object"] true xs3 xu3 xa3 xc3 xd3 x0_3 x1_3 x2_3 x3_3 x5_3 "ValueError.__new__"))
    (xsa3 : PySem.W.findIn K (.ref cC3) "__setattr__" = some (some (.builtin "object.__setattr__"))) (xga3 : PySem.W.findIn K (.ref cC3) "__getattribute__" = some (some (.builtin "BaseException.__getattribute__"))) (xgg3 : PySem.W.findIn K (.ref cC3) "__getattr__" = some none) (xnv3 : PySem.W.findIn K (.ref cC3) "value" = some none) (xcl3 : PySem.W.findIn K (.ref cC3) "__class__" = some (some (.builtin "object.__class__"))) (xi3 : PySem.W.findIn K (.ref cC3) "__init__" = some (some (.ref fI))) (xk3 : PySem.W.keepIn K (.ref cC3) = true)
    (xA4 : PySem.W.nsIn K mainGlobals "InvalidForm" = some (some (.ref cC4))) (xL4 : K.lookup cC4 = some (excClassObj xn4 xq4 cC4 xN4 xb4 [.ref cC0, .type "ValueError", .type "Exception", .type "BaseException", .type "object"] true xs4 xu4 xa4 xc4 xd4 x0_4 x1_4 x2_4 x3_4 x5_4 "ValueError.__new__"))
    (xsa4 : PySem.W.findIn K (.ref cC4) "__setattr__" = some (some (.builtin "object.__setattr__"))) (xga4 : PySem.W.findIn K (.ref cC4) "__getattribute__" = some (some (.builtin "BaseException.__getattribute__"))) (xgg4 : PySem.W.findIn K (.ref cC4) "__getattr__" = some none) (xnv4 : PySem.W.findIn K (.ref cC4) "value" = some none) (xcl4 : PySem.W.findIn K (.ref cC4) "__class__" = some (some (.builtin "object.__class__"))) (xi4 : PySem.W.findIn K (.ref cC4) "__init__" = some (some (.ref fI))) (xk4 : PySem.W.keepIn K (.ref cC4) = true)
    (xA5 : PySem.W.nsIn K mainGlobals "InvalidLetter" = some (some (.ref cC5))) (xL5 : K.lookup cC5 = some (excClassObj xn5 xq5 cC5 xN5 xb5 [.ref cC0, .type "ValueError", .type "Exception", .type "BaseException", .type "object"] true xs5 xu5 xa5 xc5 xd5 x0_5 x1_5 x2_5 x3_5 x5_5 "ValueError.__new__"))
    (xsa5 : PySem.W.findIn K (.ref cC5) "__setattr__" = some (some (.builtin "object.__setattr__"))) (xga5 : PySem.W.findIn K (.ref cC5) "__getattribute__" = some (some (.builtin "BaseException.__getattribute__"))) (xgg5 : PySem.W.findIn K (.ref cC5) "__getattr__" = some none) (xnv5 : PySem.W.findIn K (.ref cC5) "value" = some none) (xcl5 : PySem.W.findIn K (.ref cC5) "__class__" = some (some (.builtin "object.__class__"))) (xi5 : PySem.W.findIn K (.ref cC5) "__init__" = some (some (.ref fI))) (xk5 : PySem.W.keepIn K (.ref cC5) = true)
    (xA6 : PySem.W.nsIn K mainGlobals "InvalidWord" = some (some (.ref cC6))) (xL6 : K.lookup cC6 = some (excClassObj xn6 xq6 cC6 xN6 xb6 [.ref cC0, .type "ValueError", .type "Exception", .type "BaseException", .type "object"] true xs6 xu6 xa6 xc6 xd6 x0_6 x1_6 x2_6 x3_6 x5_6 "ValueError.__new__"))
    (xsa6 : PySem.W.findIn K (.ref cC6) "__setattr__" = some (some (.builtin "object.__setattr__"))) (xga6 : PySem.W.findIn K (.ref cC6) "__getattribute__" = some (some (.builtin "BaseException.__getattribute__"))) (xgg6 : PySem.W.findIn K (.ref cC6) "__getattr__" = some none) (xnv6 : PySem.W.findIn K (.ref cC6) "value" = some none) (xcl6 : PySem.W.findIn K (.ref cC6) "__class__" = some (some (.builtin "object.__class__"))) (xi6 : PySem.W.findIn K (.ref cC6) "__init__" = some (some (.ref fI))) (xk6 : PySem.W.keepIn K (.ref cC6) = true)
    (xA7 : PySem.W.nsIn K mainGlobals "InvalidKind" = some (some (.ref cC7))) (xL7 : K.lookup cC7 = some (excClassObj xn7 xq7 cC7 xN7 xb7 [.ref cC0, .type "ValueError", .type "Exception", .type "BaseException", .type "object"] true xs7 xu7 xa7 xc7 xd7 x0_7 x1_7 x2_7 x3_7 x5_7 "ValueError.__new__"))
    (xsa7 : PySem.W.findIn K (.ref cC7) "__setattr__" = some (some (.builtin "object.__setattr__"))) (xga7 : PySem.W.findIn K (.ref cC7) "__getattribute__" = some (some (.builtin "BaseException.__getattribute__"))) (xgg7 : PySem.W.findIn K (.ref cC7) "__getattr__" = some none) (xnv7 : PySem.W.findIn K (.ref cC7) "value" = some none) (xcl7 : PySem.W.findIn K (.ref cC7) "__class__" = some (some (.builtin "object.__class__"))) (xi7 : PySem.W.findIn K (.ref cC7) "__init__" = some (some (.ref fI))) (xk7 : PySem.W.keepIn K (.ref cC7) = true)
    (xA8 : PySem.W.nsIn K mainGlobals "InvalidNumber" = some (some (.ref cC8))) (xL8 : K.lookup cC8 = some (excClassObj xn8 xq8 cC8 xN8 xb8 [.ref cC0, .type "ValueError", .type "Exception", .type "BaseException", .type "object"] true xs8 xu8 xa8 xc8 xd8 x0_8 x1_8 x2_8 x3_8 x5_8 "ValueError.__new__"))
    (xsa8 : PySem.W.findIn K (.ref cC8) "__setattr__" = some (some (.builtin "object.__setattr__"))) (xga8 : PySem.W.findIn K (.ref cC8) "__getattribute__" = some (some (.builtin "BaseException.__getattribute__"))) (xgg8 : PySem.W.findIn K (.ref cC8) "__getattr__" = some none) (xnv8 : PySem.W.findIn K (.ref cC8) "value" = some none) (xcl8 : PySem.W.findIn K (.ref cC8) "__class__" = some (some (.builtin "object.__class__"))) (xi8 : PySem.W.findIn K (.ref cC8) "__init__" = some (some (.ref fI))) (xk8 : PySem.W.keepIn K (.ref cC8) = true)
    (xA9 : PySem.W.nsIn K mainGlobals "InvalidPair" = some (some (.ref cC9))) (xL9 : K.lookup cC9 = some (excClassObj xn9 xq9 cC9 xN9 xb9 [.ref cC0, .type "ValueError", .type "Exception", .type "BaseException", .type "object"] true xs9 xu9 xa9 xc9 xd9 x0_9 x1_9 x2_9 x3_9 x5_9 "ValueError.__new__"))
    (xsa9 : PySem.W.findIn K (.ref cC9) "__setattr__" = some (some (.builtin "object.__setattr__"))) (xga9 : PySem.W.findIn K (.ref cC9) "__getattribute__" = some (some (.builtin "BaseException.__getattribute__"))) (xgg9 : PySem.W.findIn K (.ref cC9) "__getattr__" = some none) (xnv9 : PySem.W.findIn K (.ref cC9) "value" = some none) (xcl9 : PySem.W.findIn K (.ref cC9) "__class__" = some (some (.builtin "object.__class__"))) (xi9 : PySem.W.findIn K (.ref cC9) "__init__" = some (some (.ref fI))) (xk9 : PySem.W.keepIn K (.ref cC9) = true)
    (xA10 : PySem.W.nsIn K mainGlobals "InvalidMachine" = some (some (.ref cC10))) (xL10 : K.lookup cC10 = some (excClassObj xn10 xq10 cC10 xN10 xb10 [.ref cC0, .type "ValueError", .type "Exception", .type "BaseException", .type "object"] true xs10 xu10 xa10 xc10 xd10 x0_10 x1_10 x2_10 x3_10 x5_10 "ValueError.__new__"))
    (xsa10 : PySem.W.findIn K (.ref cC10) "__setattr__" = some (some (.builtin "object.__setattr__"))) (xga10 : PySem.W.findIn K (.ref cC10) "__getattribute__" = some (some (.builtin "BaseException.__getattribute__"))) (xgg10 : PySem.W.findIn K (.ref cC10) "__getattr__" = some none) (xnv10 : PySem.W.findIn K (.ref cC10) "value" = some none) (xcl10 : PySem.W.findIn K (.ref cC10) "__class__" = some (some (.builtin "object.__class__"))) (xi10 : PySem.W.findIn K (.ref cC10) "__init__" = some (some (.ref fI))) (xk10 : PySem.W.keepIn K (.ref cC10) = true)
    (xA11 : PySem.W.nsIn K mainGlobals "NoMachine" = some (some (.ref cC11))) (xL11 : K.lookup cC11 = some (excClassObj xn11 xq11 cC11 xN11 xb11 [.ref cC0, .type "ValueError", .type "Exception", .type "BaseException", .type "object"] true xs11 xu11 xa11 xc11 xd11 x0_11 x1_11 x2_11 x3_11 x5_11 "ValueError.__new__"))
    (xsa11 : PySem.W.findIn K (.ref cC11) "__setattr__" = some (some (.builtin "object.__setattr__"))) (xga11 : PySem.W.findIn K (.ref cC11) "__getattribute__" = some (some (.builtin "BaseException.__getattribute__"))) (xgg11 : PySem.W.findIn K (.ref cC11) "__getattr__" = some none) (xnv11 : PySem.W.findIn K (.ref cC11) "value" = some none) (xcl11 : PySem.W.findIn K (.ref cC11) "__class__" = some (some (.builtin "object.__class__"))) (xi11 : PySem.W.findIn K (.ref cC11) "__init__" = some (some (.ref fI))) (xk11 : PySem.W.keepIn K (.ref cC11) = true)
    (xA12 : PySem.W.nsIn K mainGlobals "InvalidTape" = some (some (.ref cC12))) (xL12 : K.lookup cC12 = some (excClassObj xn12 xq12 cC12 xN12 xb12 [.ref cC0, .type "ValueError", .type "Exception", .type "BaseException", .type "object"] true xs12 xu12 xa12 xc12 xd12 x0_12 x1_12 x2_12 x3_12 x5_12 "ValueError.__new__"))
    (xsa12 : PySem.W.findIn K (.ref cC12) "__setattr__" = some (some (.builtin "object.__setattr__"))) (xga12 : PySem.W.findIn K (.ref cC12) "__getattribute__" = some (some (.builtin "BaseException.__getattribute__"))) (xgg12 : PySem.W.findIn K (.ref cC12) "__getattr__" = some none) (xnv12 : PySem.W.findIn K (.ref cC12) "value" = some none) (xcl12 : PySem.W.findIn K (.ref cC12) "__class__" = some (some (.builtin "object.__class__"))) (xi12 : PySem.W.findIn K (.ref cC12) "__init__" = some (some (.ref fI))) (xk12 : PySem.W.keepIn K (.ref cC12) = true)
    (xA13 : PySem.W.nsIn K mainGlobals "InvalidSorter" = some (some (.ref cC13))) (xL13 : K.lookup cC13 = some (excClassObj xn13 xq13 cC13 xN13 xb13 [.ref cC0, .type "ValueError", .type "Exception", .type "BaseException", .type "object"] true xs13 xu13 xa13 xc13 xd13 x0_13 x1_13 x2_13 x3_13 x5_13 "ValueError.__new__"))
    (xsa13 : PySem.W.findIn K (.ref cC13) "__setattr__" = some (some (.builtin "object.__setattr__"))) (xga13 : PySem.W.findIn K (.ref cC13) "__getattribute__" = some (some (.builtin "BaseException.__getattribute__"))) (xgg13 : PySem.W.findIn K (.ref cC13) "__getattr__" = some none) (xnv13 : PySem.W.findIn K (.ref cC13) "value" = some none) (xcl13 : PySem.W.findIn K (.ref cC13) "__class__" = some (some (.builtin "object.__class__"))) (xi13 : PySem.W.findIn K (.ref cC13) "__init__" = some (some (.ref fI))) (xk13 : PySem.W.keepIn K (.ref cC13) = true)
    (xA14 : PySem.W.nsIn K mainGlobals "InvalidSaying" = some (some (.ref cC14))) (xL14 : K.lookup cC14 = some (excClassObj xn14 xq14 cC14 xN14 xb14 [.ref cC0, .type "ValueError", .type "Exception", .type "BaseException", .type "object"] true xs14 xu14 xa14 xc14 xd14 x0_14 x1_14 x2_14 x3_14 x5_14 "ValueError.__new__"))
    (xsa14 : PySem.W.findIn K (.ref cC14) "__setattr__" = some (some (.builtin "object.__setattr__"))) (xga14 : PySem.W.findIn K (.ref cC14) "__getattribute__" = some (some (.builtin "BaseException.__getattribute__"))) (xgg14 : PySem.W.findIn K (.ref cC14) "__getattr__" = some none) (xnv14 : PySem.W.findIn K (.ref cC14) "value" = some none) (xcl14 : PySem.W.findIn K (.ref cC14) "__class__" = some (some (.builtin "object.__class__"))) (xi14 : PySem.W.findIn K (.ref cC14) "__init__" = some (some (.ref fI))) (xk14 : PySem.W.keepIn K (.ref cC14) = true)
    (xA15 : PySem.W.nsIn K mainGlobals "InvalidName" = some (some (.ref cC15))) (xL15 : K.lookup cC15 = some (excClassObj xn15 xq15 cC15 xN15 xb15 [.ref cC0, .type "ValueError", .type "Exception", .type "BaseException", .type "object"] true xs15 xu15 xa15 xc15 xd15 x0_15 x1_15 x2_15 x3_15 x5_15 "ValueError.__new__"))
    (xsa15 : PySem.W.findIn K (.ref cC15) "__setattr__" = some (some (.builtin "object.__setattr__"))) (xga15 : PySem.W.findIn K (.ref cC15) "__getattribute__" = some (some (.builtin "BaseException.__getattribute__"))) (xgg15 : PySem.W.findIn K (.ref cC15) "__getattr__" = some none) (xnv15 : PySem.W.findIn K (.ref cC15) "value" = some none) (xcl15 : PySem.W.findIn K (.ref cC15) "__class__" = some (some (.builtin "object.__class__"))) (xi15 : PySem.W.findIn K (.ref cC15) "__init__" = some (some (.ref fI))) (xk15 : PySem.W.keepIn K (.ref cC15) = true)
    (xA16 : PySem.W.nsIn K mainGlobals "NotLet" = some (some (.ref cC16))) (xL16 : K.lookup cC16 = some (excClassObj xn16 xq16 cC16 xN16 xb16 [.ref cC0, .type "ValueError", .type "Exception", .type "BaseException", .type "object"] true xs16 xu16 xa16 xc16 xd16 x0_16 x1_16 x2_16 x3_16 x5_16 "ValueError.__new__"))
    (xsa16 : PySem.W.findIn K (.ref cC16) "__setattr__" = some (some (.builtin "object.__setattr__"))) (xga16 : PySem.W.findIn K (.ref cC16) "__getattribute__" = some (some (.builtin "BaseException.__getattribute__"))) (xgg16 : PySem.W.findIn K (.ref cC16) "__getattr__" = some none) (xnv16 : PySem.W.findIn K (.ref cC16) "value" = some none) (xcl16 : PySem.W.findIn K (.ref cC16) "__class__" = some (some (.builtin "object.__class__"))) (xi16 : PySem.W.findIn K (.ref cC16) "__init__" = some (some (.ref fI))) (xk16 : PySem.W.keepIn K (.ref cC16) = true)
    (xA17 : PySem.W.nsIn K mainGlobals "UnknownName" = some (some (.ref cC17))) (xL17 : K.lookup cC17 = some (excClassObj xn17 xq17 cC17 xN17 xb17 [.ref cC0, .type "ValueError", .type "Exception", .type "BaseException", .type "object"] true xs17 xu17 xa17 xc17 xd17 x0_17 x1_17 x2_17 x3_17 x5_17 "ValueError.__new__"))
    (xsa17 : PySem.W.findIn K (.ref cC17) "__setattr__" = some (some (.builtin "object.__setattr__"))) (xga17 : PySem.W.findIn K (.ref cC17) "__getattribute__" = some (some (.builtin "BaseException.__getattribute__"))) (xgg17 : PySem.W.findIn K (.ref cC17) "__getattr__" = some none) (xnv17 : PySem.W.findIn K (.ref cC17) "value" = some none) (xcl17 : PySem.W.findIn K (.ref cC17) "__class__" = some (some (.builtin "object.__class__"))) (xi17 : PySem.W.findIn K (.ref cC17) "__init__" = some (some (.ref fI))) (xk17 : PySem.W.keepIn K (.ref cC17) = true)
    (xA18 : PySem.W.nsIn K mainGlobals "NothingToUndo" = some (some (.ref cC18))) (xL18 : K.lookup cC18 = some (excClassObj xn18 xq18 cC18 xN18 xb18 [.ref cC0, .type "ValueError", .type "Exception", .type "BaseException", .type "object"] true xs18 xu18 xa18 xc18 xd18 x0_18 x1_18 x2_18 x3_18 x5_18 "ValueError.__new__"))
    (xsa18 : PySem.W.findIn K (.ref cC18) "__setattr__" = some (some (.builtin "object.__setattr__"))) (xga18 : PySem.W.findIn K (.ref cC18) "__getattribute__" = some (some (.builtin "BaseException.__getattribute__"))) (xgg18 : PySem.W.findIn K (.ref cC18) "__getattr__" = some none) (xnv18 : PySem.W.findIn K (.ref cC18) "value" = some none) (xcl18 : PySem.W.findIn K (.ref cC18) "__class__" = some (some (.builtin "object.__class__"))) (xi18 : PySem.W.findIn K (.ref cC18) "__init__" = some (some (.ref fI))) (xk18 : PySem.W.keepIn K (.ref cC18) = true)
    (xA19 : PySem.W.nsIn K mainGlobals "Unreadable" = some (some (.ref cC19))) (xL19 : K.lookup cC19 = some (excClassObj xn19 xq19 cC19 xN19 xb19 [.ref cC0, .type "ValueError", .type "Exception", .type "BaseException", .type "object"] true xs19 xu19 xa19 xc19 xd19 x0_19 x1_19 x2_19 x3_19 x5_19 "ValueError.__new__"))
    (xsa19 : PySem.W.findIn K (.ref cC19) "__setattr__" = some (some (.builtin "object.__setattr__"))) (xga19 : PySem.W.findIn K (.ref cC19) "__getattribute__" = some (some (.builtin "BaseException.__getattribute__"))) (xgg19 : PySem.W.findIn K (.ref cC19) "__getattr__" = some none) (xnv19 : PySem.W.findIn K (.ref cC19) "value" = some none) (xcl19 : PySem.W.findIn K (.ref cC19) "__class__" = some (some (.builtin "object.__class__"))) (xi19 : PySem.W.findIn K (.ref cC19) "__init__" = some (some (.ref fI))) (xk19 : PySem.W.keepIn K (.ref cC19) = true)
    (xA20 : PySem.W.nsIn K mainGlobals "Unorderly" = some (some (.ref cC20))) (xL20 : K.lookup cC20 = some (excClassObj xn20 xq20 cC20 xN20 xb20 [.ref cC0, .type "ValueError", .type "Exception", .type "BaseException", .type "object"] true xs20 xu20 xa20 xc20 xd20 x0_20 x1_20 x2_20 x3_20 x5_20 "ValueError.__new__"))
    (xsa20 : PySem.W.findIn K (.ref cC20) "__setattr__" = some (some (.builtin "object.__setattr__"))) (xga20 : PySem.W.findIn K (.ref cC20) "__getattribute__" = some (some (.builtin "BaseException.__getattribute__"))) (xgg20 : PySem.W.findIn K (.ref cC20) "__getattr__" = some none) (xnv20 : PySem.W.findIn K (.ref cC20) "value" = some none) (xcl20 : PySem.W.findIn K (.ref cC20) "__class__" = some (some (.builtin "object.__class__"))) (xi20 : PySem.W.findIn K (.ref cC20) "__init__" = some (some (.ref fI))) (xk20 : PySem.W.keepIn K (.ref cC20) = true)
    (lI : K.lookup fI = some ⟨ocI, odI, .func (PySem.W.fnOf "__init__" "OrderError.__init__" (defArgs s_init) (defBody s_init) (defScope s_init) .none kVI dcI pmI anI cdI ctI), slI⟩) (cI : PySem.W.codeIn K cdI "OrderError.__init__" = true) (kI : PySem.W.keepIn K (.ref fI) = true) (tI : PySem.W.typeIn K (.ref fI) = some (.type "function")) (xnd : ([cC0, cC1, cC2, cC3, cC4, cC5, cC6, cC7, cC8, cC9, cC10, cC11, cC12, cC13, cC14, cC15, cC16, cC17, cC18, cC19, cC20] : List Addr).Nodup) (xsp : PySem.W.specialIn K (.builtin "object.__class__") "__get__" = some (some (.builtin "getset_descriptor.__get__"))) (xtk : PySem.W.takesIn K (.builtin "object.__class__") = some true) :
    LamX.LawAtS l w K (L2.CX l.prog w) 6 63 "script" mg fa h := by
  have e := hfa.symm.trans (PySem.W.mg_of X G a12)
  cases e
  have F0 : L2.Fun K "_law_deck" "_law_deck" s__law_deck f0 _ := fun_mk (st := s__law_deck) l0 c0 k0
  have b0 := F0.binds (ps := ["script", "k"]) fun _ _ _ _ _ _ us hl => match us, hl with | [_, _], _ => rfl
  have F1 : L2.Fun K "_law_take" "_law_take" s__law_take f1 _ := fun_mk (st := s__law_take) l1 c1 k1
  have b1 := F1.binds (ps := ["deck", "many"]) fun _ _ _ _ _ _ us hl => match us, hl with | [_, _], _ => rfl
  have F2 : L2.Fun K "_law_given" "_law_given" s__law_given f2 _ := fun_mk (st := s__law_given) l2 c2 k2
  have b2 := F2.binds (ps := ["deck"]) fun _ _ _ _ _ _ us hl => match us, hl with | [_], _ => rfl
  have F3 : L2.Fun K "_law_raise_named_first" "_law_raise_named_first" s__law_raise_named_first f3 _ := fun_mk (st := s__law_raise_named_first) l3 c3 k3
  have b3 := F3.binds (ps := ["which", "given"]) fun _ _ _ _ _ _ us hl => match us, hl with | [_, _], _ => rfl
  have F4 : L2.Fun K "_law_raise_first" "_law_raise_first" s__law_raise_first f4 _ := fun_mk (st := s__law_raise_first) l4 c4 k4
  have b4 := F4.binds (ps := ["which", "given"]) fun _ _ _ _ _ _ us hl => match us, hl with | [_, _], _ => rfl
  have F5 : L2.Fun K "_law_raise_named_second" "_law_raise_named_second" s__law_raise_named_second f5 _ := fun_mk (st := s__law_raise_named_second) l5 c5 k5
  have b5 := F5.binds (ps := ["which", "given"]) fun _ _ _ _ _ _ us hl => match us, hl with | [_, _], _ => rfl
  have F6 : L2.Fun K "_law_raise_second" "_law_raise_second" s__law_raise_second f6 _ := fun_mk (st := s__law_raise_second) l6 c6 k6
  have b6 := F6.binds (ps := ["which", "given"]) fun _ _ _ _ _ _ us hl => match us, hl with | [_, _], _ => rfl
  have F7 : L2.Fun K "_law_raised" "_law_raised" s__law_raised f7 _ := fun_mk (st := s__law_raised) l7 c7 k7
  have b7 := F7.binds (ps := ["which", "given", "named"]) fun _ _ _ _ _ _ us hl => match us, hl with | [_, _, _], _ => rfl
  have F8 : L2.Fun K "_law_same" "_law_same" s__law_same f8 _ := fun_mk (st := s__law_same) l8 c8 k8
  have b8 := F8.binds (ps := ["found", "due"]) fun _ _ _ _ _ _ us hl => match us, hl with | [_, _], _ => rfl
  have F9 : L2.Fun K "_law_kinds" "_law_kinds" s__law_kinds f9 _ := fun_mk (st := s__law_kinds) l9 c9 k9
  have b9 := F9.binds (ps := ["e"]) fun _ _ _ _ _ _ us hl => match us, hl with | [_], _ => rfl
  have F10 : L2.Fun K "_law_right" "_law_right" s__law_right f10 _ := fun_mk (st := s__law_right) l10 c10 k10
  have b10 := F10.binds (ps := ["which", "given", "named"]) fun _ _ _ _ _ _ us hl => match us, hl with | [_, _, _], _ => rfl
  have F11 : L2.Fun K "_law_base_right" "_law_base_right" s__law_base_right f11 _ := fun_mk (st := s__law_base_right) l11 c11 k11
  have b11 := F11.binds (ps := ["given"]) fun _ _ _ _ _ _ us hl => match us, hl with | [_], _ => rfl
  have F12 : L2.Fun K "law" "law" s_law fa _ := fun_mk (st := s_law) l12 c12 k12
  have b12 := F12.binds (ps := ["script"]) fun _ _ _ _ _ _ us hl => match us, hl with | [_], _ => rfl
  have XI : L2.Fun K "__init__" "OrderError.__init__" s_init fI _ := fun_mk (st := s_init) lI cI kI
  have bI := XI.binds (ps := ["self", "value"]) fun _ _ _ _ _ _ us hl => match us, hl with | [_, _], _ => rfl
  have XG : ∀ (k : Nat) (x : Str) (C : Addr), (["OrderError", "InvalidOrder", "InvalidPattern", "InvalidList", "InvalidForm", "InvalidLetter", "InvalidWord", "InvalidKind", "InvalidNumber", "InvalidPair", "InvalidMachine", "NoMachine", "InvalidTape", "InvalidSorter", "InvalidSaying", "InvalidName", "NotLet", "UnknownName", "NothingToUndo", "Unreadable", "Unorderly"] : List Str)[k]? = some x → ([cC0, cC1, cC2, cC3, cC4, cC5, cC6, cC7, cC8, cC9, cC10, cC11, cC12, cC13, cC14, cC15, cC16, cC17, cC18, cC19, cC20] : List Addr)[k]? = some C → mg x = some (.ref C) := fun k x C hx hc => match k, hx, hc with
    | 0, hx, hc => by cases hx; cases hc; exact PySem.W.mg_of X G xA0
    | 1, hx, hc => by cases hx; cases hc; exact PySem.W.mg_of X G xA1
    | 2, hx, hc => by cases hx; cases hc; exact PySem.W.mg_of X G xA2
    | 3, hx, hc => by cases hx; cases hc; exact PySem.W.mg_of X G xA3
    | 4, hx, hc => by cases hx; cases hc; exact PySem.W.mg_of X G xA4
    | 5, hx, hc => by cases hx; cases hc; exact PySem.W.mg_of X G xA5
    | 6, hx, hc => by cases hx; cases hc; exact PySem.W.mg_of X G xA6
    | 7, hx, hc => by cases hx; cases hc; exact PySem.W.mg_of X G xA7
    | 8, hx, hc => by cases hx; cases hc; exact PySem.W.mg_of X G xA8
    | 9, hx, hc => by cases hx; cases hc; exact PySem.W.mg_of X G xA9
    | 10, hx, hc => by cases hx; cases hc; exact PySem.W.mg_of X G xA10
    | 11, hx, hc => by cases hx; cases hc; exact PySem.W.mg_of X G xA11
    | 12, hx, hc => by cases hx; cases hc; exact PySem.W.mg_of X G xA12
    | 13, hx, hc => by cases hx; cases hc; exact PySem.W.mg_of X G xA13
    | 14, hx, hc => by cases hx; cases hc; exact PySem.W.mg_of X G xA14
    | 15, hx, hc => by cases hx; cases hc; exact PySem.W.mg_of X G xA15
    | 16, hx, hc => by cases hx; cases hc; exact PySem.W.mg_of X G xA16
    | 17, hx, hc => by cases hx; cases hc; exact PySem.W.mg_of X G xA17
    | 18, hx, hc => by cases hx; cases hc; exact PySem.W.mg_of X G xA18
    | 19, hx, hc => by cases hx; cases hc; exact PySem.W.mg_of X G xA19
    | 20, hx, hc => by cases hx; cases hc; exact PySem.W.mg_of X G xA20
    | k + 21, hx, hc => by simp at hx
  have XH : ∀ (k : Nat) (C : Addr), ([cC0, cC1, cC2, cC3, cC4, cC5, cC6, cC7, cC8, cC9, cC10, cC11, cC12, cC13, cC14, cC15, cC16, cC17, cC18, cC19, cC20] : List Addr)[k]? = some C → XFact K fI C (bmOf cC0 k) := fun k C hc => match k, hc with
    | 0, hc => by cases hc; exact ⟨⟨_, _, _, _, _, _, _, _, _, _, _, _, _, _, xL0⟩, xsa0, xga0, xgg0, xnv0, xcl0, xi0, xk0⟩
    | 1, hc => by cases hc; exact ⟨⟨_, _, _, _, _, _, _, _, _, _, _, _, _, _, xL1⟩, xsa1, xga1, xgg1, xnv1, xcl1, xi1, xk1⟩
    | 2, hc => by cases hc; exact ⟨⟨_, _, _, _, _, _, _, _, _, _, _, _, _, _, xL2⟩, xsa2, xga2, xgg2, xnv2, xcl2, xi2, xk2⟩
    | 3, hc => by cases hc; exact ⟨⟨_, _, _, _, _, _, _, _, _, _, _, _, _, _, xL3⟩, xsa3, xga3, xgg3, xnv3, xcl3, xi3, xk3⟩
    | 4, hc => by cases hc; exact ⟨⟨_, _, _, _, _, _, _, _, _, _, _, _, _, _, xL4⟩, xsa4, xga4, xgg4, xnv4, xcl4, xi4, xk4⟩
    | 5, hc => by cases hc; exact ⟨⟨_, _, _, _, _, _, _, _, _, _, _, _, _, _, xL5⟩, xsa5, xga5, xgg5, xnv5, xcl5, xi5, xk5⟩
    | 6, hc => by cases hc; exact ⟨⟨_, _, _, _, _, _, _, _, _, _, _, _, _, _, xL6⟩, xsa6, xga6, xgg6, xnv6, xcl6, xi6, xk6⟩
    | 7, hc => by cases hc; exact ⟨⟨_, _, _, _, _, _, _, _, _, _, _, _, _, _, xL7⟩, xsa7, xga7, xgg7, xnv7, xcl7, xi7, xk7⟩
    | 8, hc => by cases hc; exact ⟨⟨_, _, _, _, _, _, _, _, _, _, _, _, _, _, xL8⟩, xsa8, xga8, xgg8, xnv8, xcl8, xi8, xk8⟩
    | 9, hc => by cases hc; exact ⟨⟨_, _, _, _, _, _, _, _, _, _, _, _, _, _, xL9⟩, xsa9, xga9, xgg9, xnv9, xcl9, xi9, xk9⟩
    | 10, hc => by cases hc; exact ⟨⟨_, _, _, _, _, _, _, _, _, _, _, _, _, _, xL10⟩, xsa10, xga10, xgg10, xnv10, xcl10, xi10, xk10⟩
    | 11, hc => by cases hc; exact ⟨⟨_, _, _, _, _, _, _, _, _, _, _, _, _, _, xL11⟩, xsa11, xga11, xgg11, xnv11, xcl11, xi11, xk11⟩
    | 12, hc => by cases hc; exact ⟨⟨_, _, _, _, _, _, _, _, _, _, _, _, _, _, xL12⟩, xsa12, xga12, xgg12, xnv12, xcl12, xi12, xk12⟩
    | 13, hc => by cases hc; exact ⟨⟨_, _, _, _, _, _, _, _, _, _, _, _, _, _, xL13⟩, xsa13, xga13, xgg13, xnv13, xcl13, xi13, xk13⟩
    | 14, hc => by cases hc; exact ⟨⟨_, _, _, _, _, _, _, _, _, _, _, _, _, _, xL14⟩, xsa14, xga14, xgg14, xnv14, xcl14, xi14, xk14⟩
    | 15, hc => by cases hc; exact ⟨⟨_, _, _, _, _, _, _, _, _, _, _, _, _, _, xL15⟩, xsa15, xga15, xgg15, xnv15, xcl15, xi15, xk15⟩
    | 16, hc => by cases hc; exact ⟨⟨_, _, _, _, _, _, _, _, _, _, _, _, _, _, xL16⟩, xsa16, xga16, xgg16, xnv16, xcl16, xi16, xk16⟩
    | 17, hc => by cases hc; exact ⟨⟨_, _, _, _, _, _, _, _, _, _, _, _, _, _, xL17⟩, xsa17, xga17, xgg17, xnv17, xcl17, xi17, xk17⟩
    | 18, hc => by cases hc; exact ⟨⟨_, _, _, _, _, _, _, _, _, _, _, _, _, _, xL18⟩, xsa18, xga18, xgg18, xnv18, xcl18, xi18, xk18⟩
    | 19, hc => by cases hc; exact ⟨⟨_, _, _, _, _, _, _, _, _, _, _, _, _, _, xL19⟩, xsa19, xga19, xgg19, xnv19, xcl19, xi19, xk19⟩
    | 20, hc => by cases hc; exact ⟨⟨_, _, _, _, _, _, _, _, _, _, _, _, _, _, xL20⟩, xsa20, xga20, xgg20, xnv20, xcl20, xi20, xk20⟩
    | k + 21, hc => by simp at hc
  let t : Tp K mg := { f__law_deck := f0, fd__law_deck := PySem.W.fnOf "_law_deck" "_law_deck" (defArgs s__law_deck) (defBody s__law_deck) (defScope s__law_deck) .none kV0 dc0 pm0 an0 cd0 ct0, F__law_deck := F0, g__law_deck := PySem.W.mg_of X G a0, b__law_deck := b0, f__law_take := f1, fd__law_take := PySem.W.fnOf "_law_take" "_law_take" (defArgs s__law_take) (defBody s__law_take) (defScope s__law_take) .none kV1 dc1 pm1 an1 cd1 ct1, F__law_take := F1, g__law_take := PySem.W.mg_of X G a1, b__law_take := b1, f__law_given := f2, fd__law_given := PySem.W.fnOf "_law_given" "_law_given" (defArgs s__law_given) (defBody s__law_given) (defScope s__law_given) .none kV2 dc2 pm2 an2 cd2 ct2, F__law_given := F2, g__law_given := PySem.W.mg_of X G a2, b__law_given := b2, f__law_raise_named_first := f3, fd__law_raise_named_first := PySem.W.fnOf "_law_raise_named_first" "_law_raise_named_first" (defArgs s__law_raise_named_first) (defBody s__law_raise_named_first) (defScope s__law_raise_named_first) .none kV3 dc3 pm3 an3 cd3 ct3, F__law_raise_named_first := F3, g__law_raise_named_first := PySem.W.mg_of X G a3, b__law_raise_named_first := b3, f__law_raise_first := f4, fd__law_raise_first := PySem.W.fnOf "_law_raise_first" "_law_raise_first" (defArgs s__law_raise_first) (defBody s__law_raise_first) (defScope s__law_raise_first) .none kV4 dc4 pm4 an4 cd4 ct4, F__law_raise_first := F4, g__law_raise_first := PySem.W.mg_of X G a4, b__law_raise_first := b4, f__law_raise_named_second := f5, fd__law_raise_named_second := PySem.W.fnOf "_law_raise_named_second" "_law_raise_named_second" (defArgs s__law_raise_named_second) (defBody s__law_raise_named_second) (defScope s__law_raise_named_second) .none kV5 dc5 pm5 an5 cd5 ct5, F__law_raise_named_second := F5, g__law_raise_named_second := PySem.W.mg_of X G a5, b__law_raise_named_second := b5, f__law_raise_second := f6, fd__law_raise_second := PySem.W.fnOf "_law_raise_second" "_law_raise_second" (defArgs s__law_raise_second) (defBody s__law_raise_second) (defScope s__law_raise_second) .none kV6 dc6 pm6 an6 cd6 ct6, F__law_raise_second := F6, g__law_raise_second := PySem.W.mg_of X G a6, b__law_raise_second := b6, f__law_raised := f7, fd__law_raised := PySem.W.fnOf "_law_raised" "_law_raised" (defArgs s__law_raised) (defBody s__law_raised) (defScope s__law_raised) .none kV7 dc7 pm7 an7 cd7 ct7, F__law_raised := F7, g__law_raised := PySem.W.mg_of X G a7, b__law_raised := b7, f__law_same := f8, fd__law_same := PySem.W.fnOf "_law_same" "_law_same" (defArgs s__law_same) (defBody s__law_same) (defScope s__law_same) .none kV8 dc8 pm8 an8 cd8 ct8, F__law_same := F8, g__law_same := PySem.W.mg_of X G a8, b__law_same := b8, f__law_kinds := f9, fd__law_kinds := PySem.W.fnOf "_law_kinds" "_law_kinds" (defArgs s__law_kinds) (defBody s__law_kinds) (defScope s__law_kinds) .none kV9 dc9 pm9 an9 cd9 ct9, F__law_kinds := F9, g__law_kinds := PySem.W.mg_of X G a9, b__law_kinds := b9, f__law_right := f10, fd__law_right := PySem.W.fnOf "_law_right" "_law_right" (defArgs s__law_right) (defBody s__law_right) (defScope s__law_right) .none kV10 dc10 pm10 an10 cd10 ct10, F__law_right := F10, g__law_right := PySem.W.mg_of X G a10, b__law_right := b10, f__law_base_right := f11, fd__law_base_right := PySem.W.fnOf "_law_base_right" "_law_base_right" (defArgs s__law_base_right) (defBody s__law_base_right) (defScope s__law_base_right) .none kV11 dc11 pm11 an11 cd11 ct11, F__law_base_right := F11, g__law_base_right := PySem.W.mg_of X G a11, b__law_base_right := b11, f_law := fa, fd_law := PySem.W.fnOf "law" "law" (defArgs s_law) (defBody s_law) (defScope s_law) .none kV12 dc12 pm12 an12 cd12 ct12, F_law := F12, g_law := PySem.W.mg_of X G a12, b_law := b12, z_ValueError := PySem.W.mg_none_of X G z_ValueError, z_bool := PySem.W.mg_none_of X G z_bool, z_int := PySem.W.mg_none_of X G z_int, z_isinstance := PySem.W.mg_none_of X G z_isinstance, z_len := PySem.W.mg_none_of X G z_len, z_list := PySem.W.mg_none_of X G z_list, z_max := PySem.W.mg_none_of X G z_max, z_min := PySem.W.mg_none_of X G z_min, z_range := PySem.W.mg_none_of X G z_range, z_str := PySem.W.mg_none_of X G z_str, z_tuple := PySem.W.mg_none_of X G z_tuple }
  refine ⟨_, [], spF K [] (clOf [cC0, cC1, cC2, cC3, cC4, cC5, cC6, cC7, cC8, cC9, cC10, cC11, cC12, cC13, cC14, cC15, cC16, cC17, cC18, cC19, cC20]) 1 (F_law (clOf [cC0, cC1, cC2, cC3, cC4, cC5, cC6, cC7, cC8, cC9, cC10, cC11, cC12, cC13, cC14, cC15, cC16, cC17, cC18, cC19, cC20])), ?_, ?_, ?_, fun s u => .of_eq rfl, ?_, fun base _ _ TB => ok_law t ⟨⟩ (xall_mk (cs := [cC0, cC1, cC2, cC3, cC4, cC5, cC6, cC7, cC8, cC9, cC10, cC11, cC12, cC13, cC14, cC15, cC16, cC17, cC18, cC19, cC20]) (C0 := cC0) rfl rfl xnd XG XH xsp xtk tI (ok_init XI) bI (fun s self u => .of_eq rfl))⟩
  · intro p hp
    exact nomatch hp
  · intro p hp
    exact nomatch hp
  · intro p hp
    exact nomatch hp
  · intro H a ns hlen hbits hT hS
    obtain ⟨M', hlaw⟩ := law_ok (clOf [cC0, cC1, cC2, cC3, cC4, cC5, cC6, cC7, cC8, cC9, cC10, cC11, cC12, cC13, cC14, cC15, cC16, cC17, cC18, cC19, cC20]) ns hlen
    refine ⟨[], [], [.rol (IL ns)], ⟨rfl, (fun n m a h => by simp at h), (fun n a h => by simp at h), (fun n h => by simp at h), fun P hP => ?_⟩, .cons (.rol ?_ (Reps.ofInts ns)) .nil, rfl, ?_⟩
    · have hP : P ∈ [] := hP
      exact nomatch hP
    · rcases hS with hS | hS
      · exact .inl ⟨hS, by simp⟩
      · exact .inr hS
    · rw [hlaw]
      intro v H' A' _ r
      cases r
      rfl
end K00
end
set_option linter.all false
set_option maxRecDepth 100000
open PySem PySem.W PyProof.Rows
set_option maxHeartbeats 0 in
theorem PySem.Challenge.cw_bannedorders_k00_errors_holds : PySem.Challenge.rw_bannedorders_k00_errors.Holds := by
  w_on; o_law; k_head; (case hw => w_witness2)
  k_fill
  refine K00.walk_tab (l := PySem.Challenge.rw_bannedorders_k00_errors) (n := 63) (k := 6) (x := "script") (CX := fun w => L2.CX (PySem.Challenge.rw_bannedorders_k00_errors).prog w) [] rfl (by decide) rfl ⟨rfl, by decide, by decide⟩ (by decide +kernel) (fun w h Y => PySem.W.kIn_of Y) ?F K00.cx_top
  case F =>
    intro w mg fa h Y KX G hmg own
    refine' K00.all_mk KX G hmg own ?a0 ?l0 ?c0 ?k0 ?a1 ?l1 ?c1 ?k1 ?a2 ?l2 ?c2 ?k2 ?a3 ?l3 ?c3 ?k3 ?a4 ?l4 ?c4 ?k4 ?a5 ?l5 ?c5 ?k5 ?a6 ?l6 ?c6 ?k6 ?a7 ?l7 ?c7 ?k7 ?a8 ?l8 ?c8 ?k8 ?a9 ?l9 ?c9 ?k9 ?a10 ?l10 ?c10 ?k10 ?a11 ?l11 ?c11 ?k11 ?a12 ?l12 ?c12 ?k12 ?z_ValueError ?z_bool ?z_int ?z_isinstance ?z_len ?z_list ?z_max ?z_min ?z_range ?z_str ?z_tuple ?xA0 ?xL0 ?xsa0 ?xga0 ?xgg0 ?xnv0 ?xcl0 ?xi0 ?xk0 ?xA1 ?xL1 ?xsa1 ?xga1 ?xgg1 ?xnv1 ?xcl1 ?xi1 ?xk1 ?xA2 ?xL2 ?xsa2 ?xga2 ?xgg2 ?xnv2 ?xcl2 ?xi2 ?xk2 ?xA3 ?xL3 ?xsa3 ?xga3 ?xgg3 ?xnv3 ?xcl3 ?xi3 ?xk3 ?xA4 ?xL4 ?xsa4 ?xga4 ?xgg4 ?xnv4 ?xcl4 ?xi4 ?xk4 ?xA5 ?xL5 ?xsa5 ?xga5 ?xgg5 ?xnv5 ?xcl5 ?xi5 ?xk5 ?xA6 ?xL6 ?xsa6 ?xga6 ?xgg6 ?xnv6 ?xcl6 ?xi6 ?xk6 ?xA7 ?xL7 ?xsa7 ?xga7 ?xgg7 ?xnv7 ?xcl7 ?xi7 ?xk7 ?xA8 ?xL8 ?xsa8 ?xga8 ?xgg8 ?xnv8 ?xcl8 ?xi8 ?xk8 ?xA9 ?xL9 ?xsa9 ?xga9 ?xgg9 ?xnv9 ?xcl9 ?xi9 ?xk9 ?xA10 ?xL10 ?xsa10 ?xga10 ?xgg10 ?xnv10 ?xcl10 ?xi10 ?xk10 ?xA11 ?xL11 ?xsa11 ?xga11 ?xgg11 ?xnv11 ?xcl11 ?xi11 ?xk11 ?xA12 ?xL12 ?xsa12 ?xga12 ?xgg12 ?xnv12 ?xcl12 ?xi12 ?xk12 ?xA13 ?xL13 ?xsa13 ?xga13 ?xgg13 ?xnv13 ?xcl13 ?xi13 ?xk13 ?xA14 ?xL14 ?xsa14 ?xga14 ?xgg14 ?xnv14 ?xcl14 ?xi14 ?xk14 ?xA15 ?xL15 ?xsa15 ?xga15 ?xgg15 ?xnv15 ?xcl15 ?xi15 ?xk15 ?xA16 ?xL16 ?xsa16 ?xga16 ?xgg16 ?xnv16 ?xcl16 ?xi16 ?xk16 ?xA17 ?xL17 ?xsa17 ?xga17 ?xgg17 ?xnv17 ?xcl17 ?xi17 ?xk17 ?xA18 ?xL18 ?xsa18 ?xga18 ?xgg18 ?xnv18 ?xcl18 ?xi18 ?xk18 ?xA19 ?xL19 ?xsa19 ?xga19 ?xgg19 ?xnv19 ?xcl19 ?xi19 ?xk19 ?xA20 ?xL20 ?xsa20 ?xga20 ?xgg20 ?xnv20 ?xcl20 ?xi20 ?xk20 ?lI ?cI ?kI ?tI ?xnd ?xsp ?xtk
    (case a0 => k_is); (case l0 => k_is); (case c0 => k_is); (case k0 => k_is); (case a1 => k_is); (case l1 => k_is); (case c1 => k_is); (case k1 => k_is); (case a2 => k_is); (case l2 => k_is); (case c2 => k_is); (case k2 => k_is); (case a3 => k_is); (case l3 => k_is); (case c3 => k_is); (case k3 => k_is); (case a4 => k_is); (case l4 => k_is); (case c4 => k_is); (case k4 => k_is); (case a5 => k_is); (case l5 => k_is); (case c5 => k_is); (case k5 => k_is); (case a6 => k_is); (case l6 => k_is); (case c6 => k_is); (case k6 => k_is); (case a7 => k_is); (case l7 => k_is); (case c7 => k_is); (case k7 => k_is); (case a8 => k_is); (case l8 => k_is); (case c8 => k_is); (case k8 => k_is); (case a9 => k_is); (case l9 => k_is); (case c9 => k_is); (case k9 => k_is); (case a10 => k_is); (case l10 => k_is); (case c10 => k_is); (case k10 => k_is); (case a11 => k_is); (case l11 => k_is); (case c11 => k_is); (case k11 => k_is); (case a12 => k_is); (case l12 => k_is); (case c12 => k_is); (case k12 => k_is); (case z_ValueError => k_is); (case z_bool => k_is); (case z_int => k_is); (case z_isinstance => k_is); (case z_len => k_is); (case z_list => k_is); (case z_max => k_is); (case z_min => k_is); (case z_range => k_is); (case z_str => k_is); (case z_tuple => k_is); (case xA0 => k_is); (case xL0 => k_is); (case xsa0 => k_is); (case xga0 => k_is); (case xgg0 => k_is); (case xnv0 => k_is); (case xcl0 => k_is); (case xi0 => k_is); (case xk0 => k_is); (case xA1 => k_is); (case xL1 => k_is); (case xsa1 => k_is); (case xga1 => k_is); (case xgg1 => k_is); (case xnv1 => k_is); (case xcl1 => k_is); (case xi1 => k_is); (case xk1 => k_is); (case xA2 => k_is); (case xL2 => k_is); (case xsa2 => k_is); (case xga2 => k_is); (case xgg2 => k_is); (case xnv2 => k_is); (case xcl2 => k_is); (case xi2 => k_is); (case xk2 => k_is); (case xA3 => k_is); (case xL3 => k_is); (case xsa3 => k_is); (case xga3 => k_is); (case xgg3 => k_is); (case xnv3 => k_is); (case xcl3 => k_is); (case xi3 => k_is); (case xk3 => k_is); (case xA4 => k_is); (case xL4 => k_is); (case xsa4 => k_is); (case xga4 => k_is); (case xgg4 => k_is); (case xnv4 => k_is); (case xcl4 => k_is); (case xi4 => k_is); (case xk4 => k_is); (case xA5 => k_is); (case xL5 => k_is); (case xsa5 => k_is); (case xga5 => k_is); (case xgg5 => k_is); (case xnv5 => k_is); (case xcl5 => k_is); (case xi5 => k_is); (case xk5 => k_is); (case xA6 => k_is); (case xL6 => k_is); (case xsa6 => k_is); (case xga6 => k_is); (case xgg6 => k_is); (case xnv6 => k_is); (case xcl6 => k_is); (case xi6 => k_is); (case xk6 => k_is); (case xA7 => k_is); (case xL7 => k_is); (case xsa7 => k_is); (case xga7 => k_is); (case xgg7 => k_is); (case xnv7 => k_is); (case xcl7 => k_is); (case xi7 => k_is); (case xk7 => k_is); (case xA8 => k_is); (case xL8 => k_is); (case xsa8 => k_is); (case xga8 => k_is); (case xgg8 => k_is); (case xnv8 => k_is); (case xcl8 => k_is); (case xi8 => k_is); (case xk8 => k_is); (case xA9 => k_is); (case xL9 => k_is); (case xsa9 => k_is); (case xga9 => k_is); (case xgg9 => k_is); (case xnv9 => k_is); (case xcl9 => k_is); (case xi9 => k_is); (case xk9 => k_is); (case xA10 => k_is); (case xL10 => k_is); (case xsa10 => k_is); (case xga10 => k_is); (case xgg10 => k_is); (case xnv10 => k_is); (case xcl10 => k_is); (case xi10 => k_is); (case xk10 => k_is); (case xA11 => k_is); (case xL11 => k_is); (case xsa11 => k_is); (case xga11 => k_is); (case xgg11 => k_is); (case xnv11 => k_is); (case xcl11 => k_is); (case xi11 => k_is); (case xk11 => k_is); (case xA12 => k_is); (case xL12 => k_is); (case xsa12 => k_is); (case xga12 => k_is); (case xgg12 => k_is); (case xnv12 => k_is); (case xcl12 => k_is); (case xi12 => k_is); (case xk12 => k_is); (case xA13 => k_is); (case xL13 => k_is); (case xsa13 => k_is); (case xga13 => k_is); (case xgg13 => k_is); (case xnv13 => k_is); (case xcl13 => k_is); (case xi13 => k_is); (case xk13 => k_is); (case xA14 => k_is); (case xL14 => k_is); (case xsa14 => k_is); (case xga14 => k_is); (case xgg14 => k_is); (case xnv14 => k_is); (case xcl14 => k_is); (case xi14 => k_is); (case xk14 => k_is); (case xA15 => k_is); (case xL15 => k_is); (case xsa15 => k_is); (case xga15 => k_is); (case xgg15 => k_is); (case xnv15 => k_is); (case xcl15 => k_is); (case xi15 => k_is); (case xk15 => k_is); (case xA16 => k_is); (case xL16 => k_is); (case xsa16 => k_is); (case xga16 => k_is); (case xgg16 => k_is); (case xnv16 => k_is); (case xcl16 => k_is); (case xi16 => k_is); (case xk16 => k_is); (case xA17 => k_is); (case xL17 => k_is); (case xsa17 => k_is); (case xga17 => k_is); (case xgg17 => k_is); (case xnv17 => k_is); (case xcl17 => k_is); (case xi17 => k_is); (case xk17 => k_is); (case xA18 => k_is); (case xL18 => k_is); (case xsa18 => k_is); (case xga18 => k_is); (case xgg18 => k_is); (case xnv18 => k_is); (case xcl18 => k_is); (case xi18 => k_is); (case xk18 => k_is); (case xA19 => k_is); (case xL19 => k_is); (case xsa19 => k_is); (case xga19 => k_is); (case xgg19 => k_is); (case xnv19 => k_is); (case xcl19 => k_is); (case xi19 => k_is); (case xk19 => k_is); (case xA20 => k_is); (case xL20 => k_is); (case xsa20 => k_is); (case xga20 => k_is); (case xgg20 => k_is); (case xnv20 => k_is); (case xcl20 => k_is); (case xi20 => k_is); (case xk20 => k_is); (case lI => k_is); (case cI => k_is); (case kI => k_is); (case tI => k_is); (case xnd => decide); (case xsp => first | k_is | decide +kernel | rfl); (case xtk => first | k_is | decide +kernel | rfl)
    
