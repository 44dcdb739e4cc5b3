import PyProof.Rows.All
import Wide.All
import OpenK.AllK
import Wide.FinOn
import HandS.ForMost
import HandS.Walk
import HandS.IsInst
import HandS.TupAny
import HandS.Flow
import HandS.Zip
import HandS.Style
import HandS.Deep
import HandS.Strs
import HandS.AnyAll
import HandS.Wide
import HandS.SortInts
import HandS.More
import PyProof.Rows.StrJoinLen
import PyProof.Rows.Chain
import KE.SortKeyHeap
import KE.DataEq
import HandS.Exc
import HandS.SortKw
import HandS.Iter
import HandS.DictTup
import KE.KeyNested
import KE.KDictKeyed
import HandS.FStr
import HandS.GenOver
import HandS.GenList
import HandS.EndTab
import HandS.EndOwn
import PySem.Challenge.RW_everymending_k04_tables_and_facts
section
set_option Elab.async false
set_option linter.all false
set_option maxRecDepth 100000
/-! Rules from the bottom: xs[::-1] of a tuple; tuples that are known to have no dict: the rules that make them; a method of a tuple; tuple.index. -/
namespace Vf
open PySem PySem.Spec PyProof.Rows L2
section
theorem adj_rev (n : Nat) : Builtin.Slice.sliceAdjust none none (-1) (n : Int) = ((n : Int) - 1, -1) := rfl
theorem places_rev (n : Nat) : Builtin.Slice.slicePlaces ((n : Int) - 1) (-1) (-1) = n := by
  unfold Builtin.Slice.slicePlaces
  rw [if_neg (by decide)]
  split
  · rw [show -(-1 : Int) = 1 from rfl, Int.ediv_one]
    omega
  · omega
theorem pick_rev (xs : Array Value) : (List.filterMap (fun k : Nat => xs[((xs.size : Int) - 1 + (k : Int) * -1).toNat]?) (List.range xs.size)).toArray = xs.toList.reverse.toArray := by
  congr 1
  have e : (List.filterMap (fun k : Nat => xs[((xs.size : Int) - 1 + (k : Int) * -1).toNat]?) (List.range xs.size)) = List.filterMap id ((List.range xs.size).map fun k : Nat => xs[((xs.size : Int) - 1 + (k : Int) * -1).toNat]?) := by
    rw [List.filterMap_map]
    rfl
  have e2 : ((List.range xs.size).map fun k : Nat => xs[((xs.size : Int) - 1 + (k : Int) * -1).toNat]?) = xs.toList.reverse.map some := by
    refine List.ext_getElem (by simp) fun i h1 h2 => ?_
    rw [List.length_map, List.length_range] at h1
    rw [List.getElem_map, List.getElem_map, List.getElem_range, List.getElem_reverse]
    rw [show (((xs.size : Int) - 1 + (i : Int) * -1).toNat) = xs.size - 1 - i by omega]
    rw [Array.getElem?_eq_getElem (by omega)]
    simp
  rw [e, e2, List.filterMap_map]
  simp
theorem sliceApplied_rev {prog : Program} {w : World} {A : Around} {E : Value → Shared → Prop} {s : Shared} {sl : Addr} {vl vu vs : Value} {n : Nat} {Q : Int × Int × Nat → Shared → Prop} (hs : s.heap.IsSliceOf sl vl vu vs) (pl : IsPart vl none) (pu : IsPart vu none) (ps : IsPart vs (some (-1))) (h : Q ((n : Int) - 1, -1, n) s) :
    wpAny (model prog w) A (Builtin.Slice.sliceApplied (Value.ref sl) (pure (n : Int))) Q E s := by
  obtain ⟨os, hos, hcs, hds⟩ := id hs
  unfold Builtin.Slice.sliceApplied Builtin.Slice.sliceFields
  refine wpAny_bind (wpAny_bind (wpAny_field hos hds rfl (wpAny_bind (wpAny_field hos hds rfl (wpAny_bind (wpAny_field hos hds rfl (wpAny_pure ?_)))))))
  refine wpAny_bind (HT.slicePart_ ps ?_)
  dsimp only [Option.getD_some]
  rw [if_neg (by decide)]
  refine wpAny_bind (HT.slicePart_ pl (wpAny_bind (HT.slicePart_ pu (wpAny_bind (wpAny_pure ?_)))))
  rw [adj_rev]
  dsimp only
  rw [places_rev]
  exact wpAny_pure h
theorem getItem_tuple_rev {prog : Program} {w : World} {A : Around} {E : Value → Shared → Prop} {s : Shared} {t sl : Addr} {items : Array Value} {vl vu vs : Value} {Q : Value → Shared → Prop} (ht : IsTup s.heap t items) (hs : s.heap.IsSliceOf sl vl vu vs) (pl : IsPart vl none) (pu : IsPart vu none) (ps : IsPart vs (some (-1)))
    (h : Q (Value.ref s.heap.objs.size) { heap := s.heap.push { cls := Value.type "tuple", data := Data.seq items.toList.reverse.toArray }, gens := s.gens, drawn := s.drawn, toks := s.toks, os := s.os }) (hsz : items.size ≤ sizeLine) :
    wpAny (model prog w) A (getItem (Value.ref t) (Value.ref sl)) Q E s := by
  obtain ⟨os, hos, hcs, hds⟩ := id hs
  have hTs : s.TypeIs (.ref sl) "slice" := ⟨os, hos, hcs⟩
  have hlen : items.toList.reverse.toArray.size ≤ sizeLine := by simpa using hsz
  refine wpAny_holding (wpAny_bind (wpAny_sequenceKey (IsTup.typeIs ht) (by decide) (wpAny_bind (wpAny_callSpecial?_slot (IsTup.typeIs ht) slot_tuple_getitem (wpAny_call_entry slot_tuple_getitem (IsTup.typeIs ht) entry_tuple_getitem ?_ (args_tuple_getitem (Value.ref t) (Value.ref sl)))))))
  refine wpAny_bind ?_
  rw [show slotArgs "__getitem__" 1 { pos := [Value.ref t, Value.ref sl] } = pure (Value.ref t, [Value.ref sl]) from rfl]
  refine wpAny_pure ?_
  dsimp only
  refine wpAny_bind (tupleItemsOf_ ht (wpAny_bind (wpAny_typeOf hTs ?_)))
  rw [if_pos (by decide)]
  refine wpAny_bind (sliceApplied_rev hs pl pu ps ?_)
  have hno : ¬(((items.size : Int) - 1 == 0 && (-1 : Int) == 1 && items.size == items.size) = true) := by
    simp
  dsimp only
  rw [if_neg hno, pick_rev]
  exact wpAny_bind (wpAny_newObj_type (wpAny_pure ⟨Value.ref s.heap.objs.size, rfl, wpAny_pure h⟩) hlen)
end
section
variable {X : Cx}
/-- a tuple made in the run, its dict none -/
def NT (H : Hp) (p : Addr) (xs : List V) : Prop := ∃ ob : Obj, H p = some (.frz ob (.tup xs)) ∧ ob.dict = none
theorem NT.rd {H : Hp} {p : Addr} {xs : List V} (h : NT H p xs) : Rd H p (.tup xs) := by
  obtain ⟨ob, h, _⟩ := h
  exact .inr ⟨ob, h⟩
theorem lay_frz {pins : List (Addr × Obj)} {σ : L2.St} {H : Hp} {s : Shared} {t' : Nat} (I : L2.Inv X pins σ H s) {its : List Value} {xs : List V} (r : Vals xs its) (hz : xs.length ≤ sizeLine) :
    L2.Inv X pins σ (upd H s.heap.objs.size (.frz { cls := Value.type "tuple", data := Data.seq its.toArray } (.tup xs))) { heap := s.heap.push { cls := Value.type "tuple", data := Data.seq its.toArray }, gens := s.gens, drawn := s.drawn, toks := t', os := s.os } :=
  Inv.laid I (fun b ob q => Heap.get?_push_of_some _ q) (Nat.le_refl s.heap.objs.size) ⟨Heap.get?_push_size s.heap rfl, hz, its, r, IsTup.new s.heap _⟩
abbrev NewT (H : Hp) (xs : List V) (Q : VK) : Prop := ∀ (p : Addr) (ob : Obj), H p = none → ob.dict = none → Q (.ref p) (upd H p (.frz ob (.tup xs)))
theorem ep_frz {pins : List (Addr × Obj)} {σ : L2.St} {H : Hp} {s : Shared} {t' : Nat} {Q : VK} (I : L2.Inv X pins σ H s) {its : List Value} {xs : List V} (r : Vals xs its) (hz : xs.length ≤ sizeLine) (q : NewT H xs Q) :
    EP X pins σ Q (Value.ref s.heap.objs.size) { heap := s.heap.push { cls := Value.type "tuple", data := Data.seq its.toArray }, gens := s.gens, drawn := s.drawn, toks := t', os := s.os } :=
  ⟨V.ref s.heap.objs.size, _, lay_frz I r hz, rfl, q _ _ (HOk.fresh I.hok (Nat.le_refl s.heap.objs.size)) rfl⟩
/-! (a, b) -/
def tTupN (t : TA) : TE := fun σ H Q => t σ H fun xs H1 => xs.length ≤ sizeLine ∧ NewT H1 xs Q
theorem pe_tupN {es : List Expr} {t : TA} {pos : Pos} {x1 : Nat} (h : PA X es t) : PE X (.Tuple es x1 pos) (tTupN t) := ⟨fun pins s σ H Q I hq => by
  refine wpAny_Tuple_spliced (thn (h.run pos pins s σ H _ I hq) fun us s1 hh => ?_)
  obtain ⟨xs, H1, I1, r, z, q⟩ := hh
  have hl := Vals.length r
  exact ⟨by rw [← hl]; exact z, ep_frz I1 r z q⟩⟩
/-! tuple(xs) -/
def rTupOfN (K : PySem.W.Frag) : List V → Hp → VK → Prop := fun xs H Q => ∃ p ys, xs = [.ref p] ∧ ((SqL K H p ys ∧ NewT H ys Q) ∨ (SqT K H p ys ∧ Q (.ref p) H))
theorem call_tupN : CallR X (.type "tuple") (rTupOfN X.K) := by
  intro pins s σ H xs us Q I r h
  obtain ⟨p, ys, rfl, h⟩ := h
  obtain ⟨u, rfl, rx⟩ := L2.vals1 r
  cases rx
  rcases h with ⟨hq, q⟩ | ⟨hq, q⟩
  · obtain ⟨its, r', pl, hz⟩ := Inv.list I hq
    have hl := Vals.length r'
    refine call_tuple_list (PlainL.isList pl) (fun h' kp => ?_) (by rw [List.size_toArray, ← hl]; exact hz)
    exact ep_frz (Inv.kept (t' := s.toks) I kp) r' hz q
  · obtain ⟨its, r', pl, hz⟩ := Inv.tuple I hq
    exact call_tuple_same pl ⟨V.ref p, H, I, rfl, q⟩
/-! t + u -/
def rCatN (K : PySem.W.Frag) : R2 := fun x y H Q => ∃ a b xs ys, x = V.ref a ∧ y = V.ref b ∧ SqT K H a xs ∧ SqT K H b ys ∧ xs.length + ys.length ≤ sizeLine ∧ (xs = [] → Q (V.ref b) H) ∧ (xs ≠ [] → ys = [] → Q (V.ref a) H) ∧ (xs ≠ [] → ys ≠ [] → NewT H (xs ++ ys) Q)
theorem op_catN : OpR X (binaryOp .Add) (rCatN X.K) := by
  intro pins s σ H x y v u Q I rx ry h
  obtain ⟨a, b, xs, ys, rfl, rfl, ha, hb, hz, q0, q1, q2⟩ := h
  cases rx
  cases ry
  obtain ⟨its, r1, p1, z1⟩ := Inv.tuple I ha
  obtain ⟨its2, r2, p2, z2⟩ := Inv.tuple I hb
  by_cases hx : xs = []
  · subst hx
    cases r1
    exact cat_tup0 p1 p2 ⟨V.ref b, H, I, rfl, q0 rfl⟩
  · refine HT.cat_tup p1 p2 (fun z => hx ((Vals.nil_iff r1).mp z)) (fun z => ⟨V.ref a, H, I, rfl, q1 hx ((Vals.nil_iff r2).mp z)⟩) (fun z => ?_) (by rw [← Vals.length r1, ← Vals.length r2]; exact hz)
    exact ep_frz I (Vals.append r1 r2) (by rw [List.length_append]; exact hz) (q2 hx fun w => z ((Vals.nil_iff r2).mpr w))
/-! t[a:b] -/
def rSlN (K : PySem.W.Frag) : V → Option Int → Option Int → Hp → VK → Prop := fun x lo hi H Q => ∃ a xs, x = V.ref a ∧ SqT K H a xs ∧ (HT.sIx xs.length 0 lo = 0 ∧ HT.sIx xs.length xs.length hi = xs.length → Q (V.ref a) H) ∧ (¬(HT.sIx xs.length 0 lo = 0 ∧ HT.sIx xs.length xs.length hi = xs.length) → NewT H (cutV xs lo hi) Q)
theorem sl_tupN : SlR X (rSlN X.K) := by
  intro pins s σ H x v vl vu lo hi sl Q I rx hs pl pu h
  obtain ⟨a, xs, rfl, hx, q1, q2⟩ := h
  cases rx
  obtain ⟨its, r, ht, hz⟩ := Inv.tuple I hx
  have hl : its.toArray.size = xs.length := by rw [List.size_toArray, ← Vals.length r]
  refine ⟨"tuple", "tuple.__getitem__", slot_tuple_getitem.lookup, IsTup.typeIs ht, ?_⟩
  by_cases hw : HT.sIx xs.length 0 lo = 0 ∧ HT.sIx xs.length xs.length hi = xs.length
  · exact getItem_tuple_whole ht hs pl pu (by rw [hl]; exact hw) ⟨V.ref a, H, I, rfl, q1 hw⟩
  · refine HT.getItem_tuple_cut ht hs pl pu (by rw [hl]; exact hw) ?_ (by rw [hl]; exact hz)
    rw [hl]
    exact ep_frz I (its := List.take (HT.sIx xs.length xs.length hi - HT.sIx xs.length 0 lo) (List.drop (HT.sIx xs.length 0 lo) its)) (Vals.take _ (Vals.drop _ r)) (Nat.le_trans (cutV_length xs lo hi) hz) (q2 hw)
/-! divmod -/
def rDivmodN : List V → Hp → VK → Prop := fun xs H Q => ∃ i j, xs = [V.int i, V.int j] ∧ CDiv i j ∧ NewT H [V.int (i / j), V.int (i % j)] Q
theorem call_divmodN : CallR X (.builtin "divmod") rDivmodN := by
  intro pins s σ H xs us Q I r h
  obtain ⟨i, j, rfl, ⟨h1, h2⟩, q⟩ := h
  obtain ⟨u, w', rfl, ⟨t, rfl⟩, ⟨t', rfl⟩⟩ := L2.vals2 r
  refine divmod_int (by omega) ?_ (.inl (PyProof.noPylong_small (by omega)))
  rw [Int.fdiv_eq_ediv_of_nonneg i (by omega), Int.fmod_eq_emod_of_nonneg i (by omega)]
  exact ep_frz I (its := [Value.int (i / j) s.toks, Value.int (i % j) (s.toks + 1)]) (xs := [V.int (i / j), V.int (i % j)]) (.cons ⟨s.toks, rfl⟩ (.cons ⟨s.toks + 1, rfl⟩ .nil)) (by rw [sizeLine_eq]; show 2 ≤ 16777216; decide) q
/-! xs[::-1] -/
def tRevN (K : PySem.W.Frag) (te : TE) : TE := fun σ H Q => te σ H fun x H1 => ∃ a xs, x = .ref a ∧ ((SqL K H1 a xs ∧ ∀ p, H1 p = none → Q (.ref p) (upd H1 p (.lst xs.reverse))) ∨ (SqT K H1 a xs ∧ NewT H1 xs.reverse Q))
/-! t.index(x) of data -/
def rIndexT (K : PySem.W.Frag) : V → List V → Hp → VK → Prop := fun x xs H Q => ∃ (a : Addr) (y : V) (d : PyData) (ds : List PyData) (ys : List V) (j : Nat) (z : PyData), x = V.ref a ∧ xs = [y] ∧ SqT K H a ys ∧ DpAll K H ys ds ∧ Dp K H y d ∧ PyData.canLayAll0 ds = true ∧ SeqAt.shaped d = true ∧ ds[j]? = some z ∧ PyData.eqv z d = true ∧ (∀ (m : Nat) (z' : PyData), m < j → ds[m]? = some z' → PyData.eqv z' d = false) ∧ Q (V.int (j : Nat)) H
theorem mt_indexT (hu : X.A.units + 65 < cLine) : MtR X "tuple.index" (rIndexT X.K) := by
  intro pins s σ H x xs v us Q I rx rxs h
  obtain ⟨a, y, d, ds, ys, j, z, rfl, rfl, ha, hds, hd, hl, sd, hz, hzj, hno, q⟩ := h
  cases rx
  obtain ⟨b, rfl, rb⟩ := L2.vals1 rxs
  obtain ⟨its, rv, ht, hsz⟩ := Inv.tuple I ha
  obtain ⟨as, hr⟩ := Dp.readsAll I ds ys its hds rv
  obtain ⟨bs, hb⟩ := Dp.reads I d y b hd rb
  have hmap := SeqAt.readsAll_map ds its as hl hr
  have hlen : its.length = ds.length := by rw [← hmap, List.length_map]
  have hjd : j < ds.length := (List.getElem?_eq_some_iff.mp hz).1
  have hj : j < its.toArray.size := by rw [List.size_toArray]; omega
  have at_ : ∀ (m : Nat) (hm : m < its.toArray.size) (w : PyData), ds[m]? = some w → SeqAt.readOf s.heap its.toArray[m] = w := fun m hm w hw => by
    rw [← hmap, List.getElem?_map] at hw
    have hm' : m < its.length := by rw [List.size_toArray] at hm; exact hm
    rw [List.getElem?_eq_getElem hm'] at hw
    simpa using hw
  obtain ⟨o, ho, hc, n, hdt⟩ := ht
  obtain ⟨oc, od, odt, osl⟩ := o
  simp only at hc hdt
  subst hc
  subst hdt
  refine call_meets F.slot_tuple_index ⟨_, ho, rfl⟩ F.entry_tuple_index (F.args_tuple_index_2 (Value.ref a) b) (TI.tuple_indexAt a its.toArray n od osl b (fun u => (SeqAt.readOf s.heap u).eqv d) j hj (by rw [at_ j hj z hz]; exact hzj) fun m hm hmj => ?_) ⟨ho, SeqAt.items_eqAt (by simpa using hr) hb hl (SeqAt.canLay_of_shaped sd) (room_in_shaped sd hu), V.int j, H, Inv.tok I (s.toks + 1), ⟨s.toks, rfl⟩, q⟩
  have hmd : m < ds.length := by omega
  have hz' := List.getElem?_eq_getElem hmd
  show (SeqAt.readOf s.heap its.toArray[m]).eqv d = false
  rw [at_ m hm _ hz']
  exact hno m _ hmj hz'
/-- a method of a tuple made in the run -/
def tBMN (r : V → List V → Hp → VK → Prop) (to : TE) (t : TA) : TE := fun σ H Q => to σ H fun x H1 => (∃ p ys, x = .ref p ∧ NT H1 p ys) ∧ t σ H1 fun xs H2 => r x xs H2 Q
theorem nt_is {pins : List (Addr × Obj)} {σ : L2.St} {H : Hp} {s : Shared} {p : Addr} {ys : List V} (I : L2.Inv X pins σ H s) (h : NT H p ys) : s.TypeIs (.ref p) "tuple" ∧ ∀ a, Value.ref p = Value.ref a → ∃ ob, s.heap.get? a = some ob ∧ ob.dict = none := by
  obtain ⟨ob, hp, hd⟩ := h
  obtain ⟨h1, h2⟩ : s.heap.get? p = some ob ∧ ObjOk X.prog X.w H s.heap p (.tup ys) := I.hok p _ hp
  obtain ⟨_, its, _, ht⟩ := h2
  exact ⟨IsTup.typeIs ht, fun a e => by cases e; exact ⟨ob, h1, hd⟩⟩
theorem pe_bmN {o e : Expr} {es : List Expr} {to : TE} {t : TA} {name : Str} {apos cpos : Pos} {id : String} {r : V → List V → Hp → VK → Prop} (pa : PlainAttrs "tuple") (slot : PySem.Slot "tuple" name id) (hty : typeOf (Value.builtin id) = pure (Value.type "method_descriptor")) (hm : MtR X id r) (ho : PE X o to) (ha : PA X (e :: es) t)
    (hbase : attributeBase o name X.env (eval o X.env) = eval o X.env := by first | rfl | decide)
    (hfew : ((((backTo cpos (starEach (e :: es) X.env)).all fun x => !x.1) && (backToKw cpos (keywordEach [] X.env)).all fun x => x.1.isSome) && decide ((e :: es).length + ([] : List Keyword).length + (if ([] : List Keyword).isEmpty = true then 0 else 1) < 30)) = true := by rfl)
    (hline : (apos.endLine == cpos.line) = true := by decide) (hs : starEach (e :: es) X.env = (false, eval e X.env) :: starEach es X.env := by rfl) (hplain : ((backTo cpos (starEach es X.env)).any fun x => x.1) = false := by rfl) :
    PE X (.Call (.Attribute o name apos) (e :: es) [] cpos) (tBMN r to t) := ⟨fun pins s σ H Q I h => by
  refine wpAny_Call_method_late hbase hfew hline rfl (thn (ho.run pins s σ H _ I h) fun v s1 hh => ?_)
  obtain ⟨x, H1, I1, r1, ⟨p, ys, rfl, hn⟩, q1⟩ := hh
  cases r1
  obtain ⟨h1, h2⟩ := nt_is I1 hn
  refine ⟨"tuple", id, pa, slot, hty, h1, h2, ?_⟩
  have hA := ha.run cpos pins s1 σ H1 (fun xs H2 => r (.ref p) xs H2 Q) I1 q1
  rw [hs] at hA ⊢
  refine Calls.callWith_builtin (by show (false || (backTo cpos (starEach es X.env)).any (fun x => x.1)) = false; rw [hplain]; rfl) (Calls.evalArgs_plain (thn hA fun us s2 hh2 => ?_))
  obtain ⟨vs, H2, I2, r2, q2⟩ := hh2
  exact hm pins s2 σ H2 (.ref p) vs (.ref p) us Q I2 rfl r2 q2⟩
end
end Vf
end

section
set_option Elab.async false
set_option linter.all false
set_option maxRecDepth 100000
/-! A functional reading of the program's defs: states by slots, values as data. -/
namespace Vf
open PySem PySem.Spec PyProof.Rows L2

/-! ### data that never changes -/
mutual
def imm : PyData → Bool
  | .none => true
  | .bool _ => true
  | .int _ => true
  | .str _ => true
  | .tuple xs => immAll xs
  | .list _ => false
  | .dict _ => false
def immAll : List PyData → Bool
  | [] => true
  | d :: r => imm d && immAll r
end
theorem immAll_iff : ∀ {ds : List PyData}, immAll ds = true ↔ ∀ d ∈ ds, imm d = true
  | [] => by simp [immAll]
  | d :: r => by simp [immAll, immAll_iff (ds := r)]

/-- all but what M has is kept; a code's table may grow -/
def Frm (M : Addr → Prop) (H H' : Hp) : Prop := ∀ b o, H b = some o →
  (M b → ∃ xs, H' b = some (.lst xs)) ∧ (¬ M b → H' b = some o ∨ ∃ ps ps' : Array Value, o = .tbl ps ∧ H' b = some (.tbl ps') ∧ (TriplesOk ps.toList → TriplesOk ps'.toList))
abbrev Grow (H H' : Hp) : Prop := Frm (fun _ => False) H H'
/-- M's are lists -/
def Lsts (M : Addr → Prop) (H : Hp) : Prop := ∀ b, M b → ∃ xs, H b = some (.lst xs)
theorem Frm.refl {M : Addr → Prop} {H : Hp} (h : Lsts M H) : Frm M H H := fun b o e => ⟨fun m => h b m, fun _ => .inl e⟩
theorem Grow.refl {H : Hp} : Grow H H := fun b o e => ⟨fun m => m.elim, fun _ => .inl e⟩
theorem Frm.dom {M : Addr → Prop} {H H' : Hp} (f : Frm M H H') {b : Addr} (h : H' b = none) : H b = none := by
  cases e : H b with
  | none => rfl
  | some o =>
    obtain ⟨a, c⟩ := f b o e
    by_cases m : M b
    · obtain ⟨xs, q⟩ := a m; rw [h] at q; cases q
    · rcases c m with q | ⟨_, _, _, q, _⟩ <;> (rw [h] at q; cases q)
theorem Frm.keep {M : Addr → Prop} {H H' : Hp} (f : Frm M H H') {b : Addr} {o : HO} (e : H b = some o) (m : ¬ M b) (t : ∀ ps, o ≠ .tbl ps) : H' b = some o := by
  rcases (f b o e).2 m with q | ⟨ps, _, z, _⟩
  · exact q
  · exact absurd z (t ps)
theorem Frm.lst {M : Addr → Prop} {H H' : Hp} (f : Frm M H H') {b : Addr} {xs : List V} (e : H b = some (.lst xs)) (m : ¬ M b) : H' b = some (.lst xs) := f.keep e m fun _ z => by cases z
/-- one after another: what the second may change, the first may, or it is new -/
theorem Frm.trans {M M' : Addr → Prop} {H H1 H2 : Hp} (f : Frm M H H1) (g : Frm M' H1 H2) (h : ∀ b, M' b → M b ∨ H b = none) (hl : ∀ b, M b → ¬ M' b → ∀ xs, H1 b = some (.lst xs) → ∃ ys, H2 b = some (.lst ys)) : Frm M H H2 := fun b o e => by
  obtain ⟨a, c⟩ := f b o e
  refine ⟨fun m => ?_, fun m => ?_⟩
  · obtain ⟨xs, q⟩ := a m
    by_cases m' : M' b
    · exact (g b _ q).1 m'
    · exact hl b m m' xs q
  · have m' : ¬ M' b := fun z => by
      rcases h b z with q | q
      · exact m q
      · rw [q] at e; cases e
    rcases c m with q | ⟨ps, ps', z, q, k⟩
    · rcases (g b o q).2 m' with q' | q'
      · exact .inl q'
      · exact .inr q'
    · rcases (g b _ q).2 m' with q' | ⟨p1, p2, z2, q', k'⟩
      · exact .inr ⟨ps, ps', z, q', k⟩
      · cases z2
        exact .inr ⟨ps, p2, z, q', fun t => k' (k t)⟩
theorem Frm.same {M : Addr → Prop} {H H1 H2 : Hp} (f : Frm M H H1) (g : Frm M H1 H2) : Frm M H H2 := f.trans g (fun _ m => .inl m) fun _ m n => absurd m n
theorem Frm.grow {M : Addr → Prop} {H H1 H2 : Hp} (f : Frm M H H1) (g : Grow H1 H2) : Frm M H H2 := f.trans g (fun _ m => m.elim) fun b _ _ xs q => ⟨xs, g.lst q fun z => z⟩
theorem Grow.frm {M : Addr → Prop} {H H1 : Hp} (hl : Lsts M H) (g : Grow H H1) : Frm M H H1 := (Frm.refl hl).grow g
/-- a smaller set -/
theorem Frm.mono {M M' : Addr → Prop} {H H' : Hp} (f : Frm M H H') (h : ∀ b, M b → M' b) (hl : Lsts M' H) : Frm M' H H' := fun b o e => by
  refine ⟨fun m' => ?_, fun m' => (f b o e).2 fun z => m' (h b z)⟩
  by_cases m : M b
  · exact (f b o e).1 m
  · obtain ⟨xs, q⟩ := hl b m'
    exact ⟨xs, f.lst q m⟩
theorem Frm.lsts {M : Addr → Prop} {H H' : Hp} (f : Frm M H H') (h : Lsts M H) : Lsts M H' := fun b m => by
  obtain ⟨xs, q⟩ := h b m
  exact (f b _ q).1 m
theorem Grow.new {H : Hp} {p : Addr} {o : HO} (h : H p = none) : Grow H (upd H p o) := fun b u e => ⟨fun z => z.elim, fun _ => .inl (by rw [upd_ne (ne_of_none e h)]; exact e)⟩
/-- a list that M has, or a new one, is written -/
theorem Frm.put {M : Addr → Prop} {H : Hp} {p : Addr} {xs : List V} (hl : Lsts M H) (m : M p) : Frm M H (upd H p (.lst xs)) := fun b o e => by
  by_cases z : b = p
  · subst z
    exact ⟨fun _ => ⟨xs, upd_same⟩, fun n => absurd m n⟩
  · refine ⟨fun mb => ?_, fun _ => .inl (by rw [upd_ne z]; exact e)⟩
    rw [upd_ne z]
    exact hl b mb
/-- .. one that stood not ahead -/
theorem Frm.put_new {M : Addr → Prop} {H H1 : Hp} {p : Addr} {o : HO} (f : Frm M H H1) (hn : H p = none) (hm : ¬ M p) : Frm M H (upd H1 p o) := fun b u e => by
  have z : b ≠ p := ne_of_none e hn
  rw [upd_ne z]
  exact f b u e

/-- tuples stand -/
def Tk (H H' : Hp) : Prop := ∀ a o, (∃ xs, o = .tup xs) ∨ (∃ ob xs, o = .frz ob (.tup xs)) → H a = some o → H' a = some o
theorem Frm.tk {M : Addr → Prop} {H H' : Hp} (f : Frm M H H') (hl : Lsts M H) : Tk H H' := fun a o k r => by
  refine f.keep r (fun m => ?_) fun ps z => by
    subst z
    rcases k with ⟨_, k⟩ | ⟨_, _, k⟩ <;> cases k
  obtain ⟨ys, q⟩ := hl a m
  rw [r] at q
  cases q
  rcases k with ⟨_, k⟩ | ⟨_, _, k⟩ <;> cases k
theorem Tk.refl {H : Hp} : Tk H H := fun _ _ _ r => r
theorem Tk.trans {H H1 H2 : Hp} (a : Tk H H1) (b : Tk H1 H2) : Tk H H2 := fun x o k r => b x o k (a x o k r)
theorem Tk.upd {H : Hp} {p : Addr} {xs : List V} {o : HO} (e : H p = some (.lst xs)) : Tk H (upd H p o) := fun a u k r => by
  have z : a ≠ p := fun z => by
    subst z
    rw [e] at r
    cases r
    rcases k with ⟨_, k⟩ | ⟨_, _, k⟩ <;> cases k
  rw [upd_ne z]
  exact r
theorem Tk.rd {H H' : Hp} (t : Tk H H') (a : Addr) (xs : List V) (r : Rd H a (.tup xs)) : Rd H' a (.tup xs) := by
  rcases r with r | ⟨o, r⟩
  · exact .inl (t a _ (.inl ⟨xs, rfl⟩) r)
  · exact .inr ⟨o, t a _ (.inr ⟨o, xs, rfl⟩) r⟩
theorem Tk.nt {H H' : Hp} (t : Tk H H') {a : Addr} {xs : List V} (r : NT H a xs) : NT H' a xs := by
  obtain ⟨ob, r, d⟩ := r
  exact ⟨ob, t a _ (.inr ⟨ob, xs, rfl⟩) r, d⟩
theorem Grow.tk {H H' : Hp} (g : Grow H H') : Tk H H' := Frm.tk g fun _ z => z.elim

/-! data whose tuples are made in the run, their dict none -/
mutual
inductive Dn (K : PySem.W.Frag) : Hp → V → PyData → Prop
  | non {H : Hp} : Dn K H .non .none
  | bl {H : Hp} (b : Bool) : Dn K H (.bl b) (.bool b)
  | int {H : Hp} (i : Int) : Dn K H (.int i) (.int i)
  | str {H : Hp} (x : Str) : Dn K H (.str x) (.str x)
  | tup {H : Hp} {a : Addr} {xs : List V} {ds : List PyData} (h : NT H a xs) (k : DnAll K H xs ds) : Dn K H (.ref a) (.tuple ds)
inductive DnAll (K : PySem.W.Frag) : Hp → List V → List PyData → Prop
  | nil {H : Hp} : DnAll K H [] []
  | cons {H : Hp} {v : V} {d : PyData} {vs : List V} {ds : List PyData} (h : Dn K H v d) (k : DnAll K H vs ds) : DnAll K H (v :: vs) (d :: ds)
end
section
variable {K : PySem.W.Frag}
mutual
theorem Dn.tk {H H' : Hp} (t : Tk H H') : ∀ {v : V} {d : PyData}, Dn K H v d → Dn K H' v d
  | _, _, .non => .non
  | _, _, .bl b => .bl b
  | _, _, .int i => .int i
  | _, _, .str x => .str x
  | _, _, .tup h k => .tup (t.nt h) (DnAll.tk t k)
theorem DnAll.tk {H H' : Hp} (t : Tk H H') : ∀ {vs : List V} {ds : List PyData}, DnAll K H vs ds → DnAll K H' vs ds
  | _, _, .nil => .nil
  | _, _, .cons h k => .cons (Dn.tk t h) (DnAll.tk t k)
end
mutual
theorem Dn.dp {H : Hp} : ∀ {v : V} {d : PyData}, Dn K H v d → Dp K H v d
  | _, _, .non => .non
  | _, _, .bl b => .bl b
  | _, _, .int i => .int i
  | _, _, .str x => .str x
  | _, _, .tup h k => .tup (.inl h.rd) (DnAll.dp k)
theorem DnAll.dp {H : Hp} : ∀ {vs : List V} {ds : List PyData}, DnAll K H vs ds → DpAll K H vs ds
  | _, _, .nil => .nil
  | _, _, .cons h k => .cons (Dn.dp h) (DnAll.dp k)
end
end

/-- a value of data that never changes -/
def Im (K : PySem.W.Frag) (H : Hp) (v : V) (d : PyData) : Prop := imm d = true ∧ Dn K H v d
def ImAll (K : PySem.W.Frag) (H : Hp) (vs : List V) (ds : List PyData) : Prop := immAll ds = true ∧ DnAll K H vs ds
section
variable {K : PySem.W.Frag} {H H' : Hp} {v : V} {vs us : List V} {d : PyData} {ds es : List PyData}
theorem Im.tk (t : Tk H H') (h : Im K H v d) : Im K H' v d := ⟨h.1, Dn.tk t h.2⟩
theorem ImAll.tk (t : Tk H H') (h : ImAll K H vs ds) : ImAll K H' vs ds := ⟨h.1, DnAll.tk t h.2⟩
theorem ImAll.nil : ImAll K H [] [] := ⟨rfl, .nil⟩
theorem ImAll.cons (h : Im K H v d) (k : ImAll K H vs ds) : ImAll K H (v :: vs) (d :: ds) := ⟨by simp [immAll, h.1, k.1], .cons h.2 k.2⟩
theorem ImAll.uncons (h : ImAll K H (v :: vs) (d :: ds)) : Im K H v d ∧ ImAll K H vs ds := by
  obtain ⟨a, b⟩ := h
  simp only [immAll, Bool.and_eq_true] at a
  cases b with
  | cons b c => exact ⟨⟨a.1, b⟩, ⟨a.2, c⟩⟩
theorem ImAll.length : ∀ {vs : List V} {ds : List PyData}, ImAll K H vs ds → vs.length = ds.length := by
  intro vs
  induction vs with
  | nil => intro ds h; obtain ⟨_, b⟩ := h; cases b; rfl
  | cons v vs ih =>
    intro ds h
    cases ds with
    | nil => obtain ⟨_, b⟩ := h; cases b
    | cons d ds => simp [ih h.uncons.2]
theorem ImAll.append : ∀ {vs : List V} {ds : List PyData}, ImAll K H vs ds → ImAll K H us es → ImAll K H (vs ++ us) (ds ++ es) := by
  intro vs
  induction vs with
  | nil => intro ds h k; obtain ⟨_, b⟩ := h; cases b; exact k
  | cons v vs ih =>
    intro ds h k
    cases ds with
    | nil => obtain ⟨_, b⟩ := h; cases b
    | cons d ds => exact .cons h.uncons.1 (ih h.uncons.2 k)
theorem ImAll.get : ∀ {vs : List V} {ds : List PyData} {i : Nat} {d : PyData}, ImAll K H vs ds → ds[i]? = some d → ∃ v, vs[i]? = some v ∧ Im K H v d := by
  intro vs
  induction vs with
  | nil => intro ds i d h e; obtain ⟨_, b⟩ := h; cases b; simp at e
  | cons v vs ih =>
    intro ds i d h e
    cases ds with
    | nil => simp at e
    | cons d' ds =>
      cases i with
      | zero => simp at e; subst e; exact ⟨v, rfl, h.uncons.1⟩
      | succ i => simp at e; simpa using ih h.uncons.2 e
theorem ImAll.getV {i : Nat} {v : V} (h : ImAll K H vs ds) (e : vs[i]? = some v) : ∃ d, ds[i]? = some d ∧ Im K H v d := by
  have hl := h.length
  obtain ⟨hi, _⟩ := List.getElem?_eq_some_iff.mp e
  have hd : ds[i]? = some ds[i] := List.getElem?_eq_getElem (by omega)
  obtain ⟨u, e2, k⟩ := h.get hd
  rw [e] at e2
  cases e2
  exact ⟨_, hd, k⟩
theorem ImAll.single (h : Im K H v d) : ImAll K H [v] [d] := .cons h .nil
theorem ImAll.of_get : ∀ {vs : List V} {ds : List PyData}, vs.length = ds.length → (∀ (i : Nat) (v : V) (d : PyData), vs[i]? = some v → ds[i]? = some d → Im K H v d) → ImAll K H vs ds := by
  intro vs
  induction vs with
  | nil => intro ds h _; cases ds with | nil => exact .nil | cons _ _ => simp at h
  | cons v vs ih =>
    intro ds h k
    cases ds with
    | nil => simp at h
    | cons d ds => exact .cons (k 0 v d rfl rfl) (ih (by simpa using h) fun i v d a b => k (i + 1) v d (by simpa using a) (by simpa using b))
theorem ImAll.take : ∀ {vs : List V} {ds : List PyData}, ImAll K H vs ds → ∀ n : Nat, ImAll K H (vs.take n) (ds.take n) := by
  intro vs
  induction vs with
  | nil => intro ds h n; obtain ⟨_, b⟩ := h; cases b; simpa using ImAll.nil
  | cons v vs ih =>
    intro ds h n
    cases ds with
    | nil => obtain ⟨_, b⟩ := h; cases b
    | cons d ds =>
      cases n with
      | zero => exact .nil
      | succ n => exact .cons h.uncons.1 (ih h.uncons.2 n)
theorem ImAll.drop : ∀ {vs : List V} {ds : List PyData}, ImAll K H vs ds → ∀ n : Nat, ImAll K H (vs.drop n) (ds.drop n) := by
  intro vs
  induction vs with
  | nil => intro ds h n; obtain ⟨_, b⟩ := h; cases b; simpa using ImAll.nil
  | cons v vs ih =>
    intro ds h n
    cases ds with
    | nil => obtain ⟨_, b⟩ := h; cases b
    | cons d ds =>
      cases n with
      | zero => exact h
      | succ n => exact ih h.uncons.2 n
theorem ImAll.set {x : V} {y : PyData} (h : ImAll K H vs ds) (hx : Im K H x y) (n : Nat) : ImAll K H (vs.set n x) (ds.set n y) := by
  have hl := h.length
  refine .of_get (by simp [hl]) fun i v d a b => ?_
  rw [List.getElem?_set] at a b
  by_cases z : n = i
  · subst z
    simp only [if_true] at a b
    split at a
    · rename_i hi
      rw [if_pos (by omega)] at b
      cases a; cases b; exact hx
    · cases a
  · rw [if_neg z] at a b
    obtain ⟨d', e, k⟩ := h.getV a
    rw [e] at b; cases b; exact k
theorem ImAll.reverse (h : ImAll K H vs ds) : ImAll K H vs.reverse ds.reverse := by
  have hl := h.length
  refine .of_get (by simp [hl]) fun i v d a b => ?_
  have hi : i < vs.length := by
    have := (List.getElem?_eq_some_iff.mp a).1
    simpa using this
  rw [List.getElem?_reverse hi] at a
  rw [List.getElem?_reverse (by omega)] at b
  obtain ⟨d', e, k⟩ := h.getV a
  rw [← hl] at b
  rw [e] at b; cases b; exact k
end
end Vf
end

section
set_option Elab.async false
set_option linter.all false
set_option maxRecDepth 100000
namespace Vf
open PySem PySem.Spec PyProof.Rows L2

/-! ### states -/
inductive Slot where
  | em | im (d : PyData) | ow (ds : List PyData) | io (ds : List PyData) | bo (ds : List PyData)
abbrev Gm := List Slot
inductive Val where
  | im (d : PyData) | nw (ds : List PyData) | sl (i : Nat)
abbrev Ex := Nat × List PyData
abbrev M (α : Type) := Gm → Option (Gm × Except Ex α)
def M.pure {α : Type} (a : α) : M α := fun Γ => some (Γ, .ok a)
def bnd {α β : Type} (f : M α) (g : α → M β) : M β := fun Γ => match f Γ with
  | none => none
  | some (Γ', .ok a) => g a Γ'
  | some (Γ', .error e) => some (Γ', .error e)

def muS : Slot → Bool
  | .ow _ => true
  | .io _ => true
  | _ => false
def Mu (Γ : Gm) (σ : L2.St) (p : Addr) : Prop := ∃ (i : Nat) (s : Slot), Γ[i]? = some s ∧ muS s = true ∧ σ[i]? = some (some (.ref p))
def SlotOk (K : PySem.W.Frag) (H : Hp) (s : Slot) (x : Option V) : Prop := match s with
  | .em => True
  | .im d => ∃ v, x = some v ∧ Im K H v d
  | .ow ds => ∃ p vs, x = some (.ref p) ∧ H p = some (.lst vs) ∧ ImAll K H vs ds
  | .io ds => ∃ p vs, x = some (.ref p) ∧ H p = some (.lst vs) ∧ ImAll K H vs ds
  | .bo ds => ∃ p vs, x = some (.ref p) ∧ Rd H p (.lst vs) ∧ ImAll K H vs ds
/-- the lists that a caller hands over, by slot; the tables of code that are known -/
class Tabs where
  ps : List Addr
variable [Tabs]
structure Ctl where
  io : Nat → Addr → Prop
instance : CoeFun Ctl (fun _ => Nat → Addr → Prop) := ⟨Ctl.io⟩
def IOp (IO : Ctl) (p : Addr) : Prop := ∃ j, IO j p
structure StOk (K : PySem.W.Frag) (H0 : Hp) (IO : Ctl) (Γ : Gm) (σ : L2.St) (H : Hp) : Prop where
  len : Γ.length = σ.length
  ok : ∀ (i : Nat) (s : Slot) (x : Option V), Γ[i]? = some s → σ[i]? = some x → SlotOk K H s x
  uniq : ∀ (i j : Nat) (s t : Slot) (p : Addr), Γ[i]? = some s → muS s = true → σ[i]? = some (some (.ref p)) → Γ[j]? = some t → muS t = true → σ[j]? = some (some (.ref p)) → i = j
  bosep : ∀ (i : Nat) (ds : List PyData) (p : Addr), Γ[i]? = some (.bo ds) → σ[i]? = some (some (.ref p)) → ¬ Mu Γ σ p
  fresh : ∀ (i : Nat) (ds : List PyData) (p : Addr), Γ[i]? = some (.ow ds) → σ[i]? = some (some (.ref p)) → H0 p = none
  ioA : ∀ (j : Nat) (p : Addr), IO j p → σ[j]? = some (some (.ref p)) ∧ ∃ ds, Γ[j]? = some (.io ds)
  ioB : ∀ (j : Nat) (ds : List PyData) (p : Addr), Γ[j]? = some (.io ds) → σ[j]? = some (some (.ref p)) → IO j p
  ioL : Lsts (IOp IO) H0 ∧ ∀ P ∈ Tabs.ps, GxR.TabG H0 P
  frm : Frm (IOp IO) H0 H

section
variable {K : PySem.W.Frag} {H0 H H' Hs : Hp} {IO : Ctl} {Γ Γ' Γ1 Γ2 : Gm} {σ : L2.St}
theorem StOk.sig (h : StOk K H0 IO Γ σ H) {i : Nat} {s : Slot} (e : Γ[i]? = some s) : ∃ x, σ[i]? = some x ∧ SlotOk K H s x := by
  have hi := (List.getElem?_eq_some_iff.mp e).1
  have hx : σ[i]? = some (σ[i]'(by rw [← h.len]; exact hi)) := List.getElem?_eq_getElem (by rw [← h.len]; exact hi)
  exact ⟨_, hx, h.ok i s _ e hx⟩
theorem StOk.mus (h : StOk K H0 IO Γ σ H) {i : Nat} {s : Slot} (e : Γ[i]? = some s) (m : muS s = true) : ∃ p vs ds, σ[i]? = some (some (.ref p)) ∧ H p = some (.lst vs) ∧ ImAll K H vs ds ∧ Mu Γ σ p ∧ (s = .ow ds ∨ s = .io ds) := by
  obtain ⟨x, hx, k⟩ := h.sig e
  cases s with
  | ow ds => obtain ⟨p, vs, rfl, a, b⟩ := k; exact ⟨p, vs, ds, hx, a, b, ⟨i, _, e, rfl, hx⟩, .inl rfl⟩
  | io ds => obtain ⟨p, vs, rfl, a, b⟩ := k; exact ⟨p, vs, ds, hx, a, b, ⟨i, _, e, rfl, hx⟩, .inr rfl⟩
  | em => simp [muS] at m
  | im d => simp [muS] at m
  | bo ds => simp [muS] at m
theorem StOk.lsts (h : StOk K H0 IO Γ σ H) : Lsts (Mu Γ σ) H := fun p ⟨i, s, e, m, x⟩ => by
  obtain ⟨q, vs, _, x', a, _⟩ := h.mus e m
  rw [x] at x'
  cases x'
  exact ⟨vs, a⟩
theorem StOk.tabG (h : StOk K H0 IO Γ σ H) {P : Addr} (hP : P ∈ Tabs.ps) : GxR.TabG H P := by
  obtain ⟨ps, e, k⟩ := h.ioL.2 P hP
  rcases (h.frm P _ e).2 (fun m => by obtain ⟨xs, z⟩ := h.ioL.1 P m; rw [e] at z; cases z) with q | ⟨p1, p2, z, q, k2⟩
  · exact ⟨ps, q, k⟩
  · cases z
    exact ⟨p2, q, k2 k⟩
theorem StOk.tk0 (h : StOk K H0 IO Γ σ H) : Tk H0 H := h.frm.tk h.ioL.1

/-- only the contents of the lists differ -/
def SlD (s s' : Slot) : Prop := s' = s ∨ (∃ ds ds', s = .ow ds ∧ s' = .ow ds') ∨ ∃ ds ds', s = .io ds ∧ s' = .io ds'
structure Shp (Γ Γ' : Gm) : Prop where
  len : Γ'.length = Γ.length
  at_ : ∀ (i : Nat) (s s' : Slot), Γ[i]? = some s → Γ'[i]? = some s' → SlD s s'
theorem SlD.refl {s : Slot} : SlD s s := .inl rfl
theorem SlD.mu {s s' : Slot} (h : SlD s s') : muS s' = muS s := by
  rcases h with rfl | ⟨_, _, rfl, rfl⟩ | ⟨_, _, rfl, rfl⟩ <;> rfl
theorem SlD.trans {s s' s'' : Slot} (a : SlD s s') (b : SlD s' s'') : SlD s s'' := by
  rcases a with rfl | ⟨d, e, rfl, rfl⟩ | ⟨d, e, rfl, rfl⟩
  · exact b
  · rcases b with rfl | ⟨_, _, _, rfl⟩ | ⟨_, _, z, _⟩
    · exact .inr (.inl ⟨_, _, rfl, rfl⟩)
    · exact .inr (.inl ⟨_, _, rfl, rfl⟩)
    · cases z
  · rcases b with rfl | ⟨_, _, z, _⟩ | ⟨_, _, _, rfl⟩
    · exact .inr (.inr ⟨_, _, rfl, rfl⟩)
    · cases z
    · exact .inr (.inr ⟨_, _, rfl, rfl⟩)
theorem Shp.refl : Shp Γ Γ := ⟨rfl, fun i s s' a b => by rw [a] at b; cases b; exact .refl⟩
theorem get_of_len {α β : Type} {l : List α} {l' : List β} {i : Nat} {s : β} (hl : l.length = l'.length) (e : l'[i]? = some s) : ∃ t, l[i]? = some t :=
  ⟨_, List.getElem?_eq_getElem (show i < l.length by rw [hl]; exact (List.getElem?_eq_some_iff.mp e).1)⟩
theorem Shp.trans (a : Shp Γ Γ1) (b : Shp Γ1 Γ2) : Shp Γ Γ2 := ⟨b.len.trans a.len, fun i s s' x y => by
  obtain ⟨t, z⟩ := get_of_len (l := Γ1) (i := i) (by rw [b.len]) y
  exact (a.at_ i s t x z).trans (b.at_ i t s' z y)⟩
theorem Shp.fwd (a : Shp Γ Γ') {i : Nat} {s : Slot} (e : Γ[i]? = some s) : ∃ s', Γ'[i]? = some s' ∧ SlD s s' := by
  obtain ⟨t, z⟩ := get_of_len (l := Γ') (i := i) (by rw [a.len]) e
  exact ⟨t, z, a.at_ i s t e z⟩
theorem Shp.bwd (a : Shp Γ Γ') {i : Nat} {s' : Slot} (e : Γ'[i]? = some s') : ∃ s, Γ[i]? = some s ∧ SlD s s' := by
  obtain ⟨t, z⟩ := get_of_len (l := Γ) (i := i) (by rw [a.len]) e
  exact ⟨t, z, a.at_ i t s' z e⟩
theorem Shp.mu (a : Shp Γ Γ') {p : Addr} : Mu Γ' σ p ↔ Mu Γ σ p := by
  constructor
  · rintro ⟨i, s, e, m, x⟩
    obtain ⟨t, z, d⟩ := a.bwd e
    exact ⟨i, t, z, by rw [← d.mu]; exact m, x⟩
  · rintro ⟨i, s, e, m, x⟩
    obtain ⟨t, z, d⟩ := a.fwd e
    exact ⟨i, t, z, by rw [d.mu]; exact m, x⟩
theorem Shp.muE (a : Shp Γ Γ') : Mu Γ' σ = Mu Γ σ := funext fun _ => propext a.mu

/-- behind an expression -/
structure EPost (K : PySem.W.Frag) (H0 : Hp) (IO : Ctl) (Γ : Gm) (σ : L2.St) (H : Hp) (Γ' : Gm) (H' : Hp) : Prop where
  st : StOk K H0 IO Γ' σ H'
  frm : Frm (Mu Γ σ) H H'
  shp : Shp Γ Γ'
theorem EPost.refl (h : StOk K H0 IO Γ σ H) : EPost K H0 IO Γ σ H Γ H := ⟨h, .refl h.lsts, .refl⟩
theorem EPost.trans {H1 H2 : Hp} (a : EPost K H0 IO Γ σ H Γ1 H1) (b : EPost K H0 IO Γ1 σ H1 Γ2 H2) : EPost K H0 IO Γ σ H Γ2 H2 :=
  ⟨b.st, a.frm.same (by rw [← a.shp.muE]; exact b.frm), a.shp.trans b.shp⟩
/-- all kept: the state stands -/
theorem StOk.grow (h : StOk K H0 IO Γ σ H) (g : Grow H H') : StOk K H0 IO Γ σ H' where
  len := h.len
  ok := fun i s x e e2 => by
    have k := h.ok i s x e e2
    have t := g.tk
    have keepL : ∀ {p : Addr} {vs : List V}, Rd H p (.lst vs) → Rd H' p (.lst vs) := fun {p vs} r => by
      rcases r with r | ⟨o, r⟩
      · exact .inl (g.lst r fun z => z)
      · exact .inr ⟨o, g.keep r (fun z => z) fun _ z => by cases z⟩
    cases s with
    | em => trivial
    | im d => obtain ⟨v, a, b⟩ := k; exact ⟨v, a, b.tk t⟩
    | ow ds => obtain ⟨p, vs, a, b, c⟩ := k; exact ⟨p, vs, a, g.lst b fun z => z, c.tk t⟩
    | io ds => obtain ⟨p, vs, a, b, c⟩ := k; exact ⟨p, vs, a, g.lst b fun z => z, c.tk t⟩
    | bo ds => obtain ⟨p, vs, a, b, c⟩ := k; exact ⟨p, vs, a, keepL b, c.tk t⟩
  uniq := h.uniq
  bosep := h.bosep
  fresh := h.fresh
  ioA := h.ioA
  ioB := h.ioB
  ioL := h.ioL
  frm := h.frm.grow g
theorem EPost.grow (h : StOk K H0 IO Γ σ H) (g : Grow H H') : EPost K H0 IO Γ σ H Γ H' := ⟨h.grow g, g.frm h.lsts, .refl⟩

/-! ### values -/
def isL : Slot → Bool
  | .ow _ => true
  | .io _ => true
  | .bo _ => true
  | _ => false
def VOk (K : PySem.W.Frag) (Hs : Hp) (Γ : Gm) (σ : L2.St) (H : Hp) (v : Val) (x : V) : Prop := match v with
  | .im d => Im K H x d
  | .nw ds => ∃ p vs, x = .ref p ∧ H p = some (.lst vs) ∧ ImAll K H vs ds ∧ Hs p = none
  | .sl i => ∃ s, Γ[i]? = some s ∧ isL s = true ∧ σ[i]? = some (some x)
theorem SlD.isL {s s' : Slot} (h : SlD s s') : isL s' = isL s := by
  rcases h with rfl | ⟨_, _, rfl, rfl⟩ | ⟨_, _, rfl, rfl⟩ <;> rfl
/-- a value stays, whatever is reckoned behind it -/
theorem VOk.stay {H1 H2 : Hp} {v : Val} {x : V} (h : VOk K Hs Γ1 σ H1 v x) (hs : StOk K H0 IO Γ1 σ H1) (hd : Lsts (Mu Γ1 σ) Hs) (p : EPost K H0 IO Γ1 σ H1 Γ2 H2) : VOk K Hs Γ2 σ H2 v x := by
  have t := p.frm.tk hs.lsts
  cases v with
  | im d => exact Im.tk t h
  | nw ds =>
    obtain ⟨q, vs, rfl, a, b, c⟩ := h
    refine ⟨q, vs, rfl, p.frm.lst a (fun m => ?_), b.tk t, c⟩
    obtain ⟨xs, z⟩ := hd q m
    rw [c] at z; cases z
  | sl i =>
    obtain ⟨s, a, b, c⟩ := h
    obtain ⟨s', a', d⟩ := p.shp.fwd a
    exact ⟨s', a', by rw [d.isL]; exact b, c⟩
/-- from a later start to an earlier one -/
theorem VOk.back {v : Val} {x : V} {H1 : Hp} (h : VOk K H1 Γ σ H v x) (f : ∀ b, H1 b = none → Hs b = none) : VOk K Hs Γ σ H v x := by
  cases v with
  | im d => exact h
  | nw ds => obtain ⟨q, vs, a, b, c, d⟩ := h; exact ⟨q, vs, a, b, c, f _ d⟩
  | sl i => exact h
def VOkAll (K : PySem.W.Frag) (Hs : Hp) (Γ : Gm) (σ : L2.St) (H : Hp) : List Val → List V → Prop := Paired (VOk K Hs Γ σ H)
theorem VOkAll.stay {H1 H2 : Hp} {vs : List Val} {xs : List V} (h : VOkAll K Hs Γ1 σ H1 vs xs) (hs : StOk K H0 IO Γ1 σ H1) (hd : Lsts (Mu Γ1 σ) Hs) (p : EPost K H0 IO Γ1 σ H1 Γ2 H2) : VOkAll K Hs Γ2 σ H2 vs xs :=
  Paired.mapP h fun _ _ k => k.stay hs hd p
theorem VOkAll.back {vs : List Val} {xs : List V} {H1 : Hp} (h : VOkAll K H1 Γ σ H vs xs) (f : ∀ b, H1 b = none → Hs b = none) : VOkAll K Hs Γ σ H vs xs := Paired.mapP h fun _ _ k => k.back f

/-- what data a value is -/
def rdv (Γ : Gm) : Val → Option PyData
  | .im d => some d
  | .nw ds => some (.list ds)
  | .sl i => match Γ[i]? with
    | some (.ow ds) => some (.list ds)
    | some (.io ds) => some (.list ds)
    | some (.bo ds) => some (.list ds)
    | _ => none
def rdvs (Γ : Gm) : List Val → Option (List PyData)
  | [] => some []
  | v :: r => match rdv Γ v, rdvs Γ r with
    | some d, some ds => some (d :: ds)
    | _, _ => none
def toV : PyData → Val
  | .list ds => .nw ds
  | .none => .im .none
  | .bool b => .im (.bool b)
  | .int i => .im (.int i)
  | .str s => .im (.str s)
  | .tuple ds => .im (.tuple ds)
  | .dict kvs => .im (.dict kvs)
/-- x is to be read as d -/
def Rp (K : PySem.W.Frag) (H : Hp) (x : V) : PyData → Prop
  | .list ds => ∃ p vs, x = .ref p ∧ Rd H p (.lst vs) ∧ ImAll K H vs ds
  | .none => Im K H x .none
  | .bool b => Im K H x (.bool b)
  | .int i => Im K H x (.int i)
  | .str s => Im K H x (.str s)
  | .tuple ds => Im K H x (.tuple ds)
  | .dict kvs => Im K H x (.dict kvs)
theorem Rp.im {x : V} {d : PyData} (h : Im K H x d) : Rp K H x d := by
  cases d with
  | list ds => obtain ⟨a, _⟩ := h; simp [imm] at a
  | _ => exact h
/-- x is d, and if d is a list it is new -/
def New (K : PySem.W.Frag) (H H' : Hp) (x : V) : PyData → Prop
  | .list ds => ∃ p vs, x = .ref p ∧ H p = none ∧ H' p = some (.lst vs) ∧ ImAll K H' vs ds
  | .none => Im K H' x .none
  | .bool b => Im K H' x (.bool b)
  | .int i => Im K H' x (.int i)
  | .str s => Im K H' x (.str s)
  | .tuple ds => Im K H' x (.tuple ds)
  | .dict kvs => Im K H' x (.dict kvs)
theorem New.im {x : V} {d : PyData} (h : Im K H' x d) : New K H H' x d := by
  cases d with
  | list ds => obtain ⟨a, _⟩ := h; simp [imm] at a
  | _ => exact h
theorem New.vok {x : V} {d : PyData} (h : New K H H' x d) (f : ∀ b, H b = none → Hs b = none) : VOk K Hs Γ σ H' (toV d) x := by
  cases d with
  | list ds => obtain ⟨p, vs, a, b, c, e⟩ := h; exact ⟨p, vs, a, c, e, f _ b⟩
  | _ => exact h
theorem VOk.rp {v : Val} {x : V} {d : PyData} (h : VOk K Hs Γ σ H v x) (hs : StOk K H0 IO Γ σ H) (e : rdv Γ v = some d) : Rp K H x d := by
  cases v with
  | im d' => simp [rdv] at e; subst e; exact Rp.im h
  | nw ds =>
    simp [rdv] at e; subst e
    obtain ⟨p, vs, a, b, c, _⟩ := h
    exact ⟨p, vs, a, .inl b, c⟩
  | sl i =>
    obtain ⟨s, a, b, c⟩ := h
    have k := hs.ok i s _ a c
    simp only [rdv, a] at e
    cases s with
    | em => simp [isL] at b
    | im d => simp [isL] at b
    | ow ds => cases e; obtain ⟨p, vs, a, b, c⟩ := k; exact ⟨p, vs, Option.some.inj a, .inl b, c⟩
    | io ds => cases e; obtain ⟨p, vs, a, b, c⟩ := k; exact ⟨p, vs, Option.some.inj a, .inl b, c⟩
    | bo ds => cases e; obtain ⟨p, vs, a, b, c⟩ := k; exact ⟨p, vs, Option.some.inj a, b, c⟩
abbrev RpAll (K : PySem.W.Frag) (H : Hp) : List V → List PyData → Prop := Paired (Rp K H)
theorem VOkAll.rp {vs : List Val} {xs : List V} (h : VOkAll K Hs Γ σ H vs xs) (hs : StOk K H0 IO Γ σ H) : ∀ {ds : List PyData}, rdvs Γ vs = some ds → RpAll K H xs ds := by
  induction h with
  | nil => intro ds e; simp [rdvs] at e; subst e; exact .nil
  | cons k _ ih =>
    intro ds e
    simp only [rdvs] at e
    split at e
    · rename_i d es h1 h2
      cases e
      exact .cons (k.rp hs h1) (ih h2)
    · cases e

/-! ### the judgements -/
def EE (K : PySem.W.Frag) (W : Ex → L2.St → Hp → Prop) (H0 : Hp) (IO : Ctl) (Γ : Gm) (σ : L2.St) (H : Hp) (Γ' : Gm) (r : Except Ex Val) (Q : VK) : Prop := match r with
  | .ok v => ∀ x H', EPost K H0 IO Γ σ H Γ' H' → VOk K H Γ' σ H' v x → Q x H'
  | .error e => ∀ H', EPost K H0 IO Γ σ H Γ' H' → W e σ H'
def EB (K : PySem.W.Frag) (W : Ex → L2.St → Hp → Prop) (H0 : Hp) (IO : Ctl) (Γ : Gm) (σ : L2.St) (H : Hp) (Γ' : Gm) (r : Except Ex Bool) (Q : Bool → Hp → Prop) : Prop := match r with
  | .ok b => ∀ H', EPost K H0 IO Γ σ H Γ' H' → Q b H'
  | .error e => ∀ H', EPost K H0 IO Γ σ H Γ' H' → W e σ H'
def EA (K : PySem.W.Frag) (W : Ex → L2.St → Hp → Prop) (H0 : Hp) (IO : Ctl) (Γ : Gm) (σ : L2.St) (H : Hp) (Γ' : Gm) (r : Except Ex (List Val)) (Q : List V → Hp → Prop) : Prop := match r with
  | .ok vs => ∀ xs H', EPost K H0 IO Γ σ H Γ' H' → VOkAll K H Γ' σ H' vs xs → Q xs H'
  | .error e => ∀ H', EPost K H0 IO Γ σ H Γ' H' → W e σ H'
/-- an expression's reading does what f says; W: what is wanted where it raises -/
structure RefT (K : PySem.W.Frag) (W : Ex → L2.St → Hp → Prop) (t : TE) (f : M Val) : Prop where
  run : ∀ (H0 : Hp) (IO : Ctl) (Γ : Gm) (σ : L2.St) (H : Hp) (Γ' : Gm) (r : Except Ex Val) (Q : VK), StOk K H0 IO Γ σ H → f Γ = some (Γ', r) →
    EE K W H0 IO Γ σ H Γ' r Q → t σ H Q
structure RefB (K : PySem.W.Frag) (W : Ex → L2.St → Hp → Prop) (t : TT) (f : M Bool) : Prop where
  run : ∀ (H0 : Hp) (IO : Ctl) (Γ : Gm) (σ : L2.St) (H : Hp) (Γ' : Gm) (r : Except Ex Bool) (Q : Bool → Hp → Prop), StOk K H0 IO Γ σ H → f Γ = some (Γ', r) →
    EB K W H0 IO Γ σ H Γ' r Q → t σ H Q
structure RefA (K : PySem.W.Frag) (W : Ex → L2.St → Hp → Prop) (t : TA) (f : M (List Val)) : Prop where
  run : ∀ (H0 : Hp) (IO : Ctl) (Γ : Gm) (σ : L2.St) (H : Hp) (Γ' : Gm) (r : Except Ex (List Val)) (Q : List V → Hp → Prop), StOk K H0 IO Γ σ H → f Γ = some (Γ', r) →
    EA K W H0 IO Γ σ H Γ' r Q → t σ H Q
variable {W : Ex → L2.St → Hp → Prop} {ta tb tc : TE} {fa fb fc : M Val} {t u : TT} {ft fu : M Bool} {tA : TA} {fA : M (List Val)}

/-! ### names, constants -/
def eVar (i : Nat) : M Val := fun Γ => match Γ[i]? with
  | some (.im d) => some (Γ, .ok (.im d))
  | some (.ow _) => some (Γ, .ok (.sl i))
  | some (.io _) => some (Γ, .ok (.sl i))
  | some (.bo _) => some (Γ, .ok (.sl i))
  | _ => none
def eC (d : PyData) : M Val := M.pure (.im d)
theorem rt_var (i : Nat) : RefT K W (tVar i) (eVar i) := ⟨fun H0 IO Γ σ H Γ' r Q hs e hQ => by
  simp only [eVar] at e
  cases q : Γ[i]? with
  | none => rw [q] at e; cases e
  | some s =>
    rw [q] at e
    obtain ⟨x, hx, k⟩ := hs.sig q
    cases s with
    | em => cases e
    | im d =>
      cases e
      obtain ⟨v, rfl, k⟩ := k
      exact ⟨v, hx, hQ v H (.refl hs) k⟩
    | ow ds => cases e; obtain ⟨p, vs, rfl, _⟩ := k; exact ⟨_, hx, hQ _ H (.refl hs) ⟨_, q, rfl, hx⟩⟩
    | io ds => cases e; obtain ⟨p, vs, rfl, _⟩ := k; exact ⟨_, hx, hQ _ H (.refl hs) ⟨_, q, rfl, hx⟩⟩
    | bo ds => cases e; obtain ⟨p, vs, rfl, _⟩ := k; exact ⟨_, hx, hQ _ H (.refl hs) ⟨_, q, rfl, hx⟩⟩⟩
theorem rt_c {v : V} {d : PyData} (h : ∀ H, Im K H v d) : RefT K W (tC v) (eC d) := ⟨fun H0 IO Γ σ H Γ' r Q hs e hQ => by
  cases e
  exact hQ v H (.refl hs) (h H)⟩
theorem rt_int {i : Int} : RefT K W (tC (.int i)) (eC (.int i)) := rt_c fun H => ⟨rfl, .int i⟩
theorem rt_str {x : Str} : RefT K W (tC (.str x)) (eC (.str x)) := rt_c fun H => ⟨rfl, .str x⟩
theorem rt_bl {b : Bool} : RefT K W (tC (.bl b)) (eC (.bool b)) := rt_c fun H => ⟨rfl, .bl b⟩
theorem rt_non : RefT K W (tC .non) (eC .none) := rt_c fun H => ⟨rfl, .non⟩

/-! ### composing -/
/-- one expression behind another: what follows is shown with both values -/
theorem bnd_ok {α β : Type} {f : M α} {g : α → M β} {Γ Γ' : Gm} {r : Except Ex β} (e : bnd f g Γ = some (Γ', r)) :
    (∃ Γ1 a, f Γ = some (Γ1, .ok a) ∧ g a Γ1 = some (Γ', r)) ∨ (∃ x, f Γ = some (Γ', .error x) ∧ r = .error x) := by
  unfold bnd at e
  split at e
  · cases e
  · rename_i Γ1 a h
    exact .inl ⟨Γ1, a, h, e⟩
  · rename_i Γ1 x h
    cases e
    exact .inr ⟨x, h, rfl⟩
theorem RefT.then {H0 : Hp} {IO : Ctl} {Γ Γ' : Gm} {σ : L2.St} {H : Hp} {β : Type} {g : Val → M β} {r : Except Ex β} {Q : VK} (ha : RefT K W ta fa) (hs : StOk K H0 IO Γ σ H) (e : bnd fa g Γ = some (Γ', r))
    (hx : ∀ x H', r = .error x → EPost K H0 IO Γ σ H Γ' H' → W x σ H')
    (hQ : ∀ Γ1 v x H1, g v Γ1 = some (Γ', r) → EPost K H0 IO Γ σ H Γ1 H1 → VOk K H Γ1 σ H1 v x → Q x H1) : ta σ H Q := by
  rcases bnd_ok e with ⟨Γ1, v, h1, h2⟩ | ⟨x, h1, h2⟩
  · exact ha.run H0 IO Γ σ H Γ1 (.ok v) Q hs h1 fun x H1 p k => hQ Γ1 v x H1 h2 p k
  · exact ha.run H0 IO Γ σ H Γ' (.error x) Q hs h1 fun H1 p => hx x H1 h2 p
theorem RefB.then {H0 : Hp} {IO : Ctl} {Γ Γ' : Gm} {σ : L2.St} {H : Hp} {β : Type} {g : Bool → M β} {r : Except Ex β} {Q : Bool → Hp → Prop} (ha : RefB K W t ft) (hs : StOk K H0 IO Γ σ H) (e : bnd ft g Γ = some (Γ', r))
    (hx : ∀ x H', r = .error x → EPost K H0 IO Γ σ H Γ' H' → W x σ H')
    (hQ : ∀ Γ1 b H1, g b Γ1 = some (Γ', r) → EPost K H0 IO Γ σ H Γ1 H1 → Q b H1) : t σ H Q := by
  rcases bnd_ok e with ⟨Γ1, v, h1, h2⟩ | ⟨x, h1, h2⟩
  · exact ha.run H0 IO Γ σ H Γ1 (.ok v) Q hs h1 fun H1 p => hQ Γ1 v H1 h2 p
  · exact ha.run H0 IO Γ σ H Γ' (.error x) Q hs h1 fun H1 p => hx x H1 h2 p
theorem RefA.then {H0 : Hp} {IO : Ctl} {Γ Γ' : Gm} {σ : L2.St} {H : Hp} {β : Type} {g : List Val → M β} {r : Except Ex β} {Q : List V → Hp → Prop} (ha : RefA K W tA fA) (hs : StOk K H0 IO Γ σ H) (e : bnd fA g Γ = some (Γ', r))
    (hx : ∀ x H', r = .error x → EPost K H0 IO Γ σ H Γ' H' → W x σ H')
    (hQ : ∀ Γ1 vs xs H1, g vs Γ1 = some (Γ', r) → EPost K H0 IO Γ σ H Γ1 H1 → VOkAll K H Γ1 σ H1 vs xs → Q xs H1) : tA σ H Q := by
  rcases bnd_ok e with ⟨Γ1, v, h1, h2⟩ | ⟨x, h1, h2⟩
  · exact ha.run H0 IO Γ σ H Γ1 (.ok v) Q hs h1 fun xs H1 p k => hQ Γ1 v xs H1 h2 p k
  · exact ha.run H0 IO Γ σ H Γ' (.error x) Q hs h1 fun H1 p => hx x H1 h2 p
/-- the end of an expression that lays something new -/
theorem EPost.fin {H1 H2 : Hp} (p : EPost K H0 IO Γ σ H Γ1 H1) (g : Grow H1 H2) : EPost K H0 IO Γ σ H Γ1 H2 := p.trans (.grow p.st g)
theorem EPost.dom {H1 : Hp} (p : EPost K H0 IO Γ σ H Γ1 H1) {b : Addr} (h : H1 b = none) : H b = none := p.frm.dom h
theorem EPost.lsts {H1 : Hp} (p : EPost K H0 IO Γ σ H Γ1 H1) (hs : StOk K H0 IO Γ σ H) : Lsts (Mu Γ1 σ) H := by
  rw [p.shp.muE]
  exact hs.lsts

/-! ### operators -/
def OpSem2 (K : PySem.W.Frag) (r : R2) (g : PyData → PyData → Option PyData) : Prop := ∀ (H : Hp) (x y : V) (d e z : PyData), Rp K H x d → Rp K H y e → g d e = some z → ∀ Q : VK, (∀ x' H', Grow H H' → New K H H' x' z → Q x' H') → r x y H Q
def eOp2 (g : PyData → PyData → Option PyData) (fa fb : M Val) : M Val := bnd fa fun v => bnd fb fun u => fun Γ => match rdv Γ v, rdv Γ u with
  | some d, some e => match g d e with
    | some z => some (Γ, .ok (toV z))
    | none => none
  | _, _ => none
theorem rt_op2 {r : R2} {g : PyData → PyData → Option PyData} (ho : OpSem2 K r g) (ha : RefT K W ta fa) (hb : RefT K W tb fb) : RefT K W (tOp r ta tb) (eOp2 g fa fb) := ⟨fun H0 IO Γ σ H Γ' rr Q hs e hQ => by
  refine ha.then hs e (fun x H' h p => by subst h; exact hQ H' p) fun Γ1 v x H1 e1 p1 k1 => ?_
  refine hb.then p1.st e1 (fun x H' h p => by subst h; exact hQ H' (p1.trans p)) fun Γ2 u y H2 e2 p2 k2 => ?_
  try dsimp only at e2
  split at e2
  · rename_i d d' h1 h2
    split at e2
    · rename_i z h3
      cases e2
      have k1' := k1.stay p1.st (p1.lsts hs) p2
      refine ho H2 x y d d' z (k1'.rp p2.st h1) (k2.rp p2.st h2) h3 Q fun x' H3 g3 n3 => ?_
      exact hQ x' H3 ((p1.trans p2).fin g3) (n3.vok fun b hb => (p1.trans p2).dom hb)
    · cases e2
  · cases e2⟩
def OpSem1 (K : PySem.W.Frag) (r : V → Hp → VK → Prop) (g : PyData → Option PyData) : Prop := ∀ (H : Hp) (x : V) (d z : PyData), Rp K H x d → g d = some z → ∀ Q : VK, (∀ x' H', Grow H H' → New K H H' x' z → Q x' H') → r x H Q
def eOp1 (g : PyData → Option PyData) (fa : M Val) : M Val := bnd fa fun v => fun Γ => match rdv Γ v with
  | some d => match g d with
    | some z => some (Γ, .ok (toV z))
    | none => none
  | none => none
theorem rt_op1 {r : V → Hp → VK → Prop} {g : PyData → Option PyData} (ho : OpSem1 K r g) (ha : RefT K W ta fa) : RefT K W (tUn r ta) (eOp1 g fa) := ⟨fun H0 IO Γ σ H Γ' rr Q hs e hQ => by
  refine ha.then hs e (fun x H' h p => by subst h; exact hQ H' p) fun Γ1 v x H1 e1 p1 k1 => ?_
  try dsimp only at e1
  split at e1
  · rename_i d h1
    split at e1
    · rename_i z h3
      cases e1
      refine ho H1 x d z (k1.rp p1.st h1) h3 Q fun x' H3 g3 n3 => ?_
      exact hQ x' H3 (p1.fin g3) (n3.vok fun b hb => p1.dom hb)
    · cases e1
  · cases e1⟩

/-! ### arguments -/
def aNil : M (List Val) := M.pure []
def aCons (fa : M Val) (fr : M (List Val)) : M (List Val) := bnd fa fun v => bnd fr fun vs => M.pure (v :: vs)
theorem ra_nil : RefA K W tNil aNil := ⟨fun H0 IO Γ σ H Γ' rr Q hs e hQ => by
  cases e
  exact hQ [] H (.refl hs) .nil⟩
theorem ra_cons (ha : RefT K W ta fa) (hr : RefA K W tA fA) : RefA K W (tCons ta tA) (aCons fa fA) := ⟨fun H0 IO Γ σ H Γ' rr Q hs e hQ => by
  refine ha.then hs e (fun x H' h p => by subst h; exact hQ H' p) fun Γ1 v x H1 e1 p1 k1 => ?_
  refine hr.then p1.st e1 (fun x H' h p => by subst h; exact hQ H' (p1.trans p)) fun Γ2 vs xs H2 e2 p2 k2 => ?_
  cases e2
  exact hQ (x :: xs) H2 (p1.trans p2) (.cons (k1.stay p1.st (p1.lsts hs) p2) (k2.back fun b hb => p1.dom hb))⟩

/-! ### calls of builtins, by data -/
def CallSem (K : PySem.W.Frag) (r : List V → Hp → VK → Prop) (g : List PyData → Option PyData) : Prop := ∀ (H : Hp) (xs : List V) (ds : List PyData) (z : PyData), RpAll K H xs ds → g ds = some z → ∀ Q : VK, (∀ x' H', Grow H H' → New K H H' x' z → Q x' H') → r xs H Q
def eCB (g : List PyData → Option PyData) (fA : M (List Val)) : M Val := bnd fA fun vs => fun Γ => match rdvs Γ vs with
  | some ds => match g ds with
    | some z => some (Γ, .ok (toV z))
    | none => none
  | none => none
theorem rt_cb {r : List V → Hp → VK → Prop} {g : List PyData → Option PyData} (ho : CallSem K r g) (ha : RefA K W tA fA) : RefT K W (tCB r tA) (eCB g fA) := ⟨fun H0 IO Γ σ H Γ' rr Q hs e hQ => by
  refine ha.then hs e (fun x H' h p => by subst h; exact hQ H' p) fun Γ1 vs xs H1 e1 p1 k1 => ?_
  try dsimp only at e1
  split at e1
  · rename_i ds h1
    split at e1
    · rename_i z h3
      cases e1
      refine ho H1 xs ds z (k1.rp p1.st h1) h3 Q fun x' H3 g3 n3 => ?_
      exact hQ x' H3 (p1.fin g3) (n3.vok fun b hb => p1.dom hb)
    · cases e1
  · cases e1⟩
/-- a method of a text or a tuple, by data: the object is the first -/
def MethSem (K : PySem.W.Frag) (r : V → List V → Hp → VK → Prop) (g : PyData → List PyData → Option PyData) : Prop := ∀ (H : Hp) (x : V) (xs : List V) (d : PyData) (ds : List PyData) (z : PyData), Rp K H x d → RpAll K H xs ds → g d ds = some z → ∀ Q : VK, (∀ x' H', Grow H H' → New K H H' x' z → Q x' H') → r x xs H Q

/-! ### displays -/
def ims : List Val → Option (List PyData)
  | [] => some []
  | .im d :: r => match ims r with
    | some ds => some (d :: ds)
    | none => none
  | _ :: _ => none
theorem ims_ok {vs : List Val} {xs : List V} (h : VOkAll K Hs Γ σ H vs xs) : ∀ {ds : List PyData}, ims vs = some ds → ImAll K H xs ds := by
  induction h with
  | nil => intro ds e; simp [ims] at e; subst e; exact .nil
  | cons k _ ih =>
    rename_i v x r q _
    intro ds e
    cases v with
    | im d =>
      simp only [ims] at e
      split at e
      · rename_i es h2
        cases e
        exact .cons k (ih h2)
      · cases e
    | nw _ => simp [ims] at e
    | sl _ => simp [ims] at e
def bigL : Nat := 16777216
theorem bigL_eq : bigL = sizeLine := sizeLine_eq.symm
def eTup (fA : M (List Val)) : M Val := bnd fA fun vs => fun Γ => match ims vs with
  | some ds => if ds.length ≤ 1000000 then some (Γ, .ok (.im (.tuple ds))) else none
  | none => none
def eLst (fA : M (List Val)) : M Val := bnd fA fun vs => fun Γ => match ims vs with
  | some ds => if ds.length ≤ 1000000 then some (Γ, .ok (.nw ds)) else none
  | none => none
theorem size_ok {n : Nat} (h : n ≤ 1000000) : n ≤ sizeLine := by rw [sizeLine_eq]; omega
theorem size_lt {n : Nat} (h : n ≤ 1000000) : n < sizeLine := by rw [sizeLine_eq]; omega
theorem im_tup {p : Addr} {vs : List V} {ds : List PyData} (h : NT H p vs) (k : ImAll K H vs ds) : Im K H (.ref p) (.tuple ds) := ⟨by simp [imm, k.1], .tup h k.2⟩
theorem nt_new {p : Addr} {xs : List V} {ob : Obj} (hd : ob.dict = none) : NT (upd H p (.frz ob (.tup xs))) p xs := ⟨ob, upd_same, hd⟩
theorem rt_tup (ha : RefA K W tA fA) : RefT K W (tTupN tA) (eTup fA) := ⟨fun H0 IO Γ σ H Γ' rr Q hs e hQ => by
  refine ha.then hs e (fun x H' h p => by subst h; exact hQ H' p) fun Γ1 vs xs H1 e1 p1 k1 => ?_
  try dsimp only at e1
  split at e1
  · rename_i ds h1
    split at e1
    · rename_i hl
      cases e1
      have k := ims_ok k1 h1
      refine ⟨by rw [k.length]; exact size_ok hl, fun p ob hp hd => ?_⟩
      have g := Grow.new (o := HO.frz ob (.tup xs)) hp
      exact hQ _ _ (p1.fin g) (im_tup (nt_new hd) (k.tk g.tk))
    · cases e1
  · cases e1⟩
theorem rt_lst (ha : RefA K W tA fA) : RefT K W (tLst tA) (eLst fA) := ⟨fun H0 IO Γ σ H Γ' rr Q hs e hQ => by
  refine ha.then hs e (fun x H' h p => by subst h; exact hQ H' p) fun Γ1 vs xs H1 e1 p1 k1 => ?_
  try dsimp only at e1
  split at e1
  · rename_i ds h1
    split at e1
    · rename_i hl
      cases e1
      have k := ims_ok k1 h1
      refine ⟨by rw [k.length]; exact size_ok hl, fun p hp => ?_⟩
      have g := Grow.new (o := HO.lst xs) hp
      exact hQ _ _ (p1.fin g) ⟨p, xs, rfl, upd_same, k.tk g.tk, p1.dom hp⟩
    · cases e1
  · cases e1⟩

/-! ### tests -/
def bNot (f : M Bool) : M Bool := bnd f fun b => M.pure (!b)
def bAnd (f g : M Bool) : M Bool := bnd f fun b => if b then g else M.pure false
def bOr (f g : M Bool) : M Bool := bnd f fun b => if b then M.pure true else g
/-- an expression that gives a bool, as a test -/
def bVal (f : M Val) : M Bool := bnd f fun v => fun Γ => match v with
  | .im (.bool b) => some (Γ, .ok b)
  | _ => none
theorem im_bl {x : V} {b : Bool} (h : Im K H x (.bool b)) : x = .bl b := by obtain ⟨_, h⟩ := h; cases h; rfl
theorem im_int {x : V} {i : Int} (h : Im K H x (.int i)) : x = .int i := by obtain ⟨_, h⟩ := h; cases h; rfl
theorem im_str {x : V} {i : Str} (h : Im K H x (.str i)) : x = .str i := by obtain ⟨_, h⟩ := h; cases h; rfl
theorem im_non {x : V} (h : Im K H x .none) : x = .non := by obtain ⟨_, h⟩ := h; cases h; rfl
theorem im_tuple {x : V} {ds : List PyData} (h : Im K H x (.tuple ds)) : ∃ p vs, x = .ref p ∧ SqT K H p vs ∧ ImAll K H vs ds := by
  obtain ⟨a, h⟩ := h
  cases h with
  | tup h k => exact ⟨_, _, rfl, .inl h.rd, by simpa [imm] using a, k⟩
theorem im_tupleN {x : V} {ds : List PyData} (h : Im K H x (.tuple ds)) : ∃ p vs, x = .ref p ∧ NT H p vs ∧ ImAll K H vs ds := by
  obtain ⟨a, h⟩ := h
  cases h with
  | tup h k => exact ⟨_, _, rfl, h, by simpa [imm] using a, k⟩
theorem rb_test (h : RefT K W ta fa) : RefB K W (tTest ta) (bVal fa) := ⟨fun H0 IO Γ σ H Γ' rr Q hs e hQ => by
  refine h.then hs e (fun x H' h p => by subst h; exact hQ H' p) fun Γ1 v x H1 e1 p1 k1 => ?_
  try dsimp only at e1
  split at e1
  · rename_i b
    cases e1
    exact ⟨b, im_bl k1, hQ H1 p1⟩
  · cases e1⟩
theorem rb_B (h : RefT K W ta fa) : RefB K W (tB ta) (bVal fa) := rb_test h
theorem rb_not (h : RefB K W t ft) : RefB K W (tNot t) (bNot ft) := ⟨fun H0 IO Γ σ H Γ' rr Q hs e hQ => by
  refine h.then hs e (fun x H' h p => by subst h; exact hQ H' p) fun Γ1 b H1 e1 p1 => ?_
  cases e1
  exact hQ H1 p1⟩
theorem rb_and (h : RefB K W t ft) (k : RefB K W u fu) : RefB K W (tAnd t u) (bAnd ft fu) := ⟨fun H0 IO Γ σ H Γ' rr Q hs e hQ => by
  refine h.then hs e (fun x H' h p => by subst h; exact hQ H' p) fun Γ1 b H1 e1 p1 => ?_
  cases b with
  | true =>
    rw [if_pos rfl] at e1 ⊢
    refine k.run H0 IO Γ1 σ H1 Γ' rr Q p1.st e1 ?_
    cases rr with
    | ok b => exact fun H' p => hQ H' (p1.trans p)
    | error x => exact fun H' p => hQ H' (p1.trans p)
  | false =>
    rw [if_neg Bool.false_ne_true] at e1 ⊢
    cases e1
    exact hQ H1 p1⟩
theorem rb_or (h : RefB K W t ft) (k : RefB K W u fu) : RefB K W (tOr t u) (bOr ft fu) := ⟨fun H0 IO Γ σ H Γ' rr Q hs e hQ => by
  refine h.then hs e (fun x H' h p => by subst h; exact hQ H' p) fun Γ1 b H1 e1 p1 => ?_
  cases b with
  | false =>
    rw [if_neg Bool.false_ne_true] at e1 ⊢
    refine k.run H0 IO Γ1 σ H1 Γ' rr Q p1.st e1 ?_
    cases rr with
    | ok b => exact fun H' p => hQ H' (p1.trans p)
    | error x => exact fun H' p => hQ H' (p1.trans p)
  | true =>
    rw [if_pos rfl] at e1 ⊢
    cases e1
    exact hQ H1 p1⟩
/-- truth of any value -/
def truD : PyData → Option Bool
  | .none => some false
  | .bool b => some b
  | .int i => some (i != 0)
  | .str s => if s.length ≤ 1000000 then some ((s.length : Int) != 0) else none
  | .list ds => some (!ds.isEmpty)
  | .tuple ds => some (!ds.isEmpty)
  | .dict _ => none
def bTru (f : M Val) : M Bool := bnd f fun v => fun Γ => match rdv Γ v with
  | some d => match truD d with
    | some b => some (Γ, .ok b)
    | none => none
  | none => none
theorem isEmpty_im {vs : List V} {ds : List PyData} (h : ImAll K H vs ds) : vs.isEmpty = ds.isEmpty := by
  have := h.length
  cases vs <;> cases ds <;> simp_all
theorem rb_tru (h : RefT K W ta fa) : RefB K W (fun σ H Q => ta σ H fun x H' => ∃ k, TruV K x H' k ∧ Q k H') (bTru fa) := ⟨fun H0 IO Γ σ H Γ' rr Q hs e hQ => by
  refine h.then hs e (fun x H' h p => by subst h; exact hQ H' p) fun Γ1 v x H1 e1 p1 k1 => ?_
  try dsimp only at e1
  split at e1
  · rename_i d h1
    split at e1
    · rename_i b h2
      cases e1
      refine ⟨b, ?_, hQ H1 p1⟩
      have k := k1.rp p1.st h1
      cases d with
      | none => cases h2; rw [im_non k]; rfl
      | bool b => cases h2; rw [im_bl k]; rfl
      | int i => cases h2; rw [im_int k]; rfl
      | str z =>
        rw [im_str k]
        simp only [truD] at h2
        split at h2
        · rename_i hl
          cases h2
          exact ⟨size_ok hl, rfl⟩
        · cases h2
      | list ds =>
        obtain ⟨p, vs, rfl, a, c⟩ := k
        cases h2
        exact .inl ⟨vs, .inl a, by rw [isEmpty_im c]⟩
      | tuple ds =>
        obtain ⟨p, vs, rfl, a, c⟩ := im_tuple k
        cases h2
        exact .inr (.inl ⟨vs, a, by rw [isEmpty_im c]⟩)
      | dict _ => cases h2
    · cases e1
  · cases e1⟩
/-- and, or of bools as values; a if t else b; not -/
def eAndV (fa fb : M Val) : M Val := bnd fa fun v => match v with
  | .im (.bool true) => fb
  | .im (.bool false) => M.pure (.im (.bool false))
  | _ => fun _ => none
def eOrV (fa fb : M Val) : M Val := bnd fa fun v => match v with
  | .im (.bool true) => M.pure (.im (.bool true))
  | .im (.bool false) => fb
  | _ => fun _ => none
def eNotV (fa : M Val) : M Val := bnd fa fun v => match v with
  | .im (.bool b) => M.pure (.im (.bool (!b)))
  | _ => fun _ => none
def eIf (ft : M Bool) (fa fb : M Val) : M Val := bnd ft fun b => if b then fa else fb
theorem RefT.tail {t : TE} {f : M Val} {H1 : Hp} {r : Except Ex Val} {Q : VK} (h : RefT K W t f) (p1 : EPost K H0 IO Γ σ H Γ1 H1) (e : f Γ1 = some (Γ', r))
    (hQ : EE K W H0 IO Γ σ H Γ' r Q) : t σ H1 Q := by
  refine h.run H0 IO Γ1 σ H1 Γ' r Q p1.st e ?_
  cases r with
  | ok v => exact fun x H' p k => hQ x H' (p1.trans p) (k.back fun b hb => p1.dom hb)
  | error x => exact fun H' p => hQ H' (p1.trans p)
theorem rt_andV (ha : RefT K W ta fa) (hb : RefT K W tb fb) : RefT K W (tAndV ta tb) (eAndV fa fb) := ⟨fun H0 IO Γ σ H Γ' rr Q hs e hQ => by
  refine ha.then hs e (fun x H' h p => by subst h; exact hQ H' p) fun Γ1 v x H1 e1 p1 k1 => ?_
  try dsimp only at e1
  split at e1
  · refine ⟨true, im_bl k1, ?_⟩
    rw [if_pos rfl]
    exact hb.tail p1 e1 hQ
  · cases e1
    refine ⟨false, im_bl k1, ?_⟩
    rw [if_neg Bool.false_ne_true]
    exact hQ _ H1 p1 ⟨rfl, .bl false⟩
  · cases e1⟩
theorem rt_orV (ha : RefT K W ta fa) (hb : RefT K W tb fb) : RefT K W (tOrV ta tb) (eOrV fa fb) := ⟨fun H0 IO Γ σ H Γ' rr Q hs e hQ => by
  refine ha.then hs e (fun x H' h p => by subst h; exact hQ H' p) fun Γ1 v x H1 e1 p1 k1 => ?_
  try dsimp only at e1
  split at e1
  · cases e1
    refine ⟨true, im_bl k1, ?_⟩
    rw [if_pos rfl]
    exact hQ _ H1 p1 ⟨rfl, .bl true⟩
  · refine ⟨false, im_bl k1, ?_⟩
    rw [if_neg Bool.false_ne_true]
    exact hb.tail p1 e1 hQ
  · cases e1⟩
theorem rt_notV (ha : RefT K W ta fa) : RefT K W (tNotV ta) (eNotV fa) := ⟨fun H0 IO Γ σ H Γ' rr Q hs e hQ => by
  refine ha.then hs e (fun x H' h p => by subst h; exact hQ H' p) fun Γ1 v x H1 e1 p1 k1 => ?_
  try dsimp only at e1
  split at e1
  · rename_i b
    cases e1
    exact ⟨b, im_bl k1, hQ _ H1 p1 ⟨rfl, .bl _⟩⟩
  · cases e1⟩
theorem rt_if (hc : RefB K W t ft) (ha : RefT K W ta fa) (hb : RefT K W tb fb) : RefT K W (tIf t ta tb) (eIf ft fa fb) := ⟨fun H0 IO Γ σ H Γ' rr Q hs e hQ => by
  refine hc.then hs e (fun x H' h p => by subst h; exact hQ H' p) fun Γ1 b H1 e1 p1 => ?_
  cases b with
  | true =>
    rw [if_pos rfl] at e1 ⊢
    exact ha.tail p1 e1 hQ
  | false =>
    rw [if_neg Bool.false_ne_true] at e1 ⊢
    exact hb.tail p1 e1 hQ⟩
end
end Vf
end

section
set_option Elab.async false
set_option linter.all false
set_option maxRecDepth 100000
namespace Vf
open PySem PySem.Spec PyProof.Rows L2
variable [Tabs]

inductive Out where
  | next | brk | cont | ret (v : Val)
abbrev MS := M Out
section
variable {K : PySem.W.Frag} {H0 H H' H1 H2 Hs : Hp} {IO : Ctl} {Γ Γ' Γ1 Γ2 : Gm} {σ σ' σ1 σ2 : L2.St}
/-- behind a statement -/
structure SPost (K : PySem.W.Frag) (H0 : Hp) (IO : Ctl) (Γ : Gm) (σ : L2.St) (H : Hp) (Γ' : Gm) (σ' : L2.St) (H' : Hp) : Prop where
  st : StOk K H0 IO Γ' σ' H'
  frm : Frm (Mu Γ σ) H H'
  mus : ∀ q, Mu Γ' σ' q → Mu Γ σ q ∨ H q = none
  bos : ∀ (i : Nat) (ds : List PyData), Γ'[i]? = some (.bo ds) → Γ[i]? = some (.bo ds) ∧ σ'[i]? = σ[i]?
theorem EPost.sp (p : EPost K H0 IO Γ σ H Γ' H') : SPost K H0 IO Γ σ H Γ' σ H' := ⟨p.st, p.frm, fun q m => .inl (p.shp.mu.mp m), fun i ds e => by
  obtain ⟨s, a, d⟩ := p.shp.bwd e
  refine ⟨?_, rfl⟩
  rcases d with z | ⟨_, _, _, z⟩ | ⟨_, _, _, z⟩
  · rw [a, ← z]
  · cases z
  · cases z⟩
theorem SPost.refl (h : StOk K H0 IO Γ σ H) : SPost K H0 IO Γ σ H Γ σ H := (EPost.refl h).sp
theorem SPost.trans (a : SPost K H0 IO Γ σ H Γ1 σ1 H1) (b : SPost K H0 IO Γ1 σ1 H1 Γ2 σ2 H2) : SPost K H0 IO Γ σ H Γ2 σ2 H2 where
  st := b.st
  frm := a.frm.trans b.frm a.mus fun q _ n xs e => ⟨xs, b.frm.lst e n⟩
  mus := fun q m => by
    rcases b.mus q m with z | z
    · exact a.mus q z
    · exact .inr (a.frm.dom z)
  bos := fun i ds e => by
    obtain ⟨x, y⟩ := b.bos i ds e
    obtain ⟨x', y'⟩ := a.bos i ds x
    exact ⟨x', y.trans y'⟩
theorem SPost.dom (p : SPost K H0 IO Γ σ H Γ1 σ1 H1) {b : Addr} (h : H1 b = none) : H b = none := p.frm.dom h

def SE (K : PySem.W.Frag) (W : Ex → L2.St → Hp → Prop) (H0 : Hp) (IO : Ctl) (Γ : Gm) (σ : L2.St) (H : Hp) (Γ' : Gm) (r : Except Ex Out) (D : Ends) : Prop := match r with
  | .ok .next => ∀ σ' H', SPost K H0 IO Γ σ H Γ' σ' H' → D.nx σ' H'
  | .ok .brk => ∀ σ' H', SPost K H0 IO Γ σ H Γ' σ' H' → D.bk σ' H'
  | .ok .cont => ∀ σ' H', SPost K H0 IO Γ σ H Γ' σ' H' → D.ct σ' H'
  | .ok (.ret v) => ∀ x σ' H', SPost K H0 IO Γ σ H Γ' σ' H' → VOk K H Γ' σ' H' v x → D.rt x H'
  | .error e => ∀ σ' H', SPost K H0 IO Γ σ H Γ' σ' H' → W e σ' H'
structure RefS (K : PySem.W.Frag) (W : Ex → L2.St → Hp → Prop) (t : TS) (f : MS) : Prop where
  run : ∀ (H0 : Hp) (IO : Ctl) (Γ : Gm) (σ : L2.St) (H : Hp) (Γ' : Gm) (r : Except Ex Out) (D : Ends), StOk K H0 IO Γ σ H → f Γ = some (Γ', r) → SE K W H0 IO Γ σ H Γ' r D → t D σ H
variable {W : Ex → L2.St → Hp → Prop} {ta tb te : TE} {fa fb fe : M Val} {tt : TT} {ft : M Bool} {t u : TS} {f g : MS}
/-- the end reached from a later start -/
theorem SE.back {r : Except Ex Out} {D : Ends} (p : SPost K H0 IO Γ σ H Γ1 σ1 H1) (h : SE K W H0 IO Γ σ H Γ' r D) : SE K W H0 IO Γ1 σ1 H1 Γ' r D := by
  cases r with
  | error e => exact fun σ' H' q => h σ' H' (p.trans q)
  | ok o =>
    cases o with
    | next => exact fun σ' H' q => h σ' H' (p.trans q)
    | brk => exact fun σ' H' q => h σ' H' (p.trans q)
    | cont => exact fun σ' H' q => h σ' H' (p.trans q)
    | ret v => exact fun x σ' H' q k => h x σ' H' (p.trans q) (k.back fun b hb => p.dom hb)
theorem SE.err {e : Ex} {D : Ends} (h : SE K W H0 IO Γ σ H Γ' (.error e) D) : ∀ H', EPost K H0 IO Γ σ H Γ' H' → W e σ H' := fun H' p => h σ H' p.sp

/-! ### plain statements -/
def sNext : MS := M.pure .next
def sBrk : MS := M.pure .brk
def sCont : MS := M.pure .cont
def sSeq (f g : MS) : MS := bnd f fun o => match o with
  | .next => g
  | o => M.pure o
theorem rs_next : RefS K W tNext sNext := ⟨fun H0 IO Γ σ H Γ' r D hs e h => by cases e; exact h σ H (.refl hs)⟩
theorem rs_brk : RefS K W tBreak sBrk := ⟨fun H0 IO Γ σ H Γ' r D hs e h => by cases e; exact h σ H (.refl hs)⟩
theorem rs_cont : RefS K W tCont sCont := ⟨fun H0 IO Γ σ H Γ' r D hs e h => by cases e; exact h σ H (.refl hs)⟩
theorem rs_seq (hf : RefS K W t f) (hg : RefS K W u g) : RefS K W (tSeq t u) (sSeq f g) := ⟨fun H0 IO Γ σ H Γ' r D hs e h => by
  show t { D with nx := u D } σ H
  rcases bnd_ok e with ⟨Γ1, o, h1, h2⟩ | ⟨x, h1, rfl⟩
  · cases o with
    | next =>
      refine hf.run H0 IO Γ σ H Γ1 (.ok .next) _ hs h1 fun σ1 H1 p => ?_
      exact hg.run H0 IO Γ1 σ1 H1 Γ' r D p.st h2 (h.back p)
    | brk => cases h2; exact hf.run H0 IO Γ σ H _ (.ok .brk) _ hs h1 fun σ1 H1 p => h σ1 H1 p
    | cont => cases h2; exact hf.run H0 IO Γ σ H _ (.ok .cont) _ hs h1 fun σ1 H1 p => h σ1 H1 p
    | ret v => cases h2; exact hf.run H0 IO Γ σ H _ (.ok (.ret v)) _ hs h1 fun x σ1 H1 p k => h x σ1 H1 p k
  · exact hf.run H0 IO Γ σ H Γ' (.error x) _ hs h1 fun σ1 H1 p => h σ1 H1 p⟩
def sDrop (fe : M Val) : MS := bnd fe fun _ => M.pure .next
theorem rs_drop (he : RefT K W te fe) : RefS K W (tDrop te) (sDrop fe) := ⟨fun H0 IO Γ σ H Γ' r D hs e h => by
  refine he.then hs e (fun x H' z p => by subst z; exact h.err H' p) fun Γ1 v x H1 e1 p1 k1 => ?_
  cases e1
  exact h σ H1 p1.sp⟩
def sRet (fe : M Val) : MS := bnd fe fun v => M.pure (.ret v)
theorem rs_ret (he : RefT K W te fe) : RefS K W (tRet te) (sRet fe) := ⟨fun H0 IO Γ σ H Γ' r D hs e h => by
  refine he.then hs e (fun x H' z p => by subst z; exact h.err H' p) fun Γ1 v x H1 e1 p1 k1 => ?_
  cases e1
  exact h x σ H1 p1.sp k1⟩
def sRetN : MS := M.pure (.ret (.im .none))
theorem rs_retN : RefS K W tRetN sRetN := ⟨fun H0 IO Γ σ H Γ' r D hs e h => by cases e; exact h .non σ H (.refl hs) ⟨rfl, .non⟩⟩
def sIf (ft : M Bool) (f g : MS) : MS := bnd ft fun b => if b then f else g
theorem rs_if (hc : RefB K W tt ft) (hf : RefS K W t f) (hg : RefS K W u g) : RefS K W (tIfS tt t u) (sIf ft f g) := ⟨fun H0 IO Γ σ H Γ' r D hs e h => by
  refine hc.then hs e (fun x H' z p => by subst z; exact h.err H' p) fun Γ1 b H1 e1 p1 => ?_
  cases b with
  | true =>
    rw [if_pos rfl] at e1 ⊢
    exact hf.run H0 IO Γ1 σ H1 Γ' r D p1.st e1 (h.back p1.sp)
  | false =>
    rw [if_neg Bool.false_ne_true] at e1 ⊢
    exact hg.run H0 IO Γ1 σ H1 Γ' r D p1.st e1 (h.back p1.sp)⟩

/-! ### a name is stored -/
def setS (i : Nat) (s : Slot) (Γ : Gm) : Option Gm := match Γ[i]? with
  | some (.io _) => none
  | some _ => some (Γ.set i s)
  | none => none
def slotOf : Val → Option Slot
  | .im d => some (.im d)
  | .nw ds => some (.ow ds)
  | .sl _ => none
theorem setS_ok {i : Nat} {s : Slot} (e : setS i s Γ = some Γ') : Γ' = Γ.set i s ∧ i < Γ.length ∧ ∀ ds, Γ[i]? ≠ some (.io ds) := by
  unfold setS at e
  split at e
  · cases e
  · rename_i s0 hn z
    cases e
    refine ⟨rfl, (List.getElem?_eq_some_iff.mp z).1, fun ds n => ?_⟩
    rw [z] at n
    cases n
    exact hn ds rfl
  · cases e
theorem set_post {i : Nat} {s : Slot} {v : Val} {x : V} (hs : StOk K H0 IO Γ σ H) (p : EPost K H0 IO Γ σ H Γ1 H1) (k : VOk K H Γ1 σ H1 v x) (e : slotOf v = some s) (e2 : setS i s Γ1 = some Γ') :
    SPost K H0 IO Γ σ H Γ' (σ.set i (some x)) H1 := by
  obtain ⟨rfl, hi, nio⟩ := setS_ok e2
  have hσ : i < σ.length := by rw [← p.st.len]; exact hi
  -- the new slot
  have new : SlotOk K H1 s (some x) ∧ (∀ q, muS s = true → x = .ref q → H q = none) ∧ (∀ ds, s ≠ .bo ds) ∧ (∀ ds, s ≠ .io ds) := by
    cases v with
    | im d => cases e; exact ⟨⟨x, rfl, k⟩, (fun q m _ => by simp [muS] at m), (fun _ z => by cases z), (fun _ z => by cases z)⟩
    | nw ds =>
      cases e
      obtain ⟨q, vs, rfl, a, b, c⟩ := k
      exact ⟨⟨q, vs, rfl, a, b⟩, (fun q' _ z => by cases z; exact c), (fun _ z => by cases z), (fun _ z => by cases z)⟩
    | sl j => cases e
  obtain ⟨n1, n2, n3, n4⟩ := new
  have other : ∀ {j : Nat} {t : Slot}, j ≠ i → (Γ1.set i s)[j]? = some t → Γ1[j]? = some t := fun {j t} hj z => by
    rw [List.getElem?_set_ne (Ne.symm hj)] at z; exact z
  have otherσ : ∀ {j : Nat} {t : Option V}, j ≠ i → (σ.set i (some x))[j]? = some t → σ[j]? = some t := fun {j t} hj z => by
    rw [List.getElem?_set_ne (Ne.symm hj)] at z; exact z
  have selfΓ : (Γ1.set i s)[i]? = some s := List.getElem?_set_self hi
  have selfσ : (σ.set i (some x))[i]? = some (some x) := List.getElem?_set_self hσ
  have mu1 : ∀ {j : Nat} {t : Slot} {q : Addr}, j ≠ i → (Γ1.set i s)[j]? = some t → muS t = true → (σ.set i (some x))[j]? = some (some (.ref q)) → H q ≠ none := fun {j t q} hj a b c => by
    obtain ⟨ys, z⟩ := (p.lsts hs) q ⟨j, t, other hj a, b, otherσ hj c⟩
    rw [z]; exact fun w => by cases w
  refine ⟨⟨by simp [p.st.len], fun j t y a b => ?_, fun j j' t t' q a1 a2 a3 b1 b2 b3 => ?_, fun j ds q a b m => ?_, fun j ds q a b => ?_, fun j q h => ?_, fun j ds q a b => ?_, p.st.ioL, p.st.frm⟩, p.frm, fun q m => ?_, fun j ds a => ?_⟩
  · by_cases hj : j = i
    · subst hj
      rw [selfΓ] at a; rw [selfσ] at b
      cases a; cases b; exact n1
    · exact p.st.ok j t y (other hj a) (otherσ hj b)
  · by_cases hj : j = i
    · subst hj
      rw [selfΓ] at a1; cases a1
      rw [selfσ] at a3
      have hq : H q = none := n2 q a2 (Option.some.inj (Option.some.inj a3))
      by_cases hj' : j' = j
      · exact hj'.symm
      · exact absurd hq (mu1 hj' b1 b2 b3)
    · by_cases hj' : j' = i
      · subst hj'
        rw [selfΓ] at b1; cases b1
        rw [selfσ] at b3
        have hq : H q = none := n2 q b2 (Option.some.inj (Option.some.inj b3))
        exact absurd hq (mu1 hj a1 a2 a3)
      · exact p.st.uniq j j' t t' q (other hj a1) a2 (otherσ hj a3) (other hj' b1) b2 (otherσ hj' b3)
  · by_cases hj : j = i
    · subst hj
      rw [selfΓ] at a; cases a
      exact n3 ds rfl
    · obtain ⟨j', t, b1, b2, b3⟩ := m
      by_cases hj' : j' = i
      · subst hj'
        rw [selfΓ] at b1; cases b1
        rw [selfσ] at b3
        have hq : H q = none := n2 q b2 (Option.some.inj (Option.some.inj b3))
        obtain ⟨t0, c1, c2⟩ := p.shp.bwd (other hj a)
        have c3 : Γ[j]? = some (.bo ds) := by
          rcases c2 with z | ⟨_, _, _, z⟩ | ⟨_, _, _, z⟩
          · rw [c1, ← z]
          · cases z
          · cases z
        have k0 := hs.ok j _ _ c3 (otherσ hj b)
        obtain ⟨q', vs, z, r, _⟩ := k0
        cases z
        rcases r with r | ⟨_, r⟩ <;> (rw [hq] at r; cases r)
      · exact p.st.bosep j ds q (other hj a) (otherσ hj b) ⟨j', t, other hj' b1, b2, otherσ hj' b3⟩
  · by_cases hj : j = i
    · subst hj
      rw [selfΓ] at a
      cases a
      rw [selfσ] at b
      exact hs.frm.dom (n2 q rfl (Option.some.inj (Option.some.inj b)))
    · exact p.st.fresh j ds q (other hj a) (otherσ hj b)
  · obtain ⟨a, ds, b⟩ := p.st.ioA j q h
    have hj : j ≠ i := fun z => by subst z; exact nio ds b
    exact ⟨by rw [List.getElem?_set_ne (Ne.symm hj)]; exact a, ds, by rw [List.getElem?_set_ne (Ne.symm hj)]; exact b⟩
  · by_cases hj : j = i
    · subst hj
      rw [selfΓ] at a
      cases a
      exact absurd rfl (n4 ds)
    · exact p.st.ioB j ds q (other hj a) (otherσ hj b)
  · obtain ⟨j, t, a, b, c⟩ := m
    by_cases hj : j = i
    · subst hj
      rw [selfΓ] at a
      cases a
      rw [selfσ] at c
      exact .inr (n2 q b (Option.some.inj (Option.some.inj c)))
    · exact .inl (p.shp.mu.mp ⟨j, t, other hj a, b, otherσ hj c⟩)
  · by_cases hj : j = i
    · subst hj
      rw [selfΓ] at a
      cases a
      exact absurd rfl (n3 ds)
    · obtain ⟨x1, y1⟩ := p.sp.bos j ds (other hj a)
      exact ⟨x1, by rw [List.getElem?_set_ne (Ne.symm hj)]⟩
def sSet (i : Nat) (fe : M Val) : MS := bnd fe fun v => fun Γ => match slotOf v with
  | some s => match setS i s Γ with
    | some Γ' => some (Γ', .ok .next)
    | none => none
  | none => none
theorem rs_set (i : Nat) (he : RefT K W te fe) : RefS K W (tAsg te (gName i)) (sSet i fe) := ⟨fun H0 IO Γ σ H Γ' r D hs e h => by
  refine he.then hs e (fun x H' z p => by subst z; exact h.err H' p) fun Γ1 v x H1 e1 p1 k1 => ?_
  try dsimp only at e1
  split at e1
  · rename_i s h1
    split at e1
    · rename_i Γ2 h2
      cases e1
      exact h _ H1 (set_post hs p1 k1 h1 h2)
    · cases e1
  · cases e1⟩

/-! ### targets: what an item of data is stored to; ts: the slots -/
structure RefG (K : PySem.W.Frag) (ts : List Nat) (g : TG) (f : PyData → Gm → Option Gm) : Prop where
  same : ∀ {d : PyData} {Γ Γ' : Gm} {j : Nat}, f d Γ = some Γ' → j ∉ ts → Γ'[j]? = Γ[j]?
  run : ∀ (H0 : Hp) (IO : Ctl) (Γ : Gm) (σ : L2.St) (H : Hp) (d : PyData) (x : V) (Γ' : Gm) (Q : L2.St → Hp → Prop), StOk K H0 IO Γ σ H → Im K H x d → f d Γ = some Γ' →
    (∀ σ', SPost K H0 IO Γ σ H Γ' σ' H → σ'.length = σ.length → (∀ j, j ∉ ts → σ'[j]? = σ[j]?) → Q σ' H) → g x σ H Q
structure RefGs (K : PySem.W.Frag) (ts : List Nat) (g : TGs) (f : List PyData → Gm → Option Gm) : Prop where
  same : ∀ {ds : List PyData} {Γ Γ' : Gm} {j : Nat}, f ds Γ = some Γ' → j ∉ ts → Γ'[j]? = Γ[j]?
  run : ∀ (H0 : Hp) (IO : Ctl) (Γ : Gm) (σ : L2.St) (H : Hp) (ds : List PyData) (xs : List V) (Γ' : Gm) (Q : L2.St → Hp → Prop), StOk K H0 IO Γ σ H → ImAll K H xs ds → f ds Γ = some Γ' →
    (∀ σ', SPost K H0 IO Γ σ H Γ' σ' H → σ'.length = σ.length → (∀ j, j ∉ ts → σ'[j]? = σ[j]?) → Q σ' H) → g xs σ H Q
def gtName (i : Nat) : PyData → Gm → Option Gm := fun d Γ => setS i (.im d) Γ
theorem rg_name (i : Nat) : RefG K [i] (gName i) (gtName i) := ⟨fun {d Γ Γ' j} e hj => by
  obtain ⟨rfl, _⟩ := setS_ok e
  rw [List.getElem?_set_ne]
  intro z
  exact hj (by simp [z]), fun H0 IO Γ σ H d x Γ' Q hs k e h => by
  refine h _ (set_post (v := .im d) hs (.refl hs) k rfl e) (by simp) fun j hj => ?_
  rw [List.getElem?_set_ne]
  intro z
  exact hj (by simp [z])⟩
def gtNil : List PyData → Gm → Option Gm := fun ds Γ => match ds with
  | [] => some Γ
  | _ :: _ => none
def gtCons (f : PyData → Gm → Option Gm) (g : List PyData → Gm → Option Gm) : List PyData → Gm → Option Gm := fun ds Γ => match ds with
  | [] => none
  | d :: r => match f d Γ with
    | some Γ' => g r Γ'
    | none => none
theorem rgs_nil : RefGs K [] gNil gtNil := ⟨fun {ds Γ Γ' j} e hj => by
  cases ds with
  | nil => cases e; rfl
  | cons _ _ => (cases e), fun H0 IO Γ σ H ds xs Γ' Q hs k e h => by
  cases ds with
  | nil =>
    cases e
    have hl := k.length
    cases xs with
    | nil => exact ⟨rfl, h σ (.refl hs) rfl fun _ _ => rfl⟩
    | cons _ _ => simp at hl
  | cons _ _ => cases e⟩
theorem rgs_cons {ts us : List Nat} {g1 : TG} {g2 : TGs} {f1 : PyData → Gm → Option Gm} {f2 : List PyData → Gm → Option Gm} (a : RefG K ts g1 f1) (b : RefGs K us g2 f2) : RefGs K (ts ++ us) (gCons g1 g2) (gtCons f1 f2) := ⟨fun {ds Γ Γ' j} e hj => by
  cases ds with
  | nil => cases e
  | cons d r =>
    simp only [gtCons] at e
    rw [List.mem_append] at hj
    split at e
    · rename_i Γ1 h1
      exact (b.same e fun z => hj (.inr z)).trans (a.same h1 fun z => hj (.inl z))
    · (cases e), fun H0 IO Γ σ H ds xs Γ' Q hs k e h => by
  cases ds with
  | nil => cases e
  | cons d r =>
    have hl := k.length
    cases xs with
    | nil => simp at hl
    | cons x xr =>
      simp only [gtCons] at e
      split at e
      · rename_i Γ1 h1
        obtain ⟨k1, k2⟩ := k.uncons
        refine ⟨x, xr, rfl, a.run H0 IO Γ σ H d x Γ1 _ hs k1 h1 fun σ1 p1 l1 o1 => ?_⟩
        refine b.run H0 IO Γ1 σ1 H r xr Γ' Q p1.st k2 e fun σ2 p2 l2 o2 => ?_
        refine h σ2 (p1.trans p2) (l2.trans l1) fun j hj => ?_
        rw [List.mem_append] at hj
        rw [o2 j (fun z => hj (.inr z)), o1 j (fun z => hj (.inl z))]
      · cases e⟩
def gtTup (n : Nat) (f : List PyData → Gm → Option Gm) : PyData → Gm → Option Gm := fun d Γ => match d with
  | .tuple ds => if ds.length = n then f ds Γ else none
  | _ => none
theorem rg_tup {n : Nat} {ts : List Nat} {g1 : TGs} {f1 : List PyData → Gm → Option Gm} (a : RefGs K ts g1 f1) : RefG K ts (gTup K n g1) (gtTup n f1) := ⟨fun {d Γ Γ' j} e hj => by
  unfold gtTup at e
  split at e
  · split at e
    · exact a.same e hj
    · cases e
  · (cases e), fun H0 IO Γ σ H d x Γ' Q hs k e h => by
  cases d with
  | tuple ds =>
    simp only [gtTup] at e
    split at e
    · rename_i hn
      obtain ⟨p, vs, rfl, a1, a2⟩ := im_tuple k
      exact ⟨p, vs, rfl, a1, by rw [a2.length]; exact hn, a.run H0 IO Γ σ H ds vs Γ' Q hs a2 e h⟩
    · cases e
  | none => cases e
  | bool _ => cases e
  | int _ => cases e
  | str _ => cases e
  | list _ => cases e
  | dict _ => cases e⟩
def sAsg (f : PyData → Gm → Option Gm) (fe : M Val) : MS := bnd fe fun v => fun Γ => match v with
  | .im d => match f d Γ with
    | some Γ' => some (Γ', .ok .next)
    | none => none
  | _ => none
theorem rs_asg {ts : List Nat} {g : TG} {gf : PyData → Gm → Option Gm} (he : RefT K W te fe) (hg : RefG K ts g gf) : RefS K W (tAsg te g) (sAsg gf fe) := ⟨fun H0 IO Γ σ H Γ' r D hs e h => by
  refine he.then hs e (fun x H' z p => by subst z; exact h.err H' p) fun Γ1 v x H1 e1 p1 k1 => ?_
  try dsimp only at e1
  split at e1
  · rename_i d
    split at e1
    · rename_i Γ2 h2
      cases e1
      exact hg.run H0 IO Γ1 σ H1 d x _ D.nx p1.st k1 h2 fun σ' p _ _ => h σ' H1 (p1.sp.trans p)
    · cases e1
  · cases e1⟩

/-! ### name op= e -/
def IpSem (K : PySem.W.Frag) (r : TIp) (g : PyData → PyData → Option PyData) : Prop := ∀ (H : Hp) (x y : V) (d e z : PyData), Im K H x d → Rp K H y e → g d e = some z → ∀ Q : VK, (∀ x' H', Grow H H' → New K H H' x' z → Q x' H') → r x y H Q
def sAug (i : Nat) (g : PyData → PyData → Option PyData) (fe : M Val) : MS := fun Γ => match Γ[i]? with
  | some (.im d) => bnd fe (fun u => fun Γ1 => match rdv Γ1 u with
    | some e => match g d e with
      | some z => match slotOf (toV z) with
        | some s => match setS i s Γ1 with
          | some Γ' => some (Γ', .ok .next)
          | none => none
        | none => none
      | none => none
    | none => none) Γ
  | _ => none
theorem rs_aug (i : Nat) {r : TIp} {g : PyData → PyData → Option PyData} (ho : IpSem K r g) (he : RefT K W te fe) : RefS K W (tAug i te r) (sAug i g fe) := ⟨fun H0 IO Γ σ H Γ' rr D hs e h => by
  unfold sAug at e
  split at e
  · rename_i d hd
    obtain ⟨y, hy, ky⟩ := hs.sig hd
    obtain ⟨v, rfl, ki⟩ := ky
    refine ⟨v, hy, ?_⟩
    refine he.then hs e (fun x H' z p => by subst z; exact h.err H' p) fun Γ1 u x H1 e1 p1 k1 => ?_
    try dsimp only at e1
    split at e1
    · rename_i d2 h2
      split at e1
      · rename_i z h3
        split at e1
        · rename_i s h4
          split at e1
          · rename_i Γ2 h5
            cases e1
            refine ho H1 v x d d2 z (ki.tk (p1.frm.tk hs.lsts)) (k1.rp p1.st h2) h3 _ fun x' H2 g2 n2 => ?_
            exact h _ H2 (set_post hs (p1.fin g2) (n2.vok fun b hb => p1.dom hb) h4 h5)
          · cases e1
        · cases e1
      · cases e1
    · cases e1
  · cases e⟩

/-! ### the list in a slot is written -/
def putL (i : Nat) (ds : List PyData) (Γ : Gm) : Gm := match Γ[i]? with
  | some (.ow _) => Γ.set i (.ow ds)
  | some (.io _) => Γ.set i (.io ds)
  | _ => Γ
def getM (i : Nat) (Γ : Gm) : Option (List PyData) := match Γ[i]? with
  | some (.ow ds) => some ds
  | some (.io ds) => some ds
  | _ => none
theorem getM_ok {i : Nat} {ds : List PyData} (e : getM i Γ = some ds) : ∃ s, Γ[i]? = some s ∧ muS s = true ∧ (s = .ow ds ∨ s = .io ds) := by
  unfold getM at e
  split at e
  · rename_i q z; cases e; exact ⟨_, z, rfl, .inl rfl⟩
  · rename_i q z; cases e; exact ⟨_, z, rfl, .inr rfl⟩
  · cases e
theorem putL_at {i : Nat} {ds es : List PyData} (e : getM i Γ = some es) : ∃ s s', Γ[i]? = some s ∧ SlD s s' ∧ putL i ds Γ = Γ.set i s' ∧ (s' = .ow ds ∨ s' = .io ds) ∧ ∀ p H vs, H p = some (.lst vs) → ImAll K H vs ds → SlotOk K H s' (some (.ref p)) := by
  obtain ⟨s, a, b, c⟩ := getM_ok e
  rcases c with rfl | rfl
  · exact ⟨_, .ow ds, a, .inr (.inl ⟨_, _, rfl, rfl⟩), by unfold putL; rw [a], .inl rfl, fun p H vs h k => ⟨p, vs, rfl, h, k⟩⟩
  · exact ⟨_, .io ds, a, .inr (.inr ⟨_, _, rfl, rfl⟩), by unfold putL; rw [a], .inr rfl, fun p H vs h k => ⟨p, vs, rfl, h, k⟩⟩
theorem Shp.set {i : Nat} {s s' : Slot} (e : Γ[i]? = some s) (d : SlD s s') : Shp Γ (Γ.set i s') := ⟨by simp, fun j t t' a b => by
  by_cases hj : j = i
  · subst hj
    rw [List.getElem?_set_self (List.getElem?_eq_some_iff.mp e).1] at b
    rw [e] at a
    cases a; cases b; exact d
  · rw [List.getElem?_set_ne (Ne.symm hj)] at b
    rw [a] at b; cases b; exact .refl⟩
/-- the heap at a slot's list changes, with the slot's data; all else stands -/
theorem EPost.write {i : Nat} {p : Addr} {ds es : List PyData} {vs : List V} (hs : StOk K H0 IO Γ σ H) (e : getM i Γ = some es) (hp : σ[i]? = some (some (.ref p))) (g : Grow (upd H p (.lst vs)) H') (k : ImAll K (upd H p (.lst vs)) vs ds) :
    EPost K H0 IO Γ σ H (putL i ds Γ) H' := by
  obtain ⟨s, s', a, d, e2, c2, c⟩ := putL_at (K := K) (ds := ds) e
  obtain ⟨s2, a2, m2, _⟩ := getM_ok e
  rw [a] at a2; cases a2
  have mp : Mu Γ σ p := ⟨i, s, a, m2, hp⟩
  have shp : Shp Γ (Γ.set i s') := .set a d
  obtain ⟨xs0, h0⟩ := hs.lsts p mp
  have f1 : Frm (Mu Γ σ) H (upd H p (.lst vs)) := .put hs.lsts mp
  have hi := (List.getElem?_eq_some_iff.mp a).1
  have st1 : StOk K H0 IO (Γ.set i s') σ (upd H p (.lst vs)) := by
    have t : Tk H (upd H p (.lst vs)) := .upd h0
    refine ⟨by simp [hs.len], fun j t' x b1 b2 => ?_, fun j j' t1 t2 q b1 b2 b3 b4 b5 b6 => ?_, fun j ds' q b1 b2 m => ?_, fun j ds' q b1 b2 => ?_, fun j q h => ?_, fun j ds' q b1 b2 => ?_, hs.ioL, ?_⟩
    · by_cases hj : j = i
      · subst hj
        rw [List.getElem?_set_self hi] at b1
        rw [hp] at b2
        cases b1; cases b2
        exact c p _ vs upd_same k
      · rw [List.getElem?_set_ne (Ne.symm hj)] at b1
        have k1 := hs.ok j t' x b1 b2
        have ne : ∀ q, muS t' = true → x = some (.ref q) → q ≠ p := fun q m z w => by
          subst w; subst z
          exact hj (hs.uniq j i t' s q b1 m b2 a m2 hp)
        cases t' with
        | em => trivial
        | im d => obtain ⟨v, z, k2⟩ := k1; exact ⟨v, z, k2.tk t⟩
        | ow d => obtain ⟨q, ys, z, k2, k3⟩ := k1; exact ⟨q, ys, z, by rw [upd_ne (ne q rfl z)]; exact k2, k3.tk t⟩
        | io d => obtain ⟨q, ys, z, k2, k3⟩ := k1; exact ⟨q, ys, z, by rw [upd_ne (ne q rfl z)]; exact k2, k3.tk t⟩
        | bo d =>
          obtain ⟨q, ys, z, k2, k3⟩ := k1
          have nq : q ≠ p := fun w => by
            subst w; subst z
            exact hs.bosep j d q b1 b2 mp
          refine ⟨q, ys, z, ?_, k3.tk t⟩
          rcases k2 with k2 | ⟨o, k2⟩
          · exact .inl (by rw [upd_ne nq]; exact k2)
          · exact .inr ⟨o, by rw [upd_ne nq]; exact k2⟩
    · obtain ⟨s1, c1, d1⟩ := shp.bwd b1
      obtain ⟨s3, c3, d3⟩ := shp.bwd b4
      exact hs.uniq j j' s1 s3 q c1 (by rw [← d1.mu]; exact b2) b3 c3 (by rw [← d3.mu]; exact b5) b6
    · obtain ⟨s1, c1, d1⟩ := shp.bwd b1
      rcases d1 with z | ⟨_, _, _, z⟩ | ⟨_, _, _, z⟩
      · subst z; exact hs.bosep j ds' q c1 b2 (shp.mu.mp m)
      · cases z
      · cases z
    · obtain ⟨s1, c1, d1⟩ := shp.bwd b1
      rcases d1 with z | ⟨d1, _, z1, z⟩ | ⟨_, _, _, z⟩
      · subst z; exact hs.fresh j ds' q c1 b2
      · subst z1; exact hs.fresh j d1 q c1 b2
      · cases z
    · obtain ⟨b1, ds', b2⟩ := hs.ioA j q h
      refine ⟨b1, ?_⟩
      obtain ⟨s1, c1, d1⟩ := shp.fwd b2
      rcases d1 with z | ⟨_, _, z, _⟩ | ⟨_, d2, _, z⟩
      · subst z; exact ⟨_, c1⟩
      · cases z
      · subst z; exact ⟨_, c1⟩
    · obtain ⟨s1, c1, d1⟩ := shp.bwd b1
      rcases d1 with z | ⟨_, _, _, z⟩ | ⟨d1, _, z1, z⟩
      · subst z; exact hs.ioB j ds' q c1 b2
      · cases z
      · subst z1; exact hs.ioB j d1 q c1 b2
    · -- the frame of the whole def
      rcases c2 with z | z
      · -- an own list: new since the entry
        subst z
        have hn : H0 p = none := by
          rcases d with z | ⟨d1, _, z1, z⟩ | ⟨_, _, _, z⟩
          · exact hs.fresh i _ p (by rw [a, ← z]) hp
          · exact hs.fresh i d1 p (by rw [a, z1]) hp
          · cases z
        refine hs.frm.put_new hn fun m => ?_
        obtain ⟨ys, z⟩ := hs.ioL.1 p m
        rw [hn] at z; cases z
      · subst z
        have hio : IO i p := by
          rcases d with z | ⟨_, _, _, z⟩ | ⟨d1, _, z1, z⟩
          · exact hs.ioB i _ p (by rw [a, ← z]) hp
          · cases z
          · exact hs.ioB i d1 p (by rw [a, z1]) hp
        exact hs.frm.same (.put (hs.frm.lsts hs.ioL.1) ⟨i, hio⟩)
  have p1 : EPost K H0 IO Γ σ H (Γ.set i s') (upd H p (.lst vs)) := ⟨st1, f1, shp⟩
  rw [e2]
  exact p1.fin g
end
end Vf
end

section
set_option Elab.async false
set_option linter.all false
set_option maxRecDepth 100000
namespace Vf
open PySem PySem.Spec PyProof.Rows L2
variable [Tabs]
section
variable {K : PySem.W.Frag} {H0 H H' H1 H2 Hs : Hp} {IO : Ctl} {Γ Γ' Γ1 Γ2 : Gm} {σ σ' σ1 σ2 : L2.St}
variable {W : Ex → L2.St → Hp → Prop} {ta tb te to : TE} {fa fb fe fo : M Val} {tt : TT} {ft : M Bool} {t u : TS} {f g : MS} {tA : TA} {fA : M (List Val)}

/-! ### methods that write the list in a slot -/
def MutSem (K : PySem.W.Frag) (r : V → List V → Hp → VK → Prop) (g : List PyData → List PyData → Option (List PyData × PyData)) : Prop :=
  ∀ (H : Hp) (p : Addr) (vs : List V) (ds : List PyData) (xs : List V) (es ds' : List PyData) (z : PyData), H p = some (.lst vs) → ImAll K H vs ds → RpAll K H xs es → g ds es = some (ds', z) →
    ∀ Q : VK, (∀ x' vs', ImAll K (upd H p (.lst vs')) vs' ds' → Im K (upd H p (.lst vs')) x' z → Q x' (upd H p (.lst vs'))) → r (.ref p) xs H Q
def eMut (i : Nat) (g : List PyData → List PyData → Option (List PyData × PyData)) (fA : M (List Val)) : M Val := fun Γ => match getM i Γ with
  | none => none
  | some _ => bnd fA (fun vs => fun Γ1 => match getM i Γ1, rdvs Γ1 vs with
    | some ds, some es => match g ds es with
      | some (ds', z) => some (putL i ds' Γ1, .ok (.im z))
      | none => none
    | _, _ => none) Γ
theorem VOk.putL {Hs : Hp} {v : Val} {x : V} {i : Nat} {ds : List PyData} (h : VOk K Hs Γ σ H v x) : True := trivial
theorem rt_mut (i : Nat) {r : V → List V → Hp → VK → Prop} {g : List PyData → List PyData → Option (List PyData × PyData)} (ho : MutSem K r g) (ha : RefA K W tA fA) : RefT K W (tBM K "list" r (tVar i) tA) (eMut i g fA) := ⟨fun H0 IO Γ σ H Γ' rr Q hs e hQ => by
  unfold eMut at e
  split at e
  · cases e
  · rename_i ds0 h0
    obtain ⟨s, a1, a2, a3⟩ := getM_ok h0
    obtain ⟨p, vs0, _, b1, b2, b3, b4, b5⟩ := hs.mus a1 a2
    refine ⟨.ref p, b1, .inl ⟨rfl, vs0, .inl (.inl b2)⟩, ?_⟩
    refine ha.then hs e (fun x H' z p => by subst z; exact hQ H' p) fun Γ1 vs xs H1 e1 p1 k1 => ?_
    try dsimp only at e1
    split at e1
    · rename_i ds es h1 h2
      split at e1
      · rename_i ds' z h3
        cases e1
        obtain ⟨s', c1, c2, c3⟩ := getM_ok h1
        obtain ⟨q, vs1, ds1, d1, d2, d3, d4, d5⟩ := p1.st.mus c1 c2
        have hpq : q = p := by rw [b1] at d1; cases d1; rfl
        subst hpq
        have hds : ds1 = ds := by rcases c3 with rfl | rfl <;> rcases d5 with z | z <;> cases z <;> rfl
        subst hds
        refine ho H1 q vs1 ds1 xs es ds' z d2 d3 (k1.rp p1.st h2) h3 Q fun x' vs' k z' => ?_
        have w : EPost K H0 IO Γ1 σ H1 (Vf.putL i ds' Γ1) (upd H1 q (.lst vs')) := EPost.write p1.st h1 d1 Grow.refl k
        exact hQ x' _ (p1.trans w) z'
      · cases e1
    · cases e1⟩
theorem rt_mut0 (i : Nat) {r : V → List V → Hp → VK → Prop} {g : List PyData → List PyData → Option (List PyData × PyData)} (ho : MutSem K r g) : RefT K W (tBM0 K "list" r (tVar i)) (eMut i g aNil) := ⟨fun H0 IO Γ σ H Γ' rr Q hs e hQ => by
  obtain ⟨v, h1, h2, h3⟩ := (rt_mut (W := W) i ho ra_nil).run H0 IO Γ σ H Γ' rr Q hs e hQ
  exact ⟨v, h1, h2, h3⟩⟩
/-- methods of a text -/
def eMth (g : PyData → List PyData → Option PyData) (fo : M Val) (fA : M (List Val)) : M Val := bnd fo fun v => match v with
  | .im (.str a) => bnd fA fun vs => fun Γ => match rdvs Γ vs with
    | some ds => match g (.str a) ds with
      | some z => some (Γ, .ok (toV z))
      | none => none
    | none => none
  | _ => fun _ => none
theorem rt_mth {r : V → List V → Hp → VK → Prop} {g : PyData → List PyData → Option PyData} (hm : MethSem K r g) (ho : RefT K W to fo) (ha : RefA K W tA fA) : RefT K W (tBM K "str" r to tA) (eMth g fo fA) := ⟨fun H0 IO Γ σ H Γ' rr Q hs e hQ => by
  refine ho.then hs e (fun x H' h p => by subst h; exact hQ H' p) fun Γ1 v x H1 e1 p1 k1 => ?_
  try dsimp only at e1
  split at e1
  · rename_i a
    have hx := im_str k1
    subst hx
    refine ⟨rfl, ?_⟩
    refine ha.then p1.st e1 (fun x H' h p => by subst h; exact hQ H' (p1.trans p)) fun Γ2 vs xs H2 e2 p2 k2 => ?_
    try dsimp only at e2
    split at e2
    · rename_i ds h2
      split at e2
      · rename_i z h3
        cases e2
        refine hm H2 (.str a) xs (.str a) ds z (Rp.im ⟨rfl, .str a⟩) (k2.rp p2.st h2) h3 Q fun x' H3 g3 n3 => ?_
        exact hQ x' H3 ((p1.trans p2).fin g3) (n3.vok fun b hb => (p1.trans p2).dom hb)
      · cases e2
    · cases e2
  · cases e1⟩
theorem rt_mth0 {r : V → List V → Hp → VK → Prop} {g : PyData → List PyData → Option PyData} (hm : MethSem K r g) (ho : RefT K W to fo) : RefT K W (tBM0 K "str" r to) (eMth g fo aNil) := ⟨fun H0 IO Γ σ H Γ' rr Q hs e hQ =>
  (rt_mth hm ho (ra_nil (W := W))).run H0 IO Γ σ H Γ' rr Q hs e hQ⟩
/-- xs[i] = e, xs the list in slot j -/
def idxN (n : Nat) (i : Int) : Option Nat := ixN n i
def sSetIx (j : Nat) (fi fe : M Val) : MS := bnd fe fun v => match v with
  | .im d => fun Γ => match getM j Γ with
    | none => none
    | some _ => bnd fi (fun u => match u with
      | .im (.int k) => fun Γ1 => match getM j Γ1 with
        | some ds => match ixN ds.length k with
          | some n => some (putL j (ds.set n d) Γ1, .ok .next)
          | none => none
        | none => none
      | _ => fun _ => none) Γ
  | _ => fun _ => none
theorem rs_setIx (j : Nat) {ti : TE} {fi : M Val} (hi : RefT K W ti fi) (he : RefT K W te fe) : RefS K W (tAsg te (gSub (tVar j) ti rSetL)) (sSetIx j fi fe) := ⟨fun H0 IO Γ σ H Γ' r D hs e h => by
  refine he.then hs e (fun x H' z p => by subst z; exact h.err H' p) fun Γ1 v x H1 e1 p1 k1 => ?_
  try dsimp only at e1
  split at e1
  · rename_i d
    split at e1
    · cases e1
    · rename_i ds0 h0
      obtain ⟨s, a1, a2, a3⟩ := getM_ok h0
      obtain ⟨p, vs0, _, b1, b2, b3, b4, b5⟩ := p1.st.mus a1 a2
      refine ⟨.ref p, b1, ?_⟩
      refine hi.then p1.st e1 (fun x H' z p => by subst z; exact h.err H' (p1.trans p)) fun Γ2 u y H2 e2 p2 k2 => ?_
      try dsimp only at e2
      split at e2
      · rename_i k
        split at e2
        · rename_i ds h1
          split at e2
          · rename_i n hn
            cases e2
            have hy := im_int k2
            subst hy
            obtain ⟨s', c1, c2, c3⟩ := getM_ok h1
            obtain ⟨q, vs1, ds1, d1, d2, d3, d4, d5⟩ := p2.st.mus c1 c2
            have hpq : q = p := by rw [b1] at d1; cases d1; rfl
            subst hpq
            have hds : ds1 = ds := by rcases c3 with rfl | rfl <;> rcases d5 with z | z <;> cases z <;> rfl
            subst hds
            refine ⟨q, vs1, k, n, rfl, rfl, d2, by rw [d3.length]; exact hn, ?_⟩
            have t : Tk H2 (upd H2 q (.lst (vs1.set n x))) := .upd d2
            have kx : Im K H2 x d := Im.tk (p2.frm.tk p1.st.lsts) k1
            have w : EPost K H0 IO Γ2 σ H2 (putL j (ds1.set n d) Γ2) (upd H2 q (.lst (vs1.set n x))) := EPost.write p2.st h1 d1 Grow.refl ((d3.tk t).set (kx.tk t) n)
            exact h σ _ ((p1.trans p2).trans w).sp
          · cases e2
        · cases e2
      · cases e2
  · cases e1⟩

/-! ### what a loop walks -/
def bor (bs : Option Nat) (Γ : Gm) : Option Gm := match bs with
  | none => some Γ
  | some i => match Γ[i]? with
    | some (.ow ds) => some (Γ.set i (.bo ds))
    | some (.bo _) => some Γ
    | _ => none
def unb (bs : Option Nat) (Γ0 Γ : Gm) : Gm := match bs with
  | none => Γ
  | some i => match Γ0[i]? with
    | some (.ow _) => match Γ[i]? with
      | some (.bo ds) => Γ.set i (.ow ds)
      | _ => Γ
    | _ => Γ
theorem bor_cases {bs : Option Nat} {Γb : Gm} (e : bor bs Γ = some Γb) : (Γb = Γ ∧ ∀ Γ', unb bs Γ Γ' = Γ') ∨ ∃ i ds, bs = some i ∧ Γ[i]? = some (.ow ds) ∧ Γb = Γ.set i (.bo ds) := by
  cases bs with
  | none => cases e; exact .inl ⟨rfl, fun _ => rfl⟩
  | some i =>
    simp only [bor] at e
    split at e
    · rename_i ds h; cases e; exact .inr ⟨i, ds, rfl, h, rfl⟩
    · rename_i ds h; cases e; exact .inl ⟨rfl, fun Γ' => by simp [unb, h]⟩
    · cases e
theorem bor_ok {bs : Option Nat} {Γb : Gm} (hs : StOk K H0 IO Γ σ H) (e : bor bs Γ = some Γb) : StOk K H0 IO Γb σ H ∧ ∀ q, Mu Γb σ q → Mu Γ σ q := by
  rcases bor_cases e with ⟨rfl, _⟩ | ⟨i, ds, rfl, h, rfl⟩
  · exact ⟨hs, fun _ m => m⟩
  · have hi := (List.getElem?_eq_some_iff.mp h).1
    have self : (Γ.set i (.bo ds))[i]? = some (.bo ds) := List.getElem?_set_self hi
    have other : ∀ {j : Nat} {t : Slot}, j ≠ i → (Γ.set i (.bo ds))[j]? = some t → Γ[j]? = some t := fun {j t} hj z => by
      rw [List.getElem?_set_ne (Ne.symm hj)] at z; exact z
    obtain ⟨p, vs, ds', x1, x2, x3, x4, x5⟩ := hs.mus h rfl
    have hds : ds' = ds := by rcases x5 with z | z <;> cases z <;> rfl
    subst hds
    have mu : ∀ {j : Nat} {t : Slot}, (Γ.set i (.bo ds'))[j]? = some t → muS t = true → j ≠ i ∧ Γ[j]? = some t := fun {j t} a m => by
      by_cases hj : j = i
      · subst hj; rw [self] at a; cases a; simp [muS] at m
      · exact ⟨hj, other hj a⟩
    have sub : ∀ q, Mu (Γ.set i (.bo ds')) σ q → Mu Γ σ q := fun q ⟨j, t, a, m, x⟩ => ⟨j, t, (mu a m).2, m, x⟩
    refine ⟨⟨by simp [hs.len], fun j t x a b => ?_, fun j j' t t' q a1 a2 a3 b1 b2 b3 => ?_, fun j es q a b m => ?_, fun j es q a b => ?_, fun j q hh => ?_, fun j es q a b => ?_, hs.ioL, hs.frm⟩, sub⟩
    · by_cases hj : j = i
      · subst hj
        rw [self] at a; rw [x1] at b
        cases a; cases b
        exact ⟨p, vs, rfl, .inl x2, x3⟩
      · exact hs.ok j t x (other hj a) b
    · exact hs.uniq j j' t t' q (mu a1 a2).2 a2 a3 (mu b1 b2).2 b2 b3
    · by_cases hj : j = i
      · subst hj
        obtain ⟨j', t, c1, c2, c3⟩ := m
        obtain ⟨hj', c4⟩ := mu c1 c2
        exact hj' (hs.uniq j' j t _ q c4 c2 c3 h rfl b)
      · exact hs.bosep j es q (other hj a) b (sub q m)
    · have hj : j ≠ i := fun z => by subst z; rw [self] at a; cases a
      exact hs.fresh j es q (other hj a) b
    · obtain ⟨a, es, b⟩ := hs.ioA j q hh
      have hj : j ≠ i := fun z => by subst z; rw [h] at b; cases b
      exact ⟨a, es, by rw [List.getElem?_set_ne (Ne.symm hj)]; exact b⟩
    · have hj : j ≠ i := fun z => by subst z; rw [self] at a; cases a
      exact hs.ioB j es q (other hj a) b
theorem unb_ok {bs : Option Nat} {Γb Γe : Gm} (hs : StOk K H0 IO Γ σ H) (e : bor bs Γ = some Γb) (p : SPost K H0 IO Γb σ H Γe σ' H') : SPost K H0 IO Γ σ H (unb bs Γ Γe) σ' H' := by
  rcases bor_cases e with ⟨rfl, hu⟩ | ⟨i, ds, rfl, h, rfl⟩
  · rw [hu]; exact p
  · have hi := (List.getElem?_eq_some_iff.mp h).1
    have self : (Γ.set i (.bo ds))[i]? = some (.bo ds) := List.getElem?_set_self hi
    have sub := (bor_ok (bs := some i) hs e).2
    have frm : Frm (Mu Γ σ) H H' := p.frm.mono sub hs.lsts
    have bb : ∀ (j : Nat) (es : List PyData), Γe[j]? = some (.bo es) → j ≠ i → Γ[j]? = some (.bo es) ∧ σ'[j]? = σ[j]? := fun j es a hj => by
      obtain ⟨x, y⟩ := p.bos j es a
      rw [List.getElem?_set_ne (Ne.symm hj)] at x
      exact ⟨x, y⟩
    have mus0 : ∀ q, Mu Γe σ' q → Mu Γ σ q ∨ H q = none := fun q m => by
      rcases p.mus q m with z | z
      · exact .inl (sub q z)
      · exact .inr z
    simp only [unb, h]
    cases he : Γe[i]? with
    | none => exact ⟨p.st, frm, mus0, fun j es a => bb j es a fun z => by subst z; rw [he] at a; cases a⟩
    | some s =>
      cases s with
      | em => exact ⟨p.st, frm, mus0, fun j es a => bb j es a fun z => by subst z; rw [he] at a; cases a⟩
      | im d => exact ⟨p.st, frm, mus0, fun j es a => bb j es a fun z => by subst z; rw [he] at a; cases a⟩
      | ow d => exact ⟨p.st, frm, mus0, fun j es a => bb j es a fun z => by subst z; rw [he] at a; cases a⟩
      | io d => exact ⟨p.st, frm, mus0, fun j es a => bb j es a fun z => by subst z; rw [he] at a; cases a⟩
      | bo ds' =>
        show SPost K H0 IO Γ σ H (Γe.set i (.ow ds')) σ' H'
        obtain ⟨x, y⟩ := p.bos i ds' he
        rw [self] at x
        cases x
        obtain ⟨q, vs, ds2, x1, x2, x3, x4, x5⟩ := hs.mus h rfl
        have hds : ds2 = ds := by rcases x5 with z | z <;> cases z <;> rfl
        subst hds
        have hie := (List.getElem?_eq_some_iff.mp he).1
        have selfE : (Γe.set i (.ow ds2))[i]? = some (.ow ds2) := List.getElem?_set_self hie
        have otherE : ∀ {j : Nat} {t : Slot}, j ≠ i → (Γe.set i (.ow ds2))[j]? = some t → Γe[j]? = some t := fun {j t} hj z => by
          rw [List.getElem?_set_ne (Ne.symm hj)] at z; exact z
        have hq' : σ'[i]? = some (some (.ref q)) := y.trans x1
        -- q is no list that the body may write
        have nq : ¬ Mu (Γ.set i (.bo ds2)) σ q := fun ⟨j, t, a, m, z⟩ => by
          have hj : j ≠ i := fun w => by subst w; rw [self] at a; cases a; simp [muS] at m
          rw [List.getElem?_set_ne (Ne.symm hj)] at a
          exact hj (hs.uniq j i t _ q a m z h rfl x1)
        have hq2 : H' q = some (.lst vs) := p.frm.lst x2 nq
        have tk : Tk H H' := frm.tk hs.lsts
        have nme : ¬ Mu Γe σ' q := p.st.bosep i ds2 q he hq'
        refine ⟨⟨by simp [p.st.len], fun j t z a b => ?_, fun j j' t t' r a1 a2 a3 b1 b2 b3 => ?_, fun j es r a b m => ?_, fun j es r a b => ?_, fun j r hh => ?_, fun j es r a b => ?_, p.st.ioL, p.st.frm⟩, frm, fun r m => ?_, fun j es a => ?_⟩
        · by_cases hj : j = i
          · subst hj
            rw [selfE] at a; rw [hq'] at b
            cases a; cases b
            exact ⟨q, vs, rfl, hq2, x3.tk tk⟩
          · exact p.st.ok j t z (otherE hj a) b
        · by_cases hj : j = i
          · subst hj
            by_cases hj' : j' = j
            · exact hj'.symm
            · rw [hq'] at a3; cases a3
              exact absurd ⟨j', t', otherE hj' b1, b2, b3⟩ nme
          · by_cases hj' : j' = i
            · subst hj'
              rw [hq'] at b3; cases b3
              exact absurd ⟨j, t, otherE hj a1, a2, a3⟩ nme
            · exact p.st.uniq j j' t t' r (otherE hj a1) a2 a3 (otherE hj' b1) b2 b3
        · have hj : j ≠ i := fun z => by subst z; rw [selfE] at a; cases a
          obtain ⟨c1, c2⟩ := bb j es (otherE hj a) hj
          rw [c2] at b
          obtain ⟨j', t, d1, d2, d3⟩ := m
          by_cases hj' : j' = i
          · subst hj'
            rw [hq'] at d3; cases d3
            exact hs.bosep j es q c1 b x4
          · exact p.st.bosep j es r (otherE hj a) (c2.trans b) ⟨j', t, otherE hj' d1, d2, d3⟩
        · by_cases hj : j = i
          · subst hj
            rw [hq'] at b; cases b
            exact hs.fresh j ds2 q h x1
          · exact p.st.fresh j es r (otherE hj a) b
        · obtain ⟨a, es, b⟩ := p.st.ioA j r hh
          have hj : j ≠ i := fun z => by subst z; rw [he] at b; cases b
          exact ⟨a, es, by rw [List.getElem?_set_ne (Ne.symm hj)]; exact b⟩
        · have hj : j ≠ i := fun z => by subst z; rw [selfE] at a; cases a
          exact p.st.ioB j es r (otherE hj a) b
        · obtain ⟨j, t, a, m, z⟩ := m
          by_cases hj : j = i
          · subst hj
            rw [hq'] at z; cases z
            exact .inl x4
          · exact mus0 r ⟨j, t, otherE hj a, m, z⟩
        · have hj : j ≠ i := fun z => by subst z; rw [selfE] at a; cases a
          exact bb j es (otherE hj a) hj

/-- the walk J gives the items, while all stands but what the body may write -/
def ItOk (K : PySem.W.Frag) (Γ : Gm) (σ : L2.St) (H : Hp) (bs : Option Nat) (items : List PyData) (J : It) : Prop := ∀ Γb, bor bs Γ = some Γb →
  ∃ (n : Nat) (G : Hp → Prop) (Y : Nat → Hp → V → Hp → Prop), Walk J n G Y ∧ n = items.length ∧ (∀ H1, Frm (Mu Γb σ) H H1 → G H1) ∧
    ∀ i H1 x H2, i < n → Frm (Mu Γb σ) H H1 → Y i H1 x H2 → Grow H1 H2 ∧ ∃ d, items[i]? = some d ∧ Im K H2 x d
abbrev Its1 := List PyData × Option Nat
structure RefI (K : PySem.W.Frag) (W : Ex → L2.St → Hp → Prop) (w : TI) (f : M Its1) : Prop where
  run : ∀ (H0 : Hp) (IO : Ctl) (Γ : Gm) (σ : L2.St) (H : Hp) (Γ' : Gm) (r : Except Ex Its1) (R : It → Hp → Prop), StOk K H0 IO Γ σ H → f Γ = some (Γ', r) →
    (∀ x, r = .error x → ∀ H', EPost K H0 IO Γ σ H Γ' H' → W x σ H') → (∀ items bs, r = .ok (items, bs) → ∀ J H', EPost K H0 IO Γ σ H Γ' H' → ItOk K Γ' σ H' bs items J → R J H') → w σ H R
def sLoop (tg : PyData → Gm → Option Gm) (body : MS) : List PyData → MS
  | [], Γ => some (Γ, .ok .next)
  | d :: r, Γ => match tg d Γ with
    | none => none
    | some Γ1 => match body Γ1 with
      | none => none
      | some (Γ2, .ok .next) => sLoop tg body r Γ2
      | some (Γ2, .ok .cont) => sLoop tg body r Γ2
      | some (Γ2, .ok .brk) => some (Γ2, .ok .next)
      | some (Γ2, .ok (.ret v)) => some (Γ2, .ok (.ret v))
      | some (Γ2, .error e) => some (Γ2, .error e)
def sFor (fi : M Its1) (tg : PyData → Gm → Option Gm) (body : MS) : MS := bnd fi fun x => fun Γ1 => match bor x.2 Γ1 with
  | none => none
  | some Γ2 => match sLoop tg body x.1 Γ2 with
    | none => none
    | some (Γ3, r) => some (unb x.2 Γ1 Γ3, r)
theorem VOk.unb {bs : Option Nat} {Γ0 Γe : Gm} {v : Val} {x : V} (h : VOk K Hs Γe σ H v x) : VOk K Hs (unb bs Γ0 Γe) σ H v x := by
  cases v with
  | im d => exact h
  | nw ds => exact h
  | sl j =>
    obtain ⟨s, a, b, c⟩ := h
    unfold Vf.unb
    cases bs with
    | none => exact ⟨s, a, b, c⟩
    | some i =>
      dsimp only
      split
      · split
        · rename_i ds hh
          by_cases hj : j = i
          · subst hj
            exact ⟨.ow ds, List.getElem?_set_self (List.getElem?_eq_some_iff.mp a).1, rfl, c⟩
          · exact ⟨s, by rw [List.getElem?_set_ne (Ne.symm hj)]; exact a, b, c⟩
        · exact ⟨s, a, b, c⟩
      · exact ⟨s, a, b, c⟩
theorem drop_cons {α : Type} {l : List α} {i : Nat} {d : α} (h : l[i]? = some d) : l.drop i = d :: l.drop (i + 1) := by
  obtain ⟨hi, e⟩ := List.getElem?_eq_some_iff.mp h
  rw [List.drop_eq_getElem_cons hi, e]
theorem rs_for {wi : TI} {gg : TG} {tb : TS} {fi : M Its1} {tg : PyData → Gm → Option Gm} {body : MS} {ts : List Nat} (hi : RefI K W wi fi) (hg : RefG K ts gg tg) (hb : RefS K W tb body) : RefS K W (tFor wi gg tb) (sFor fi tg body) := ⟨fun H0 IO Γ σ H Γ' rr D hs e h => by
  unfold sFor at e
  rcases bnd_ok e with ⟨Γ1, ⟨items, bs⟩, e1, e2⟩ | ⟨x, e1, rfl⟩
  · refine hi.run H0 IO Γ σ H Γ1 _ _ hs e1 (fun x z => by cases z) fun items' bs' z J H1 p1 it => ?_
    cases z
    try dsimp only at e2
    split at e2
    · cases e2
    · rename_i Γ2 hb2
      split at e2
      · cases e2
      · rename_i Γ3 r hl
        cases e2
        obtain ⟨n, G, Y, w, hn, hG, hY⟩ := it Γ2 hb2
        obtain ⟨st2, _⟩ := bor_ok p1.st hb2
        have fin : ∀ {σe : L2.St} {He : Hp}, SPost K H0 IO Γ2 σ H1 Γ3 σe He → SPost K H0 IO Γ σ H (unb bs Γ1 Γ3) σe He := fun q => p1.sp.trans (unb_ok p1.st hb2 q)
        refine for_it w (fun i σi Hi => ∃ Γi, SPost K H0 IO Γ2 σ H1 Γi σi Hi ∧ sLoop tg body (items.drop i) Γi = some (Γ3, rr)) ⟨Γ2, .refl st2, hl⟩ (fun i σi Hi _ ⟨Γi, q, _⟩ => hG Hi q.frm) (fun i x σi Hi Hi' hin ⟨Γi, q, hq⟩ hy => ?_) fun σi Hi ⟨Γi, q, hq⟩ => ?_
        · obtain ⟨gr, d, hd, kd⟩ := hY i Hi x Hi' hin q.frm hy
          rw [drop_cons hd] at hq
          unfold sLoop at hq
          split at hq
          · cases hq
          · rename_i Γa ha
            have q' : SPost K H0 IO Γ2 σ H1 Γi σi Hi' := q.trans (EPost.grow q.st gr).sp
            refine hg.run H0 IO Γi σi Hi' d x Γa _ q'.st kd ha fun σa pa _ _ => ?_
            have qa := q'.trans pa
            cases hbody : body Γa with
            | none => rw [hbody] at hq; cases hq
            | some res =>
              obtain ⟨Γb, rb⟩ := res
              rw [hbody] at hq
              refine hb.run H0 IO Γa σa Hi' Γb rb _ qa.st hbody ?_
              cases rb with
              | error x =>
                cases hq
                exact fun σ' H' p => h σ' H' (fin (qa.trans p))
              | ok o =>
                cases o with
                | next => exact fun σ' H' p => ⟨Γb, qa.trans p, hq⟩
                | cont => exact fun σ' H' p => ⟨Γb, qa.trans p, hq⟩
                | brk => cases hq; exact fun σ' H' p => h σ' H' (fin (qa.trans p))
                | ret v => cases hq; exact fun x σ' H' p k => h x σ' H' (fin (qa.trans p)) (VOk.unb (k.back fun b hb => p1.dom (qa.dom hb)))
        · rw [hn, List.drop_length] at hq
          cases hq
          exact h σi Hi (fin q)
  · exact hi.run H0 IO Γ σ H Γ' _ _ hs e1 (fun y z H' p => by cases z; exact h.err H' p) fun items bs z => by cases z⟩
end
end Vf
end

section
set_option Elab.async false
set_option linter.all false
set_option maxRecDepth 100000
namespace Vf
open PySem PySem.Spec PyProof.Rows L2
variable [Tabs]
section
variable {K : PySem.W.Frag} {H0 H H' H1 H2 Hs : Hp} {IO : Ctl} {Γ Γ' Γ1 Γ2 : Gm} {σ σ' σ1 σ2 : L2.St}
variable {W : Ex → L2.St → Hp → Prop} {ta tb te to : TE} {fa fb fe fo : M Val} {tt : TT} {ft : M Bool} {t u : TS} {f g : MS} {tA : TA} {fA : M (List Val)}

/-! ### sources of walks -/
def chars (z : Str) : List PyData := z.cps.toList.map fun c => .str ⟨#[c]⟩
def eIter (fe : M Val) : M Its1 := bnd fe fun v => fun Γ => match v with
  | .im (.tuple ds) => some (Γ, .ok (ds, none))
  | .im (.str z) => some (Γ, .ok (chars z, none))
  | .nw ds => some (Γ, .ok (ds, none))
  | .sl i => match Γ[i]? with
    | some (.ow ds) => some (Γ, .ok (ds, some i))
    | some (.bo ds) => some (Γ, .ok (ds, some i))
    | _ => none
  | _ => none
def iStr' (te : TE) : TI := fun σ H R => te σ H fun x H1 => ∃ z, x = .str z ∧ R (Its z) H1
def iSeq (K : PySem.W.Frag) (te : TE) : TI := fun σ H R => te σ H fun x H1 => (∃ a, x = .ref a ∧ (∃ xs, SqL K H1 a xs) ∧ R (Itl K a) H1) ∨ (∃ a, x = .ref a ∧ (∃ xs, SqT K H1 a xs) ∧ R (Itt K a) H1) ∨ ∃ z, x = .str z ∧ R (Its z) H1
theorem walkL_ok {a : Addr} {vs : List V} {ds : List PyData} {bs : Option Nat} (hs : StOk K H0 IO Γ σ H) (h : Rd H a (.lst vs)) (k : ImAll K H vs ds) (nm : ∀ Γb, bor bs Γ = some Γb → ¬ Mu Γb σ a) : ItOk K Γ σ H bs ds (Itl K a) := fun Γb hb => by
  have lsb : Lsts (Mu Γb σ) H := (bor_ok hs hb).1.lsts
  have keep : ∀ H1, Frm (Mu Γb σ) H H1 → SqL K H1 a vs := fun H1 f => by
    rcases h with h | ⟨o, h⟩
    · exact .inl (.inl (f.lst h (nm Γb hb)))
    · exact .inl (.inr ⟨o, f.keep h (nm Γb hb) fun _ z => by cases z⟩)
  refine ⟨_, _, _, walk_list (K := K) (a := a) (xs := vs), k.length, keep, fun i H1 x H2 hi f y => ?_⟩
  obtain ⟨rfl, hx⟩ := y
  obtain ⟨d, e, q⟩ := k.getV hx
  exact ⟨.refl, d, e, q.tk (f.tk lsb)⟩
theorem walkT_ok {a : Addr} {vs : List V} {ds : List PyData} (hs : StOk K H0 IO Γ σ H) (h : SqT K H a vs) (k : ImAll K H vs ds) : ItOk K Γ σ H none ds (Itt K a) := fun Γb hb => by
  have lsb : Lsts (Mu Γb σ) H := (bor_ok hs hb).1.lsts
  refine ⟨_, _, _, walk_tup (K := K) (a := a) (xs := vs), k.length, fun H1 f => h.imp ((f.tk lsb).rd a vs) id, fun i H1 x H2 hi f y => ?_⟩
  obtain ⟨rfl, hx⟩ := y
  obtain ⟨d, e, q⟩ := k.getV hx
  exact ⟨.refl, d, e, q.tk (f.tk lsb)⟩
theorem walkS_ok {z : Str} : ItOk K Γ σ H none (chars z) (Its z) := fun Γb hb =>
  ⟨_, _, _, walk_str (z := z), by simp [chars], fun _ _ => trivial, fun i H1 x H2 hi f ⟨e, c, hc, hx⟩ => by
    subst e hx
    refine ⟨.refl, .str ⟨#[c]⟩, ?_, ⟨rfl, .str _⟩⟩
    unfold chars
    rw [List.getElem?_map, Array.getElem?_toList, hc]
    rfl⟩
theorem ri_seq (he : RefT K W te fe) : RefI K W (iSeq K te) (eIter fe) := ⟨fun H0 IO Γ σ H Γ' r R hs e hx hR => by
  refine he.then hs e (fun x H' z p => hx x z H' p) fun Γ1 v x H1 e1 p1 k1 => ?_
  try dsimp only at e1
  split at e1
  · rename_i ds
    cases e1
    obtain ⟨p, vs, rfl, a, b⟩ := im_tuple k1
    exact .inr (.inl ⟨p, rfl, ⟨vs, a⟩, hR _ _ rfl _ _ p1 (walkT_ok p1.st a b)⟩)
  · rename_i z
    cases e1
    exact .inr (.inr ⟨z, im_str k1, hR _ _ rfl _ _ p1 walkS_ok⟩)
  · rename_i ds
    cases e1
    obtain ⟨p, vs, rfl, a, b, c⟩ := k1
    refine .inl ⟨p, rfl, ⟨vs, .inl (.inl a)⟩, hR _ _ rfl _ _ p1 (walkL_ok p1.st (.inl a) b fun Γb hb m => ?_)⟩
    cases hb
    obtain ⟨xs, z⟩ := p1.lsts hs p m
    rw [c] at z; cases z
  · rename_i i
    obtain ⟨s, a, b, c⟩ := k1
    split at e1
    · rename_i ds h
      cases e1
      have k := p1.st.ok i _ _ h c
      obtain ⟨p, vs, z, k2, k3⟩ := k
      cases z
      refine .inl ⟨p, rfl, ⟨vs, .inl (.inl k2)⟩, hR _ _ rfl _ _ p1 (walkL_ok p1.st (.inl k2) k3 fun Γb hb m => ?_)⟩
      simp only [bor, h] at hb
      cases hb
      have hi := (List.getElem?_eq_some_iff.mp h).1
      obtain ⟨j, t, m1, m2, m3⟩ := m
      by_cases hj : j = i
      · subst hj; rw [List.getElem?_set_self hi] at m1; cases m1; simp [muS] at m2
      · rw [List.getElem?_set_ne (Ne.symm hj)] at m1
        exact hj (p1.st.uniq j i t _ p m1 m2 m3 h rfl c)
    · rename_i ds h
      cases e1
      have k := p1.st.ok i _ _ h c
      obtain ⟨p, vs, z, k2, k3⟩ := k
      cases z
      refine .inl ⟨p, rfl, ⟨vs, .inl k2⟩, hR _ _ rfl _ _ p1 (walkL_ok p1.st k2 k3 fun Γb hb m => ?_)⟩
      simp only [bor, h] at hb
      cases hb
      exact p1.st.bosep i ds p h c m
    · cases e1
  · cases e1⟩
theorem pi_seq {X : Cx} {tg l : Expr} {tl : TE} (hl : PE X l tl) : PI X tg l (iSeq X.K tl) := by
  refine ⟨fun pins s σ H R I h => ?_⟩
  refine thn (hl.run pins s σ H _ I h) fun v s1 ⟨x, H1, I1, r1, q1⟩ => ?_
  have pc : ∀ {w : TI}, PI X tg l w → True := fun _ => trivial
  rcases q1 with q1 | q1 | q1
  · obtain ⟨a, e, ⟨xs, hq⟩, q⟩ := q1
    subst e
    cases r1
    obtain ⟨its, rv, p, hz⟩ := I1.list hq
    refine wpAny_pyIter_list p.isList ?_
    refine ⟨s1.heap.objs.size, [s1.heap.objs.size], _, _, H1, rfl, I1.kept (t' := s1.toks) fun b o e => Heap.get?_push_of_some _ e, turn_list a _, ⟨_, Heap.get?_push_size _ rfl, rfl, rfl⟩, fun b hb => ?_, q⟩
    have e : b = s1.heap.objs.size := by simpa using hb
    subst e
    exact I1.fpOk (Nat.le_refl _) (I1.hok.fresh (Nat.le_refl _))
  · obtain ⟨a, e, ⟨xs, hq⟩, q⟩ := q1
    subst e
    cases r1
    obtain ⟨its, rv, p, hz⟩ := I1.tuple hq
    refine wpAny_pyIter_tuple (show s1.heap.IsTuple a its.toArray from p) ?_
    refine ⟨s1.heap.objs.size, [s1.heap.objs.size], _, _, H1, rfl, I1.kept (t' := s1.toks) fun b o e => Heap.get?_push_of_some _ e, turn_tuple a _, ⟨_, Heap.get?_push_size _ rfl, rfl, rfl⟩, fun b hb => ?_, q⟩
    have e : b = s1.heap.objs.size := by simpa using hb
    subst e
    exact I1.fpOk (Nat.le_refl _) (I1.hok.fresh (Nat.le_refl _))
  · obtain ⟨z, e, q⟩ := q1
    subst e
    obtain ⟨t, rfl⟩ := r1
    cases ha : z.cps.all (· < 128)
    · exact wpAny_pyIter_wide ha (pi_one (tk := s1.toks) I1 _ (turn_str _ z t "str_iterator" (.inr rfl)) ⟨_, Heap.get?_push_size _ rfl, rfl, rfl⟩ q)
    · exact wpAny_pyIter_ascii ha (pi_one (tk := s1.toks) I1 _ (turn_str _ z t "str_ascii_iterator" (.inl rfl)) ⟨_, Heap.get?_push_size _ rfl, rfl, rfl⟩ q)
def eRange1 (fA : M (List Val)) : M Its1 := bnd fA fun vs => fun Γ => match vs with
  | [.im (.int j)] => if -(2 ^ 62) ≤ j ∧ j < 2 ^ 62 then some (Γ, .ok ((List.range j.toNat).map fun (i : Nat) => PyData.int (i : Int), none)) else none
  | _ => none
theorem walkR_ok {lo : Int} {n : Nat} : ItOk K Γ σ H none ((List.range n).map fun (i : Nat) => PyData.int (lo + (i : Int))) (Itr lo n) := fun Γb hb =>
  ⟨_, _, _, walk_range (lo := lo) (n := n), by simp, fun _ _ => trivial, fun i H1 x H2 hi f ⟨e, hx⟩ => by
    subst e hx
    refine ⟨.refl, .int (lo + i), ?_, ⟨rfl, .int _⟩⟩
    rw [List.getElem?_map, List.getElem?_range hi]
    rfl⟩
theorem ri_range1 (ha : RefA K W tA fA) : RefI K W (iRng1 tA) (eRange1 fA) := ⟨fun H0 IO Γ σ H Γ' r R hs e hx hR => by
  refine ha.then hs e (fun x H' z p => hx x z H' p) fun Γ1 vs xs H1 e1 p1 k1 => ?_
  try dsimp only at e1
  split at e1
  · rename_i j
    split at e1
    · rename_i hj
      cases e1
      cases k1 with
      | cons k kr =>
        cases kr
        refine ⟨j, by rw [im_int k], hj.1, hj.2, hR _ _ rfl _ _ p1 ?_⟩
        have := walkR_ok (K := K) (Γ := Γ') (σ := σ) (H := H1) (lo := 0) (n := j.toNat)
        simpa using this
    · cases e1
  · cases e1⟩
def eRange2 (fA : M (List Val)) : M Its1 := bnd fA fun vs => fun Γ => match vs with
  | [.im (.int i), .im (.int j)] => if (-(2 ^ 62) ≤ i ∧ i < 2 ^ 62) ∧ -(2 ^ 62) ≤ j ∧ j < 2 ^ 62 then some (Γ, .ok ((List.range (j - i).toNat).map fun (k : Nat) => PyData.int (i + (k : Int)), none)) else none
  | _ => none
theorem ri_range2 (ha : RefA K W tA fA) : RefI K W (iRng2 tA) (eRange2 fA) := ⟨fun H0 IO Γ σ H Γ' r R hs e hx hR => by
  refine ha.then hs e (fun x H' z p => hx x z H' p) fun Γ1 vs xs H1 e1 p1 k1 => ?_
  try dsimp only at e1
  split at e1
  · rename_i i j
    split at e1
    · rename_i hj
      cases e1
      cases k1 with
      | cons k kr =>
        cases kr with
        | cons k' kr =>
          cases kr
          exact ⟨i, j, by rw [im_int k, im_int k'], ⟨hj.1.1, hj.1.2, hj.2.1, hj.2.2⟩, hR _ _ rfl _ _ p1 walkR_ok⟩
    · cases e1
  · cases e1⟩

/-! ### comprehensions -/
def clr : List Nat → Gm → Option Gm
  | [], Γ => some Γ
  | v :: vs, Γ => match clr vs Γ with
    | none => none
    | some Γ1 => match Γ1[v]? with
      | some .em => some (Γ1.set v .em)
      | some (.im _) => some (Γ1.set v .em)
      | _ => none
/-- the slots vs as they stood in Γ0 -/
def rst (vs : List Nat) (Γ0 Γ : Gm) : Gm := match vs with
  | [] => Γ
  | v :: vs => match Γ0[v]? with
    | some s => (rst vs Γ0 Γ).set v s
    | none => rst vs Γ0 Γ
theorem clr_at : ∀ {vs : List Nat} {Γ Γc : Gm}, clr vs Γ = some Γc → Γc.length = Γ.length ∧ (∀ i, i ∉ vs → Γc[i]? = Γ[i]?) ∧ ∀ i, i ∈ vs → Γc[i]? = some .em ∧ (Γ[i]? = some .em ∨ ∃ d, Γ[i]? = some (.im d))
  | [], Γ, Γc, e => by cases e; exact ⟨rfl, fun _ _ => rfl, fun i h => by cases h⟩
  | v :: vs, Γ, Γc, e => by
    simp only [clr] at e
    split at e
    · cases e
    · rename_i Γ1 h1
      obtain ⟨l1, o1, m1⟩ := clr_at h1
      have core : ∀ s, Γ1[v]? = some s → (s = .em ∨ ∃ d, s = .im d) → Γc = Γ1.set v .em → _ := fun s hv hs hc => by
        subst hc
        have hv' := (List.getElem?_eq_some_iff.mp hv).1
        refine (⟨by simp [l1], fun i hi => ?_, fun i hi => ?_⟩ : (Γ1.set v .em).length = Γ.length ∧ (∀ i, i ∉ v :: vs → (Γ1.set v .em)[i]? = Γ[i]?) ∧ ∀ i, i ∈ v :: vs → (Γ1.set v .em)[i]? = some .em ∧ (Γ[i]? = some .em ∨ ∃ d, Γ[i]? = some (.im d)))
        · simp only [List.mem_cons, not_or] at hi
          rw [List.getElem?_set_ne (Ne.symm hi.1)]
          exact o1 i hi.2
        · by_cases z : i = v
          · subst z
            refine ⟨List.getElem?_set_self hv', ?_⟩
            by_cases m : i ∈ vs
            · exact (m1 i m).2
            · rw [← o1 i m, hv]
              rcases hs with rfl | ⟨d, rfl⟩
              · exact .inl rfl
              · exact .inr ⟨d, rfl⟩
          · rw [List.getElem?_set_ne (Ne.symm z)]
            rcases List.mem_cons.mp hi with q | q
            · exact absurd q z
            · exact m1 i q
      split at e
      · rename_i h; cases e; exact core _ h (.inl rfl) rfl
      · rename_i d h; cases e; exact core _ h (.inr ⟨d, rfl⟩) rfl
      · cases e
theorem rst_at : ∀ {vs : List Nat} {Γ0 Γ : Gm}, Γ.length = Γ0.length → (rst vs Γ0 Γ).length = Γ.length ∧ (∀ i, i ∉ vs → (rst vs Γ0 Γ)[i]? = Γ[i]?) ∧ ∀ i, i ∈ vs → (rst vs Γ0 Γ)[i]? = Γ0[i]?
  | [], Γ0, Γ, _ => ⟨rfl, fun _ _ => rfl, fun i h => by cases h⟩
  | v :: vs, Γ0, Γ, hl => by
    obtain ⟨l1, o1, m1⟩ := rst_at (vs := vs) hl
    unfold rst
    split
    · rename_i s hv
      have hv' : v < (rst vs Γ0 Γ).length := by rw [l1, hl]; exact (List.getElem?_eq_some_iff.mp hv).1
      refine ⟨by simp [l1], fun i hi => ?_, fun i hi => ?_⟩
      · simp only [List.mem_cons, not_or] at hi
        rw [List.getElem?_set_ne (Ne.symm hi.1)]
        exact o1 i hi.2
      · by_cases z : i = v
        · subst z; rw [List.getElem?_set_self hv', hv]
        · rw [List.getElem?_set_ne (Ne.symm z)]
          rcases List.mem_cons.mp hi with q | q
          · exact absurd q z
          · exact m1 i q
    · rename_i hv
      refine ⟨l1, fun i hi => ?_, fun i hi => ?_⟩
      · simp only [List.mem_cons, not_or] at hi
        exact o1 i hi.2
      · by_cases z : i = v
        · subst z
          rw [hv]
          have : Γ0.length ≤ i := List.getElem?_eq_none_iff.mp hv
          rw [List.getElem?_eq_none]
          rw [l1, hl]; exact this
        · rcases List.mem_cons.mp hi with q | q
          · exact absurd q z
          · exact m1 i q
theorem wipe_at (σ : L2.St) : ∀ (vs : List Nat), (∀ i, i ∉ vs → (wipe σ vs)[i]? = σ[i]?) ∧ ∀ i, i ∈ vs → i < σ.length → (wipe σ vs)[i]? = some none
  | [] => ⟨fun _ _ => rfl, fun i h => by cases h⟩
  | v :: vs => by
    obtain ⟨o, m⟩ := wipe_at σ vs
    refine ⟨fun i hi => ?_, fun i hi hl => ?_⟩
    · simp only [List.mem_cons, not_or] at hi
      show ((wipe σ vs).set v none)[i]? = _
      rw [List.getElem?_set_ne (Ne.symm hi.1)]
      exact o i hi.2
    · show ((wipe σ vs).set v none)[i]? = _
      by_cases z : i = v
      · subst z
        rw [List.getElem?_set_self (by rw [wipe_length]; exact hl)]
      · rw [List.getElem?_set_ne (Ne.symm z)]
        rcases List.mem_cons.mp hi with q | q
        · exact absurd q z
        · exact m i q hl
theorem wipe_eq {vs : List Nat} (hl : σ'.length = σ.length) (h : ∀ j, j ∉ vs → σ'[j]? = σ[j]?) : wipe σ' vs = wipe σ vs := by
  apply List.ext_getElem?
  intro i
  by_cases m : i ∈ vs
  · by_cases hi : i < σ.length
    · rw [(wipe_at σ' vs).2 i m (by omega), (wipe_at σ vs).2 i m hi]
    · rw [List.getElem?_eq_none (by rw [wipe_length]; omega), List.getElem?_eq_none (by rw [wipe_length]; omega)]
  · rw [(wipe_at σ' vs).1 i m, (wipe_at σ vs).1 i m, h i m]
theorem clr_mu {vs : List Nat} {Γc : Gm} (e : clr vs Γ = some Γc) : Mu Γc (wipe σ vs) = Mu Γ σ := by
  obtain ⟨l, o, m⟩ := clr_at e
  obtain ⟨wo, wm⟩ := wipe_at σ vs
  funext q
  refine propext ⟨fun ⟨i, s, a, b, c⟩ => ?_, fun ⟨i, s, a, b, c⟩ => ?_⟩
  · by_cases h : i ∈ vs
    · rw [(m i h).1] at a; cases a; simp [muS] at b
    · exact ⟨i, s, by rw [← o i h]; exact a, b, by rw [← wo i h]; exact c⟩
  · by_cases h : i ∈ vs
    · rcases (m i h).2 with z | ⟨d, z⟩ <;> (rw [a] at z; cases z; simp [muS] at b)
    · exact ⟨i, s, by rw [o i h]; exact a, b, by rw [wo i h]; exact c⟩
theorem clr_ok {vs : List Nat} {Γc : Gm} (hs : StOk K H0 IO Γ σ H) (e : clr vs Γ = some Γc) : StOk K H0 IO Γc (wipe σ vs) H := by
  obtain ⟨l, o, m⟩ := clr_at e
  obtain ⟨wo, wm⟩ := wipe_at σ vs
  have back : ∀ {i : Nat} {s : Slot}, Γc[i]? = some s → s ≠ .em → Γ[i]? = some s ∧ (wipe σ vs)[i]? = σ[i]? := fun {i s} a n => by
    by_cases h : i ∈ vs
    · rw [(m i h).1] at a; cases a; exact absurd rfl n
    · exact ⟨by rw [← o i h]; exact a, wo i h⟩
  have mu : ∀ {s : Slot}, muS s = true → s ≠ .em := fun h z => by subst z; simp [muS] at h
  refine ⟨by rw [l, wipe_length]; exact hs.len, fun i s x a b => ?_, fun i j s t p a1 a2 a3 b1 b2 b3 => ?_, fun i ds p a b q => ?_, fun i ds p a b => ?_, fun j p h => ?_, fun j ds p a b => ?_, hs.ioL, hs.frm⟩
  · by_cases z : s = .em
    · subst z; trivial
    · obtain ⟨c1, c2⟩ := back a z
      rw [c2] at b
      exact hs.ok i s x c1 b
  · obtain ⟨c1, c2⟩ := back a1 (mu a2)
    obtain ⟨d1, d2⟩ := back b1 (mu b2)
    rw [c2] at a3; rw [d2] at b3
    exact hs.uniq i j s t p c1 a2 a3 d1 b2 b3
  · obtain ⟨c1, c2⟩ := back a (fun z => by cases z)
    rw [c2] at b
    rw [clr_mu e] at q
    exact hs.bosep i ds p c1 b q
  · obtain ⟨c1, c2⟩ := back a (fun z => by cases z)
    rw [c2] at b
    exact hs.fresh i ds p c1 b
  · obtain ⟨a, ds, b⟩ := hs.ioA j p h
    have hj : j ∉ vs := fun z => by
      rcases (m j z).2 with q | ⟨d, q⟩ <;> (rw [b] at q; cases q)
    exact ⟨by rw [wo j hj]; exact a, ds, by rw [o j hj]; exact b⟩
  · obtain ⟨c1, c2⟩ := back a (fun z => by cases z)
    rw [c2] at b
    exact hs.ioB j ds p c1 b
theorem rst_ok {vs : List Nat} {Γc Γe : Gm} (hs : StOk K H0 IO Γ σ H) (e : clr vs Γ = some Γc) (p : EPost K H0 IO Γc (wipe σ vs) H Γe H') : EPost K H0 IO Γ σ H (rst vs Γ Γe) H' := by
  obtain ⟨l, o, m⟩ := clr_at e
  obtain ⟨wo, wm⟩ := wipe_at σ vs
  obtain ⟨rl, ro, rm⟩ := rst_at (vs := vs) (Γ0 := Γ) (Γ := Γe) (by rw [p.shp.len, l])
  have frm : Frm (Mu Γ σ) H H' := by rw [← clr_mu e]; exact p.frm
  have tk : Tk H H' := frm.tk hs.lsts
  have nmu : ∀ {i : Nat} {s : Slot}, i ∈ vs → (rst vs Γ Γe)[i]? = some s → s = .em ∨ ∃ d, s = .im d := fun {i s} h a => by
    rw [rm i h] at a
    rcases (m i h).2 with z | ⟨d, z⟩
    · rw [a] at z; cases z; exact .inl rfl
    · rw [a] at z; cases z; exact .inr ⟨d, rfl⟩
  have out : ∀ {i : Nat} {s : Slot}, (rst vs Γ Γe)[i]? = some s → (s ≠ .em) → (∀ d, s ≠ .im d) → i ∉ vs ∧ Γe[i]? = some s ∧ (wipe σ vs)[i]? = σ[i]? := fun {i s} a n1 n2 => by
    have h : i ∉ vs := fun h => by
      rcases nmu h a with z | ⟨d, z⟩
      · exact n1 z
      · exact n2 d z
    exact ⟨h, by rw [← ro i h]; exact a, wo i h⟩
  have mu : ∀ {s : Slot}, muS s = true → s ≠ .em ∧ ∀ d, s ≠ .im d := fun h => ⟨fun z => by subst z; simp [muS] at h, fun d z => by subst z; simp [muS] at h⟩
  have shp : Shp Γ (rst vs Γ Γe) := ⟨by rw [rl, p.shp.len, l], fun i s s' a b => by
    by_cases h : i ∈ vs
    · rw [rm i h, a] at b; cases b; exact .refl
    · rw [ro i h] at b
      exact p.shp.at_ i s s' (by rw [o i h]; exact a) b⟩
  have muE : ∀ q, Mu (rst vs Γ Γe) σ q → Mu Γe (wipe σ vs) q := fun q ⟨i, s, a, b, c⟩ => by
    obtain ⟨h, x, y⟩ := out a (mu b).1 (mu b).2
    exact ⟨i, s, x, b, by rw [y]; exact c⟩
  refine ⟨⟨by rw [rl, p.shp.len, l]; exact hs.len, fun i s x a b => ?_, fun i j s t q a1 a2 a3 b1 b2 b3 => ?_, fun i ds q a b z => ?_, fun i ds q a b => ?_, fun j q h => ?_, fun j ds q a b => ?_, hs.ioL, p.st.frm⟩, frm, shp⟩
  · by_cases h : i ∈ vs
    · rw [rm i h] at a
      have k := hs.ok i s x a b
      rcases (m i h).2 with z | ⟨d, z⟩
      · rw [a] at z; cases z; trivial
      · rw [a] at z; cases z
        obtain ⟨v, k1, k2⟩ := k
        exact ⟨v, k1, k2.tk tk⟩
    · rw [ro i h] at a
      exact p.st.ok i s x a (by rw [wo i h]; exact b)
  · obtain ⟨_, c1, c2⟩ := out a1 (mu a2).1 (mu a2).2
    obtain ⟨_, d1, d2⟩ := out b1 (mu b2).1 (mu b2).2
    exact p.st.uniq i j s t q c1 a2 (by rw [c2]; exact a3) d1 b2 (by rw [d2]; exact b3)
  · obtain ⟨_, c1, c2⟩ := out a (fun z => by cases z) (fun _ z => by cases z)
    exact p.st.bosep i ds q c1 (by rw [c2]; exact b) (muE q z)
  · obtain ⟨_, c1, c2⟩ := out a (fun z => by cases z) (fun _ z => by cases z)
    exact p.st.fresh i ds q c1 (by rw [c2]; exact b)
  · obtain ⟨a, ds, b⟩ := p.st.ioA j q h
    have hj : j ∉ vs := fun z => by
      have := p.shp.at_ j _ _ (m j z).1 b
      rcases this with w | ⟨_, _, w, _⟩ | ⟨_, _, w, _⟩ <;> cases w
    exact ⟨by rw [← wo j hj]; exact a, ds, by rw [ro j hj]; exact b⟩
  · obtain ⟨_, c1, c2⟩ := out a (fun z => by cases z) (fun _ z => by cases z)
    exact p.st.ioB j ds q c1 (by rw [c2]; exact b)
def eLoop (vs : List Nat) (tg : PyData → Gm → Option Gm) (ft : M Bool) (fe : M Val) : List PyData → List PyData → Gm → Option (Gm × List PyData)
  | [], acc, Γ => some (Γ, acc)
  | d :: r, acc, Γ => match tg d Γ with
    | none => none
    | some Γ1 => match ft Γ1 with
      | some (Γ2, .ok true) => match fe Γ2 with
        | some (Γ3, .ok (.im e)) => if acc.length < 1000000 then match clr vs Γ3 with
          | some Γ4 => eLoop vs tg ft fe r (acc ++ [e]) Γ4
          | none => none
          else none
        | _ => none
      | some (Γ2, .ok false) => match clr vs Γ2 with
        | some Γ4 => eLoop vs tg ft fe r acc Γ4
        | none => none
      | _ => none
def eLc (vs : List Nat) (fi : M Its1) (tg : PyData → Gm → Option Gm) (ft : M Bool) (fe : M Val) : M Val := bnd fi fun x => fun Γ1 => match bor x.2 Γ1 with
  | none => none
  | some Γ2 => match clr vs Γ2 with
    | none => none
    | some Γ3 => match eLoop vs tg ft fe x.1 [] Γ3 with
      | none => none
      | some (Γ4, acc) => some (unb x.2 Γ1 (rst vs Γ2 Γ4), .ok (.nw acc))
def bYes : M Bool := M.pure true
theorem rb_yes : RefB K W tYes bYes := ⟨fun H0 IO Γ σ H Γ' rr Q hs e hQ => by cases e; exact hQ H (.refl hs)⟩
abbrev WF : Ex → L2.St → Hp → Prop := fun _ _ _ => False
/-- no slot's list stands at D -/
def NoSl (Γ : Gm) (σ : L2.St) (D : Addr) : Prop := ∀ (i : Nat) (s : Slot), Γ[i]? = some s → isL s = true → σ[i]? ≠ some (some (.ref D))
theorem StOk.noSl {D : Addr} (hs : StOk K H0 IO Γ σ H) (h : H D = none) : NoSl Γ σ D := fun i s a b c => by
  have k := hs.ok i s _ a c
  cases s with
  | em => simp [isL] at b
  | im d => simp [isL] at b
  | ow d => obtain ⟨p, vs, z, k, _⟩ := k; cases z; rw [h] at k; cases k
  | io d => obtain ⟨p, vs, z, k, _⟩ := k; cases z; rw [h] at k; cases k
  | bo d => obtain ⟨p, vs, z, k, _⟩ := k; cases z; rcases k with k | ⟨_, k⟩ <;> (rw [h] at k; cases k)
theorem NoSl.shp {D : Addr} (h : NoSl Γ σ D) (s : Shp Γ Γ') : NoSl Γ' σ D := fun i t a b c => by
  obtain ⟨t0, z, d⟩ := s.bwd a
  exact h i t0 z (by rw [← d.isL]; exact b) c
/-- an object that no slot has is written -/
theorem StOk.aside {D : Addr} {xs : List V} (hs : StOk K H0 IO Γ σ H) (hn : NoSl Γ σ D) (h0 : H0 D = none) (tk : Tk H (upd H D (.lst xs))) : StOk K H0 IO Γ σ (upd H D (.lst xs)) where
  len := hs.len
  ok := fun i s x a b => by
    have k := hs.ok i s x a b
    cases s with
    | em => trivial
    | im d => obtain ⟨v, k1, k2⟩ := k; exact ⟨v, k1, k2.tk tk⟩
    | ow d =>
      obtain ⟨p, vs, rfl, k2, k3⟩ := k
      exact ⟨p, vs, rfl, by rw [upd_ne (fun z => hn i _ a rfl (by rw [← z]; exact b))]; exact k2, k3.tk tk⟩
    | io d =>
      obtain ⟨p, vs, rfl, k2, k3⟩ := k
      exact ⟨p, vs, rfl, by rw [upd_ne (fun z => hn i _ a rfl (by rw [← z]; exact b))]; exact k2, k3.tk tk⟩
    | bo d =>
      obtain ⟨p, vs, rfl, k2, k3⟩ := k
      have np : p ≠ D := fun z => hn i _ a rfl (by rw [← z]; exact b)
      refine ⟨p, vs, rfl, ?_, k3.tk tk⟩
      rcases k2 with k2 | ⟨o, k2⟩
      · exact .inl (by rw [upd_ne np]; exact k2)
      · exact .inr ⟨o, by rw [upd_ne np]; exact k2⟩
  uniq := hs.uniq
  bosep := hs.bosep
  fresh := hs.fresh
  ioA := hs.ioA
  ioB := hs.ioB
  ioL := hs.ioL
  frm := hs.frm.put_new h0 fun m => by
    obtain ⟨ys, z⟩ := hs.ioL.1 D m
    rw [h0] at z; cases z
theorem rt_lc {vs ts : List Nat} {wi : TI} {gg : TG} {fi : M Its1} {tg : PyData → Gm → Option Gm} (hi : RefI K W wi fi) (hg : RefG K ts gg tg) (hts : ∀ j ∈ ts, j ∈ vs) (hb : RefB K WF tt ft) (he : RefT K WF te fe) :
    RefT K W (tLc wi gg tt te vs) (eLc vs fi tg ft fe) := ⟨fun H0 IO Γ σ H Γ' rr Q hs e hQ => by
  unfold eLc at e
  rcases bnd_ok e with ⟨Γ1, ⟨items, bs⟩, e1, e2⟩ | ⟨x, e1, rfl⟩
  · refine hi.run H0 IO Γ σ H Γ1 _ _ hs e1 (fun x z => by cases z) fun items' bs' z J H1 p1 it D hD => ?_
    cases z
    try dsimp only at e2
    split at e2
    · cases e2
    · rename_i Γ2 hb2
      split at e2
      · cases e2
      · rename_i Γ3 hc3
        split at e2
        · cases e2
        · rename_i Γ4 acc hl
          cases e2
          obtain ⟨n, G, Y, w, hn, hG, hY⟩ := it Γ2 hb2
          obtain ⟨st2, sub2⟩ := bor_ok p1.st hb2
          have st3 : StOk K H0 IO Γ3 (wipe σ vs) H1 := clr_ok st2 hc3
          have mu3 : Mu Γ3 (wipe σ vs) = Mu Γ2 σ := clr_mu hc3
          have no3 : NoSl Γ3 (wipe σ vs) D := st3.noSl hD
          have nmD : ¬ Mu Γ3 (wipe σ vs) D := fun m => by
            obtain ⟨ys, z⟩ := st3.lsts D m
            rw [hD] at z; cases z
          have h0D : H0 D = none := st3.frm.dom hD
          have g0 : Grow H1 (upd H1 D (.lst [])) := Grow.new hD
          refine lc_it w (fun i Hi => ∃ Γi xs as, EPost K H0 IO Γ3 (wipe σ vs) H1 Γi Hi ∧ Hi D = some (.lst xs) ∧ ImAll K Hi xs as ∧ eLoop vs tg ft fe (items.drop i) as Γi = some (Γ4, acc))
            ⟨Γ3, [], [], EPost.grow st3 g0, upd_same, .nil, hl⟩ (fun i Hi _ ⟨Γi, xs, as, q, _⟩ => hG Hi (by rw [← mu3]; exact q.frm)) (fun i x Hi Hi' hin ⟨Γi, xs, as, q, hDl, kx, hq⟩ hy => ?_) fun Hi ⟨Γi, xs, as, q, hDl, kx, hq⟩ => ?_
          · obtain ⟨gr, d, hd, kd⟩ := hY i Hi x Hi' hin (by rw [← mu3]; exact q.frm) hy
            rw [drop_cons hd] at hq
            unfold eLoop at hq
            split at hq
            · cases hq
            · rename_i Γa ha
              have q' := q.fin gr
              have noi : NoSl Γi (wipe σ vs) D := no3.shp q'.shp
              have nmi : ¬ Mu Γi (wipe σ vs) D := by rw [q'.shp.muE]; exact nmD
              have hDl' : Hi' D = some (.lst xs) := gr.lst hDl fun z => z
              refine hg.run H0 IO Γi (wipe σ vs) Hi' d x Γa _ q'.st kd ha fun σa pa la oa => ?_
              have hw : wipe σa vs = wipe σ vs := by
                have e1 : wipe σa vs = wipe (wipe σ vs) vs := wipe_eq la fun j hj => oa j fun z => hj (hts j z)
                have e2 : wipe (wipe σ vs) vs = wipe σ vs := wipe_eq (wipe_length σ vs) fun j hj => (wipe_at σ vs).1 j hj
                rw [e1, e2]
              refine ⟨by first | exact hw | (rw [hw, wipe_eq (wipe_length σ vs) fun j hj => (wipe_at σ vs).1 j hj]), ?_⟩
              -- the target's slots hold data: nothing new to be written
              have nma : ∀ p, Mu Γa σa p → Mu Γi (wipe σ vs) p ∨ Hi' p = none := pa.mus
              have nmaD : ¬ Mu Γa σa D := fun m => by
                rcases nma D m with z | z
                · exact nmi z
                · rw [hDl'] at z; cases z
              have clrMu : ∀ {Γx Γy : Gm} , Shp Γa Γx → clr vs Γx = some Γy → Mu Γy (wipe σ vs) = Mu Γa σa := fun {Γx Γy} s c => by
                rw [← hw, clr_mu c, s.muE]
              -- the state behind the turn, from the one ahead
              have turn : ∀ {Γx Γy : Gm} {Hx : Hp}, EPost K H0 IO Γa σa Hi' Γx Hx → clr vs Γx = some Γy → EPost K H0 IO Γ3 (wipe σ vs) H1 Γy Hx ∧ Hx D = some (.lst xs) ∧ ImAll K Hx xs as := fun {Γx Γy Hx} px hc => by
                have sx : StOk K H0 IO Γy (wipe σ vs) Hx := by rw [← hw]; exact clr_ok px.st hc
                obtain ⟨cl, co, cm⟩ := clr_at hc
                obtain ⟨al, ao, am⟩ := clr_at hc3
                have shp : Shp Γ3 Γy := by
                  refine ⟨by rw [cl, px.shp.len]; have := pa.st.len; have h3 := st3.len; rw [wipe_length] at h3; rw [this, la, wipe_length, ← h3], fun j s s' a b => ?_⟩
                  by_cases hj : j ∈ vs
                  · rw [(am j hj).1] at a; rw [(cm j hj).1] at b; cases a; cases b; exact .refl
                  · rw [co j hj] at b
                    obtain ⟨s1, b1, d1⟩ := px.shp.bwd b
                    obtain ⟨s2, b2, d2⟩ := q'.shp.fwd a
                    have e3 : σa[j]? = (wipe σ vs)[j]? := oa j fun z => hj (hts j z)
                    have same := hg.same ha (fun z => hj (hts j z))
                    rw [same, b2] at b1
                    cases b1
                    exact d2.trans d1
                have f1 : Frm (Mu Γ3 (wipe σ vs)) H1 Hi' := q'.frm
                have f2 : Frm (Mu Γa σa) Hi' Hx := px.frm
                have f3 : Frm (Mu Γ3 (wipe σ vs)) H1 Hx := f1.trans f2 (fun b m => by
                  rcases nma b m with z | z
                  · exact .inl (q'.shp.mu.mp z)
                  · exact .inr (f1.dom z)) fun b m n ys z => ⟨ys, f2.lst z n⟩
                exact ⟨⟨sx, f3, shp⟩, f2.lst hDl' nmaD, (kx.tk gr.tk).tk (f2.tk pa.st.lsts)⟩
              cases hft : ft Γa with
              | none => rw [hft] at hq; cases hq
              | some rb =>
                obtain ⟨Γb, rb⟩ := rb
                rw [hft] at hq
                cases rb with
                | error x => cases hq
                | ok b =>
                  refine hb.run H0 IO Γa σa Hi' Γb (.ok b) _ pa.st hft fun H3 p3 => ?_
                  cases b with
                  | false =>
                    rw [if_neg Bool.false_ne_true]
                    try dsimp only at hq
                    split at hq
                    · rename_i Γy hy2
                      obtain ⟨t1, t2, t3⟩ := turn p3 hy2
                      exact ⟨Γy, xs, as, t1, t2, t3, hq⟩
                    · cases hq
                  | true =>
                    rw [if_pos rfl]
                    try dsimp only at hq
                    split at hq
                    · rename_i Γe d' hfe
                      split at hq
                      · rename_i hlen
                        split at hq
                        · rename_i Γy hy2
                          refine he.run H0 IO Γb σa H3 Γe (.ok (.im d')) _ p3.st hfe fun y H4 p4 k4 => ?_
                          obtain ⟨t1, t2, t3⟩ := turn (p3.trans p4) hy2
                          have k4' : Im K H4 y d' := k4
                          have tkD : Tk H4 (upd H4 D (.lst (xs ++ [y]))) := .upd t2
                          refine ⟨xs, t2, by rw [t3.length]; exact Nat.lt_of_lt_of_le hlen (size_ok (Nat.le_refl _)), Γy, xs ++ [y], as ++ [d'], ⟨t1.st.aside (no3.shp t1.shp) h0D tkD, t1.frm.put_new hD nmD, t1.shp⟩, upd_same, ?_, hq⟩
                          exact (t3.append (.single k4')).tk tkD
                        · cases hq
                      · cases hq
                    · cases hq
          · rw [hn, List.drop_length] at hq
            cases hq
            have r1 : EPost K H0 IO Γ2 σ H1 (rst vs Γ2 Γ4) Hi := rst_ok st2 hc3 q
            have u1 := unb_ok p1.st hb2 r1.sp
            have shpU : Shp Γ1 (unb bs Γ1 (rst vs Γ2 Γ4)) := by
              rcases bor_cases hb2 with ⟨rfl, hu⟩ | ⟨i0, ds0, rfl, h0, rfl⟩
              · rw [hu]; exact r1.shp
              · have hi0 := (List.getElem?_eq_some_iff.mp h0).1
                obtain ⟨s', a', d'⟩ := r1.shp.fwd (List.getElem?_set_self (a := Slot.bo ds0) hi0)
                have hs' : s' = .bo ds0 := by
                  rcases d' with z | ⟨_, _, z, _⟩ | ⟨_, _, z, _⟩
                  · exact z
                  · cases z
                  · cases z
                subst hs'
                simp only [unb, h0, a']
                refine ⟨by rw [List.length_set, r1.shp.len, List.length_set], fun j s s' a b => ?_⟩
                by_cases hj : j = i0
                · subst hj
                  rw [List.getElem?_set_self (List.getElem?_eq_some_iff.mp a').1] at b
                  rw [h0] at a; cases a; cases b; exact .refl
                · rw [List.getElem?_set_ne (Ne.symm hj)] at b
                  exact r1.shp.at_ j s s' (by rw [List.getElem?_set_ne (Ne.symm hj)]; exact a) b
            exact hQ (.ref D) Hi (p1.trans ⟨u1.st, u1.frm, shpU⟩) ⟨D, xs, rfl, hDl, kx, p1.dom hD⟩
  · exact hi.run H0 IO Γ σ H Γ' _ _ hs e1 (fun y z H' p => by cases z; exact hQ H' p) fun items bs z => by cases z⟩
end
end Vf
end

section
set_option Elab.async false
set_option linter.all false
set_option maxRecDepth 100000
namespace Vf
open PySem PySem.Spec PyProof.Rows L2
variable [Tabs]
section
variable {K : PySem.W.Frag} {H0 H H' H1 H2 Hs : Hp} {IO : Ctl} {Γ Γ' Γ1 Γ2 : Gm} {σ σ' σ1 σ2 : L2.St}
variable {W : Ex → L2.St → Hp → Prop} {ta tb te to : TE} {fa fb fe fo : M Val} {tt : TT} {ft : M Bool} {t u : TS} {f g : MS} {tA : TA} {fA : M (List Val)}

/-! ### several lists written at once -/
theorem StOk.change {is : Nat → Prop} (hs : StOk K H0 IO Γ σ H) (shp : Shp Γ Γ') (hm : ∀ j, is j → ∃ s, Γ[j]? = some s ∧ muS s = true) (same : ∀ j, ¬ is j → Γ'[j]? = Γ[j]?)
    (frm : Frm (fun p => ∃ j, is j ∧ σ[j]? = some (some (.ref p))) H H') (new : ∀ (j : Nat) (s' : Slot) (x : Option V), is j → Γ'[j]? = some s' → σ[j]? = some x → SlotOk K H' s' x) : EPost K H0 IO Γ σ H Γ' H' := by
  have sub : ∀ p, (∃ j, is j ∧ σ[j]? = some (some (.ref p))) → Mu Γ σ p := fun p ⟨j, a, b⟩ => by
    obtain ⟨s, c, d⟩ := hm j a
    exact ⟨j, s, c, d, b⟩
  have f1 : Frm (Mu Γ σ) H H' := frm.mono sub hs.lsts
  have tk : Tk H H' := f1.tk hs.lsts
  have not_is : ∀ {j : Nat} {s : Slot} {p : Addr}, ¬ is j → Γ[j]? = some s → isL s = true → σ[j]? = some (some (.ref p)) → ¬ ∃ i, is i ∧ σ[i]? = some (some (.ref p)) := fun {j s p} nj a b c ⟨i, d, e⟩ => by
    obtain ⟨s2, g1, g2⟩ := hm i d
    cases s with
    | em => simp [isL] at b
    | im d => simp [isL] at b
    | ow es => exact nj (by rw [hs.uniq j i _ _ p a rfl c g1 g2 e]; exact d)
    | io es => exact nj (by rw [hs.uniq j i _ _ p a rfl c g1 g2 e]; exact d)
    | bo es => exact hs.bosep j es p a c ⟨i, s2, g1, g2, e⟩
  refine ⟨⟨by rw [shp.len]; exact hs.len, fun j s x a b => ?_, fun i j s t p a1 a2 a3 b1 b2 b3 => ?_, fun j ds p a b m => ?_, fun j ds p a b => ?_, fun j p h => ?_, fun j ds p a b => ?_, hs.ioL, ?_⟩, f1, shp⟩
  · by_cases hj : is j
    · exact new j s x hj a b
    · rw [same j hj] at a
      have k := hs.ok j s x a b
      cases s with
      | em => trivial
      | im d => obtain ⟨v, k1, k2⟩ := k; exact ⟨v, k1, k2.tk tk⟩
      | ow es => obtain ⟨p, vs, rfl, k2, k3⟩ := k; exact ⟨p, vs, rfl, frm.lst k2 (not_is hj a rfl b), k3.tk tk⟩
      | io es => obtain ⟨p, vs, rfl, k2, k3⟩ := k; exact ⟨p, vs, rfl, frm.lst k2 (not_is hj a rfl b), k3.tk tk⟩
      | bo es =>
        obtain ⟨p, vs, rfl, k2, k3⟩ := k
        refine ⟨p, vs, rfl, ?_, k3.tk tk⟩
        rcases k2 with k2 | ⟨o, k2⟩
        · exact .inl (frm.lst k2 (not_is hj a rfl b))
        · exact .inr ⟨o, frm.keep k2 (not_is hj a rfl b) fun _ z => by cases z⟩
  · obtain ⟨s1, c1, d1⟩ := shp.bwd a1
    obtain ⟨t1, c2, d2⟩ := shp.bwd b1
    exact hs.uniq i j s1 t1 p c1 (by rw [← d1.mu]; exact a2) a3 c2 (by rw [← d2.mu]; exact b2) b3
  · obtain ⟨s1, c1, d1⟩ := shp.bwd a
    rcases d1 with z | ⟨_, _, _, z⟩ | ⟨_, _, _, z⟩
    · subst z; exact hs.bosep j ds p c1 b (shp.mu.mp m)
    · cases z
    · cases z
  · obtain ⟨s1, c1, d1⟩ := shp.bwd a
    rcases d1 with z | ⟨d1, _, z1, z⟩ | ⟨_, _, _, z⟩
    · subst z; exact hs.fresh j ds p c1 b
    · subst z1; exact hs.fresh j d1 p c1 b
    · cases z
  · obtain ⟨a, ds, b⟩ := hs.ioA j p h
    refine ⟨a, ?_⟩
    obtain ⟨s1, c1, d1⟩ := shp.fwd b
    rcases d1 with z | ⟨_, _, z, _⟩ | ⟨_, d2, _, z⟩
    · subst z; exact ⟨_, c1⟩
    · cases z
    · subst z; exact ⟨_, c1⟩
  · obtain ⟨s1, c1, d1⟩ := shp.bwd a
    rcases d1 with z | ⟨_, _, _, z⟩ | ⟨d1, _, z1, z⟩
    · subst z; exact hs.ioB j ds p c1 b
    · cases z
    · subst z1; exact hs.ioB j d1 p c1 b
  · refine hs.frm.trans frm (fun p ⟨j, a, b⟩ => ?_) fun p m n xs e => ⟨xs, frm.lst e n⟩
    obtain ⟨s, c, d⟩ := hm j a
    cases s with
    | em => simp [muS] at d
    | im d => simp [muS] at d
    | bo d => simp [muS] at d
    | ow es => exact .inr (hs.fresh j es p c b)
    | io es => exact .inl ⟨j, hs.ioB j es p c b⟩
def putLs : List Nat → List (List PyData) → Gm → Gm
  | i :: is, ds :: r, Γ => putLs is r (putL i ds Γ)
  | _, _, Γ => Γ
theorem putL_len {i : Nat} {ds : List PyData} : (putL i ds Γ).length = Γ.length := by
  unfold putL
  split <;> simp
theorem putL_ne {i j : Nat} {ds : List PyData} (h : j ≠ i) : (putL i ds Γ)[j]? = Γ[j]? := by
  unfold putL
  split
  · rw [List.getElem?_set_ne (Ne.symm h)]
  · rw [List.getElem?_set_ne (Ne.symm h)]
  · rfl
theorem putL_shp {i : Nat} {ds : List PyData} : Shp Γ (putL i ds Γ) := by
  unfold putL
  split
  · rename_i es h; exact .set h (.inr (.inl ⟨_, _, rfl, rfl⟩))
  · rename_i es h; exact .set h (.inr (.inr ⟨_, _, rfl, rfl⟩))
  · exact .refl
theorem putLs_shp : ∀ {is : List Nat} {r : List (List PyData)} {Γ : Gm}, Shp Γ (putLs is r Γ)
  | [], _, Γ => by unfold putLs; exact .refl
  | _ :: _, [], Γ => by unfold putLs; exact .refl
  | i :: is, ds :: r, Γ => by
    unfold putLs
    exact putL_shp.trans putLs_shp
theorem putLs_ne : ∀ {is : List Nat} {r : List (List PyData)} {Γ : Gm} {j : Nat}, j ∉ is → (putLs is r Γ)[j]? = Γ[j]?
  | [], _, Γ, j, _ => by unfold putLs; rfl
  | _ :: _, [], Γ, j, _ => by unfold putLs; rfl
  | i :: is, ds :: r, Γ, j, h => by
    simp only [List.mem_cons, not_or] at h
    unfold putLs
    rw [putLs_ne h.2, putL_ne h.1]

/-! ### what a def's arguments and results are -/
inductive Ar where
  | v (d : PyData) | l (ds : List PyData) | m (ds : List PyData)
inductive Rs where
  | v (d : PyData) | l (ds : List PyData)
abbrev FD := List Ar → Option (Except Ex Rs × List (List PyData))
def ArgOk (K : PySem.W.Frag) (H : Hp) (x : V) : Ar → Prop
  | .v d => Im K H x d
  | .l ds => ∃ p vs, x = .ref p ∧ Rd H p (.lst vs) ∧ ImAll K H vs ds
  | .m ds => ∃ p vs, x = .ref p ∧ H p = some (.lst vs) ∧ ImAll K H vs ds
/-- the address of a list that may be written -/
def ioA1 : V → Ar → Option Addr
  | .ref p, .m _ => some p
  | _, _ => none
def iosOf : List V → List Ar → List Addr
  | v :: vs, a :: as => match ioA1 v a with
    | some p => p :: iosOf vs as
    | none => iosOf vs as
  | _, _ => []
structure ArgsOk (K : PySem.W.Frag) (H : Hp) (vs : List V) (as : List Ar) : Prop where
  all : Paired (ArgOk K H) vs as
  nd : (iosOf vs as).Nodup
  sep : ∀ (i : Nat) (p : Addr) (ds : List PyData), vs[i]? = some (.ref p) → as[i]? = some (.l ds) → p ∉ iosOf vs as
def ResOk (K : PySem.W.Frag) (H H' : Hp) (x : V) : Rs → Prop
  | .v d => Im K H' x d
  | .l ds => ∃ p vs, x = .ref p ∧ H p = none ∧ H' p = some (.lst vs) ∧ ImAll K H' vs ds
abbrev OutsOk (K : PySem.W.Frag) (H' : Hp) (ps : List Addr) (outs : List (List PyData)) : Prop := Paired (fun p ds => ∃ vs, H' p = some (.lst vs) ∧ ImAll K H' vs ds) ps outs
abbrev XRT := Ex → Value → Option Addr → Hp → Prop
/-- a def's promise: it does what F says -/
def spD (K : PySem.W.Frag) (XR : XRT) (n : Nat) (F : FD) : Sp := fun vs H Q E => ∃ as r outs, vs.length = n ∧ F as = some (r, outs) ∧ ArgsOk K H vs as ∧ (∀ P ∈ Tabs.ps, GxR.TabG H P) ∧
  ∀ H', Frm (fun p => p ∈ iosOf vs as) H H' → OutsOk K H' (iosOf vs as) outs → match r with
    | .ok r => ∀ x, ResOk K H H' x r → Q x H'
    | .error e => ∀ c d, XR e c d H' → E c d H'

/-! ### a call -/
def arOf (Γ : Gm) : Bool → Val → Option Ar
  | true, .sl i => match Γ[i]? with
    | some (.ow ds) => some (.m ds)
    | some (.io ds) => some (.m ds)
    | _ => none
  | true, _ => none
  | false, v => match rdv Γ v with
    | some (.list ds) => some (.l ds)
    | some d => some (.v d)
    | none => none
def arsOf (Γ : Gm) : List Bool → List Val → Option (List Ar)
  | [], [] => some []
  | b :: bs, v :: vs => match arOf Γ b v, arsOf Γ bs vs with
    | some a, some as => some (a :: as)
    | _, _ => none
  | _, _ => none
def slM : List Bool → List Val → List Nat
  | true :: bs, .sl i :: vs => i :: slM bs vs
  | _ :: bs, _ :: vs => slM bs vs
  | _, _ => []
def slB : List Bool → List Val → List Nat
  | false :: bs, .sl i :: vs => i :: slB bs vs
  | _ :: bs, _ :: vs => slB bs vs
  | _, _ => []
def rsV : Rs → Val
  | .v d => .im d
  | .l ds => .nw ds
def eCall (mask : List Bool) (F : FD) (fA : M (List Val)) : M Val := bnd fA fun vs => fun Γ => match arsOf Γ mask vs with
  | none => none
  | some as => if (slM mask vs).Nodup ∧ ∀ i ∈ slB mask vs, i ∉ slM mask vs then match F as with
    | some (.ok r, outs) => some (putLs (slM mask vs) outs Γ, .ok (rsV r))
    | _ => none
    else none
/-- one argument -/
theorem arOf_ok {b : Bool} {v : Val} {x : V} {a : Ar} (hs : StOk K H0 IO Γ σ H) (k : VOk K Hs Γ σ H v x) (e : arOf Γ b v = some a) :
    ArgOk K H x a ∧ ((b = true ∧ ∃ i s p ds, v = .sl i ∧ Γ[i]? = some s ∧ muS s = true ∧ x = .ref p ∧ σ[i]? = some (some (.ref p)) ∧ a = .m ds) ∨ (b = false ∧ ioA1 x a = none ∧ ∀ ds p, a = .l ds → x = .ref p → (∃ i s, v = .sl i ∧ Γ[i]? = some s ∧ isL s = true ∧ σ[i]? = some (some (.ref p))) ∨ (Hs p = none ∧ ∃ ds, v = .nw ds))) := by
  cases b with
  | true =>
    cases v with
    | im d => cases e
    | nw d => cases e
    | sl i =>
      simp only [arOf] at e
      obtain ⟨s, a1, a2, a3⟩ := k
      rw [a1] at e
      have q := hs.ok i s _ a1 a3
      cases s with
      | em => cases e
      | im d => cases e
      | bo d => cases e
      | ow d => cases e; obtain ⟨p, vs, z, q1, q2⟩ := q; cases z; exact ⟨⟨p, vs, rfl, q1, q2⟩, .inl ⟨rfl, i, _, p, d, rfl, a1, rfl, rfl, a3, rfl⟩⟩
      | io d => cases e; obtain ⟨p, vs, z, q1, q2⟩ := q; cases z; exact ⟨⟨p, vs, rfl, q1, q2⟩, .inl ⟨rfl, i, _, p, d, rfl, a1, rfl, rfl, a3, rfl⟩⟩
  | false =>
    have e' : (match rdv Γ v with | some (.list ds) => some (Ar.l ds) | some d => some (Ar.v d) | none => none) = some a := by
      cases v <;> exact e
    split at e'
    · rename_i ds h
      cases e'
      obtain ⟨p, vs, rfl, q1, q2⟩ := k.rp hs h
      refine ⟨⟨p, vs, rfl, q1, q2⟩, .inr ⟨rfl, rfl, fun ds' p' z1 z2 => ?_⟩⟩
      cases z2
      cases v with
      | im d =>
        cases h
        obtain ⟨w, _⟩ := k
        simp [imm] at w
      | nw d => obtain ⟨p2, vs2, z, _, _, n⟩ := k; cases z; exact .inr ⟨n, _, rfl⟩
      | sl i => obtain ⟨s, a1, a2, a3⟩ := k; exact .inl ⟨i, s, rfl, a1, a2, a3⟩
    · rename_i d hd h
      cases e'
      have q := k.rp hs h
      have im : Im K H x d := by
        cases d with
        | list ds => exact absurd rfl (hd ds)
        | _ => exact q
      refine ⟨im, .inr ⟨rfl, ?_, fun ds p z => by cases z⟩⟩
      cases x <;> rfl
    · cases e'
theorem arsOf_ok (hs : StOk K H0 IO Γ σ H) (hd : Lsts (Mu Γ σ) Hs) : ∀ {mask : List Bool} {vs : List Val} {xs : List V} {as : List Ar}, VOkAll K Hs Γ σ H vs xs → arsOf Γ mask vs = some as →
    Paired (ArgOk K H) xs as ∧ Paired (fun p i => ∃ s, Γ[i]? = some s ∧ muS s = true ∧ σ[i]? = some (some (.ref p))) (iosOf xs as) (slM mask vs) ∧
    ∀ (i : Nat) (p : Addr) (ds : List PyData), xs[i]? = some (.ref p) → as[i]? = some (.l ds) → (∃ j s, j ∈ slB mask vs ∧ Γ[j]? = some s ∧ isL s = true ∧ σ[j]? = some (some (.ref p))) ∨ Hs p = none := by
  intro mask
  induction mask with
  | nil =>
    intro vs xs as k e
    cases k with
    | nil => cases e; exact ⟨.nil, .nil, fun i p ds a => by simp at a⟩
    | cons _ _ => cases e
  | cons b bs ih =>
    intro vs xs as k e
    cases k with
    | nil => cases e
    | cons k kr =>
      rename_i v x vr xr
      simp only [arsOf] at e
      split at e
      · rename_i a ar h1 h2
        cases e
        obtain ⟨q1, q2⟩ := arOf_ok hs k h1
        obtain ⟨r1, r2, r3⟩ := ih kr h2
        refine ⟨.cons q1 r1, ?_, fun i p ds hx ha => ?_⟩
        · rcases q2 with ⟨rfl, i, s, p, ds, rfl, c1, c2, rfl, c3, rfl⟩ | ⟨rfl, c1, _⟩
          · show Paired _ (p :: iosOf xr ar) (i :: slM bs vr)
            exact .cons ⟨s, c1, c2, c3⟩ r2
          · have e1 : iosOf (x :: xr) (a :: ar) = iosOf xr ar := by simp only [iosOf, c1]
            have e2 : slM (false :: bs) (v :: vr) = slM bs vr := by cases v <;> rfl
            rw [e1, e2]; exact r2
        · cases i with
          | zero =>
            simp at hx ha
            subst hx ha
            rcases q2 with ⟨_, _, _, _, _, _, _, _, _, _, z⟩ | ⟨rfl, _, c⟩
            · cases z
            · rcases c ds p rfl rfl with ⟨j, s, rfl, d1, d2, d3⟩ | ⟨n, _⟩
              · exact .inl ⟨j, s, by simp [slB], d1, d2, d3⟩
              · exact .inr n
          | succ i =>
            rcases r3 i p ds (by simpa using hx) (by simpa using ha) with ⟨j, s, m, d⟩ | n
            · refine .inl ⟨j, s, ?_, d⟩
              cases b with
              | true => cases v <;> simpa [slB] using m
              | false =>
                cases v with
                | sl i2 => exact List.mem_cons_of_mem _ m
                | im _ => simpa [slB] using m
                | nw _ => simpa [slB] using m
            · exact .inr n
      · cases e
abbrev AtSl (Γ : Gm) (σ : L2.St) (p : Addr) (i : Nat) : Prop := ∃ s, Γ[i]? = some s ∧ muS s = true ∧ σ[i]? = some (some (.ref p))
theorem paired_in (hs : StOk K H0 IO Γ σ H) {p : Addr} {i : Nat} (h0 : AtSl Γ σ p i) : ∀ {ps : List Addr} {is : List Nat}, Paired (AtSl Γ σ) ps is → p ∈ ps → i ∈ is := by
  intro ps is h
  induction h with
  | nil => intro m; cases m
  | cons a r ih =>
    intro m
    rcases List.mem_cons.mp m with z | z
    · subst z
      obtain ⟨s, a1, a2, a3⟩ := h0
      obtain ⟨s2, b1, b2, b3⟩ := a
      rw [hs.uniq i _ s s2 p a1 a2 a3 b1 b2 b3]
      exact List.mem_cons_self
    · exact List.mem_cons_of_mem _ (ih z)
theorem paired_nodup (hs : StOk K H0 IO Γ σ H) {ps : List Addr} {is : List Nat} (h : Paired (AtSl Γ σ) ps is) : is.Nodup → ps.Nodup := by
  induction h with
  | nil => intro _; exact .nil
  | cons a r ih =>
    intro nd
    rw [List.nodup_cons] at nd ⊢
    exact ⟨fun m => nd.1 (paired_in hs a r m), ih nd.2⟩
theorem paired_at {ps : List Addr} {is : List Nat} (h : Paired (AtSl Γ σ) ps is) : ∀ {i : Nat}, i ∈ is → ∃ p, p ∈ ps ∧ AtSl Γ σ p i := by
  induction h with
  | nil => intro i m; cases m
  | cons a r ih =>
    intro i m
    rcases List.mem_cons.mp m with z | z
    · subst z; exact ⟨_, List.mem_cons_self, a⟩
    · obtain ⟨p, m', k⟩ := ih z
      exact ⟨p, List.mem_cons_of_mem _ m', k⟩
theorem putLs_at (nd : ∀ i : Nat, True) : ∀ {ps : List Addr} {is : List Nat} {outs : List (List PyData)} {Γ0 : Gm}, Paired (AtSl Γ σ) ps is → is.Nodup → OutsOk K H' ps outs → Shp Γ Γ0 →
    ∀ (j : Nat) (s' : Slot) (x : Option V), j ∈ is → (putLs is outs Γ0)[j]? = some s' → σ[j]? = some x → SlotOk K H' s' x := by
  intro ps is outs Γ0 h
  induction h generalizing outs Γ0 with
  | nil => intro _ _ _ j s' x m; cases m
  | cons a r ih =>
    rename_i p i ps is
    intro ndl ho shp j s' x m e hx
    rw [List.nodup_cons] at ndl
    cases ho with
    | cons o ro =>
      rename_i ds outs
      unfold putLs at e
      by_cases hj : j = i
      · subst hj
        rw [putLs_ne ndl.1] at e
        obtain ⟨s, a1, a2, a3⟩ := a
        obtain ⟨vs, o1, o2⟩ := o
        rw [a3] at hx; cases hx
        obtain ⟨t, b1, b2⟩ := shp.fwd a1
        have ht : muS t = true := by rw [b2.mu]; exact a2
        unfold putL at e
        cases t with
        | em => simp [muS] at ht
        | im d => simp [muS] at ht
        | bo d => simp [muS] at ht
        | ow d =>
          simp only [b1] at e
          rw [List.getElem?_set_self (List.getElem?_eq_some_iff.mp b1).1] at e
          cases e; exact ⟨p, vs, rfl, o1, o2⟩
        | io d =>
          simp only [b1] at e
          rw [List.getElem?_set_self (List.getElem?_eq_some_iff.mp b1).1] at e
          cases e; exact ⟨p, vs, rfl, o1, o2⟩
      · have m' : j ∈ is := (List.mem_cons.mp m).resolve_left hj
        exact ih ndl.2 ro (shp.trans putL_shp) j s' x m' e hx
theorem rt_call {XR : XRT} {n : Nat} {F : FD} {E : XK} (mask : List Bool) (hn : mask.length = n) (ha : RefA K W tA fA) :
    RefT K W (tCall (spD K XR n F) [] E tA) (eCall mask F fA) := ⟨fun H0 IO Γ σ H Γ' rr Q hs e hQ => by
  refine ha.then hs e (fun x H' z p => by subst z; exact hQ H' p) fun Γ1 vs xs H1 e1 p1 k1 => ?_
  try dsimp only at e1
  split at e1
  · cases e1
  · rename_i as has
    split at e1
    · rename_i hnd
      split at e1
      · rename_i r outs hF
        cases e1
        obtain ⟨q1, q2, q3⟩ := arsOf_ok p1.st (p1.lsts hs) k1 has
        rw [List.append_nil]
        have hlen : ∀ {mask : List Bool} {vs : List Val} {as : List Ar}, arsOf Γ1 mask vs = some as → as.length = mask.length := by
          intro mask
          induction mask with
          | nil => intro vs as h; cases vs with | nil => cases h; rfl | cons _ _ => cases h
          | cons b bs ih =>
            intro vs as h
            cases vs with
            | nil => cases h
            | cons v vr =>
              simp only [arsOf] at h
              split at h
              · rename_i a ar h1 h2; cases h; simp [ih h2]
              · cases h
        refine ⟨as, .ok r, outs, by rw [Paired.length q1, hlen has, hn], hF, ⟨q1, paired_nodup p1.st q2 hnd.1, fun i p ds hx hal hp => ?_⟩, fun P hP => p1.st.tabG hP, fun H2 f2 o2 x hr => ?_⟩
        · rcases q3 i p ds hx hal with ⟨j, s, m, a, b, c⟩ | nn
          · -- the slot j is among those that are only read
            have : ∃ k, k ∈ slM mask vs ∧ AtSl Γ1 σ p k := by
              have : ∀ {ps : List Addr} {is : List Nat}, Paired (AtSl Γ1 σ) ps is → p ∈ ps → ∃ k, k ∈ is ∧ AtSl Γ1 σ p k := by
                intro ps is h
                induction h with
                | nil => intro m; cases m
                | cons a r ih =>
                  intro m
                  rcases List.mem_cons.mp m with z | z
                  · subst z; exact ⟨_, List.mem_cons_self, a⟩
                  · obtain ⟨k, m', w⟩ := ih z
                    exact ⟨k, List.mem_cons_of_mem _ m', w⟩
              exact this q2 hp
            obtain ⟨k, mk, sk, c1, c2, c3⟩ := this
            cases s with
            | em => simp [isL] at b
            | im d => simp [isL] at b
            | ow d => exact hnd.2 j m (by rw [p1.st.uniq j k _ sk p a rfl c c1 c2 c3]; exact mk)
            | io d => exact hnd.2 j m (by rw [p1.st.uniq j k _ sk p a rfl c c1 c2 c3]; exact mk)
            | bo d => exact p1.st.bosep j d p a c ⟨k, sk, c1, c2, c3⟩
          · have : ∀ {ps : List Addr} {is : List Nat}, Paired (AtSl Γ1 σ) ps is → p ∈ ps → Mu Γ1 σ p := by
              intro ps is h
              induction h with
              | nil => intro m; cases m
              | cons a r ih =>
                intro m
                rcases List.mem_cons.mp m with z | z
                · subst z; obtain ⟨s, a1, a2, a3⟩ := a; exact ⟨_, s, a1, a2, a3⟩
                · exact ih z
            obtain ⟨ys, z⟩ := (p1.lsts hs) p (this q2 hp)
            rw [nn] at z; cases z
        · -- behind the call
          have ch : EPost K H0 IO Γ1 σ H1 (putLs (slM mask vs) outs Γ1) H2 := by
            refine StOk.change (is := fun j => j ∈ slM mask vs) p1.st putLs_shp (fun j m => ?_) (fun j m => putLs_ne m) ?_ (putLs_at (fun _ => trivial) q2 hnd.1 o2 .refl)
            · obtain ⟨p, _, s, a, b, _⟩ := paired_at q2 m
              exact ⟨s, a, b⟩
            · refine f2.mono (fun p m => ?_) fun p ⟨j, m, c⟩ => ?_
              · have : ∀ {ps : List Addr} {is : List Nat}, Paired (AtSl Γ1 σ) ps is → p ∈ ps → ∃ j, j ∈ is ∧ σ[j]? = some (some (.ref p)) := by
                  intro ps is h
                  induction h with
                  | nil => intro m; cases m
                  | cons a r ih =>
                    intro m
                    rcases List.mem_cons.mp m with z | z
                    · subst z; obtain ⟨s, _, _, a3⟩ := a; exact ⟨_, List.mem_cons_self, a3⟩
                    · obtain ⟨k, m', w⟩ := ih z
                      exact ⟨k, List.mem_cons_of_mem _ m', w⟩
                exact this q2 m
              · obtain ⟨q, _, s, a, b, c'⟩ := paired_at q2 m
                exact p1.st.lsts p ⟨j, s, a, b, c⟩
          refine hQ x H2 (p1.trans ch) ?_
          cases r with
          | v d => exact hr
          | l ds =>
            obtain ⟨p, ys, rfl, n, a, b⟩ := hr
            exact ⟨p, ys, rfl, a, b, p1.dom n⟩
      · cases e1
    · cases e1⟩

/-! ### a def -/
def slotA : Ar → Slot
  | .v d => .im d
  | .l ds => .bo ds
  | .m ds => .io ds
def initG (N : Nat) (as : List Ar) : Gm := as.map slotA ++ List.replicate (N - as.length) .em
def outsOf (Γ : Gm) : Nat → List Ar → Option (List (List PyData))
  | _, [] => some []
  | i, .m _ :: as => match Γ[i]?, outsOf Γ (i + 1) as with
    | some (.io ds), some r => some (ds :: r)
    | _, _ => none
  | i, _ :: as => outsOf Γ (i + 1) as
def resOf (Γ : Gm) : Val → Option Rs
  | .im d => some (.v d)
  | .nw ds => some (.l ds)
  | .sl i => match Γ[i]? with
    | some (.ow ds) => some (.l ds)
    | _ => none
def mkF (N n : Nat) (b : MS) : FD := fun as => if as.length = n then match b (initG N as) with
  | some (Γ, .ok (.ret v)) => match resOf Γ v, outsOf Γ 0 as with
    | some r, some o => some (.ok r, o)
    | _, _ => none
  | some (Γ, .ok .next) => match outsOf Γ 0 as with
    | some o => some (.ok (.v .none), o)
    | none => none
  | some (Γ, .error e) => match outsOf Γ 0 as with
    | some o => some (.error e, o)
    | none => none
  | _ => none
  else none
/-- the handed lists by their slots -/
def ioAt (vs : List V) (as : List Ar) (j : Nat) (p : Addr) : Prop := vs[j]? = some (.ref p) ∧ ∃ ds, as[j]? = some (.m ds)
theorem mem_iosOf : ∀ {vs : List V} {as : List Ar} {j : Nat} {p : Addr}, ioAt vs as j p → p ∈ iosOf vs as
  | [], as, j, p, h => by obtain ⟨h, _⟩ := h; simp at h
  | v :: vs, [], j, p, h => by obtain ⟨_, _, h⟩ := h; simp at h
  | v :: vs, a :: as, 0, p, h => by
    obtain ⟨h1, ds, h2⟩ := h
    simp at h1 h2
    subst h1 h2
    simp [iosOf, ioA1]
  | v :: vs, a :: as, j + 1, p, h => by
    obtain ⟨h1, ds, h2⟩ := h
    have := mem_iosOf (vs := vs) (as := as) (j := j) (p := p) ⟨by simpa using h1, ds, by simpa using h2⟩
    simp only [iosOf]
    split
    · exact List.mem_cons_of_mem _ this
    · exact this
theorem iosOf_mem : ∀ {vs : List V} {as : List Ar} {p : Addr}, p ∈ iosOf vs as → ∃ j, ioAt vs as j p
  | [], as, p, h => by simp [iosOf] at h
  | v :: vs, [], p, h => by simp [iosOf] at h
  | v :: vs, a :: as, p, h => by
    simp only [iosOf] at h
    split at h
    · rename_i q hq
      rcases List.mem_cons.mp h with z | z
      · subst z
        cases v with
        | ref r =>
          cases a with
          | m ds => cases hq; exact ⟨0, rfl, ds, rfl⟩
          | v _ => cases hq
          | l _ => cases hq
        | _ => cases hq
      · obtain ⟨j, h1, ds, h2⟩ := iosOf_mem z
        exact ⟨j + 1, by simpa using h1, ds, by simpa using h2⟩
    · obtain ⟨j, h1, ds, h2⟩ := iosOf_mem h
      exact ⟨j + 1, by simpa using h1, ds, by simpa using h2⟩
theorem ios_uniq : ∀ {vs : List V} {as : List Ar} {i j : Nat} {p : Addr}, (iosOf vs as).Nodup → ioAt vs as i p → ioAt vs as j p → i = j
  | [], as, i, j, p, _, h, _ => by obtain ⟨h, _⟩ := h; simp at h
  | v :: vs, [], i, j, p, _, h, _ => by obtain ⟨_, _, h⟩ := h; simp at h
  | v :: vs, a :: as, i, j, p, nd, h, k => by
    have tail : ∀ {n : Nat}, ioAt (v :: vs) (a :: as) (n + 1) p → ioAt vs as n p := fun ⟨x, ds, y⟩ => ⟨by simpa using x, ds, by simpa using y⟩
    have head : ioAt (v :: vs) (a :: as) 0 p → iosOf (v :: vs) (a :: as) = p :: iosOf vs as := fun ⟨x, ds, y⟩ => by
      simp at x y; subst x y; simp [iosOf, ioA1]
    cases i with
    | zero =>
      cases j with
      | zero => rfl
      | succ j =>
        rw [head h, List.nodup_cons] at nd
        exact absurd (mem_iosOf (tail k)) nd.1
    | succ i =>
      cases j with
      | zero =>
        rw [head k, List.nodup_cons] at nd
        exact absurd (mem_iosOf (tail h)) nd.1
      | succ j =>
        have nd' : (iosOf vs as).Nodup := by
          simp only [iosOf] at nd
          split at nd
          · exact (List.nodup_cons.mp nd).2
          · exact nd
        rw [ios_uniq nd' (tail h) (tail k)]
theorem init_get {N : Nat} {as : List Ar} {i : Nat} {s : Slot} (h : (initG N as)[i]? = some s) : (∃ a, as[i]? = some a ∧ s = slotA a) ∨ (as.length ≤ i ∧ s = .em) := by
  unfold initG at h
  by_cases hi : i < as.length
  · rw [List.getElem?_append_left (by simpa using hi), List.getElem?_map] at h
    cases e : as[i]? with
    | none => rw [e] at h; cases h
    | some a => rw [e] at h; cases h; exact .inl ⟨a, rfl, rfl⟩
  · rw [List.getElem?_append_right (by simp; omega), List.getElem?_replicate] at h
    split at h
    · cases h; exact .inr ⟨by omega, rfl⟩
    · cases h
theorem start_get {N : List Str} {vs : List V} {i : Nat} {v : V} (h : (L2.start N vs)[i]? = some (some v)) : vs[i]? = some v := by
  unfold L2.start at h
  by_cases hi : i < vs.length
  · rw [List.getElem?_append_left (by simpa using hi), List.getElem?_map] at h
    cases e : vs[i]? with
    | none => rw [e] at h; cases h
    | some a => rw [e] at h; cases h; rfl
  · rw [List.getElem?_append_right (by simp; omega), List.getElem?_replicate] at h
    split at h <;> cases h
theorem get_start {N : List Str} {vs : List V} {i : Nat} {v : V} (h : vs[i]? = some v) : (L2.start N vs)[i]? = some (some v) := by
  have hi := (List.getElem?_eq_some_iff.mp h).1
  unfold L2.start
  rw [List.getElem?_append_left (by simpa using hi), List.getElem?_map, h]
  rfl
theorem init_ok {N : List Str} {vs : List V} {as : List Ar} (hN : vs.length ≤ N.length) (h : ArgsOk K H vs as) (hT : ∀ P ∈ Tabs.ps, GxR.TabG H P) :
    StOk K H ⟨ioAt vs as⟩ (initG N.length as) (L2.start N vs) H := by
  have hl := Paired.length h.all
  have getP : ∀ {vs : List V} {as : List Ar}, Paired (ArgOk K H) vs as → ∀ {i : Nat} {v : V} {a : Ar}, vs[i]? = some v → as[i]? = some a → ArgOk K H v a := by
    intro vs as h
    induction h with
    | nil => intro i v a e; simp at e
    | cons k _ ih =>
      intro i v a e1 e2
      cases i with
      | zero => simp at e1 e2; subst e1 e2; exact k
      | succ i => exact ih (by simpa using e1) (by simpa using e2)
  have lsA : ∀ p, (∃ j, ioAt vs as j p) → ∃ xs, H p = some (.lst xs) := fun p ⟨j, h1, ds, h2⟩ => by
    obtain ⟨q, ys, z, a, _⟩ := getP h.all h1 h2
    cases z; exact ⟨ys, a⟩
  have mu : ∀ {i : Nat} {s : Slot} {p : Addr}, (initG N.length as)[i]? = some s → muS s = true → (L2.start N vs)[i]? = some (some (.ref p)) → ioAt vs as i p := fun {i s p} a b c => by
    rcases init_get a with ⟨x, a1, rfl⟩ | ⟨_, rfl⟩
    · cases x with
      | v d => simp [slotA, muS] at b
      | l d => simp [slotA, muS] at b
      | m d => exact ⟨start_get c, d, a1⟩
    · simp [muS] at b
  refine ⟨?_, fun i s x a b => ?_, fun i j s t p a1 a2 a3 b1 b2 b3 => ios_uniq h.nd (mu a1 a2 a3) (mu b1 b2 b3), fun i ds p a b m => ?_, fun i ds p a b => ?_, fun j p hh => ?_, fun j ds p a b => ?_, ⟨fun p m => lsA p m, fun P hP => hT P hP⟩, .refl fun p m => lsA p m⟩
  · unfold initG L2.start
    simp only [List.length_append, List.length_map, List.length_replicate]
    omega
  · rcases init_get a with ⟨y, a1, rfl⟩ | ⟨_, rfl⟩
    · obtain ⟨v, a2⟩ := get_of_len (l := vs) (i := i) hl a1
      rw [get_start a2] at b
      cases b
      have k := getP h.all a2 a1
      cases y with
      | v d => exact ⟨v, rfl, k⟩
      | l d => obtain ⟨p, ys, rfl, k1, k2⟩ := k; exact ⟨p, ys, rfl, k1, k2⟩
      | m d => obtain ⟨p, ys, rfl, k1, k2⟩ := k; exact ⟨p, ys, rfl, k1, k2⟩
    · trivial
  · rcases init_get a with ⟨y, a1, e⟩ | ⟨_, z⟩
    · cases y with
      | v d => cases e
      | l d =>
        cases e
        obtain ⟨j, s, c1, c2, c3⟩ := m
        exact h.sep i p ds (start_get b) a1 (mem_iosOf (mu c1 c2 c3))
      | m d => cases e
    · cases z
  · rcases init_get a with ⟨y, a1, e⟩ | ⟨_, z⟩
    · cases y <;> cases e
    · cases z
  · obtain ⟨h1, ds, h2⟩ := hh
    refine ⟨get_start h1, ds, ?_⟩
    unfold initG
    have hi := (List.getElem?_eq_some_iff.mp h2).1
    rw [List.getElem?_append_left (by simpa using hi), List.getElem?_map, h2]
    rfl
  · exact mu a rfl b
theorem outs_ok {vs : List V} {as : List Ar} {H0 : Hp} : ∀ {i : Nat} {vs' : List V} {as' : List Ar} {o : List (List PyData)}, StOk K H0 ⟨ioAt vs as⟩ Γ σ H → (∀ j, vs'[j]? = vs[i + j]?) → (∀ j, as'[j]? = as[i + j]?) → vs'.length = as'.length → outsOf Γ i as' = some o → (∀ (p : Addr) (ds : List PyData) (j : Nat), as'[j]? = some (Ar.m ds) → ∃ p, vs'[j]? = some (V.ref p)) → OutsOk K H (iosOf vs' as') o := by
  intro i vs' as'
  induction as' generalizing i vs' with
  | nil =>
    intro o hs hv ha hl e _
    cases vs' with
    | nil => cases e; exact .nil
    | cons _ _ => simp at hl
  | cons a as' ih =>
    intro o hs hv ha hl e hr
    cases vs' with
    | nil => simp at hl
    | cons v vs' =>
      have tail : ∀ {o : List (List PyData)}, outsOf Γ (i + 1) as' = some o → OutsOk K H (iosOf vs' as') o := fun e2 => ih hs
        (fun j => by have := hv (j + 1); simp only [List.getElem?_cons_succ] at this; rw [this]; congr 1; omega)
        (fun j => by have := ha (j + 1); simp only [List.getElem?_cons_succ] at this; rw [this]; congr 1; omega) (by simpa using hl) e2 (fun p ds j h => by simpa using hr p ds (j + 1) (by simpa using h))
      cases a with
      | v d =>
        have : iosOf (v :: vs') (.v d :: as') = iosOf vs' as' := by cases v <;> rfl
        rw [this]
        exact tail e
      | l d =>
        have : iosOf (v :: vs') (.l d :: as') = iosOf vs' as' := by cases v <;> rfl
        rw [this]
        exact tail e
      | m d =>
        simp only [outsOf] at e
        split at e
        · rename_i ds r h1 h2
          cases e
          obtain ⟨p, hp⟩ := hr 0 d 0 rfl
          simp at hp
          subst hp
          have hio : ioAt vs as i p := ⟨by have := hv 0; simpa using this.symm, d, by have := ha 0; simpa using this.symm⟩
          obtain ⟨b1, es, b2⟩ := hs.ioA i p hio
          have k := hs.ok i _ _ h1 b1
          obtain ⟨q, ys, z, k1, k2⟩ := k
          cases z
          exact .cons ⟨ys, k1, k2⟩ (tail h2)
        · cases e
/-- the promise of a def, by what its body does -/
theorem body_ok {XR : XRT} {N ps : List Str} {b : MS} {t : TS} {vs : List V} {Q : VK} {E : XK} (hN : ps.length ≤ N.length) (hb : RefS K W t b) (hW : ∀ e σ' H', W e σ' H' ↔ ∀ c d, XR e c d H' → E c d H')
    (h : spD K XR ps.length (mkF N.length ps.length b) vs H Q E) : t { nx := fun _ H' => Q .non H', rt := Q } (L2.start N vs) H := by
  obtain ⟨as, r, outs, hl, hF, hA, hT, hQ⟩ := h
  have st0 : StOk K H ⟨ioAt vs as⟩ (initG N.length as) (L2.start N vs) H := init_ok (by omega) hA hT
  have hlen := Paired.length hA.all
  have hr : ∀ (p : Addr) (ds : List PyData) (j : Nat), as[j]? = some (Ar.m ds) → ∃ p, vs[j]? = some (V.ref p) := fun _ ds j e => by
    obtain ⟨v, hv⟩ := get_of_len (l := vs) (i := j) hlen e
    have getP : ∀ {vs : List V} {as : List Ar}, Paired (ArgOk K H) vs as → ∀ {i : Nat} {v : V} {a : Ar}, vs[i]? = some v → as[i]? = some a → ArgOk K H v a := by
      intro vs as h
      induction h with
      | nil => intro i v a e; simp at e
      | cons k _ ih =>
        intro i v a e1 e2
        cases i with
        | zero => simp at e1 e2; subst e1 e2; exact k
        | succ i => exact ih (by simpa using e1) (by simpa using e2)
    obtain ⟨p, _, z, _⟩ := getP hA.all hv e
    exact ⟨p, by rw [hv, z]⟩
  have fr : ∀ {H' : Hp} {σ' : L2.St} {Γ' : Gm}, StOk K H ⟨ioAt vs as⟩ Γ' σ' H' → Frm (fun p => p ∈ iosOf vs as) H H' := fun s => by
    refine s.frm.mono (fun p ⟨j, m⟩ => mem_iosOf m) fun p m => ?_
    obtain ⟨j, m'⟩ := iosOf_mem m
    exact s.ioL.1 p ⟨j, m'⟩
  have out : ∀ {H' : Hp} {σ' : L2.St} {Γ' : Gm} {o : List (List PyData)}, StOk K H ⟨ioAt vs as⟩ Γ' σ' H' → outsOf Γ' 0 as = some o → OutsOk K H' (iosOf vs as) o := fun s e =>
    outs_ok s (fun j => by rw [Nat.zero_add]) (fun j => by rw [Nat.zero_add]) hlen e hr
  unfold mkF at hF
  split at hF
  · split at hF
    · rename_i Γ' v hbody
      split at hF
      · rename_i rs o h1 h2
        cases hF
        refine hb.run H _ _ _ H _ _ _ st0 hbody fun x σ' H' p k => ?_
        refine hQ H' (fr p.st) (out p.st h2) x ?_
        cases v with
        | im d => cases h1; exact k
        | nw ds => cases h1; obtain ⟨q, ys, rfl, a, b, c⟩ := k; exact ⟨q, ys, rfl, c, a, b⟩
        | sl i =>
          obtain ⟨s, a, b, c⟩ := k
          simp only [resOf, a] at h1
          cases s with
          | ow ds =>
            cases h1
            obtain ⟨q, ys, z, k1, k2⟩ := p.st.ok i _ _ a c
            cases z
            exact ⟨q, ys, rfl, p.st.fresh i ds q a c, k1, k2⟩
          | em => cases h1
          | im d => cases h1
          | io d => cases h1
          | bo d => cases h1
      · cases hF
    · rename_i Γ' hbody
      split at hF
      · rename_i o h2
        cases hF
        refine hb.run H _ _ _ H _ _ _ st0 hbody fun σ' H' p => ?_
        exact hQ H' (fr p.st) (out p.st h2) .non ⟨rfl, .non⟩
      · cases hF
    · rename_i Γ' x hbody
      split at hF
      · rename_i o h2
        cases hF
        refine hb.run H _ _ _ H _ _ _ st0 hbody fun σ' H' p => ?_
        exact (hW x σ' H').mpr (hQ H' (fr p.st) (out p.st h2))
      · cases hF
    · cases hF
  · cases hF
/-- .. of a def that raises nothing -/
def mkF0 (N n : Nat) (b : MS) : FD := fun as => match mkF N n b as with
  | some (.ok r, o) => some (.ok r, o)
  | _ => none
theorem fn_ok {P : Program} {w : World} {mg : Str → Option Value} {base : Heap} {x qual : Str} {st : Stmt} {fa : Addr} {fd : FuncData} {N ps : List Str} {k : Nat} {XR : XRT} {b : MS} (F : Fun K x qual st fa fd) (S : FnScope N ps (defScope st))
    (hb : ∀ (cdv : Value) (A : Around) (outer : List Env) (s : Shared) (H : Hp) (E : XK), Room k (A.deeper (envOfC qual (defScope st) s.heap.objs.size fa cdv)) → ∃ t, PSs (cxOf CX0 P w K mg base N qual (defScope st) fa cdv A outer s H E).nox (defBody st) t ∧ RefS K WF t b) :
    FnOk P w K mg base CX0 (k + 1) fa fd ps (spD K XR ps.length (mkF0 N.length ps.length b)) := by
  refine F.ok S (fun vs H Q E h => ?_) fun cdv A outer s H vs Q E hr h => ?_
  · obtain ⟨_, _, _, hl, _⟩ := h
    exact hl
  · obtain ⟨t, h1, h2⟩ := hb cdv A outer s H E hr
    refine ⟨t, h1, ?_⟩
    have hpl : ps.length ≤ N.length := by have := congrArg List.length S.pre; rw [List.length_take] at this; omega
    obtain ⟨as, r, outs, q1, q2, q3⟩ := h
    unfold mkF0 at q2
    split at q2
    · rename_i r' o' q4
      cases q2
      -- no exception: the wish may be anything
      exact body_ok (XR := fun _ _ _ _ => True) (E := fun _ _ _ => False) hpl (W := WF) h2 (fun e σ' H' => ⟨fun z => z.elim, fun z => z .none none trivial⟩) ⟨as, .ok r', outs, q1, q4, q3⟩
    · cases q2
end
end Vf
end

section
set_option Elab.async false
set_option linter.all false
set_option maxRecDepth 100000
namespace Vf
open PySem PySem.Spec PyProof.Rows L2
variable [Tabs]

/-! ### the order of texts -/
abbrev cl (x : Str) : List Nat := x.cps.toList
def sle (a b : Str) : Bool := !ltCps (cl b) (cl a)
theorem sle_iff {a b : Str} : sle a b = true ↔ ¬ (cl b < cl a) := by
  unfold sle
  rw [ltCps_eq]
  simp
theorem str_ext {a b : Str} (h : cl a = cl b) : a = b := by
  cases a; cases b
  simp only [cl] at h
  congr
  exact Array.ext' h
theorem sle_trans {a b c : Str} (h : sle a b = true) (k : sle b c = true) : sle a c = true := by
  rw [sle_iff] at *
  intro z
  rcases Decidable.em (cl b < cl a) with q | q
  · exact h q
  · -- a ≤ b ≤ c, c < a
    have h1 : cl a ≤ cl b := List.not_lt.mp h
    have h2 : cl b ≤ cl c := List.not_lt.mp k
    exact absurd z (List.not_lt.mpr (List.le_trans h1 h2))
theorem sle_total {a b : Str} : sle a b = true ∨ sle b a = true := by
  rw [sle_iff, sle_iff]
  rcases List.le_total (cl a) (cl b) with h | h
  · exact .inl (List.not_lt.mpr h)
  · exact .inr (List.not_lt.mpr h)
theorem sle_antisymm {a b : Str} (h : sle a b = true) (k : sle b a = true) : a = b := by
  rw [sle_iff] at *
  exact str_ext (List.le_antisymm (List.not_lt.mp h) (List.not_lt.mp k))
def insS (x : Str) : List Str → List Str
  | [] => [x]
  | y :: r => if sle x y then x :: y :: r else y :: insS x r
def sortStrs : List Str → List Str
  | [] => []
  | x :: r => insS x (sortStrs r)
theorem insS_perm (x : Str) : ∀ l : List Str, (insS x l).Perm (x :: l)
  | [] => .refl _
  | y :: r => by
    unfold insS
    split
    · exact .refl _
    · exact ((insS_perm x r).cons y).trans (List.Perm.swap x y r)
theorem sortStrs_perm : ∀ l : List Str, (sortStrs l).Perm l
  | [] => .refl _
  | x :: r => (insS_perm x _).trans ((sortStrs_perm r).cons x)
abbrev SPw (l : List Str) : Prop := l.Pairwise fun a b => sle a b = true
theorem insS_sorted (x : Str) : ∀ l : List Str, SPw l → SPw (insS x l)
  | [], _ => by simp [insS, SPw]
  | y :: r, h => by
    unfold insS
    have h' := List.pairwise_cons.mp h
    split
    · rename_i hxy
      refine List.pairwise_cons.mpr ⟨fun z hz => ?_, h⟩
      rcases List.mem_cons.mp hz with rfl | hz
      · exact hxy
      · exact sle_trans hxy (h'.1 z hz)
    · rename_i hxy
      refine List.pairwise_cons.mpr ⟨fun z hz => ?_, insS_sorted x r h'.2⟩
      rcases List.mem_cons.mp ((insS_perm x r).mem_iff.mp hz) with rfl | hz
      · exact (sle_total (a := z) (b := y)).resolve_left hxy
      · exact h'.1 z hz
theorem sortStrs_sorted : ∀ l : List Str, SPw (sortStrs l)
  | [] => .nil
  | x :: r => insS_sorted x _ (sortStrs_sorted r)
theorem spw_of_sortedS : ∀ {l : List Str}, sortedS l = true → SPw l
  | [], _ => .nil
  | x :: r, h => by
    have : ∀ (p : Str) (l : List Str), risingS p l = true → SPw (p :: l) := by
      intro p l
      induction l generalizing p with
      | nil => intro _; simp [SPw]
      | cons y t ih =>
        intro h
        simp only [risingS, Bool.and_eq_true] at h
        have ht := ih y h.2
        refine List.pairwise_cons.mpr ⟨fun z hz => ?_, ht⟩
        have hpy : sle p y = true := h.1
        rcases List.mem_cons.mp hz with rfl | hz
        · exact hpy
        · exact sle_trans hpy ((List.pairwise_cons.mp ht).1 z hz)
    exact this x r h
theorem spw_unique : ∀ {l m : List Str}, SPw l → SPw m → l.Perm m → l = m
  | [], m, _, _, p => by simpa using p.symm.eq_nil.symm
  | x :: r, [], _, _, p => by simpa using p.eq_nil
  | x :: r, y :: t, hl, hm, p => by
    have hl' := List.pairwise_cons.mp hl
    have hm' := List.pairwise_cons.mp hm
    have e : x = y := by
      have h1 : x ∈ y :: t := p.mem_iff.mp List.mem_cons_self
      have h2 : y ∈ x :: r := p.mem_iff.mpr List.mem_cons_self
      rcases List.mem_cons.mp h1 with z | z
      · exact z
      · rcases List.mem_cons.mp h2 with w | w
        · exact w.symm
        · exact sle_antisymm (hl'.1 y w) (hm'.1 x z)
    subst e
    rw [spw_unique hl'.2 hm'.2 (List.Perm.cons_inv p)]
theorem sorted_is {xs ys : List Str} (p : ys.Perm xs) (h : sortedS ys = true) : ys = sortStrs xs :=
  spw_unique (spw_of_sortedS h) (sortStrs_sorted xs) (p.trans (sortStrs_perm xs).symm)

section
variable {K : PySem.W.Frag} {X : Cx}
theorem Inv.rdL {pins : List (Addr × Obj)} {σ : L2.St} {H : Hp} {s : Shared} {l : Addr} {xs : List V} (I : Inv X pins σ H s) (h : Rd H l (.lst xs)) :
    xs.length ≤ sizeLine ∧ ∃ (its : List Value) (n : Nat), Vals xs its ∧ xs.length = its.length ∧ s.heap.get? l = some { cls := .type "list", data := .seq its.toArray n } := by
  obtain ⟨z, its, n, r, e⟩ := h.ok I.hok
  exact ⟨z, its, n, r, r.length, e⟩

/-! ### + -/
def small (n : Nat) : Bool := decide (n ≤ 1000000)
theorem small_ok {n : Nat} (h : small n = true) : n ≤ sizeLine := size_ok (of_decide_eq_true h)
def addD : PyData → PyData → Option PyData
  | .int i, .int j => some (.int (i + j))
  | .str a, .str b => if small (a.length + b.length) then some (.str (a ++ b)) else none
  | .tuple a, .tuple b => if small (a.length + b.length) then some (.tuple (a ++ b)) else none
  | .list a, .list b => if small (a.length + b.length) then some (.list (a ++ b)) else none
  | _, _ => none
def rCatR : R2 := fun x y H Q => ∃ l b xs zs, x = .ref l ∧ y = .ref b ∧ Rd H l (.lst xs) ∧ Rd H b (.lst zs) ∧ xs.length + zs.length ≤ sizeLine ∧ ∀ p, H p = none → Q (.ref p) (upd H p (.lst (xs ++ zs)))
theorem op_catR : OpR X (binaryOp .Add) rCatR := by
  intro pins s σ H x y v u Q I rx ry h
  obtain ⟨l, b, xs, zs, rfl, rfl, hH, hB, hz, q⟩ := h
  cases rx
  cases ry
  obtain ⟨z, its, n, r, hl, e⟩ := Inv.rdL I hH
  obtain ⟨z2, its2, n2, r2, hl2, e2⟩ := Inv.rdL I hB
  refine PySem.P.add_list e e2 ?_ (by rw [List.size_toArray, List.size_toArray]; omega)
  have ea : its.toArray ++ its2.toArray = (its ++ its2).toArray := by simp
  rw [ea]
  exact ⟨.ref _, _, I.lnew (t' := s.toks) (r.append r2) (by rw [List.length_append]; omega), rfl, q _ I.fresh⟩
abbrev rI' (g : Int → Int → Int) : R2 := rI0 fun i j => .int (g i j)
def rAddStr : R2 := fun x y H Q => ∃ i j, x = .str i ∧ y = .str j ∧ i.length + j.length ≤ sizeLine ∧ Q (.str (i ++ j)) H
def rAddD (K : PySem.W.Frag) : R2 := fun x y H Q => rI' (fun i j => i + j) x y H Q ∨ rAddStr x y H Q ∨ rCatR x y H Q ∨ rCatN K x y H Q
theorem op_addD : OpR X (binaryOp .Add) (rAddD X.K) := op_add.or (op_add_str.or (op_catR.or op_catN))
theorem str_app_len (a b : Str) : (a ++ b).length = a.length + b.length := by
  show (a ++ b).cps.size = _
  show (a.cps ++ b.cps).size = _
  rw [Array.size_append]
  rfl
theorem os_add : OpSem2 K (rAddD K) addD := by
  intro H x y d e z hx hy h Q hQ
  cases d with
  | int i =>
    cases e with
    | int j => cases h; exact .inl ⟨i, j, im_int hx, im_int hy, hQ _ H .refl ⟨rfl, .int _⟩⟩
    | _ => cases h
  | str a =>
    cases e with
    | str b =>
      simp only [addD] at h
      split at h
      · rename_i hs
        cases h
        exact .inr (.inl ⟨a, b, im_str hx, im_str hy, small_ok hs, hQ _ H .refl ⟨rfl, .str _⟩⟩)
      · cases h
    | _ => cases h
  | list a =>
    cases e with
    | list b =>
      simp only [addD] at h
      split at h
      · rename_i hs
        cases h
        obtain ⟨p, vs, rfl, a1, a2⟩ := hx
        obtain ⟨q, us, rfl, b1, b2⟩ := hy
        refine .inr (.inr (.inl ⟨p, q, vs, us, rfl, rfl, a1, b1, by rw [a2.length, b2.length]; exact small_ok hs, fun r hr => ?_⟩))
        have g := Grow.new (o := HO.lst (vs ++ us)) hr
        exact hQ _ _ g ⟨r, vs ++ us, rfl, hr, upd_same, (a2.append b2).tk g.tk⟩
      · cases h
    | _ => cases h
  | tuple a =>
    cases e with
    | tuple b =>
      simp only [addD] at h
      split at h
      · rename_i hs
        cases h
        obtain ⟨p, vs, rfl, a1, a2⟩ := im_tuple hx
        obtain ⟨q, us, rfl, b1, b2⟩ := im_tuple hy
        refine .inr (.inr (.inr ⟨p, q, vs, us, rfl, rfl, a1, b1, by rw [a2.length, b2.length]; exact small_ok hs, fun e => ?_, fun n e => ?_, fun n m r ob hr hd => ?_⟩))
        · have ea : a = [] := by have := a2.length; subst e; cases a <;> simp_all
          subst ea
          exact hQ _ H .refl hy
        · have eb : b = [] := by have := b2.length; subst e; cases b <;> simp_all
          subst eb
          exact hQ _ H .refl (show New K H H _ (.tuple (a ++ [])) by rw [List.append_nil]; exact hx)
        · have g := Grow.new (o := HO.frz ob (.tup (vs ++ us))) hr
          exact hQ _ _ g (im_tup (nt_new hd) ((a2.append b2).tk g.tk))
      · cases h
    | _ => cases h
  | _ => cases e <;> cases h

/-! ### -, *, //, %, ** -/
def subD : PyData → PyData → Option PyData
  | .int i, .int j => some (.int (i - j))
  | _, _ => none
theorem os_sub : OpSem2 K (rI0 fun i j => .int (i - j)) subD := by
  intro H x y d e z hx hy h Q hQ
  cases d with
  | int i =>
    cases e with
    | int j => cases h; exact ⟨i, j, im_int hx, im_int hy, hQ _ H .refl ⟨rfl, .int _⟩⟩
    | _ => cases h
  | _ => cases e <;> cases h
def mulD : PyData → PyData → Option PyData
  | .int i, .int j => if (-(2 ^ 64) < i ∧ i < 2 ^ 64) ∨ (-(2 ^ 64) < j ∧ j < 2 ^ 64) then some (.int (i * j)) else none
  | .str a, .int n => if -1000000 ≤ n ∧ n ≤ 1000000 ∧ a.length * n.toNat ≤ 1000000 then some (.str (Txt.mul a n)) else none
  | _, _ => none
def rMulS : R2 := fun x y H Q => ∃ a n, x = .str a ∧ y = .int n ∧ MulOk a n ∧ Q (.str (Txt.mul a n)) H
theorem op_mulS : OpR X (binaryOp .Mult) rMulS := by
  intro pins s σ H x y v u Q I rx ry h
  obtain ⟨a, n, rfl, rfl, hz, q⟩ := h
  obtain ⟨t, rfl⟩ := rx
  obtain ⟨t', rfl⟩ := ry
  exact SB.mul hz fun t' k => ⟨.str _, H, I.tok _, ⟨_, rfl⟩, q⟩
def rMulD : R2 := fun x y H Q => rI CMul (fun i j => .int (i * j)) x y H Q ∨ rMulS x y H Q
theorem op_mulD : OpR X (binaryOp .Mult) rMulD := op_mul.or op_mulS
theorem os_mul : OpSem2 K rMulD mulD := by
  intro H x y d e z hx hy h Q hQ
  cases d with
  | int i =>
    cases e with
    | int j =>
      simp only [mulD] at h
      split at h
      · rename_i hc
        cases h
        exact .inl ⟨i, j, im_int hx, im_int hy, hc, hQ _ H .refl ⟨rfl, .int _⟩⟩
      · cases h
    | _ => cases h
  | str a =>
    cases e with
    | int n =>
      simp only [mulD] at h
      split at h
      · rename_i hc
        obtain ⟨h1, h2, h3⟩ := hc
        cases h
        refine .inr ⟨a, n, im_str hx, im_int hy, ⟨?_, fun hn _ => ?_, fun hn _ => ?_⟩, hQ _ H .refl ⟨rfl, .str _⟩⟩
        · rw [Bool.or_eq_false_iff]
          exact ⟨decide_eq_false (by omega), decide_eq_false (by omega)⟩
        · intro hgt
          have hn' : 0 < n := by omega
          have hl : (a.length : Int) * n ≤ 1000000 := by
            have : ((a.length * n.toNat : Nat) : Int) ≤ 1000000 := Int.ofNat_le.mpr h3
            rw [Int.natCast_mul, Int.toNat_of_nonneg (by omega)] at this
            exact this
          have hal : (a.length : Int) ≤ 1000000 := by
            have h5 : (a.length : Int) * 1 ≤ (a.length : Int) * n := Int.mul_le_mul_of_nonneg_left (by omega) (by omega)
            omega
          have : (1000000 : Int) ≤ (2 ^ 63 - 1) / n := by
            rw [Int.le_ediv_iff_mul_le hn']
            have : (1000000 : Int) * n ≤ 1000000 * 1000000 := Int.mul_le_mul_of_nonneg_left h2 (by omega)
            omega
          omega
        · unfold Builtin.Str.tooLong
          refine decide_eq_false ?_
          rw [sizeLine_eq]
          omega
      · cases h
    | _ => cases h
  | _ => cases e <;> cases h
def fdivD : PyData → PyData → Option PyData
  | .int i, .int j => if 0 < j ∧ j < 1073741824 then some (.int (i / j)) else none
  | _, _ => none
theorem os_fdiv : OpSem2 K (rI CDiv fun i j => .int (i / j)) fdivD := by
  intro H x y d e z hx hy h Q hQ
  cases d with
  | int i =>
    cases e with
    | int j =>
      simp only [fdivD] at h
      split at h
      · rename_i hc; cases h; exact ⟨i, j, im_int hx, im_int hy, hc, hQ _ H .refl ⟨rfl, .int _⟩⟩
      · cases h
    | _ => cases h
  | _ => cases e <;> cases h
def modD : PyData → PyData → Option PyData
  | .int i, .int j => if 0 < j then some (.int (i % j)) else none
  | _, _ => none
theorem os_mod : OpSem2 K (rI (fun _ j => 0 < j) fun i j => .int (i % j)) modD := by
  intro H x y d e z hx hy h Q hQ
  cases d with
  | int i =>
    cases e with
    | int j =>
      simp only [modD] at h
      split at h
      · rename_i hc; cases h; exact ⟨i, j, im_int hx, im_int hy, hc, hQ _ H .refl ⟨rfl, .int _⟩⟩
      · cases h
    | _ => cases h
  | _ => cases e <;> cases h
def powD : PyData → PyData → Option PyData
  | .int i, .int j => if 0 ≤ j ∧ j ≤ 1000000 ∧ i.natAbs < 2 ^ 64 then some (.int (i ^ j.toNat)) else none
  | _, _ => none
theorem os_pow : OpSem2 K (rI CPow fun i j => .int (i ^ j.toNat)) powD := by
  intro H x y d e z hx hy h Q hQ
  cases d with
  | int i =>
    cases e with
    | int j =>
      simp only [powD] at h
      split at h
      · rename_i hc; cases h; exact ⟨i, j, im_int hx, im_int hy, hc, hQ _ H .refl ⟨rfl, .int _⟩⟩
      · cases h
    | _ => cases h
  | _ => cases e <;> cases h
def negD : PyData → Option PyData
  | .int i => some (.int (-i))
  | _ => none
theorem os_neg : OpSem1 K (rU fun i => .int (-i)) negD := by
  intro H x d z hx h Q hQ
  cases d with
  | int i => cases h; exact ⟨i, im_int hx, hQ _ H .refl ⟨rfl, .int _⟩⟩
  | _ => cases h

/-! ### comparisons -/
theorem Rp.dp {H : Hp} {x : V} {d : PyData} (h : Rp K H x d) : Dp K H x d := by
  cases d with
  | list ds => obtain ⟨p, vs, rfl, a, b⟩ := h; exact .lst (.inl a) b.2.dp
  | none => exact h.2.dp
  | bool b => exact h.2.dp
  | int i => exact h.2.dp
  | str s => exact h.2.dp
  | tuple ds => exact h.2.dp
  | dict kvs => exact h.2.dp
def eqD (d e : PyData) : Option PyData := if SeqAt.shaped d && SeqAt.shaped e then some (.bool (PyData.eqv d e)) else none
def neD (d e : PyData) : Option PyData := if SeqAt.shaped d && SeqAt.shaped e then some (.bool (!PyData.eqv d e)) else none
theorem os_eq : OpSem2 K (rEqD K) eqD := by
  intro H x y d e z hx hy h Q hQ
  unfold eqD at h
  split at h
  · rename_i hc
    rw [Bool.and_eq_true] at hc
    cases h
    exact ⟨d, e, hx.dp, hy.dp, hc.1, hc.2, hQ _ H .refl ⟨rfl, .bl _⟩⟩
  · cases h
theorem os_ne : OpSem2 K (rNeD K) neD := by
  intro H x y d e z hx hy h Q hQ
  unfold neD at h
  split at h
  · rename_i hc
    rw [Bool.and_eq_true] at hc
    cases h
    exact ⟨d, e, hx.dp, hy.dp, hc.1, hc.2, hQ _ H .refl ⟨rfl, .bl _⟩⟩
  · cases h
def rOrdS (q : Str → Str → Bool) : R2 := fun x y H Q => ∃ i j, x = .str i ∧ y = .str j ∧ Q (.bl (q i j)) H
def rOrdD (p : Int → Int → Bool) (q : Str → Str → Bool) : R2 := fun x y H Q => rI0 (fun i j => .bl (p i j)) x y H Q ∨ rOrdS q x y H Q
def ordD (p : Int → Int → Bool) (q : Str → Str → Bool) : PyData → PyData → Option PyData
  | .int i, .int j => some (.bool (p i j))
  | .str a, .str b => some (.bool (q a b))
  | _, _ => none
theorem os_ord {p : Int → Int → Bool} {q : Str → Str → Bool} : OpSem2 K (rOrdD p q) (ordD p q) := by
  intro H x y d e z hx hy h Q hQ
  cases d with
  | int i =>
    cases e with
    | int j => cases h; exact .inl ⟨i, j, im_int hx, im_int hy, hQ _ H .refl ⟨rfl, .bl _⟩⟩
    | _ => cases h
  | str a =>
    cases e with
    | str b => cases h; exact .inr ⟨a, b, im_str hx, im_str hy, hQ _ H .refl ⟨rfl, .bl _⟩⟩
    | _ => cases h
  | _ => cases e <;> cases h
def ltI : Int → Int → Bool := fun i j => decide (i < j)
def leI : Int → Int → Bool := fun i j => decide (i ≤ j)
def gtI : Int → Int → Bool := fun i j => decide (j < i)
def geI : Int → Int → Bool := fun i j => decide (j ≤ i)
def ltS : Str → Str → Bool := fun a b => decide (cl a < cl b)
theorem op_ltD : OpR X (compareOp .Lt) (rOrdD ltI ltS) := op_lt.or op_lt_str
def ltD := ordD ltI ltS
theorem os_lt : OpSem2 K (rOrdD ltI ltS) ltD := os_ord
theorem op_leI : OpR X (compareOp .LtE) (rI0 fun i j => .bl (leI i j)) := op_le
theorem op_gtI : OpR X (compareOp .Gt) (rI0 fun i j => .bl (gtI i j)) := op_gt
theorem op_geI : OpR X (compareOp .GtE) (rI0 fun i j => .bl (geI i j)) := op_ge
def cmpI (p : Int → Int → Bool) : PyData → PyData → Option PyData
  | .int i, .int j => some (.bool (p i j))
  | _, _ => none
theorem os_cmpI {p : Int → Int → Bool} : OpSem2 K (rI0 fun i j => .bl (p i j)) (cmpI p) := by
  intro H x y d e z hx hy h Q hQ
  cases d with
  | int i =>
    cases e with
    | int j => cases h; exact ⟨i, j, im_int hx, im_int hy, hQ _ H .refl ⟨rfl, .bl _⟩⟩
    | _ => cases h
  | _ => cases e <;> cases h
/-- is None -/
def rIsN' : R2 := fun x y H Q => y = .non ∧ Q (.bl (decide (x = .non))) H
def rNotN' : R2 := fun x y H Q => y = .non ∧ Q (.bl (!decide (x = .non))) H
def isN : PyData → Bool
  | .none => true
  | _ => false
def isND : PyData → PyData → Option PyData
  | d, .none => some (.bool (isN d))
  | _, _ => none
def notND : PyData → PyData → Option PyData
  | d, .none => some (.bool (!isN d))
  | _, _ => none
theorem Rp.non {H : Hp} {x : V} {d : PyData} (h : Rp K H x d) : decide (x = V.non) = isN d := by
  cases d with
  | none => rw [im_non h]; rfl
  | bool b => rw [im_bl h]; rfl
  | int i => rw [im_int h]; rfl
  | str s => rw [im_str h]; rfl
  | tuple ds => obtain ⟨p, vs, rfl, _⟩ := im_tuple h; rfl
  | list ds => obtain ⟨p, vs, rfl, _⟩ := h; rfl
  | dict kvs => obtain ⟨a, _⟩ := h; simp [imm] at a
theorem os_isN : OpSem2 K rIsN' isND := by
  intro H x y d e z hx hy h Q hQ
  cases e with
  | none => cases h; exact ⟨im_non hy, by rw [hx.non]; exact hQ _ H .refl ⟨rfl, .bl _⟩⟩
  | _ => cases h
theorem os_notN : OpSem2 K rNotN' notND := by
  intro H x y d e z hx hy h Q hQ
  cases e with
  | none => cases h; exact ⟨im_non hy, by rw [hx.non]; exact hQ _ H .refl ⟨rfl, .bl _⟩⟩
  | _ => cases h

/-! ### in, not in -/
theorem eqV_eqv {H : Hp} {x y : V} {d e : PyData} (hx : Im K H x d) (hy : Im K H y e) (fx : flatV x = true) (fy : flatV y = true) : eqV x y = PyData.eqv d e := by
  obtain ⟨_, hx⟩ := hx
  obtain ⟨_, hy⟩ := hy
  cases hx <;> cases hy <;> first | rfl | (simp [flatV] at fx) | (simp [flatV] at fy) | (simp [eqV, PyData.eqv])
def flatD : PyData → Bool
  | .none => true
  | .bool _ => true
  | .int _ => true
  | .str _ => true
  | _ => false
theorem flat_of {H : Hp} {x : V} {d : PyData} (h : Im K H x d) : flatV x = flatD d := by
  obtain ⟨a, h⟩ := h
  cases h <;> first | rfl | (simp [imm] at a)
theorem inV_of {H : Hp} {x : V} {d : PyData} (hx : Im K H x d) (fx : flatD d = true) : ∀ {vs : List V} {ds : List PyData}, ImAll K H vs ds → ds.all flatD = true → inV x vs = ds.any (fun z => PyData.eqv z d) ∧ vs.all flatV = true := by
  intro vs
  induction vs with
  | nil => intro ds h _; obtain ⟨_, b⟩ := h; cases b; exact ⟨rfl, rfl⟩
  | cons v vs ih =>
    intro ds h hf
    cases ds with
    | nil => have := h.length; simp at this
    | cons e ds =>
      obtain ⟨h1, h2⟩ := h.uncons
      rw [List.all_cons, Bool.and_eq_true] at hf
      obtain ⟨i1, i2⟩ := ih h2 hf.2
      have fv : flatV v = true := by rw [flat_of h1]; exact hf.1
      refine ⟨?_, by rw [List.all_cons, fv, i2]; rfl⟩
      show (eqV v x || inV x vs) = _
      rw [i1, eqV_eqv h1 hx fv (by rw [flat_of hx]; exact fx)]
      rfl
def rIn1 : R2 := fun x y H Q => ∃ (c : Nat) (z : Str), x = .str ⟨#[c]⟩ ∧ y = .str z ∧ Q (.bl (decide (c ∈ z.cps.toList))) H
def rNi1 : R2 := fun x y H Q => ∃ (c : Nat) (z : Str), x = .str ⟨#[c]⟩ ∧ y = .str z ∧ Q (.bl (!decide (c ∈ z.cps.toList))) H
def rInDT (K : PySem.W.Frag) : R2 := fun x y H Q => ∃ d ds, Dp K H x d ∧ Dp K H y (.tuple ds) ∧ SeqAt.shaped d = true ∧ SeqAt.shaped (.tuple ds) = true ∧ Q (.bl (ds.any fun z => PyData.eqv z d)) H
def rNiDT (K : PySem.W.Frag) : R2 := fun x y H Q => ∃ d ds, Dp K H x d ∧ Dp K H y (.tuple ds) ∧ SeqAt.shaped d = true ∧ SeqAt.shaped (.tuple ds) = true ∧ Q (.bl (!ds.any fun z => PyData.eqv z d)) H
theorem op_inDT (hu : X.A.units + 65 < cLine) : OpR X (compareOp .In) (rInDT X.K) := by
  intro pins s σ H x y v u Q I rx ry h
  obtain ⟨d, ds, hd, he, sd, se, q⟩ := h
  obtain ⟨as, r1⟩ := Dp.reads I d x v hd rx
  obtain ⟨bs, r2⟩ := Dp.reads I (.tuple ds) y u he ry
  exact SeqAt.in_tuple_reads r2 r1 (SeqAt.canLay_of_shaped se) (SeqAt.canLay_of_shaped sd) (room_in_shaped sd hu) ⟨.bl _, H, I, rfl, q⟩
theorem op_niDT (hu : X.A.units + 65 < cLine) : OpR X (compareOp .NotIn) (rNiDT X.K) := by
  intro pins s σ H x y v u Q I rx ry h
  obtain ⟨d, ds, hd, he, sd, se, q⟩ := h
  obtain ⟨as, r1⟩ := Dp.reads I d x v hd rx
  obtain ⟨bs, r2⟩ := Dp.reads I (.tuple ds) y u he ry
  exact SeqAt.notIn_tuple_reads r2 r1 (SeqAt.canLay_of_shaped se) (SeqAt.canLay_of_shaped sd) (room_in_shaped sd hu) ⟨.bl _, H, I, rfl, q⟩
def rInX (K : PySem.W.Frag) : R2 := fun x y H Q => rIn K false x y H Q ∨ rIn1 x y H Q ∨ rInD K x y H Q ∨ rInDT K x y H Q
def rNiX (K : PySem.W.Frag) : R2 := fun x y H Q => rIn K true x y H Q ∨ rNi1 x y H Q ∨ rNotInD K x y H Q ∨ rNiDT K x y H Q
theorem op_inX (hu : X.A.units + 65 < cLine) : OpR X (compareOp .In) (rInX X.K) := op_in_seq.or (op_in_sign.or ((op_inD hu).or (op_inDT hu)))
theorem op_niX (hu : X.A.units + 65 < cLine) : OpR X (compareOp .NotIn) (rNiX X.K) := op_notIn_seq.or (op_notIn_sign.or ((op_notInD hu).or (op_niDT hu)))
def inL (d : PyData) (es : List PyData) : Option Bool := if flatD d && es.all flatD then some (es.any fun z => PyData.eqv z d) else if SeqAt.shaped d && SeqAt.shaped (.list es) then some (es.any fun z => PyData.eqv z d) else none
def inT (d : PyData) (es : List PyData) : Option Bool := if flatD d && es.all flatD then some (es.any fun z => PyData.eqv z d) else if SeqAt.shaped d && SeqAt.shaped (.tuple es) then some (es.any fun z => PyData.eqv z d) else none
def inS : PyData → Str → Option Bool
  | .str a, z => match a.cps.toList with
    | [c] => some (decide (c ∈ z.cps.toList))
    | _ => none
  | _, _ => none
def inB (d : PyData) : PyData → Option Bool
  | .list es => inL d es
  | .tuple es => inT d es
  | .str z => inS d z
  | _ => none
def inD (d e : PyData) : Option PyData := match inB d e with
  | some b => some (.bool b)
  | none => none
def niD (d e : PyData) : Option PyData := match inB d e with
  | some b => some (.bool (!b))
  | none => none
theorem flat_im {d : PyData} {H : Hp} {x : V} (h : Rp K H x d) (f : flatD d = true) : Im K H x d := by
  cases d <;> first | exact h | (simp [flatD] at f)
theorem one_str {a : Str} {c : Nat} (h : a.cps.toList = [c]) : a = ⟨#[c]⟩ := str_ext h
theorem in_core {H : Hp} {x y : V} {d e : PyData} {b : Bool} (hx : Rp K H x d) (hy : Rp K H y e) (h : inB d e = some b) :
    (∃ p xs, y = .ref p ∧ (SqL K H p xs ∨ SqT K H p xs) ∧ flatV x = true ∧ xs.all flatV = true ∧ inV x xs = b) ∨ (∃ (c : Nat) (z : Str), x = .str ⟨#[c]⟩ ∧ y = .str z ∧ decide (c ∈ z.cps.toList) = b) ∨
    (∃ ds, e = .list ds ∧ Dp K H x d ∧ Dp K H y (.list ds) ∧ SeqAt.shaped d = true ∧ SeqAt.shaped (.list ds) = true ∧ (ds.any fun z => PyData.eqv z d) = b) ∨
    ∃ ds, e = .tuple ds ∧ Dp K H x d ∧ Dp K H y (.tuple ds) ∧ SeqAt.shaped d = true ∧ SeqAt.shaped (.tuple ds) = true ∧ (ds.any fun z => PyData.eqv z d) = b := by
  cases e with
  | list es =>
    have h : inL d es = some b := h
    unfold inL at h
    split at h
    · rename_i hf
      rw [Bool.and_eq_true] at hf
      cases h
      obtain ⟨p, vs, rfl, a1, a2⟩ := hy
      have k := flat_im hx hf.1
      obtain ⟨i1, i2⟩ := inV_of k hf.1 a2 hf.2
      exact .inl ⟨p, vs, rfl, .inl (.inl a1), by rw [flat_of k]; exact hf.1, i2, i1⟩
    · split at h
      · rename_i hs
        rw [Bool.and_eq_true] at hs
        cases h
        exact .inr (.inr (.inl ⟨es, rfl, hx.dp, hy.dp, hs.1, hs.2, rfl⟩))
      · cases h
  | tuple es =>
    have h : inT d es = some b := h
    unfold inT at h
    split at h
    · rename_i hf
      rw [Bool.and_eq_true] at hf
      cases h
      obtain ⟨p, vs, rfl, a1, a2⟩ := im_tuple hy
      have k := flat_im hx hf.1
      obtain ⟨i1, i2⟩ := inV_of k hf.1 a2 hf.2
      exact .inl ⟨p, vs, rfl, .inr a1, by rw [flat_of k]; exact hf.1, i2, i1⟩
    · split at h
      · rename_i hs
        rw [Bool.and_eq_true] at hs
        cases h
        exact .inr (.inr (.inr ⟨es, rfl, hx.dp, hy.dp, hs.1, hs.2, rfl⟩))
      · cases h
  | str z =>
    have h : inS d z = some b := h
    unfold inS at h
    split at h
    · split at h
      · rename_i c hc
        cases h
        refine .inr (.inl ⟨c, _, ?_, im_str hy, rfl⟩)
        rw [← one_str hc]
        exact im_str hx
      · cases h
    · cases h
  | _ => cases h
theorem os_in : OpSem2 K (rInX K) inD := by
  intro H x y d e z hx hy h Q hQ
  unfold inD at h
  split at h
  · rename_i b hb
    cases h
    rcases in_core hx hy hb with ⟨p, xs, rfl, a, b1, c, rfl⟩ | ⟨c, z, rfl, rfl, rfl⟩ | ⟨ds, rfl, a, b1, c, e1, rfl⟩ | ⟨ds, rfl, a, b1, c, e1, rfl⟩
    · exact .inl ⟨p, xs, rfl, a, b1, c, hQ _ H .refl ⟨rfl, .bl _⟩⟩
    · exact .inr (.inl ⟨c, z, rfl, rfl, hQ _ H .refl ⟨rfl, .bl _⟩⟩)
    · exact .inr (.inr (.inl ⟨d, ds, a, b1, c, e1, hQ _ H .refl ⟨rfl, .bl _⟩⟩))
    · exact .inr (.inr (.inr ⟨d, ds, a, b1, c, e1, hQ _ H .refl ⟨rfl, .bl _⟩⟩))
  · cases h
theorem os_ni : OpSem2 K (rNiX K) niD := by
  intro H x y d e z hx hy h Q hQ
  unfold niD at h
  split at h
  · rename_i b hb
    cases h
    rcases in_core hx hy hb with ⟨p, xs, rfl, a, b1, c, rfl⟩ | ⟨c, z, rfl, rfl, rfl⟩ | ⟨ds, rfl, a, b1, c, e1, rfl⟩ | ⟨ds, rfl, a, b1, c, e1, rfl⟩
    · exact .inl ⟨p, xs, rfl, a, b1, c, hQ _ H .refl ⟨rfl, .bl _⟩⟩
    · exact .inr (.inl ⟨c, z, rfl, rfl, hQ _ H .refl ⟨rfl, .bl _⟩⟩)
    · exact .inr (.inr (.inl ⟨d, ds, a, b1, c, e1, hQ _ H .refl ⟨rfl, .bl _⟩⟩))
    · exact .inr (.inr (.inr ⟨d, ds, a, b1, c, e1, hQ _ H .refl ⟨rfl, .bl _⟩⟩))
  · cases h
end
end Vf
end

section
set_option Elab.async false
set_option linter.all false
set_option maxRecDepth 100000
namespace Vf
open PySem PySem.Spec PyProof.Rows L2
variable [Tabs]
section
variable {K : PySem.W.Frag} {X : Cx}

/-! ### subscripts -/
theorem atI_im {H : Hp} {vs : List V} {ds : List PyData} {i : Int} {d : PyData} (k : ImAll K H vs ds) (h : atI ds i = some d) : ∃ v, atI vs i = some v ∧ Im K H v d := by
  unfold atI at h ⊢
  rw [k.length]
  cases e : ixN ds.length i with
  | none => rw [e] at h; cases h
  | some j =>
    rw [e] at h
    obtain ⟨v, hv, q⟩ := k.get (i := j) h
    exact ⟨v, hv, q⟩
def ixS (z : Str) (i : Int) : Option PyData := match atI z.cps.toList i with
  | some c => if small z.length then some (.str ⟨#[c]⟩) else none
  | none => none
def ixD : PyData → PyData → Option PyData
  | .list ds, .int i => atI ds i
  | .tuple ds, .int i => atI ds i
  | .str z, .int i => ixS z i
  | _, _ => none
theorem Im.new {H H' : Hp} {x : V} {d : PyData} (h : Im K H' x d) : New K H H' x d := New.im h
theorem os_ix : OpSem2 K (rIx K) ixD := by
  intro H x y d e z hx hy h Q hQ
  cases d with
  | list ds =>
    cases e with
    | int i =>
      have h : atI ds i = some z := h
      obtain ⟨p, vs, rfl, a1, a2⟩ := hx
      obtain ⟨v, hv, k⟩ := atI_im a2 h
      exact .inl ⟨p, vs, i, v, rfl, im_int hy, .inl a1, hv, hQ v H .refl (New.im k)⟩
    | _ => cases h
  | tuple ds =>
    cases e with
    | int i =>
      have h : atI ds i = some z := h
      obtain ⟨p, vs, rfl, a1, a2⟩ := im_tuple hx
      obtain ⟨v, hv, k⟩ := atI_im a2 h
      exact .inr (.inl ⟨p, vs, i, v, rfl, im_int hy, a1, hv, hQ v H .refl (New.im k)⟩)
    | _ => cases h
  | str w =>
    cases e with
    | int i =>
      have h : ixS w i = some z := h
      unfold ixS at h
      split at h
      · rename_i c hc
        split at h
        · rename_i hs
          cases h
          exact .inr (.inr ⟨w, i, c, im_str hx, im_int hy, small_ok hs, hc, hQ _ H .refl ⟨rfl, .str _⟩⟩)
        · cases h
      · cases h
    | _ => cases h
  | _ => cases e <;> cases h

/-! ### slices -/
variable {H0 H H' H1 H2 Hs : Hp} {IO : Ctl} {Γ Γ' Γ1 Γ2 : Gm} {σ σ' : L2.St}
variable {W : Ex → L2.St → Hp → Prop} {ta tb te to : TE} {fa fb fe fo : M Val} {tA : TA} {fA : M (List Val)}
structure RefO (K : PySem.W.Frag) (W : Ex → L2.St → Hp → Prop) (t : TO) (f : M (Option Int)) : Prop where
  run : ∀ (H0 : Hp) (IO : Ctl) (Γ : Gm) (σ : L2.St) (H : Hp) (Γ' : Gm) (r : Except Ex (Option Int)) (Q : Option Int → Hp → Prop), StOk K H0 IO Γ σ H → f Γ = some (Γ', r) →
    (∀ x, r = .error x → ∀ H', EPost K H0 IO Γ σ H Γ' H' → W x σ H') → (∀ o, r = .ok o → ∀ H', EPost K H0 IO Γ σ H Γ' H' → Q o H') → t σ H Q
def oNone : M (Option Int) := M.pure none
def oSome (fe : M Val) : M (Option Int) := bnd fe fun v => match v with
  | .im (.int i) => M.pure (some i)
  | _ => fun _ => none
theorem ro_none : RefO K W tNoPart oNone := ⟨fun H0 IO Γ σ H Γ' r Q hs e hx hQ => by cases e; exact hQ _ rfl H (.refl hs)⟩
theorem ro_some (he : RefT K W te fe) : RefO K W (tPart te) (oSome fe) := ⟨fun H0 IO Γ σ H Γ' r Q hs e hx hQ => by
  refine he.then hs e (fun x H' z p => hx x z H' p) fun Γ1 v x H1 e1 p1 k1 => ?_
  try dsimp only at e1
  split at e1
  · rename_i i
    cases e1
    exact ⟨i, im_int k1, hQ _ rfl H1 p1⟩
  · cases e1⟩
def cutL {α : Type} (xs : List α) (lo hi : Option Int) : List α := (xs.drop (HT.sIx xs.length 0 lo)).take (HT.sIx xs.length xs.length hi - HT.sIx xs.length 0 lo)
def slD (d : PyData) (lo hi : Option Int) : Option PyData := match d with
  | .list ds => some (.list (cutL ds lo hi))
  | .tuple ds => some (.tuple (cutL ds lo hi))
  | .str z => if small z.length then some (.str (cutS z lo hi)) else none
  | _ => none
theorem cut_im {vs : List V} {ds : List PyData} {lo hi : Option Int} (k : ImAll K H vs ds) : ImAll K H (cutV vs lo hi) (cutL ds lo hi) := by
  unfold cutV cutL
  rw [k.length]
  exact (k.drop _).take _
def rSlX (K : PySem.W.Frag) : V → Option Int → Option Int → Hp → VK → Prop := fun x lo hi H Q => rSlL K x lo hi H Q ∨ rSlN K x lo hi H Q ∨ rSlS x lo hi H Q
theorem sl_X : SlR X (rSlX X.K) := sl_list.or (sl_tupN.or sl_str)
def eSl (fe : M Val) (fl fh : M (Option Int)) : M Val := bnd fe fun v => bnd fl fun lo => bnd fh fun hi => fun Γ => match rdv Γ v with
  | some d => match slD d lo hi with
    | some z => some (Γ, .ok (toV z))
    | none => none
  | none => none
theorem cut_all {ds : List PyData} {lo hi : Option Int} (h : HT.sIx ds.length 0 lo = 0 ∧ HT.sIx ds.length ds.length hi = ds.length) : cutL ds lo hi = ds := by
  unfold cutL
  rw [h.1, h.2, Nat.sub_zero, List.drop_zero, List.take_length]
theorem rt_sl {tl th : TO} {fl fh : M (Option Int)} (he : RefT K W te fe) (hl : RefO K W tl fl) (hh : RefO K W th fh) : RefT K W (tSl (rSlX K) te tl th) (eSl fe fl fh) := ⟨fun H0 IO Γ σ H Γ' r Q hs e hQ => by
  refine he.then hs e (fun x H' z p => by subst z; exact hQ H' p) fun Γ1 v x H1 e1 p1 k1 => ?_
  rcases bnd_ok e1 with ⟨Γ2, lo, g1, g2⟩ | ⟨y, g1, rfl⟩
  · refine hl.run H0 IO Γ1 σ H1 Γ2 _ _ p1.st g1 (fun y z => by cases z) fun lo' z H2 p2 => ?_
    cases z
    rcases bnd_ok g2 with ⟨Γ3, hi, g3, g4⟩ | ⟨y, g3, rfl⟩
    · refine hh.run H0 IO Γ2 σ H2 Γ3 _ _ p2.st g3 (fun y z => by cases z) fun hi' z H3 p3 => ?_
      cases z
      try dsimp only at g4
      split at g4
      · rename_i d h1
        split at g4
        · rename_i z h2
          cases g4
          have pp := (p1.trans p2).trans p3
          have k3 := k1.stay p1.st (p1.lsts hs) (p2.trans p3)
          have rp := k3.rp p3.st h1
          cases d with
          | list ds =>
            cases h2
            obtain ⟨p, vs, rfl, a1, a2⟩ := rp
            refine .inl ⟨p, vs, rfl, .inl a1, fun q hq => ?_⟩
            have g := Grow.new (o := HO.lst (cutV vs lo hi)) hq
            exact hQ _ _ (pp.fin g) ⟨q, _, rfl, upd_same, (cut_im a2).tk g.tk, pp.dom hq⟩
          | tuple ds =>
            cases h2
            obtain ⟨p, vs, rfl, a1, a2⟩ := im_tuple rp
            refine .inr (.inl ⟨p, vs, rfl, a1, fun hc => ?_, fun hc q ob hq hd => ?_⟩)
            · rw [a2.length] at hc
              refine hQ _ H3 pp ?_
              show Im K H3 (.ref p) (.tuple (cutL ds lo hi))
              rw [cut_all hc]
              exact rp
            · have g := Grow.new (o := HO.frz ob (.tup (cutV vs lo hi))) hq
              exact hQ _ _ (pp.fin g) (im_tup (nt_new hd) ((cut_im a2).tk g.tk))
          | str w =>
            simp only [slD] at h2
            split at h2
            · rename_i hz
              cases h2
              exact .inr (.inr ⟨w, im_str rp, small_ok hz, hQ _ H3 pp ⟨rfl, .str _⟩⟩)
            · cases h2
          | _ => cases h2
        · cases g4
      · cases g4
    · exact hh.run H0 IO Γ2 σ H2 Γ' _ _ p2.st g3 (fun w z H' p => by cases z; exact hQ H' ((p1.trans p2).trans p)) fun o z => by cases z
  · exact hl.run H0 IO Γ1 σ H1 Γ' _ _ p1.st g1 (fun w z H' p => by cases z; exact hQ H' (p1.trans p)) fun o z => by cases z⟩

/-! ### builtins -/
theorem rp1 {xs : List V} {d : PyData} (h : RpAll K H xs [d]) : ∃ x, xs = [x] ∧ Rp K H x d := by cases h with | cons k r => cases r; exact ⟨_, rfl, k⟩
theorem rp2 {xs : List V} {d e : PyData} (h : RpAll K H xs [d, e]) : ∃ x y, xs = [x, y] ∧ Rp K H x d ∧ Rp K H y e := by
  cases h with | cons k r => cases r with | cons k' r => cases r; exact ⟨_, _, rfl, k, k'⟩
theorem rp0 {xs : List V} (h : RpAll K H xs []) : xs = [] := by cases h; rfl
def lenD : List PyData → Option PyData
  | [.str z] => if small z.length then some (.int z.length) else none
  | [.list ds] => some (.int ds.length)
  | [.tuple ds] => some (.int ds.length)
  | _ => none
def rLen (K : PySem.W.Frag) : List V → Hp → VK → Prop := fun xs H Q => ∃ x n, xs = [x] ∧ LenV K x H n ∧ Q (.int n) H
theorem call_lenX : CallR X (.builtin "len") (rLen X.K) := call_len
theorem cs_len : CallSem K (rLen K) lenD := by
  intro H xs ds z hx h Q hQ
  match ds, h with
  | [.str w], h =>
    obtain ⟨x, rfl, k⟩ := rp1 hx
    simp only [lenD] at h
    split at h
    · rename_i hs; cases h
      rw [im_str k]
      exact ⟨_, _, rfl, ⟨small_ok hs, rfl⟩, hQ _ H .refl ⟨rfl, .int _⟩⟩
    · cases h
  | [.list es], h =>
    obtain ⟨x, rfl, p, vs, rfl, a, b⟩ := rp1 hx
    cases h
    exact ⟨_, es.length, rfl, .inl ⟨vs, .inl a, b.length.symm⟩, hQ _ H .refl ⟨rfl, .int _⟩⟩
  | [.tuple es], h =>
    obtain ⟨x, rfl, k⟩ := rp1 hx
    obtain ⟨p, vs, rfl, a, b⟩ := im_tuple k
    cases h
    exact ⟨_, es.length, rfl, .inr ⟨vs, a, b.length.symm⟩, hQ _ H .refl ⟨rfl, .int _⟩⟩
def intD : List PyData → Option PyData
  | [.int i] => some (.int i)
  | [.bool b] => some (.int (if b then 1 else 0))
  | _ => none
def rInt1 : List V → Hp → VK → Prop := fun xs H Q => (∃ i, xs = [.int i] ∧ Q (.int i) H) ∨ ∃ k, xs = [.bl k] ∧ Q (.int (if k then 1 else 0)) H
theorem call_intX : CallR X (.type "int") rInt1 := call_int1
theorem cs_int : CallSem K rInt1 intD := by
  intro H xs ds z hx h Q hQ
  match ds, h with
  | [.int i], h => obtain ⟨x, rfl, k⟩ := rp1 hx; cases h; rw [im_int k]; exact .inl ⟨i, rfl, hQ _ H .refl ⟨rfl, .int _⟩⟩
  | [.bool b], h => obtain ⟨x, rfl, k⟩ := rp1 hx; cases h; rw [im_bl k]; exact .inr ⟨b, rfl, hQ _ H .refl ⟨rfl, .int _⟩⟩
def absD : List PyData → Option PyData
  | [.int i] => some (.int (if i < 0 then -i else i))
  | _ => none
def rAbs : List V → Hp → VK → Prop := fun xs H Q => ∃ i, xs = [.int i] ∧ Q (.int (if i < 0 then -i else i)) H
theorem call_absX : CallR X (.builtin "abs") rAbs := call_abs
theorem cs_abs : CallSem K rAbs absD := by
  intro H xs ds z hx h Q hQ
  match ds, h with
  | [.int i], h => obtain ⟨x, rfl, k⟩ := rp1 hx; cases h; rw [im_int k]; exact ⟨i, rfl, hQ _ H .refl ⟨rfl, .int _⟩⟩
/-- the ints of a list -/
def intsOf : List PyData → Option (List Int)
  | [] => some []
  | .int i :: r => match intsOf r with
    | some l => some (i :: l)
    | none => none
  | _ :: _ => none
theorem intsOf_ok : ∀ {ds : List PyData} {ns : List Int}, intsOf ds = some ns → ds = ns.map PyData.int
  | [], ns, h => by cases h; rfl
  | d :: r, ns, h => by
    cases d <;> simp only [intsOf] at h <;> try cases h
    split at h
    · rename_i l hl; cases h; rw [intsOf_ok hl]; rfl
    · cases h
theorem intsOf_map (ns : List Int) : intsOf (ns.map PyData.int) = some ns := by
  induction ns with
  | nil => rfl
  | cons n ns ih => simp [intsOf, ih]
theorem im_ints {vs : List V} {ns : List Int} (k : ImAll K H vs (ns.map PyData.int)) : vs = ns.map V.int := by
  induction ns generalizing vs with
  | nil => obtain ⟨_, b⟩ := k; cases b; rfl
  | cons n ns ih =>
    cases vs with
    | nil => have := k.length; simp at this
    | cons v vs => obtain ⟨a, b⟩ := k.uncons; rw [im_int a, ih b]; rfl
theorem ints_im (ns : List Int) : ImAll K H (ns.map V.int) (ns.map PyData.int) := by
  induction ns with
  | nil => exact .nil
  | cons n ns ih => exact .cons ⟨rfl, .int n⟩ ih
def strsOf : List PyData → Option (List Str)
  | [] => some []
  | .str i :: r => match strsOf r with
    | some l => some (i :: l)
    | none => none
  | _ :: _ => none
theorem strsOf_ok : ∀ {ds : List PyData} {ns : List Str}, strsOf ds = some ns → ds = ns.map PyData.str
  | [], ns, h => by cases h; rfl
  | d :: r, ns, h => by
    cases d <;> simp only [strsOf] at h <;> try cases h
    split at h
    · rename_i l hl; cases h; rw [strsOf_ok hl]; rfl
    · cases h
theorem strsOf_map (ns : List Str) : strsOf (ns.map PyData.str) = some ns := by
  induction ns with
  | nil => rfl
  | cons n ns ih => simp [strsOf, ih]
theorem im_strs {vs : List V} {ns : List Str} (k : ImAll K H vs (ns.map PyData.str)) : vs = ns.map V.str := by
  induction ns generalizing vs with
  | nil => obtain ⟨_, b⟩ := k; cases b; rfl
  | cons n ns ih =>
    cases vs with
    | nil => have := k.length; simp at this
    | cons v vs => obtain ⟨a, b⟩ := k.uncons; rw [im_str a, ih b]; rfl
theorem strs_im (ns : List Str) : ImAll K H (ns.map V.str) (ns.map PyData.str) := by
  induction ns with
  | nil => exact .nil
  | cons n ns ih => exact .cons ⟨rfl, .str n⟩ ih
/-- max, min -/
def maxL : Int → List Int → Int
  | m, [] => m
  | m, x :: r => maxL (if x > m then x else m) r
def minL : Int → List Int → Int
  | m, [] => m
  | m, x :: r => minL (if x < m then x else m) r
theorem maxL_spec : ∀ (l : List Int) (m : Int), (maxL m l = m ∨ maxL m l ∈ l) ∧ m ≤ maxL m l ∧ ∀ y ∈ l, y ≤ maxL m l
  | [], m => ⟨.inl rfl, Int.le_refl _, fun y h => by cases h⟩
  | x :: r, m => by
    unfold maxL
    obtain ⟨a, b, c⟩ := maxL_spec r (if x > m then x else m)
    have hm : m ≤ (if x > m then x else m) := by split <;> omega
    have hx : x ≤ (if x > m then x else m) := by split <;> omega
    refine ⟨?_, by omega, fun y hy => ?_⟩
    · rcases a with a | a
      · rw [a]
        split
        · exact .inr List.mem_cons_self
        · exact .inl rfl
      · exact .inr (List.mem_cons_of_mem _ a)
    · rcases List.mem_cons.mp hy with rfl | hy
      · omega
      · exact c y hy
theorem minL_spec : ∀ (l : List Int) (m : Int), (minL m l = m ∨ minL m l ∈ l) ∧ minL m l ≤ m ∧ ∀ y ∈ l, minL m l ≤ y
  | [], m => ⟨.inl rfl, Int.le_refl _, fun y h => by cases h⟩
  | x :: r, m => by
    unfold minL
    obtain ⟨a, b, c⟩ := minL_spec r (if x < m then x else m)
    have hm : (if x < m then x else m) ≤ m := by split <;> omega
    have hx : (if x < m then x else m) ≤ x := by split <;> omega
    refine ⟨?_, by omega, fun y hy => ?_⟩
    · rcases a with a | a
      · rw [a]
        split
        · exact .inr List.mem_cons_self
        · exact .inl rfl
      · exact .inr (List.mem_cons_of_mem _ a)
    · rcases List.mem_cons.mp hy with rfl | hy
      · omega
      · exact c y hy
def maxD : List PyData → Option PyData
  | [.list ds] => match intsOf ds with
    | some (n :: ns) => some (.int (maxL n ns))
    | _ => none
  | [.int i, .int j] => some (.int (if j > i then j else i))
  | _ => none
def minD : List PyData → Option PyData
  | [.list ds] => match intsOf ds with
    | some (n :: ns) => some (.int (minL n ns))
    | _ => none
  | [.int i, .int j] => some (.int (if j < i then j else i))
  | _ => none
def rMax2 : List V → Hp → VK → Prop := fun xs H Q => ∃ i j, xs = [.int i, .int j] ∧ Q (.int (if j > i then j else i)) H
def rMin2 : List V → Hp → VK → Prop := fun xs H Q => ∃ i j, xs = [.int i, .int j] ∧ Q (.int (if j < i then j else i)) H
def rMaxX (K : PySem.W.Frag) : List V → Hp → VK → Prop := fun xs H Q => rMax K xs H Q ∨ rMax2 xs H Q
def rMinX (K : PySem.W.Frag) : List V → Hp → VK → Prop := fun xs H Q => rMin K xs H Q ∨ rMin2 xs H Q
theorem call_maxX (hc : X.calm = true) : CallR X (.builtin "max") (rMaxX X.K) := CallR.or (cr_max hc) (call_max2 hc)
theorem call_minX (hc : X.calm = true) : CallR X (.builtin "min") (rMinX X.K) := CallR.or (cr_min hc) (call_min2 hc)
theorem cs_max : CallSem K (rMaxX K) maxD := by
  intro H xs ds z hx h Q hQ
  match ds, h with
  | [.list es], h =>
    obtain ⟨x, rfl, p, vs, rfl, a, b⟩ := rp1 hx
    simp only [maxD] at h
    split at h
    · rename_i n ns hn
      cases h
      rw [intsOf_ok hn] at b
      have hv := im_ints b
      subst hv
      refine .inl ⟨p, n :: ns, rfl, .inl a, by simp, fun m hm hle => ?_⟩
      obtain ⟨s1, s2, s3⟩ := maxL_spec ns n
      have e : m = maxL n ns := by
        have h1 : maxL n ns ≤ m := hle _ (by rcases s1 with s1 | s1 <;> simp [s1])
        have h2 : m ≤ maxL n ns := by
          rcases List.mem_cons.mp hm with rfl | hm
          · exact s2
          · exact s3 m hm
        omega
      subst e
      exact hQ _ H .refl ⟨rfl, .int _⟩
    · cases h
  | [.int i, .int j], h =>
    obtain ⟨x, y, rfl, k1, k2⟩ := rp2 hx
    cases h
    exact .inr ⟨i, j, by rw [im_int k1, im_int k2], hQ _ H .refl ⟨rfl, .int _⟩⟩
theorem cs_min : CallSem K (rMinX K) minD := by
  intro H xs ds z hx h Q hQ
  match ds, h with
  | [.list es], h =>
    obtain ⟨x, rfl, p, vs, rfl, a, b⟩ := rp1 hx
    simp only [minD] at h
    split at h
    · rename_i n ns hn
      cases h
      rw [intsOf_ok hn] at b
      have hv := im_ints b
      subst hv
      refine .inl ⟨p, n :: ns, rfl, .inl a, by simp, fun m hm hle => ?_⟩
      obtain ⟨s1, s2, s3⟩ := minL_spec ns n
      have e : m = minL n ns := by
        have h1 : m ≤ minL n ns := hle _ (by rcases s1 with s1 | s1 <;> simp [s1])
        have h2 : minL n ns ≤ m := by
          rcases List.mem_cons.mp hm with rfl | hm
          · exact s2
          · exact s3 m hm
        omega
      subst e
      exact hQ _ H .refl ⟨rfl, .int _⟩
    · cases h
  | [.int i, .int j], h =>
    obtain ⟨x, y, rfl, k1, k2⟩ := rp2 hx
    cases h
    exact .inr ⟨i, j, by rw [im_int k1, im_int k2], hQ _ H .refl ⟨rfl, .int _⟩⟩
def sumD : List PyData → Option PyData
  | [.list ds] => match intsOf ds with
    | some ns => some (.int ns.sum)
    | none => none
  | _ => none
theorem cs_sum : CallSem K (rSum K) sumD := by
  intro H xs ds z hx h Q hQ
  match ds, h with
  | [.list es], h =>
    obtain ⟨x, rfl, p, vs, rfl, a, b⟩ := rp1 hx
    simp only [sumD] at h
    split at h
    · rename_i ns hn
      cases h
      rw [intsOf_ok hn] at b
      have hv := im_ints b
      subst hv
      exact ⟨p, ns, rfl, .inl a, hQ _ H .refl ⟨rfl, .int _⟩⟩
    · cases h
/-- sorted of texts -/
def sortSD : List PyData → Option PyData
  | [.list ds] => match strsOf ds with
    | some ss => if ss.length < 64 then some (.list ((sortStrs ss).map PyData.str)) else none
    | none => none
  | _ => none
theorem cs_sortS : CallSem K (rSortedS K) sortSD := by
  intro H xs ds z hx h Q hQ
  match ds, h with
  | [.list es], h =>
    obtain ⟨x, rfl, p, vs, rfl, a, b⟩ := rp1 hx
    simp only [sortSD] at h
    split at h
    · rename_i ss hn
      split at h
      · rename_i hl
        cases h
        rw [strsOf_ok hn] at b
        have hv := im_strs b
        subst hv
        refine ⟨p, ss, rfl, .inl a, hl, fun ys q hp hs hq => ?_⟩
        rw [sorted_is hp hs]
        have g := Grow.new (o := HO.lst ((sortStrs ss).map V.str)) hq
        exact hQ _ _ g ⟨q, _, rfl, hq, upd_same, strs_im _⟩
      · cases h
    · cases h
/-- list(..), tuple(..) -/
def listD : List PyData → Option PyData
  | [.list ds] => some (.list ds)
  | [.tuple ds] => some (.list ds)
  | _ => none
def rListOf (K : PySem.W.Frag) : List V → Hp → VK → Prop := fun xs H Q => ∃ p ys, xs = [.ref p] ∧ (SqL K H p ys ∨ SqT K H p ys) ∧ ∀ l, H l = none → Q (.ref l) (upd H l (.lst ys))
theorem call_listX : CallR X (.type "list") (rListOf X.K) := call_list_of
theorem cs_list : CallSem K (rListOf K) listD := by
  intro H xs ds z hx h Q hQ
  match ds, h with
  | [.list es], h =>
    obtain ⟨x, rfl, p, vs, rfl, a, b⟩ := rp1 hx
    cases h
    refine ⟨p, vs, rfl, .inl (.inl a), fun q hq => ?_⟩
    have g := Grow.new (o := HO.lst vs) hq
    exact hQ _ _ g ⟨q, vs, rfl, hq, upd_same, b.tk g.tk⟩
  | [.tuple es], h =>
    obtain ⟨x, rfl, k⟩ := rp1 hx
    obtain ⟨p, vs, rfl, a, b⟩ := im_tuple k
    cases h
    refine ⟨p, vs, rfl, .inr a, fun q hq => ?_⟩
    have g := Grow.new (o := HO.lst vs) hq
    exact hQ _ _ g ⟨q, vs, rfl, hq, upd_same, b.tk g.tk⟩
def tupleD : List PyData → Option PyData
  | [.list ds] => some (.tuple ds)
  | [.tuple ds] => some (.tuple ds)
  | _ => none
def rTupOf (K : PySem.W.Frag) : List V → Hp → VK → Prop := fun xs H Q => ∃ p ys, xs = [.ref p] ∧ ((SqL K H p ys ∧ NewT H ys Q) ∨ (SqT K H p ys ∧ Q (.ref p) H))
theorem call_tupX : CallR X (.type "tuple") (rTupOf X.K) := call_tupN
theorem cs_tuple : CallSem K (rTupOf K) tupleD := by
  intro H xs ds z hx h Q hQ
  match ds, h with
  | [.list es], h =>
    obtain ⟨x, rfl, p, vs, rfl, a, b⟩ := rp1 hx
    cases h
    refine ⟨p, vs, rfl, .inl ⟨.inl a, fun q ob hq hd => ?_⟩⟩
    have g := Grow.new (o := HO.frz ob (.tup vs)) hq
    exact hQ _ _ g (im_tup (nt_new hd) (b.tk g.tk))
  | [.tuple es], h =>
    obtain ⟨x, rfl, k⟩ := rp1 hx
    cases h
    have k' : Im K H x (.tuple es) := k
    obtain ⟨p, vs, rfl, a, b⟩ := im_tuple k
    exact ⟨p, vs, rfl, .inr ⟨a, hQ _ H .refl k'⟩⟩

/-! ### isinstance of built-in types -/
def tyN : PyData → String
  | .none => "NoneType"
  | .bool _ => "bool"
  | .int _ => "int"
  | .str _ => "str"
  | .list _ => "list"
  | .tuple _ => "tuple"
  | .dict _ => "dict"
def isi1 (t n : String) : Bool := t == n || (t == "bool" && n == "int")
theorem tyX_of {x : V} {d : PyData} (h : Rp K H x d) : TyX K H x (.type (tyN d)) := by
  cases d with
  | none => rw [im_non h]; exact .base .non
  | bool b => rw [im_bl h]; exact .base (.bl b)
  | int i => rw [im_int h]; exact .base (.int i)
  | str s => rw [im_str h]; exact .base (.str s)
  | list ds =>
    obtain ⟨p, vs, rfl, a, _⟩ := h
    rcases a with a | ⟨o, a⟩
    · exact .base (.lst a)
    · exact .base (.frz a)
  | tuple ds =>
    obtain ⟨p, vs, rfl, a, _⟩ := im_tuple h
    rcases a with (a | ⟨o, a⟩) | ⟨o, its, n, e, c, _⟩
    · exact .base (.tup a)
    · exact .fTuple a
    · exact .kTuple e c
  | dict kvs => obtain ⟨a, _⟩ := h; simp [imm] at a
def okTy (n : String) : Bool := n == "int" || n == "str" || n == "bool" || n == "tuple" || n == "list" || n == "dict"
theorem kit_all : (["NoneType", "bool", "int", "str", "list", "tuple", "dict"].all fun t => ["int", "str", "bool", "tuple", "list", "dict"].all fun n => kitB t n == some (isi1 t n)) = true := by decide +kernel
theorem tyN_mem (d : PyData) : tyN d ∈ ["NoneType", "bool", "int", "str", "list", "tuple", "dict"] := by cases d <;> simp [tyN]
theorem kitB_of {d : PyData} {n : String} (h : okTy n = true) : kitB (tyN d) n = some (isi1 (tyN d) n) := by
  have hn : n ∈ ["int", "str", "bool", "tuple", "list", "dict"] := by
    simp only [okTy, Bool.or_eq_true, beq_iff_eq] at h
    simp only [List.mem_cons, List.not_mem_nil, or_false]
    rcases h with ((((h | h) | h) | h) | h) | h
    · exact .inl h
    · exact .inr (.inl h)
    · exact .inr (.inr (.inl h))
    · exact .inr (.inr (.inr (.inl h)))
    · exact .inr (.inr (.inr (.inr (.inl h))))
    · exact .inr (.inr (.inr (.inr (.inr h))))
  have h1 := List.all_eq_true.mp kit_all _ (tyN_mem d)
  have h2 := List.all_eq_true.mp h1 _ hn
  simpa using h2
def eIsi (n : String) (fa : M Val) : M Val := bnd fa fun v => fun Γ => match rdv Γ v with
  | some d => if okTy n then some (Γ, .ok (.im (.bool (isi1 (tyN d) n)))) else none
  | none => none
theorem rt_isi {n : String} (ha : RefT K W ta fa) : RefT K W (tCB (rIsi K) (tCons ta (tCons (tC (.ty n)) tNil))) (eIsi n fa) := ⟨fun H0 IO Γ σ H Γ' rr Q hs e hQ => by
  refine ha.then hs e (fun x H' z p => by subst z; exact hQ H' p) fun Γ1 v x H1 e1 p1 k1 => ?_
  try dsimp only at e1
  split at e1
  · rename_i d h1
    split at e1
    · rename_i hn
      cases e1
      exact ⟨x, .ty n, _, _, _, rfl, .ty n, tyX_of (k1.rp p1.st h1), kit_ty (kitB_of hn), hQ _ H1 p1 ⟨rfl, .bl _⟩⟩
    · cases e1
  · cases e1⟩
def eIsi2 (n m : String) (fa : M Val) : M Val := bnd fa fun v => fun Γ => match rdv Γ v with
  | some d => if okTy n && okTy m then some (Γ, .ok (.im (.bool (isi1 (tyN d) n || isi1 (tyN d) m)))) else none
  | none => none
theorem rt_isi2 {n m : String} (ha : RefT K W ta fa) : RefT K W (tCB (rIsiT K) (tCons ta (tCons (tTup (tCons (tC (.ty n)) (tCons (tC (.ty m)) tNil))) tNil))) (eIsi2 n m fa) := ⟨fun H0 IO Γ σ H Γ' rr Q hs e hQ => by
  refine ha.then hs e (fun x H' z p => by subst z; exact hQ H' p) fun Γ1 v x H1 e1 p1 k1 => ?_
  try dsimp only at e1
  split at e1
  · rename_i d h1
    split at e1
    · rename_i hn
      rw [Bool.and_eq_true] at hn
      cases e1
      refine ⟨by show 2 ≤ sizeLine; exact size_ok (by decide), fun q hq => ?_⟩
      have g := Grow.new (o := HO.tup [V.ty n, V.ty m]) hq
      have p2 := p1.fin g
      have k2 := k1.stay p1.st (p1.lsts hs) (EPost.grow p1.st g)
      refine ⟨x, q, [.ty n, .ty m], _, [.type n, .type m], _, rfl, upd_same, .cons (.ty n) (.cons (.ty m) .nil), tyX_of (k2.rp p2.st h1), ?_, hQ _ _ p2 ⟨rfl, .bl _⟩⟩
      refine kitAny_cons (kit_ty (kitB_of hn.1)) (fun h0 => ?_) (fun h1 => by rw [h1]; rfl)
      rw [h0]
      exact kitAny_cons (kit_ty (kitB_of hn.2)) (fun h2 => by rw [h2]; exact kitAny_nil) fun h2 => by rw [h2]; rfl
    · cases e1
  · cases e1⟩

/-! ### methods of lists -/
def appendM : List PyData → List PyData → Option (List PyData × PyData)
  | ds, [d] => if imm d && decide (ds.length < 1000000) then some (ds ++ [d], .none) else none
  | _, _ => none
theorem rp_im {x : V} {d : PyData} (h : Rp K H x d) (i : imm d = true) : Im K H x d := by
  cases d <;> first | exact h | (simp [imm] at i)
theorem ms_append : MutSem K rAppend appendM := by
  intro H p vs ds xs es ds' z hp k hx h Q hQ
  match es, h with
  | [d], h =>
    obtain ⟨x, rfl, kx⟩ := rp1 hx
    simp only [appendM] at h
    split at h
    · rename_i hc
      rw [Bool.and_eq_true] at hc
      cases h
      have kx' := rp_im kx hc.1
      have t : Tk H (upd H p (.lst (vs ++ [x]))) := .upd hp
      exact ⟨p, vs, x, rfl, rfl, hp, by rw [k.length]; exact Nat.lt_of_lt_of_le (of_decide_eq_true hc.2) (size_ok (Nat.le_refl _)), hQ _ _ ((k.append (.single kx')).tk t) ⟨rfl, .non⟩⟩
    · cases h
def popM : List PyData → List PyData → Option (List PyData × PyData)
  | ds, [] => match ds[ds.length - 1]? with
    | some d => some (ds.dropLast, d)
    | none => none
  | ds, [.int i] => if -(2 ^ 63) ≤ i ∧ i < 2 ^ 63 then match ixN ds.length i with
    | some j => match ds[j]? with
      | some d => some (ds.eraseIdx j, d)
      | none => none
    | none => none
    else none
  | _, _ => none
theorem dropLast_im {vs : List V} {ds : List PyData} (k : ImAll K H vs ds) : ImAll K H vs.dropLast ds.dropLast := by
  rw [List.dropLast_eq_take, List.dropLast_eq_take, k.length]
  exact k.take _
theorem eraseIdx_im {vs : List V} {ds : List PyData} (k : ImAll K H vs ds) (j : Nat) : ImAll K H (vs.eraseIdx j) (ds.eraseIdx j) := by
  rw [List.eraseIdx_eq_take_drop_succ, List.eraseIdx_eq_take_drop_succ]
  exact (k.take _).append (k.drop _)
def rPopX (K : PySem.W.Frag) : V → List V → Hp → VK → Prop := fun x xs H Q => rPop x xs H Q ∨ rPopAt x xs H Q
theorem mt_popX : MtR X "list.pop" (rPopX X.K) := MtR.or mt_pop mt_popAt
theorem ms_pop : MutSem K (rPopX K) popM := by
  intro H p vs ds xs es ds' z hp k hx h Q hQ
  match es, h with
  | [], h =>
    have := rp0 hx
    subst this
    simp only [popM] at h
    split at h
    · rename_i d hd
      cases h
      obtain ⟨v, hv, kv⟩ := k.get hd
      have t : Tk H (upd H p (.lst vs.dropLast)) := .upd hp
      exact .inl ⟨p, vs, v, rfl, rfl, hp, by rw [k.length]; exact hv, hQ v _ ((dropLast_im k).tk t) (kv.tk t)⟩
    · cases h
  | [.int i], h =>
    obtain ⟨x, rfl, kx⟩ := rp1 hx
    simp only [popM] at h
    split at h
    · rename_i hb
      split at h
      · rename_i j hj
        split at h
        · rename_i d hd
          cases h
          obtain ⟨v, hv, kv⟩ := k.get hd
          obtain ⟨s1, s2, s3, s4⟩ := ixN_seq hj
          have t : Tk H (upd H p (.lst (vs.eraseIdx j))) := .upd hp
          exact .inr ⟨p, vs, i, j, v, rfl, by rw [im_int kx], hp, hb.1, hb.2, by rw [k.length]; exact s1, hv, hQ v _ ((eraseIdx_im k j).tk t) (kv.tk t)⟩
        · cases h
      · cases h
    · cases h
def reverseM : List PyData → List PyData → Option (List PyData × PyData)
  | ds, [] => some (ds.reverse, .none)
  | _, _ => none
theorem ms_reverse : MutSem K rReverse reverseM := by
  intro H p vs ds xs es ds' z hp k hx h Q hQ
  match es, h with
  | [], h =>
    have := rp0 hx
    subst this
    cases h
    have t : Tk H (upd H p (.lst vs.reverse)) := .upd hp
    exact ⟨p, vs, rfl, rfl, hp, hQ _ _ (k.reverse.tk t) ⟨rfl, .non⟩⟩
def insertM : List PyData → List PyData → Option (List PyData × PyData)
  | ds, [.int i, d] => if imm d && decide (ds.length < 1000000) && decide (0 ≤ i) && decide (i < 2 ^ 63) then some (ds.take i.toNat ++ [d] ++ ds.drop i.toNat, .none) else none
  | _, _ => none
def rInsert : V → List V → Hp → VK → Prop := fun x vs H Q => ∃ (l : Addr) (xs : List V) (i : Int) (y : V), x = .ref l ∧ vs = [.int i, y] ∧ H l = some (.lst xs) ∧ xs.length < sizeLine ∧ 0 ≤ i ∧ i < 2 ^ 63 ∧
    Q .non (upd H l (.lst (xs.take i.toNat ++ [y] ++ xs.drop i.toNat)))
theorem mt_insertX : MtR X "list.insert" rInsert := mt_insert
theorem ms_insert : MutSem K rInsert insertM := by
  intro H p vs ds xs es ds' z hp k hx h Q hQ
  match es, h with
  | [.int i, d], h =>
    obtain ⟨x, y, rfl, kx, ky⟩ := rp2 hx
    simp only [insertM] at h
    split at h
    · rename_i hc
      simp only [Bool.and_eq_true, decide_eq_true_eq] at hc
      obtain ⟨⟨⟨h1, h2⟩, h3⟩, h4⟩ := hc
      cases h
      have ky' := rp_im ky h1
      have t : Tk H (upd H p (.lst (vs.take i.toNat ++ [y] ++ vs.drop i.toNat))) := .upd hp
      exact ⟨p, vs, i, y, rfl, by rw [im_int kx], hp, by rw [k.length]; exact Nat.lt_of_lt_of_le h2 (size_ok (Nat.le_refl _)), h3, h4, hQ _ _ ((((k.take _).append (.single ky')).append (k.drop _)).tk t) ⟨rfl, .non⟩⟩
    · cases h

/-! ### methods of texts -/
def joinD : PyData → List PyData → Option PyData
  | .str a, [.list ds] => match strsOf ds with
    | some ss => if small ((ss.map (·.length)).sum + ss.length * a.length) then some (.str (Txt.join a ss)) else none
    | none => none
  | .str a, [.tuple ds] => match strsOf ds with
    | some ss => if small ((ss.map (·.length)).sum + ss.length * a.length) then some (.str (Txt.join a ss)) else none
    | none => none
  | _, _ => none
def rJoin (K : PySem.W.Frag) : V → List V → Hp → VK → Prop := fun x xs H Q => ∃ a p, ∃ ys : List Str, x = .str a ∧ xs = [.ref p] ∧ (SqL K H p (ys.map V.str) ∨ SqT K H p (ys.map V.str)) ∧
    (ys.map (·.length)).sum + ys.length * a.length ≤ 16777216 ∧ Q (.str (Txt.join a ys)) H
theorem mt_joinX : MtR X "str.join" (rJoin X.K) := mt_join
theorem me_join : MethSem K (rJoin K) joinD := by
  intro H x xs d ds z hx hxs h Q hQ
  match d, ds, h with
  | .str a, [.list es], h =>
    obtain ⟨y, rfl, p, vs, rfl, a1, a2⟩ := rp1 hxs
    simp only [joinD] at h
    split at h
    · rename_i ss hn
      split at h
      · rename_i hl
        cases h
        rw [strsOf_ok hn] at a2
        have hv := im_strs a2
        subst hv
        exact ⟨a, p, ss, im_str hx, rfl, .inl (.inl a1), Nat.le_trans (of_decide_eq_true hl) (by decide), hQ _ H .refl ⟨rfl, .str _⟩⟩
      · cases h
    · cases h
  | .str a, [.tuple es], h =>
    obtain ⟨y, rfl, k⟩ := rp1 hxs
    obtain ⟨p, vs, rfl, a1, a2⟩ := im_tuple k
    simp only [joinD] at h
    split at h
    · rename_i ss hn
      split at h
      · rename_i hl
        cases h
        rw [strsOf_ok hn] at a2
        have hv := im_strs a2
        subst hv
        exact ⟨a, p, ss, im_str hx, rfl, .inr a1, Nat.le_trans (of_decide_eq_true hl) (by decide), hQ _ H .refl ⟨rfl, .str _⟩⟩
      · cases h
    · cases h
end
end Vf
end

section
set_option Elab.async false
set_option linter.all false
set_option maxRecDepth 100000
namespace Vf
open PySem PySem.Spec PyProof.Rows L2
variable [Tabs]

/-! ### what a mirror does, as what is wanted behind it -/
def wpR {α : Type} (x : Option (Gm × Except Ex α)) (P : α → Gm → Prop) : Prop := match x with
  | some (Γ', .ok a) => P a Γ'
  | _ => False
def wpE {α : Type} (f : M α) (Γ : Gm) (P : α → Gm → Prop) : Prop := wpR (f Γ) P
def wpG (x : Option (Except Ex Rs × List (List PyData))) (P : Rs → List (List PyData) → Prop) : Prop := match x with
  | some (.ok r, outs) => P r outs
  | _ => False
def wpF (F : FD) (as : List Ar) (P : Rs → List (List PyData) → Prop) : Prop := wpG (F as) P
def oo {α : Type} (o : Option α) (P : α → Prop) : Prop := match o with
  | some a => P a
  | none => False
theorem oo_some {α : Type} {a : α} {P : α → Prop} : oo (some a) P = P a := rfl
theorem oo_none {α : Type} {P : α → Prop} : oo none P = False := rfl
theorem oo_ite {α : Type} {c : Prop} [Decidable c] {a : α} {P : α → Prop} : oo (if c then some a else none) P = (c ∧ P a) := by
  by_cases h : c <;> simp [oo, h]
theorem oo_ex {α : Type} {o : Option α} {P : α → Prop} : oo o P ↔ ∃ a, o = some a ∧ P a := by
  cases o <;> simp [oo]
theorem wp_ex {α : Type} {f : M α} {Γ : Gm} {P : α → Gm → Prop} : wpE f Γ P ↔ ∃ Γ' a, f Γ = some (Γ', .ok a) ∧ P a Γ' := by
  unfold wpE wpR
  constructor
  · intro h
    split at h
    · rename_i Γ' a e; exact ⟨Γ', a, e, h⟩
    · exact h.elim
  · rintro ⟨Γ', a, e, q⟩
    rw [e]; exact q
theorem wpF_ex {F : FD} {as : List Ar} {P : Rs → List (List PyData) → Prop} : wpF F as P ↔ ∃ r outs, F as = some (.ok r, outs) ∧ P r outs := by
  unfold wpF wpG
  constructor
  · intro h
    split at h
    · rename_i r o e; exact ⟨r, o, e, h⟩
    · exact h.elim
  · rintro ⟨r, o, e, q⟩
    rw [e]; exact q
theorem true_and_iff' {a b : Prop} (h : a) : (a ∧ b) = b := propext ⟨fun x => x.2, fun y => ⟨h, y⟩⟩
theorem false_and_iff' {a b : Prop} (h : ¬ a) : (a ∧ b) = False := propext ⟨fun x => h x.1, fun y => y.elim⟩
section
variable {α β : Type} {Γ Γ1 : Gm} {f : M α} {g : α → M β} {P : α → Gm → Prop}
theorem wp_mono {Q : α → Gm → Prop} (h : wpE f Γ P) (k : ∀ a Γ', P a Γ' → Q a Γ') : wpE f Γ Q := by
  obtain ⟨Γ', a, e, q⟩ := wp_ex.mp h
  exact wp_ex.mpr ⟨Γ', a, e, k a Γ' q⟩
theorem wpF_mono {F : FD} {as : List Ar} {P Q : Rs → List (List PyData) → Prop} (h : wpF F as P) (k : ∀ r o, P r o → Q r o) : wpF F as Q := by
  obtain ⟨r, o, e, q⟩ := wpF_ex.mp h
  exact wpF_ex.mpr ⟨r, o, e, k r o q⟩
theorem wp_pure {a : α} : wpE (M.pure a) Γ P = P a Γ := rfl
theorem wp_bnd {P : β → Gm → Prop} : wpE (bnd f g) Γ P = wpE f Γ fun a Γ1 => wpE (g a) Γ1 P := by
  unfold wpE bnd
  cases f Γ with
  | none => rfl
  | some x => obtain ⟨Γ1, r⟩ := x; cases r <;> rfl
end
section
variable {Γ : Gm} {P : Val → Gm → Prop} {fa fb fc : M Val} {ft fu : M Bool} {fA : M (List Val)}
def vr (i : Nat) (s : Option Slot) (Γ : Gm) (P : Val → Gm → Prop) : Prop := match s with
  | some (.im d) => P (.im d) Γ
  | some (.ow _) => P (.sl i) Γ
  | some (.io _) => P (.sl i) Γ
  | some (.bo _) => P (.sl i) Γ
  | _ => False
theorem wp_var {i : Nat} : wpE (eVar i) Γ P = vr i Γ[i]? Γ P := by
  unfold wpE eVar vr
  cases Γ[i]? with
  | none => rfl
  | some s => cases s <;> rfl
theorem vr_im {i : Nat} {d : PyData} : vr i (some (.im d)) Γ P = P (.im d) Γ := rfl
theorem vr_ow {i : Nat} {d : List PyData} : vr i (some (.ow d)) Γ P = P (.sl i) Γ := rfl
theorem vr_io {i : Nat} {d : List PyData} : vr i (some (.io d)) Γ P = P (.sl i) Γ := rfl
theorem vr_bo {i : Nat} {d : List PyData} : vr i (some (.bo d)) Γ P = P (.sl i) Γ := rfl
theorem wp_c {d : PyData} : wpE (eC d) Γ P = P (.im d) Γ := wp_pure
def o2 (g : PyData → PyData → Option PyData) (d e : Option PyData) (Q : PyData → Prop) : Prop := oo d fun x => oo e fun y => oo (g x y) Q
theorem o2_some {g : PyData → PyData → Option PyData} {d e : PyData} {Q : PyData → Prop} : o2 g (some d) (some e) Q = oo (g d e) Q := by simp [o2, oo_some]
theorem wp_op2 {g : PyData → PyData → Option PyData} : wpE (eOp2 g fa fb) Γ P = wpE fa Γ fun v Γ1 => wpE fb Γ1 fun u Γ2 => o2 g (rdv Γ2 v) (rdv Γ2 u) fun z => P (toV z) Γ2 := by
  unfold eOp2
  rw [wp_bnd]
  congr 1; funext v Γ1
  rw [wp_bnd]
  congr 1; funext u Γ2
  dsimp only [wpE]
  cases rdv Γ2 v with
  | none => rfl
  | some d =>
    cases rdv Γ2 u with
    | none => rfl
    | some e =>
      dsimp only
      show _ = oo (g d e) _
      cases g d e <;> rfl
theorem wp_op1 {g : PyData → Option PyData} : wpE (eOp1 g fa) Γ P = wpE fa Γ fun v Γ1 => oo (rdv Γ1 v) fun d => oo (g d) fun z => P (toV z) Γ1 := by
  unfold eOp1
  rw [wp_bnd]
  congr 1; funext v Γ1
  dsimp only [wpE]
  cases rdv Γ1 v with
  | none => rfl
  | some d =>
    dsimp only
    show _ = oo (g d) _
    cases g d <;> rfl
theorem wp_aNil {P : List Val → Gm → Prop} : wpE aNil Γ P = P [] Γ := wp_pure
theorem wp_aCons {P : List Val → Gm → Prop} : wpE (aCons fa fA) Γ P = wpE fa Γ fun v Γ1 => wpE fA Γ1 fun vs Γ2 => P (v :: vs) Γ2 := by
  unfold aCons
  rw [wp_bnd]
  congr 1; funext v Γ1
  rw [wp_bnd]
  rfl
theorem wp_cb {g : List PyData → Option PyData} : wpE (eCB g fA) Γ P = wpE fA Γ fun vs Γ1 => oo (rdvs Γ1 vs) fun ds => oo (g ds) fun z => P (toV z) Γ1 := by
  unfold eCB
  rw [wp_bnd]
  congr 1; funext v Γ1
  dsimp only [wpE]
  cases rdvs Γ1 v with
  | none => rfl
  | some d =>
    dsimp only
    show _ = oo (g d) _
    cases g d <;> rfl
def om (o : Option (List PyData × PyData)) (Q : List PyData → PyData → Prop) : Prop := oo o fun x => Q x.1 x.2
theorem om_some {x : List PyData × PyData} {Q : List PyData → PyData → Prop} : om (some x) Q = Q x.1 x.2 := by simp [om, oo_some]
theorem wp_mut {i : Nat} {g : List PyData → List PyData → Option (List PyData × PyData)} : wpE (eMut i g fA) Γ P = oo (getM i Γ) fun _ => wpE fA Γ fun vs Γ1 => oo (getM i Γ1) fun ds => oo (rdvs Γ1 vs) fun es => om (g ds es) fun ds' z => P (.im z) (putL i ds' Γ1) := by
  unfold eMut
  have e0 : ∀ q : M Val, wpE (fun Γ => match getM i Γ with | none => none | some _ => q Γ) Γ P = oo (getM i Γ) fun _ => wpE q Γ P := fun q => by
    dsimp only [wpE]
    cases getM i Γ <;> rfl
  refine (e0 _).trans ?_
  congr 1; funext _
  rw [wp_bnd]
  congr 1; funext vs Γ1
  dsimp only [wpE]
  cases getM i Γ1 with
  | none => rfl
  | some d =>
    cases rdvs Γ1 vs with
    | none => rfl
    | some e =>
      show wpR _ P = om (g d e) fun ds' z => P (.im z) (putL i ds' Γ1)
      dsimp only [om]
      cases g d e <;> rfl
def imS (v : Val) (Q : Str → Prop) : Prop := match v with
  | .im (.str a) => Q a
  | _ => False
theorem imS_str {a : Str} {Q : Str → Prop} : imS (.im (.str a)) Q = Q a := rfl
theorem wp_mth {g : PyData → List PyData → Option PyData} : wpE (eMth g fa fA) Γ P = wpE fa Γ fun v Γ1 => imS v fun a => wpE fA Γ1 fun vs Γ2 => oo (rdvs Γ2 vs) fun ds => oo (g (.str a) ds) fun z => P (toV z) Γ2 := by
  unfold eMth
  rw [wp_bnd]
  congr 1; funext v Γ1
  cases v with
  | nw _ => rfl
  | sl _ => rfl
  | im d =>
    cases d with
    | str a =>
      show wpE (bnd fA _) Γ1 P = _
      rw [wp_bnd, imS_str]
      congr 1; funext vs Γ2
      dsimp only [wpE]
      cases rdvs Γ2 vs with
      | none => rfl
      | some ds =>
        dsimp only
        show _ = oo (g (.str a) ds) _
        cases g (.str a) ds <;> rfl
    | _ => rfl
theorem wp_tup : wpE (eTup fA) Γ P = wpE fA Γ fun vs Γ1 => oo (ims vs) fun ds => ds.length ≤ 1000000 ∧ P (.im (.tuple ds)) Γ1 := by
  unfold eTup
  rw [wp_bnd]
  congr 1; funext v Γ1
  dsimp only [wpE]
  cases ims v with
  | none => rfl
  | some ds =>
    dsimp only [oo]
    by_cases h : ds.length ≤ 1000000
    · rw [if_pos h]; exact (true_and_iff' h).symm
    · rw [if_neg h]; exact (false_and_iff' h).symm
theorem wp_lst : wpE (eLst fA) Γ P = wpE fA Γ fun vs Γ1 => oo (ims vs) fun ds => ds.length ≤ 1000000 ∧ P (.nw ds) Γ1 := by
  unfold eLst
  rw [wp_bnd]
  congr 1; funext v Γ1
  dsimp only [wpE]
  cases ims v with
  | none => rfl
  | some ds =>
    dsimp only [oo]
    by_cases h : ds.length ≤ 1000000
    · rw [if_pos h]; exact (true_and_iff' h).symm
    · rw [if_neg h]; exact (false_and_iff' h).symm
theorem wp_isi {n : String} : wpE (eIsi n fa) Γ P = wpE fa Γ fun v Γ1 => oo (rdv Γ1 v) fun d => okTy n = true ∧ P (.im (.bool (isi1 (tyN d) n))) Γ1 := by
  unfold eIsi
  rw [wp_bnd]
  congr 1; funext v Γ1
  dsimp only [wpE]
  cases rdv Γ1 v with
  | none => rfl
  | some ds =>
    dsimp only [oo]
    by_cases h : okTy n = true
    · rw [if_pos h]; exact (true_and_iff' h).symm
    · rw [if_neg h]; exact (false_and_iff' h).symm
theorem wp_isi2 {n m : String} : wpE (eIsi2 n m fa) Γ P = wpE fa Γ fun v Γ1 => oo (rdv Γ1 v) fun d => (okTy n && okTy m) = true ∧ P (.im (.bool (isi1 (tyN d) n || isi1 (tyN d) m))) Γ1 := by
  unfold eIsi2
  rw [wp_bnd]
  congr 1; funext v Γ1
  dsimp only [wpE]
  cases rdv Γ1 v with
  | none => rfl
  | some ds =>
    dsimp only [oo]
    by_cases h : (okTy n && okTy m) = true
    · rw [if_pos h]; exact (true_and_iff' h).symm
    · rw [if_neg h]; exact (false_and_iff' h).symm
/-- tests -/
def blV (v : Val) (Q : Bool → Prop) : Prop := match v with
  | .im (.bool b) => Q b
  | _ => False
theorem blV_b {b : Bool} {Q : Bool → Prop} : blV (.im (.bool b)) Q = Q b := rfl
theorem wp_bVal {P : Bool → Gm → Prop} : wpE (bVal fa) Γ P = wpE fa Γ fun v Γ1 => blV v fun b => P b Γ1 := by
  unfold bVal
  rw [wp_bnd]
  congr 1; funext v Γ1
  cases v with
  | im d => cases d <;> rfl
  | nw _ => rfl
  | sl _ => rfl
theorem wp_bTru {P : Bool → Gm → Prop} : wpE (bTru fa) Γ P = wpE fa Γ fun v Γ1 => oo (rdv Γ1 v) fun d => oo (truD d) fun b => P b Γ1 := by
  unfold bTru
  rw [wp_bnd]
  congr 1; funext v Γ1
  dsimp only [wpE]
  cases rdv Γ1 v with
  | none => rfl
  | some d =>
    dsimp only
    show _ = oo (truD d) _
    cases truD d <;> rfl
theorem wp_bNot {P : Bool → Gm → Prop} : wpE (bNot ft) Γ P = wpE ft Γ fun b Γ1 => P (!b) Γ1 := by
  unfold bNot
  rw [wp_bnd]
  rfl
theorem wp_ite {α : Type} {c : Bool} {f g : M α} {P : α → Gm → Prop} : wpE (if c = true then f else g) Γ P = if c = true then wpE f Γ P else wpE g Γ P := by
  cases c <;> rfl
theorem wp_bAnd {P : Bool → Gm → Prop} : wpE (bAnd ft fu) Γ P = wpE ft Γ fun b Γ1 => if b = true then wpE fu Γ1 P else P false Γ1 := by
  unfold bAnd
  rw [wp_bnd]
  congr 1; funext v Γ1
  rw [wp_ite, wp_pure]
theorem wp_bOr {P : Bool → Gm → Prop} : wpE (bOr ft fu) Γ P = wpE ft Γ fun b Γ1 => if b = true then P true Γ1 else wpE fu Γ1 P := by
  unfold bOr
  rw [wp_bnd]
  congr 1; funext v Γ1
  rw [wp_ite, wp_pure]
theorem wp_bYes {P : Bool → Gm → Prop} : wpE bYes Γ P = P true Γ := wp_pure
theorem wp_eIf : wpE (eIf ft fa fb) Γ P = wpE ft Γ fun b Γ1 => if b = true then wpE fa Γ1 P else wpE fb Γ1 P := by
  unfold eIf
  rw [wp_bnd]
  congr 1; funext v Γ1
  rw [wp_ite]
theorem wp_andV : wpE (eAndV fa fb) Γ P = wpE fa Γ fun v Γ1 => blV v fun b => if b = true then wpE fb Γ1 P else P (.im (.bool false)) Γ1 := by
  unfold eAndV
  rw [wp_bnd]
  congr 1; funext v Γ1
  cases v with
  | im d =>
    cases d with
    | bool b => cases b <;> rfl
    | _ => rfl
  | nw _ => rfl
  | sl _ => rfl
theorem wp_orV : wpE (eOrV fa fb) Γ P = wpE fa Γ fun v Γ1 => blV v fun b => if b = true then P (.im (.bool true)) Γ1 else wpE fb Γ1 P := by
  unfold eOrV
  rw [wp_bnd]
  congr 1; funext v Γ1
  cases v with
  | im d =>
    cases d with
    | bool b => cases b <;> rfl
    | _ => rfl
  | nw _ => rfl
  | sl _ => rfl
theorem wp_notV : wpE (eNotV fa) Γ P = wpE fa Γ fun v Γ1 => blV v fun b => P (.im (.bool (!b))) Γ1 := by
  unfold eNotV
  rw [wp_bnd]
  congr 1; funext v Γ1
  cases v with
  | im d =>
    cases d with
    | bool b => cases b <;> rfl
    | _ => rfl
  | nw _ => rfl
  | sl _ => rfl
theorem wp_oNone {P : Option Int → Gm → Prop} : wpE oNone Γ P = P none Γ := wp_pure
def inV1 (v : Val) (Q : Int → Prop) : Prop := match v with
  | .im (.int i) => Q i
  | _ => False
theorem inV1_i {i : Int} {Q : Int → Prop} : inV1 (.im (.int i)) Q = Q i := rfl
theorem wp_oSome {P : Option Int → Gm → Prop} : wpE (oSome fa) Γ P = wpE fa Γ fun v Γ1 => inV1 v fun i => P (some i) Γ1 := by
  unfold oSome
  rw [wp_bnd]
  congr 1; funext v Γ1
  cases v with
  | im d => cases d <;> rfl
  | nw _ => rfl
  | sl _ => rfl
theorem wp_sl {fl fh : M (Option Int)} : wpE (eSl fa fl fh) Γ P = wpE fa Γ fun v Γ1 => wpE fl Γ1 fun lo Γ2 => wpE fh Γ2 fun hi Γ3 => oo (rdv Γ3 v) fun d => oo (slD d lo hi) fun z => P (toV z) Γ3 := by
  unfold eSl
  rw [wp_bnd]
  congr 1; funext v Γ1
  rw [wp_bnd]
  congr 1; funext lo Γ2
  rw [wp_bnd]
  congr 1; funext hi Γ3
  dsimp only [wpE]
  cases rdv Γ3 v with
  | none => rfl
  | some d =>
    dsimp only
    show _ = oo (slD d lo hi) _
    cases slD d lo hi <;> rfl
/-- a call -/
theorem wp_call {mask : List Bool} {F : FD} : wpE (eCall mask F fA) Γ P = wpE fA Γ fun vs Γ1 => oo (arsOf Γ1 mask vs) fun as => ((slM mask vs).Nodup ∧ ∀ i ∈ slB mask vs, i ∉ slM mask vs) ∧ wpF F as fun r outs => P (rsV r) (putLs (slM mask vs) outs Γ1) := by
  unfold eCall
  rw [wp_bnd]
  congr 1; funext vs Γ1
  dsimp only [wpE]
  cases arsOf Γ1 mask vs with
  | none => rfl
  | some as =>
    dsimp only [oo]
    by_cases h : (slM mask vs).Nodup ∧ ∀ i ∈ slB mask vs, i ∉ slM mask vs
    · rw [if_pos h]
      refine Eq.trans ?_ (true_and_iff' h).symm
      unfold wpF
      cases F as with
      | none => rfl
      | some x =>
        obtain ⟨r, outs⟩ := x
        cases r <;> rfl
    · rw [if_neg h]; exact (false_and_iff' h).symm

/-! ### statements -/
variable {f g : MS} {PS : Out → Gm → Prop}
def sq (o : Out) (Q R : Prop) : Prop := match o with
  | .next => Q
  | _ => R
theorem wp_seq : wpE (sSeq f g) Γ PS = wpE f Γ fun o Γ1 => sq o (wpE g Γ1 PS) (PS o Γ1) := by
  unfold sSeq
  rw [wp_bnd]
  congr 1; funext o Γ1
  cases o <;> rfl
theorem sq_next {Q R : Prop} : sq .next Q R = Q := rfl
theorem sq_ret {v : Val} {Q R : Prop} : sq (.ret v) Q R = R := rfl
theorem sq_brk {Q R : Prop} : sq .brk Q R = R := rfl
theorem sq_cont {Q R : Prop} : sq .cont Q R = R := rfl
theorem wp_next : wpE sNext Γ PS = PS .next Γ := wp_pure
theorem wp_brk : wpE sBrk Γ PS = PS .brk Γ := wp_pure
theorem wp_cont : wpE sCont Γ PS = PS .cont Γ := wp_pure
theorem wp_ret : wpE (sRet fa) Γ PS = wpE fa Γ fun v Γ1 => PS (.ret v) Γ1 := by
  unfold sRet
  rw [wp_bnd]
  rfl
theorem wp_retN : wpE sRetN Γ PS = PS (.ret (.im .none)) Γ := wp_pure
theorem wp_drop : wpE (sDrop fa) Γ PS = wpE fa Γ fun v Γ1 => PS .next Γ1 := by
  unfold sDrop
  rw [wp_bnd]
  rfl
theorem wp_sIf : wpE (sIf ft f g) Γ PS = wpE ft Γ fun b Γ1 => if b = true then wpE f Γ1 PS else wpE g Γ1 PS := by
  unfold sIf
  rw [wp_bnd]
  congr 1; funext v Γ1
  rw [wp_ite]
theorem wp_sSet {i : Nat} : wpE (sSet i fa) Γ PS = wpE fa Γ fun v Γ1 => oo (slotOf v) fun s => oo (setS i s Γ1) fun Γ2 => PS .next Γ2 := by
  unfold sSet
  rw [wp_bnd]
  congr 1; funext v Γ1
  dsimp only [wpE]
  cases slotOf v with
  | none => rfl
  | some s =>
    dsimp only
    show _ = oo (setS i s Γ1) _
    cases setS i s Γ1 <;> rfl
def imV (v : Val) (Q : PyData → Prop) : Prop := match v with
  | .im d => Q d
  | _ => False
theorem imV_im {d : PyData} {Q : PyData → Prop} : imV (.im d) Q = Q d := rfl
theorem wp_sAsg {gt : PyData → Gm → Option Gm} : wpE (sAsg gt fa) Γ PS = wpE fa Γ fun v Γ1 => imV v fun d => oo (gt d Γ1) fun Γ2 => PS .next Γ2 := by
  unfold sAsg
  rw [wp_bnd]
  congr 1; funext v Γ1
  cases v with
  | im d =>
    dsimp only [wpE]
    show _ = oo (gt d Γ1) _
    cases gt d Γ1 <;> rfl
  | nw _ => rfl
  | sl _ => rfl
theorem wp_sSetIx {j : Nat} {fi : M Val} : wpE (sSetIx j fi fa) Γ PS = wpE fa Γ fun v Γ1 => imV v fun d => oo (getM j Γ1) fun _ => wpE fi Γ1 fun u Γ2 => inV1 u fun k => oo (getM j Γ2) fun ds => oo (ixN ds.length k) fun n => PS .next (putL j (ds.set n d) Γ2) := by
  unfold sSetIx
  rw [wp_bnd]
  congr 1; funext v Γ1
  cases v with
  | nw _ => rfl
  | sl _ => rfl
  | im d =>
    rw [imV_im]
    have e0 : ∀ q : M Out, wpE (fun Γ => match getM j Γ with | none => none | some _ => q Γ) Γ1 PS = oo (getM j Γ1) fun _ => wpE q Γ1 PS := fun q => by
      dsimp only [wpE]
      cases getM j Γ1 <;> rfl
    refine (e0 _).trans ?_
    congr 1; funext _
    rw [wp_bnd]
    congr 1; funext u Γ2
    cases u with
    | nw _ => rfl
    | sl _ => rfl
    | im e =>
      cases e with
      | int k =>
        dsimp only [wpE, inV1]
        cases getM j Γ2 with
        | none => rfl
        | some ds =>
          dsimp only
          show _ = oo (ixN ds.length k) _
          cases ixN ds.length k <;> rfl
      | _ => rfl

/-! ### loops -/
def itv (v : Val) (Γ : Gm) (Q : List PyData → Option Nat → Prop) : Prop := match v with
  | .im (.tuple ds) => Q ds none
  | .im (.str z) => Q (chars z) none
  | .nw ds => Q ds none
  | .sl i => match Γ[i]? with
    | some (.ow ds) => Q ds (some i)
    | some (.bo ds) => Q ds (some i)
    | _ => False
  | _ => False
def itl (i : Nat) (s : Option Slot) (Q : List PyData → Option Nat → Prop) : Prop := match s with
  | some (.ow ds) => Q ds (some i)
  | some (.bo ds) => Q ds (some i)
  | _ => False
theorem wp_iter {P : Its1 → Gm → Prop} : wpE (eIter fa) Γ P = wpE fa Γ fun v Γ1 => itv v Γ1 fun ds b => P (ds, b) Γ1 := by
  unfold eIter
  rw [wp_bnd]
  congr 1; funext v Γ1
  cases v with
  | im d => cases d <;> rfl
  | nw _ => rfl
  | sl i =>
    dsimp only [wpE, itv]
    cases Γ1[i]? with
    | none => rfl
    | some s => cases s <;> rfl
theorem itv_t {ds : List PyData} {Q : List PyData → Option Nat → Prop} : itv (.im (.tuple ds)) Γ Q = Q ds none := rfl
theorem itv_s {z : Str} {Q : List PyData → Option Nat → Prop} : itv (.im (.str z)) Γ Q = Q (chars z) none := rfl
theorem itv_n {ds : List PyData} {Q : List PyData → Option Nat → Prop} : itv (.nw ds) Γ Q = Q ds none := rfl
theorem itv_l {i : Nat} {Q : List PyData → Option Nat → Prop} : itv (.sl i) Γ Q = itl i Γ[i]? Q := rfl
theorem itl_ow {i : Nat} {ds : List PyData} {Q : List PyData → Option Nat → Prop} : itl i (some (.ow ds)) Q = Q ds (some i) := rfl
theorem itl_bo {i : Nat} {ds : List PyData} {Q : List PyData → Option Nat → Prop} : itl i (some (.bo ds)) Q = Q ds (some i) := rfl
def rg1 (vs : List Val) (Q : Int → Prop) : Prop := match vs with
  | [.im (.int j)] => (-(2 ^ 62) ≤ j ∧ j < 2 ^ 62) ∧ Q j
  | _ => False
theorem rg1_i {j : Int} {Q : Int → Prop} : rg1 [.im (.int j)] Q = ((-(2 ^ 62) ≤ j ∧ j < 2 ^ 62) ∧ Q j) := rfl
def rng1 (j : Int) : List PyData := (List.range j.toNat).map fun (i : Nat) => PyData.int (i : Int)
theorem wp_range1 {P : Its1 → Gm → Prop} : wpE (eRange1 fA) Γ P = wpE fA Γ fun vs Γ1 => rg1 vs fun j => P (rng1 j, none) Γ1 := by
  unfold eRange1
  rw [wp_bnd]
  congr 1; funext v Γ1
  dsimp only [wpE]
  unfold rg1
  split
  · rename_i j
    by_cases h : -(2 ^ 62) ≤ j ∧ j < 2 ^ 62
    · rw [if_pos h]; exact (true_and_iff' h).symm
    · rw [if_neg h]; exact (false_and_iff' h).symm
  · rename_i h
    first
    | (split
       · exact absurd rfl (h _)
       · rfl)
    | rfl
    | simp [wpR]
def rg2 (vs : List Val) (Q : Int → Int → Prop) : Prop := match vs with
  | [.im (.int i), .im (.int j)] => ((-(2 ^ 62) ≤ i ∧ i < 2 ^ 62) ∧ -(2 ^ 62) ≤ j ∧ j < 2 ^ 62) ∧ Q i j
  | _ => False
theorem rg2_i {i j : Int} {Q : Int → Int → Prop} : rg2 [.im (.int i), .im (.int j)] Q = (((-(2 ^ 62) ≤ i ∧ i < 2 ^ 62) ∧ -(2 ^ 62) ≤ j ∧ j < 2 ^ 62) ∧ Q i j) := rfl
def rng2 (i j : Int) : List PyData := (List.range (j - i).toNat).map fun (k : Nat) => PyData.int (i + (k : Int))
theorem wp_range2 {P : Its1 → Gm → Prop} : wpE (eRange2 fA) Γ P = wpE fA Γ fun vs Γ1 => rg2 vs fun i j => P (rng2 i j, none) Γ1 := by
  unfold eRange2
  rw [wp_bnd]
  congr 1; funext v Γ1
  dsimp only [wpE]
  unfold rg2
  split
  · rename_i i j
    by_cases h : (-(2 ^ 62) ≤ i ∧ i < 2 ^ 62) ∧ -(2 ^ 62) ≤ j ∧ j < 2 ^ 62
    · rw [if_pos h]; exact (true_and_iff' h).symm
    · rw [if_neg h]; exact (false_and_iff' h).symm
  · rename_i h
    first
    | (split
       · exact absurd rfl (h _ _)
       · rfl)
    | rfl
    | simp [wpR]
/-- a loop's turns, by an invariant; R: what is wanted where the body returns -/
theorem loop_inv {tg : PyData → Gm → Option Gm} {body : MS} {PO : Out → Gm → Prop} (I : Nat → Gm → Prop) : ∀ (items : List PyData) (k : Nat) (Γ : Gm), I k Γ →
    (∀ i d Γ, items[i]? = some d → I (k + i) Γ → oo (tg d Γ) fun Γ1 => wpE body Γ1 fun o Γ2 => match o with
      | .next => I (k + i + 1) Γ2
      | .cont => I (k + i + 1) Γ2
      | .brk => PO .next Γ2
      | .ret v => PO (.ret v) Γ2) → (∀ Γ, I (k + items.length) Γ → PO .next Γ) → wpE (sLoop tg body items) Γ PO := by
  intro items
  induction items with
  | nil =>
    intro k Γ h0 _ hd
    exact wp_ex.mpr ⟨Γ, .next, rfl, hd Γ h0⟩
  | cons d r ih =>
    intro k Γ h0 hs hd
    obtain ⟨Γ1, e1, h1⟩ := oo_ex.mp (hs 0 d Γ rfl h0)
    obtain ⟨Γ2, o, e2, q⟩ := wp_ex.mp h1
    have next : I (k + 1) Γ2 → wpE (sLoop tg body r) Γ2 PO := fun h1 => ih (k + 1) Γ2 h1
      (fun i d' Γ' hi hI => by
        have := hs (i + 1) d' Γ' (by simpa using hi) (by rw [show k + (i + 1) = k + 1 + i by omega]; exact hI)
        rw [show k + (i + 1) + 1 = k + 1 + i + 1 by omega] at this
        exact this)
      (fun Γ' hI => hd Γ' (by rw [List.length_cons, show k + (r.length + 1) = k + 1 + r.length by omega]; exact hI))
    have unf : ∀ res, (match o with
      | .next => sLoop tg body r Γ2
      | .cont => sLoop tg body r Γ2
      | .brk => some (Γ2, .ok .next)
      | .ret v => some (Γ2, .ok (.ret v))) = res → sLoop tg body (d :: r) Γ = res := fun res h => by
      unfold sLoop
      rw [e1]
      dsimp only
      rw [e2]
      cases o <;> exact h
    cases o with
    | next => obtain ⟨Γ', a, e, q'⟩ := wp_ex.mp (next q); exact wp_ex.mpr ⟨Γ', a, unf _ e, q'⟩
    | cont => obtain ⟨Γ', a, e, q'⟩ := wp_ex.mp (next q); exact wp_ex.mpr ⟨Γ', a, unf _ e, q'⟩
    | brk => exact wp_ex.mpr ⟨Γ2, .next, unf _ rfl, q⟩
    | ret v => exact wp_ex.mpr ⟨Γ2, .ret v, unf _ rfl, q⟩
theorem wp_for {fi : M Its1} {tg : PyData → Gm → Option Gm} {body : MS} : wpE (sFor fi tg body) Γ PS = wpE fi Γ fun x Γ1 => oo (bor x.2 Γ1) fun Γ2 => wpE (sLoop tg body x.1) Γ2 fun o Γ3 => PS o (unb x.2 Γ1 Γ3) := by
  unfold sFor
  rw [wp_bnd]
  congr 1; funext x Γ1
  dsimp only [wpE]
  cases bor x.2 Γ1 with
  | none => rfl
  | some Γ2 =>
    dsimp only [oo]
    cases sLoop tg body x.1 Γ2 with
    | none => rfl
    | some r =>
      obtain ⟨Γ3, r⟩ := r
      cases r <;> rfl
/-- a comprehension's turns by an invariant -/
theorem lc_inv {vs : List Nat} {tg : PyData → Gm → Option Gm} {ft : M Bool} {fe : M Val} {PL : List PyData → Gm → Prop} (I : Nat → List PyData → Gm → Prop) : ∀ (items : List PyData) (k : Nat) (acc : List PyData) (Γ : Gm), I k acc Γ →
    (∀ i d acc Γ, items[i]? = some d → I (k + i) acc Γ → oo (tg d Γ) fun Γ1 => wpE ft Γ1 fun b Γ2 => if b = true then wpE fe Γ2 fun v Γ3 => imV v fun e => acc.length < 1000000 ∧ oo (clr vs Γ3) fun Γ4 => I (k + i + 1) (acc ++ [e]) Γ4 else oo (clr vs Γ2) fun Γ4 => I (k + i + 1) acc Γ4) →
    (∀ acc Γ, I (k + items.length) acc Γ → PL acc Γ) → ∃ Γ' acc', eLoop vs tg ft fe items acc Γ = some (Γ', acc') ∧ PL acc' Γ' := by
  intro items
  induction items with
  | nil =>
    intro k acc Γ h0 _ hd
    exact ⟨Γ, acc, rfl, hd acc Γ h0⟩
  | cons d r ih =>
    intro k acc Γ h0 hs hd
    obtain ⟨Γ1, e1, h1⟩ := oo_ex.mp (hs 0 d acc Γ rfl h0)
    obtain ⟨Γ2, b, e2, q⟩ := wp_ex.mp h1
    have next : ∀ acc' Γ', I (k + 1) acc' Γ' → ∃ Γe acc'', eLoop vs tg ft fe r acc' Γ' = some (Γe, acc'') ∧ PL acc'' Γe := fun acc' Γ' h1 => ih (k + 1) acc' Γ' h1
      (fun i d' a Γ'' hi hI => by
        have := hs (i + 1) d' a Γ'' (by simpa using hi) (by rw [show k + (i + 1) = k + 1 + i by omega]; exact hI)
        rw [show k + (i + 1) + 1 = k + 1 + i + 1 by omega] at this
        exact this)
      (fun a Γ'' hI => hd a Γ'' (by rw [List.length_cons, show k + (r.length + 1) = k + 1 + r.length by omega]; exact hI))
    cases b with
    | false =>
      rw [if_neg Bool.false_ne_true] at q
      obtain ⟨Γ4, e4, q⟩ := oo_ex.mp q
      obtain ⟨Γ', a, e, q'⟩ := next acc Γ4 q
      refine ⟨Γ', a, ?_, q'⟩
      unfold eLoop
      rw [e1]; dsimp only; rw [e2]; dsimp only; rw [e4]; exact e
    | true =>
      rw [if_pos rfl] at q
      obtain ⟨Γ3, v, e3, q⟩ := wp_ex.mp q
      cases v with
      | im e0 =>
        obtain ⟨hl, q⟩ := q
        obtain ⟨Γ4, e4, q⟩ := oo_ex.mp q
        obtain ⟨Γ', a, e, q'⟩ := next _ Γ4 q
        refine ⟨Γ', a, ?_, q'⟩
        unfold eLoop
        rw [e1]; dsimp only; rw [e2]; dsimp only; rw [e3]; dsimp only; rw [if_pos hl, e4]; exact e
      | nw _ => exact q.elim
      | sl _ => exact q.elim
theorem wp_lc {vs : List Nat} {fi : M Its1} {tg : PyData → Gm → Option Gm} : wpE (eLc vs fi tg ft fa) Γ P = wpE fi Γ fun x Γ1 => oo (bor x.2 Γ1) fun Γ2 => oo (clr vs Γ2) fun Γ3 => ∃ Γ4 acc, eLoop vs tg ft fa x.1 [] Γ3 = some (Γ4, acc) ∧ P (.nw acc) (unb x.2 Γ1 (rst vs Γ2 Γ4)) := by
  unfold eLc
  rw [wp_bnd]
  congr 1; funext x Γ1
  dsimp only [wpE]
  cases bor x.2 Γ1 with
  | none => rfl
  | some Γ2 =>
    dsimp only [oo]
    cases clr vs Γ2 with
    | none => rfl
    | some Γ3 =>
      dsimp only
      cases eLoop vs tg ft fa x.1 [] Γ3 with
      | none => exact propext ⟨fun h => h.elim, fun ⟨_, _, h, _⟩ => nomatch h⟩
      | some r =>
        obtain ⟨Γ4, acc⟩ := r
        exact propext ⟨fun h => ⟨Γ4, acc, rfl, h⟩, fun ⟨_, _, h, q⟩ => by cases h; exact q⟩

/-! ### a def -/
def resP (o : Out) (Γ : Gm) (as : List Ar) (P : Rs → List (List PyData) → Prop) : Prop := match o with
  | .ret v => oo (resOf Γ v) fun r => oo (outsOf Γ 0 as) fun os => P r os
  | .next => oo (outsOf Γ 0 as) fun os => P (.v .none) os
  | _ => False
theorem resP_ret {v : Val} {as : List Ar} {P : Rs → List (List PyData) → Prop} : resP (.ret v) Γ as P = oo (resOf Γ v) fun r => oo (outsOf Γ 0 as) fun os => P r os := rfl
theorem resP_next {as : List Ar} {P : Rs → List (List PyData) → Prop} : resP .next Γ as P = oo (outsOf Γ 0 as) fun os => P (.v .none) os := rfl
theorem wp_F {N n : Nat} {b : MS} {as : List Ar} {P : Rs → List (List PyData) → Prop} (hl : as.length = n) (h : wpE b (initG N as) fun o Γ => resP o Γ as P) : wpF (mkF0 N n b) as P := by
  obtain ⟨Γ', o, e, q⟩ := wp_ex.mp h
  cases o with
  | ret v =>
    obtain ⟨r, e1, q⟩ := oo_ex.mp q
    obtain ⟨os, e2, q⟩ := oo_ex.mp q
    exact wpF_ex.mpr ⟨r, os, by unfold mkF0 mkF; rw [if_pos hl, e]; dsimp only; rw [e1, e2], q⟩
  | next =>
    obtain ⟨os, e2, q⟩ := oo_ex.mp q
    exact wpF_ex.mpr ⟨_, os, by unfold mkF0 mkF; rw [if_pos hl, e]; dsimp only; rw [e2], q⟩
  | brk => exact q.elim
  | cont => exact q.elim
end

/-! ### data, as reckoned -/
theorem rdv_im {Γ : Gm} {d : PyData} : rdv Γ (.im d) = some d := rfl
theorem rdv_nw {Γ : Gm} {ds : List PyData} : rdv Γ (.nw ds) = some (.list ds) := rfl
def rsl (s : Option Slot) : Option PyData := match s with
  | some (.ow ds) => some (.list ds)
  | some (.io ds) => some (.list ds)
  | some (.bo ds) => some (.list ds)
  | _ => none
theorem rdv_sl {Γ : Gm} {i : Nat} : rdv Γ (.sl i) = rsl Γ[i]? := rfl
theorem rsl_ow {ds : List PyData} : rsl (some (.ow ds)) = some (.list ds) := rfl
theorem rsl_io {ds : List PyData} : rsl (some (.io ds)) = some (.list ds) := rfl
theorem rsl_bo {ds : List PyData} : rsl (some (.bo ds)) = some (.list ds) := rfl
theorem rdvs_nil {Γ : Gm} : rdvs Γ [] = some [] := rfl
def cons2 (a : Option PyData) (b : Option (List PyData)) : Option (List PyData) := match a, b with
  | some d, some ds => some (d :: ds)
  | _, _ => none
theorem rdvs_cons {Γ : Gm} {v : Val} {vs : List Val} : rdvs Γ (v :: vs) = cons2 (rdv Γ v) (rdvs Γ vs) := by
  first
  | rfl
  | (simp only [rdvs, cons2]; done)
  | (simp only [rdvs, cons2]
     cases rdv Γ v <;> cases rdvs Γ vs <;> rfl)
theorem cons2_some {d : PyData} {ds : List PyData} : cons2 (some d) (some ds) = some (d :: ds) := rfl
theorem ims_nil : ims [] = some [] := rfl
theorem ims_cons {d : PyData} {vs : List Val} : ims (.im d :: vs) = cons2 (some d) (ims vs) := by
  simp only [ims]
  cases ims vs <;> rfl
theorem toV_int {i : Int} : toV (.int i) = .im (.int i) := rfl
theorem toV_bool {i : Bool} : toV (.bool i) = .im (.bool i) := rfl
theorem toV_str {i : Str} : toV (.str i) = .im (.str i) := rfl
theorem toV_tuple {i : List PyData} : toV (.tuple i) = .im (.tuple i) := rfl
theorem toV_none : toV .none = .im .none := rfl
theorem toV_list {i : List PyData} : toV (.list i) = .nw i := rfl
theorem eqv_int {i j : Int} : PyData.eqv (.int i) (.int j) = (i == j) := by simp [PyData.eqv]
theorem shaped_int {i : Int} : SeqAt.shaped (.int i) = true := by simp [SeqAt.shaped, PyData.canLay0, PyData.depth]
theorem shaped_bool {i : Bool} : SeqAt.shaped (.bool i) = true := by simp [SeqAt.shaped, PyData.canLay0, PyData.depth]
theorem shaped_none : SeqAt.shaped .none = true := by simp [SeqAt.shaped, PyData.canLay0, PyData.depth]
theorem shaped_str {s : Str} (h : PyData.strOk s = true) : SeqAt.shaped (.str s) = true := by simp [SeqAt.shaped, PyData.canLay0, PyData.depth, h]
theorem eqD_int {i j : Int} : eqD (.int i) (.int j) = some (.bool (i == j)) := by simp [eqD, shaped_int, eqv_int]
theorem neD_int {i j : Int} : neD (.int i) (.int j) = some (.bool (i != j)) := by simp [neD, shaped_int, eqv_int, bne]
theorem eqD_bool {i j : Bool} : eqD (.bool i) (.bool j) = some (.bool (i == j)) := by simp [eqD, shaped_bool, PyData.eqv]
theorem neD_bool {i j : Bool} : neD (.bool i) (.bool j) = some (.bool (i != j)) := by simp [neD, shaped_bool, PyData.eqv, bne]
theorem resOf_im {Γ : Gm} {d : PyData} : resOf Γ (.im d) = some (.v d) := rfl
theorem resOf_nw {Γ : Gm} {d : List PyData} : resOf Γ (.nw d) = some (.l d) := rfl
def rso (s : Option Slot) : Option Rs := match s with
  | some (.ow ds) => some (.l ds)
  | _ => none
theorem resOf_sl {Γ : Gm} {i : Nat} : resOf Γ (.sl i) = rso Γ[i]? := rfl
theorem rso_ow {d : List PyData} : rso (some (.ow d)) = some (.l d) := rfl
theorem intD_int {i : Int} : Vf.intD [.int i] = some (.int i) := rfl
theorem intD_bool {b : Bool} : Vf.intD [.bool b] = some (.int (if b then 1 else 0)) := rfl
theorem modD_int {i j : Int} (h : 0 < j) : modD (.int i) (.int j) = some (.int (i % j)) := by simp [modD, h]
theorem fdivD_int {i j : Int} (h : 0 < j ∧ j < 1073741824) : fdivD (.int i) (.int j) = some (.int (i / j)) := by simp [fdivD, h]
theorem addD_int {i j : Int} : addD (.int i) (.int j) = some (.int (i + j)) := rfl
theorem subD_int {i j : Int} : subD (.int i) (.int j) = some (.int (i - j)) := rfl
theorem ltD_int {i j : Int} : ltD (.int i) (.int j) = some (.bool (decide (i < j))) := rfl
theorem leD_int {i j : Int} : cmpI leI (.int i) (.int j) = some (.bool (decide (i ≤ j))) := rfl
theorem gtD_int {i j : Int} : cmpI gtI (.int i) (.int j) = some (.bool (decide (j < i))) := rfl
theorem geD_int {i j : Int} : cmpI geI (.int i) (.int j) = some (.bool (decide (j ≤ i))) := rfl
theorem ixL_int {ds : List PyData} {i : Int} : ixD (.list ds) (.int i) = atI ds i := rfl
theorem ixT_int {ds : List PyData} {i : Int} : ixD (.tuple ds) (.int i) = atI ds i := rfl
theorem ixS_int {z : Str} {i : Int} : ixD (.str z) (.int i) = ixS z i := rfl
theorem lenL {ds : List PyData} : lenD [.list ds] = some (.int ds.length) := rfl
theorem lenT {ds : List PyData} : lenD [.tuple ds] = some (.int ds.length) := rfl
theorem lenS {z : Str} (h : z.length ≤ 1000000) : lenD [.str z] = some (.int z.length) := by simp [lenD, small, h]
theorem listD_l {ds : List PyData} : listD [.list ds] = some (.list ds) := rfl
theorem listD_t {ds : List PyData} : listD [.tuple ds] = some (.list ds) := rfl
theorem tupleD_l {ds : List PyData} : tupleD [.list ds] = some (.tuple ds) := rfl
theorem tupleD_t {ds : List PyData} : tupleD [.tuple ds] = some (.tuple ds) := rfl
theorem mulD_l {i j : Int} (h : -(2 ^ 64) < i ∧ i < 2 ^ 64) : mulD (.int i) (.int j) = some (.int (i * j)) := by
  show (if _ then _ else _) = _
  rw [if_pos (Or.inl h)]
theorem mulD_r {i j : Int} (h : -(2 ^ 64) < j ∧ j < 2 ^ 64) : mulD (.int i) (.int j) = some (.int (i * j)) := by
  show (if _ then _ else _) = _
  rw [if_pos (Or.inr h)]
theorem negD_int {i : Int} : negD (.int i) = some (.int (-i)) := rfl
theorem appendM_ok {ds : List PyData} {d : PyData} (h1 : imm d = true) (h2 : ds.length < 1000000) : appendM ds [d] = some (ds ++ [d], .none) := by simp [appendM, h1, h2]
theorem popM_last {ds : List PyData} {d : PyData} : popM (ds ++ [d]) [] = some (ds, d) := by simp [popM]
theorem atI_of {ds : List PyData} {i : Nat} {d : PyData} (h : ds[i]? = some d) : atI ds (i : Int) = some d := L2.atI_nat h
theorem atI0 {d : PyData} {ds : List PyData} : atI (d :: ds) 0 = some d := L2.atI_nat (j := 0) rfl
theorem atI1 {d e : PyData} {ds : List PyData} : atI (d :: e :: ds) 1 = some e := L2.atI_nat (j := 1) rfl
theorem atI2 {d e f : PyData} {ds : List PyData} : atI (d :: e :: f :: ds) 2 = some f := L2.atI_nat (j := 2) rfl
/-- an index that is drawn -/
theorem atI_in {ds : List PyData} {i : Int} (h0 : 0 ≤ i) (h1 : i < ds.length) : ∃ d, atI ds i = some d ∧ ds[i.toNat]? = some d ∧ d ∈ ds := by
  have hi : i.toNat < ds.length := by omega
  refine ⟨ds[i.toNat], ?_, by simp [hi], List.getElem_mem hi⟩
  have := L2.atI_nat (xs := ds) (j := i.toNat) (v := ds[i.toNat]) (by simp [hi])
  rwa [Int.toNat_of_nonneg h0] at this
end Vf
end

section
set_option Elab.async false
set_option linter.all false
set_option maxRecDepth 100000
namespace Vf
open PySem PySem.Spec PyProof.Rows L2
variable [Tabs]

/-- holds a term where a rewriting doesn't go -/
inductive Tg {α : Sort u} (a : α) : Type where
  | mk
structure IV (p : Prop) (x : Tg p := .mk) : Prop where
  a : p
def wpC (F : FD) (as : List Ar) (P : Rs → List (List PyData) → Prop) (x : Tg P := .mk) : Prop := wpF F as P
def wpY {α : Type} (f : M α) (Γ : Gm) (P : α → Gm → Prop) (x : Tg P := .mk) : Prop := wpE f Γ P
theorem wpY_eq {α : Type} {f : M α} {Γ : Gm} {P : α → Gm → Prop} {x : Tg P} : wpY f Γ P x = wpE f Γ P := rfl
/-! ### walking without going behind what is not known yet -/
theorem wpF_c {F : FD} {as as' : List Ar} {P : Rs → List (List PyData) → Prop} (h : as = as') : wpF F as P = wpF F as' P := by rw [h]
theorem oo_c {α : Type} {o o' : Option α} {P : α → Prop} (h : o = o') : oo o P = oo o' P := by rw [h]
theorem om_c {o o' : Option (List PyData × PyData)} {P : List PyData → PyData → Prop} (h : o = o') : om o P = om o' P := by rw [h]
theorem o2_c {g : PyData → PyData → Option PyData} {d d' e e' : Option PyData} {Q : PyData → Prop} (h : d = d') (h' : e = e') : o2 g d e Q = o2 g d' e' Q := by rw [h, h']
theorem vr_c {i : Nat} {s s' : Option Slot} {Γ : Gm} {P : Val → Gm → Prop} (h : s = s') : vr i s Γ P = vr i s' Γ P := by rw [h]
theorem blV_c {v v' : Val} {Q : Bool → Prop} (h : v = v') : blV v Q = blV v' Q := by rw [h]
theorem wpE_c {α : Type} {f : M α} {Γ Γ' : Gm} {P : α → Gm → Prop} (h : Γ = Γ') : wpE f Γ P = wpE f Γ' P := by rw [h]
/-- a comprehension's turns, and what is wanted behind them -/
def wpL (vs : List Nat) (tg : PyData → Gm → Option Gm) (ft : M Bool) (fe : M Val) (items acc : List PyData) (Γ : Gm) (P : List PyData → Gm → Prop) : Prop := ∃ Γ' acc', eLoop vs tg ft fe items acc Γ = some (Γ', acc') ∧ P acc' Γ'
theorem wpL_c {vs : List Nat} {tg : PyData → Gm → Option Gm} {ft : M Bool} {fe : M Val} {items acc items' acc' : List PyData} {Γ Γ' : Gm} {P : List PyData → Gm → Prop} (h : items = items') (ha : acc = acc') (hg : Γ = Γ') : wpL vs tg ft fe items acc Γ P = wpL vs tg ft fe items' acc' Γ' P := by rw [h, ha, hg]
theorem wp_lcL {fa : M Val} {fi : M Its1} {ft : M Bool} {vs : List Nat} {tg : PyData → Gm → Option Gm} {Γ : Gm} {P : Val → Gm → Prop} : wpE (eLc vs fi tg ft fa) Γ P = wpE fi Γ fun x Γ1 => oo (bor x.2 Γ1) fun Γ2 => oo (clr vs Γ2) fun Γ3 => wpL vs tg ft fa x.1 [] Γ3 fun acc Γ4 => P (.nw acc) (unb x.2 Γ1 (rst vs Γ2 Γ4)) := wp_lc
def pr (x : Its1) (Q : List PyData → Option Nat → Prop) : Prop := Q x.1 x.2
theorem pr_mk {ds : List PyData} {b : Option Nat} {Q : List PyData → Option Nat → Prop} : pr (ds, b) Q = Q ds b := rfl
def wpM (vs : List Nat) (tg : PyData → Gm → Option Gm) (ft : M Bool) (fe : M Val) (items acc : List PyData) (Γ : Gm) (P : List PyData → Gm → Prop) (x : Tg P := .mk) : Prop := wpL vs tg ft fe items acc Γ P
theorem wp_lcP {fa : M Val} {fi : M Its1} {ft : M Bool} {vs : List Nat} {tg : PyData → Gm → Option Gm} {Γ : Gm} {P : Val → Gm → Prop} : wpE (eLc vs fi tg ft fa) Γ P = wpE fi Γ fun x Γ1 => pr x fun ds b => oo (bor b Γ1) fun Γ2 => oo (clr vs Γ2) fun Γ3 => wpM vs tg ft fa ds [] Γ3 (fun acc Γ4 => P (.nw acc) (unb b Γ1 (rst vs Γ2 Γ4))) := wp_lc
@[irreducible] def wpX {α : Type} (f : M α) (Γ : Gm) (P : α → Gm → Prop) (x : Tg P := .mk) : Prop := wpE f Γ P
theorem wpX_eq {α : Type} {f : M α} {Γ : Gm} {P : α → Gm → Prop} : wpX f Γ P = wpE f Γ P := by unfold wpX; rfl
theorem wpX_mono {α : Type} {f : M α} {Γ : Gm} {P Q : α → Gm → Prop} (h : wpX f Γ P) (k : ∀ a Γ', P a Γ' → Q a Γ') : wpX f Γ Q := by
  rw [wpX_eq] at h ⊢
  exact wp_mono h k
theorem wp_forP {fi : M Its1} {tg : PyData → Gm → Option Gm} {body : MS} {Γ : Gm} {PS : Out → Gm → Prop} : wpE (sFor fi tg body) Γ PS = wpE fi Γ fun x Γ1 => pr x fun ds b => oo (bor b Γ1) fun Γ2 => wpX (sLoop tg body ds) Γ2 (fun o Γ3 => PS o (unb b Γ1 Γ3)) := by
  simp only [wpX_eq]
  exact wp_for
theorem lcI {vs : List Nat} {tg : PyData → Gm → Option Gm} {ft : M Bool} {fe : M Val} {PL : List PyData → Gm → Prop} (I : Nat → List PyData → Gm → Prop) {items : List PyData} {Γ : Gm} (h0 : I 0 [] Γ)
    (hs : ∀ i d acc Γ, items[i]? = some d → I i acc Γ → oo (tg d Γ) fun Γ1 => wpE ft Γ1 fun b Γ2 => if b = true then wpE fe Γ2 fun v Γ3 => imV v fun e => acc.length < 1000000 ∧ oo (clr vs Γ3) fun Γ4 => IV (I (i + 1) (acc ++ [e]) Γ4) else oo (clr vs Γ2) fun Γ4 => IV (I (i + 1) acc Γ4))
    (hd : ∀ acc Γ, I items.length acc Γ → PL acc Γ) : wpL vs tg ft fe items [] Γ PL :=
  lc_inv I items 0 [] Γ h0 (fun i d acc Γ hi hI => by
    rw [Nat.zero_add] at hI ⊢
    obtain ⟨Γ1, e1, h1⟩ := oo_ex.mp (hs i d acc Γ hi hI)
    refine oo_ex.mpr ⟨Γ1, e1, wp_mono h1 fun b Γ2 q => ?_⟩
    cases b with
    | false =>
      rw [if_neg Bool.false_ne_true] at q ⊢
      obtain ⟨Γ4, e4, q⟩ := oo_ex.mp q
      exact oo_ex.mpr ⟨Γ4, e4, q.a⟩
    | true =>
      rw [if_pos rfl] at q ⊢
      refine wp_mono q fun v Γ3 q => ?_
      cases v with
      | im e =>
        obtain ⟨q1, q2⟩ := q
        obtain ⟨Γ4, e4, q⟩ := oo_ex.mp q2
        exact ⟨q1, oo_ex.mpr ⟨Γ4, e4, q.a⟩⟩
      | _ => exact False.elim q) (fun acc Γ hI => hd acc Γ (by rwa [Nat.zero_add] at hI))
def outI (o : Out) (A : Prop) (B : Out → Prop) : Prop := match o with
  | .next => A
  | .cont => A
  | .brk => B .next
  | .ret v => B (.ret v)
theorem outI_next {A : Prop} {B : Out → Prop} : outI .next A B = A := rfl
theorem outI_cont {A : Prop} {B : Out → Prop} : outI .cont A B = A := rfl
theorem outI_brk {A : Prop} {B : Out → Prop} : outI .brk A B = B .next := rfl
theorem outI_ret {A : Prop} {B : Out → Prop} {v : Val} : outI (.ret v) A B = B (.ret v) := rfl
theorem loopI {tg : PyData → Gm → Option Gm} {body : MS} {PO : Out → Gm → Prop} (I : Nat → Gm → Prop) {items : List PyData} {Γ : Gm} (h0 : I 0 Γ)
    (hs : ∀ i d Γ, items[i]? = some d → I i Γ → oo (tg d Γ) fun Γ1 => wpE body Γ1 fun o Γ2 => outI o (IV (I (i + 1) Γ2)) (fun o => PO o Γ2))
    (hd : ∀ Γ, I items.length Γ → PO .next Γ) : wpX (sLoop tg body items) Γ PO := by
  rw [wpX_eq]
  exact loop_inv I items 0 Γ h0 (fun i d Γ hi hI => by
    rw [Nat.zero_add] at hI ⊢
    obtain ⟨Γ1, e1, h1⟩ := oo_ex.mp (hs i d Γ hi hI)
    refine oo_ex.mpr ⟨Γ1, e1, wp_mono h1 fun o Γ2 q => ?_⟩
    cases o with
    | next => exact q.a
    | cont => exact q.a
    | _ => exact q) (fun Γ hI => hd Γ (by rwa [Nat.zero_add] at hI))
theorem wp_callC {fA : M (List Val)} {mask : List Bool} {F : FD} {Γ : Gm} {P : Val → Gm → Prop} : wpE (eCall mask F fA) Γ P = wpE fA Γ fun vs Γ1 => oo (arsOf Γ1 mask vs) fun as => ((slM mask vs).Nodup ∧ ∀ i ∈ slB mask vs, i ∉ slM mask vs) ∧ wpC F as (fun r outs => P (rsV r) (putLs (slM mask vs) outs Γ1)) := wp_call
theorem wp_sIfY {ft : M Bool} {f g : MS} {Γ : Gm} {PS : Out → Gm → Prop} : wpE (sIf ft f g) Γ PS = wpY (sIf ft f g) Γ PS := rfl
/-! slots -/
def fre (s : Slot) : Prop := ∀ ds, s ≠ .io ds
theorem fre_em : fre .em = True := by simp [fre]
theorem fre_im {d : PyData} : fre (.im d) = True := by simp [fre]
theorem fre_ow {d : List PyData} : fre (.ow d) = True := by simp [fre]
theorem fre_bo {d : List PyData} : fre (.bo d) = True := by simp [fre]
def sS (o : Option Slot) (i : Nat) (s : Slot) (Γ : Gm) : Option Gm := match o with
  | some (.io _) => none
  | some _ => some (Γ.set i s)
  | none => none
theorem setS_eq {i : Nat} {s : Slot} {Γ : Gm} : setS i s Γ = sS Γ[i]? i s Γ := rfl
theorem sS_fre {o : Slot} {i : Nat} {s : Slot} {Γ : Gm} (h : fre o) : sS (some o) i s Γ = some (Γ.set i s) := by
  cases o with
  | io ds => exact absurd rfl (h ds)
  | _ => rfl
def gM (o : Option Slot) : Option (List PyData) := match o with
  | some (.ow ds) => some ds
  | some (.io ds) => some ds
  | _ => none
theorem getM_eq {i : Nat} {Γ : Gm} : getM i Γ = gM Γ[i]? := rfl
theorem gM_ow {d : List PyData} : gM (some (.ow d)) = some d := rfl
theorem gM_io {d : List PyData} : gM (some (.io d)) = some d := rfl
def pL (o : Option Slot) (i : Nat) (ds : List PyData) (Γ : Gm) : Gm := match o with
  | some (.ow _) => Γ.set i (.ow ds)
  | some (.io _) => Γ.set i (.io ds)
  | _ => Γ
theorem putL_eq {i : Nat} {ds : List PyData} {Γ : Gm} : putL i ds Γ = pL Γ[i]? i ds Γ := rfl
theorem pL_ow {d : List PyData} {i : Nat} {ds : List PyData} {Γ : Gm} : pL (some (.ow d)) i ds Γ = Γ.set i (.ow ds) := rfl
theorem pL_io {d : List PyData} {i : Nat} {ds : List PyData} {Γ : Gm} : pL (some (.io d)) i ds Γ = Γ.set i (.io ds) := rfl
/-! data -/
theorem rng1_get {n : Int} {i : Nat} {d : PyData} (h : (rng1 n)[i]? = some d) : d = .int i ∧ (i : Int) < n := by
  unfold rng1 at h
  rw [List.getElem?_map] at h
  cases e : (List.range n.toNat)[i]? with
  | none => rw [e] at h; cases h
  | some j =>
    rw [e] at h; cases h
    obtain ⟨h1, h2⟩ := List.getElem?_eq_some_iff.mp e
    rw [List.getElem_range] at h2
    rw [List.length_range] at h1
    subst h2
    exact ⟨rfl, by omega⟩
theorem rng1_len {n : Int} : (rng1 n).length = n.toNat := by simp [rng1]
theorem get_mem {α : Type} {l : List α} {i : Nat} {d : α} (h : l[i]? = some d) : d ∈ l := List.mem_of_getElem? h
theorem ix_of {ds : List PyData} {i : Int} {d : PyData} (h : atI ds i = some d) : ixD (.list ds) (.int i) = some d := h
theorem truD_b {b : Bool} : truD (.bool b) = some b := rfl
theorem imm_int {i : Int} : imm (.int i) = true := by simp [imm]
theorem imm_str {s : Str} : imm (.str s) = true := by simp [imm]
theorem strOk_app {a b : Str} : PyData.strOk (a ++ b) = (PyData.strOk a && PyData.strOk b) := by
  show (a.cps ++ b.cps).all _ = _
  rw [Array.all_append]; rfl
theorem len_app {a b : Str} : (a ++ b).length = a.length + b.length := by
  show (a.cps ++ b.cps).size = _
  rw [Array.size_append]; rfl
theorem eqD_str {a b : Str} (ha : PyData.strOk a = true) (hb : PyData.strOk b = true) : eqD (.str a) (.str b) = some (.bool (a == b)) := by
  simp only [eqD, shaped_str ha, shaped_str hb, Bool.and_self, if_true, PyData.eqv]
theorem inD_strs {a : Str} {ws : List Str} : inD (.str a) (.list (ws.map PyData.str)) = some (.bool (decide (a ∈ ws))) := by
  have h : (ws.map PyData.str).all flatD = true := by simp [flatD]
  show (match inL (.str a) (ws.map PyData.str) with
    | some b => some (PyData.bool b)
    | none => none) = _
  have : inL (.str a) (ws.map PyData.str) = some (decide (a ∈ ws)) := by
    unfold inL
    rw [if_pos (by rw [h]; rfl)]
    congr 1
    induction ws with
    | nil => simp
    | cons w ws ih =>
      have h' : (ws.map PyData.str).all flatD = true := by simp [flatD]
      rw [List.map_cons, List.any_cons, ih h', PyData.eqv]
      by_cases e : w = a
      · subst e; simp
      · have e' : a ≠ w := fun x => e x.symm
        simp [e, e']
  rw [this]
theorem maxL_ge {n : Int} {ns : List Int} : n ≤ maxL n ns ∧ ∀ m ∈ ns, m ≤ maxL n ns := by
  induction ns generalizing n with
  | nil => exact ⟨Int.le_refl _, by simp⟩
  | cons m ns ih =>
    unfold maxL
    obtain ⟨h1, h2⟩ := ih (n := if m > n then m else n)
    have e : n ≤ (if m > n then m else n) ∧ m ≤ (if m > n then m else n) := by split <;> omega
    refine ⟨Int.le_trans e.1 h1, fun k hk => ?_⟩
    rcases List.mem_cons.mp hk with rfl | hk
    · exact Int.le_trans e.2 h1
    · exact h2 k hk
theorem maxL_le {n b : Int} {ns : List Int} (hn : n ≤ b) (h : ∀ m ∈ ns, m ≤ b) : maxL n ns ≤ b := by
  induction ns generalizing n with
  | nil => exact hn
  | cons m ns ih =>
    unfold maxL
    exact ih (by have := h m (by simp); split <;> omega) fun k hk => h k (by simp [hk])
theorem toV_of {d : PyData} (h : imm d = true) : toV d = .im d := by
  cases d <;> first | rfl | (simp [imm] at h)
theorem imm_of {ds : List PyData} (h : immAll ds = true) {d : PyData} (hd : d ∈ ds) : imm d = true := by
  induction ds with
  | nil => cases hd
  | cons e ds ih =>
    simp only [immAll, Bool.and_eq_true] at h
    rcases List.mem_cons.mp hd with rfl | hd
    · exact h.1
    · exact ih h.2 hd
theorem immAll_of {ds : List PyData} (h : ∀ d ∈ ds, imm d = true) : immAll ds = true := by
  induction ds with
  | nil => rfl
  | cons e ds ih => simp only [immAll, Bool.and_eq_true]; exact ⟨h e (by simp), ih fun d hd => h d (by simp [hd])⟩
theorem immAll_strs {ws : List Str} : immAll (ws.map PyData.str) = true := immAll_of fun d hd => by
  obtain ⟨a, _, rfl⟩ := List.mem_map.mp hd; exact imm_str
theorem immAll_ints {ws : List Int} : immAll (ws.map PyData.int) = true := immAll_of fun d hd => by
  obtain ⟨a, _, rfl⟩ := List.mem_map.mp hd; exact imm_int
theorem strOk_fold {sep : Array Nat} (hs : sep.all (fun x => decide (x < 1114112)) = true) : ∀ (ss : List Str) (acc : Array Nat), acc.all (fun x => decide (x < 1114112)) = true → (∀ c ∈ ss, PyData.strOk c = true) → (ss.foldl (fun acc p => acc ++ sep ++ p.cps) acc).all (fun x => decide (x < 1114112)) = true := by
  intro ss
  induction ss with
  | nil => intro acc h _; exact h
  | cons c ss ih =>
    intro acc h hc
    refine ih _ ?_ fun d hd => hc d (by simp [hd])
    rw [Array.all_append, Array.all_append, h, hs]
    exact hc c (by simp)
theorem strOk_join {sep : Str} (hs : PyData.strOk sep = true) {ss : List Str} (h : ∀ c ∈ ss, PyData.strOk c = true) : PyData.strOk (Txt.join sep ss) = true := by
  cases ss with
  | nil => simp [Txt.join, PySem.Builtin.Str.glued, PyData.strOk, Str.empty]
  | cons c ss => exact strOk_fold hs ss c.cps (h c (by simp)) fun d hd => h d (by simp [hd])
theorem strOk_rep (x : Array Nat) (hx : x.all (fun x => decide (x < 1114112)) = true) : ∀ (n : Nat) (acc : Array Nat), acc.all (fun x => decide (x < 1114112)) = true → ((List.replicate n x).foldl (fun x1 x2 => x1 ++ x2) acc).all (fun x => decide (x < 1114112)) = true := by
  intro n
  induction n with
  | zero => intro acc h; exact h
  | succ n ih =>
    intro acc h
    rw [List.replicate_succ, List.foldl_cons]
    refine ih _ ?_
    rw [Array.all_append, h, hx]; rfl
theorem strOk_mul {x : Str} (hx : PyData.strOk x = true) (n : Int) : PyData.strOk (Txt.mul x n) = true := by
  unfold Txt.mul
  split
  · simp [PyData.strOk, Str.empty]
  · split
    · exact hx
    · exact strOk_rep x.cps hx n.toNat #[] (by simp)
theorem mulD_str {a : Str} {n : Int} (h : -1000000 ≤ n ∧ n ≤ 1000000 ∧ a.length * n.toNat ≤ 1000000) : mulD (.str a) (.int n) = some (.str (Txt.mul a n)) := by
  show (if _ then _ else _) = _
  rw [if_pos h]
theorem addD_str {a b : Str} (h : a.length + b.length ≤ 1000000) : addD (.str a) (.str b) = some (.str (a ++ b)) := by
  show (if small _ = true then _ else _) = _
  rw [if_pos (by simpa [small] using h)]
theorem maxD_ints {n : Int} {ns : List Int} : maxD [.list ((n :: ns).map PyData.int)] = some (.int (maxL n ns)) := by
  simp only [maxD, intsOf_map]
theorem joinD_strs {a : Str} {ss : List Str} (h : (ss.map (·.length)).sum + ss.length * a.length ≤ 1000000) : joinD (.str a) [.list (ss.map PyData.str)] = some (.str (Txt.join a ss)) := by
  simp only [joinD, strsOf_map]
  rw [if_pos (by simpa [small] using h)]
theorem sum_ones {ss : List Str} (h : ∀ c ∈ ss, c.length = 1) : (ss.map (·.length)).sum = ss.length := by
  induction ss with
  | nil => rfl
  | cons c ss ih => simp [h c (by simp), ih fun d hd => h d (by simp [hd])]; omega
end Vf
end

section
set_option Elab.async false
set_option linter.all false
set_option maxRecDepth 100000
namespace Vf
open PySem PySem.Spec PyProof.Rows L2
variable [Tabs]
variable {K : PySem.W.Frag} {W : Ex → L2.St → Hp → Prop} {ta : TE} {fa : M Val}
def betw (k m : Str) (c : Nat) : Bool := !decide ([c] < k.cps.toList) && !decide (m.cps.toList < [c])
theorem elt_chain {prog : Program} {w : World} {scope : Scope} {x k m : Str} {j i : Nat} {p1 p2 p3 p4 : Pos} (hk : scope.kind = .function) (hl : scope.names.lookup x = some .local) (hd : (x == ("__debug__" : Str)) = false := by decide) :
    GxR.EltP prog w scope x (.Compare (.Constant (.str k) j p1) [.LtE, .LtE] [.Name x p2, .Constant (.str m) i p3] p4) (betw k m) := by
  intro cenv A' E' c t s₂ m₂ hs hn hm
  refine Compare_chain ?_
  refine Calls.Constant_str ?_
  refine chain_link ?_
  refine wpAny_Name (wpAny_loadName_local (by rw [hs]; exact hk) (show cenv.scope.names.lookup x = some .local by rw [hs]; exact hl) hn hm ?_) hd
  refine PySem.P.le_str ?_
  refine wpAny_truthy_bool ?_
  cases h : (!decide ([c] < k.cps.toList)) with
  | false =>
    refine ⟨?_, GxR.keeps_tok _ _⟩
    unfold betw
    rw [h]; rfl
  | true =>
    refine chain_last ?_
    refine Calls.Constant_str ?_
    refine PySem.P.le_str ⟨?_, GxR.keeps_tok _ _⟩
    unfold betw
    rw [h]; rfl
def eAllS (pb : Nat → Bool) (fe : M Val) : M Val := bnd fe fun v => match v with
  | .im (.str a) => M.pure (.im (.bool (a.cps.toList.all pb)))
  | _ => fun _ => none
theorem tabbed_grow {P : Addr} {H H' : Hp} (h : GxR.TabG H P) (t : GxR.Tabbed P H H') : Grow H H' := fun b o e => ⟨fun m => m.elim, fun _ => by
  by_cases hb : b = P
  · subst hb
    obtain ⟨ps, e1, k1⟩ := h
    obtain ⟨ps', e2, k2⟩ := t.1
    rw [e1] at e; cases e
    exact .inr ⟨ps, ps', rfl, e2, fun _ => k2⟩
  · exact .inl (by rw [t.2 b hb]; exact e)⟩
theorem rt_allS {P : Addr} {pb : Nat → Bool} (hP : P ∈ Tabs.ps) (ha : RefT K W ta fa) : RefT K W (GxR.tAllS P pb ta) (eAllS pb fa) := ⟨fun H0 IO Γ σ H Γ' rr Q hs e hQ => by
  refine ha.then hs e (fun x H' z p => by subst z; exact hQ H' p) fun Γ1 v x H1 e1 p1 k1 => ?_
  try dsimp only at e1
  split at e1
  · rename_i a
    cases e1
    have hT := p1.st.tabG hP
    exact ⟨a, im_str k1, hT, fun H2 ht => hQ _ H2 (p1.fin (tabbed_grow hT ht)) ⟨rfl, .bl _⟩⟩
  · cases e1⟩
theorem wp_allS {pb : Nat → Bool} {Γ : Gm} {P : Val → Gm → Prop} : wpE (eAllS pb fa) Γ P = wpE fa Γ fun v Γ1 => imS v fun a => P (.im (.bool (a.cps.toList.all pb))) Γ1 := by
  unfold eAllS
  rw [wp_bnd]
  congr 1; funext v Γ1
  unfold imS
  split <;> first | rfl | (rename_i h; split <;> first | rfl | exact absurd rfl (h _))
end Vf
namespace Vf
open PySem PySem.Spec PyProof.Rows L2
variable [Tabs]
/-- a def of the text whose code object is known -/
structure FunC (K : PySem.W.Frag) (x qual : Str) (st : Stmt) (f : Addr) (fd : FuncData) (c : Addr) : Prop where
  ex : ∃ (oc : Value) (od : Option Addr) (kV doc pm : Value) (an : Option Addr) (ct : Value) (osl : Array (Option Value)),
    fd = PySem.W.fnOf x qual (defArgs st) (defBody st) (defScope st) .none kV doc pm an (.ref c) ct ∧ K.lookup f = some ⟨oc, od, .func fd, osl⟩ ∧ PySem.W.codeIn K (.ref c) qual = true
  kp : PySem.W.keepIn K (.ref f) = true
theorem FunC.fn {K : PySem.W.Frag} {x qual : Str} {st : Stmt} {f : Addr} {fd : FuncData} {c : Addr} (F : FunC K x qual st f fd c) : Fun K x qual st f fd := by
  obtain ⟨oc, od, kV, doc, pm, an, ct, osl, e, lk, hcd⟩ := F.ex
  exact ⟨⟨oc, od, kV, doc, pm, an, .ref c, ct, osl, e, lk, hcd⟩, F.kp⟩
theorem funC_mk {K : PySem.W.Frag} {x qual : Str} {st : Stmt} {f c : Addr} {oc : Value} {od an : Option Addr} {osl : Array (Option Value)} {kV doc pm ct : Value} (l : K.lookup f = some ⟨oc, od, .func (PySem.W.fnOf x qual (defArgs st) (defBody st) (defScope st) .none kV doc pm an (.ref c) ct), osl⟩)
    (h : PySem.W.codeIn K (.ref c) qual = true) (k : PySem.W.keepIn K (.ref f) = true) : FunC K x qual st f (PySem.W.fnOf x qual (defArgs st) (defBody st) (defScope st) .none kV doc pm an (.ref c) ct) c := ⟨⟨oc, od, kV, doc, pm, an, ct, osl, rfl, l, h⟩, k⟩
theorem fn_okC {P : Program} {w : World} {K : PySem.W.Frag} {mg : Str → Option Value} {base : Heap} {x qual : Str} {st : Stmt} {fa c : Addr} {fd : FuncData} {N ps : List Str} {k : Nat} {XR : XRT} {b : MS} (F : FunC K x qual st fa fd c) (S : FnScope N ps (defScope st))
    (hb : ∀ (A : Around) (outer : List Env) (s : Shared) (H : Hp) (E : XK), Room k (A.deeper (envOfC qual (defScope st) s.heap.objs.size fa (.ref c))) → ∃ t, PSs (cxOf CX0 P w K mg base N qual (defScope st) fa (.ref c) A outer s H E).nox (defBody st) t ∧ RefS K WF t b) :
    FnOk P w K mg base CX0 (k + 1) fa fd ps (spD K XR ps.length (mkF0 N.length ps.length b)) := by
  obtain ⟨oc, od, kV, doc, pm, an, ct, osl, rfl, lk, hcd⟩ := F.ex
  refine fn_of lk hcd S (fun vs H Q E h => ?_) fun A outer s H vs Q E hr h => ?_
  · obtain ⟨_, _, _, hl, _⟩ := h
    exact hl
  · obtain ⟨t, h1, h2⟩ := hb A outer s H E hr
    refine ⟨t, h1.nox, ?_⟩
    have hpl : ps.length ≤ N.length := by have := congrArg List.length S.pre; rw [List.length_take] at this; omega
    obtain ⟨as, r, outs, q1, q2, q3⟩ := h
    unfold mkF0 at q2
    split at q2
    · rename_i r' o' q4
      cases q2
      exact body_ok (XR := fun _ _ _ _ => True) (E := fun _ _ _ => False) hpl (W := WF) h2 (fun e σ' H' => ⟨fun z => z.elim, fun z => z .none none trivial⟩) ⟨as, .ok r', outs, q1, q4, q3⟩
    · cases q2
/-- a look at a generator expression's scope -/
def genC (sc : Scope) (x : Str) : Bool :=
  decide (sc.kind = .function) && !sc.isCoroutine && sc.names.all (fun y => !decide (y.2 = .cell) && !decide (y.2 = .free)) && decide (sc.names.lookup (".0" : Str) = some NameKind.local) && decide (sc.names.lookup x = some .local)
theorem genS_by {env : Env} {sc : Scope} {x : Str} (h : genC sc x = true) : GxR.GenS env sc x := by
  unfold genC at h
  simp only [Bool.and_eq_true, Bool.not_eq_true', decide_eq_true_eq, List.all_eq_true, decide_eq_false_iff_not] at h
  obtain ⟨⟨⟨⟨h1, h2⟩, h3⟩, h4⟩, h5⟩ := h
  exact ⟨h1, h2, fun y hy => (h3 y hy).1, h4, h5, fun y hy e => absurd e (h3 y hy).2⟩
end Vf
end

section
set_option Elab.async false
set_option linter.all false
set_option maxRecDepth 100000
/-! sorted(xs, key=f), f a def whose keys are data with lists in them, comparable up to the first place that differs. -/
namespace Vs
open PySem PySem.W PySem.SeqAt PySem.Calls PyProof.Rows

/-! ### data that < can compare -/
mutual
def cmpb : PyData → PyData → Bool
  | .bool _, .bool _ => true
  | .int _, .int _ => true
  | .str _, .str _ => true
  | .list xs, .list ys => cmpbL xs ys
  | .tuple xs, .tuple ys => cmpbT xs ys
  | _, _ => false
def cmpbL : List PyData → List PyData → Bool
  | x :: xs, y :: ys => cmpb x y && cmpbL xs ys
  | [], _ => true
  | _ :: _, [] => true
def cmpbT : List PyData → List PyData → Bool
  | x :: xs, y :: ys => cmpb x y && (!(PyData.eqv x y) || cmpbT xs ys)
  | [], _ => true
  | _ :: _, [] => true
end
def PX (x y : PyData) : Prop := (PyData.eqv x y = true → keyToks x = keyToks y) ∧ (PyData.eqv x y = false → ∀ l m, PyProof.Rows.lexLt itemOrd (keyToks x ++ l) (keyToks y ++ m) = PyProof.Rows.lexLt itemOrd (keyToks x) (keyToks y))
def PA (xs ys : List PyData) : Prop := (PyData.eqvAll xs ys = true → keyToksAll xs = keyToksAll ys) ∧ (PyData.eqvAll xs ys = false → ∀ l m, PyProof.Rows.lexLt itemOrd (keyToksAll xs ++ l) (keyToksAll ys ++ m) = PyProof.Rows.lexLt itemOrd (keyToksAll xs) (keyToksAll ys))
theorem pa_nn : PA [] [] := ⟨fun _ => rfl, fun e => absurd e (by simp [PyData.eqvAll])⟩
theorem pa_nc {y : PyData} {ys : List PyData} : PA [] (y :: ys) := ⟨fun e => absurd e (by simp [PyData.eqvAll]), fun _ l m => by
      simp only [keyToksAll, List.cons_append, List.nil_append]
      exact (lex_atom (by simp) _ _).trans (lex_atom (by simp) _ _).symm⟩
theorem pa_cn {x : PyData} {xs : List PyData} : PA (x :: xs) [] := ⟨fun e => absurd e (by simp [PyData.eqvAll]), fun _ l m => by
      simp only [keyToksAll, List.cons_append, List.nil_append]
      exact (lex_atom (by simp) _ _).trans (lex_atom (by simp) _ _).symm⟩
theorem pa_cc {x y : PyData} {xs ys : List PyData} (a : PX x y) (b : PyData.eqv x y = true → PA xs ys) : PA (x :: xs) (y :: ys) := by
  obtain ⟨a1, a2⟩ := a
  unfold PA
  rw [eqv_all_cons, toks_all_cons, toks_all_cons]
  cases hx : PyData.eqv x y with
  | true =>
    obtain ⟨b1, b2⟩ := b hx
    rw [a1 hx, Bool.true_and]
    refine ⟨fun e => by rw [b1 e], fun e l m => ?_⟩
    simp only [List.cons_append, List.append_assoc]
    exact (lex_self (O := itemOrd) _ _ _).trans ((lex_pre _ _ _).trans ((b2 e l m).trans ((lex_pre _ _ _).symm.trans (lex_self (O := itemOrd) _ _ _).symm)))
  | false =>
    rw [Bool.false_and]
    refine ⟨fun e => absurd e Bool.false_ne_true, fun _ l m => ?_⟩
    simp only [List.cons_append, List.append_assoc]
    exact (lex_self (O := itemOrd) _ _ _).trans ((a2 hx _ _).trans ((a2 hx _ _).symm.trans (lex_self (O := itemOrd) _ _ _).symm))
theorem cmpbT_tail {x y : PyData} {xs ys : List PyData} (h : cmpbT (x :: xs) (y :: ys) = true) (e : PyData.eqv x y = true) : cmpbT xs ys = true := by
  rw [cmpbT, e] at h
  simpa using (Bool.and_eq_true .. ▸ h : _ ∧ _).2
theorem cmpbT_head {x y : PyData} {xs ys : List PyData} (h : cmpbT (x :: xs) (y :: ys) = true) : cmpb x y = true := by
  rw [cmpbT, Bool.and_eq_true] at h
  exact h.1
theorem cmpbL_cons {x y : PyData} {xs ys : List PyData} (h : cmpbL (x :: xs) (y :: ys) = true) : cmpb x y = true ∧ cmpbL xs ys = true := by
  rw [cmpbL, Bool.and_eq_true] at h
  exact h
mutual
theorem px : ∀ (x y : PyData), cmpb x y = true → PX x y
  | .none, y, h => absurd h (by cases y <;> simp [cmpb])
  | .bool a, y, h => by
    cases y with
    | bool b => exact toks_eqv _ _ (by simp [alike])
    | _ => exact absurd h (by simp [cmpb])
  | .int a, y, h => by
    cases y with
    | int b => exact toks_eqv _ _ (by simp [alike])
    | _ => exact absurd h (by simp [cmpb])
  | .str a, y, h => by
    cases y with
    | str b => exact toks_eqv _ _ (by simp [alike])
    | _ => exact absurd h (by simp [cmpb])
  | .list xs, y, h => by
    cases y with
    | list ys =>
      have t := paL xs ys (by simpa [cmpb] using h)
      unfold PX
      simp only [keyToks, PyData.eqv]
      exact t
    | _ => exact absurd h (by simp [cmpb])
  | .tuple xs, y, h => by
    cases y with
    | tuple ys =>
      have t := paT xs ys (by simpa [cmpb] using h)
      unfold PX
      simp only [keyToks, PyData.eqv]
      exact t
    | _ => exact absurd h (by simp [cmpb])
  | .dict _, y, h => absurd h (by cases y <;> simp [cmpb])
theorem paL : ∀ (xs ys : List PyData), cmpbL xs ys = true → PA xs ys
  | [], [], _ => pa_nn
  | [], _ :: _, _ => pa_nc
  | _ :: _, [], _ => pa_cn
  | x :: xs, y :: ys, h => pa_cc (px x y (cmpbL_cons h).1) fun _ => paL xs ys (cmpbL_cons h).2
theorem paT : ∀ (xs ys : List PyData), cmpbT xs ys = true → PA xs ys
  | [], [], _ => pa_nn
  | [], _ :: _, _ => pa_nc
  | _ :: _, [], _ => pa_cn
  | x :: xs, y :: ys, h => pa_cc (px x y (cmpbT_head h)) fun e => paT xs ys (cmpbT_tail h e)
end
theorem lt_yes {x y : PyData} {xs ys : List PyData} (h : PX x y) (e : PyData.eqv x y = true) : PyProof.Rows.lexLt itemOrd (keyToksAll (x :: xs)) (keyToksAll (y :: ys)) = PyProof.Rows.lexLt itemOrd (keyToksAll xs) (keyToksAll ys) := by
  rw [toks_all_cons, toks_all_cons, h.1 e]
  exact (lex_self (O := itemOrd) _ _ _).trans (lex_pre _ _ _)
theorem lt_no {x y : PyData} {xs ys : List PyData} (h : PX x y) (e : PyData.eqv x y = false) : PyProof.Rows.lexLt itemOrd (keyToksAll (x :: xs)) (keyToksAll (y :: ys)) = dataLt x y := by
  rw [toks_all_cons, toks_all_cons]
  exact (lex_self (O := itemOrd) _ _ _).trans (h.2 e _ _)
def Chain : List PyData → List PyData → Prop
  | x :: xs, y :: ys => PX x y ∧ (PyData.eqv x y = true → Chain xs ys)
  | [], _ => True
  | _ :: _, [] => True
theorem chainL : ∀ {xs ys : List PyData}, cmpbL xs ys = true → Chain xs ys
  | [], [], _ => trivial
  | [], _ :: _, _ => trivial
  | _ :: _, [], _ => trivial
  | x :: xs, y :: ys, h => ⟨px x y (cmpbL_cons h).1, fun _ => chainL (cmpbL_cons h).2⟩
theorem chainT : ∀ {xs ys : List PyData}, cmpbT xs ys = true → Chain xs ys
  | [], [], _ => trivial
  | [], _ :: _, _ => trivial
  | _ :: _, [], _ => trivial
  | x :: xs, y :: ys, h => ⟨px x y (cmpbT_head h), fun e => chainT (cmpbT_tail h e)⟩
theorem firstLt_tk : ∀ (xs ys : List PyData), Chain xs ys →
    firstLt (pairEq xs ys) (fun j => dataLt (xs.getD j .none) (ys.getD j .none)) (decide (xs.length < ys.length)) (List.range (min xs.length ys.length)) = PyProof.Rows.lexLt itemOrd (keyToksAll xs) (keyToksAll ys)
  | [], [], _ => by simp [firstLt, keyToksAll, lex_irrefl]
  | [], y :: ys, _ => by
    rw [toks_all_cons]
    simp only [keyToksAll]
    rw [lex_diff (O := itemOrd) (by simp)]
    simp [firstLt, itemLt]
  | x :: xs, [], _ => by
    rw [toks_all_cons]
    simp only [keyToksAll]
    rw [lex_diff (O := itemOrd) (by simp)]
    simp [firstLt, itemLt]
  | x :: xs, y :: ys, ⟨h1, h2⟩ => by
    have em : min (x :: xs).length (y :: ys).length = min xs.length ys.length + 1 := by
      rw [List.length_cons, List.length_cons]
      omega
    have ed : decide ((x :: xs).length < (y :: ys).length) = decide (xs.length < ys.length) := by
      rw [List.length_cons, List.length_cons]
      exact decide_eq_decide.mpr (by omega)
    rw [em, ed, List.range_succ_eq_map]
    cases hx : PyData.eqv x y with
    | true =>
      rw [firstLt_yes (show pairEq (x :: xs) (y :: ys) 0 = true from hx), firstLt_map, lt_yes h1 hx, ← firstLt_tk xs ys (h2 hx)]
      rfl
    | false =>
      rw [firstLt_no (show pairEq (x :: xs) (y :: ys) 0 = false from hx), lt_no h1 hx]
      rfl

section
open AutoSeq1 (wpAny_loadPart')
open MeetsSeq MeetsSeq2 MeetsSeq3 SeqRoads2
theorem tuple_ltF (l b : Addr) (items items2 : Array Value) (n n2 : Nat) (dd dd2 : Option Addr) (sl sl2 : Array (Option Value)) (e r : Nat → Bool) :
    Meets (Builtin.«tuple.__lt__» ⟨[.ref l, .ref b], []⟩)
      (fun A R s => s.heap.get? l = some { cls := .type "tuple", dict := dd, data := .seq items n, slots := sl } ∧ s.heap.get? b = some { cls := .type "tuple", dict := dd2, data := .seq items2 n2, slots := sl2 } ∧
        (∀ j (h1 : j < items.size) (h2 : j < items2.size), EqAt A.in1 s items[j] items2[j] (e j)) ∧ (∀ j (h1 : j < items.size) (h2 : j < items2.size), (∀ i, i < j → e i = true) → e j = false → RcLt A.in1 s items[j] items2[j] (r j)) ∧
        R (.ok (.ret (.bool (firstLt e r (decide (items.size < items2.size)) (List.range (min items.size items2.size)))))) s) :=
  .of_wp fun prog w A R s h => by
    obtain ⟨hp, g, d, tk, os⟩ := s; obtain ⟨hl, hb, he, hr, h⟩ := h
    have f2 := AutoSeq1.sub_tuple_tuple
    have hZ : (items.toList.zip items2.toList).length = min items.size items2.size := by simp
    wp_walk using wpAny_loadPart' hl, wpAny_loadPart' hb, wpAny_forIn_list _ (fun rest b s' => b.1 = none ∧ s' = ⟨hp, g, d, tk, os⟩ ∧ ∃ i, (∀ k, k < i → e k = true) ∧ rest = (items.toList.zip items2.toList).drop i ∧
      R (.ok (.ret (.bool (firstLt e r (decide (items.size < items2.size)) ((List.range (min items.size items2.size)).drop i))))) ⟨hp, g, d, tk, os⟩) _
    case turn =>
      rintro ⟨y, x⟩ rest b s' ⟨hb', rfl, i, hE, hz, hR⟩
      have hlt : i < (items.toList.zip items2.toList).length := by
        rcases Nat.lt_or_ge i (items.toList.zip items2.toList).length with h' | h'
        · exact h'
        · rw [List.drop_of_length_le h'] at hz; cases hz
      have hm : i < min items.size items2.size := hZ ▸ hlt
      have h1 : i < items.size := Nat.lt_of_lt_of_le hm (Nat.min_le_left _ _)
      have h2 : i < items2.size := Nat.lt_of_lt_of_le hm (Nat.min_le_right _ _)
      rw [List.drop_eq_getElem_cons hlt] at hz
      injection hz with hyx hrest
      have hy : y = items[i] := by have := congrArg Prod.fst hyx; simpa using this
      have hx : x = items2[i] := by have := congrArg Prod.snd hyx; simpa using this
      subst hy hx
      have hd : (List.range (min items.size items2.size)).drop i = i :: (List.range (min items.size items2.size)).drop (i + 1) := by simp [List.drop_eq_getElem_cons, hm]
      rw [hd] at hR
      refine wpAny_bind (he i h1 h2 prog w _ _ ?_)
      cases hy : e i with
      | true =>
        rw [firstLt_yes hy] at hR
        wp_walk
        refine ⟨rfl, rfl, i + 1, fun k hk => ?_, hrest, hR⟩
        rcases Nat.lt_or_ge k i with q | q
        · exact hE k q
        · have : k = i := by omega
          subst this; exact hy
      | false =>
        rw [firstLt_no hy] at hR
        show wpAny (model prog w) A.in1 (do
          rule "tuple.compare.by-the-first-pair-that-differs"
          let y ← richCompare CmpOp.Lt items[i] items2[i]
          let z ← ret y
          pure (ForInStep.done (some z, ()))) _ _ _
        refine wpAny_bind (wpAny_rule ?_)
        refine wpAny_bind (hr i h1 h2 hE hy prog w _ _ ?_)
        wp_walk
        exact ⟨_, rfl, hR⟩
    case fin =>
      rintro ⟨b1, b2⟩ s' ⟨hb', rfl, i, hE, hz, hR⟩
      simp only at hb'
      subst hb'
      have hge : min items.size items2.size ≤ i := by
        rcases Nat.lt_or_ge i (items.toList.zip items2.toList).length with h' | h'
        · rw [List.drop_eq_getElem_cons h'] at hz; cases hz
        · exact hZ ▸ h'
      rw [List.drop_of_length_le (by simpa using hge)] at hR
      wp_walk
      exact ⟨_, rfl, by simpa [Builtin.Tuple.tupleCompareSizes, firstLt] using hR⟩
    case h =>
      exact ⟨rfl, rfl, 0, (fun k hk => absurd hk (Nat.not_lt_zero _)), rfl, by simpa using h⟩
end
theorem rcLt_tuplesF {A : Around} {s : Shared} {l b : Addr} {items items2 : Array Value} {e r : Nat → Bool} (hl : s.heap.IsTuple l items) (hb : s.heap.IsTuple b items2) (hu : A.units < cLine)
    (he : ∀ j (h1 : j < items.size) (h2 : j < items2.size), EqAt A.in1 s items[j] items2[j] (e j)) (hr : ∀ j (h1 : j < items.size) (h2 : j < items2.size), (∀ i, i < j → e i = true) → e j = false → RcLt A.in1 s items[j] items2[j] (r j)) :
    RcLt A s (.ref l) (.ref b) (firstLt e r (decide (items.size < items2.size)) (List.range (min items.size items2.size))) := fun prog w E Q h => by
  obtain ⟨⟨cls, dd, data, sl⟩, ho, hc, n, hd⟩ := id hl
  obtain ⟨⟨cls2, dd2, data2, sl2⟩, ho2, hc2, n2, hd2⟩ := id hb
  simp only at hc hd hc2 hd2
  subst hc hd hc2 hd2
  exact richCompare_meets_room (op := .Lt) ⟨_, ho, rfl⟩ ⟨_, ho2, rfl⟩ F.slot_tuple_lt F.entry_tuple_lt (F.args_tuple_lt_2 _ _) (tuple_ltF l b items items2 n n2 dd dd2 sl sl2 e r)
    ⟨ho, ho2, he, hr, show Value.bool (firstLt e r (decide (items.size < items2.size)) (List.range (min items.size items2.size))) ≠ Value.notImplemented ∧ Q (.bool (firstLt e r (decide (items.size < items2.size)) (List.range (min items.size items2.size)))) s from ⟨(fun x => nomatch x), h⟩⟩ hu

theorem plain_list {xs : List PyData} (h : (PyData.list xs).plain = true) : PyData.plainAll xs = true := by simpa [PyData.plain] using h
theorem plain_tuple {xs : List PyData} (h : (PyData.tuple xs).plain = true) : PyData.plainAll xs = true := by simpa [PyData.plain] using h
theorem plain_cons {x : PyData} {xs : List PyData} (h : PyData.plainAll (x :: xs) = true) : x.plain = true ∧ PyData.plainAll xs = true := by simpa [PyData.plainAll] using h

mutual
theorem rcLt_cmp : ∀ (da db : PyData) (A : Around) (s : Shared) (a b : Value) (as bs : List Addr), Reads s.heap a da as → Reads s.heap b db bs → da.plain = true → db.plain = true → cmpb da db = true → A.units + min da.depth db.depth < cLine → RcLt A s a b (dataLt da db)
  | .none, db, _, _, _, _, _, _, _, _, _, _, h, _ => absurd h (by cases db <;> simp [cmpb])
  | .bool x, db, A, s, a, b, as, bs, ra, rb, _, _, h, _ => by
    cases db with
    | bool y =>
      cases ra
      cases rb
      intro prog w E Q hq
      rw [dataLt_bool] at hq
      exact lt_bool hq
    | _ => exact absurd h (by simp [cmpb])
  | .int x, db, A, s, a, b, as, bs, ra, rb, _, _, h, _ => by
    cases db with
    | int y =>
      cases ra
      cases rb
      intro prog w E Q hq
      rw [dataLt_int] at hq
      exact P.lt_int hq
    | _ => exact absurd h (by simp [cmpb])
  | .str x, db, A, s, a, b, as, bs, ra, rb, _, _, h, _ => by
    cases db with
    | str y =>
      cases ra
      cases rb
      intro prog w E Q hq
      rw [dataLt_str] at hq
      exact P.lt_str hq
    | _ => exact absurd h (by simp [cmpb])
  | .list xs, db, A, s, a, b, as, bs, ra, rb, pa, pb, h, hu => by
    cases db with
    | list ys =>
      have hal : cmpbL xs ys = true := by simpa [cmpb] using h
      cases ra with
      | @list l o vs n _ as₁ h1 h2 h3 h4 =>
        cases rb with
        | @list l' o' vs' n' _ bs₁ k1 k2 k3 k4 =>
          have n1 : vs.size = xs.length := by simpa using ReadsAll.length _ _ _ h4
          have n2 : vs'.size = ys.length := by simpa using ReadsAll.length _ _ _ k4
          rw [dataLt_list, ← firstLt_tk xs ys (chainL hal), ← n1, ← n2]
          refine RcLt.lists ⟨_, h1, h2, _, h3⟩ ⟨_, k1, k2, _, k3⟩ (room_here hu) (fun j j1 j2 => ?_) fun j j1 j2 hj => ?_
          · have := eqAt_plainAll xs ys A.in1 s vs.toList vs'.toList _ _ h4 k4 (plain_list pa) (plain_list pb) (room_in hu) j (by simpa using j1) (by simpa using j2)
            simpa using this
          · have := rcLt_cmpL xs ys A.in1 s vs.toList vs'.toList _ _ h4 k4 (plain_list pa) (plain_list pb) hal (room_in hu) j (by simpa using j1) (by simpa using j2)
            simpa using this
    | _ => exact absurd h (by simp [cmpb])
  | .tuple xs, db, A, s, a, b, as, bs, ra, rb, pa, pb, h, hu => by
    cases db with
    | tuple ys =>
      have hal : cmpbT xs ys = true := by simpa [cmpb] using h
      cases ra with
      | @tuple l o vs n _ as₁ h1 h2 h3 h4 =>
        cases rb with
        | @tuple l' o' vs' n' _ bs₁ k1 k2 k3 k4 =>
          have n1 : vs.size = xs.length := by simpa using ReadsAll.length _ _ _ h4
          have n2 : vs'.size = ys.length := by simpa using ReadsAll.length _ _ _ k4
          rw [dataLt_tuple, ← firstLt_tk xs ys (chainT hal), ← n1, ← n2]
          refine rcLt_tuplesF ⟨_, h1, h2, _, h3⟩ ⟨_, k1, k2, _, k3⟩ (room_here hu) (fun j j1 j2 => ?_) fun j j1 j2 he hj => ?_
          · have := eqAt_plainAll xs ys A.in1 s vs.toList vs'.toList _ _ h4 k4 (plain_tuple pa) (plain_tuple pb) (room_in hu) j (by simpa using j1) (by simpa using j2)
            simpa using this
          · have := rcLt_cmpT xs ys A.in1 s vs.toList vs'.toList _ _ h4 k4 (plain_tuple pa) (plain_tuple pb) hal (room_in hu) j (by simpa using j1) (by simpa using j2) he
            simpa using this
    | _ => exact absurd h (by simp [cmpb])
  | .dict _, db, _, _, _, _, _, _, _, _, _, _, h, _ => absurd h (by cases db <;> simp [cmpb])
theorem rcLt_cmpL : ∀ (xs ys : List PyData) (A : Around) (s : Shared) (vs ws : List Value) (as bs : List Addr), ReadsAll s.heap vs xs as → ReadsAll s.heap ws ys bs → PyData.plainAll xs = true → PyData.plainAll ys = true → cmpbL xs ys = true →
    A.units + min (PyData.depthAll xs) (PyData.depthAll ys) < cLine → ∀ j (h1 : j < vs.length) (h2 : j < ws.length), RcLt A s vs[j] ws[j] (dataLt (xs.getD j .none) (ys.getD j .none))
  | [], _, _, _, _, _, _, _, ra, _, _, _, _, _, j, h1, _ => by cases ra; exact absurd h1 (Nat.not_lt_zero _)
  | _ :: _, [], _, _, _, _, _, _, _, rb, _, _, _, _, j, _, h2 => by cases rb; exact absurd h2 (Nat.not_lt_zero _)
  | x :: xs, y :: ys, A, s, _, _, _, _, ra, rb, pa, pb, h, hu, j, h1, h2 => by
    cases ra with
    | cons r rs =>
      cases rb with
      | cons r' rs' =>
        cases j with
        | zero => exact rcLt_cmp x y A s _ _ _ _ r r' (plain_cons pa).1 (plain_cons pb).1 (cmpbL_cons h).1 (room_head hu)
        | succ j => exact rcLt_cmpL xs ys A s _ _ _ _ rs rs' (plain_cons pa).2 (plain_cons pb).2 (cmpbL_cons h).2 (room_tail hu) j (Nat.lt_of_succ_lt_succ h1) (Nat.lt_of_succ_lt_succ h2)
theorem rcLt_cmpT : ∀ (xs ys : List PyData) (A : Around) (s : Shared) (vs ws : List Value) (as bs : List Addr), ReadsAll s.heap vs xs as → ReadsAll s.heap ws ys bs → PyData.plainAll xs = true → PyData.plainAll ys = true → cmpbT xs ys = true →
    A.units + min (PyData.depthAll xs) (PyData.depthAll ys) < cLine → ∀ j (h1 : j < vs.length) (h2 : j < ws.length), (∀ i, i < j → pairEq xs ys i = true) → RcLt A s vs[j] ws[j] (dataLt (xs.getD j .none) (ys.getD j .none))
  | [], _, _, _, _, _, _, _, ra, _, _, _, _, _, j, h1, _, _ => by cases ra; exact absurd h1 (Nat.not_lt_zero _)
  | _ :: _, [], _, _, _, _, _, _, _, rb, _, _, _, _, j, _, h2, _ => by cases rb; exact absurd h2 (Nat.not_lt_zero _)
  | x :: xs, y :: ys, A, s, _, _, _, _, ra, rb, pa, pb, h, hu, j, h1, h2, he => by
    cases ra with
    | cons r rs =>
      cases rb with
      | cons r' rs' =>
        cases j with
        | zero => exact rcLt_cmp x y A s _ _ _ _ r r' (plain_cons pa).1 (plain_cons pb).1 (cmpbT_head h) (room_head hu)
        | succ j =>
          have e0 : PyData.eqv x y = true := he 0 (Nat.succ_pos _)
          exact rcLt_cmpT xs ys A s _ _ _ _ rs rs' (plain_cons pa).2 (plain_cons pb).2 (cmpbT_tail h e0) (room_tail hu) j (Nat.lt_of_succ_lt_succ h1) (Nat.lt_of_succ_lt_succ h2) fun i hi => he (i + 1) (Nat.succ_lt_succ hi)
end

section
variable {prog : Program} {w : World} {A : Around} {E : Value → Shared → Prop} {s : Shared}
theorem oneLt_cmp {f : Bool} {da db : PyData} {a b : Value} {as bs : List Addr} {Q : Bool → Shared → Prop} (hf : f = true → ∀ xs, da ≠ .tuple xs) (ra : Reads s.heap a da as) (rb : Reads s.heap b db bs) (pa : da.plain = true) (pb : db.plain = true) (h : cmpb da db = true)
    (hu : A.units + min da.depth db.depth < cLine) (hq : Q (dataLt da db) s) : wpAny (model prog w) A (oneLt' f a b) Q E s := by
  cases f with
  | false =>
    rw [oneLt'_eq]
    simp only [Bool.false_eq_true, if_false]
    exact wpAny_bind (rcLt_cmp da db A s a b as bs ra rb pa pb h hu prog w E _ (wpAny_truthy_bool hq))
  | true =>
    cases da with
    | none => exact absurd h (by cases db <;> simp [cmpb])
    | bool x =>
      cases db with
      | bool y =>
        cases ra
        cases rb
        rw [dataLt_bool] at hq
        exact oneLt_bool hq
      | _ => exact absurd h (by simp [cmpb])
    | int x =>
      cases db with
      | int y =>
        cases ra
        cases rb
        rw [dataLt_int] at hq
        exact oneLt_int hq
      | _ => exact absurd h (by simp [cmpb])
    | str x =>
      cases db with
      | str y =>
        cases ra
        cases rb
        rw [dataLt_str] at hq
        exact oneLt_str hq
      | _ => exact absurd h (by simp [cmpb])
    | list xs =>
      cases db with
      | list ys =>
        have hal : cmpbL xs ys = true := by simpa [cmpb] using h
        cases ra with
        | @list l o vs n _ as₁ h1 h2 h3 h4 =>
          cases rb with
          | @list l' o' vs' n' _ bs₁ k1 k2 k3 k4 =>
            have n1 : vs.size = xs.length := by simpa using ReadsAll.length _ _ _ h4
            have n2 : vs'.size = ys.length := by simpa using ReadsAll.length _ _ _ k4
            rw [dataLt_list, ← firstLt_tk xs ys (chainL hal), ← n1, ← n2] at hq
            rw [oneLt'_eq]
            simp only [if_true]
            refine wpAny_bind (wpAny_cRoomFor (room_here hu) ?_)
            refine wpAny_bind (wpAny_callSpecialIfBound?_slot (T := "list") ⟨_, h1, h2⟩ F.slot_list_lt (call_list_lt (e := pairEq xs ys) (r := fun j => dataLt (xs.getD j .none) (ys.getD j .none)) ⟨_, h1, h2, _, h3⟩ ⟨_, k1, k2, _, k3⟩ (fun j j1 j2 => ?_) (fun j j1 j2 hj => ?_) ?_))
            · have := eqAt_plainAll xs ys A.in1 s vs.toList vs'.toList _ _ h4 k4 (plain_list pa) (plain_list pb) (room_in hu) j (by simpa using j1) (by simpa using j2)
              simpa using this
            · have := rcLt_cmpL xs ys A.in1 s vs.toList vs'.toList _ _ h4 k4 (plain_list pa) (plain_list pb) hal (room_in hu) j (by simpa using j1) (by simpa using j2)
              simpa using this
            · exact wpAny_truthy_bool hq
      | _ => exact absurd h (by simp [cmpb])
    | tuple xs => exact absurd rfl (hf rfl xs)
    | dict _ => exact absurd h (by cases db <;> simp [cmpb])
theorem katLex_cmp {b fin : Bool} {Q : Bool → Shared → Prop} : ∀ (xs ys : List PyData) (i : Nat) (vs ws : List Value) (as bs : List Addr), ReadsAll s.heap vs xs as → ReadsAll s.heap ws ys bs → PyData.plainAll xs = true → PyData.plainAll ys = true → cmpbT xs ys = true →
    A.units + min (PyData.depthAll xs) (PyData.depthAll ys) < cLine → (b = true → i = 0 → ∀ x r t, xs = x :: r → x ≠ .tuple t) → fin = decide (xs.length < ys.length) → Q (PyProof.Rows.lexLt itemOrd (keyToksAll xs) (keyToksAll ys)) s → KatLex prog w A b fin Q (vs.zip ws) i s
  | [], [], i, _, _, _, _, ra, rb, _, _, _, _, _, hf, hq => by
    cases ra
    cases rb
    have e : fin = false := by rw [hf]; rfl
    subst e
    rw [lex_irrefl] at hq
    exact kat_nil hq
  | [], y :: ys, i, _, _, _, _, ra, rb, _, _, _, _, _, hf, hq => by
    cases ra
    have e : fin = true := by rw [hf]; exact decide_eq_true (Nat.succ_pos _)
    subst e
    rw [toks_all_cons] at hq
    simp only [keyToksAll] at hq
    rw [lex_diff (O := itemOrd) (by simp)] at hq
    rw [List.zip_nil_left]
    exact kat_nil (by simpa [itemLt] using hq)
  | x :: xs, [], i, _, _, _, _, ra, rb, _, _, _, _, _, hf, hq => by
    cases rb
    have e : fin = false := by rw [hf]; exact decide_eq_false (Nat.not_lt_zero _)
    subst e
    rw [toks_all_cons] at hq
    simp only [keyToksAll] at hq
    rw [lex_diff (O := itemOrd) (by simp)] at hq
    rw [List.zip_nil_right]
    exact kat_nil (by simpa [itemLt] using hq)
  | x :: xs, y :: ys, i, _, _, _, _, ra, rb, pa, pb, h, hu, hb, hf, hq => by
    have h1 := cmpbT_head h
    have hf' : fin = decide (xs.length < ys.length) := by
      rw [hf]
      simp only [List.length_cons, Nat.add_lt_add_iff_right]
    cases ra with
    | cons r rs =>
      cases rb with
      | cons r' rs' =>
        rw [List.zip_cons_cons]
        refine kat_cons (eqAt_plain x y A s _ _ _ _ r r' (plain_cons pa).1 (plain_cons pb).1 (room_head hu) prog w _ _ ?_)
        cases hx : PyData.eqv x y with
        | true =>
          rw [lt_yes (px x y h1) hx] at hq
          exact kat_yes (katLex_cmp xs ys (i + 1) _ _ _ _ rs rs' (plain_cons pa).2 (plain_cons pb).2 (cmpbT_tail h hx) (room_tail hu) (fun _ hi => absurd hi (Nat.succ_ne_zero i)) hf' hq)
        | false =>
          rw [lt_no (px x y h1) hx] at hq
          refine kat_no (oneLt_cmp (fun hbi t => ?_) r r' (plain_cons pa).1 (plain_cons pb).1 h1 (room_head hu) hq)
          rw [Bool.and_eq_true] at hbi
          exact hb hbi.1 (by simpa using hbi.2) x xs t rfl

/-! ### keys that can be sorted -/
def AllPlain (ds : List PyData) : Prop := ∀ d, d ∈ ds → d.plain = true
def AllCmp (ds : List PyData) : Prop := ∀ d, d ∈ ds → ∀ d', d' ∈ ds → cmpb d d' = true
def Srtb (ds : List PyData) : Prop := (∃ T, ∀ d, d ∈ ds → ∃ x r, d = .tuple (x :: r) ∧ dataType x = T) ∨ ∃ T, ∀ d, d ∈ ds → dataType d = T ∧ d ≠ .none ∧ ∀ xs, d ≠ .tuple xs
theorem kind_some {h : Heap} {ds : List PyData} (hal : AllPlain ds) {v : Value} {d : PyData} {as : List Addr} (hd : d ∈ ds) (r : Reads h v d as) : (dataKind h ds).keyOf v = some (keyToks d) := by
  have q : ∃ d, d ∈ ds ∧ ∃ as, Reads h v d as := ⟨d, hd, as, r⟩
  have e : (dataKind h ds).keyOf v = some (keyToks q.choose) := by
    show (open Classical in if q : ∃ d, d ∈ ds ∧ ∃ as, Reads h v d as then some (keyToks q.choose) else none) = _
    rw [dif_pos q]
  obtain ⟨h1, as', h2⟩ := q.choose_spec
  rw [e, SeqAt.plain_unique _ _ _ _ _ (hal _ h1) h2 r]
theorem sortsAt {vs : List Value} {ds : List PyData} (e : EachIs (fun v d => ∃ as, Reads s.heap v d as) vs ds) (hpl : AllPlain ds) (hal : AllCmp ds) (hk : Srtb ds) (hu : ∀ d, d ∈ ds → A.units + d.depth < cLine) : SortsAt prog w A s (dataKind s.heap ds) vs := by
  have room : ∀ {d d' : PyData}, d ∈ ds → A.units + min d.depth d'.depth < cLine := fun {d d'} hd => Nat.lt_of_le_of_lt (Nat.add_le_add_left (Nat.min_le_left _ _) _) (hu d hd)
  refine ⟨fun v hv => ?_, ?_⟩
  · obtain ⟨d, hd, as, r⟩ := e.left v hv
    exact ⟨_, kind_some hpl hd r⟩
  · rcases hk with ⟨T, ht⟩ | ⟨T, hn⟩
    · refine ⟨tuples' (T != Value.type "tuple"), ?_, fun h2 E Q hq => ?_⟩
      · intro E x y a b Q ha hb hq
        obtain ⟨d, as, hd, ra, rfl⟩ := dataKind_inv ha
        obtain ⟨d', as', hd', rb, rfl⟩ := dataKind_inv hb
        have hdd := hal d hd d' hd'
        have p1 := hpl d hd
        have p2 := hpl d' hd'
        have hroom := room (d' := d') hd
        obtain ⟨x1, r1, rfl, t1⟩ := ht d hd
        obtain ⟨x2, r2, rfl, t2⟩ := ht d' hd'
        have hq' : Q (dataLt (.tuple (x1 :: r1)) (.tuple (x2 :: r2))) s := hq
        rw [dataLt_tuple] at hq'
        cases ra with
        | @tuple l o xs n _ _ h1 h2 h3 h4 =>
          cases rb with
          | @tuple l' o' xs' n' _ _ k1 k2 k3 k4 =>
            have n1 : xs.size = (x1 :: r1).length := by simpa using SeqAt.ReadsAll.length _ _ _ h4
            have n2 : xs'.size = (x2 :: r2).length := by simpa using SeqAt.ReadsAll.length _ _ _ k4
            refine kat_lt h1 h3 k1 k3 (katLex_cmp (x1 :: r1) (x2 :: r2) 0 _ _ _ _ h4 k4 (plain_tuple p1) (plain_tuple p2) (by simpa [cmpb] using hdd) (by have q := SeqAt.room_in hroom; omega) (fun hb _ x r t ex => ?_) (by rw [n1, n2]) hq')
            obtain ⟨rfl, rfl⟩ := List.cons.inj ex
            rw [← t1] at hb
            exact dataType_tuple hb t
      · obtain ⟨fs, t1, t2, t3⟩ := each_katTups e fun d hd => by obtain ⟨x, r, z, _⟩ := ht d hd; exact ⟨x, r, z⟩
        refine kat_kind (T := T) t1 (by omega) (fun f hf => ?_) (beq_self_eq_true _) hq
        obtain ⟨x, r, as, m1, m2⟩ := t3 f hf
        obtain ⟨x', r', z, t⟩ := ht _ m1
        cases z
        rw [← t]
        exact looks_reads m2
    · refine ⟨oneType', ?_, fun h2 E Q hq => ?_⟩
      · intro E x y a b Q ha hb hq
        obtain ⟨d, as, hd, ra, rfl⟩ := dataKind_inv ha
        obtain ⟨d', as', hd', rb, rfl⟩ := dataKind_inv hb
        rw [keyLt'_oneType]
        exact oneLt_cmp (fun _ => (hn d hd).2.2) ra rb (hpl d hd) (hpl d' hd') (hal d hd d' hd') (room hd) hq
      · cases ds with
        | nil =>
          cases e
          exact absurd h2 (by simp)
        | cons d₀ ds₀ =>
          refine kas_kind (T := T) h2 (fun v hv => ?_) (by rw [← (hn d₀ (List.mem_cons_self ..)).1]; exact dataType_other (hn d₀ (List.mem_cons_self ..)).2.2) (beq_self_eq_true _) hq
          obtain ⟨d, hd, as, r⟩ := e.left v hv
          rw [← (hn d hd).1]
          exact looks_reads r
end
end Vs
end

section
set_option Elab.async false
set_option linter.all false
set_option maxRecDepth 100000
namespace Vs
open PySem PySem.W PySem.SeqAt PySem.Calls PyProof.Rows
section
variable {prog : Program} {w : World} {A : Around} {E : Value → Shared → Prop} {s : Shared} {a kS f l : Addr} {vs : List Value} {e1 : Nat} {P : PySem.Fin → Shared → Prop} {kz : List PyData} {J : List Value → Shared → Prop}
theorem keyG_rest (j0 : J [] s) (nk : s.heap.get? kS = some (seqObj "list" #[] 0)) (na : s.heap.get? a = some (seqObj "list" #[] e1)) (hka : kS ≠ a)
    (hlen : kz.length = vs.length) (hZ : vs.length ≤ sizeLine) (hpl : AllPlain kz) (hcm : AllCmp kz) (hsk : Srtb kz) (hu : ∀ d, d ∈ kz → A.units + d.depth < cLine)
    (close : ∀ kA s' h', J kA s' → (∀ b o, b ≠ kS → s'.heap.get? b = some o → h'.get? b = some o) → (∃ o, h'.get? kS = some o) → J kA { s' with heap := h' })
    (turn : ∀ kA x s', vs[kA.length]? = some x → J kA s' → wpAny (model prog w) A (call (.ref f) [x]) (fun v s'' => J (kA ++ [v]) s'' ∧ ∀ b o, (b = a ∨ b = kS) → s'.heap.get? b = some o → s''.heap.get? b = some o) (fun _ _ => False) s')
    (rd : ∀ kA s', J kA s' → kA.length = vs.length → EachIs (fun v k => ∃ as, Reads s'.heap v k as) kA kz)
    (fin : ∀ kA s' h' tk out c, J kA s' → kA.length = vs.length → (∀ b o, b ≠ a → b ≠ kS → s'.heap.get? b = some o → h'.get? b = some o) → h'.get? a = some (seqObj "list" (List.toArray out) c) → out = sortVals (dataKind s'.heap kz) false kA vs → P (.done (.ret .none)) { s' with heap := h', toks := tk }) :
    wpAny (model prog w) A (ksk_rest a (.ref f) false vs.toArray e1 (.ref kS)) P E s := by
  unfold ksk_rest
  refine wpAny_bind (wpAny_rule ?_)
  first
    | rw [List.forIn_toArray]
    | (rw [← Array.forIn_toList]; simp only [List.toList_toArray])
    | rw [← Array.forIn_toList]
  refine wpAny_bind (ksk_fold (fun i s' => ∃ (kA : Array Value) (e : Nat), J kA.toList s' ∧ kA.size = i ∧ s'.heap.get? kS = some (seqObj "list" kA e) ∧ s'.heap.get? a = some (seqObj "list" #[] e1)) vs 0 s
    ⟨#[], 0, j0, rfl, nk, na⟩ ?step ?done)
  case step =>
    rintro j x s' hx ⟨kA, e, jj, hsz, nk', na'⟩
    simp only [Nat.zero_add] at hsz ⊢
    have hj : j < vs.length := (List.getElem?_eq_some_iff.mp hx).1
    refine wpAny_bind (wpAny_attempt (wpAny_mono (turn kA.toList x s' (by rw [Array.length_toList, hsz]; exact hx) jj) (fun v s'' he => ?_) fun _ _ hF => hF.elim))
    obtain ⟨jj2, kp⟩ := he
    try dsimp only
    have nk2 := kp _ _ (.inr rfl) nk'
    have na2 := kp _ _ (.inl rfl) na'
    have s1 := Heap.SameBut.update s''.heap kS (Obj.mapSeq (·.push v))
    obtain ⟨c2, hc2⟩ : ∃ c2, (s''.heap.update kS (Obj.mapSeq (·.push v))).get? kS = some (seqObj "list" (kA.push v) c2) := ⟨_, get?_update_seq nk2 (·.push v)⟩
    have ea : (kA.push v).toList = kA.toList ++ [v] := by simp
    have hz : kA.size ≤ sizeLine := by omega
    refine wpAny_bind (listUpdate_at nk2 rfl ?_ hz (Nat.le_trans (Nat.le_of_eq (Array.size_push ..)) (Nat.succ_le_succ hz)))
    refine wpAny_pure ⟨rfl, kA.push v, c2, ?_, by rw [Array.size_push, hsz], hc2, (s1.2 a hka.symm).trans na2⟩
    rw [ea]
    exact close _ _ _ jj2 (fun b o hb q => (s1.2 b hb).trans q) ⟨_, hc2⟩
  case done =>
    rintro s' ⟨kA, e, jj, hsz, nk', na'⟩
    have hl : kA.toList.length = vs.length := by rw [Array.length_toList]; omega
    have hr := rd kA.toList s' jj hl
    try dsimp only
    refine wpAny_bind (listItems_at nk' rfl ?_)
    obtain ⟨G, g1, g2⟩ := L2.restrict s'.heap fun b => decide (b ≠ kS)
    refine keyH_end (κ := dataKind s'.heap kz) (h₁ := G) (fun b o _ q => ?_) (g2 kS (by simp)) nk' na' hka (sortsAt hr hpl hcm hsk hu) (by omega) hZ fun h3 tk3 c k3 n3 => ?_
    · by_cases hb : b = kS
      · subst hb
        rw [g2 _ (by simp)] at q
        cases q
      · rw [g1 b (by simpa using hb)] at q
        exact q
    · exact fin kA.toList s' h3 tk3 _ c jj hl (fun b o ha hk q => k3 b o ha (by rw [g1 b (by simpa using hk)]; exact q)) n3 rfl
end

section
variable {prog : Program} {w : World} {A : Around} {E : Value → Shared → Prop} {s : Shared} {f l : Addr} {vs : List Value} {Q : Value → Shared → Prop} {kz : List PyData} {J : List Value → Shared → Prop}
theorem sortG (hl : s.heap.IsList l vs.toArray) (hlen : kz.length = vs.length) (hZ : vs.length ≤ sizeLine) (hpl : AllPlain kz) (hcm : AllCmp kz) (hsk : Srtb kz) (hu : ∀ d, d ∈ kz → A.units + 2 + d.depth < cLine)
    (init : ∀ h', (∀ b o, s.heap.get? b = some o → h'.get? b = some o) → (∃ o, h'.get? (s.heap.objs.size + 1) = some o) → (∃ o, h'.get? (s.heap.objs.size + 3) = some o) → J [] { s with heap := h' })
    (close : ∀ kA s' h', J kA s' → (∀ b o, b ≠ s.heap.objs.size + 3 → s'.heap.get? b = some o → h'.get? b = some o) → (∃ o, h'.get? (s.heap.objs.size + 3) = some o) → J kA { s' with heap := h' })
    (turn : ∀ kA x s', vs[kA.length]? = some x → J kA s' → wpAny (model prog w) A.in1.in1 (call (.ref f) [x]) (fun v s'' => J (kA ++ [v]) s'' ∧ ∀ b o, (b = s.heap.objs.size + 1 ∨ b = s.heap.objs.size + 3) → s'.heap.get? b = some o → s''.heap.get? b = some o) (fun _ _ => False) s')
    (rd : ∀ kA s', J kA s' → kA.length = vs.length → EachIs (fun v k => ∃ as, Reads s'.heap v k as) kA kz)
    (fin : ∀ kA s' h' tk out c, J kA s' → kA.length = vs.length → (∀ b o, b ≠ s.heap.objs.size + 1 → b ≠ s.heap.objs.size + 3 → s'.heap.get? b = some o → h'.get? b = some o) → h'.get? (s.heap.objs.size + 1) = some (seqObj "list" (List.toArray out) c) → out = sortVals (dataKind s'.heap kz) false kA vs → Q (.ref (s.heap.objs.size + 1)) { s' with heap := h', toks := tk }) :
    wpAny (model prog w) A (call (.builtin "sorted") [.ref l] [(Str.ofString "key", .ref f)]) Q E s := by
  refine sorted_of_sort hl hZ (ksk_s1 _ _) (fun _ => ksk_l1 _ _) fun E' => ?_
  rw [ksk_t1]
  have ho := copyHeap_at s.heap vs
  have hcs : (copyHeap s.heap vs).objs.size = s.heap.objs.size + 2 := by
    unfold copyHeap
    rw [size_push', Heap.size_update, size_push']
  obtain ⟨e1, ho1⟩ : ∃ e1, ((copyHeap s.heap vs).update (s.heap.objs.size + 1) (Obj.mapSeq fun _ => (#[] : Array Value))).get? (s.heap.objs.size + 1) = some (seqObj "list" #[] e1) := ⟨_, get?_update_seq ho fun _ => #[]⟩
  have hkS : (((copyHeap s.heap vs).update (s.heap.objs.size + 1) (Obj.mapSeq fun _ => (#[] : Array Value))).push (seqObj "tuple" vs.toArray 0)).objs.size = s.heap.objs.size + 3 := by rw [size_push', Heap.size_update, hcs]
  unfold ksk_tree
  refine wpAny_bind (listItems_at ho rfl ?_)
  refine wpAny_bind (listUpdate_at ho rfl ?_ (by rw [List.size_toArray]; exact hZ) (Nat.zero_le _))
  refine wpAny_bind (seqEpoch_at ho1 rfl ?_)
  refine wpAny_bind (wpAny_newTuple ?_ (by show vs.length ≤ _; exact hZ))
  refine wpAny_bind (wpAny_newList ?_ (Nat.zero_le _))
  refine wpAny_holding ?_
  try dsimp only
  refine keyG_rest (a := s.heap.objs.size + 1) (J := J) (kz := kz) (s := { s with heap := (((copyHeap s.heap vs).update (s.heap.objs.size + 1) (Obj.mapSeq fun _ => (#[] : Array Value))).push (seqObj "tuple" vs.toArray 0)).push (seqObj "list" #[] 0) }) (kS := (((copyHeap s.heap vs).update (s.heap.objs.size + 1) (Obj.mapSeq fun _ => (#[] : Array Value))).push (seqObj "tuple" vs.toArray 0)).objs.size)
    (init _ (fun b o q => ?_) ?_ ?_) (Heap.get?_push_size _ rfl) (Heap.get?_push_of_some _ (Heap.get?_push_of_some _ ho1)) (by rw [hkS]; exact Nat.ne_of_gt (Nat.lt_succ_of_lt (Nat.lt_succ_self _))) hlen hZ hpl hcm hsk hu ?_ ?_ rd ?_
  · exact sorting_copy_old q
  · exact ⟨_, Heap.get?_push_of_some _ (Heap.get?_push_of_some _ ho1)⟩
  · exact ⟨_, hkS ▸ Heap.get?_push_size _ rfl⟩
  · rw [hkS]; exact close
  · rw [hkS]; exact turn
  · rw [hkS]
    intro kA s' h' tk out c j hl' k1 k2 k3
    exact ⟨rfl, fin kA s' h' tk out c j hl' k1 k2 k3⟩
end
end Vs
end

section
set_option Elab.async false
set_option linter.all false
set_option maxRecDepth 100000
namespace Vf
open PySem PySem.Spec PyProof.Rows L2
variable [Tabs]

def tyK : PyData → Nat
  | .none => 0 | .bool _ => 1 | .int _ => 2 | .str _ => 3 | .list _ => 4 | .tuple _ => 5 | .dict _ => 6
/-- all tuples whose first items are of one type, or all of one other type -/
def srtb : List PyData → Bool
  | [] => true
  | .none :: _ => false
  | .tuple [] :: _ => false
  | .tuple (x0 :: r0) :: ks => ks.all fun k => match k with
    | .tuple (x :: _) => tyK x == tyK x0
    | _ => false
  | k0 :: ks => ks.all fun k => tyK k == tyK k0
def okKeys (ks : List PyData) : Bool := (ks.all fun k => k.plain && decide (k.depth ≤ 40)) && ((ks.all fun a => ks.all fun b => Vs.cmpb a b) && srtb ks)
theorem tyK_type {x y : PyData} (h : tyK x = tyK y) : PySem.W.dataType x = PySem.W.dataType y := by
  cases x <;> cases y <;> first | rfl | (simp [tyK] at h)
theorem srtb_ok : ∀ {ks : List PyData}, srtb ks = true → Vs.Srtb ks
  | [], _ => .inl ⟨.none, fun d hd => absurd hd (by simp)⟩
  | k0 :: ks, h => by
    have other : (∀ xs, k0 ≠ .tuple xs) → k0 ≠ .none → (∀ k ∈ ks, tyK k = tyK k0) → Vs.Srtb (k0 :: ks) := fun h1 h2 h3 => .inr ⟨PySem.W.dataType k0, fun d hd => by
      rcases List.mem_cons.mp hd with rfl | hd
      · exact ⟨rfl, h2, h1⟩
      · have e := h3 d hd
        refine ⟨tyK_type e, ?_, fun xs z => ?_⟩
        · rintro rfl
          cases k0 <;> simp [tyK] at e h2
        · subst z
          cases k0 <;> simp [tyK] at e
          exact h1 _ rfl⟩
    cases k0 with
    | none => simp [srtb] at h
    | tuple xs =>
      cases xs with
      | nil => simp [srtb] at h
      | cons x0 r0 =>
        simp only [srtb, List.all_eq_true] at h
        refine .inl ⟨PySem.W.dataType x0, fun d hd => ?_⟩
        rcases List.mem_cons.mp hd with rfl | hd
        · exact ⟨_, _, rfl, rfl⟩
        · have e := h d hd
          cases d with
          | tuple ys =>
            cases ys with
            | nil => cases e
            | cons x r => exact ⟨x, r, rfl, tyK_type (by simpa using e)⟩
          | _ => cases e
    | bool b => exact other (by simp) (by simp) (by simpa [srtb] using h)
    | int b => exact other (by simp) (by simp) (by simpa [srtb] using h)
    | str b => exact other (by simp) (by simp) (by simpa [srtb] using h)
    | list b => exact other (by simp) (by simp) (by simpa [srtb] using h)
    | dict b => exact other (by simp) (by simp) (by simpa [srtb] using h)
theorem grow_trans {H1 H2 H3 : Hp} (a : Grow H1 H2) (b : Grow H2 H3) : Grow H1 H3 := Frm.grow a b
abbrev KD := PyData → Option PyData
/-- a def's key, from its reading -/
def kOf (D : FD) : KD := fun d => match D [.v d] with
  | some (.ok (.v k), []) => some k
  | some (.ok (.l k), []) => some (.list k)
  | _ => none
def keyDs (D : KD) : List PyData → Option (List PyData)
  | [] => some []
  | d :: r => match D d, keyDs D r with
    | some k, some ks => some (k :: ks)
    | _, _ => none
def sortedBy (ds ks : List PyData) : List PyData := ((ds.zip ks).mergeSort fun a b => !PySem.W.dataLt b.2 a.2).map Prod.fst
def sortK (D : KD) (ds : List PyData) : Option (List PyData) := match keyDs D ds with
  | some ks => if okKeys ks = true then some (sortedBy ds ks) else none
  | none => none
def eSortK (D : KD) (fa : M Val) : M Val := bnd fa fun v => fun Γ => match rdv Γ v with
  | some (.list ds) => match sortK D ds with
    | some z => some (Γ, .ok (.nw z))
    | none => none
  | _ => none
theorem keyDs_len {D : KD} : ∀ {ds ks : List PyData}, keyDs D ds = some ks → ks.length = ds.length
  | [], _, h => by cases h; rfl
  | d :: r, ks, h => by
    simp only [keyDs] at h
    split at h
    · rename_i h1 h2; cases h; simp [keyDs_len h2]
    · cases h
theorem keyDs_get {D : KD} : ∀ {ds ks : List PyData}, keyDs D ds = some ks → ∀ {j : Nat} {d : PyData}, ds[j]? = some d → ∃ k, D d = some k ∧ ks[j]? = some k
  | [], _, _, j, d, e => by simp at e
  | d0 :: r, ks, h, j, d, e => by
    simp only [keyDs] at h
    split at h
    · rename_i k h1 h2
      cases h
      cases j with
      | zero => simp at e; subst e; exact ⟨_, h1, rfl⟩
      | succ j => simpa using keyDs_get h2 (by simpa using e)
    · cases h

section
variable {K : PySem.W.Frag}
mutual
theorem Dp.grow {H H' : Hp} (g : Grow H H') : ∀ {v : V} {d : PyData}, Dp K H v d → Dp K H' v d
  | _, _, .non => .non
  | _, _, .bl b => .bl b
  | _, _, .int i => .int i
  | _, _, .str x => .str x
  | _, _, .lst h k => .lst (h.imp (fun r => by
      rcases r with r | ⟨o, r⟩
      · exact .inl (g.lst r fun z => z)
      · exact .inr ⟨o, g.keep r (fun z => z) fun _ z => by cases z⟩) id) (DpAll.grow g k)
  | _, _, .tup (a := a) (xs := xs) h k => .tup (h.imp (g.tk.rd a xs) id) (DpAll.grow g k)
theorem DpAll.grow {H H' : Hp} (g : Grow H H') : ∀ {vs : List V} {ds : List PyData}, DpAll K H vs ds → DpAll K H' vs ds
  | _, _, .nil => .nil
  | _, _, .cons h k => .cons (Dp.grow g h) (DpAll.grow g k)
end
theorem rpAll_dp {H : Hp} {xs : List V} {ds : List PyData} (h : RpAll K H xs ds) : DpAll K H xs ds := by
  induction h with
  | nil => exact .nil
  | cons h t ih => exact .cons h.dp ih
end
/-- a key's promise: no list that stands is written -/
def spK (K : PySem.W.Frag) (D : KD) : Sp := fun vs H Q E => ∃ v d k, vs = [v] ∧ Im K H v d ∧ D d = some k ∧ (∀ P ∈ Tabs.ps, GxR.TabG H P) ∧ ∀ H', Grow H H' → ∀ x, Dp K H' x k → Q x H'
theorem iosOf_v {v : V} {d : PyData} : iosOf [v] [.v d] = [] := by cases v <;> rfl
theorem fnKey {P : Program} {w : World} {K : PySem.W.Frag} {mg : Str → Option Value} {base : Heap} {CX : CXT} {k : Nat} {f : Addr} {fd : FuncData} {ps : List Str} {XR : XRT} {D : FD} (F : FnOk P w K mg base CX k f fd ps (spD K XR 1 D)) :
    FnOk P w K mg base CX k f fd ps (spK K (kOf D)) := F.imp fun vs H Q E h => by
  obtain ⟨v, d, kk, rfl, im, hD, ht, q⟩ := h
  have hM : (fun p : Addr => p ∈ iosOf [v] [Ar.v d]) = fun _ => False := by
    funext p
    rw [iosOf_v]
    simp
  have ao : ArgsOk K H [v] [.v d] := ⟨.cons im .nil, by rw [iosOf_v]; exact .nil, fun i p es e1 e2 => by
    cases i with
    | zero => simp at e2
    | succ i => simp at e2⟩
  unfold kOf at hD
  split at hD
  · rename_i e
    cases hD
    refine ⟨[.v d], _, [], rfl, e, ao, ht, fun H2 fr _ => ?_⟩
    rw [hM] at fr
    exact fun x hx => q H2 fr x hx.2.dp
  · rename_i e
    cases hD
    refine ⟨[.v d], _, [], rfl, e, ao, ht, fun H2 fr _ => ?_⟩
    rw [hM] at fr
    intro x hx
    obtain ⟨p, us, rfl, _, e2, e3⟩ := hx
    exact q H2 fr _ (.lst (.inl (.inl e2)) e3.2.dp)
  · cases hD
/-- a def that returns a tuple, lists among its items -/
def kTup (N : Nat) (fA : M (List Val)) : KD := fun d => match fA (initG N [.v d]) with
  | some (Γ, .ok vs) => match rdvs Γ vs with
    | some ds => if ds.length ≤ 1000000 then some (.tuple ds) else none
    | none => none
  | _ => none
theorem fn_okK {P : Program} {w : World} {K : PySem.W.Frag} {mg : Str → Option Value} {base : Heap} {x qual p0 : Str} {st : Stmt} {fa : Addr} {fd : FuncData} {N : List Str} {k : Nat} {fA : M (List Val)} (F : Fun K x qual st fa fd) (S : FnScope N [p0] (defScope st))
    (hb : ∀ (cdv : Value) (A : Around) (outer : List Env) (s : Shared) (H : Hp) (E : XK), Room k (A.deeper (envOfC qual (defScope st) s.heap.objs.size fa cdv)) → ∃ tA, PSs (cxOf CX0 P w K mg base N qual (defScope st) fa cdv A outer s H E).nox (defBody st) (tRet (tTup tA)) ∧ RefA K WF tA fA) :
    FnOk P w K mg base CX0 (k + 1) fa fd [p0] (spK K (kTup N.length fA)) := by
  refine F.ok S (fun vs H Q E h => ?_) fun cdv A outer s H vs Q E hr h => ?_
  · obtain ⟨_, _, _, rfl, _⟩ := h
    rfl
  · obtain ⟨tA, h1, h2⟩ := hb cdv A outer s H E hr
    refine ⟨_, h1, ?_⟩
    have hpl : [p0].length ≤ N.length := by have := congrArg List.length S.pre; rw [List.length_take] at this; omega
    obtain ⟨v, d, kk, rfl, im, hD, ht, q⟩ := h
    have ao : ArgsOk K H [v] [.v d] := ⟨.cons im .nil, by rw [iosOf_v]; exact .nil, fun i p es e1 e2 => by
      cases i with
      | zero => simp at e2
      | succ i => simp at e2⟩
    have st0 : StOk K H ⟨ioAt [v] [.v d]⟩ (initG N.length [.v d]) (L2.start N [v]) H := init_ok hpl ao ht
    have hM : IOp ⟨ioAt [v] [.v d]⟩ = fun _ => False := by
      funext p
      apply propext
      constructor
      · rintro ⟨j, _, es, e⟩
        cases j with
        | zero => simp at e
        | succ j => simp at e
      · exact fun z => z.elim
    unfold kTup at hD
    split at hD
    · rename_i Γ' vs' e
      split at hD
      · rename_i ds e2
        split at hD
        · rename_i hl
          cases hD
          refine h2.run H _ _ _ H _ _ _ st0 e fun xs H' p k => ?_
          have fr := p.st.frm
          rw [hM] at fr
          have rp := k.rp p.st e2
          refine ⟨by rw [Paired.length rp]; exact size_ok (by simpa using hl), fun a ha => ?_⟩
          have g : Grow H' (upd H' a (.tup xs)) := Grow.new ha
          exact q _ (grow_trans fr g) _ (.tup (.inl (.inl upd_same)) (DpAll.grow g (rpAll_dp rp)))
        · cases hD
      · cases hD
    · cases hD

section
variable {K : PySem.W.Frag} {H H' : Hp}
theorem Rp.grow {x : V} {d : PyData} (g : Grow H H') (h : Rp K H x d) : Rp K H' x d := by
  cases d with
  | list ds =>
    obtain ⟨p, vs, rfl, r, i⟩ := h
    refine ⟨p, vs, rfl, ?_, i.tk g.tk⟩
    rcases r with r | ⟨o, r⟩
    · exact .inl (g.lst r fun z => z)
    · exact .inr ⟨o, g.keep r (fun z => z) fun _ z => by cases z⟩
  | _ => exact Im.tk g.tk h
end
theorem paired_get {α β : Type} {F : α → β → Prop} : ∀ {l : List α} {m : List β}, Paired F l m → ∀ {j : Nat} {b : β}, m[j]? = some b → ∃ a, l[j]? = some a ∧ F a b := by
  intro l m h
  induction h with
  | nil => intro j b e; simp at e
  | cons h t ih =>
    intro j b e
    cases j with
    | zero => simp at e; subst e; exact ⟨_, rfl, h⟩
    | succ j => simpa using ih (by simpa using e)
theorem paired_get1 {α β : Type} {F : α → β → Prop} : ∀ {l : List α} {m : List β}, Paired F l m → ∀ {j : Nat} {a : α}, l[j]? = some a → ∃ b, m[j]? = some b ∧ F a b := by
  intro l m h
  induction h with
  | nil => intro j b e; simp at e
  | cons h t ih =>
    intro j b e
    cases j with
    | zero => simp at e; subst e; exact ⟨_, rfl, h⟩
    | succ j => simpa using ih (by simpa using e)
theorem paired_snoc {α β : Type} {F : α → β → Prop} {l : List α} {m : List β} {a : α} {b : β} (h : Paired F l m) (k : F a b) : Paired F (l ++ [a]) (m ++ [b]) := by
  induction h with
  | nil => exact .cons k .nil
  | cons h t ih => exact .cons h ih
theorem each_of_get {α β : Type} {R : α → β → Prop} : ∀ {l : List α} {m : List β}, l.length = m.length → (∀ (j : Nat) (a : α) (b : β), l[j]? = some a → m[j]? = some b → R a b) → PySem.W.EachIs R l m
  | [], [], _, _ => .nil
  | [], _ :: _, h, _ => by simp at h
  | _ :: _, [], h, _ => by simp at h
  | a :: l, b :: m, h, k => .cons (k 0 a b rfl rfl) (each_of_get (by simpa using h) fun j x y e f => k (j + 1) x y (by simpa using e) (by simpa using f))
theorem each_fst {α β γ : Type} {R : α → β → Prop} : ∀ {l : List α} {m : List (β × γ)}, PySem.W.EachIs (fun a b => R a b.1) l m → PySem.W.EachIs R l (m.map Prod.fst)
  | _, _, .nil => .nil
  | _, _, .cons h t => .cons h (each_fst t)
/-- v values that read as data -/
theorem each_vals {K : PySem.W.Frag} {H : Hp} : ∀ {us : List Value} {ds : List PyData}, PySem.W.EachIs (fun u d => ∃ v, RelV v u ∧ Im K H v d) us ds → ∃ vs, Vals vs us ∧ ImAll K H vs ds
  | _, _, .nil => ⟨[], .nil, .nil⟩
  | _, _, .cons ⟨v, r, i⟩ t => by
    obtain ⟨vs, a, b⟩ := each_vals t
    exact ⟨v :: vs, .cons r a, .cons i b⟩

def rSortK (K : PySem.W.Frag) (D : KD) (f : Addr) : List V → List V → Hp → VK → Prop := fun xs zs H Q => ∃ (a : Addr) (vs : List V) (ds z : List PyData), xs = [V.ref a] ∧ zs = [V.ref f] ∧ Rd H a (.lst vs) ∧ ImAll K H vs ds ∧ sortK D ds = some z ∧ (∀ P ∈ Tabs.ps, GxR.TabG H P) ∧
  ∀ (H' : Hp) (p : Addr) (us : List V), Grow H H' → H p = none → H' p = some (.lst us) → ImAll K H' us z → Q (.ref p) H'
theorem cr_sortK {X : Cx} {k : Nat} {f : Addr} {fd : FuncData} {p : Str} {D : KD} (F : FnOk X.prog X.w X.K X.mg X.base CX0 k f fd [p] (spK X.K D)) (hr : Room (k + 2) X.A) (hb : Binds X.K fd [p] []) :
    CallRK X (.builtin "sorted") [Str.ofString "key"] (rSortK X.K D f) := by
  intro pins s σ H xs zs us ws Q I r rz h
  obtain ⟨a, vs, ds, z, rfl, rfl, hs, hi, hz, ht, q⟩ := h
  obtain rfl := Vals.ref1 r
  obtain ⟨w1, rfl, e1⟩ := vals1 rz
  obtain rfl : w1 = Value.ref f := e1
  obtain ⟨its, rv, hl, hzl⟩ := I.list (show SqL X.K H a vs from .inl hs)
  unfold sortK at hz
  split at hz
  · rename_i ks hks
    split at hz
    · rename_i hok
      cases hz
      simp only [okKeys, Bool.and_eq_true, List.all_eq_true, decide_eq_true_eq] at hok
      obtain ⟨hp, hcm, hsr⟩ := hok
      have l1 := keyDs_len hks
      have l2 := hi.length
      have l3 : vs.length = its.length := rv.length
      have hA := hr.in1.in1
      have hun := hr.un
      have n1 : H (s.heap.objs.size + 1) = none := I.hok.fresh (Nat.le_succ _)
      have n3 : H (s.heap.objs.size + 3) = none := I.hok.fresh (Nat.le_add_right _ _)
      have lt0 : ∀ {b : Addr} {o : Obj} {m : Nat}, s.heap.get? b = some o → b ≠ s.heap.objs.size + m := fun {b o m} e => Nat.ne_of_lt (Nat.lt_of_lt_of_le (Heap.lt_size e) (Nat.le_add_right _ _))
      refine Vs.sortG (kz := ks) (J := fun kA s' => ∃ (H' : Hp) (kvs : List V), s'.os = s.os ∧ AllBare s'.gens ∧ Un (frs X.stack) [] H H' s.heap s'.heap ∧ HOk X.prog X.w H' s'.heap ∧ Grow H H' ∧ H' (s.heap.objs.size + 1) = none ∧ H' (s.heap.objs.size + 3) = none ∧
        (∃ o, s'.heap.get? (s.heap.objs.size + 1) = some o) ∧ (∃ o, s'.heap.get? (s.heap.objs.size + 3) = some o) ∧ Vals kvs kA ∧ Paired (Dp X.K H') kvs (ks.take kA.length))
        hl.isList (by omega) (by omega) (fun d hd => (hp d hd).1) (fun d hd d' hd' => hcm d hd d' hd') (srtb_ok hsr) (fun d hd => ?_) (fun h' kp o1 o3 => ?_) ?_ ?_ ?_ ?_
      · have := (hp d hd).2
        omega
      · exact ⟨H, [], rfl, I.bare, .kept kp, I.hok.kept kp, .refl, n1, n3, o1, o3, .nil, .nil⟩
      · rintro kA s' h' ⟨H', kvs, os, br, un, hok, g, m1, m3, o1, o3, hv, hk⟩ kp o3'
        have ne3 : ∀ {c : Addr} {u : HO}, H' c = some u → c ≠ s.heap.objs.size + 3 := fun e z => by subst z; rw [m3] at e; cases e
        refine ⟨H', kvs, os, br, ⟨fun b o e1 e2 e3 e4 => kp b o (lt0 e1) (un.keep b o e1 e2 e3 e4), fun b o e1 e2 e3 e4 => ?_, un.free, fun b o e1 e2 => ?_, un.tups, un.frzs, un.tbls⟩, fun b o e => ?_, g, m1, m3, ?_, o3', hv, hk⟩
        · obtain ⟨sl, e⟩ := un.slot b o e1 e2 e3 e4
          exact ⟨sl, kp b _ (lt0 e1) e⟩
        · obtain ⟨o', e⟩ := un.there b o e1 e2
          exact ⟨o', kp b _ (lt0 e1) e⟩
        · refine (hok b o e).stay (fun c u hc e' => kp c u ?_ e') (fun _ e' => e') fun _ _ e' => e'
          rcases hc with rfl | hc
          · exact ne3 e
          · exact ne3 hc
        · obtain ⟨o, e⟩ := o1
          exact ⟨o, kp _ _ (Nat.ne_of_lt (by omega)) e⟩
      · rintro kA x s' hx ⟨H', kvs, os, br, un, hok, g, m1, m3, ⟨u1, o1⟩, ⟨u3, o3⟩, hv, hk⟩
        have I' : Inv X pins σ H' s' := I.call' os un hok br fun b e => absurd e (by simp)
        obtain ⟨v, ev, rx⟩ := paired_get rv hx
        obtain ⟨d, ed, im⟩ := hi.getV ev
        obtain ⟨kk, hD, ek⟩ := keyDs_get hks ed
        have im' : Im X.K H' v d := im.tk g.tk
        have sp : spK X.K D [v] H' (fun u H2 => Grow H' H2 ∧ Dp X.K H2 u kk) (fun _ _ _ => False) := by
          refine ⟨v, d, kk, rfl, im', hD, fun P hP => ?_, fun H2 fr y hy => ⟨fr, hy⟩⟩
          obtain ⟨ps, e, kk2⟩ := ht P hP
          rcases (g P _ e).2 (fun z => z) with q2 | ⟨p1, p2, z, q2, k2⟩
          · exact ⟨ps, q2, kk2⟩
          · cases z
            exact ⟨p2, q2, k2 kk2⟩
        have hl1 : ([x] ++ ([] : List Value)).length = [p].length := rfl
        refine wpAny_call (codeAny_mono (F.run X.A.in1.in1 X.stack s' H' ⟨[x], []⟩ [x] [v] _ _ hA I'.env0.in1.in1 (hb s' [x] I'.kIn hl1) (.cons rx .nil) sp) fun r s'' hq => ?_)
        cases r with
        | error e => exact hq.elim
        | ok fl =>
          cases fl with
          | next => exact False.elim hq
          | brk => exact False.elim hq
          | cont => exact False.elim hq
          | ret u =>
            obtain ⟨y, H2, os2, br2, un2, hok2, ry, g2, rp⟩ := hq
            refine ⟨⟨H2, kvs ++ [y], os2.trans os, br2, un.trans un2, hok2, grow_trans g g2, un2.free _ _ o1 m1 (by simp), un2.free _ _ o3 m3 (by simp), un2.there _ _ o1 (by simp), un2.there _ _ o3 (by simp), paired_snoc hv ry, ?_⟩, fun b o hb e => un2.keep b o e ?_ ?_ (by simp)⟩
            · rw [List.length_append, List.length_singleton, List.take_add_one, ek]
              exact paired_snoc (Paired.mapP hk fun _ _ q => Dp.grow g2 q) rp
            · rcases hb with rfl | rfl
              · exact m1
              · exact m3
            · intro hf
              obtain ⟨_, o', e', _⟩ := I.stack.mem hf
              rcases hb with rfl | rfl
              · exact lt0 e' rfl
              · exact lt0 e' rfl
      · rintro kA s' ⟨H', kvs, os, br, un, hok, g, m1, m3, o1, o3, hv, hk⟩ hlen
        have I' : Inv X pins σ H' s' := I.call' os un hok br fun b e => absurd e (by simp)
        have hk' : Paired (Dp X.K H') kvs ks := by
          rw [List.take_of_length_le (by omega)] at hk
          exact hk
        refine each_of_get (by have := hv.length; have := Paired.length hk'; omega) fun j u d e1 e2 => ?_
        obtain ⟨y, ey, rp⟩ := paired_get hk' e2
        obtain ⟨u', eu, ru⟩ := paired_get1 hv ey
        rw [e1] at eu
        cases eu
        exact Dp.reads I' d y u rp ru
      · rintro kA s' h' tk out c ⟨H', kvs, os, br, un, hok, g, m1, m3, o1, ⟨u3, o3⟩, hv, hk⟩ hlen kp ha ho
        have I' : Inv X pins σ H' s' := I.call' os un hok br fun b e => absurd e (by simp)
        have hk' : Paired (Dp X.K H') kvs ks := by
          rw [List.take_of_length_le (by omega)] at hk
          exact hk
        have zl : (ds.zip ks).length = ds.length := by rw [List.length_zip]; omega
        have eR : PySem.W.EachIs (fun u (b : PyData × PyData) => ∃ v, RelV v u ∧ Im X.K H' v b.1) its (ds.zip ks) := by
          refine each_of_get (by omega) fun j u b e1 e2 => ?_
          rw [List.getElem?_zip_eq_some] at e2
          obtain ⟨v, ev, iv⟩ := hi.get e2.1
          obtain ⟨u', eu, ru⟩ := paired_get1 rv ev
          rw [e1] at eu
          cases eu
          exact ⟨v, ru, iv.tk g.tk⟩
        have eK : PySem.W.EachIs (fun v (b : PyData × PyData) => (PySem.W.dataKind s'.heap ks).keyOf v = some (PySem.W.keyToks b.2)) kA (ds.zip ks) := by
          refine each_of_get (by omega) fun j u b e1 e2 => ?_
          rw [List.getElem?_zip_eq_some] at e2
          obtain ⟨y, ey, rp⟩ := paired_get hk' e2.2
          obtain ⟨u', eu, ru⟩ := paired_get1 hv ey
          rw [e1] at eu
          cases eu
          obtain ⟨as, rd⟩ := Dp.reads I' b.2 y u rp ru
          exact Vs.kind_some (fun d hd => (hp d hd).1) (List.mem_of_getElem? e2.2) rd
        have eo := PySem.W.sortVals_each (κ := PySem.W.dataKind s'.heap ks) (rev := false) (fun b : PyData × PyData => PySem.W.keyToks b.2) eR eK
        rw [← ho] at eo
        have eo2 : PySem.W.EachIs (fun u d => ∃ v, RelV v u ∧ Im X.K H' v d) out (sortedBy ds ks) := each_fst eo
        obtain ⟨us', v1, v2⟩ := each_vals eo2
        have sbl : (sortedBy ds ks).length = ds.length := by
          unfold sortedBy
          rw [List.length_map, List.length_mergeSort, zl]
        have ul : us'.length ≤ sizeLine := by rw [v2.length, sbl]; omega
        have ne1 : ∀ {c' : Addr} {u : HO}, H' c' = some u → c' ≠ s.heap.objs.size + 1 := fun e z => by subst z; rw [m1] at e; cases e
        have ne3 : ∀ {c' : Addr} {u : HO}, H' c' = some u → c' ≠ s.heap.objs.size + 3 := fun e z => by subst z; rw [m3] at e; cases e
        have g2 : Grow H (upd H' (s.heap.objs.size + 1) (.lst us')) := Frm.put_new g n1 fun z => z
        have g3 : Grow H' (upd H' (s.heap.objs.size + 1) (.lst us')) := Grow.new m1
        have un3 : Un (frs X.stack) [] H (upd H' (s.heap.objs.size + 1) (.lst us')) s.heap h' := by
          refine ⟨fun b o e1 e2 e3 e4 => kp b o (lt0 e1) (lt0 e1) (un.keep b o e1 e2 e3 e4), fun b o e1 e2 e3 e4 => ?_, fun b o e1 e2 e3 => ?_, fun b o e1 e2 => ?_, fun b ys e => ?_, fun b o u e => ?_, fun b ps e => ?_⟩
          · obtain ⟨sl, e⟩ := un.slot b o e1 e2 e3 e4
            exact ⟨sl, kp b _ (lt0 e1) (lt0 e1) e⟩
          · rw [upd_ne (lt0 e1)]
            exact un.free b o e1 e2 e3
          · obtain ⟨o', e⟩ := un.there b o e1 e2
            exact ⟨o', kp b _ (lt0 e1) (lt0 e1) e⟩
          · have := un.tups b ys e
            rw [upd_ne (ne1 this)]; exact this
          · have := un.frzs b o u e
            rw [upd_ne (ne1 this)]; exact this
          · obtain ⟨more, this⟩ := un.tbls b ps e
            exact ⟨more, by rw [upd_ne (ne1 this)]; exact this⟩
        have hok3 : HOk X.prog X.w (upd H' (s.heap.objs.size + 1) (.lst us')) h' := fun b o e => by
          by_cases hb : b = s.heap.objs.size + 1
          · subst hb
            rw [upd_same] at e
            cases e
            exact ⟨ul, out, c, v1, ha⟩
          · rw [upd_ne hb] at e
            refine (hok b o e).stay (fun c u hc e' => kp c u ?_ ?_ e') (fun c' e' => by rw [upd_ne (ne1 e')]; exact e') fun c' xs e' => by rw [upd_ne (ne1 e')]; exact e'
            · rcases hc with rfl | hc
              · exact hb
              · exact ne1 hc
            · rcases hc with rfl | hc
              · exact ne3 e
              · exact ne3 hc
        refine ⟨.ref _, _, I.call' (s' := { s' with heap := h', toks := tk }) os un3 hok3 br (fun b e => absurd e (by simp)), rfl, q _ _ us' g2 n1 upd_same (v2.tk g3.tk)⟩
    · cases hz
  · cases hz

section
variable {K : PySem.W.Frag} {W : Ex → L2.St → Hp → Prop} {ta : TE} {fa : M Val}
theorem rt_sortK {D : KD} {f : Addr} (ha : RefT K W ta fa) : RefT K W (tCKw (rSortK K D f) (tCons ta tNil) (tCons (tC (.ref f)) tNil)) (eSortK D fa) := ⟨fun H0 IO Γ σ H Γ' rr Q hs e hQ => by
  refine ha.then hs e (fun x H' h p => by subst h; exact hQ H' p) fun Γ1 v x H1 e1 p1 k1 => ?_
  try dsimp only at e1
  split at e1
  · rename_i ds h1
    split at e1
    · rename_i z hz
      cases e1
      obtain ⟨p, vs, rfl, rd, im⟩ := k1.rp p1.st h1
      refine ⟨p, vs, ds, z, rfl, rfl, rd, im, hz, fun P hP => p1.st.tabG hP, fun H' p' us g hn hl hi => ?_⟩
      exact hQ (.ref p') H' (p1.fin g) ⟨p', us, rfl, hl, hi, p1.dom hn⟩
    · cases e1
  · cases e1⟩
end
end Vf
namespace Vf
open PySem PySem.Spec PyProof.Rows L2
variable [Tabs]
def skv (o : Option PyData) (Q : List PyData → Prop) : Prop := match o with
  | some (.list ds) => Q ds
  | _ => False
theorem skv_l {ds : List PyData} {Q : List PyData → Prop} : skv (some (.list ds)) Q = Q ds := rfl
theorem wp_sortK {D : KD} {fa : M Val} {Γ : Gm} {P : Val → Gm → Prop} : wpE (eSortK D fa) Γ P = wpE fa Γ fun v Γ1 => skv (rdv Γ1 v) fun ds => oo (sortK D ds) fun z => P (.nw z) Γ1 := by
  unfold eSortK
  rw [wp_bnd]
  congr 1
  funext v Γ1
  show wpR (match rdv Γ1 v with
    | some (.list ds) => (match sortK D ds with
      | some z => some (Γ1, Except.ok (Val.nw z))
      | none => none)
    | _ => none) P = skv (rdv Γ1 v) _
  generalize rdv Γ1 v = o
  cases o with
  | none => rfl
  | some d =>
    cases d with
    | list ds =>
      show wpR (match sortK D ds with
        | some z => some (Γ1, Except.ok (Val.nw z))
        | none => none) P = oo (sortK D ds) _
      cases sortK D ds <;> rfl
    | _ => rfl
/-- a key that is a tuple -/
theorem kTup_of {N : Nat} {fA : M (List Val)} {d : PyData} {ds : List PyData} (h : wpE fA (initG N [.v d]) fun vs Γ => rdvs Γ vs = some ds ∧ ds.length ≤ 1000000) : kTup N fA d = some (.tuple ds) := by
  obtain ⟨Γ', vs, e, e2, e3⟩ := wp_ex.mp h
  unfold kTup
  rw [e]
  simp only [e2, if_pos e3]
theorem kOf_v {D : FD} {d k : PyData} (h : wpF D [.v d] fun r outs => r = .v k ∧ outs = []) : kOf D d = some k := by
  obtain ⟨r, o, e, rfl, rfl⟩ := wpF_ex.mp h
  unfold kOf
  rw [e]
theorem kOf_l {D : FD} {d : PyData} {k : List PyData} (h : wpF D [.v d] fun r outs => r = .l k ∧ outs = []) : kOf D d = some (.list k) := by
  obtain ⟨r, o, e, rfl, rfl⟩ := wpF_ex.mp h
  unfold kOf
  rw [e]
theorem keyDs_of {D : KD} {f : PyData → PyData} : ∀ {ds : List PyData}, (∀ d ∈ ds, D d = some (f d)) → keyDs D ds = some (ds.map f)
  | [], _ => rfl
  | d :: r, h => by
    simp only [keyDs]
    rw [h d (by simp), keyDs_of fun x hx => h x (by simp [hx])]
    rfl
/-- sorted by keys: by the order of the keys -/
def sortF (f : PyData → PyData) (ds : List PyData) : List PyData := ds.mergeSort fun a b => !PySem.W.dataLt (f b) (f a)
theorem sortedBy_map {f : PyData → PyData} {ds : List PyData} : sortedBy ds (ds.map f) = sortF f ds := by
  unfold sortedBy sortF
  have e : ds.zip (ds.map f) = ds.map fun d => (d, f d) := by
    rw [List.zip_map_right]
    have : ∀ l : List PyData, l.zip l = l.map fun d => (d, d) := fun l => by induction l with
      | nil => rfl
      | cons a l ih => rw [List.zip_cons_cons, ih]; rfl
    rw [this, List.map_map]
    rfl
  rw [e]
  have := PySem.W.sort_maps (r := fun a b : PyData × PyData => !PySem.W.dataLt b.2 a.2) (s := fun a b => !PySem.W.dataLt (f b) (f a)) Prod.fst (l := ds.map fun d => (d, f d)) (fun a ha b hb => by
    obtain ⟨x, _, rfl⟩ := List.mem_map.mp ha
    obtain ⟨y, _, rfl⟩ := List.mem_map.mp hb
    rfl)
  rw [this]
  congr 1
  rw [List.map_map]
  exact List.map_id _
theorem sortK_of {D : KD} {f : PyData → PyData} {ds : List PyData} (h : ∀ d ∈ ds, D d = some (f d)) (hk : okKeys (ds.map f) = true) : sortK D ds = some (sortF f ds) := by
  unfold sortK
  rw [keyDs_of h]
  simp only [if_pos hk, sortedBy_map]
theorem sortF_perm {f : PyData → PyData} {ds : List PyData} : (sortF f ds).Perm ds := List.mergeSort_perm _ _
end Vf
namespace Vf
open PySem PySem.Spec PyProof.Rows L2
variable [Tabs]
theorem arOf_im {Γ : Gm} {d : PyData} (h : imm d = true) : arOf Γ false (.im d) = some (.v d) := by
  cases d <;> first | rfl | (simp [imm] at h)
end Vf
namespace Vf
open PySem PySem.Spec PyProof.Rows L2
variable [Tabs]
theorem arOf_int {Γ : Gm} {i : Int} : arOf Γ false (.im (.int i)) = some (.v (.int i)) := rfl
theorem arOf_str {Γ : Gm} {i : Str} : arOf Γ false (.im (.str i)) = some (.v (.str i)) := rfl
theorem arOf_bool {Γ : Gm} {i : Bool} : arOf Γ false (.im (.bool i)) = some (.v (.bool i)) := rfl
theorem arOf_none {Γ : Gm} : arOf Γ false (.im .none) = some (.v .none) := rfl
theorem arOf_tuple {Γ : Gm} {i : List PyData} : arOf Γ false (.im (.tuple i)) = some (.v (.tuple i)) := rfl
theorem arOf_nw {Γ : Gm} {i : List PyData} : arOf Γ false (.nw i) = some (.l i) := rfl
def arS (o : Option Slot) : Option Ar := match o with
  | some (.ow ds) => some (.l ds)
  | some (.io ds) => some (.l ds)
  | some (.bo ds) => some (.l ds)
  | _ => none
theorem arOf_sl {Γ : Gm} {i : Nat} : arOf Γ false (.sl i) = arS Γ[i]? := by
  show (match rdv Γ (.sl i) with | some (.list ds) => some (Ar.l ds) | some d => some (.v d) | none => none) = _
  rw [rdv_sl]
  generalize Γ[i]? = o
  cases o with
  | none => rfl
  | some s => cases s <;> rfl
theorem arS_ow {ds : List PyData} : arS (some (.ow ds)) = some (.l ds) := rfl
theorem arS_io {ds : List PyData} : arS (some (.io ds)) = some (.l ds) := rfl
theorem arS_bo {ds : List PyData} : arS (some (.bo ds)) = some (.l ds) := rfl
def arM (o : Option Slot) : Option Ar := match o with
  | some (.ow ds) => some (.m ds)
  | some (.io ds) => some (.m ds)
  | _ => none
theorem arOf_m {Γ : Gm} {i : Nat} : arOf Γ true (.sl i) = arM Γ[i]? := rfl
theorem arM_ow {ds : List PyData} : arM (some (.ow ds)) = some (.m ds) := rfl
theorem arM_io {ds : List PyData} : arM (some (.io ds)) = some (.m ds) := rfl
end Vf
end

section
set_option Elab.async false
set_option linter.all false
set_option maxRecDepth 100000
/-! A dict whose keys are nested tuples and whose values are lists, in the layer's heap. -/
namespace Vf
open PySem PySem.Spec PyProof.Rows L2
variable [Tabs]
mutual
theorem nested_of {h : Heap} : ∀ (k : NestedKey) (v : Value) (as : List Addr), Reads h v k.data as → NestedIs h k v
  | .none, v, as, r => by
    have r' : Reads h v .none as := r
    cases r'; exact .none
  | .num i, v, as, r => by
    have r' : Reads h v (.int i) as := r
    cases r'; exact .int _ _
  | .text x, v, as, r => by
    have r' : Reads h v (.str x) as := r
    cases r'; exact .text _ _
  | .tup ks, v, as, r => by
    have r' : Reads h v (.tuple (NestedKey.datas ks)) as := r
    cases r' with
    | tuple h1 h2 h3 h4 => exact .tup h1 h2 h3 (nestedAll_of ks _ _ h4)
theorem nestedAll_of {h : Heap} : ∀ (ks : List NestedKey) (vs : List Value) (as : List Addr), ReadsAll h vs (NestedKey.datas ks) as → NestedAll h ks vs
  | [], vs, as, r => by
    have r' : ReadsAll h vs [] as := r
    cases r'; exact .nil
  | k :: ks, vs, as, r => by
    have r' : ReadsAll h vs (k.data :: NestedKey.datas ks) as := r
    cases r' with
    | cons h1 h2 => exact .cons (nested_of k _ _ h1) (nestedAll_of ks _ _ h2)
end
def DO (d : Addr) (o : Obj) : HO := .ext fun h => h.get? d = some o
abbrev Ent := NestedKey × Addr × Addr
def xsOf (kvs : List Ent) : List (NestedKey × Addr × Value) := kvs.map fun x => (x.1, x.2.1, .ref x.2.2)
structure DKo (K : PySem.W.Frag) (P : Program) (w : World) (H : Hp) (d : Addr) (o : Obj) (kvs : List Ent) : Prop where
  at_ : H d = some (DO d o)
  ex : o.ExactDict
  dat : ∃ es ep, o.data = .dict es ep ∧ es.toList = (xsOf kvs).map (entryOfKey (nestedKind P w))
  nd : (kvs.map (·.1)).Nodup
  sm : (d == sysModules) = false
  ks : ∀ x ∈ kvs, Im K H (.ref x.2.1) x.1.data ∧ x.1.depth ≤ 8
theorem xsOf_keys {kvs : List Ent} : (xsOf kvs).map (·.1) = kvs.map (·.1) := by
  unfold xsOf
  rw [List.map_map]
  rfl
section
variable {X : Cx} {pins : List (Addr × Obj)} {σ : L2.St} {H H' : Hp} {s : Shared} {d : Addr} {o : Obj} {kvs : List Ent}
theorem DKo.heap (I : Inv X pins σ H s) (h : DKo X.K X.prog X.w H d o kvs) : s.heap.get? d = some o := (I.hok d _ h.at_).1
theorem DKo.dict (I : Inv X pins σ H s) (h : DKo X.K X.prog X.w H d o kvs) : s.heap.DictOfH (nestedKind X.prog X.w) d (xsOf kvs) := by
  obtain ⟨es, ep, e1, e2⟩ := h.dat
  refine ⟨o, es, ep, h.heap I, h.ex, e1, e2, fun x hx => ?_, by rw [xsOf_keys]; exact h.nd⟩
  obtain ⟨y, hy, rfl⟩ := List.mem_map.mp hx
  obtain ⟨im, hd⟩ := h.ks y hy
  obtain ⟨as, r⟩ := Dp.reads I y.1.data (.ref y.2.1) (.ref y.2.1) im.2.dp rfl
  exact ⟨nested_of _ _ _ r, hd⟩
theorem DKo.grow {K : PySem.W.Frag} {P : Program} {w : World} (g : Grow H H') (h : DKo K P w H d o kvs) : DKo K P w H' d o kvs :=
  ⟨g.keep h.at_ (fun z => z) (fun _ z => by cases z), h.ex, h.dat, h.nd, h.sm, fun x hx => ⟨(h.ks x hx).1.tk g.tk, (h.ks x hx).2⟩⟩
/-- a list is written -/
theorem DKo.put {K : PySem.W.Frag} {P : Program} {w : World} {p : Addr} {xs ys : List V} (e : H p = some (.lst xs)) (h : DKo K P w H d o kvs) : DKo K P w (upd H p (.lst ys)) d o kvs := by
  have ne : d ≠ p := ne_of h.at_ e (by unfold DO; intro z; cases z)
  exact ⟨by rw [upd_ne ne]; exact h.at_, h.ex, h.dat, h.nd, h.sm, fun x hx => ⟨(h.ks x hx).1.tk (Tk.upd e), (h.ks x hx).2⟩⟩
/-- tuples stand where an ext changes -/
theorem tk_ext {φ : Heap → Prop} {ob : HO} (e : H d = some (.ext φ)) : Tk H (upd H d ob) := fun b o k r => by
  have z : b ≠ d := fun z => by
    subst z
    rw [e] at r
    cases r
    rcases k with ⟨_, k⟩ | ⟨_, _, k⟩ <;> cases k
  rw [upd_ne z]
  exact r
theorem objOk_do {P : Program} {w : World} {h : Heap} (e : h.get? d = some o) : ObjOk P w (upd H d (DO d o)) h d (DO d o) := ⟨e, ⟨o, e⟩, fun h1 h2 e1 k => k _ e1⟩

/-! ### {} -/
def tDNewX (K : PySem.W.Frag) (P : Program) (w : World) : TE := fun _ H Q => ∀ p o, H p = none → DKo K P w (upd H p (DO p o)) p o [] → Q (.ref p) (upd H p (DO p o))
theorem pe_dnewX {pos : Pos} : PE X (.Dict [] [] pos) (tDNewX X.K X.prog X.w) := ⟨fun pins s σ H Q I h =>
  wpAny_Dict_empty ⟨.ref s.heap.objs.size, _, I.laid (a := s.heap.objs.size) (o := DO s.heap.objs.size { cls := .type "dict", data := .dict #[] }) (t' := s.toks) (fun _ _ q => Heap.get?_push_of_some _ q) (Nat.le_refl _) (objOk_do (Heap.get?_push_size _ rfl)), rfl,
    h _ _ (I.hok.fresh (Nat.le_refl _)) ⟨upd_same, ⟨rfl, rfl, rfl⟩, ⟨#[], 0, rfl, rfl⟩, List.nodup_nil, beq_eq_false_iff_ne.mpr (Ne.symm (Nat.ne_of_lt I.big)), fun x hx => absurd hx (by simp)⟩⟩⟩

/-! ### d.setdefault(k, l) -/
def rSDK (K : PySem.W.Frag) (P : Program) (w : World) : V → List V → Hp → VK → Prop := fun x xs H Q => ∃ (d : Addr) (o : Obj) (kvs : List Ent) (k : NestedKey) (ka l : Addr), x = .ref d ∧ xs = [.ref ka, .ref l] ∧ DKo K P w H d o kvs ∧ Im K H (.ref ka) k.data ∧ k.depth ≤ 8 ∧ kvs.length ≤ 100000 ∧
  (∀ e ∈ kvs, e.1 = k → Q (.ref e.2.2) H) ∧ ((∀ e ∈ kvs, e.1 ≠ k) → ∀ o', DKo K P w (upd H d (DO d o')) d o' (kvs ++ [(k, ka, l)]) → Q (.ref l) (upd H d (DO d o')))
theorem atKey_some {kvs : List Ent} {k : NestedKey} {p : Addr × Value} (h : atKey (xsOf kvs) k = some p) : ∃ e ∈ kvs, e.1 = k ∧ p = (e.2.1, .ref e.2.2) := by
  unfold atKey at h
  rw [Option.map_eq_some_iff] at h
  obtain ⟨x, h1, rfl⟩ := h
  have h2 := List.mem_of_find?_eq_some h1
  have h3 := List.find?_some h1
  obtain ⟨e, he, rfl⟩ := List.mem_map.mp h2
  exact ⟨e, he, by simpa using h3, rfl⟩
theorem atKey_none {kvs : List Ent} {k : NestedKey} (h : atKey (xsOf kvs) k = none) : ∀ e ∈ kvs, e.1 ≠ k := by
  unfold atKey at h
  rw [Option.map_eq_none_iff, List.find?_eq_none] at h
  intro e he z
  have := h (e.1, e.2.1, .ref e.2.2) (List.mem_map.mpr ⟨e, he, rfl⟩)
  simp [z] at this
theorem ent_uniq : ∀ {kvs : List Ent} {e e' : Ent}, (kvs.map (·.1)).Nodup → e' ∈ kvs → e ∈ kvs → e'.1 = e.1 → e' = e
  | [], _, _, _, h, _, _ => absurd h (by simp)
  | a :: l, e, e', hn, h', h, z => by
    rw [List.map_cons, List.nodup_cons] at hn
    rcases List.mem_cons.mp h' with h1 | h1
    · rcases List.mem_cons.mp h with h2 | h2
      · rw [h1, h2]
      · exact absurd (show a.1 ∈ l.map (·.1) from List.mem_map.mpr ⟨e, h2, by rw [← z, h1]⟩) hn.1
    · rcases List.mem_cons.mp h with h2 | h2
      · exact absurd (show a.1 ∈ l.map (·.1) from List.mem_map.mpr ⟨e', h1, by rw [z, h2]⟩) hn.1
      · exact ent_uniq hn.2 h1 h2 z
theorem atKey_of {kvs : List Ent} {e : Ent} (hn : (kvs.map (·.1)).Nodup) (he : e ∈ kvs) : atKey (xsOf kvs) e.1 = some (e.2.1, .ref e.2.2) := by
  cases h : atKey (xsOf kvs) e.1 with
  | none => exact absurd rfl (atKey_none h e he)
  | some p =>
    obtain ⟨e', he', e1, rfl⟩ := atKey_some h
    have : e' = e := ent_uniq hn he' he e1
    rw [this]
theorem mt_sdX (hu : X.A.units + 64 < cLine) : MtR X "dict.setdefault" (rSDK X.K X.prog X.w) := by
  intro pins s σ H x xs v us Q I rx rxs h
  obtain ⟨d, o, kvs, k, ka, l, rfl, rfl, hD, im, hk, hz, q1, q2⟩ := h
  obtain rfl : v = Value.ref d := rx
  obtain ⟨u1, u2, rfl, e1, e2⟩ := vals2 rxs
  obtain rfl : u1 = Value.ref ka := e1
  obtain rfl : u2 = Value.ref l := e2
  obtain ⟨as, r⟩ := Dp.reads I k.data (.ref ka) (.ref ka) im.2.dp rfl
  have hkey : (nestedKind X.prog X.w).is s.heap k ka := ⟨nested_of _ _ _ r, hk⟩
  refine call_setdefault_heap (knd := nestedKind X.prog X.w) (show X.A.units + 1 + 8 < cLine by omega) hkey hD.sm (hD.dict I) (fun p hp => ?_) (fun hn h' hm' hs => ?_) (by unfold xsOf; rw [List.length_map, sizeLine_eq]; omega)
  · obtain ⟨e, he, e3, rfl⟩ := atKey_some hp
    exact ⟨.ref e.2.2, H, I.tok _, rfl, q1 e he e3⟩
  · rw [storedH_new hn] at hm'
    obtain ⟨o', es', ep', f1, f2, f3, f4, f5, f6⟩ := hm'
    have ne := atKey_none hn
    have tk : Tk H (upd H d (DO d o')) := tk_ext hD.at_
    have xe : xsOf kvs ++ [(k, ka, Value.ref l)] = xsOf (kvs ++ [(k, ka, l)]) := by unfold xsOf; rw [List.map_append]; rfl
    have hD' : DKo X.K X.prog X.w (upd H d (DO d o')) d o' (kvs ++ [(k, ka, l)]) := by
      refine ⟨upd_same, f2, ⟨es', ep', f3, by rw [← xe]; exact f4⟩, by rw [← xsOf_keys, ← xe]; exact f6, hD.sm, fun x hx => ?_⟩
      rcases List.mem_append.mp hx with hx | hx
      · exact ⟨(hD.ks x hx).1.tk tk, (hD.ks x hx).2⟩
      · rw [List.mem_singleton.mp hx]
        exact ⟨im.tk tk, hk⟩
    refine ⟨.ref l, _, I.write (x := d) (e := d) (o := DO d o') (t' := s.toks + (nestedKind X.prog X.w).draws k) (by rw [hD.at_]; trivial) (.inl rfl) (fun b u hb e => (hs.2 b hb).trans e) ⟨o', f1⟩ (objOk_do f1), rfl, q2 ne o' hD'⟩
/-- a method of this dict -/
def tyX (x : V) (H : Hp) : Prop := ∃ d o, x = .ref d ∧ H d = some (DO d o) ∧ o.ExactDict
def tBMX (r : V → List V → Hp → VK → Prop) (to : TE) (t : TA) : TE := fun σ H Q => to σ H fun x H1 => tyX x H1 ∧ t σ H1 fun xs H2 => r x xs H2 Q
theorem pe_bmX {e ob : Expr} {es : List Expr} {name : Str} {id : String} {apos cpos : Pos} {r : V → List V → Hp → VK → Prop} {to : TE} {t : TA} (pa : PlainAttrs "dict") (slot : PySem.Slot "dict" name id) (hty : typeOf (.builtin id) = pure (.type "method_descriptor")) (hm : MtR X id r) (ho : PE X ob to) (ha : PA X (e :: es) t)
    (hbase : attributeBase ob name X.env (eval ob X.env) = eval ob X.env := by rfl)
    (hfew : ((backTo cpos (starEach (e :: es) X.env)).all (fun x => !x.1) && (backToKw cpos (keywordEach [] X.env)).all (fun x => x.1.isSome)
      && decide ((e :: es).length + ([] : List Keyword).length + (if ([] : List Keyword).isEmpty then 0 else 1) < 30)) = true := by rfl)
    (hline : (apos.endLine == cpos.line) = true := by rfl) (hs : starEach (e :: es) X.env = (false, eval e X.env) :: starEach es X.env := by rfl) (hplain : (backTo cpos (starEach es X.env)).any (·.1) = false := by rfl) :
    PE X (.Call (.Attribute ob name apos) (e :: es) [] cpos) (tBMX r to t) := by
  refine ⟨fun pins s σ H Q I h => ?_⟩
  refine wpAny_Call_method_late hbase hfew hline rfl (thn (ho.run pins s σ H _ I h) fun v s1 ⟨x, H1, I1, r1, ty, q1⟩ => ?_)
  obtain ⟨d, o, rfl, ed, hx⟩ := ty
  obtain rfl : v = Value.ref d := r1
  have hd : s1.heap.get? d = some o := (I1.hok d _ ed).1
  refine ⟨"dict", id, pa, slot, hty, ⟨o, hd, hx.1⟩, fun a z => ?_, ?_⟩
  · cases z
    exact ⟨o, hd, hx.2.1⟩
  have hA := ha.run cpos pins s1 σ H1 _ I1 q1
  rw [hs] at hA ⊢
  refine Calls.callWith_builtin (by show (false || (backTo cpos (starEach es X.env)).any (·.1)) = false; rw [hplain] <;> rfl) (Calls.evalArgs_plain ?_)
  exact thn hA fun us s2 ⟨vs, H2, I2, r2, q2⟩ => hm pins s2 σ H2 (.ref d) vs (.ref d) us Q I2 rfl r2 q2

/-! ### d[k] -/
def rIxX (K : PySem.W.Frag) (P : Program) (w : World) : R2 := fun x y H Q => ∃ (d : Addr) (o : Obj) (kvs : List Ent) (e : Ent) (ka : Addr), x = .ref d ∧ y = .ref ka ∧ DKo K P w H d o kvs ∧ Im K H (.ref ka) e.1.data ∧ e ∈ kvs ∧ Q (.ref e.2.2) H
theorem ix_dX (hu : X.A.units + 64 < cLine) : IxR X (rIxX X.K X.prog X.w) := by
  intro value slice pins s σ H x y v u Q I rx ry h hs
  obtain ⟨d, o, kvs, e, ka, rfl, rfl, hD, im, he, q⟩ := h
  obtain rfl : v = Value.ref d := rx
  obtain rfl : u = Value.ref ka := ry
  obtain ⟨as, r⟩ := Dp.reads I e.1.data (.ref ka) (.ref ka) im.2.dp rfl
  have hkey : (nestedKind X.prog X.w).is s.heap e.1 ka := ⟨nested_of _ _ _ r, (hD.ks e he).2⟩
  have hd := hD.dict I
  exact tail_any hd.typeIs slot_dict_getitem.lookup (wpAny_getItem_heap (knd := nestedKind X.prog X.w) (show X.A.units + 1 + 8 < cLine by omega) hkey hd (atKey_of hD.nd he) ⟨.ref e.2.2, H, I.tok _, rfl, q⟩) hs

/-! ### for .. in d -/
def ItX (d : Addr) (o : Obj) (kvs : List Ent) : It :=
  ⟨fun i H => H d = some (DO d o) ∧ i < kvs.length, fun i H x H' => H' = H ∧ ∃ e, kvs[i]? = some e ∧ x = .ref e.2.1, fun i H => H d = some (DO d o) ∧ kvs.length ≤ i⟩
theorem turn_keysX {P : Program} {w : World} {K : PySem.W.Frag} {tg : Expr} {es : Array DictEntry} {ep : Nat} (it : Addr) (hod : o.data = .dict es ep) (hes : es.toList = (xsOf kvs).map (entryOfKey (nestedKind P w))) : Turn P w K tg (ItX d o kvs) [it] it (fun i h => h.IsKeyIter it d i kvs.length ep) where
  mem := by simp
  obj := fun i h st b hb => by
    have e : b = it := by simpa using hb
    subst e
    obtain ⟨oi, e, c, dd⟩ := st
    exact ⟨oi, e, fun v z => by rw [dd] at z; cases z⟩
  keep := fun i h h' st k => st.at fun oi e => k it (by simp) oi e
  item := by
    intro X hP hw hK hc i pins s σ H E I hf st hg
    subst hP hw hK
    obtain ⟨hd, hi⟩ := hg
    obtain ⟨f0, f1, f2, f3, f4, f5⟩ := hf it (by simp)
    have hgd : s.heap.get? d = some o := (I.hok d _ hd).1
    have hsz : es.size = kvs.length := by
      rw [← Array.length_toList, hes, List.length_map]
      unfold xsOf
      rw [List.length_map]
    obtain ⟨e, he⟩ : ∃ p, kvs[i]? = some p := ⟨kvs[i], List.getElem?_eq_getElem hi⟩
    have hen : es[i]? = some (entryOfKey (nestedKind X.prog X.w) (e.1, e.2.1, .ref e.2.2)) := by
      rw [← Array.getElem?_toList, hes, List.getElem?_map]
      unfold xsOf
      rw [List.getElem?_map, he]
      rfl
    refine next_key_item st hgd hod hsz hen fun h' st' sb => ?_
    have I1 : Inv X pins σ H { s with heap := h' } := I.turned (t' := s.toks) (fun b ob hb e => (sb.2 b hb).trans e) f0 f1 f3 f4 f5
    obtain ⟨oi, e', c, dd⟩ := id st'
    exact ⟨.ref e.2.1, rfl, go_of (s := { s with heap := h' }) e' c dd (by decide) ⟨.ref e.2.1, H, I1, rfl, ⟨rfl, e, he, rfl⟩, st', fun b hb => (hf b hb).1⟩⟩
  done := by
    intro X hP hw hK hc i pins s σ H E I hf st hg
    subst hP hw hK
    obtain ⟨hd, hi⟩ := hg
    obtain ⟨f0, f1, f2, f3, f4, f5⟩ := hf it (by simp)
    have hgd : s.heap.get? d = some o := (I.hok d _ hd).1
    have hsz : es.size = kvs.length := by
      rw [← Array.length_toList, hes, List.length_map]
      unfold xsOf
      rw [List.length_map]
    exact next_key_end (I.ok.hd hc) st hgd hod hsz hi fun h' eb => ⟨rfl, I.turned (t' := s.toks) (fun b ob hb e => eb b ob hb e) f0 f1 f3 f4 f5⟩
  self := fun A i s Q E st h => by
    refine wpAny_pyIter_slot st.typeIs F.slot_dict_keyiterator_iter (wpAny_call_entry F.slot_dict_keyiterator_iter st.typeIs F.entry_dict_keyiterator_iter ?_ (F.args_dict_keyiterator_iter_1 _))
    show wpAny _ _ (ret (.ref it)) _ _ s
    exact wpAny_pure ⟨_, rfl, "dict_keyiterator", _, st.typeIs, F.slot_dict_keyiterator_next.lookup, h⟩
def iKeysX (K : PySem.W.Frag) (P : Program) (w : World) (td : TE) : TI := fun σ H R => td σ H fun x H1 => ∃ d o kvs, x = .ref d ∧ DKo K P w H1 d o kvs ∧ R (ItX d o kvs) H1
theorem pi_keysX {tg e : Expr} {td : TE} (he : PE X e td) : PI X tg e (iKeysX X.K X.prog X.w td) := by
  refine ⟨fun pins s σ H R I h => ?_⟩
  refine thn (he.run pins s σ H _ I h) fun u s1 ⟨x, H1, I1, rx, d, o, kvs, ex, hD, q⟩ => ?_
  subst ex
  obtain rfl : u = Value.ref d := rx
  obtain ⟨es, ep, e1, e2⟩ := hD.dat
  have hsz : es.size = kvs.length := by
    rw [← Array.length_toList, e2, List.length_map]
    unfold xsOf
    rw [List.length_map]
  refine iter_keys hD.sm (hD.heap I1) hD.ex e1 (pi_one (tk := s1.toks) I1 _ (turn_keysX _ e1 e2) ⟨_, Heap.get?_push_size _ rfl, rfl, ?_⟩ q)
  rw [hsz] <;> rfl
theorem walk_keysX : Walk (ItX d o kvs) kvs.length (fun H => H d = some (DO d o)) (fun i H x H' => H' = H ∧ ∃ e, kvs[i]? = some e ∧ x = .ref e.2.1) :=
  ⟨fun _ _ hi q => ⟨q, hi⟩, fun _ q => ⟨q, Nat.le_refl _⟩, fun _ _ _ _ _ _ y => y⟩
end
end Vf
end

section
set_option Elab.async false
set_option linter.all false
set_option maxRecDepth 100000
/-! blocks_of: a dict by place, of lists of rows, read as data. -/
namespace Vf
open PySem PySem.Spec PyProof.Rows L2
variable [Tabs]
mutual
def nkD : PyData → Option NestedKey
  | .none => some .none
  | .int i => some (.num i)
  | .str s => some (.text s)
  | .tuple ds => match nkDs ds with
    | some ks => some (.tup ks)
    | none => none
  | .bool _ => none
  | .list _ => none
  | .dict _ => none
def nkDs : List PyData → Option (List NestedKey)
  | [] => some []
  | d :: ds => match nkD d, nkDs ds with
    | some k, some ks => some (k :: ks)
    | _, _ => none
end
mutual
theorem nkD_data : ∀ (d : PyData) (k : NestedKey), nkD d = some k → k.data = d
  | .none, k, h => by cases h; rfl
  | .int i, k, h => by cases h; rfl
  | .str s, k, h => by cases h; rfl
  | .bool _, _, h => by cases h
  | .list _, _, h => by cases h
  | .dict _, _, h => by cases h
  | .tuple ds, k, h => by
    simp only [nkD] at h
    split at h
    · rename_i ks e
      cases h
      show PyData.tuple (NestedKey.datas ks) = _
      rw [nkDs_data ds ks e]
    · cases h
theorem nkDs_data : ∀ (ds : List PyData) (ks : List NestedKey), nkDs ds = some ks → NestedKey.datas ks = ds
  | [], ks, h => by cases h; rfl
  | d :: ds, ks, h => by
    simp only [nkDs] at h
    split at h
    · rename_i k ks' e1 e2
      cases h
      show k.data :: NestedKey.datas ks' = _
      rw [nkD_data d k e1, nkDs_data ds ks' e2]
    · cases h
end
def isTup : NestedKey → Bool
  | .tup _ => true
  | _ => false
abbrev Grp := NestedKey × List PyData
def addG (acc : List Grp) (k : NestedKey) (r : PyData) : List Grp := if (acc.any fun g => decide (g.1 = k)) = true then acc.map (fun g => if g.1 = k then (g.1, g.2 ++ [r]) else g) else acc ++ [(k, [r])]
def stepG (D : FD) (sch : PyData) (acc : List Grp) (d : PyData) : Option (List Grp) := match D [.v sch, .v d], ixD d (.int 1) with
  | some (.ok (.v p), []), some r => match nkD p with
    | some k => if (isTup k && (imm r && (decide (k.depth ≤ 8) && (decide (acc.length < 100000) && acc.all fun g => decide (g.2.length < 100000))))) = true then some (addG acc k r) else none
    | none => none
  | _, _ => none
def groupsG (D : FD) (sch : PyData) (acc : List Grp) : List PyData → Option (List Grp)
  | [] => some acc
  | d :: r => match stepG D sch acc d with
    | some acc' => groupsG D sch acc' r
    | none => none
def blkD : Grp → Option PyData
  | (.tup [a, b], rows) => some (.tuple [a.data, b.data, .tuple rows])
  | _ => none
def blksD : List Grp → Option (List PyData)
  | [] => some []
  | g :: r => match blkD g, blksD r with
    | some b, some bs => some (b :: bs)
    | _, _ => none
def D_blocks (D : FD) : FD := fun as => match as with
  | [.v sch, .v (.tuple store)] => match groupsG D sch [] store with
    | some gs => match blksD gs with
      | some bs => if gs.length ≤ 100000 then some (.ok (.v (.tuple bs)), []) else none
      | none => none
    | none => none
  | _ => none
theorem groupsG_app {D : FD} {sch : PyData} : ∀ {a b : List PyData} {acc : List Grp}, groupsG D sch acc (a ++ b) = (match groupsG D sch acc a with
    | some x => groupsG D sch x b
    | none => none)
  | [], b, acc => rfl
  | d :: a, b, acc => by
    simp only [List.cons_append, groupsG]
    cases stepG D sch acc d with
    | none => rfl
    | some x => exact groupsG_app
theorem groupsG_take {D : FD} {sch : PyData} {ds : List PyData} {gs : List Grp} (h : groupsG D sch [] ds = some gs) {i : Nat} {d : PyData} (e : ds[i]? = some d) : ∀ {a : List Grp}, groupsG D sch [] (ds.take i) = some a → ∃ b, stepG D sch a d = some b ∧ groupsG D sch [] (ds.take (i + 1)) = some b := by
  intro a ha
  have hi := (List.getElem?_eq_some_iff.mp e).1
  have e1 : ds.take (i + 1) = ds.take i ++ [d] := by rw [List.take_add_one, e]; rfl
  have e2 : ds = ds.take (i + 1) ++ ds.drop (i + 1) := (List.take_append_drop _ _).symm
  rw [e2, groupsG_app, e1, groupsG_app, ha] at h
  rw [e1, groupsG_app, ha]
  simp only [groupsG] at h ⊢
  cases hs : stepG D sch a d with
  | none => rw [hs] at h; simp at h
  | some b => exact ⟨b, rfl, rfl⟩
theorem blksD_get : ∀ {gs : List Grp} {bs : List PyData}, blksD gs = some bs → ∀ {i : Nat} {g : Grp}, gs[i]? = some g → ∃ b, bs[i]? = some b ∧ blkD g = some b
  | [], _, _, i, g, e => by simp at e
  | g0 :: r, bs, h, i, g, e => by
    simp only [blksD] at h
    split at h
    · rename_i b bs' h1 h2
      cases h
      cases i with
      | zero => simp at e; subst e; exact ⟨b, rfl, h1⟩
      | succ i => simpa using blksD_get h2 (by simpa using e)
    · cases h
theorem blksD_len : ∀ {gs : List Grp} {bs : List PyData}, blksD gs = some bs → bs.length = gs.length
  | [], _, h => by cases h; rfl
  | g0 :: r, bs, h => by
    simp only [blksD] at h
    split at h
    · rename_i b bs' h1 h2
      cases h
      simp [blksD_len h2]
    · cases h

/-! ### a state without lists -/
def FlatG (Γ : Gm) : Prop := ∀ s ∈ Γ, s = .em ∨ ∃ d, s = .im d
section
variable {K : PySem.W.Frag} {H0 H H' : Hp} {IO : Ctl} {Γ : Gm} {σ : L2.St}
theorem FlatG.mu (f : FlatG Γ) : Mu Γ σ = fun _ => False := by
  funext p
  apply propext
  constructor
  · rintro ⟨i, s, e, m, _⟩
    rcases f s (List.mem_of_getElem? e) with rfl | ⟨d, rfl⟩ <;> simp [muS] at m
  · exact fun z => z.elim
theorem StOk.chg (hs : StOk K H0 IO Γ σ H) (fl : FlatG Γ) (t : Tk H H') (f : Frm (IOp IO) H0 H') : StOk K H0 IO Γ σ H' where
  len := hs.len
  ok := fun i s x e e2 => by
    have k := hs.ok i s x e e2
    rcases fl s (List.mem_of_getElem? e) with rfl | ⟨d, rfl⟩
    · trivial
    · obtain ⟨v, a, b⟩ := k
      exact ⟨v, a, b.tk t⟩
  uniq := hs.uniq
  bosep := hs.bosep
  fresh := hs.fresh
  ioA := hs.ioA
  ioB := hs.ioB
  ioL := hs.ioL
  frm := f
theorem EPost.grw (f : FlatG Γ) {Γ' : Gm} (p : EPost K H0 IO Γ σ H Γ' H') : Grow H H' := by
  have := p.frm
  rw [f.mu] at this
  exact this
/-- the lists of the groups -/
structure LsOk (K : PySem.W.Frag) (H : Hp) (kvs : List Ent) (gs : List Grp) : Prop where
  nd : (kvs.map (·.2.2)).Nodup
  all : Paired (fun (e : Ent) (g : Grp) => e.1 = g.1 ∧ ∃ vs, H e.2.2 = some (.lst vs) ∧ ImAll K H vs g.2) kvs gs
theorem LsOk.grow (g : Grow H H') {kvs : List Ent} {gs : List Grp} (h : LsOk K H kvs gs) : LsOk K H' kvs gs :=
  ⟨h.nd, Paired.mapP h.all fun e x ⟨a, vs, b, c⟩ => ⟨a, vs, g.lst b fun z => z, c.tk g.tk⟩⟩
/-- something else is written -/
theorem LsOk.chg {kvs : List Ent} {gs : List Grp} (h : LsOk K H kvs gs) (t : Tk H H') (k : ∀ e ∈ kvs, H' e.2.2 = H e.2.2) : LsOk K H' kvs gs := by
  refine ⟨h.nd, ?_⟩
  have ha := h.all
  clear h
  induction ha with
  | nil => exact .nil
  | cons x r ih =>
    obtain ⟨a, vs, b, c⟩ := x
    exact .cons ⟨a, vs, by rw [k _ (by simp)]; exact b, c.tk t⟩ (ih fun e he => k e (List.mem_cons_of_mem _ he))
theorem paired_mem {α β : Type} {F : α → β → Prop} : ∀ {l : List α} {m : List β}, Paired F l m → ∀ {a : α}, a ∈ l → ∃ b ∈ m, F a b := by
  intro l m h
  induction h with
  | nil => intro a ha; simp at ha
  | cons x r ih =>
    intro a ha
    rcases List.mem_cons.mp ha with rfl | ha
    · exact ⟨_, List.mem_cons_self, x⟩
    · obtain ⟨b, hb, k⟩ := ih ha
      exact ⟨b, List.mem_cons_of_mem _ hb, k⟩
theorem paired_any {kvs : List Ent} {gs : List Grp} {k : NestedKey} {F : Ent → Grp → Prop} (hF : ∀ e g, F e g → e.1 = g.1) (h : Paired F kvs gs) : (gs.any fun g => decide (g.1 = k)) = true ↔ ∃ e ∈ kvs, e.1 = k := by
  induction h with
  | nil => simp
  | cons x r ih =>
    rw [List.any_cons, Bool.or_eq_true, ih]
    simp only [decide_eq_true_eq, List.mem_cons, exists_eq_or_imp, hF _ _ x]
/-- a row more in the list of a group that stands -/
theorem LsOk.add {kvs : List Ent} {gs : List Grp} (h : LsOk K H kvs gs) (hk : (kvs.map (·.1)).Nodup) {e : Ent} (he : e ∈ kvs) {xs : List V} (hx : H e.2.2 = some (.lst xs)) {r : PyData} {x : V} (ir : Im K H x r) : LsOk K (upd H e.2.2 (.lst (xs ++ [x]))) kvs (gs.map fun g => if g.1 = e.1 then (g.1, g.2 ++ [r]) else g) := by
  refine ⟨h.nd, ?_⟩
  have tk : Tk H (upd H e.2.2 (.lst (xs ++ [x]))) := Tk.upd hx
  have go : ∀ {l : List Ent} {m : List Grp}, (∀ a ∈ l, a ∈ kvs) → Paired (fun (e : Ent) (g : Grp) => e.1 = g.1 ∧ ∃ vs, H e.2.2 = some (.lst vs) ∧ ImAll K H vs g.2) l m →
      Paired (fun (a : Ent) (g : Grp) => a.1 = g.1 ∧ ∃ vs, (upd H e.2.2 (.lst (xs ++ [x]))) a.2.2 = some (.lst vs) ∧ ImAll K (upd H e.2.2 (.lst (xs ++ [x]))) vs g.2) l (m.map fun g => if g.1 = e.1 then (g.1, g.2 ++ [r]) else g) := by
    intro l m hl hp
    induction hp with
    | nil => exact .nil
    | cons q rest ih =>
      rename_i a g l m
      obtain ⟨q1, vs, q2, q3⟩ := q
      refine .cons ?_ (ih fun b hb => hl b (List.mem_cons_of_mem _ hb))
      by_cases z : g.1 = e.1
      · show a.1 = (if g.1 = e.1 then (g.1, g.2 ++ [r]) else g).1 ∧ ∃ vs, _ ∧ ImAll K _ vs (if g.1 = e.1 then (g.1, g.2 ++ [r]) else g).2
        rw [if_pos z]
        have : a = e := ent_uniq hk (hl a (by simp)) he (q1.trans z)
        subst this
        rw [hx] at q2
        cases q2
        refine ⟨q1, _, upd_same, ?_⟩
        exact (q3.tk tk).append (ImAll.single (ir.tk tk))
      · show a.1 = (if g.1 = e.1 then (g.1, g.2 ++ [r]) else g).1 ∧ ∃ vs, _ ∧ ImAll K _ vs (if g.1 = e.1 then (g.1, g.2 ++ [r]) else g).2
        rw [if_neg z]
        have ne : a.2.2 ≠ e.2.2 := fun y => by
          have : a = e := by
            have ha := hl a (by simp)
            clear ih hl q3 q2
            have nd := h.nd
            clear h hk
            induction kvs with
            | nil => cases ha
            | cons b bs ih2 =>
              rw [List.map_cons, List.nodup_cons] at nd
              rcases List.mem_cons.mp ha with h1 | h1
              · rcases List.mem_cons.mp he with h2 | h2
                · rw [h1, h2]
                · exact absurd (show b.2.2 ∈ bs.map (·.2.2) from List.mem_map.mpr ⟨e, h2, by rw [← y, h1]⟩) nd.1
              · rcases List.mem_cons.mp he with h2 | h2
                · exact absurd (show b.2.2 ∈ bs.map (·.2.2) from List.mem_map.mpr ⟨a, h1, by rw [y, h2]⟩) nd.1
                · exact ih2 h2 h1 nd.2
          exact z (by rw [← this]; exact q1.symm)
        exact ⟨q1, vs, by rw [upd_ne ne]; exact q2, q3.tk tk⟩
  exact go (fun _ h => h) h.all

theorem StOk.slotIm (hs : StOk K H0 IO Γ σ H) {i : Nat} {d : PyData} (e : Γ[i]? = some (.im d)) : ∃ v, σ[i]? = some (some v) ∧ Im K H v d := by
  obtain ⟨x, hx, k⟩ := hs.sig e
  obtain ⟨v, rfl, k⟩ := k
  exact ⟨v, hx, k⟩
theorem im_ref {x : V} {k : NestedKey} {a b : NestedKey} (e : k = .tup [a, b]) (h : Im K H x k.data) : ∃ p, x = .ref p := by
  subst e
  obtain ⟨p, _, rfl, _⟩ := im_tuple h
  exact ⟨p, rfl⟩

abbrev G6 (sch : PyData) (store : List PyData) (s2 s3 s4 s5 : Slot) : Gm := [.im sch, .im (.tuple store), s2, s3, s4, s5]
theorem flat6 {sch : PyData} {store : List PyData} {s3 s4 s5 : Slot} (h3 : s3 = .em ∨ ∃ d, s3 = .im d) (h4 : s4 = .em ∨ ∃ d, s4 = .im d) (h5 : s5 = .em ∨ ∃ d, s5 = .im d) : FlatG (G6 sch store .em s3 s4 s5) := by
  intro s hs
  simp only [List.mem_cons, List.not_mem_nil, or_false] at hs
  rcases hs with rfl | rfl | rfl | rfl | rfl | rfl
  · exact .inr ⟨_, rfl⟩
  · exact .inr ⟨_, rfl⟩
  · exact .inl rfl
  · exact h3
  · exact h4
  · exact h5
variable {P : Program} {w : World}
abbrev tSD (K : PySem.W.Frag) (P : Program) (w : World) (tp : TE) : TE := tBMX (rSDK K P w) (tVar 2) (tCons tp (tCons (tLst tNil) tNil))
abbrev tBody (K : PySem.W.Frag) (P : Program) (w : World) (tp tx : TE) : TS := tDrop (tBM K "list" rAppend (tSD K P w tp) (tCons tx tNil))
/-- what the loop keeps -/
structure BI (K : PySem.W.Frag) (P : Program) (w : World) (H0 : Hp) (IO : Ctl) (D : FD) (sch : PyData) (store : List PyData) (a d : Addr) (vs : List V) (i : Nat) (σ : L2.St) (H : Hp) : Prop where
  st : ∃ s3, (s3 = .em ∨ ∃ x, s3 = .im x) ∧ StOk K H0 IO (G6 sch store .em s3 .em .em) σ H
  rows : σ[2]? = some (some (.ref d))
  grp : ∃ gs o kvs, groupsG D sch [] (store.take i) = some gs ∧ DKo K P w H d o kvs ∧ LsOk K H kvs gs ∧ (∀ e ∈ kvs, H0 e.2.2 = none)
  d0 : H0 d = none
  tp : SqT K H a vs
  im : ImAll K H vs store
theorem body_step {D : FD} {sch : PyData} {store : List PyData} {a d : Addr} {vs : List V} {tp tx : TE} (htp : RefT K WF tp (eCall [false, false] D (aCons (eVar 0) (aCons (eVar 3) aNil)))) (htx : RefT K WF tx (eOp2 ixD (eVar 3) (eC (.int 1))))
    {gs : List Grp} (hall : groupsG D sch [] store = some gs) {i : Nat} {fd : PyData} (hi : store[i]? = some fd) (hsi : imm sch = true)
    {Dn : Ends} (hn : Dn.nx = BI K P w H0 IO D sch store a d vs (i + 1))
    (st : StOk K H0 IO (G6 sch store .em (.im fd) .em .em) σ H) (rows : σ[2]? = some (some (.ref d))) (grp : ∃ gs o kvs, groupsG D sch [] (store.take i) = some gs ∧ DKo K P w H d o kvs ∧ LsOk K H kvs gs ∧ (∀ e ∈ kvs, H0 e.2.2 = none)) (d0 : H0 d = none) (ht : SqT K H a vs) (him : ImAll K H vs store) :
    tBody K P w tp tx Dn σ H := by
  obtain ⟨g0, o, kvs, hg, hD, hL, h0⟩ := grp
  obtain ⟨g1, hstep, hg1⟩ := groupsG_take hall hi hg
  have fl : FlatG (G6 sch store .em (.im fd) .em .em) := flat6 (.inr ⟨_, rfl⟩) (.inl rfl) (.inl rfl)
  have hfd : imm fd = true := by
    obtain ⟨v, _, k⟩ := st.slotIm (i := 3) rfl
    exact k.1
  unfold stepG at hstep
  split at hstep
  · rename_i p r hp hr
    split at hstep
    · rename_i k hk
      split at hstep
      · rename_i hc
        cases hstep
        simp only [Bool.and_eq_true, decide_eq_true_eq, List.all_eq_true] at hc
        obtain ⟨hit, hir, hkd, hgl, hgr⟩ := hc
        have hkp := nkD_data p k hk
        have hkl : kvs.length = g0.length := Paired.length hL.all
        -- the place
        have e1 : eCall [false, false] D (aCons (eVar 0) (aCons (eVar 3) aNil)) (G6 sch store .em (.im fd) .em .em) = some (G6 sch store .em (.im fd) .em .em, .ok (.im p)) := by
          obtain ⟨Γ', x, e, rfl, rfl⟩ := wp_ex.mp (show wpE (eCall [false, false] D (aCons (eVar 0) (aCons (eVar 3) aNil))) (G6 sch store .em (.im fd) .em .em) (fun v Γ' => v = .im p ∧ Γ' = G6 sch store .em (.im fd) .em .em) by
            rw [wp_call]
            rw [wp_aCons, wp_var]
            simp only [List.getElem?_cons_zero, vr_im]
            rw [wp_aCons, wp_var]
            simp only [List.getElem?_cons_succ, List.getElem?_cons_zero, vr_im]
            rw [wp_aNil]
            simp only [arsOf, arOf_im hsi, arOf_im hfd, oo_some, slM, slB]
            refine ⟨⟨List.nodup_nil, fun _ h => by simp at h⟩, ?_⟩
            exact wpF_ex.mpr ⟨.v p, [], hp, rfl, rfl⟩)
          exact e
        have e2 : eOp2 ixD (eVar 3) (eC (.int 1)) (G6 sch store .em (.im fd) .em .em) = some (G6 sch store .em (.im fd) .em .em, .ok (.im r)) := by
          obtain ⟨Γ', x, e, rfl, rfl⟩ := wp_ex.mp (show wpE (eOp2 ixD (eVar 3) (eC (.int 1))) (G6 sch store .em (.im fd) .em .em) (fun v Γ' => v = .im r ∧ Γ' = G6 sch store .em (.im fd) .em .em) by
            rw [wp_op2, wp_var]
            simp only [List.getElem?_cons_succ, List.getElem?_cons_zero, vr_im]
            rw [wp_c]
            simp only [rdv_im, o2_some, hr, oo_some, toV_of hir, and_self])
          exact e
        have fin : ∀ {la : Addr} {xs : List V} {H3 : Hp} {x : V} {o' : Obj} {kvs' : List Ent}, Grow H H3 ∨ True → StOk K H0 IO (G6 sch store .em (.im fd) .em .em) σ H3 → Tk H H3 → Im K H3 x r → H3 la = some (.lst xs) → H0 la = none → DKo K P w H3 d o' kvs' → LsOk K (upd H3 la (.lst (xs ++ [x]))) kvs' (addG g0 k r) → (∀ e ∈ kvs', H0 e.2.2 = none) → BI K P w H0 IO D sch store a d vs (i + 1) σ (upd H3 la (.lst (xs ++ [x]))) := by
          intro la xs H3 x o' kvs' _ st3 tk3 ix hla hla0 hD3 hL3 h03
          have tk4 : Tk H3 (upd H3 la (.lst (xs ++ [x]))) := Tk.upd hla
          refine ⟨⟨.im fd, .inr ⟨_, rfl⟩, st3.chg fl tk4 (Frm.put_new st3.frm hla0 fun m => ?_)⟩, rows, ⟨_, o', kvs', hg1, hD3.put hla, hL3, h03⟩, d0, ?_, (him.tk tk3).tk tk4⟩
          · obtain ⟨ys, z⟩ := st3.ioL.1 la m
            rw [hla0] at z; cases z
          · exact (ht.imp (tk3.rd a vs) id).imp (tk4.rd a vs) id
        have hn' : ∀ {H4 : Hp}, BI K P w H0 IO D sch store a d vs (i + 1) σ H4 → Dn.nx σ H4 := fun h => by rw [hn]; exact h
        show tBM K "list" rAppend (tSD K P w tp) (tCons tx tNil) σ H fun _ H1 => Dn.nx σ H1
        show tSD K P w tp σ H fun x H1 => tyV K "list" x H1 ∧ (tCons tx tNil) σ H1 fun xs H2 => rAppend x xs H2 fun _ H1 => Dn.nx σ H1
        refine ⟨.ref d, rows, ⟨d, o, rfl, hD.at_, hD.ex⟩, ?_⟩
        refine htp.run H0 IO _ σ H _ _ _ st e1 fun x H1 p1 k1 => ?_
        have gr1 : Grow H H1 := p1.grw fl
        have k1' : Im K H1 x k.data := by rw [hkp]; exact k1
        refine ⟨Nat.zero_le _, fun l hl => ?_⟩
        have gr2 : Grow H1 (upd H1 l (.lst [])) := Grow.new hl
        have gr : Grow H (upd H1 l (.lst [])) := grow_trans gr1 gr2
        have st2 : StOk K H0 IO (G6 sch store .em (.im fd) .em .em) σ (upd H1 l (.lst [])) := p1.st.grow gr2
        have hD2 := hD.grow gr
        have hL2 := hL.grow gr
        have hl0 : H0 l = none := p1.st.frm.dom hl
        have hld : l ≠ d := fun z => by
          have := gr1.keep hD.at_ (fun z => z) (fun _ z => by cases z)
          rw [← z, hl] at this
          cases this
        obtain ⟨ka, hka⟩ : ∃ ka, x = .ref ka := by
          cases hkk : k with
          | tup ks =>
            rw [hkk] at k1'
            have : Im K H1 x (.tuple (NestedKey.datas ks)) := k1'
            obtain ⟨p', _, rfl, _⟩ := im_tuple this
            exact ⟨p', rfl⟩
          | none => rw [hkk] at hit; cases hit
          | num i => rw [hkk] at hit; cases hit
          | text s => rw [hkk] at hit; cases hit
        subst hka
        refine ⟨d, o, kvs, k, ka, l, rfl, rfl, hD2, k1'.tk gr2.tk, hkd, by omega, fun e he hek => ?_, fun hne o' hD' => ?_⟩
        · -- the place stands
          obtain ⟨g, hgm, hge, xs, hx, hxi⟩ := paired_mem hL2.all he
          refine ⟨.inl ⟨rfl, xs, .inl (.inl hx)⟩, ?_⟩
          refine htx.run H0 IO _ σ _ _ _ _ st2 e2 fun y H3 p3 k3 => ?_
          have gr3 : Grow (upd H1 l (.lst [])) H3 := p3.grw fl
          have hx3 := gr3.lst hx fun z => z
          refine ⟨e.2.2, xs, y, rfl, rfl, hx3, ?_, hn' ?_⟩
          · have h1 : xs.length = g.2.length := hxi.length
            have h2 := hgr g hgm
            rw [sizeLine_eq]; omega
          · have ha : addG g0 k r = g0.map fun g => if g.1 = e.1 then (g.1, g.2 ++ [r]) else g := by
              unfold addG
              rw [if_pos ((paired_any (fun a b (h : a.1 = b.1 ∧ _) => h.1) hL.all).mpr ⟨e, he, hek⟩), hek]
            refine fin (.inr trivial) p3.st (Grow.tk (grow_trans gr gr3)) k3 hx3 (h0 e he) (hD2.grow gr3) ?_ h0
            rw [ha]
            exact (hL2.grow gr3).add hD.nd he hx3 k3
        · -- a new place
          have tkd : Tk (upd H1 l (.lst [])) (upd (upd H1 l (.lst [])) d (DO d o')) := tk_ext hD2.at_
          have std : StOk K H0 IO (G6 sch store .em (.im fd) .em .em) σ (upd (upd H1 l (.lst [])) d (DO d o')) := st2.chg fl tkd (Frm.put_new st2.frm d0 fun m => by
            obtain ⟨ys, z⟩ := st2.ioL.1 d m
            rw [d0] at z; cases z)
          have hxl : (upd (upd H1 l (.lst [])) d (DO d o')) l = some (.lst []) := by rw [upd_ne hld, upd_same]
          refine ⟨.inl ⟨rfl, [], .inl (.inl hxl)⟩, ?_⟩
          refine htx.run H0 IO _ σ _ _ _ _ std e2 fun y H3 p3 k3 => ?_
          have gr3 : Grow (upd (upd H1 l (.lst [])) d (DO d o')) H3 := p3.grw fl
          have hx3 := gr3.lst hxl fun z => z
          refine ⟨l, [], y, rfl, rfl, hx3, by rw [sizeLine_eq]; decide, hn' ?_⟩
          have ha : addG g0 k r = g0 ++ [(k, [r])] := by
            unfold addG
            rw [if_neg]
            intro z
            obtain ⟨e, he, hek⟩ := (paired_any (fun a b (h : a.1 = b.1 ∧ _) => h.1) hL.all).mp z
            exact hne e he hek
          have tk3 : Tk H H3 := (gr.tk.trans tkd).trans gr3.tk
          have nl : ∀ e ∈ kvs, e.2.2 ≠ l := fun e he z => by
            obtain ⟨g, _, _, xs, hx, _⟩ := paired_mem hL.all he
            have := gr1.lst hx fun z => z
            rw [z, hl] at this
            cases this
          have nd : ∀ e ∈ kvs, e.2.2 ≠ d := fun e he z => by
            obtain ⟨g, _, _, xs, hx, _⟩ := paired_mem hL.all he
            rw [z, hD.at_] at hx
            cases hx
          refine fin (.inr trivial) p3.st tk3 k3 hx3 hl0 (hD'.grow gr3) ?_ ?_
          · rw [ha]
            have tk4 : Tk H3 (upd H3 l (.lst ([] ++ [y]))) := Tk.upd hx3
            have hLd : LsOk K (upd (upd H1 l (.lst [])) d (DO d o')) kvs g0 := hL2.chg tkd fun e he => upd_ne (nd e he)
            have hL4 : LsOk K (upd H3 l (.lst ([] ++ [y]))) kvs g0 := (hLd.grow gr3).chg tk4 fun e he => upd_ne (nl e he)
            refine ⟨?_, paired_snoc hL4.all ⟨rfl, _, upd_same, ImAll.single (k3.tk tk4)⟩⟩
            rw [List.map_append, List.nodup_append]
            refine ⟨hL.nd, by simp, fun a ha b hb => ?_⟩
            obtain ⟨e, he, rfl⟩ := List.mem_map.mp ha
            simp only [List.map_cons, List.map_nil, List.mem_singleton] at hb
            rw [hb]
            exact nl e he
          · intro e he
            rcases List.mem_append.mp he with he | he
            · exact h0 e he
            · rw [List.mem_singleton.mp he]; exact hl0
      · cases hstep
    · cases hstep
  · cases hstep

theorem StOk.setEm (hs : StOk K H0 IO Γ σ H) (fl : FlatG Γ) {i : Nat} (hi : Γ[i]? = some .em) (x : Option V) : StOk K H0 IO Γ (σ.set i x) H where
  len := by rw [List.length_set]; exact hs.len
  ok := fun j s y e e2 => by
    by_cases z : i = j
    · subst z
      rw [hi] at e
      cases e
      trivial
    · rw [List.getElem?_set_ne z] at e2
      exact hs.ok j s y e e2
  uniq := fun a b s t p h1 h2 => by
    rcases fl s (List.mem_of_getElem? h1) with rfl | ⟨d, rfl⟩ <;> simp [muS] at h2
  bosep := fun a ds p h1 => by
    rcases fl _ (List.mem_of_getElem? h1) with z | ⟨d, z⟩ <;> cases z
  fresh := fun a ds p h1 => by
    rcases fl _ (List.mem_of_getElem? h1) with z | ⟨d, z⟩ <;> cases z
  ioA := fun j p h => by
    obtain ⟨_, ds, h1⟩ := hs.ioA j p h
    rcases fl _ (List.mem_of_getElem? h1) with z | ⟨d, z⟩ <;> cases z
  ioB := fun j ds p h1 => by
    rcases fl _ (List.mem_of_getElem? h1) with z | ⟨d, z⟩ <;> cases z
  ioL := hs.ioL
  frm := hs.frm
abbrev tElt (K : PySem.W.Frag) (P : Program) (w : World) : TE := tTupN (tCons (tVar 4) (tCons (tVar 5) (tCons (tCB (rTupOf K) (tCons (tOp (rIxX K P w) (tVar 2) (tTupN (tCons (tVar 4) (tCons (tVar 5) tNil)))) tNil)) tNil)))
abbrev tEnd (K : PySem.W.Frag) (P : Program) (w : World) : TS := tRet (tCB (rTupOf K) (tCons (tLc (iKeysX K P w (tVar 2)) (gTup K 2 (gCons (gName 4) (gCons (gName 5) gNil))) tYes (tElt K P w) [4, 5]) tNil))
abbrev tBlocks (K : PySem.W.Frag) (P : Program) (w : World) (tp tx : TE) : TS := tSeq (tAsg (tDNewX K P w) (gName 2)) (tSeq (tFor (iSeq K (tVar 1)) (gName 3) (tBody K P w tp tx)) (tEnd K P w))
/-- what the comprehension keeps -/
structure CI (K : PySem.W.Frag) (P : Program) (w : World) (H0 : Hp) (IO : Ctl) (sch : PyData) (store : List PyData) (s3 : Slot) (σw : L2.St) (d : Addr) (o : Obj) (kvs : List Ent) (gs : List Grp) (bs : List PyData) (Dl : Addr) (i : Nat) (H : Hp) : Prop where
  st : StOk K H0 IO (G6 sch store .em s3 .em .em) σw H
  dk : DKo K P w H d o kvs
  ls : LsOk K H kvs gs
  ne : ∀ e ∈ kvs, e.2.2 ≠ Dl
  acc : ∃ xs, H Dl = some (.lst xs) ∧ ImAll K H xs (bs.take i)
theorem end_ok {sch : PyData} {store : List PyData} {d : Addr} {s3 : Slot} (h3 : s3 = .em ∨ ∃ x, s3 = .im x) {o : Obj} {kvs : List Ent} {gs : List Grp} {bs : List PyData} (hb : blksD gs = some bs) (hl : gs.length ≤ 100000)
    (st : StOk K H0 IO (G6 sch store .em s3 .em .em) σ H) (rows : σ[2]? = some (some (.ref d))) (hD : DKo K P w H d o kvs) (hL : LsOk K H kvs gs) {Dn : Ends}
    (hQ : ∀ x H', Frm (IOp IO) H0 H' → Im K H' x (.tuple bs) → Dn.rt x H') : tEnd K P w Dn σ H := by
  have fl : FlatG (G6 sch store .em s3 .em .em) := flat6 h3 (.inl rfl) (.inl rfl)
  have hlen : kvs.length = gs.length := Paired.length hL.all
  show tLc (iKeysX K P w (tVar 2)) _ tYes (tElt K P w) [4, 5] σ H fun x H1 => rTupOf K [x] H1 Dn.rt
  refine ⟨.ref d, rows, d, o, kvs, rfl, hD, fun Dl hDl => ?_⟩
  have stw : StOk K H0 IO (G6 sch store .em s3 .em .em) (wipe σ [4, 5]) H := clr_ok st (by rcases h3 with rfl | ⟨x, rfl⟩ <;> rfl)
  have h0D : H0 Dl = none := st.frm.dom hDl
  have nIO : ¬ IOp IO Dl := fun m => by
    obtain ⟨ys, z⟩ := st.ioL.1 Dl m
    rw [h0D] at z; cases z
  refine lc_it walk_keysX (CI K P w H0 IO sch store s3 (wipe σ [4, 5]) d o kvs gs bs Dl) ?_ (fun i Hi _ q => q.dk.at_) (fun i x Hj Hi hin q hy => ?_) fun Hi q => ?_
  · have g : Grow H (upd H Dl (.lst [])) := Grow.new hDl
    refine ⟨stw.grow g, hD.grow g, hL.grow g, fun e he z => ?_, [], upd_same, .nil⟩
    obtain ⟨gr, _, _, xs, hx, _⟩ := paired_mem hL.all he
    rw [z, hDl] at hx
    cases hx
  · obtain ⟨rfl, e, he, rfl⟩ := hy
    have hem : e ∈ kvs := List.mem_of_getElem? he
    obtain ⟨xs, hx, hxi⟩ := q.acc
    obtain ⟨g, hg, hge, rs, hrs, hri⟩ := paired_get1 q.ls.all he
    obtain ⟨b, hbi, hbd⟩ := blksD_get hb hg
    obtain ⟨ka, kb, hk, hbb⟩ : ∃ ka kb, g.1 = .tup [ka, kb] ∧ b = .tuple [ka.data, kb.data, .tuple g.2] := by
      obtain ⟨gk, gr⟩ := g
      cases gk with
      | tup ks =>
        match ks, hbd with
        | [ka, kb], hbd => cases hbd; exact ⟨ka, kb, rfl, rfl⟩
        | [], hbd => cases hbd
        | [_], hbd => cases hbd
        | _ :: _ :: _ :: _, hbd => cases hbd
      | none => cases hbd
      | num _ => cases hbd
      | text _ => cases hbd
    subst hbb
    have hed : e.1.data = .tuple [ka.data, kb.data] := by rw [hge, hk]; rfl
    have ime := (q.dk.ks e hem).1
    rw [hed] at ime
    have eg : gtTup 2 (gtCons (gtName 4) (gtCons (gtName 5) gtNil)) (.tuple [ka.data, kb.data]) (G6 sch store .em s3 .em .em) = some (G6 sch store .em s3 (.im ka.data) (.im kb.data)) := rfl
    refine (rg_tup (K := K) (n := 2) (rgs_cons (rg_name 4) (rgs_cons (rg_name 5) rgs_nil))).run H0 IO _ (wipe σ [4, 5]) Hi _ _ _ _ q.st ime eg fun σ2 p2 hl2 hs2 => ?_
    refine ⟨wipe_eq (hl2.trans (wipe_length _ _)) fun j hj => (hs2 j hj).trans (wipe_out hj), ?_⟩
    have yes : ∀ {Q : Bool → Hp → Prop}, Q true Hi → tYes σ2 Hi Q := fun h => h
    refine yes ?_
    rw [if_pos rfl]
    obtain ⟨v4, e4, i4⟩ := p2.st.slotIm (i := 4) rfl
    obtain ⟨v5, e5, i5⟩ := p2.st.slotIm (i := 5) rfl
    have e2 : σ2[2]? = some (some (.ref d)) := by
      rw [hs2 2 (by decide), wipe_out (by decide)]
      exact rows
    refine ⟨v4, e4, v5, e5, .ref d, e2, v4, e4, v5, e5, by rw [sizeLine_eq]; exact (by decide : 2 ≤ 16777216), fun qa oa hqa hda => ?_⟩
    have g1 : Grow Hi (upd Hi qa (.frz oa (.tup [v4, v5]))) := Grow.new hqa
    have imq : Im K (upd Hi qa (.frz oa (.tup [v4, v5]))) (.ref qa) e.1.data := by
      rw [hed]
      exact im_tup (nt_new hda) (.cons (i4.tk g1.tk) (.cons (i5.tk g1.tk) .nil))
    refine ⟨d, o, kvs, e, qa, rfl, rfl, q.dk.grow g1, imq, hem, ?_⟩
    have hrs1 := g1.lst hrs fun z => z
    refine ⟨e.2.2, rs, rfl, .inl ⟨.inl (.inl hrs1), fun l ol hl hdl => ?_⟩⟩
    have g2 : Grow (upd Hi qa (.frz oa (.tup [v4, v5]))) (upd (upd Hi qa (.frz oa (.tup [v4, v5]))) l (.frz ol (.tup rs))) := Grow.new hl
    refine ⟨by rw [sizeLine_eq]; exact (by decide : 3 ≤ 16777216), fun p op hp hdp => ?_⟩
    have g3 : Grow (upd (upd Hi qa (.frz oa (.tup [v4, v5]))) l (.frz ol (.tup rs))) (upd (upd (upd Hi qa (.frz oa (.tup [v4, v5]))) l (.frz ol (.tup rs))) p (.frz op (.tup [v4, v5, .ref l]))) := Grow.new hp
    have gg := grow_trans (grow_trans g1 g2) g3
    have t3 := g3.tk
    have t2 := g2.tk
    have t1 := g1.tk
    have iml : Im K (upd (upd Hi qa (.frz oa (.tup [v4, v5]))) l (.frz ol (.tup rs))) (.ref l) (.tuple g.2) := im_tup (nt_new hdl) ((hri.tk t1).tk t2)
    have imp : Im K (upd (upd (upd Hi qa (.frz oa (.tup [v4, v5]))) l (.frz ol (.tup rs))) p (.frz op (.tup [v4, v5, .ref l]))) (.ref p) (.tuple [ka.data, kb.data, .tuple g.2]) :=
      im_tup (nt_new hdp) (.cons (i4.tk (gg.tk)) (.cons (i5.tk gg.tk) (.cons (iml.tk t3) .nil)))
    have hx4 := gg.lst hx fun z => z
    have hxl : xs.length = i := by
      rw [hxi.length, List.length_take, blksD_len hb]
      omega
    refine ⟨xs, hx4, by rw [hxl, sizeLine_eq]; omega, ?_⟩
    have t4 : Tk (upd (upd (upd Hi qa (.frz oa (.tup [v4, v5]))) l (.frz ol (.tup rs))) p (.frz op (.tup [v4, v5, .ref l]))) (upd (upd (upd (upd Hi qa (.frz oa (.tup [v4, v5]))) l (.frz ol (.tup rs))) p (.frz op (.tup [v4, v5, .ref l]))) Dl (.lst (xs ++ [.ref p]))) := Tk.upd hx4
    have st4 := q.st.grow gg
    refine ⟨st4.chg fl t4 (Frm.put_new st4.frm h0D nIO), (q.dk.grow gg).put hx4, (q.ls.grow gg).chg t4 fun e' he' => upd_ne (q.ne e' he'), q.ne, _, upd_same, ?_⟩
    rw [List.take_add_one, hbi]
    exact ((hxi.tk gg.tk).tk t4).append (ImAll.single (imp.tk t4))
  · obtain ⟨xs, hx, hxi⟩ := q.acc
    refine ⟨Dl, xs, rfl, .inl ⟨.inl (.inl hx), fun l ol hl hdl => ?_⟩⟩
    have g : Grow Hi (upd Hi l (.frz ol (.tup xs))) := Grow.new hl
    rw [List.take_of_length_le (by rw [blksD_len hb]; omega)] at hxi
    exact hQ _ _ (q.st.frm.grow g) (im_tup (nt_new hdl) (hxi.tk g.tk))
theorem blocks_t {D : FD} {tp tx : TE} {XR : XRT} {N : List Str} (hN : N.length = 6) (htp : RefT K WF tp (eCall [false, false] D (aCons (eVar 0) (aCons (eVar 3) aNil)))) (htx : RefT K WF tx (eOp2 ixD (eVar 3) (eC (.int 1))))
    {vs : List V} {Q : VK} {E : XK} (h : spD K XR 2 (D_blocks D) vs H Q E) : tBlocks K P w tp tx { nx := fun _ H' => Q .non H', rt := Q } (L2.start N vs) H := by
  obtain ⟨as, r, outs, hl, hF, hA, hT, hQ⟩ := h
  unfold D_blocks at hF
  split at hF
  · rename_i sch store
    split at hF
    · rename_i gs hg
      split at hF
      · rename_i bs hb
        split at hF
        · rename_i hlen
          cases hF
          have st0 : StOk K H ⟨ioAt vs [.v sch, .v (.tuple store)]⟩ (initG N.length [.v sch, .v (.tuple store)]) (L2.start N vs) H := init_ok (by omega) hA hT
          have eG : initG N.length [.v sch, .v (.tuple store)] = G6 sch store .em .em .em .em := by rw [hN]; rfl
          rw [eG] at st0
          have fl0 : FlatG (G6 sch store .em .em .em .em) := flat6 (.inl rfl) (.inl rfl) (.inl rfl)
          have hM : IOp ⟨ioAt vs [.v sch, .v (.tuple store)]⟩ = fun _ => False := by
            funext p
            apply propext
            constructor
            · rintro ⟨j, _, es, e⟩
              match j, e with
              | 0, e => simp at e
              | 1, e => simp at e
              | j + 2, e => simp at e
            · exact fun z => z.elim
          have hsi : imm sch = true := by
            obtain ⟨v, _, k⟩ := st0.slotIm (i := 0) rfl
            exact k.1
          show ∀ p o, H p = none → _ → _
          intro p o hp hDp
          have tk1 : Tk H (upd H p (DO p o)) := (Grow.new hp).tk
          have st1 : StOk K H ⟨ioAt vs [.v sch, .v (.tuple store)]⟩ (G6 sch store .em .em .em .em) ((L2.start N vs).set 2 (some (.ref p))) (upd H p (DO p o)) := (st0.grow (Grow.new hp)).setEm fl0 rfl _
          have rows1 : ((L2.start N vs).set 2 (some (V.ref p)))[2]? = some (some (.ref p)) := by
            have : 2 < (L2.start N vs).length := by rw [← st0.len]; exact (by decide : 2 < 6)
            rw [List.getElem?_set_self this]
          obtain ⟨v1, e1, i1⟩ := st1.slotIm (i := 1) rfl
          obtain ⟨a, xs, rfl, hs, hi⟩ := im_tuple i1
          have hlx : xs.length = store.length := hi.length
          refine ⟨.ref a, e1, .inr (.inl ⟨a, rfl, ⟨xs, hs⟩, ?_⟩)⟩
          refine for_it (walk_tup (a := a) (xs := xs)) (BI K P w H ⟨ioAt vs [.v sch, .v (.tuple store)]⟩ D sch store a p xs) ⟨⟨.em, .inl rfl, st1⟩, rows1, ⟨[], o, [], rfl, hDp, ⟨by simp, .nil⟩, by simp⟩, hp, hs, hi⟩ (fun i σ' H' _ q => q.tp) (fun i x σ' H1 H2 hin q hy => ?_) fun σ' H' q => ?_
          · obtain ⟨rfl, hx⟩ := hy
            obtain ⟨fd, hfd, ifd⟩ := q.im.getV hx
            obtain ⟨s3, h3, st⟩ := q.st
            have eg : gtName 3 fd (G6 sch store .em s3 .em .em) = some (G6 sch store .em (.im fd) .em .em) := by
              rcases h3 with rfl | ⟨x, rfl⟩ <;> rfl
            refine (rg_name (K := K) 3).run H _ _ σ' H2 fd x _ _ st ifd eg fun σ2 p2 hl2 hs2 => ?_
            exact body_step htp htx hg hfd hsi rfl p2.st (by rw [hs2 2 (by decide)]; exact q.rows) q.grp q.d0 q.tp q.im
          · obtain ⟨s3, h3, st⟩ := q.st
            obtain ⟨gs', o', kvs, e', hD', hL', _⟩ := q.grp
            rw [List.take_of_length_le (by omega), hg] at e'
            cases e'
            refine end_ok h3 hb hlen st q.rows hD' hL' fun x H3 fr im => ?_
            rw [hM] at fr
            refine hQ H3 ?_ ?_ x im
            · have : (fun p => p ∈ iosOf vs [Ar.v sch, .v (.tuple store)]) = fun _ => False := by
                funext b
                apply propext
                constructor
                · intro m
                  obtain ⟨j, m'⟩ := iosOf_mem m
                  have : IOp ⟨ioAt vs [.v sch, .v (.tuple store)]⟩ b := ⟨j, m'⟩
                  rw [hM] at this
                  exact this
                · exact fun z => z.elim
              rw [this]
              exact fr
            · have : iosOf vs [Ar.v sch, .v (.tuple store)] = [] := by
                cases hz : iosOf vs [Ar.v sch, .v (.tuple store)] with
                | nil => rfl
                | cons b l =>
                  obtain ⟨j, m'⟩ := iosOf_mem (vs := vs) (as := [Ar.v sch, .v (.tuple store)]) (p := b) (by rw [hz]; simp)
                  have : IOp ⟨ioAt vs [.v sch, .v (.tuple store)]⟩ b := ⟨j, m'⟩
                  rw [hM] at this
                  exact this.elim
              rw [this]
              exact .nil
        · cases hF
      · cases hF
    · cases hF
  · cases hF
end
end Vf
end

section
set_option Elab.async false
set_option linter.all false
set_option maxRecDepth 100000
/-! zip of two tuples, its pairs with no dict. -/
namespace Vf
open PySem PySem.Spec PyProof.Rows L2
section
def ItzN (K : PySem.W.Frag) (a b : Addr) : It := ⟨(RZ.ItzT K a b).go, fun i H v H' => ∃ T ob x y, v = V.ref T ∧ H T = none ∧ ob.dict = none ∧ H' = upd H T (.frz ob (.tup [x, y])) ∧ (∀ xs : List V, SqT K H a xs → xs[i]? = some x) ∧ ∀ ys : List V, SqT K H b ys → ys[i]? = some y, (RZ.ItzT K a b).stop⟩
theorem turn_zipN {P : Program} {w : World} {K : PySem.W.Frag} {elts : List Expr} {kk : Nat} {tpos : Pos} {a b z TI TO i1 i2 : Addr} (D : ZipApart z TI TO i1 i2 a b) :
    Turn P w K (.Tuple elts kk tpos) (ItzN K a b) [z, TI, TO, i1, i2] z fun i h => IsZip h z TI TO Value.none ∧ IsPair h TI (Value.ref i1) (Value.ref i2) ∧ (∃ x y, IsPair h TO x y) ∧ h.IsTupleIter i1 a i ∧ h.IsTupleIter i2 b i :=
  have T0 := RZ.turn_zipT (P := P) (w := w) (K := K) (elts := elts) (kk := kk) (tpos := tpos) D
  { mem := T0.mem
    obj := T0.obj
    keep := T0.keep
    done := T0.done
    self := T0.self
    item := fun X hP hw hK hc i pins s σ H E I hf st hg => by
      subst hP
      subst hw
      subst hK
      obtain ⟨hz, hTI, ⟨x0, y0, hTO⟩, h1, h2⟩ := st
      obtain ⟨xs, ys, x, y, hqx, hqy, hx, hy⟩ := hg
      obtain ⟨its, rv, p, _⟩ := Inv.tuple I hqx
      obtain ⟨its2, rv2, p2, _⟩ := Inv.tuple I hqy
      obtain ⟨u, hu, ru⟩ := Vals.get rv hx
      obtain ⟨u2, hu2, ru2⟩ := Vals.get rv2 hy
      have hzl := Heap.lt_size hz
      refine RZ.pyNext_zipT_item D hz hTI hTO h1 h2 p p2 (by simpa using hu) (by simpa using hu2) fun h' z' TO' h1' h2' hT hsz hk => ⟨Value.ref s.heap.objs.size, rfl, wpAny_letOwnedTupleGo_zip z' fun h'' z'' sb => ?_⟩
      have hT2 := Eq.trans (sb.right s.heap.objs.size (Nat.ne_of_gt hzl)) hT
      have new : ObjOk X.prog X.w (upd H s.heap.objs.size (.frz { cls := Value.type "tuple", data := Data.seq #[u, u2] } (.tup [x, y]))) h'' s.heap.objs.size (.frz { cls := Value.type "tuple", data := Data.seq #[u, u2] } (.tup [x, y])) :=
        ⟨hT2, by show 2 ≤ sizeLine; rw [sizeLine_eq]; decide, [u, u2], .cons ru (.cons ru2 .nil), _, hT2, rfl, 0, rfl⟩
      have hch : ∀ c : Addr, c ∉ [z, TI, TO, i1, i2] → c ≠ z ∧ c ≠ TO ∧ c ≠ i1 ∧ c ≠ i2 := fun c hc => by
        simp only [List.mem_cons, List.not_mem_nil, or_false, not_or] at hc
        exact ⟨hc.1, hc.2.2.1, hc.2.2.2.1, hc.2.2.2.2⟩
      have I1 := Inv.turnedNew (t' := s.toks) I (fun c o hb q => Eq.trans (sb.right c (hch c hb).1) (hk c o (hch c hb).1 (hch c hb).2.1 (hch c hb).2.2.1 (hch c hb).2.2.2 q)) hf (Nat.le_refl s.heap.objs.size) new
      refine ⟨V.ref s.heap.objs.size, _, I1, rfl, ⟨s.heap.objs.size, _, x, y, rfl, HOk.fresh I.hok (Nat.le_refl s.heap.objs.size), rfl, rfl, fun l hl => ?_, fun l hl => ?_⟩, ⟨z'', Eq.trans (sb.right TI D.TIz) (hk TI _ D.TIz D.TITO D.TIi1 D.TIi2 hTI), ⟨u, u2, Eq.trans (sb.right TO D.TOz) TO'⟩, Heap.IsTupleIter.at h1' fun o q => Eq.trans (sb.right i1 D.i1z) q, Heap.IsTupleIter.at h2' fun o q => Eq.trans (sb.right i2 D.i2z) q⟩, fun c hcm => ?_⟩
      · rw [Inv.tuple_inj I hl hqx]; exact hx
      · rw [Inv.tuple_inj I hl hqy]; exact hy
      · have hlt : c < s.heap.objs.size := by
          simp only [List.mem_cons, List.not_mem_nil, or_false] at hcm
          rcases hcm with rfl | rfl | rfl | rfl | rfl
          · exact hzl
          · exact Heap.lt_size hTI
          · exact Heap.lt_size hTO
          · obtain ⟨w, e1, _⟩ := h1
            exact Heap.lt_size e1
          · obtain ⟨w, e2, _⟩ := h2
            exact Heap.lt_size e2
        rw [upd_ne (Nat.ne_of_lt hlt)]
        exact (hf c hcm).left }
def iZipN (K : PySem.W.Frag) (ta : TA) : TI := fun σ H R => ta σ H fun vs H1 => ∃ a b xs ys, vs = [V.ref a, V.ref b] ∧ SqT K H1 a xs ∧ SqT K H1 b ys ∧ R (ItzN K a b) H1
/-- the library's zip, its turn changed -/
theorem pi_zipN {X : Cx} {e e2 : Expr} {ta : TA} {p pos tpos : Pos} {elts : List Expr} {kk : Nat} (hg : Gl X "zip") (hm : X.mg "zip" = none) (ha : PA X [e, e2] ta)
    (hs : starEach [e, e2] X.env = (false, eval e X.env) :: starEach [e2] X.env := by rfl) (hpl : ((backTo pos (starEach [e2] X.env)).any fun x => x.1) = false := by rfl) :
    PI X (.Tuple elts kk tpos) (.Call (.Name "zip" p) [e, e2] [] pos) (iZipN X.K ta) := ⟨fun pins s σ H R I h => by
  refine Call_ (ld_blt I hg hm boot_zip (PyProof.Rows.callWith_type1 (thn (ha.run pos pins s σ H _ I h) fun us s1 hh => ?_) hs hpl) (by decide) (by decide))
  obtain ⟨vs, H1, I1, r1, a, b, xs, ys, rfl, hqx, hqy, q⟩ := hh
  obtain ⟨u, u', rfl, rx, ry⟩ := L2.vals2 r1
  cases rx
  cases ry
  obtain ⟨its, rv, p1, _⟩ := Inv.tuple I1 hqx
  obtain ⟨its2, rv2, p2, _⟩ := Inv.tuple I1 hqy
  obtain ⟨o1, ho1, _⟩ := id p1
  obtain ⟨o2, ho2, _⟩ := id p2
  have fresh5 : ∀ c : Addr, c ∈ [s1.heap.objs.size + 4, s1.heap.objs.size + 2, s1.heap.objs.size + 3, s1.heap.objs.size, s1.heap.objs.size + 1] → FpOk X pins H1 c := fun c hcm => by
    have hle : s1.heap.objs.size ≤ c := by
      simp only [List.mem_cons, List.not_mem_nil, or_false] at hcm
      rcases hcm with rfl | rfl | rfl | rfl | rfl
      · exact Nat.le_add_right _ _
      · exact Nat.le_add_right _ _
      · exact Nat.le_add_right _ _
      · exact Nat.le_refl _
      · exact Nat.le_add_right _ _
    exact Inv.fpOk I1 hle (HOk.fresh I1.hok hle)
  refine RZ.call_zipT p1 p2 fun h' hz hTI hTO h1 h2 hsz hk => wpAny_pyIter_zip hz ?_
  exact ⟨s1.heap.objs.size + 4, [s1.heap.objs.size + 4, s1.heap.objs.size + 2, s1.heap.objs.size + 3, s1.heap.objs.size, s1.heap.objs.size + 1], _, ItzN X.K a b, H1, rfl, Inv.kept (t' := s1.toks) I1 hk, turn_zipN (W.ktu_apart s1.heap.objs.size a b (Heap.lt_size ho1) (Heap.lt_size ho2)), ⟨hz, hTI, ⟨_, _, hTO⟩, h1, h2⟩, fresh5, q⟩⟩
end
end Vf
end

section
set_option Elab.async false
set_option linter.all false
set_option maxRecDepth 100000
/-! all(list), zip of two tuples, divmod, xs[::-1]. -/
namespace Vf
open PySem PySem.Spec PyProof.Rows L2
variable [Tabs]
section
variable {K : PySem.W.Frag} {H0 H H' : Hp} {IO : Ctl} {Γ : Gm} {σ : L2.St} {W : Ex → L2.St → Hp → Prop} {ta te : TE} {fa fe : M Val} {tA : TA} {fA : M (List Val)}
/-! ### all -/
def boolsOf : List PyData → Option (List Bool)
  | [] => some []
  | .bool b :: r => match boolsOf r with
    | some bs => some (b :: bs)
    | none => none
  | _ :: _ => none
theorem boolsOf_map : ∀ bs : List Bool, boolsOf (bs.map PyData.bool) = some bs
  | [] => rfl
  | b :: bs => by simp only [List.map_cons, boolsOf, boolsOf_map bs]
theorem boolsOf_ok : ∀ {ds : List PyData} {bs : List Bool}, boolsOf ds = some bs → ds = bs.map PyData.bool
  | [], _, h => by cases h; rfl
  | d :: ds, bs, h => by
    cases d with
    | bool b =>
      simp only [boolsOf] at h
      split at h
      · rename_i bs' e
        cases h
        rw [boolsOf_ok e]
        rfl
      · cases h
    | _ => cases h
theorem im_bools : ∀ {bs : List Bool} {vs : List V}, ImAll K H vs (bs.map PyData.bool) → vs = bs.map V.bl
  | [], vs, k => by
    obtain ⟨_, b⟩ := k; cases b; rfl
  | b :: bs, vs, k => by
    cases vs with
    | nil => have := k.length; simp at this
    | cons v vs =>
      rw [List.map_cons] at k
      obtain ⟨h1, h2⟩ := k.uncons
      rw [im_bools h2]
      obtain ⟨_, h1⟩ := h1
      cases h1
      rfl
def allD : List PyData → Option PyData
  | [.list ds] => match boolsOf ds with
    | some bs => some (.bool (bs.all id))
    | none => none
  | _ => none
theorem cs_all : CallSem K (rAll K) allD := by
  intro H xs ds z hx h Q hQ
  match ds, h with
  | [.list es], h =>
    obtain ⟨x, rfl, p, vs, rfl, a, b⟩ := rp1 hx
    simp only [allD] at h
    split at h
    · rename_i bs e
      cases h
      have := boolsOf_ok e
      subst this
      have := im_bools b
      subst this
      exact ⟨p, bs, rfl, .inl a, hQ _ H .refl ⟨rfl, .bl _⟩⟩
    · cases h
theorem allD_b {bs : List Bool} : allD [.list (bs.map PyData.bool)] = some (.bool (bs.all id)) := by
  simp only [allD, boolsOf_map]

/-! ### divmod -/
def divmodD : List PyData → Option PyData
  | [.int i, .int j] => if 0 < j ∧ j < 1073741824 then some (.tuple [.int (i / j), .int (i % j)]) else none
  | _ => none
abbrev rDivmod : List V → Hp → VK → Prop := rDivmodN
theorem cr_divmod {X : Cx} : CallR X (.builtin "divmod") rDivmod := call_divmodN
theorem cs_divmod : CallSem K rDivmod divmodD := by
  intro H xs ds z hx h Q hQ
  match ds, h with
  | [.int i, .int j], h =>
    cases hx with
    | cons h1 hr =>
      cases hr with
      | cons h2 hr2 =>
        cases hr2
        simp only [divmodD] at h
        split at h
        · rename_i hc
          cases h
          refine ⟨i, j, by rw [im_int h1, im_int h2], hc, fun p ob hp hd => ?_⟩
          exact hQ _ _ (Grow.new hp) (im_tup (nt_new hd) (.cons ⟨rfl, .int _⟩ (.cons ⟨rfl, .int _⟩ .nil)))
        · cases h
theorem divmodD_ok {i j : Int} (h : 0 < j ∧ j < 1073741824) : divmodD [.int i, .int j] = some (.tuple [.int (i / j), .int (i % j)]) := by
  simp only [divmodD, if_pos h]

/-! ### zip of two tuples -/
def zipD (xs ys : List PyData) : List PyData := (xs.zip ys).map fun p => .tuple [p.1, p.2]
def eZip (fA : M (List Val)) : M Its1 := bnd fA fun vs => fun Γ => match vs with
  | [.im (.tuple xs), .im (.tuple ys)] => some (Γ, .ok (zipD xs ys, none))
  | _ => none
def YPairN : (Nat → Option V) → (Nat → Option V) → Nat → Hp → V → Hp → Prop := fun xs ys i H v H' => ∃ T ob x y, v = V.ref T ∧ H T = none ∧ ob.dict = none ∧ H' = upd H T (.frz ob (.tup [x, y])) ∧ xs i = some x ∧ ys i = some y
theorem walk_zipT {a b : Addr} {xs ys : List V} {n : Nat} (hn : n = min xs.length ys.length) : Walk (ItzN K a b) n (fun H => SqT K H a xs ∧ SqT K H b ys) (YPairN (fun i => xs[i]?) (fun i => ys[i]?)) := by
  subst hn
  refine ⟨fun i _ hi q => ?_, fun _ q => ⟨xs, ys, q.1, q.2, by omega⟩, fun i H v H' _ q y => ?_⟩
  · have h1 : i < xs.length := by omega
    have h2 : i < ys.length := by omega
    exact ⟨xs, ys, xs[i], ys[i], q.1, q.2, by simp [h1], by simp [h2]⟩
  · obtain ⟨T, ob, x, z, h1, h2, hd, h3, h4, h5⟩ := y
    exact ⟨T, ob, x, z, h1, h2, hd, h3, h4 xs q.1, h5 ys q.2⟩
theorem ri_zip (ha : RefA K W tA fA) : RefI K W (iZipN K tA) (eZip fA) := ⟨fun H0 IO Γ σ H Γ' r R hs e hx hR => by
  refine ha.then hs e (fun x H' z p => hx x z H' p) fun Γ1 vs xs H1 e1 p1 k1 => ?_
  try dsimp only at e1
  split at e1
  · rename_i es gs
    cases e1
    cases k1 with
    | cons k kr =>
      cases kr with
      | cons k2 kr2 =>
        cases kr2
        obtain ⟨a, xs, rfl, sa, ia⟩ := im_tuple k
        obtain ⟨b, ys, rfl, sb, ib⟩ := im_tuple k2
        refine ⟨a, b, xs, ys, rfl, sa, sb, hR _ _ rfl _ _ p1 ?_⟩
        intro Γb hb
        cases hb
        have lx := ia.length
        have ly := ib.length
        refine ⟨_, _, _, walk_zipT (K := K) (a := a) (b := b) (xs := xs) (ys := ys) rfl, ?_, fun H2 f => ?_, fun i H2 x H3 hi f hy => ?_⟩
        · unfold zipD
          rw [List.length_map, List.length_zip, lx, ly]
        · have t := f.tk p1.st.lsts
          exact ⟨sa.imp (t.rd a xs) id, sb.imp (t.rd b ys) id⟩
        · obtain ⟨T, ob, x1, y1, rfl, hT, hd, rfl, hx1, hy1⟩ := hy
          have t := f.tk p1.st.lsts
          have g : Grow H2 (upd H2 T (.frz ob (.tup [x1, y1]))) := Grow.new hT
          obtain ⟨d1, e1, i1⟩ := ia.getV hx1
          obtain ⟨d2, e2, i2⟩ := ib.getV hy1
          refine ⟨g, .tuple [d1, d2], ?_, im_tup (nt_new hd) (.cons ((i1.tk t).tk g.tk) (.cons ((i2.tk t).tk g.tk) .nil))⟩
          unfold zipD
          rw [List.getElem?_map]
          have : (es.zip gs)[i]? = some (d1, d2) := List.getElem?_zip_eq_some.mpr ⟨e1, e2⟩
          rw [this]
          rfl
  · cases e1⟩
def zp (vs : List Val) (Q : List PyData → List PyData → Prop) : Prop := match vs with
  | [.im (.tuple xs), .im (.tuple ys)] => Q xs ys
  | _ => False
theorem zp_t {xs ys : List PyData} {Q : List PyData → List PyData → Prop} : zp [.im (.tuple xs), .im (.tuple ys)] Q = Q xs ys := rfl
theorem wp_zip {P : Its1 → Gm → Prop} : wpE (eZip fA) Γ P = wpE fA Γ fun vs Γ1 => zp vs fun xs ys => P (zipD xs ys, none) Γ1 := by
  unfold eZip
  rw [wp_bnd]
  congr 1
  funext vs Γ1
  show wpR (match vs with
    | [.im (.tuple xs), .im (.tuple ys)] => some (Γ1, Except.ok (zipD xs ys, (none : Option Nat)))
    | _ => none) P = zp vs _
  match vs with
  | [.im (.tuple xs), .im (.tuple ys)] => rfl
  | [] => rfl
  | [.im d] => cases d <;> rfl
  | [.nw _] => rfl
  | [.sl _] => rfl
  | .nw _ :: _ :: _ => rfl
  | .sl _ :: _ :: _ => rfl
  | .im d :: .nw _ :: _ => cases d <;> rfl
  | .im d :: .sl _ :: _ => cases d <;> rfl
  | .im d :: .im e :: r => cases d <;> cases e <;> cases r <;> rfl
theorem zipD_get {xs ys : List PyData} {i : Nat} {d : PyData} (h : (zipD xs ys)[i]? = some d) : ∃ x y, xs[i]? = some x ∧ ys[i]? = some y ∧ d = .tuple [x, y] := by
  unfold zipD at h
  rw [List.getElem?_map] at h
  cases e : (xs.zip ys)[i]? with
  | none => rw [e] at h; cases h
  | some p =>
    rw [e] at h
    cases h
    obtain ⟨a, b⟩ := List.getElem?_zip_eq_some.mp e
    exact ⟨p.1, p.2, a, b, rfl⟩
theorem zipD_len {xs ys : List PyData} : (zipD xs ys).length = min xs.length ys.length := by
  unfold zipD
  rw [List.length_map, List.length_zip]

end
end Vf
end

section
set_option Elab.async false
set_option linter.all false
set_option maxRecDepth 100000
/-! xs[::-1] of a tuple. -/
namespace Vf
open PySem PySem.Spec PyProof.Rows L2
section
def tRevA (K : PySem.W.Frag) (te : TE) : TE := fun σ H Q => te σ H fun x H1 => ∃ a xs, x = .ref a ∧ ((SqL K H1 a xs ∧ ∀ p, H1 p = none → Q (.ref p) (upd H1 p (.lst xs.reverse))) ∨ (SqT K H1 a xs ∧ NewT H1 xs.reverse Q))
theorem pe_revA {X : Cx} {e : Expr} {te : TE} {k : Nat} {p1 p2 p3 pos : Pos} (he : PE X e te) : PE X (.Subscript e (.Slice none none (some (.UnaryOp .USub (.Constant (.int 1) k p1) p2)) p3) pos) (tRevA X.K te) := ⟨fun pins s σ H Q I h => by
  refine Subscript_ (thn (he.run pins s σ H _ I h) fun v s1 hh => ?_)
  obtain ⟨x, H1, I1, r1, a, xs, ex, q⟩ := hh
  subst ex
  cases r1
  have hst := po_some (pe_un (X := X) (pos := p2) un_neg (pe_int (X := X) (i := 1) (j := k) (pos := p1)))
  refine wpAny_Slice (thn (po_none.run pins s1 σ H1 (fun o H2 => o = none ∧ H2 = H1) I1 ⟨rfl, rfl⟩) fun vl s2 hh => ?_)
  obtain ⟨l, H2, I2, pl, el, e2⟩ := hh
  subst el
  subst e2
  refine thn (po_none.run pins s2 σ H2 (fun o H3 => o = none ∧ H3 = H2) I2 ⟨rfl, rfl⟩) fun vu s3 hh => ?_
  obtain ⟨u, H3, I3, pu, eu, e3⟩ := hh
  subst eu
  subst e3
  refine thn (hst.run pins s3 σ H3 (fun o H4 => o = some (-1) ∧ H4 = H3) I3 ⟨1, rfl, -1, rfl, rfl, rfl⟩) fun vs s4 hh => ?_
  obtain ⟨o, H4, I4, ps, eo, e4⟩ := hh
  subst eo
  subst e4
  have I5 := Inv.kept (t' := s4.toks) I4 fun b ob q => Heap.get?_push_of_some { cls := Value.type "slice", data := Data.fields #[vl, vu, vs] } q
  generalize hS : (({ heap := s4.heap.push { cls := Value.type "slice", data := Data.fields #[vl, vu, vs] }, gens := s4.gens, drawn := s4.drawn, toks := s4.toks, os := s4.os }) : Shared) = S at I5
  have hsl : S.heap.IsSliceOf s4.heap.objs.size vl vu vs := by rw [← hS]; exact Heap.IsSliceOf.new s4.1 vl vu vs
  clear hS
  rcases q with ⟨hx, q⟩ | ⟨hx, q⟩
  · obtain ⟨its, r, ht, hz⟩ := Inv.list I5 hx
    have hl := Vals.length r
    refine tail_any (Heap.IsList.typeIs (PlainL.isList ht)) slot_list_getitem.lookup (wpAny_getItem_list_slice (PlainL.isList ht) hsl pl pu ps (by decide) ?_ (by rw [List.size_toArray, ← hl]; exact hz)) rfl
    rw [W.krv_pick]
    refine ⟨V.ref S.heap.objs.size, upd H4 S.heap.objs.size (.lst xs.reverse), Inv.laid I5 (fun b ob q => Heap.get?_push_of_some _ q) (Nat.le_refl S.heap.objs.size) ⟨by rw [List.length_reverse]; exact hz, its.reverse, 0, Vals.reverse r, Heap.get?_push_size S.heap rfl⟩, rfl, q S.heap.objs.size (HOk.fresh I5.hok (Nat.le_refl S.heap.objs.size))⟩
  · obtain ⟨its, r, ht, hz⟩ := Inv.tuple I5 hx
    have hl := Vals.length r
    refine tail_any (IsTup.typeIs ht) slot_tuple_getitem.lookup (getItem_tuple_rev ht hsl pl pu ps ?_ (by rw [List.size_toArray, ← hl]; exact hz)) rfl
    exact ep_frz I5 (Vals.reverse r) (by rw [List.length_reverse]; exact hz) q⟩
end
section
variable [Tabs]
variable {K : PySem.W.Frag} {H0 H H' : Hp} {IO : Ctl} {Γ : Gm} {σ : L2.St} {W : Ex → L2.St → Hp → Prop} {ta te : TE} {fa fe : M Val} {tA : TA} {fA : M (List Val)}
def revD (d : PyData) : Option PyData := match d with
  | .list ds => some (.list ds.reverse)
  | .tuple ds => some (.tuple ds.reverse)
  | _ => none
def eRev (fe : M Val) : M Val := bnd fe fun v => fun Γ => match rdv Γ v with
  | some d => match revD d with
    | some z => some (Γ, .ok (toV z))
    | none => none
  | none => none
theorem rt_rev (he : RefT K W te fe) : RefT K W (tRevA K te) (eRev fe) := ⟨fun H0 IO Γ σ H Γ' r Q hs e hQ => by
  refine he.then hs e (fun x H' z p => by subst z; exact hQ H' p) fun Γ1 v x H1 e1 p1 k1 => ?_
  try dsimp only at e1
  split at e1
  · rename_i d h1
    split at e1
    · rename_i z h2
      cases e1
      have rp := k1.rp p1.st h1
      cases d with
      | list ds =>
        cases h2
        obtain ⟨p, vs, rfl, a1, a2⟩ := rp
        refine ⟨p, vs, rfl, .inl ⟨.inl a1, fun q hq => ?_⟩⟩
        have g := Grow.new (o := HO.lst vs.reverse) hq
        exact hQ _ _ (p1.fin g) ⟨q, _, rfl, upd_same, a2.reverse.tk g.tk, p1.dom hq⟩
      | tuple ds =>
        cases h2
        obtain ⟨p, vs, rfl, a1, a2⟩ := im_tuple rp
        refine ⟨p, vs, rfl, .inr ⟨a1, fun q ob hq hd => ?_⟩⟩
        have g := Grow.new (o := HO.frz ob (.tup vs.reverse)) hq
        exact hQ _ _ (p1.fin g) (im_tup (nt_new hd) (a2.reverse.tk g.tk))
      | _ => cases h2
    · cases e1
  · cases e1⟩
theorem wp_rev {P : Val → Gm → Prop} : wpE (eRev fa) Γ P = wpE fa Γ fun v Γ1 => oo (rdv Γ1 v) fun d => oo (revD d) fun z => P (toV z) Γ1 := by
  unfold eRev
  rw [wp_bnd]
  congr 1; funext v Γ1
  dsimp only [wpE]
  cases rdv Γ1 v with
  | none => rfl
  | some d =>
    dsimp only
    show _ = oo (revD d) _
    cases revD d <;> rfl
theorem revT {ds : List PyData} : revD (.tuple ds) = some (.tuple ds.reverse) := rfl
theorem revL {ds : List PyData} : revD (.list ds) = some (.list ds.reverse) := rfl
end
end Vf
end

section
set_option Elab.async false
set_option linter.all false
set_option maxRecDepth 100000
/-! a = b, where b is an own list that isn't read before it is stored anew. -/
namespace Vf
open PySem PySem.Spec PyProof.Rows L2
variable [Tabs]
section
variable {K : PySem.W.Frag} {H0 H H' : Hp} {IO : Ctl} {Γ : Gm} {σ : L2.St} {W : Ex → L2.St → Hp → Prop}
def sMv (j i : Nat) : MS := fun Γ => match Γ[i]? with
  | some (.ow ds) => if j = i then none else match setS j (.ow ds) (Γ.set i .em) with
    | some Γ' => some (Γ', .ok .next)
    | none => none
  | _ => none
theorem rs_mv (j i : Nat) : RefS K W (tAsg (tVar i) (gName j)) (sMv j i) := ⟨fun H0 IO Γ σ H Γ' r D hs e h => by
  unfold sMv at e
  split at e
  · rename_i ds hi
    split at e
    · cases e
    · rename_i hne
      split at e
      · rename_i Γ2 h2
        cases e
        obtain ⟨rfl, hj, nio⟩ := setS_ok h2
        obtain ⟨x, hx, k⟩ := hs.sig hi
        obtain ⟨p, vs, rfl, hp, him⟩ := k
        have hjσ : j < σ.length := by
          rw [← hs.len]
          rw [List.length_set] at hj
          exact hj
        refine ⟨.ref p, hx, ?_⟩
        -- the slots behind
        have cs : ∀ {k : Nat} {t : Slot}, ((Γ.set i .em).set j (.ow ds))[k]? = some t → (k = j ∧ t = .ow ds) ∨ (k ≠ j ∧ k = i ∧ t = .em) ∨ (k ≠ j ∧ k ≠ i ∧ Γ[k]? = some t) := fun {k t} z => by
          by_cases c1 : k = j
          · subst c1
            rw [List.getElem?_set_self hj] at z
            cases z
            exact .inl ⟨rfl, rfl⟩
          · rw [List.getElem?_set_ne (Ne.symm c1)] at z
            by_cases c2 : k = i
            · subst c2
              rw [List.getElem?_set_self (List.getElem?_eq_some_iff.mp hi).1] at z
              cases z
              exact .inr (.inl ⟨c1, rfl, rfl⟩)
            · rw [List.getElem?_set_ne (Ne.symm c2)] at z
              exact .inr (.inr ⟨c1, c2, z⟩)
        have sj : (σ.set j (some (.ref p)))[j]? = some (some (.ref p)) := List.getElem?_set_self hjσ
        have so : ∀ {k : Nat}, k ≠ j → (σ.set j (some (V.ref p)))[k]? = σ[k]? := fun {k} c => List.getElem?_set_ne (Ne.symm c)
        have mu : ∀ q, Mu ((Γ.set i .em).set j (.ow ds)) (σ.set j (some (.ref p))) q → Mu Γ σ q := fun q ⟨k, t, a, b, c⟩ => by
          rcases cs a with ⟨rfl, rfl⟩ | ⟨_, _, rfl⟩ | ⟨c1, c2, z⟩
          · rw [sj] at c
            cases c
            exact ⟨i, _, hi, rfl, hx⟩
          · cases b
          · rw [so c1] at c
            exact ⟨k, t, z, b, c⟩
        have nj : ∀ ds', Γ[j]? ≠ some (.io ds') := fun ds' z => nio ds' (by rw [List.getElem?_set_ne (fun z => hne z.symm)]; exact z)
        refine h _ H ⟨⟨by simp [hs.len], fun k t y a b => ?_, fun k k' t t' q a1 a2 a3 b1 b2 b3 => ?_, fun k ds' q a b m => ?_, fun k ds' q a b => ?_, fun k q z => ?_, fun k ds' q a b => ?_, hs.ioL, hs.frm⟩, (SPost.refl hs).frm, fun q m => .inl (mu q m), fun k ds' a => ?_⟩
        · rcases cs a with ⟨rfl, rfl⟩ | ⟨_, _, rfl⟩ | ⟨c1, c2, z⟩
          · rw [sj] at b
            cases b
            exact ⟨p, vs, rfl, hp, him⟩
          · exact trivial
          · rw [so c1] at b
            exact hs.ok k t y z b
        · rcases cs a1 with ⟨rfl, rfl⟩ | ⟨_, _, rfl⟩ | ⟨c1, c2, z⟩
          · rw [sj] at a3
            cases a3
            rcases cs b1 with ⟨rfl, rfl⟩ | ⟨_, _, rfl⟩ | ⟨d1, d2, z'⟩
            · rfl
            · cases b2
            · rw [so d1] at b3
              exact absurd (hs.uniq i k' _ t' p hi rfl hx z' b2 b3).symm d2
          · cases a2
          · rw [so c1] at a3
            rcases cs b1 with ⟨rfl, rfl⟩ | ⟨_, _, rfl⟩ | ⟨d1, d2, z'⟩
            · rw [sj] at b3
              cases b3
              exact absurd (hs.uniq i k _ t p hi rfl hx z a2 a3).symm c2
            · cases b2
            · rw [so d1] at b3
              exact hs.uniq k k' t t' q z a2 a3 z' b2 b3
        · rcases cs a with ⟨rfl, z⟩ | ⟨_, _, z⟩ | ⟨c1, c2, z⟩
          · cases z
          · cases z
          · rw [so c1] at b
            exact hs.bosep k ds' q z b (mu q m)
        · rcases cs a with ⟨rfl, z⟩ | ⟨_, _, z⟩ | ⟨c1, c2, z⟩
          · rw [sj] at b
            cases b
            exact hs.fresh i ds p hi hx
          · cases z
          · rw [so c1] at b
            exact hs.fresh k ds' q z b
        · obtain ⟨a, ds', b⟩ := hs.ioA k q z
          have c1 : k ≠ j := fun z => by subst z; exact nj ds' b
          have c2 : k ≠ i := fun z => by subst z; rw [hi] at b; cases b
          exact ⟨by rw [so c1]; exact a, ds', by rw [List.getElem?_set_ne (Ne.symm c1), List.getElem?_set_ne (Ne.symm c2)]; exact b⟩
        · rcases cs a with ⟨rfl, z⟩ | ⟨_, _, z⟩ | ⟨c1, c2, z⟩
          · cases z
          · cases z
          · rw [so c1] at b
            exact hs.ioB k ds' q z b
        · rcases cs a with ⟨rfl, z⟩ | ⟨_, _, z⟩ | ⟨c1, c2, z⟩
          · cases z
          · cases z
          · exact ⟨z, so c1⟩
      · cases e
  · cases e⟩
def mvq (j i : Nat) (Γ : Gm) (o : Option Slot) (Q : Gm → Prop) : Prop := match o with
  | some (.ow ds) => j ≠ i ∧ oo (setS j (.ow ds) (Γ.set i .em)) Q
  | _ => False
theorem mvq_ow {j i : Nat} {ds : List PyData} {Q : Gm → Prop} : mvq j i Γ (some (.ow ds)) Q = (j ≠ i ∧ oo (setS j (.ow ds) (Γ.set i .em)) Q) := rfl
theorem wp_sMv {j i : Nat} {P : Out → Gm → Prop} : wpE (sMv j i) Γ P = mvq j i Γ Γ[i]? fun Γ1 => P .next Γ1 := by
  unfold sMv
  dsimp only [wpE]
  cases e : Γ[i]? with
  | none => rfl
  | some s =>
    cases s with
    | ow ds =>
      rw [mvq_ow]
      by_cases c : j = i
      · subst c
        simp [wpR]
      · dsimp only
        rw [if_neg c]
        cases setS j (.ow ds) (Γ.set i .em) with
        | none => simp [oo, wpR]
        | some Γ' => simp [oo, wpR, c]
    | _ => rfl
end
end Vf
end

section
set_option Elab.async false
set_option linter.all false
set_option maxRecDepth 100000
/-! t.index(x) of a tuple. -/
namespace Vf
open PySem PySem.Spec PyProof.Rows L2
variable [Tabs]
section
variable {K : PySem.W.Frag} {H0 H H' : Hp} {IO : Ctl} {Γ : Gm} {σ : L2.St} {W : Ex → L2.St → Hp → Prop} {ta to : TE} {fa fo : M Val}
def idxD (ds : List PyData) (d : PyData) : Option Nat := if PyData.canLayAll0 ds && SeqAt.shaped d then ds.findIdx? fun z => PyData.eqv z d else none
def eIdx (fo fa : M Val) : M Val := bnd fo fun v => match v with
  | .im (.tuple ds) => bnd fa fun u => fun Γ => match rdv Γ u with
    | some d => match idxD ds d with
      | some j => some (Γ, .ok (.im (.int (j : Int))))
      | none => none
    | none => none
  | _ => fun _ => none
theorem rt_idx (ho : RefT K W to fo) (ha : RefT K W ta fa) : RefT K W (tBMN (rIndexT K) to (tCons ta tNil)) (eIdx fo fa) := ⟨fun H0 IO Γ σ H Γ' rr Q hs e hQ => by
  refine ho.then hs e (fun x H' h p => by subst h; exact hQ H' p) fun Γ1 v x H1 e1 p1 k1 => ?_
  try dsimp only at e1
  split at e1
  · rename_i ds
    obtain ⟨p, vs, rfl, hn, hi⟩ := im_tupleN k1
    refine ⟨⟨p, vs, rfl, hn⟩, ?_⟩
    refine ha.then p1.st e1 (fun x H' h p => by subst h; exact hQ H' (p1.trans p)) fun Γ2 u y H2 e2 p2 k2 => ?_
    try dsimp only at e2
    split at e2
    · rename_i d h2
      split at e2
      · rename_i j h3
        cases e2
        unfold idxD at h3
        split at h3
        · rename_i hc
          rw [Bool.and_eq_true] at hc
          have t := p2.frm.tk p1.st.lsts
          have hn2 := t.nt hn
          have hi2 := hi.tk t
          obtain ⟨hj, hjt, hno⟩ := List.findIdx?_eq_some_iff_getElem.mp h3
          show rIndexT K (.ref p) [y] H2 Q
          refine ⟨p, y, d, ds, vs, j, ds[j], rfl, rfl, .inl hn2.rd, hi2.2.dp, (k2.rp p2.st h2).dp, hc.1, hc.2, List.getElem?_eq_getElem hj, hjt, fun m z' hm hz => ?_, hQ _ H2 (p1.trans p2) ⟨rfl, .int _⟩⟩
          obtain ⟨hm', rfl⟩ := List.getElem?_eq_some_iff.mp hz
          have := hno m hm
          simpa using this
        · cases h3
      · cases e2
    · cases e2
  · cases e1⟩
def imT (v : Val) (Q : List PyData → Prop) : Prop := match v with
  | .im (.tuple ds) => Q ds
  | _ => False
theorem imT_t {ds : List PyData} {Q : List PyData → Prop} : imT (.im (.tuple ds)) Q = Q ds := rfl
theorem wp_idx {P : Val → Gm → Prop} : wpE (eIdx fo fa) Γ P = wpE fo Γ fun v Γ1 => imT v fun ds => wpE fa Γ1 fun u Γ2 => oo (rdv Γ2 u) fun d => oo (idxD ds d) fun j => P (.im (.int (j : Int))) Γ2 := by
  unfold eIdx
  rw [wp_bnd]
  congr 1; funext v Γ1
  cases v with
  | nw _ => rfl
  | sl _ => rfl
  | im d =>
    cases d with
    | tuple ds =>
      show wpE (bnd fa _) Γ1 P = _
      rw [wp_bnd, imT_t]
      congr 1; funext u Γ2
      dsimp only [wpE]
      cases rdv Γ2 u with
      | none => rfl
      | some d =>
        dsimp only
        show _ = oo (idxD ds d) _
        cases idxD ds d <;> rfl
    | _ => rfl
end
end Vf
end

section
set_option Elab.async false
set_option linter.all false
set_option maxRecDepth 100000
/-! str of an int; f-strings; a list extended by a list; a statement that is never reached. -/
namespace Vf
open PySem PySem.Spec PyProof.Rows L2
variable [Tabs]
section
variable {K : PySem.W.Frag} {X : Cx} {H0 H H' : Hp} {IO : Ctl} {Γ : Gm} {σ : L2.St} {W : Ex → L2.St → Hp → Prop} {ta te to : TE} {fa fe fo : M Val}
def strD : List PyData → Option PyData
  | [.int i] => if i.natAbs.log2 < 1920 then some (.str (toString i)) else none
  | _ => none
def rStrI : List V → Hp → VK → Prop := fun vs H Q => ∃ i : Int, vs = [.int i] ∧ i.natAbs.log2 < 1920 ∧ Q (.str (toString i)) H
theorem call_strX : CallR X (.type "str") rStrI := call_str_int
theorem cs_str : CallSem K rStrI strD := by
  intro H xs ds z hx h Q hQ
  match ds, h with
  | [.int i], h =>
    obtain ⟨x, rfl, k⟩ := rp1 hx
    simp only [strD] at h
    split at h
    · rename_i hi
      cases h
      rw [im_int k]
      exact ⟨i, rfl, hi, hQ _ H .refl ⟨rfl, .str _⟩⟩
    · cases h
/-! ### f'..' -/
def fmtS : PyData → Option Str
  | .str y => if small y.length then some y else none
  | .int i => if i.natAbs.log2 < 1920 then some (toString i) else none
  | _ => none
def fmtV : Val → Option Str
  | .im d => fmtS d
  | _ => none
def eFmt (fe : M Val) : M Val := bnd fe fun v => fun Γ => match fmtV v with
  | some y => some (Γ, .ok (.im (.str y)))
  | none => none
theorem rt_fmt (he : RefT K W te fe) : RefT K W (tFmt te) (eFmt fe) := ⟨fun H0 IO Γ σ H Γ' rr Q hs e hQ => by
  refine he.then hs e (fun x H' z p => by subst z; exact hQ H' p) fun Γ1 v x H1 e1 p1 k1 => ?_
  try dsimp only at e1
  split at e1
  · rename_i y hy
    cases e1
    cases v with
    | nw _ => cases hy
    | sl _ => cases hy
    | im d =>
      cases d with
      | str z =>
        simp only [fmtV, fmtS] at hy
        split at hy
        · rename_i hz
          cases hy
          exact .inl ⟨_, im_str k1, small_ok hz, hQ _ H1 p1 ⟨rfl, .str _⟩⟩
        · cases hy
      | int i =>
        simp only [fmtV, fmtS] at hy
        split at hy
        · rename_i hz
          cases hy
          exact .inr ⟨_, im_int k1, hz, hQ _ H1 p1 ⟨rfl, .str _⟩⟩
        · cases hy
      | _ => cases hy
  · cases e1⟩
def imStr (v : Val) : Option Str := match v with
  | .im (.str y) => some y
  | _ => none
def eJs : List (M Val) → Str → M Val
  | [], acc => M.pure (.im (.str acc))
  | f :: fs, acc => bnd f fun v => fun Γ => match imStr v with
    | some y => if small (acc ++ y).length then eJs fs (acc ++ y) Γ else none
    | none => none
inductive RefJ (K : PySem.W.Frag) (W : Ex → L2.St → Hp → Prop) : List TE → List (M Val) → Prop where
  | nil : RefJ K W [] []
  | cons {t : TE} {f : M Val} {ts : List TE} {fs : List (M Val)} (h : RefT K W t f) (r : RefJ K W ts fs) : RefJ K W (t :: ts) (f :: fs)
theorem imStr_some {v : Val} {y : Str} (h : imStr v = some y) : v = .im (.str y) := by
  unfold imStr at h
  split at h
  · cases h; rfl
  · cases h
theorem js_run {ts : List TE} {fs : List (M Val)} (h : RefJ K W ts fs) : ∀ (acc : Str), RefT K W (fun σ H Q => tJs ts acc σ H fun out H1 => Q (.str out) H1) (eJs fs acc) := by
  induction h with
  | nil => exact fun acc => ⟨fun H0 IO Γ σ H Γ' rr Q hs e hQ => by cases e; exact hQ _ H (.refl hs) ⟨rfl, .str _⟩⟩
  | @cons t f ts fs ht r ih =>
    intro acc
    refine ⟨fun H0 IO Γ σ H Γ' rr Q hs e hQ => ?_⟩
    refine ht.then hs e (fun x H' z p => by subst z; exact hQ H' p) fun Γ1 v x H1 e1 p1 k1 => ?_
    try dsimp only at e1
    split at e1
    · rename_i y hy
      obtain rfl := imStr_some hy
      split at e1
      · rename_i hz
        refine ⟨y, im_str k1, small_ok hz, ?_⟩
        refine (ih (acc ++ y)).run H0 IO Γ1 σ H1 Γ' rr Q p1.st e1 ?_
        cases rr with
        | ok v => exact fun x H' p k => hQ x H' (p1.trans p) (k.back fun b hb => p1.dom hb)
        | error x => exact fun H' p => hQ H' (p1.trans p)
      · cases e1
    · cases e1
def eJoined (fs : List (M Val)) : M Val := eJs fs Str.empty
theorem rt_joined {ts : List TE} {fs : List (M Val)} (h : RefJ K W ts fs) : RefT K W (fun σ H Q => tJs ts Str.empty σ H fun out H1 => Q (.str out) H1) (eJoined fs) := js_run h Str.empty
def strV (v : Val) (Q : Str → Prop) : Prop := oo (imStr v) Q
theorem strV_s {y : Str} {Q : Str → Prop} : strV (.im (.str y)) Q = Q y := rfl
theorem wp_fmt {P : Val → Gm → Prop} : wpE (eFmt fe) Γ P = wpE fe Γ fun v Γ1 => imV v fun d => oo (fmtS d) fun y => P (.im (.str y)) Γ1 := by
  unfold eFmt
  rw [wp_bnd]
  congr 1; funext v Γ1
  dsimp only [wpE]
  cases v with
  | im d =>
    show wpR (match fmtS d with | some y => _ | none => _) P = oo (fmtS d) _
    cases fmtS d <;> rfl
  | nw _ => rfl
  | sl _ => rfl
theorem wp_js {f : M Val} {fs : List (M Val)} {acc : Str} {P : Val → Gm → Prop} : wpE (eJs (f :: fs) acc) Γ P = wpE f Γ fun v Γ1 => strV v fun y => (acc ++ y).length ≤ 1000000 ∧ wpE (eJs fs (acc ++ y)) Γ1 P := by
  show wpE (bnd f _) Γ P = _
  rw [wp_bnd]
  congr 1; funext v Γ1
  unfold strV
  dsimp only [wpE]
  cases imStr v with
  | none => rfl
  | some y =>
    show wpR (if small (acc ++ y).length = true then eJs fs (acc ++ y) Γ1 else none) P = ((acc ++ y).length ≤ 1000000 ∧ _)
    by_cases hz : (acc ++ y).length ≤ 1000000
    · rw [if_pos (by simpa [small] using hz)]
      exact propext ⟨fun h => ⟨hz, h⟩, fun h => h.2⟩
    · rw [if_neg (by simpa [small] using hz)]
      exact propext ⟨fun h => h.elim, fun h => hz h.1⟩
theorem wp_jn {acc : Str} {P : Val → Gm → Prop} : wpE (eJs [] acc) Γ P = P (.im (.str acc)) Γ := rfl
theorem wp_joined {fs : List (M Val)} {P : Val → Gm → Prop} : wpE (eJoined fs) Γ P = wpE (eJs fs Str.empty) Γ P := rfl
/-! ### xs.extend(ys) -/
def extendM (ds : List PyData) : List PyData → Option (List PyData × PyData)
  | [.list es] => if small (ds.length + es.length) then some (ds ++ es, .none) else none
  | _ => none
def rExtL : V → List V → Hp → VK → Prop := fun x vs H Q => ∃ l b xs zs, x = .ref l ∧ vs = [.ref b] ∧ H l = some (.lst xs) ∧ Rd H b (.lst zs) ∧ xs.length + zs.length ≤ sizeLine ∧ Q .non (upd H l (.lst (xs ++ zs)))
theorem mt_extendL : MtM X "list.extend" rExtL := by
  intro pins s σ H x vs v us Q I rx rv h
  obtain ⟨l, b, xs, zs, rfl, rfl, hL, hB, hz, q⟩ := h
  cases rx
  obtain ⟨u, rfl, ru⟩ := rv.one
  cases ru
  obtain ⟨_, i1, n1, r1, l1, g1⟩ := I.lstM hL
  obtain ⟨_, i2, n2, r2, g2⟩ := hB.ok I.hok
  have l2 := r2.length
  have hsum : i1.toArray.size + i2.toArray.size ≤ sizeLine := by rw [List.size_toArray, List.size_toArray]; omega
  have hno : ¬ (!i1.toArray.isEmpty && Builtin.List.listTooLong (i1.toArray.size + i2.toArray.size)) = true := by
    rw [notLongL hsum, Bool.and_false]
    exact Bool.false_ne_true
  refine call_meets F.slot_list_extend ⟨_, g1, rfl⟩ F.entry_list_extend (F.args_list_extend_2 _ _)
    (AutoSeq1.list_extend_list_list_0 l i1.toArray n1 b i2.toArray n2 hno (by omega) (by omega)) ⟨g1, g2, ?_⟩
  refine ⟨.non, _, I.lset (its' := i1 ++ i2) hL g1 (by simp) (r1.append r2) ?_, rfl, q⟩
  rw [List.length_append]
  omega
theorem ms_extend : MutSem K rExtL extendM := by
  intro H p vs ds xs es ds' z hp hi hx h Q hQ
  match es, h with
  | [.list es], h =>
    obtain ⟨x, rfl, q, ws, rfl, a, b⟩ := rp1 hx
    simp only [extendM] at h
    split at h
    · rename_i hz
      cases h
      have hz' := small_ok hz
      have t : Tk H (upd H p (.lst (vs ++ ws))) := .upd hp
      exact ⟨p, q, vs, ws, rfl, rfl, hp, a, by rw [hi.length, b.length]; exact hz', hQ _ _ ((hi.tk t).append (b.tk t)) ⟨rfl, .non⟩⟩
    · cases h
theorem extendM_ok {ds es : List PyData} (h : ds.length + es.length ≤ 1000000) : extendM ds [.list es] = some (ds ++ es, .none) := by
  show (if small (ds.length + es.length) = true then _ else _) = _
  rw [if_pos (by simpa [small] using h)]
/-! ### never reached -/
theorem ps_never {st : Stmt} : PS X st (fun _ _ _ => False) := ⟨fun _ _ _ _ _ _ h => h.elim⟩
def sNever : MS := fun _ => none
theorem rs_never : RefS K W (fun _ _ _ => False) sNever := ⟨fun _ _ _ _ _ _ _ _ _ e _ => by cases e⟩
theorem wp_never {P : Out → Gm → Prop} : wpE sNever Γ P = False := rfl
end
end Vf
end

section
set_option Elab.async false
set_option linter.all false
set_option maxRecDepth 100000
/-! all(e for x in xs), e any expression (it may call defs): the generator runs in a context of its own; the table of generators may grow. -/
namespace Vf
open PySem PySem.Spec PyProof.Rows L2 GxR
section
/-- a generator expression's frame, over the def X -/
def gnx (X : Cx) (A' : Around) (s : Shared) (H : Hp) (ce : Env) (fp : List Addr) (x : Str) : Cx :=
  { X with A := A', N := [x], s_0 := s, H_0 := H, env := ce, outer := X.stack, stack := ce :: X.stack, ex := fp, fn := fun _ => false, calm := true, pn := [], xe := fun _ _ => False }
structure GSt (Y : Cx) (pa : List (Addr × Obj)) (tn : Nat → Heap → Prop) (fp : List Addr) (g i : Nat) (H : Hp) (s : Shared) : Prop where
  inv : L2.Inv Y pa [none] H s
  tn : tn i s.heap
  fpn : ∀ b ∈ fp, H b = none
  gsz : g < s.gens.size
theorem inv_gens {Y : Cx} {pa : List (Addr × Obj)} {σ : L2.St} {H : Hp} {s : Shared} {G : Array GenState} (I : L2.Inv Y pa σ H s) (hb : AllBare G) : L2.Inv Y pa σ H { s with gens := G } :=
  ⟨I.ok, I.os, hb, I.base, I.loc, I.cell, I.free, I.freeC, I.pin, I.hok, I.len⟩
theorem GSt.set {Y : Cx} {pa : List (Addr × Obj)} {tn : Nat → Heap → Prop} {fp : List Addr} {g i : Nat} {H : Hp} {s : Shared} {z : GenState} (h : GSt Y pa tn fp g i H s) (hz : z.bare = true) : GSt Y pa tn fp g i H (s.setGen g z) :=
  ⟨inv_gens h.inv (L2.allBare_setGen h.inv.bare hz), h.tn, h.fpn, by rw [GenW.setGen_size]; exact h.gsz⟩
/-- what is wanted of the turns: Qb, what is wanted of the answer -/
def GTurn (J : It) (te : TE) (Qb : Bool → Hp → Prop) (Wf : Nat → Nat → Hp → Prop) : Prop := ∀ i m H, Wf i m H →
  (J.stop i H ∧ Qb true H) ∨ (J.go i H ∧ ∃ Nx : Hp → Prop, (∀ H', Nx H' → ∃ m', m' < m ∧ Wf (i + 1) m' H') ∧ ∀ x H', J.yld i H x H' → te [some x] H' fun y H'' => ∃ b, y = .bl b ∧ if b = true then Nx H'' else Qb false H'')
def GEnd (Y : Cx) (pa : List (Addr × Obj)) (g : Nat) (Qb : Bool → Hp → Prop) : GenEnd := fun _ _ r s => r = .ok .next ∧ ∃ H, L2.Inv Y pa [none] H s ∧ Qb true H ∧ g < s.gens.size
def GPro (Y : Cx) (pa : List (Addr × Obj)) (tn : Nat → Heap → Prop) (fp : List Addr) (g : Nat) (Qb : Bool → Hp → Prop) (Wf : Nat → Nat → Hp → Prop) : Protocol := fun n _ v s kap =>
  ∃ b i H, v = .bool b ∧ GSt Y pa tn fp g i H s ∧ (b = false → Qb false H) ∧ (b = true → (∃ m, m < n ∧ Wf i m H) ∧ ∀ s'', GSt Y pa tn fp g i H s'' → kap (.send .none) s'')
theorem seg_turns {X : Cx} {A : Around} {elt iter : Expr} {x : Str} {px pos : Pos} {scope : Scope} {it : Addr} {ce : Env} {Y : Cx} {pa : List (Addr × Obj)} {tn : Nat → Heap → Prop} {fp : List Addr} {g : Nat} {J : It} {te : TE} {Qb : Bool → Hp → Prop} {Wf : Nat → Nat → Hp → Prop}
    (hP : Y.prog = X.prog) (hW : Y.w = X.w) (hK : Y.K = X.K) (hc : Y.calm = true) (hE : Y.env = ce) (hXe : Y.xe = fun _ _ => False) (hA : A.over (.compLoop (.GeneratorExp elt [⟨.Name x px, iter, [], 0⟩] scope pos) 0 (.ref it) .none ce) [] = Y.A) (hpn : Y.pn = [])
    (hco : ce.scope.isCoroutine = false) (hfp : ∀ b ∈ fp, b ∈ Y.ex) (hpa : ∀ p ∈ pa, ∀ b ∈ fp, p.1 ≠ b) (T : Turn X.prog X.w X.K (.Name x px) J fp it tn) (pg : PG Y (.Name x px) (gName 0)) (pe : PE Y elt te) (turn : GTurn J te Qb Wf) :
    ∀ (k i m : Nat) (H : Hp) (s₀ s : Shared), m < k → Wf i m H → GSt Y pa tn fp g i H s →
      Seg (model X.prog X.w) A (GEnd Y pa g Qb) (GPro Y pa tn fp g Qb Wf) k s₀ (.compLoop (.GeneratorExp elt [⟨.Name x px, iter, [], 0⟩] scope pos) 0 (.ref it) .none ce)
        ((model X.prog X.w).den (.compLoop (.GeneratorExp elt [⟨.Name x px, iter, [], 0⟩] scope pos) 0 (.ref it) .none ce)) [] s := by
  intro k
  induction k with
  | zero => intro i m H s₀ s hm; omega
  | succ k ih =>
    intro i m H s₀ s hm hw hS
    have stat : ∀ {H' : Hp} {s' : Shared} {σ' : L2.St} {pl : List (Addr × Obj)}, L2.Inv Y pl σ' H' s' → (∀ p ∈ pl, ∀ b ∈ fp, p.1 ≠ b) → (∀ b ∈ fp, H' b = none) → ∀ b ∈ fp, FpOk Y pl H' b := fun {H' s' σ' pl} I' hpl hn b hb =>
      ⟨hn b hb, (I'.ok.exf b (hfp b hb)).1, I'.ok.exfs b (hfp b hb), .inl (hfp b hb), fun y c e => (I'.ok.exf b (hfp b hb)).2 y c e, fun p hp => by rw [hpn] at hp; exact hpl p hp b hb⟩
    show Seg _ A _ _ _ s₀ _ ((compTurn (.GeneratorExp elt [⟨.Name x px, iter, [], 0⟩] scope pos) 0 (.ref it) .none ce).onRaise (leaving ce)) [] s
    rw [compTurn_gen, Sem.onRaise_eq_wrap]
    refine seg_bind_wrap (wpAny_standAt ?_)
    rcases turn i m H hw with ⟨hstop, hq⟩ | ⟨hgo, Nx, hNx, step⟩
    · have td := T.done Y hP hW hK hc i pa s [none] H (fun _ _ => False) hS.inv (stat hS.inv hpa hS.fpn) hS.tn hstop
      rw [← hA] at td
      refine seg_bind_wrap (GenW.wpAny_gsz (n := g + 1) hS.gsz (thnF td fun r s1 ⟨hr, I1⟩ hz => ?_))
      subst hr
      exact seg_end (.ok .next) ⟨rfl, H, I1, hq, hz⟩
    · have ti := T.item Y hP hW hK hc i pa s [none] H (fun _ _ => False) hS.inv (stat hS.inv hpa hS.fpn) hS.tn hgo
      rw [← hA] at ti
      refine seg_bind_wrap (GenW.wpAny_gsz (n := g + 1) hS.gsz (thnF ti fun r s1 ⟨u, hr, h1⟩ hz1 => ?_))
      subst hr
      refine seg_bind_wrap (GenW.wpAny_gsz (n := g + 1) hz1 (thnF h1 fun _ s2 ⟨v, H2, I2, rv, hy, t2, n2⟩ hz2 => ?_))
      have I2' := I2.pinned (stat I2 hpa n2) (T.obj _ _ t2)
      have pg' := pg.run (pa ++ pinsAt fp s2.heap) s2 [none] H2 v u (fun σ' H' => σ' = [some v] ∧ H' = H2) I2' rv ⟨rfl, rfl⟩
      rw [hP, hW, ← hA, hE, hXe] at pg'
      refine seg_bind_wrap (GenW.wpAny_gsz (n := g + 1) hz2 (thnF pg' fun _ s3 ⟨σ3, H3, I3, e3, e4⟩ hz3 => ?_))
      subst e3 e4
      simp only [List.forIn_nil]
      refine seg_bind_wrap (wpAny_pure ?_)
      simp only [if_true]
      have py := pe.run (pa ++ pinsAt fp s2.heap) s3 [some v] H3 _ I3 (step v H3 hy)
      rw [hP, hW, ← hA, hE, hXe] at py
      have yo : ∀ z, yieldOut ce z = yieldValue z := fun z => by unfold yieldOut; rw [hco]; rfl
      simp only [yo]
      rw [Sem.bind_eq_wrap', Sem.bind_eq_wrap', Sem.wrap_wrap, Sem.wrap_wrap]
      refine seg_wrap (GenW.wpAny_gsz (n := g + 1) hz3 (thnF py fun y s4 ⟨yv, H4, I4, ry, b, eb, hb⟩ hz4 => ?_))
      subst eb
      obtain rfl : y = Value.bool b := ry
      have pin' : ∀ d ∈ fp, ∀ o, s2.heap.get? d = some o → s4.heap.get? d = some o ∧ H4 d = none := fun d hd o e =>
        let z := I4.pin (d, o) (List.mem_append_right _ (List.mem_append_right _ (mem_pinsAt hd e)))
        ⟨z.1, z.2.1⟩
      have S4 : GSt Y pa tn fp g (i + 1) H4 s4 := by
        refine ⟨(I4.unpinned (pins := pa)).weak rfl (fun j w e => ?_), T.keep _ _ _ t2 fun d hd o e => (pin' d hd o e).1, fun d hd => ?_, hz4⟩
        · match j, e with
          | 0, e => simp at e
          | j + 1, e => simp at e
        · obtain ⟨o, e, _⟩ := T.obj _ _ t2 d hd
          exact (pin' d hd o e).2
      refine seg_at (seg_yield rfl rfl rfl ⟨b, i + 1, H4, rfl, S4, fun e => ?_, fun e => ?_⟩)
      · subst e
        rw [if_neg Bool.false_ne_true] at hb
        exact hb
      · subst e
        rw [if_pos rfl] at hb
        obtain ⟨m', hm', hw'⟩ := hNx H4 hb
        exact ⟨⟨m', by omega, hw'⟩, fun s'' hS'' => seg_again rfl (ih (i + 1) m' H4 s'' s'' (by omega) hw' hS'')⟩
theorem seg_begin {X : Cx} {A : Around} {elt iter : Expr} {x : Str} {px pos : Pos} {scope : Scope} {it : Addr} {ce : Env} {R : GenEnd} {Yp : Protocol} {k : Nat} {s₀ s : Shared} {J : It} {fp : List Addr} {tn : Nat → Heap → Prop}
    (T : Turn X.prog X.w X.K (.Name x px) J fp it tn) (ht : tn 0 s.heap)
    (h : Seg (model X.prog X.w) A R Yp k s₀ (.compLoop (.GeneratorExp elt [⟨.Name x px, iter, [], 0⟩] scope pos) 0 (.ref it) .none ce) ((model X.prog X.w).den (.compLoop (.GeneratorExp elt [⟨.Name x px, iter, [], 0⟩] scope pos) 0 (.ref it) .none ce)) [] s) :
    Seg (model X.prog X.w) A R Yp k s₀ (.compStart (.GeneratorExp elt [⟨.Name x px, iter, [], 0⟩] scope pos) 0 (.ref it) .none ce) ((model X.prog X.w).den (.compStart (.GeneratorExp elt [⟨.Name x px, iter, [], 0⟩] scope pos) 0 (.ref it) .none ce)) [] s := by
  show Seg _ A _ _ _ s₀ _ ((compStart (.GeneratorExp elt [⟨.Name x px, iter, [], 0⟩] scope pos) 0 (.ref it) .none ce).onRaise (leaving ce)) [] s
  unfold compStart
  rw [Sem.onRaise_eq_wrap]
  show Seg _ A _ _ _ s₀ _ ((ask >>= _).wrap _ _ _ _) [] s
  refine seg_bind_wrap (wpAny_askSetting ?_)
  split
  · exact seg_again rfl h
  · first
      | exact seg_bind_wrap (wpAny_rule (seg_bind_wrap (wpAny_standAt (seg_bind_wrap (T.self _ 0 s _ _ ht (seg_again rfl h))))))
      | (refine seg_bind_wrap (wpAny_rule ?_)
         show Seg _ A _ _ _ s₀ _ ((standAt iter.pos >>= _).wrap _ _ _ _) [] s
         exact seg_bind_wrap (wpAny_standAt (seg_bind_wrap (T.self _ 0 s _ _ ht (seg_again rfl h)))))
/-- all() walks the generator -/
theorem all_walks {Y : Cx} {B : Around} {pa : List (Addr × Obj)} {tn : Nat → Heap → Prop} {fp : List Addr} {a : Addr} {g : Nat} {Qb : Bool → Hp → Prop} {Wf : Nat → Nat → Hp → Prop}
    (hh : B.handled = none) (hroom : B.depth < recursionLimit) (hgen : ∀ i H s, GSt Y pa tn fp g i H s → s.heap.IsGen a g ∧ s.heap.NoLimit) :
    ∀ (k i m : Nat) (H : Hp) (gs : GenState) (s : Shared), m < k → Wf i m H → GSt Y pa tn fp g i H s → s.gens[g]? = some gs →
      (∀ s'', GSt Y pa tn fp g i H s'' → gs.Goes (model Y.prog Y.w) B.in1.in1 (GEnd Y pa g Qb) (GPro Y pa tn fp g Qb Wf) k (.send .none) s'') →
      codeAny (model Y.prog Y.w) B (.builtin "all.loop" ⟨[.ref a], []⟩) (fun r s' => ∃ b H', r = .ok (.ret (.bool b)) ∧ L2.Inv Y pa [none] H' s' ∧ Qb b H') s := by
  intro k
  induction k with
  | zero => intro i m H gs s hm; omega
  | succ k ih =>
    intro i m H gs s hm hw hS hg hgo
    obtain ⟨hG, hN⟩ := hgen i H s hS
    refine codeAny_builtin F.entry_all_loop ?_
    rw [Around.under_plainId F.plain_all_loop _]
    show wpAny _ B.in1 (pyNext (.ref a) >>= _) _ _ s
    refine wpAny_bind (wpAny_pyNext_genexpQ (n := k + 1) (P := fun _ _ s' => ∃ H', L2.Inv Y pa [none] H' s' ∧ Qb true H' ∧ g < s'.gens.size) (Y := GPro Y pa tn fp g Qb Wf) hh hN hroom hG hg (hgo _ (hS.set rfl)) (fun v s1 gs' hb hv => ?_) fun s1 hp h' kp => ?_)
    · obtain ⟨b, j, H1, rfl, S1, q0, q1⟩ := hv
      have hsz := S1.gsz
      have S2 := S1.set hb
      have hg2 : (s1.setGen g gs').gens[g]? = some gs' := by
        show (s1.gens.setIfInBounds g gs')[g]? = some gs'
        simp [hsz]
      refine wpAny_bind (wpAny_holding (wpAny_truthy_bool ?_))
      refine wpAny_bind (wpAny_letGo ?_)
      cases b with
      | false =>
        simp only [Bool.false_eq_true, if_false]
        exact wpAny_bind (wpAny_rule (wpAny_pure ⟨false, H1, rfl, S2.inv, q0 rfl⟩))
      | true =>
        simp only [if_true]
        obtain ⟨⟨m', hm', hw'⟩, hk⟩ := q1 rfl
        exact wpAny_pure ⟨plainId_quiet F.plain_all_loop _, ih j m' H1 gs' _ (by omega) hw' S2 hg2 fun s'' hS'' => hk s'' hS''⟩
    · obtain ⟨H', I', qb, hz⟩ := hp
      have I2 : L2.Inv Y pa [none] H' { s1.setGen g .finished with heap := h' } := (inv_gens I' (L2.allBare_setGen (s := s1) (g := g) I'.bare (x := .finished) rfl)).kept (t' := s1.toks) kp
      exact wpAny_bind (wpAny_rule (wpAny_pure ⟨true, H', rfl, I2, qb⟩))
end
/-- a look at a generator expression's scope that captures nothing -/
def genN (sc : Scope) (x : Str) : Bool := genC sc x && sc.names.all fun y => !decide (y.2 = .free)
theorem gen_clo {cells : List (Str × Addr)} {sc : Scope} {x : Str} (h : genN sc x = true) : ∀ y c, (cloFrom cells sc.names []).lookup y ≠ some c := by
  intro y c e
  rcases cloFrom_mem (PySem.mem_of_lookup e) with hm | ⟨hm, _⟩
  · cases hm
  · unfold genN at h
    rw [Bool.and_eq_true, List.all_eq_true] at h
    have := h.2 _ hm
    simp at this
section
variable {X : Cx}
def tAllG (P : Addr) (ti : TI) (te : TE) : TE := fun σ H Q => ti σ H fun J H1 => TabG H1 P ∧ ∀ H2, Tabbed P H1 H2 → ∃ Wf : Nat → Nat → Hp → Prop, (∃ m, Wf 0 m H2) ∧ GTurn J te (fun b H' => Q (.bl b) H') Wf
theorem gnx_ok {pins : List (Addr × Obj)} {σ : L2.St} {H : Hp} {s : Shared} {A' : Around} {ce : Env} {fp : List Addr} {x : Str} {sc : Scope} (I : L2.Inv X pins σ H s) (hf : ∀ b ∈ fp, FpOk X pins H b ∧ b < s.heap.objs.size)
    (hk : genN sc x = true) (e1 : ce.scope = sc) (e2 : ce.locals = s.heap.objs.size) (e3 : ce.globals = mainGlobals) (e4 : ce.builtins = builtinsNs) (e5 : ce.frame = some s.heap.objs.size) (e6 : ce.cells = cloFrom X.env.cells sc.names [])
    (hh : A'.handled = none) (hfr : A'.frames = some (ce :: X.stack)) : (gnx X A' s H ce fp x).Ok := by
  have hk' := hk
  unfold genN genC at hk'
  simp only [Bool.and_eq_true, Bool.not_eq_true', decide_eq_true_eq, List.all_eq_true, decide_eq_false_iff_not] at hk'
  obtain ⟨⟨⟨⟨⟨h1, h2⟩, h3⟩, h4⟩, h5⟩, h6⟩ := hk'
  have nc : ∀ y c, ce.cells.lookup y ≠ some c := by rw [e6]; exact gen_clo hk
  refine ⟨I.ok.mod, by show ce.scope.kind = _; rw [e1]; exact h1, e3, e4, by show s.heap.objs.size ≤ ce.locals; rw [e2]; exact Nat.le_refl _, fun y z c q => absurd q (nc y c), fun y hy => ?_, fun y c hy => absurd hy Bool.false_ne_true, fun _ => hh, hfr,
    .inr ⟨rfl, by show ce.frame = some ce.locals; rw [e5, e2]⟩, fun b hb => ⟨by show b ≠ ce.locals; rw [e2]; exact Nat.ne_of_lt (hf b hb).2, fun y c q => absurd q (nc y c)⟩, I.bs, Nat.le_trans I.ok.bsz I.sz, fun b o q hb => ?_, fun b hb z => ?_, I.stack, I.stkFree⟩
  · have hy : ce.scope.names.lookup y = some .cell ∨ ce.scope.names.lookup y = some .free := hy
    rw [e1] at hy
    rcases hy with hy | hy
    · exact absurd rfl (h3 _ (PySem.mem_of_lookup hy)).1
    · exact absurd rfl (h6 _ (PySem.mem_of_lookup hy))
  · have q : X.base.get? b = some o := q
    have hb : b ∈ fp := hb
    rcases (hf b hb).1.2.2.2.1 with z | z
    · exact I.ok.noex b o q z
    · exact absurd (Nat.lt_of_lt_of_le (Heap.lt_size q) (Nat.le_trans I.ok.bsz z)) (Nat.lt_irrefl _)
  · have hb : b ∈ fp := hb
    rcases List.mem_cons.mp (I.stkSub b z) with e | e
    · exact (hf b hb).1.2.1 e
    · exact (hf b hb).1.2.2.1 e
theorem pe_allG {c P : Addr} {elt iter : Expr} {x : Str} {px p pos gpos : Pos} {scope : Scope} {ti : TI} {te : TE} {k : Nat}
    (hr : Room (k + 3) X.A) (hg : Gl X "all") (hm : X.mg "all" = none) (hb : bootBuiltins "all" = some (.builtin "all")) (TB : TabB X.base X.mg c P) (hcode : X.env.code = .ref c) (hk : genN scope x = true) (hi : PI X (.Name x px) iter ti)
    (hel : ∀ (A' : Around) (s : Shared) (H : Hp) (ce : Env) (fp : List Addr), Room k A' → ce.scope = scope → PE (gnx X A' s H ce fp x) elt te) (hs : ∀ v, genFold iter X.env v = pure v)
    (he : starEach [.GeneratorExp elt [⟨.Name x px, iter, [], 0⟩] scope gpos] X.env = (false, eval (.GeneratorExp elt [⟨.Name x px, iter, [], 0⟩] scope gpos) X.env) :: starEach [] X.env := by rfl) :
    PE X (.Call (.Name "all" p) [.GeneratorExp elt [⟨.Name x px, iter, [], 0⟩] scope gpos] [] pos) (tAllG P ti te) := by
  have hk' := hk
  unfold genN genC at hk'
  simp only [Bool.and_eq_true, Bool.not_eq_true', decide_eq_true_eq, List.all_eq_true, decide_eq_false_iff_not] at hk'
  obtain ⟨⟨⟨⟨⟨h1, h2⟩, h3⟩, h4⟩, h5⟩, h6⟩ := hk'
  refine ⟨fun pins s σ H Q I h => ?_⟩
  refine wpAny_Call_Name_kw (ld_blt I hg hm hb ?_)
  refine PyProof.Rows.callWith_builtin1 ?_ he (by rfl)
  rw [he]
  show wpAny _ _ (spliced ((false, eval (.GeneratorExp elt [⟨.Name x px, iter, [], 0⟩] scope gpos) X.env) :: backTo pos (starEach [] X.env))) _ _ s
  refine Calls.spliced_cons ?_
  refine wpAny_GeneratorExp_make h2 (closure_ok fun y hy e => absurd e (h6 y hy)) (fun y hy => (h3 y hy).1) h4 h1 (by have := hr.dp; omega) ?_ hs
  refine thn (hi.run pins s σ H _ I h) fun xv s1 hx => thn hx fun itv s2 hx2 => ?_
  obtain ⟨it, fp, tn, J, H2, rfl, I2, T, t2, f2, ⟨ps, hPs, htr⟩, hq⟩ := hx2
  refine ⟨I2.nolimit, ?_⟩
  have hP2 : s2.heap.get? P = some { cls := .none, data := .fields ps } := I2.hok P _ hPs
  have cd2 : PySem.W.CodeHd s2.heap c P := TB.code.keeps fun b u e => I2.bk b u e
  have hPlt : P < s2.heap.objs.size := Heap.lt_size hP2
  have fpl : ∀ b ∈ fp, b < s2.heap.objs.size := fun b hb => by
    obtain ⟨o, e, _⟩ := T.obj _ _ t2 b hb
    exact Heap.lt_size e
  have fpP : ∀ b ∈ fp, b ≠ P := fun b hb z => by
    have := (f2 b hb).1
    rw [z, hPs] at this
    cases this
  have cont : ∀ (code : Value) (h3 : Heap) (tk : Nat) (ps' : Array Value), Heap.ExtBut P s2.heap h3 → s2.heap.objs.size ≤ h3.objs.size → h3.get? P = some { cls := .none, data := .fields ps' } → (∃ more, ps' = ps ++ more) → TriplesOk ps'.toList →
      wpAny (model X.prog X.w) X.A (builtinsFor X.env.globals X.env.builtins) (fun bi s₄ =>
        ∀ h', h'.Ns s₄.heap.objs.size (fun y => if y = ".0" then some (.ref it) else none) → Heap.SameBut s₄.heap.objs.size (s₄.heap.push { cls := .type "frame", data := .dict #[] }) h' →
          wpAny (model X.prog X.w) X.A (spliced (backTo pos (starEach [] X.env))) (fun vs s9 => wpAny (model X.prog X.w) X.A (call (.builtin "all") (.ref h'.objs.size :: vs)) (EP X pins σ Q) X.xe s9) X.xe { s₄ with
            gens := s₄.gens.push (.fresh (.compStart (.GeneratorExp elt [⟨.Name x px, iter, [], 0⟩] scope gpos) 0 (.ref it) .none (genEnv scope (cloFrom X.env.cells scope.names []) s₄.heap.objs.size code bi X.env))),
            toks := s₄.toks + 1 + 1 + 1,
            heap := h'.push { cls := .type "generator", data := .fields #[.int s₄.gens.size 0, .str "<genexpr>" (s₄.toks + 1), .str (X.env.qual ++ "<genexpr>") (s₄.toks + 1 + 1)] } }) X.xe { s2 with heap := h3, toks := tk } := by
    intro code h3 tk ps' hx3 hsz hP3 hmore ht3
    obtain ⟨bm, ob, e1, e2, e3, e4, e5, e6, e7, e8⟩ := TB.bm
    obtain ⟨more, em⟩ := hmore
    have I3 : L2.Inv X pins σ (upd H2 P (.tbl (ps ++ more))) { s2 with heap := h3, toks := tk } :=
      inv_tab (more := more) (h' := h3) (g' := s2.gens) (d' := s2.drawn) (t' := tk) I2 hPs (fun b u hb e => hx3 b u hb e) (by rw [← em]; exact hP3) I2.bare
    have tb : Tabbed P H2 (upd H2 P (.tbl (ps ++ more))) := ⟨⟨ps ++ more, upd_same, by rw [← em]; exact ht3⟩, fun b hb => upd_ne hb⟩
    refine wpAny_builtinsFor (m := X.mg) (by rw [I2.ok.glob]; exact (I2.mod.glob.keeps I2.bk).extBut hx3 TB.gP) e1 e2 (hx3 _ _ e4 (I2.bk _ _ e5)) e6 e7 e8 ?_
    intro h' hns hsb
    obtain ⟨Wf, ⟨m0, w0⟩, gt⟩ := hq _ tb
    generalize hH3 : upd H2 P (.tbl (ps ++ more)) = H3 at I3 tb w0
    generalize hs3 : ({ s2 with heap := h3, toks := tk } : Shared) = s3 at I3 hns hsb ⊢
    have h3e : s3.heap = h3 := by rw [← hs3]
    have f3 : ∀ b ∈ fp, FpOk X pins H3 b ∧ b < s3.heap.objs.size := fun b hb => by
      refine ⟨⟨?_, (f2 b hb).2⟩, by rw [h3e]; exact Nat.lt_of_lt_of_le (fpl b hb) hsz⟩
      rw [← hH3, upd_ne (fpP b hb)]
      exact (f2 b hb).1
    have t3 : tn 0 s3.heap := T.keep _ _ _ t2 fun b hb o e => by rw [h3e]; exact hx3 b o (fpP b hb) e
    generalize hce : genEnv scope (cloFrom X.env.cells scope.names []) s3.heap.objs.size code builtinsNs X.env = ce
    have hsz' : h'.objs.size = s3.heap.objs.size + 1 := by rw [hsb.1, Heap.size_push]
    have kp : ∀ b o, s3.heap.get? b = some o → h'.get? b = some o := fun b o e => (hsb.2 b (Nat.ne_of_lt (Heap.lt_size e))).trans (Heap.get?_push_of_some _ e)
    generalize hoa : ({ cls := .type "generator", data := .fields #[.int s3.gens.size 0, .str "<genexpr>" (s3.toks + 1), .str (X.env.qual ++ "<genexpr>") (s3.toks + 1 + 1)] } : Obj) = oa
    have aov : X.A.in1.in1.over (.compLoop (.GeneratorExp elt [⟨.Name x px, iter, [], 0⟩] scope gpos) 0 (.ref it) .none ce) [] = X.A.in1.in1.deeper ce := rfl
    have rm : Room k (X.A.in1.in1.deeper ce) := (hr.in1.in1 : Room (k + 1) X.A.in1.in1).deeper ce
    have frm : (X.A.in1.in1.deeper ce).frames = some (ce :: X.stack) := by
      show pushEnvs [ce] (X.A.in1.in1.frames) = _
      rw [show X.A.in1.in1.frames = some X.stack from I.ok.frames] <;> rfl
    have okY : (gnx X (X.A.in1.in1.deeper ce) s3 H3 ce fp x).Ok := gnx_ok I3 f3 hk (by rw [← hce]; rfl) (by rw [← hce]; rfl) (by rw [← hce]; exact I.ok.glob) (by rw [← hce]; rfl) (by rw [← hce]; rfl) (by rw [← hce]; rfl) rm.hd frm
    have ha0 : h'.get? h'.objs.size = none := Heap.get?_none_of_le (Nat.le_refl _)
    have hn3 : ∀ b, s3.heap.objs.size ≤ b → H3 b = none := fun b hb => I3.hok.fresh hb
    have kp5 : ∀ b o, s3.heap.get? b = some o → (h'.push oa).get? b = some o := fun b o e => Heap.get?_push_of_some _ (kp b o e)
    have hfree : oa.isFreed = false := by rw [← hoa]; rfl
    have ga : (h'.push oa).get? h'.objs.size = some oa := Heap.get?_push_size _ hfree
    have IY : L2.Inv (gnx X (X.A.in1.in1.deeper ce) s3 H3 ce fp x) [(h'.objs.size, oa)] [none] H3 { s3 with gens := s3.gens.push (.fresh (.compStart (.GeneratorExp elt [⟨.Name x px, iter, [], 0⟩] scope gpos) 0 (.ref it) .none ce)), toks := s3.toks + 1 + 1 + 1, heap := h'.push oa } := by
      have hl : ce.locals = s3.heap.objs.size := by rw [← hce]; rfl
      have hcl : ∀ y c, ce.cells.lookup y ≠ some c := by rw [← hce]; exact gen_clo hk
      refine ⟨okY, rfl, AllBare.push I3.bare rfl, Un.kept kp5, ⟨fun y => if y = ".0" then some (.ref it) else none, ?_, fun i y v q1 q2 => ?_⟩, fun y c q => absurd q (hcl y c), by show H3 ce.locals = none; rw [hl]; exact hn3 _ (Nat.le_refl _), fun y c q => absurd q (hcl y c), fun q hq => ?_, I3.hok.kept kp5, rfl⟩
      · show (h'.push oa).Ns ce.locals _
        rw [hl]
        exact hns.push oa
      · match i, q2 with
        | 0, q2 => simp at q2
        | i + 1, q2 => simp at q2
      · have hq : q = (h'.objs.size, oa) := by simpa [gnx] using hq
        subst hq
        refine ⟨ga, hn3 _ (by rw [hsz']; exact Nat.le_succ _), ?_, fun z => ?_, fun v z => ?_⟩
        · show h'.objs.size ≠ ce.locals
          rw [hl, hsz']; exact Nat.succ_ne_self _
        · have z : h'.objs.size ∈ frs X.stack := z
          obtain ⟨_, o, ho, _⟩ := I3.stack.mem z
          have := Heap.lt_size ho
          rw [hsz'] at this
          exact absurd (Nat.lt_of_succ_lt this) (Nat.lt_irrefl _)
        · have z : oa.data = .cell v := z
          rw [← hoa] at z
          cases z
    have S0 : GSt (gnx X (X.A.in1.in1.deeper ce) s3 H3 ce fp x) [(h'.objs.size, oa)] tn fp s3.gens.size 0 H3 { s3 with gens := s3.gens.push (.fresh (.compStart (.GeneratorExp elt [⟨.Name x px, iter, [], 0⟩] scope gpos) 0 (.ref it) .none ce)), toks := s3.toks + 1 + 1 + 1, heap := h'.push oa } :=
      ⟨IY, T.keep _ _ _ t3 fun b _ o e => kp5 b o e, fun b hb => (f3 b hb).1.1, by show s3.gens.size < (s3.gens.push _).size; rw [Array.size_push]; exact Nat.lt_succ_self _⟩
    have isg : ∀ i H' s', GSt (gnx X (X.A.in1.in1.deeper ce) s3 H3 ce fp x) [(h'.objs.size, oa)] tn fp s3.gens.size i H' s' → s'.heap.IsGen h'.objs.size s3.gens.size ∧ s'.heap.NoLimit := fun i H' s' z => by
      refine ⟨⟨oa, .str "<genexpr>" (s3.toks + 1), .str (X.env.qual ++ "<genexpr>") (s3.toks + 1 + 1), (z.inv.pin (h'.objs.size, oa) (List.mem_append_right _ List.mem_cons_self)).1, ?_⟩, z.inv.nolimit⟩
      rw [← hoa]
      exact ⟨rfl, rfl, rfl⟩
    refine Calls.spliced_nil ?_
    refine call_function_tree F.kind_all F.plain_all F.entry_all (F.args_all1 _) ?_
    unfold Builtin.«all»
    refine wpAny_bind (m := oneArg "all" _) (wpAny_pure ?_)
    refine wpAny_bind (wpAny_pyIter_gen (isg 0 H3 _ S0).1 ?_)
    refine wpAny_pure ⟨plainId_quiet F.plain_all_loop _, codeAny_mono (all_walks (B := X.A) (Qb := fun b H' => Q (.bl b) H') (Wf := Wf) hr.hd (by have := hr.dp; omega) isg (m0 + 1) 0 m0 H3 (.fresh (.compStart (.GeneratorExp elt [⟨.Name x px, iter, [], 0⟩] scope gpos) 0 (.ref it) .none ce)) _ (Nat.lt_succ_self _) w0 S0 (by simp) fun s'' hS'' => ⟨rfl, seg_begin T hS''.tn ?_⟩) fun r s9 hr9 => ?_⟩
    · exact seg_turns (X := X) (Y := gnx X (X.A.in1.in1.deeper ce) s3 H3 ce fp x) rfl rfl rfl rfl rfl rfl aov rfl (by rw [← hce]; exact h2) (fun b hb => hb) (fun q hq b hb z => by
          have hq : q = (h'.objs.size, oa) := by simpa using hq
          subst hq
          have := (f3 b hb).2
          have z : h'.objs.size = b := z
          rw [← z, hsz'] at this
          exact absurd (Nat.lt_of_succ_lt this) (Nat.lt_irrefl _)) T (pg_name (i := 0) (by show [x].Nodup; simp) rfl (.inl (by show ce.scope.names.lookup x = some .local; rw [← hce]; exact h5)) (.inr (by show ce.scope.names.lookup x = some .local; rw [← hce]; exact h5))) (hel _ _ _ _ _ rm (by rw [← hce]; rfl)) gt (m0 + 1) 0 m0 H3 _ _ (Nat.lt_succ_self _) w0 hS''
    · obtain ⟨b, H', rfl, I9, q9⟩ := hr9
      exact ⟨.bl b, H', I3.call' (ch := fp) I9.os I9.base I9.hok I9.bare fun b hb => ⟨(f3 b hb).1.2.2.2.1, (f3 b hb).1.2.1, (f3 b hb).1.2.2.2.2.1, (f3 b hb).1.2.2.2.2.2⟩, rfl, q9⟩
  cases hfc : codeAmong gpos ps.toList with
  | none =>
    refine wpAny_genexprCodeX hcode (cd2.code hP2 htr) (cd2.tab hP2) hfc fun c' h' tk hx3 hge hlt hco' _ htab' _ => ?_
    obtain ⟨o1, vs, f1, tf, fl, tg, inF, tx, tt, op, _, _, _, _, _, _, _, _, _, hrr, _⟩ := hco'
    exact cont _ h' tk _ hx3 (Nat.le_trans hge (Nat.le_of_lt hlt)) htab'.2 ⟨_, rfl⟩ hrr
  | some cv =>
    refine wpAny_genexprCode_hit hcode (cd2.code hP2 htr) hfc ?_
    exact cont cv s2.heap s2.toks ps (Heap.ExtBut.refl _ _) (Nat.le_refl _) hP2 ⟨#[], by simp⟩ htr
end
section
variable [Tabs] {K : PySem.W.Frag} {W : Ex → L2.St → Hp → Prop} {fe : M Val} {te : TE} {ti : TI} {fi : M Its1}
def boolV (x : Option (Gm × Except Ex Val)) : Option Bool := match x with
  | some (_, .ok (.im (.bool b))) => some b
  | _ => none
def allL (fe : M Val) : List PyData → Option Bool
  | [] => some true
  | d :: r => match boolV (fe [.im d]) with
    | some b => if b = true then allL fe r else some false
    | none => none
def eAllG (fi : M Its1) (fe : M Val) : M Val := bnd fi fun x => fun Γ => match bor x.2 Γ with
  | none => none
  | some _ => match allL fe x.1 with
    | some b => some (Γ, .ok (.im (.bool b)))
    | none => none
theorem boolV_ok {x : Option (Gm × Except Ex Val)} {b : Bool} (h : boolV x = some b) : ∃ Γ, x = some (Γ, .ok (.im (.bool b))) := by
  unfold boolV at h
  split at h
  · cases h; exact ⟨_, rfl⟩
  · cases h
theorem st_one {H : Hp} {x : V} {d : PyData} (h : Im K H x d) (ht : ∀ P ∈ Tabs.ps, GxR.TabG H P) : StOk K H ⟨fun _ _ => False⟩ [.im d] [some x] H where
  len := rfl
  ok := fun i s y a b => by
    match i, a, b with
    | 0, a, b => simp at a b; subst a b; exact ⟨x, rfl, h⟩
    | i + 1, a, b => simp at a
  uniq := fun i j s t p a b => by
    match i, a with
    | 0, a => simp at a; subst a; simp [muS] at b
    | i + 1, a => simp at a
  bosep := fun i ds p a => by
    match i, a with
    | 0, a => simp at a
    | i + 1, a => simp at a
  fresh := fun i ds p a => by
    match i, a with
    | 0, a => simp at a
    | i + 1, a => simp at a
  ioA := fun j p h => h.elim
  ioB := fun j ds p a => by
    match j, a with
    | 0, a => simp at a
    | j + 1, a => simp at a
  ioL := ⟨fun p ⟨_, h⟩ => h.elim, ht⟩
  frm := .refl fun p ⟨_, h⟩ => h.elim
theorem mu_one {x : Option V} {d : PyData} : Mu [.im d] [x] = fun _ => False := by
  funext p
  apply propext
  constructor
  · rintro ⟨i, s, a, b, _⟩
    match i, a with
    | 0, a => simp at a; subst a; simp [muS] at b
    | i + 1, a => simp at a
  · exact fun z => z.elim
theorem grow_tab {H H' : Hp} (g : Grow H H') {P : Addr} (h : GxR.TabG H P) : GxR.TabG H' P := by
  obtain ⟨ps, e, k⟩ := h
  rcases (g P _ e).2 (fun z => z) with q | ⟨p1, p2, z, q, k2⟩
  · exact ⟨ps, q, k⟩
  · cases z
    exact ⟨p2, q, k2 k⟩
theorem rt_allG {P : Addr} (hP : P ∈ Tabs.ps) (hi : RefI K W ti fi) (he : RefT K WF te fe) : RefT K W (tAllG P ti te) (eAllG fi fe) := ⟨fun H0 IO Γ σ H Γ' rr Q hs e hQ => by
  unfold eAllG at e
  rcases bnd_ok e with ⟨Γ1, ⟨items, bs⟩, e1, e2⟩ | ⟨x, e1, rfl⟩
  · refine hi.run H0 IO Γ σ H Γ1 _ _ hs e1 (fun x z => by cases z) fun items' bs' z J H1 p1 it => ?_
    cases z
    try dsimp only at e2
    split at e2
    · cases e2
    · rename_i Γ2 hb2
      split at e2
      · rename_i b hl
        cases e2
        refine ⟨p1.st.tabG hP, fun H2 ht => ?_⟩
        have g2 : Grow H1 H2 := tabbed_grow (p1.st.tabG hP) ht
        obtain ⟨n, G, Y, w, hn, hG, hY⟩ := it Γ2 hb2
        obtain ⟨st2, _⟩ := bor_ok p1.st hb2
        have fr : ∀ {Hx : Hp}, Grow H1 Hx → Frm (Mu Γ2 σ) H1 Hx := fun g => g.frm st2.lsts
        have fin : ∀ {Hx : Hp}, Grow H1 Hx → Q (.bl b) Hx := fun g => hQ _ _ (p1.fin g) ⟨rfl, .bl _⟩
        refine ⟨fun i m Hi => m = n - i ∧ i ≤ n ∧ Grow H1 Hi ∧ allL fe (items.drop i) = some b, ⟨n, by simp, Nat.zero_le _, g2, hl⟩, ?_⟩
        rintro i m Hi ⟨rfl, hin, gr, hq⟩
        by_cases hlt : i < n
        · refine .inr ⟨w.goes i Hi hlt (hG Hi (fr gr)), fun H' => Grow H1 H' ∧ allL fe (items.drop (i + 1)) = some b, fun H' ⟨g', q'⟩ => ⟨n - (i + 1), by omega, rfl, hlt, g', q'⟩, fun x H' hy => ?_⟩
          obtain ⟨gr', d, hd, kd⟩ := hY i Hi x H' hlt (fr gr) (w.yields i Hi x H' hlt (hG Hi (fr gr)) hy)
          rw [drop_cons hd] at hq
          unfold allL at hq
          split at hq
          · rename_i c hc
            obtain ⟨Γe, hfe⟩ := boolV_ok hc
            have gH' : Grow H1 H' := grow_trans gr gr'
            have sg := st_one kd fun P' hP' => grow_tab gH' (p1.st.tabG hP')
            refine he.run H' _ _ [some x] H' Γe (.ok (.im (.bool c))) _ sg hfe fun y H4 p4 k4 => ?_
            have hyb : y = .bl c := im_bl k4
            have g4 : Grow H' H4 := by
              have := p4.frm
              rw [mu_one] at this
              exact this
            refine ⟨c, hyb, ?_⟩
            cases c with
            | true =>
              rw [if_pos rfl] at hq ⊢
              exact ⟨grow_trans gH' g4, hq⟩
            | false =>
              rw [if_neg Bool.false_ne_true] at hq ⊢
              cases hq
              exact fin (grow_trans gH' g4)
          · cases hq
        · have : i = n := by omega
          subst this
          rw [hn, List.drop_length] at hq
          cases hq
          exact .inl ⟨w.stops Hi (hG Hi (fr gr)), fin gr⟩
      · cases e2
  · exact hi.run H0 IO Γ σ H Γ' _ _ hs e1 (fun y z H' p => by cases z; exact hQ H' p) fun items bs z => by cases z⟩
theorem wp_allG {Γ : Gm} {P : Val → Gm → Prop} : wpE (eAllG fi fe) Γ P = wpE fi Γ fun x Γ1 => oo (bor x.2 Γ1) fun _ => oo (allL fe x.1) fun b => P (.im (.bool b)) Γ1 := by
  unfold eAllG
  rw [wp_bnd]
  congr 1; funext x Γ1
  dsimp only [wpE]
  cases bor x.2 Γ1 with
  | none => rfl
  | some Γ2 =>
    dsimp only
    show _ = oo (allL fe x.1) _
    cases allL fe x.1 <;> rfl
end
end Vf
end

section
set_option Elab.async false
set_option linter.all false
set_option maxRecDepth 100000
set_option maxHeartbeats 4000000
namespace Lw
open PySem PySem.Spec PyProof.Rows L2 Vf
/-! ### mirrors -/
abbrev NN_table_of : List Str := ["schema", "name", "table"]
abbrev PP_table_of : List Str := ["schema", "name"]
abbrev NN_key_of : List Str := ["schema", "fact", "table", "name", "row"]
abbrev PP_key_of : List Str := ["schema", "fact"]
abbrev NN_law_draws : List Str := ["script", "many", "cells", "rest", "draws", "k", "at", "cell", "mixed"]
abbrev PP_law_draws : List Str := ["script", "many"]
abbrev NN_law_take : List Str := ["draws", "many"]
abbrev PP_law_take : List Str := ["draws", "many"]
abbrev NN_law_pick : List Str := ["draws", "row"]
abbrev PP_law_pick : List Str := ["draws", "row"]
abbrev NN_law_size : List Str := ["draws", "script", "kind", "number", "k"]
abbrev PP_law_size : List Str := ["draws", "script"]
abbrev NN_law_same : List Str := ["actual", "due", "k"]
abbrev PP_law_same : List Str := ["actual", "due"]
abbrev NN_law_words : List Str := ["draws", "many", "words", "k", "size", "word", "j", "other"]
abbrev PP_law_words : List Str := ["draws", "many"]
abbrev NN_law_any_value : List Str := ["draws", "script", "words"]
abbrev PP_law_any_value : List Str := ["draws", "script", "words"]
abbrev NN_law_any_schema : List Str := ["draws", "words", "many", "found", "name", "key", "rest"]
abbrev PP_law_any_schema : List Str := ["draws", "words"]
abbrev NN_law_any_facts : List Str := ["draws", "script", "schema", "words", "many", "facts", "values", "k", "table", "row", "alike", "j", "fact"]
abbrev PP_law_any_facts : List Str := ["draws", "script", "schema", "words", "many"]
abbrev NN_law_rekeyed : List Str := ["draws", "schema", "found", "table", "step"]
abbrev PP_law_rekeyed : List Str := ["draws", "schema"]
abbrev NN_place_of : List Str := ["schema", "fact"]
abbrev PP_place_of : List Str := ["schema", "fact"]
abbrev NN_blocks_of : List Str := ["schema", "store", "rows", "fact", "name", "key"]
abbrev PP_blocks_of : List Str := ["schema", "store"]
abbrev NN_law_key : List Str := ["value"]
abbrev PP_law_key : List Str := ["value"]
abbrev NN_law_row_key : List Str := ["row", "value"]
abbrev PP_law_row_key : List Str := ["row"]
abbrev NN_law_table : List Str := ["schema", "name", "table"]
abbrev PP_law_table : List Str := ["schema", "name"]
abbrev NN_law_key_of : List Str := ["schema", "fact"]
abbrev PP_law_key_of : List Str := ["schema", "fact"]
abbrev NN_law_fact_key : List Str := ["fact"]
abbrev PP_law_fact_key : List Str := ["fact"]
abbrev NN_law_store : List Str := ["facts", "found", "fact"]
abbrev PP_law_store : List Str := ["facts"]
abbrev NN_law_blocks : List Str := ["schema", "store", "found", "fact", "key"]
abbrev PP_law_blocks : List Str := ["schema", "store"]
abbrev NN_law_many_blocks : List Str := ["draws", "script", "words", "schema", "facts", "start", "k", "name", "j"]
abbrev PP_law_many_blocks : List Str := ["draws", "script"]
abbrev NN_law_some_store : List Str := ["draws", "script", "words", "schema"]
abbrev PP_law_some_store : List Str := ["draws", "script"]
abbrev NN_is_clean : List Str := ["schema", "store"]
abbrev PP_is_clean : List Str := ["schema", "store"]
abbrev NN_rivals_of : List Str := ["schema", "store", "fact", "place", "other"]
abbrev PP_rivals_of : List Str := ["schema", "store", "fact"]
abbrev NN_count_mendings : List Str := ["schema", "store", "many", "block"]
abbrev PP_count_mendings : List Str := ["schema", "store"]
abbrev NN_law_product : List Str := ["blocks", "many", "block"]
abbrev PP_law_product : List Str := ["blocks"]
abbrev NN_is_mending : List Str := ["schema", "store", "facts", "blocks", "fact", "block"]
abbrev PP_is_mending : List Str := ["schema", "store", "facts"]
abbrev NN_law_chosen : List Str := ["draws", "blocks", "block"]
abbrev PP_law_chosen : List Str := ["draws", "blocks"]
abbrev NN_law_is_mending : List Str := ["blocks", "facts", "k"]
abbrev PP_law_is_mending : List Str := ["blocks", "facts"]
abbrev NN_law_near_mending : List Str := ["draws", "blocks", "store", "mending", "facts", "at", "kind", "other"]
abbrev PP_law_near_mending : List Str := ["draws", "blocks", "store", "mending"]
abbrev NN_mending_at : List Str := ["schema", "store", "n", "left", "found", "name", "_", "rows", "index"]
abbrev PP_mending_at : List Str := ["schema", "store", "n"]
abbrev NN_law_mendings : List Str := ["schema", "store", "found", "block", "grown", "mending", "row"]
abbrev PP_law_mendings : List Str := ["schema", "store"]
abbrev NN_law_few_mendings : List Str := ["draws", "script", "words", "schema", "store", "k"]
abbrev PP_law_few_mendings : List Str := ["draws", "script"]
abbrev NN_number_of : List Str := ["schema", "store", "mending", "number", "fact", "block", "rows"]
abbrev PP_number_of : List Str := ["schema", "store", "mending"]
abbrev NN_law_digits : List Str := ["blocks", "mending", "number", "k"]
abbrev PP_law_digits : List Str := ["blocks", "mending"]
abbrev NN_law_at : List Str := ["blocks", "n", "found", "k", "block"]
abbrev PP_law_at : List Str := ["blocks", "n"]
abbrev NN_law_first_other : List Str := ["left", "right", "k"]
abbrev PP_law_first_other : List Str := ["left", "right"]
abbrev NN_law_follows : List Str := ["blocks", "left", "right", "at", "k", "rows"]
abbrev PP_law_follows : List Str := ["blocks", "left", "right"]
abbrev NN_exchanged : List Str := ["schema", "mending", "fact", "place", "old"]
abbrev PP_exchanged : List Str := ["schema", "mending", "fact"]
abbrev NN_law_has_each : List Str := ["blocks", "facts", "k", "row"]
abbrev PP_law_has_each : List Str := ["blocks", "facts"]
def m_table_of : MS :=
  (sSeq (sFor (eIter (eVar 0)) (gtName 2) (sIf (bVal (eOp2 eqD (eOp2 ixD (eVar 2) (eC (.int 0))) (eVar 1))) (sRet (eVar 2)) sNext))
    (sRet (eC .none)))
def D_table_of : FD := mkF0 (List.length NN_table_of) (List.length PP_table_of) m_table_of
def m_key_of : MS :=
  (sSeq (sAsg (gtTup 2 (gtCons (gtName 3) (gtCons (gtName 4) gtNil))) (eVar 1))
    (sSeq (sSet 2 (eCall [false, false] D_table_of (aCons (eVar 0) (aCons (eVar 3) aNil))))
    (sRet (eSl (eVar 4) oNone (oSome (eOp2 ixD (eVar 2) (eC (.int 1))))))))
def D_key_of : FD := mkF0 (List.length NN_key_of) (List.length PP_key_of) m_key_of
def m_law_draws : MS :=
  (sSeq (sSet 2 (eLc [7] (eIter (eVar 0)) (gtName 7) bYes (eCB intD (aCons (eVar 7) aNil))))
    (sSeq (sIf (bVal (eOp2 eqD (eCB lenD (aCons (eVar 2) aNil)) (eC (.int 0)))) (sDrop (eMut 2 appendM (aCons (eC (.int 0)) aNil))) sNext)
    (sSeq (sSet 3 (eCB listD (aCons (eVar 2) aNil)))
    (sSeq (sSet 4 (eLst aNil))
    (sSeq (sFor (eRange1 (aCons (eVar 1) aNil)) (gtName 5) (sSeq (sSet 6 (eOp2 modD (eVar 5) (eCB lenD (aCons (eVar 2) aNil))))
    (sIf (bVal (eOp2 (cmpI geI) (eOp2 ixD (eVar 2) (eVar 6)) (eOp2 powD (eC (.int 10)) (eC (.int 18))))) (sSeq (sDrop (eMut 4 appendM (aCons (eOp2 modD (eCB intD (aCons (eOp2 ixD (eVar 3) (eVar 6)) aNil)) (eC (.int 1000))) aNil)))
    (sSetIx 3 (eVar 6) (eOp2 fdivD (eOp2 ixD (eVar 3) (eVar 6)) (eC (.int 1000))))) (sSeq (sSet 8 (eOp2 modD (eCB intD (aCons (eOp2 addD (eOp2 addD (eOp2 mulD (eOp2 ixD (eVar 2) (eVar 6)) (eC (.int 48271))) (eOp2 mulD (eVar 5) (eC (.int 69621)))) (eC (.int 11))) aNil)) (eC (.int 2147483647))))
    (sDrop (eMut 4 appendM (aCons (eOp2 modD (eCB intD (aCons (eOp2 addD (eOp2 addD (eOp2 mulD (eVar 8) (eVar 8)) (eOp2 mulD (eC (.int 3)) (eVar 8))) (eVar 5)) aNil)) (eC (.int 1000003))) aNil)))))))
    (sSeq (sDrop (eMut 4 reverseM aNil))
    (sRet (eVar 4))))))))
def D_law_draws : FD := mkF0 (List.length NN_law_draws) (List.length PP_law_draws) m_law_draws
def m_law_take : MS :=
  (sSeq (sIf (bVal (eOp2 eqD (eCB lenD (aCons (eVar 0) aNil)) (eC (.int 0)))) (sRet (eC (.int 0))) sNext)
    (sRet (eOp2 modD (eCB intD (aCons (eMut 0 popM aNil) aNil)) (eVar 1))))
def D_law_take : FD := mkF0 (List.length NN_law_take) (List.length PP_law_take) m_law_take
def m_law_pick : MS :=
  (sRet (eOp2 ixD (eVar 1) (eCall [true, false] D_law_take (aCons (eVar 0) (aCons (eCB lenD (aCons (eVar 1) aNil)) aNil)))))
def D_law_pick : FD := mkF0 (List.length NN_law_pick) (List.length PP_law_pick) m_law_pick
def m_law_size : MS :=
  (sSeq (sSet 2 (eCall [true, false] D_law_take (aCons (eVar 0) (aCons (eC (.int 8)) aNil))))
    (sSeq (sIf (bVal (eOp2 ltD (eVar 2) (eC (.int 5)))) (sRet (eCall [true, false] D_law_take (aCons (eVar 0) (aCons (eC (.int 12)) aNil)))) sNext)
    (sSeq (sIf (bVal (eOp2 eqD (eVar 2) (eC (.int 5)))) (sRet (eCall [true, false] D_law_take (aCons (eVar 0) (aCons (eC (.int 100)) aNil)))) sNext)
    (sSeq (sIf (bOr (bVal (eOp2 eqD (eVar 2) (eC (.int 6)))) (bVal (eOp2 eqD (eCB lenD (aCons (eVar 1) aNil)) (eC (.int 0))))) (sSeq (sSet 3 (eC (.int 0)))
    (sSeq (sFor (eRange1 (aCons (eC (.int 5)) aNil)) (gtName 4) (sSet 3 (eOp2 addD (eOp2 mulD (eVar 3) (eC (.int 1000))) (eCall [true, false] D_law_take (aCons (eVar 0) (aCons (eC (.int 1000)) aNil))))))
    (sRet (eVar 3)))) sNext)
    (sRet (eCB absD (aCons (eCB intD (aCons (eOp2 ixD (eVar 1) (eCall [true, false] D_law_take (aCons (eVar 0) (aCons (eCB lenD (aCons (eVar 1) aNil)) aNil)))) aNil)) aNil)))))))
def D_law_size : FD := mkF0 (List.length NN_law_size) (List.length PP_law_size) m_law_size
def m_law_same (self : FD) : MS :=
  (sSeq (sIf (bTru (eIsi2 "tuple" "list" (eVar 1))) (sSeq (sIf (bOr (bVal (eOp2 neD (eIsi "tuple" (eVar 0)) (eIsi "tuple" (eVar 1)))) (bVal (eOp2 neD (eIsi "list" (eVar 0)) (eIsi "list" (eVar 1))))) (sRet (eC (.bool false))) sNext)
    (sSeq (sIf (bVal (eOp2 neD (eCB lenD (aCons (eVar 0) aNil)) (eCB lenD (aCons (eVar 1) aNil)))) (sRet (eC (.bool false))) sNext)
    (sRet (eOp2 niD (eC (.bool false)) (eLc [2] (eRange1 (aCons (eCB lenD (aCons (eVar 1) aNil)) aNil)) (gtName 2) bYes (eCall [false, false] self (aCons (eOp2 ixD (eVar 0) (eVar 2)) (aCons (eOp2 ixD (eVar 1) (eVar 2)) aNil)))))))) sNext)
    (sSeq (sIf (bOr (bVal (eOp2 neD (eIsi "bool" (eVar 0)) (eIsi "bool" (eVar 1)))) (bVal (eOp2 neD (eIsi "int" (eVar 0)) (eIsi "int" (eVar 1))))) (sRet (eC (.bool false))) sNext)
    (sSeq (sIf (bOr (bVal (eOp2 neD (eIsi "str" (eVar 0)) (eIsi "str" (eVar 1)))) (bVal (eOp2 neD (eOp2 isND (eVar 0) (eC .none)) (eOp2 isND (eVar 1) (eC .none))))) (sRet (eC (.bool false))) sNext)
    (sRet (eOp2 eqD (eVar 0) (eVar 1))))))
def D_law_same_n : Nat → FD
  | 0 => fun _ => none
  | n + 1 => mkF0 (List.length NN_law_same) (List.length PP_law_same) (m_law_same (D_law_same_n n))
def D_law_same : FD := D_law_same_n 12
def m_law_words : MS :=
  (sSeq (sSet 2 (eLst aNil))
    (sSeq (sFor (eRange1 (aCons (eVar 1) aNil)) (gtName 3) (sSeq (sSet 4 (eOp2 addD (eC (.int 1)) (eCall [true, false] D_law_take (aCons (eVar 0) (aCons (eC (.int 3)) aNil)))))
    (sSeq (sIf (bVal (eOp2 eqD (eCall [true, false] D_law_take (aCons (eVar 0) (aCons (eC (.int 9)) aNil))) (eC (.int 0)))) (sSet 4 (eOp2 addD (eOp2 addD (eVar 4) (eC (.int 3))) (eCall [true, false] D_law_take (aCons (eVar 0) (aCons (eC (.int 20)) aNil))))) sNext)
    (sSeq (sSet 5 (eMth joinD (eC (.str "")) (aCons (eLc [6] (eRange1 (aCons (eVar 4) aNil)) (gtName 6) bYes (eOp2 ixD (eC (.str "abcdefghijklmnopqrstuvwxyz")) (eCall [true, false] D_law_take (aCons (eVar 0) (aCons (eC (.int 26)) aNil))))) aNil)))
    (sSeq (sIf (bAnd (bVal (eOp2 (cmpI gtI) (eCB lenD (aCons (eVar 2) aNil)) (eC (.int 0)))) (bVal (eOp2 eqD (eCall [true, false] D_law_take (aCons (eVar 0) (aCons (eC (.int 6)) aNil))) (eC (.int 0))))) (sSet 5 (eOp2 addD (eCall [true, false] D_law_pick (aCons (eVar 0) (aCons (eVar 2) aNil))) (eOp2 ixD (eC (.str "abcdefghijklmnopqrstuvwxyz")) (eCall [true, false] D_law_take (aCons (eVar 0) (aCons (eC (.int 26)) aNil)))))) sNext)
    (sSeq (sIf (bVal (eOp2 inD (eVar 5) (eVar 2))) (sSet 5 (eOp2 mulD (eC (.str "z")) (eOp2 addD (eC (.int 1)) (eCB maxD (aCons (eLc [7] (eIter (eVar 2)) (gtName 7) bYes (eCB lenD (aCons (eVar 7) aNil))) aNil))))) sNext)
    (sDrop (eMut 2 appendM (aCons (eVar 5) aNil)))))))))
    (sRet (eVar 2))))
def D_law_words : FD := mkF0 (List.length NN_law_words) (List.length PP_law_words) m_law_words
def m_law_any_value : MS :=
  (sSeq (sIf (bVal (eOp2 eqD (eCall [true, false] D_law_take (aCons (eVar 0) (aCons (eC (.int 2)) aNil))) (eC (.int 0)))) (sRet (eCall [true, false] D_law_pick (aCons (eVar 0) (aCons (eVar 2) aNil)))) sNext)
    (sRet (eOp2 mulD (eCall [true, false] D_law_size (aCons (eVar 0) (aCons (eVar 1) aNil))) (eOp2 subD (eC (.int 1)) (eOp2 mulD (eC (.int 2)) (eCall [true, false] D_law_take (aCons (eVar 0) (aCons (eC (.int 2)) aNil))))))))
def D_law_any_value : FD := mkF0 (List.length NN_law_any_value) (List.length PP_law_any_value) m_law_any_value
def m_law_any_schema : MS :=
  (sSeq (sSet 2 (eOp2 addD (eC (.int 1)) (eCall [true, false] D_law_take (aCons (eVar 0) (aCons (eC (.int 4)) aNil)))))
    (sSeq (sIf (bVal (eOp2 eqD (eCall [true, false] D_law_take (aCons (eVar 0) (aCons (eC (.int 6)) aNil))) (eC (.int 0)))) (sSet 2 (eCall [true, false] D_law_take (aCons (eVar 0) (aCons (eC (.int 21)) aNil)))) sNext)
    (sSeq (sSet 3 (eLst aNil))
    (sSeq (sFor (eIter (eCB sortSD (aCons (eSl (eVar 1) oNone (oSome (eVar 2))) aNil))) (gtName 4) (sSeq (sSet 5 (eCall [true, false] D_law_take (aCons (eVar 0) (aCons (eC (.int 4)) aNil))))
    (sSeq (sSet 6 (eCall [true, false] D_law_take (aCons (eVar 0) (aCons (eC (.int 4)) aNil))))
    (sSeq (sIf (bVal (eOp2 eqD (eCall [true, false] D_law_take (aCons (eVar 0) (aCons (eC (.int 5)) aNil))) (eC (.int 0)))) (sSeq (sSet 5 (eCall [true, false] D_law_take (aCons (eVar 0) (aCons (eC (.int 9)) aNil))))
    (sSet 6 (eOp2 subD (eC (.int 8)) (eVar 5)))) sNext)
    (sDrop (eMut 3 appendM (aCons (eTup (aCons (eVar 4) (aCons (eVar 5) (aCons (eVar 6) aNil)))) aNil)))))))
    (sRet (eCB tupleD (aCons (eVar 3) aNil)))))))
def D_law_any_schema : FD := mkF0 (List.length NN_law_any_schema) (List.length PP_law_any_schema) m_law_any_schema
def m_law_any_facts : MS :=
  (sSeq (sSet 5 (eLst aNil))
    (sSeq (sSet 6 (eLc [7] (eRange1 (aCons (eC (.int 4)) aNil)) (gtName 7) bYes (eCall [true, false, false] D_law_any_value (aCons (eVar 0) (aCons (eVar 1) (aCons (eVar 3) aNil))))))
    (sSeq (sFor (eRange1 (aCons (eCall [true, false] D_law_take (aCons (eVar 0) (aCons (eOp2 addD (eVar 4) (eC (.int 1))) aNil))) aNil)) (gtName 7) (sIf (bVal (eOp2 (cmpI gtI) (eCB lenD (aCons (eVar 2) aNil)) (eC (.int 0)))) (sSeq (sSet 8 (eCall [true, false] D_law_pick (aCons (eVar 0) (aCons (eVar 2) aNil))))
    (sSeq (sSet 9 (eLc [11] (eRange1 (aCons (eOp2 addD (eOp2 ixD (eVar 8) (eC (.int 1))) (eOp2 ixD (eVar 8) (eC (.int 2)))) aNil)) (gtName 11) bYes (eCall [true, false] D_law_pick (aCons (eVar 0) (aCons (eVar 6) aNil)))))
    (sSeq (sSet 10 (eLc [12] (eIter (eVar 5)) (gtName 12) (bVal (eOp2 eqD (eOp2 ixD (eVar 12) (eC (.int 0))) (eOp2 ixD (eVar 8) (eC (.int 0))))) (eVar 12)))
    (sSeq (sIf (bAnd (bVal (eOp2 (cmpI gtI) (eCB lenD (aCons (eVar 10) aNil)) (eC (.int 0)))) (bVal (eOp2 eqD (eCall [true, false] D_law_take (aCons (eVar 0) (aCons (eC (.int 2)) aNil))) (eC (.int 0))))) (sSet 9 (eOp2 addD (eCB listD (aCons (eSl (eOp2 ixD (eCall [true, false] D_law_pick (aCons (eVar 0) (aCons (eVar 10) aNil))) (eC (.int 1))) oNone (oSome (eOp2 ixD (eVar 8) (eC (.int 1))))) aNil)) (eSl (eVar 9) (oSome (eOp2 ixD (eVar 8) (eC (.int 1)))) oNone))) sNext)
    (sDrop (eMut 5 appendM (aCons (eTup (aCons (eOp2 ixD (eVar 8) (eC (.int 0))) (aCons (eCB tupleD (aCons (eVar 9) aNil)) aNil))) aNil))))))) sNext))
    (sRet (eVar 5)))))
def D_law_any_facts : FD := mkF0 (List.length NN_law_any_facts) (List.length PP_law_any_facts) m_law_any_facts
def m_law_rekeyed : MS :=
  (sSeq (sSet 2 (eLst aNil))
    (sSeq (sFor (eIter (eVar 1)) (gtName 3) (sSeq (sSet 4 (eOp2 subD (eCall [true, false] D_law_take (aCons (eVar 0) (aCons (eC (.int 3)) aNil))) (eC (.int 1))))
    (sSeq (sIf (bOr (bVal (eOp2 ltD (eOp2 addD (eOp2 ixD (eVar 3) (eC (.int 1))) (eVar 4)) (eC (.int 0)))) (bVal (eOp2 ltD (eOp2 subD (eOp2 ixD (eVar 3) (eC (.int 2))) (eVar 4)) (eC (.int 0))))) (sSet 4 (eC (.int 0))) sNext)
    (sDrop (eMut 2 appendM (aCons (eTup (aCons (eOp2 ixD (eVar 3) (eC (.int 0))) (aCons (eOp2 addD (eOp2 ixD (eVar 3) (eC (.int 1))) (eVar 4)) (aCons (eOp2 subD (eOp2 ixD (eVar 3) (eC (.int 2))) (eVar 4)) aNil)))) aNil))))))
    (sRet (eCB tupleD (aCons (eVar 2) aNil)))))
def D_law_rekeyed : FD := mkF0 (List.length NN_law_rekeyed) (List.length PP_law_rekeyed) m_law_rekeyed
def m_place_of : MS :=
  (sRet (eTup (aCons (eOp2 ixD (eVar 1) (eC (.int 0))) (aCons (eCall [false, false] D_key_of (aCons (eVar 0) (aCons (eVar 1) aNil))) aNil))))
def D_place_of : FD := mkF0 (List.length NN_place_of) (List.length PP_place_of) m_place_of
def D_blocks_of : FD := D_blocks D_place_of
def m_law_key : MS :=
  (sRet (eTup (aCons (eCB intD (aCons (eIsi "str" (eVar 0)) aNil)) (aCons (eVar 0) aNil))))
def D_law_key : FD := mkF0 (List.length NN_law_key) (List.length PP_law_key) m_law_key
def m_law_row_key : MS :=
  (sRet (eLc [1] (eIter (eVar 0)) (gtName 1) bYes (eCall [false] D_law_key (aCons (eVar 1) aNil))))
def D_law_row_key : FD := mkF0 (List.length NN_law_row_key) (List.length PP_law_row_key) m_law_row_key
def m_law_table : MS :=
  (sSeq (sFor (eIter (eVar 0)) (gtName 2) (sIf (bVal (eOp2 eqD (eOp2 ixD (eVar 2) (eC (.int 0))) (eVar 1))) (sRet (eVar 2)) sNext))
    (sRet (eC .none)))
def D_law_table : FD := mkF0 (List.length NN_law_table) (List.length PP_law_table) m_law_table
def m_law_key_of : MS :=
  (sRet (eSl (eOp2 ixD (eVar 1) (eC (.int 1))) oNone (oSome (eOp2 ixD (eCall [false, false] D_law_table (aCons (eVar 0) (aCons (eOp2 ixD (eVar 1) (eC (.int 0))) aNil))) (eC (.int 1))))))
def D_law_key_of : FD := mkF0 (List.length NN_law_key_of) (List.length PP_law_key_of) m_law_key_of
def K_law_fact_key : KD := kTup (List.length NN_law_fact_key) (aCons (eOp2 ixD (eVar 0) (eC (.int 0))) (aCons (eCall [false] D_law_row_key (aCons (eOp2 ixD (eVar 0) (eC (.int 1))) aNil)) aNil))
def m_law_store : MS :=
  (sSeq (sSet 1 (eLst aNil))
    (sSeq (sFor (eIter (eSortK K_law_fact_key (eVar 0))) (gtName 2) (sIf (bVal (eOp2 niD (eVar 2) (eVar 1))) (sDrop (eMut 1 appendM (aCons (eVar 2) aNil))) sNext))
    (sRet (eCB tupleD (aCons (eVar 1) aNil)))))
def D_law_store : FD := mkF0 (List.length NN_law_store) (List.length PP_law_store) m_law_store
def m_law_blocks : MS :=
  (sSeq (sSet 2 (eLst aNil))
    (sSeq (sFor (eIter (eVar 1)) (gtName 3) (sSeq (sSet 4 (eCall [false, false] D_law_key_of (aCons (eVar 0) (aCons (eVar 3) aNil))))
    (sIf (bAnd (bVal (eOp2 (cmpI gtI) (eCB lenD (aCons (eVar 2) aNil)) (eC (.int 0)))) (bVal (eOp2 eqD (eSl (eOp2 ixD (eVar 2) (eOp1 negD (eC (.int 1)))) oNone (oSome (eC (.int 2)))) (eTup (aCons (eOp2 ixD (eVar 3) (eC (.int 0))) (aCons (eVar 4) aNil)))))) (sSetIx 2 (eOp1 negD (eC (.int 1))) (eTup (aCons (eOp2 ixD (eVar 3) (eC (.int 0))) (aCons (eVar 4) (aCons (eOp2 addD (eOp2 ixD (eOp2 ixD (eVar 2) (eOp1 negD (eC (.int 1)))) (eC (.int 2))) (eTup (aCons (eOp2 ixD (eVar 3) (eC (.int 1))) aNil))) aNil))))) (sDrop (eMut 2 appendM (aCons (eTup (aCons (eOp2 ixD (eVar 3) (eC (.int 0))) (aCons (eVar 4) (aCons (eTup (aCons (eOp2 ixD (eVar 3) (eC (.int 1))) aNil)) aNil)))) aNil))))))
    (sRet (eCB tupleD (aCons (eVar 2) aNil)))))
def D_law_blocks : FD := mkF0 (List.length NN_law_blocks) (List.length PP_law_blocks) m_law_blocks
def m_law_many_blocks : MS :=
  (sSeq (sSet 2 (eCall [true, false] D_law_words (aCons (eVar 0) (aCons (eC (.int 2)) aNil))))
    (sSeq (sSet 3 (eCB tupleD (aCons (eLc [7] (eIter (eCB sortSD (aCons (eVar 2) aNil))) (gtName 7) bYes (eTup (aCons (eVar 7) (aCons (eC (.int 1)) (aCons (eC (.int 1)) aNil))))) aNil)))
    (sSeq (sSet 4 (eLst aNil))
    (sSeq (sSet 5 (eOp2 subD (eC (.int 0)) (eCall [true, false] D_law_take (aCons (eVar 0) (aCons (eC (.int 30)) aNil)))))
    (sSeq (sFor (eRange1 (aCons (eOp2 addD (eC (.int 10)) (eCall [true, false] D_law_take (aCons (eVar 0) (aCons (eC (.int 31)) aNil)))) aNil)) (gtName 6) (sSeq (sSet 5 (eOp2 addD (eOp2 addD (eVar 5) (eC (.int 1))) (eCall [true, false] D_law_take (aCons (eVar 0) (aCons (eC (.int 4)) aNil)))))
    (sSeq (sSet 7 (eCall [true, false] D_law_pick (aCons (eVar 0) (aCons (eVar 2) aNil))))
    (sFor (eRange1 (aCons (eOp2 ixD (eLst (aCons (eC (.int 2)) (aCons (eC (.int 1)) (aCons (eC (.int 3)) (aCons (eC (.int 4)) (aCons (eC (.int 2)) aNil)))))) (eCall [true, false] D_law_take (aCons (eVar 0) (aCons (eC (.int 5)) aNil)))) aNil)) (gtName 8) (sDrop (eMut 4 appendM (aCons (eTup (aCons (eVar 7) (aCons (eTup (aCons (eVar 5) (aCons (eOp2 addD (eOp2 mulD (eC (.int 3)) (eVar 8)) (eVar 6)) aNil))) aNil))) aNil)))))))
    (sRet (eLst (aCons (eVar 3) (aCons (eCall [false] D_law_store (aCons (eVar 4) aNil)) aNil)))))))))
def D_law_many_blocks : FD := mkF0 (List.length NN_law_many_blocks) (List.length PP_law_many_blocks) m_law_many_blocks
def m_law_some_store : MS :=
  (sSeq (sIf (bVal (eOp2 eqD (eCall [true, false] D_law_take (aCons (eVar 0) (aCons (eC (.int 5)) aNil))) (eC (.int 0)))) (sRet (eCall [true, false] D_law_many_blocks (aCons (eVar 0) (aCons (eVar 1) aNil)))) sNext)
    (sSeq (sSet 2 (eCall [true, false] D_law_words (aCons (eVar 0) (aCons (eC (.int 21)) aNil))))
    (sSeq (sSet 3 (eCall [true, false] D_law_any_schema (aCons (eVar 0) (aCons (eVar 2) aNil))))
    (sRet (eLst (aCons (eVar 3) (aCons (eCall [false] D_law_store (aCons (eCall [true, false, false, false, false] D_law_any_facts (aCons (eVar 0) (aCons (eVar 1) (aCons (eVar 3) (aCons (eVar 2) (aCons (eC (.int 12)) aNil)))))) aNil)) aNil)))))))
def D_law_some_store : FD := mkF0 (List.length NN_law_some_store) (List.length PP_law_some_store) m_law_some_store
def m_is_clean : MS :=
  (sRet (eOp2 eqD (eCB lenD (aCons (eCall [false, false] D_blocks_of (aCons (eVar 0) (aCons (eVar 1) aNil))) aNil)) (eCB lenD (aCons (eVar 1) aNil))))
def D_is_clean : FD := mkF0 (List.length NN_is_clean) (List.length PP_is_clean) m_is_clean
def m_rivals_of : MS :=
  (sSeq (sSet 3 (eCall [false, false] D_place_of (aCons (eVar 0) (aCons (eVar 2) aNil))))
    (sRet (eCB tupleD (aCons (eLc [4] (eIter (eVar 1)) (gtName 4) (bAnd (bVal (eOp2 neD (eVar 4) (eVar 2))) (bVal (eOp2 eqD (eCall [false, false] D_place_of (aCons (eVar 0) (aCons (eVar 4) aNil))) (eVar 3)))) (eVar 4)) aNil))))
def D_rivals_of : FD := mkF0 (List.length NN_rivals_of) (List.length PP_rivals_of) m_rivals_of
def m_count_mendings : MS :=
  (sSeq (sSet 2 (eC (.int 1)))
    (sSeq (sFor (eIter (eCall [false, false] D_blocks_of (aCons (eVar 0) (aCons (eVar 1) aNil)))) (gtName 3) (sSet 2 (eOp2 mulD (eVar 2) (eCB lenD (aCons (eOp2 ixD (eVar 3) (eC (.int 2))) aNil)))))
    (sRet (eVar 2))))
def D_count_mendings : FD := mkF0 (List.length NN_count_mendings) (List.length PP_count_mendings) m_count_mendings
def m_law_product : MS :=
  (sSeq (sSet 1 (eC (.int 1)))
    (sSeq (sFor (eIter (eVar 0)) (gtName 2) (sSet 1 (eOp2 mulD (eVar 1) (eCB lenD (aCons (eOp2 ixD (eVar 2) (eC (.int 2))) aNil)))))
    (sRet (eVar 1))))
def D_law_product : FD := mkF0 (List.length NN_law_product) (List.length PP_law_product) m_law_product
def m_is_mending : MS :=
  (sSeq (sSet 3 (eCall [false, false] D_blocks_of (aCons (eVar 0) (aCons (eVar 1) aNil))))
    (sSeq (sIf (bVal (eOp2 neD (eCB lenD (aCons (eVar 2) aNil)) (eCB lenD (aCons (eVar 3) aNil)))) (sRet (eC (.bool false))) sNext)
    (sRet (eCB allD (aCons (eLc [4, 5] (eZip (aCons (eVar 2) (aCons (eVar 3) aNil))) (gtTup 2 (gtCons (gtName 4) (gtCons (gtName 5) gtNil))) bYes (eAndV (eOp2 eqD (eOp2 ixD (eVar 4) (eC (.int 0))) (eOp2 ixD (eVar 5) (eC (.int 0)))) (eOp2 inD (eOp2 ixD (eVar 4) (eC (.int 1))) (eOp2 ixD (eVar 5) (eC (.int 2)))))) aNil)))))
def D_is_mending : FD := mkF0 (List.length NN_is_mending) (List.length PP_is_mending) m_is_mending
def m_law_chosen : MS :=
  (sRet (eCB tupleD (aCons (eLc [2] (eIter (eVar 1)) (gtName 2) bYes (eTup (aCons (eOp2 ixD (eVar 2) (eC (.int 0))) (aCons (eCall [true, false] D_law_pick (aCons (eVar 0) (aCons (eOp2 ixD (eVar 2) (eC (.int 2))) aNil))) aNil)))) aNil)))
def D_law_chosen : FD := mkF0 (List.length NN_law_chosen) (List.length PP_law_chosen) m_law_chosen
def m_law_is_mending : MS :=
  (sSeq (sIf (bVal (eOp2 neD (eCB lenD (aCons (eVar 1) aNil)) (eCB lenD (aCons (eVar 0) aNil)))) (sRet (eC (.bool false))) sNext)
    (sSeq (sFor (eRange1 (aCons (eCB lenD (aCons (eVar 0) aNil)) aNil)) (gtName 2) (sIf (bOr (bVal (eOp2 neD (eOp2 ixD (eOp2 ixD (eVar 1) (eVar 2)) (eC (.int 0))) (eOp2 ixD (eOp2 ixD (eVar 0) (eVar 2)) (eC (.int 0))))) (bVal (eOp2 niD (eOp2 ixD (eOp2 ixD (eVar 1) (eVar 2)) (eC (.int 1))) (eOp2 ixD (eOp2 ixD (eVar 0) (eVar 2)) (eC (.int 2)))))) (sRet (eC (.bool false))) sNext))
    (sRet (eC (.bool true)))))
def D_law_is_mending : FD := mkF0 (List.length NN_law_is_mending) (List.length PP_law_is_mending) m_law_is_mending
def m_law_near_mending : MS :=
  (sSeq (sSet 4 (eCB listD (aCons (eVar 3) aNil)))
    (sSeq (sSet 5 (eCall [true, false] D_law_take (aCons (eVar 0) (aCons (eCB lenD (aCons (eVar 4) aNil)) aNil))))
    (sSeq (sSet 6 (eCall [true, false] D_law_take (aCons (eVar 0) (aCons (eC (.int 8)) aNil))))
    (sSeq (sIf (bVal (eOp2 eqD (eVar 6) (eC (.int 0)))) (sDrop (eMut 4 popM (aCons (eVar 5) aNil))) sNext)
    (sSeq (sIf (bVal (eOp2 eqD (eVar 6) (eC (.int 1)))) (sDrop (eMut 4 insertM (aCons (eVar 5) (aCons (eOp2 ixD (eVar 4) (eVar 5)) aNil)))) sNext)
    (sSeq (sIf (bVal (eOp2 eqD (eVar 6) (eC (.int 2)))) (sSeq (sSet 7 (eCall [true, false] D_law_take (aCons (eVar 0) (aCons (eCB lenD (aCons (eVar 4) aNil)) aNil))))
    (sSeq (sSetIx 4 (eVar 5) (eOp2 ixD (eVar 3) (eVar 7)))
    (sSetIx 4 (eVar 7) (eOp2 ixD (eVar 3) (eVar 5))))) sNext)
    (sSeq (sIf (bVal (eOp2 eqD (eVar 6) (eC (.int 3)))) (sDrop (eMut 4 insertM (aCons (eOp2 addD (eVar 5) (eCall [true, false] D_law_take (aCons (eVar 0) (aCons (eC (.int 2)) aNil)))) (aCons (eTup (aCons (eOp2 ixD (eOp2 ixD (eVar 1) (eVar 5)) (eC (.int 0))) (aCons (eCall [true, false] D_law_pick (aCons (eVar 0) (aCons (eOp2 ixD (eOp2 ixD (eVar 1) (eVar 5)) (eC (.int 2))) aNil))) aNil))) aNil)))) sNext)
    (sSeq (sIf (bVal (eOp2 eqD (eVar 6) (eC (.int 4)))) (sSetIx 4 (eVar 5) (eTup (aCons (eOp2 ixD (eOp2 ixD (eVar 1) (eVar 5)) (eC (.int 0))) (aCons (eCall [true, false] D_law_pick (aCons (eVar 0) (aCons (eOp2 ixD (eOp2 ixD (eVar 1) (eVar 5)) (eC (.int 2))) aNil))) aNil)))) sNext)
    (sSeq (sIf (bAnd (bVal (eOp2 eqD (eVar 6) (eC (.int 5)))) (bVal (eOp2 (cmpI gtI) (eCB lenD (aCons (eOp2 ixD (eOp2 ixD (eVar 4) (eVar 5)) (eC (.int 1))) aNil)) (eC (.int 0))))) (sSetIx 4 (eVar 5) (eTup (aCons (eOp2 ixD (eOp2 ixD (eVar 4) (eVar 5)) (eC (.int 0))) (aCons (eOp2 addD (eSl (eOp2 ixD (eOp2 ixD (eVar 4) (eVar 5)) (eC (.int 1))) oNone (oSome (eOp2 subD (eCB lenD (aCons (eOp2 ixD (eOp2 ixD (eVar 4) (eVar 5)) (eC (.int 1))) aNil)) (eC (.int 1))))) (eTup (aCons (eC (.str "zzzzzz")) aNil))) aNil)))) sNext)
    (sSeq (sIf (bVal (eOp2 eqD (eVar 6) (eC (.int 6)))) (sRet (eVar 2)) sNext)
    (sSeq (sIf (bVal (eOp2 eqD (eVar 6) (eC (.int 7)))) (sSetIx 4 (eVar 5) (eCall [true, false] D_law_pick (aCons (eVar 0) (aCons (eVar 2) aNil)))) sNext)
    (sRet (eCB tupleD (aCons (eVar 4) aNil))))))))))))))
def D_law_near_mending : FD := mkF0 (List.length NN_law_near_mending) (List.length PP_law_near_mending) m_law_near_mending
def m_mending_at : MS :=
  (sSeq (sIf (bVal (eOp2 ltD (eVar 2) (eC (.int 0)))) (sRet (eC .none)) sNext)
    (sSeq (sSet 3 (eVar 2))
    (sSeq (sSet 4 (eLst aNil))
    (sSeq (sFor (eIter (eRev (eCall [false, false] D_blocks_of (aCons (eVar 0) (aCons (eVar 1) aNil))))) (gtTup 3 (gtCons (gtName 5) (gtCons (gtName 6) (gtCons (gtName 7) gtNil)))) (sSeq (sAsg (gtTup 2 (gtCons (gtName 3) (gtCons (gtName 8) gtNil))) (eCB divmodD (aCons (eVar 3) (aCons (eCB lenD (aCons (eVar 7) aNil)) aNil))))
    (sDrop (eMut 4 appendM (aCons (eTup (aCons (eVar 5) (aCons (eOp2 ixD (eVar 7) (eVar 8)) aNil))) aNil)))))
    (sSeq (sIf (bVal (eOp2 (cmpI gtI) (eVar 3) (eC (.int 0)))) (sRet (eC .none)) sNext)
    (sRet (eCB tupleD (aCons (eRev (eVar 4)) aNil))))))))
def D_mending_at : FD := mkF0 (List.length NN_mending_at) (List.length PP_mending_at) m_mending_at
def m_law_mendings : MS :=
  (sSeq (sSet 2 (eLst (aCons (eTup aNil) aNil)))
    (sSeq (sFor (eIter (eCall [false, false] D_law_blocks (aCons (eVar 0) (aCons (eVar 1) aNil)))) (gtName 3) (sSeq (sSet 4 (eLst aNil))
    (sSeq (sFor (eIter (eVar 2)) (gtName 5) (sSet 4 (eOp2 addD (eVar 4) (eLc [6] (eIter (eOp2 ixD (eVar 3) (eC (.int 2)))) (gtName 6) bYes (eOp2 addD (eVar 5) (eTup (aCons (eTup (aCons (eOp2 ixD (eVar 3) (eC (.int 0))) (aCons (eVar 6) aNil))) aNil)))))))
    (sMv 2 4))))
    (sRet (eVar 2))))
def D_law_mendings : FD := mkF0 (List.length NN_law_mendings) (List.length PP_law_mendings) m_law_mendings
def m_law_few_mendings : MS :=
  (sSeq (sSet 2 (eCall [true, false] D_law_words (aCons (eVar 0) (aCons (eC (.int 6)) aNil))))
    (sSeq (sSet 3 (eCall [true, false] D_law_any_schema (aCons (eVar 0) (aCons (eSl (eVar 2) oNone (oSome (eC (.int 5)))) aNil))))
    (sSeq (sSet 4 (eCall [false] D_law_store (aCons (eCall [true, false, false, false, false] D_law_any_facts (aCons (eVar 0) (aCons (eVar 1) (aCons (eVar 3) (aCons (eVar 2) (aCons (eC (.int 11)) aNil)))))) aNil)))
    (sSeq (sFor (eRange1 (aCons (eC (.int 11)) aNil)) (gtName 5) (sIf (bVal (eOp2 (cmpI gtI) (eCall [false] D_law_product (aCons (eCall [false, false] D_law_blocks (aCons (eVar 3) (aCons (eVar 4) aNil))) aNil)) (eC (.int 60)))) (sSet 4 (eSl (eVar 4) oNone (oSome (eOp2 subD (eCB lenD (aCons (eVar 4) aNil)) (eC (.int 1)))))) sNext))
    (sRet (eLst (aCons (eVar 3) (aCons (eVar 4) aNil))))))))
def D_law_few_mendings : FD := mkF0 (List.length NN_law_few_mendings) (List.length PP_law_few_mendings) m_law_few_mendings
def m_number_of : MS :=
  (sSeq (sSet 3 (eC (.int 0)))
    (sSeq (sFor (eZip (aCons (eVar 2) (aCons (eCall [false, false] D_blocks_of (aCons (eVar 0) (aCons (eVar 1) aNil))) aNil))) (gtTup 2 (gtCons (gtName 4) (gtCons (gtName 5) gtNil))) (sSeq (sSet 6 (eOp2 ixD (eVar 5) (eC (.int 2))))
    (sSet 3 (eOp2 addD (eOp2 mulD (eVar 3) (eCB lenD (aCons (eVar 6) aNil))) (eIdx (eVar 6) (eOp2 ixD (eVar 4) (eC (.int 1))))))))
    (sRet (eVar 3))))
def D_number_of : FD := mkF0 (List.length NN_number_of) (List.length PP_number_of) m_number_of
def m_law_digits : MS :=
  (sSeq (sSet 2 (eC (.int 0)))
    (sSeq (sFor (eRange1 (aCons (eCB lenD (aCons (eVar 0) aNil)) aNil)) (gtName 3) (sSet 2 (eOp2 addD (eOp2 mulD (eVar 2) (eCB lenD (aCons (eOp2 ixD (eOp2 ixD (eVar 0) (eVar 3)) (eC (.int 2))) aNil))) (eIdx (eOp2 ixD (eOp2 ixD (eVar 0) (eVar 3)) (eC (.int 2))) (eOp2 ixD (eOp2 ixD (eVar 1) (eVar 3)) (eC (.int 1)))))))
    (sRet (eVar 2))))
def D_law_digits : FD := mkF0 (List.length NN_law_digits) (List.length PP_law_digits) m_law_digits
def m_law_at : MS :=
  (sSeq (sSet 2 (eLst aNil))
    (sSeq (sFor (eRange1 (aCons (eCB lenD (aCons (eVar 0) aNil)) aNil)) (gtName 3) (sSeq (sSet 4 (eOp2 ixD (eVar 0) (eOp2 subD (eOp2 subD (eCB lenD (aCons (eVar 0) aNil)) (eC (.int 1))) (eVar 3))))
    (sSeq (sDrop (eMut 2 appendM (aCons (eTup (aCons (eOp2 ixD (eVar 4) (eC (.int 0))) (aCons (eOp2 ixD (eOp2 ixD (eVar 4) (eC (.int 2))) (eOp2 modD (eCB intD (aCons (eVar 1) aNil)) (eCB lenD (aCons (eOp2 ixD (eVar 4) (eC (.int 2))) aNil)))) aNil))) aNil)))
    (sSet 1 (eOp2 fdivD (eVar 1) (eCB lenD (aCons (eOp2 ixD (eVar 4) (eC (.int 2))) aNil)))))))
    (sSeq (sDrop (eMut 2 reverseM aNil))
    (sRet (eCB tupleD (aCons (eVar 2) aNil))))))
def D_law_at : FD := mkF0 (List.length NN_law_at) (List.length PP_law_at) m_law_at
def m_law_first_other : MS :=
  (sSeq (sFor (eRange1 (aCons (eCB lenD (aCons (eVar 0) aNil)) aNil)) (gtName 2) (sIf (bVal (eOp2 neD (eOp2 ixD (eVar 0) (eVar 2)) (eOp2 ixD (eVar 1) (eVar 2)))) (sRet (eVar 2)) sNext))
    (sRet (eC .none)))
def D_law_first_other : FD := mkF0 (List.length NN_law_first_other) (List.length PP_law_first_other) m_law_first_other
def m_law_follows : MS :=
  (sSeq (sIf (bOr (bNot (bTru (eIsi "tuple" (eVar 2)))) (bVal (eOp2 neD (eCB lenD (aCons (eVar 2) aNil)) (eCB lenD (aCons (eVar 1) aNil))))) (sRet (eC (.bool false))) sNext)
    (sSeq (sSet 3 (eCall [false, false] D_law_first_other (aCons (eVar 1) (aCons (eVar 2) aNil))))
    (sSeq (sIf (bOr (bVal (eOp2 isND (eVar 3) (eC .none))) (bOr (bVal (eOp2 neD (eOp2 ixD (eOp2 ixD (eVar 2) (eVar 3)) (eC (.int 0))) (eOp2 ixD (eOp2 ixD (eVar 0) (eVar 3)) (eC (.int 0))))) (bVal (eOp2 niD (eOp2 ixD (eOp2 ixD (eVar 2) (eVar 3)) (eC (.int 1))) (eOp2 ixD (eOp2 ixD (eVar 0) (eVar 3)) (eC (.int 2))))))) (sRet (eC (.bool false))) sNext)
    (sSeq (sIf (bVal (eOp2 neD (eIdx (eOp2 ixD (eOp2 ixD (eVar 0) (eVar 3)) (eC (.int 2))) (eOp2 ixD (eOp2 ixD (eVar 2) (eVar 3)) (eC (.int 1)))) (eOp2 addD (eIdx (eOp2 ixD (eOp2 ixD (eVar 0) (eVar 3)) (eC (.int 2))) (eOp2 ixD (eOp2 ixD (eVar 1) (eVar 3)) (eC (.int 1)))) (eC (.int 1))))) (sRet (eC (.bool false))) sNext)
    (sSeq (sFor (eRange2 (aCons (eOp2 addD (eVar 3) (eC (.int 1))) (aCons (eCB lenD (aCons (eVar 0) aNil)) aNil))) (gtName 4) (sSeq (sSet 5 (eOp2 ixD (eOp2 ixD (eVar 0) (eVar 4)) (eC (.int 2))))
    (sIf (bOr (bVal (eOp2 neD (eOp2 ixD (eOp2 ixD (eVar 1) (eVar 4)) (eC (.int 1))) (eOp2 ixD (eVar 5) (eOp2 subD (eCB lenD (aCons (eVar 5) aNil)) (eC (.int 1)))))) (bNot (bTru (eCall [false, false] D_law_same (aCons (eOp2 ixD (eVar 2) (eVar 4)) (aCons (eTup (aCons (eOp2 ixD (eOp2 ixD (eVar 0) (eVar 4)) (eC (.int 0))) (aCons (eOp2 ixD (eVar 5) (eC (.int 0))) aNil))) aNil)))))) (sRet (eC (.bool false))) sNext)))
    (sRet (eC (.bool true))))))))
def D_law_follows : FD := mkF0 (List.length NN_law_follows) (List.length PP_law_follows) m_law_follows
def m_exchanged : MS :=
  (sSeq (sSet 3 (eCall [false, false] D_place_of (aCons (eVar 0) (aCons (eVar 2) aNil))))
    (sRet (eCB tupleD (aCons (eLc [4] (eIter (eVar 1)) (gtName 4) bYes (eIf (bVal (eOp2 eqD (eCall [false, false] D_place_of (aCons (eVar 0) (aCons (eVar 4) aNil))) (eVar 3))) (eVar 2) (eVar 4))) aNil))))
def D_exchanged : FD := mkF0 (List.length NN_exchanged) (List.length PP_exchanged) m_exchanged
def m_law_has_each : MS :=
  (sSeq (sIf (bOr (bNot (bTru (eIsi "tuple" (eVar 1)))) (bVal (eOp2 neD (eCB lenD (aCons (eVar 1) aNil)) (eCB lenD (aCons (eVar 0) aNil))))) (sRet (eC (.bool false))) sNext)
    (sSeq (sFor (eRange1 (aCons (eCB lenD (aCons (eVar 0) aNil)) aNil)) (gtName 2) (sIf (bVal (eOp2 niD (eOp2 ixD (eVar 1) (eVar 2)) (eLc [3] (eIter (eOp2 ixD (eOp2 ixD (eVar 0) (eVar 2)) (eC (.int 2)))) (gtName 3) bYes (eTup (aCons (eOp2 ixD (eOp2 ixD (eVar 0) (eVar 2)) (eC (.int 0))) (aCons (eVar 3) aNil)))))) (sRet (eC (.bool false))) sNext))
    (sRet (eC (.bool true)))))
def D_law_has_each : FD := mkF0 (List.length NN_law_has_each) (List.length PP_law_has_each) m_law_has_each
/-! ### end of mirrors -/
end Lw
end

section
set_option Elab.async false
set_option linter.all false
set_option maxRecDepth 100000
set_option maxHeartbeats 400000
namespace Lw
open PySem PySem.Spec PyProof.Rows L2 Vf
variable [Tabs]
local macro_rules | `(tactic| simp! only [$ls,*]) => `(tactic| simp -implicitDefEqProofs only [↓wp_var, ↓wp_c, ↓wp_op2, ↓wp_op1, ↓wp_aNil, ↓wp_aCons, ↓wp_cb, ↓wp_mut, ↓wp_mth, ↓wp_tup, ↓wp_lst, ↓wp_isi, ↓wp_isi2, ↓wp_bVal, ↓wp_bTru, ↓wp_bNot, ↓wp_bAnd, ↓wp_bOr, ↓wp_bYes, ↓wp_eIf, ↓wp_andV, ↓wp_orV, ↓wp_notV, ↓wp_oNone, ↓wp_oSome, ↓wp_sl, ↓wp_callC, ↓wp_sortK, ↓wp_zip, zp_t, ↓wp_rev, revT, revL, ↓wp_sMv, mvq_ow, ↓wp_idx, imT_t,  skv_l, ↓wp_allS, ↓wp_seq, sq_next, sq_ret, sq_brk, sq_cont, ↓wp_next, ↓wp_brk, ↓wp_cont, ↓wp_ret, ↓wp_retN, ↓wp_drop, ↓wp_sIf, ↓wp_sSet, ↓wp_sAsg, ↓wp_sSetIx, ↓wp_iter, ↓wp_range1, ↓wp_range2, ↓wp_forP, ↓wp_lcP, pr_mk, vr_im, vr_ow, vr_io, vr_bo, rdv_im, rdv_nw, rdv_sl, rsl_ow, rsl_io, rsl_bo, rdvs_nil, rdvs_cons, cons2_some, ims_nil, ims_cons, o2_some, oo_some, om_some, imS_str, blV_b, inV1_i, imV_im, itv_t, itv_s, itv_n, itv_l, itl_ow, itl_bo, rg1_i, rg2_i, toV_int, toV_bool, toV_str, toV_tuple, toV_none, toV_list,
  slotOf, setS_eq, sS_fre, fre_em, fre_im, fre_ow, fre_bo, getM_eq, gM_ow, gM_io, putL_eq, pL_ow, pL_io, putLs, rsV, slM, slB, arsOf, arOf_im, arOf_int, arOf_str, arOf_bool, arOf_none, arOf_tuple, arOf_nw, arOf_sl, arOf_m, arS_ow, arS_io, arS_bo, arM_ow, arM_io, resP_ret, resP_next, resOf_im, resOf_nw, resOf_sl, rso_ow, outsOf, initG, slotA, bor, unb, clr, rst, gtName, gtTup, gtCons, gtNil, outI_next, outI_cont, outI_brk, outI_ret,
  List.getElem?_cons_zero, List.getElem?_cons_succ, List.set_cons_zero, List.set_cons_succ, List.map_cons, List.map_nil, List.cons_append, List.nil_append, List.append_nil, List.length_cons, List.length_nil, List.replicate_succ, List.replicate_zero, Nat.sub_self, Nat.reduceAdd, Nat.reduceSub, Nat.reduceEqDiff, List.getElem?_nil, 
  eqD_int, neD_int, eqD_bool, neD_bool, addD_int, subD_int, ltD_int, leD_int, gtD_int, geD_int, intD_int, intD_bool, lenL, lenT, listD_l, listD_t, tupleD_l, tupleD_t, ixL_int, ixT_int, ixS_int, negD_int, truD_b, atI0, atI1, atI2, List.nodup_nil, List.nodup_cons, List.not_mem_nil, not_false_eq_true, false_imp_iff, implies_true, and_true, true_and, and_self, if_true, if_false, Bool.false_eq_true, reduceIte, List.mem_cons, or_false, false_or, forall_eq, forall_eq_or_imp, imm_int, imm_str, beq_iff_eq, bne_iff_ne, decide_eq_true_eq, Bool.not_eq_true', $ls,*])
local macro_rules | `(tactic| dsimp! only [$ls,*]) => `(tactic| simp -implicitDefEqProofs only [↓wp_sIfY, ↓wp_var, ↓wp_c, ↓wp_op2, ↓wp_op1, ↓wp_aNil, ↓wp_aCons, ↓wp_cb, ↓wp_mut, ↓wp_mth, ↓wp_tup, ↓wp_lst, ↓wp_isi, ↓wp_isi2, ↓wp_bVal, ↓wp_bTru, ↓wp_bNot, ↓wp_bAnd, ↓wp_bOr, ↓wp_bYes, ↓wp_eIf, ↓wp_andV, ↓wp_orV, ↓wp_notV, ↓wp_oNone, ↓wp_oSome, ↓wp_sl, ↓wp_callC, ↓wp_sortK, ↓wp_zip, zp_t, ↓wp_rev, revT, revL, ↓wp_sMv, mvq_ow, ↓wp_idx, imT_t,  skv_l, ↓wp_allS, ↓wp_seq, sq_next, sq_ret, sq_brk, sq_cont, ↓wp_next, ↓wp_brk, ↓wp_cont, ↓wp_ret, ↓wp_retN, ↓wp_drop, ↓wp_sSet, ↓wp_sAsg, ↓wp_sSetIx, ↓wp_iter, ↓wp_range1, ↓wp_range2, ↓wp_forP, ↓wp_lcP, pr_mk, vr_im, vr_ow, vr_io, vr_bo, rdv_im, rdv_nw, rdv_sl, rsl_ow, rsl_io, rsl_bo, rdvs_nil, rdvs_cons, cons2_some, ims_nil, ims_cons, o2_some, oo_some, om_some, imS_str, blV_b, inV1_i, imV_im, itv_t, itv_s, itv_n, itv_l, itl_ow, itl_bo, rg1_i, rg2_i, toV_int, toV_bool, toV_str, toV_tuple, toV_none, toV_list,
  slotOf, setS_eq, sS_fre, fre_em, fre_im, fre_ow, fre_bo, getM_eq, gM_ow, gM_io, putL_eq, pL_ow, pL_io, putLs, rsV, slM, slB, arsOf, arOf_im, arOf_int, arOf_str, arOf_bool, arOf_none, arOf_tuple, arOf_nw, arOf_sl, arOf_m, arS_ow, arS_io, arS_bo, arM_ow, arM_io, resP_ret, resP_next, resOf_im, resOf_nw, resOf_sl, rso_ow, outsOf, initG, slotA, bor, unb, clr, rst, gtName, gtTup, gtCons, gtNil, outI_next, outI_cont, outI_brk, outI_ret,
  List.getElem?_cons_zero, List.getElem?_cons_succ, List.set_cons_zero, List.set_cons_succ, List.map_cons, List.map_nil, List.cons_append, List.nil_append, List.append_nil, List.length_cons, List.length_nil, List.replicate_succ, List.replicate_zero, Nat.sub_self, Nat.reduceAdd, Nat.reduceSub, Nat.reduceEqDiff, List.getElem?_nil, 
  eqD_int, neD_int, eqD_bool, neD_bool, addD_int, subD_int, ltD_int, leD_int, gtD_int, geD_int, intD_int, intD_bool, lenL, lenT, listD_l, listD_t, tupleD_l, tupleD_t, ixL_int, ixT_int, ixS_int, negD_int, truD_b, atI0, atI1, atI2, List.nodup_nil, List.nodup_cons, List.not_mem_nil, not_false_eq_true, false_imp_iff, implies_true, and_true, true_and, and_self, if_true, if_false, Bool.false_eq_true, reduceIte, List.mem_cons, or_false, false_or, forall_eq, forall_eq_or_imp, imm_int, imm_str, beq_iff_eq, bne_iff_ne, decide_eq_true_eq, Bool.not_eq_true', $ls,*])
abbrev DI (ns : List Int) : List PyData := ns.map PyData.int
theorem take_spec {ns : List Int} {m : Int} (hm : 0 < m) {P : Rs → List (List PyData) → Prop} (h : ∀ v ns', 0 ≤ v → v < m → P (.v (.int v)) [DI ns']) : wpF D_law_take [.m (DI ns), .v (.int m)] P := by
  unfold D_law_take
  refine wp_F rfl ?_
  unfold m_law_take
  simp! only [true_and]
  rcases List.eq_nil_or_concat ns with rfl | ⟨l, x, rfl⟩
  · rw [if_pos (by simp)]
    exact h 0 [] (by omega) hm
  · rw [List.concat_eq_append, if_neg (by simp; omega), show DI (l ++ [x]) = DI l ++ [PyData.int x] by simp, popM_last]
    simp! only [true_and]
    rw [modD_int hm]
    simp! only [true_and]
    exact h _ l (Int.emod_nonneg _ (by omega)) (Int.emod_lt_of_pos _ hm)
theorem pick_spec {ns : List Int} {ds : List PyData} (hd : 0 < ds.length) (hi : immAll ds = true) {P : Rs → List (List PyData) → Prop} (h : ∀ d ns', d ∈ ds → P (.v d) [DI ns']) : wpF D_law_pick [.m (DI ns), .l ds] P := by
  unfold D_law_pick
  refine wp_F rfl ?_
  unfold m_law_pick
  simp! only [true_and]
  refine take_spec (by omega) fun v ns' h0 h1 => ?_
  simp! only [true_and]
  obtain ⟨d, e, _, hm⟩ := atI_in h0 h1
  rw [e]
  simp! only [toV_of (imm_of hi hm)]
  exact h _ _ hm
theorem size_spec {ns sc : List Int} {P : Rs → List (List PyData) → Prop} (h : ∀ v ns', 0 ≤ v → P (.v (.int v)) [DI ns']) : wpF D_law_size [.m (DI ns), .l (DI sc)] P := by
  unfold D_law_size
  refine wp_F rfl ?_
  unfold m_law_size
  simp! only [true_and]
  refine take_spec (by omega) fun v ns1 h0 h1 => ?_
  simp! only [true_and]
  split
  · refine take_spec (by omega) fun v ns2 h0 h1 => ?_
    simp! only [true_and]
    exact h _ _ h0
  split
  · refine take_spec (by omega) fun v ns2 h0 h1 => ?_
    simp! only [true_and]
    exact h _ _ h0
  have loop : ∀ ns1 : List Int, wpX
        (sLoop (gtName 4) (sSet 3 (eOp2 addD (eOp2 mulD (eVar 3) (eC (.int 1000))) (eCall [true, false] D_law_take (aCons (eVar 0) (aCons (eC (.int 1000)) aNil))))) (rng1 5))
        [Slot.io (DI ns1), Slot.bo (DI sc), Slot.im (PyData.int v), Slot.im (PyData.int 0), Slot.em] fun o Γ => o = .next ∧ ∃ ns2 u s, 0 ≤ u ∧ Γ = [Slot.io (DI ns2), Slot.bo (DI sc), Slot.im (PyData.int v), Slot.im (PyData.int u), s] := by
    intro ns1
    refine loopI (fun i Γ => ∃ ns2 u s, 0 ≤ u ∧ fre s ∧ Γ = [Slot.io (DI ns2), Slot.bo (DI sc), Slot.im (PyData.int v), Slot.im (PyData.int u), s]) ⟨ns1, 0, .em, by omega, by simp! only [true_and], rfl⟩ ?_ ?_
    · rintro i d Γ hi ⟨ns2, u, s, hu, hs, rfl⟩
      obtain ⟨rfl, _⟩ := rng1_get hi
      simp! only [hs, mulD_r (i := u) (j := 1000) (by omega)]
      refine take_spec (by omega) fun v ns3 h0 h1 => ?_
      simp! only [true_and]
      exact ⟨ns3, _, _, by omega, by simp! only [true_and], rfl⟩
    · rintro Γ ⟨ns2, u, s, hu, hs, rfl⟩
      exact ⟨rfl, ns2, u, s, hu, rfl⟩
  split
  · refine ⟨by omega, wpX_mono (loop _) ?_⟩
    rintro o Γ ⟨rfl, ns2, u, s, hu, rfl⟩
    simp! only [true_and]
    exact h _ _ hu
  split
  · refine ⟨by omega, wpX_mono (loop _) ?_⟩
    rintro o Γ ⟨rfl, ns2, u, s, hu, rfl⟩
    simp! only [true_and]
    exact h _ _ hu
  rename_i hz
  refine take_spec (by omega) fun q ns2 h0 h1 => ?_
  simp! only [true_and]
  obtain ⟨d, e, _, hm⟩ := atI_in h0 h1
  rw [e]
  obtain ⟨j, _, rfl⟩ := List.mem_map.mp hm
  simp! only [absD]
  exact h _ _ (by split <;> omega)
theorem draws_loop {sc : List Int} (hsc : sc.length ≤ 63) {n : Int} (hn : 0 ≤ n ∧ n ≤ 1000) : ∀ (cs : List Int), 0 < cs.length → cs.length ≤ 64 → wpX (sLoop (gtName 5) (sSeq (sSet 6 (eOp2 modD (eVar 5) (eCB lenD (aCons (eVar 2) aNil))))
    (sIf (bVal (eOp2 (cmpI geI) (eOp2 ixD (eVar 2) (eVar 6)) (eOp2 powD (eC (.int 10)) (eC (.int 18))))) (sSeq (sDrop (eMut 4 appendM (aCons (eOp2 modD (eCB intD (aCons (eOp2 ixD (eVar 3) (eVar 6)) aNil)) (eC (.int 1000))) aNil)))
    (sSetIx 3 (eVar 6) (eOp2 fdivD (eOp2 ixD (eVar 3) (eVar 6)) (eC (.int 1000))))) (sSeq (sSet 8 (eOp2 modD (eCB intD (aCons (eOp2 addD (eOp2 addD (eOp2 mulD (eOp2 ixD (eVar 2) (eVar 6)) (eC (.int 48271))) (eOp2 mulD (eVar 5) (eC (.int 69621)))) (eC (.int 11))) aNil)) (eC (.int 2147483647))))
    (sDrop (eMut 4 appendM (aCons (eOp2 modD (eCB intD (aCons (eOp2 addD (eOp2 addD (eOp2 mulD (eVar 8) (eVar 8)) (eOp2 mulD (eC (.int 3)) (eVar 8))) (eVar 5)) aNil)) (eC (.int 1000003))) aNil)))))) (rng1 n)) [Slot.bo (DI sc), Slot.im (PyData.int n), Slot.ow (DI cs), Slot.ow (DI cs), Slot.ow [], Slot.em, Slot.em, Slot.em, Slot.em] fun o Γ => o = .next ∧ ∃ rs ds s5 s6 s8, Γ = [Slot.bo (DI sc), Slot.im (PyData.int n), Slot.ow (DI cs), Slot.ow (DI rs), Slot.ow (DI ds), s5, s6, Slot.em, s8] := by
    intro cs c0 c1
    refine loopI (fun i Γ => ∃ rs ds s5 s6 s8, fre s5 ∧ fre s6 ∧ fre s8 ∧ rs.length = cs.length ∧ ds.length = i ∧ Γ = [Slot.bo (DI sc), Slot.im (PyData.int n), Slot.ow (DI cs), Slot.ow (DI rs), Slot.ow (DI ds), s5, s6, Slot.em, s8]) ⟨cs, [], .em, .em, .em, by simp! only [true_and], by simp! only [true_and], by simp! only [true_and], rfl, rfl, rfl⟩ ?_ ?_
    · rintro i d Γ hi ⟨rs, ds, s5, s6, s8, h5, h6, h8, hr, hd, rfl⟩
      obtain ⟨rfl, hi⟩ := rng1_get hi
      have hl : (((DI cs).length : Nat) : Int) = (cs.length : Int) := by simp
      simp! only [h5, h6, hl, modD_int (i := (i : Int)) (j := (cs.length : Int)) (by omega)]
      have hm0 : 0 ≤ (i : Int) % (cs.length : Int) := Int.emod_nonneg _ (by omega)
      have hm1 : (i : Int) % (cs.length : Int) < (cs.length : Int) := Int.emod_lt_of_pos _ (by omega)
      generalize (i : Int) % (cs.length : Int) = a at *
      obtain ⟨x, e, _, hx⟩ := atI_in (ds := DI cs) hm0 (by simpa using hm1)
      obtain ⟨x, _, rfl⟩ := List.mem_map.mp hx
      obtain ⟨y, e2, e3, hy⟩ := atI_in (ds := DI rs) hm0 (by simp; omega)
      obtain ⟨y, _, rfl⟩ := List.mem_map.mp hy
      have hp : powD (.int 10) (.int 18) = some (.int 1000000000000000000) := by simp [powD]
      rw [e]
      simp! only [hp, e, e2, modD_int (i := y) (j := 1000) (by omega), fdivD_int (i := y) (j := 1000) (by omega)]
      have hap : ∀ z : Int, appendM (DI ds) [.int z] = some (DI (ds ++ [z]), .none) := fun z => by
        rw [appendM_ok imm_int (by simp; omega)]; simp
      split
      · rw [hap]
        have hix : ixN (DI rs).length a = some a.toNat := by
          unfold ixN; rw [if_pos hm0, if_pos (by simp; omega)]
        rw [hix]
        simp! only [true_and]
        exact ⟨rs.set a.toNat (y / 1000), ds ++ [y % 1000], .im (.int i), .im (.int a), s8, fre_im.mpr trivial, fre_im.mpr trivial, h8, by simp [hr], by simp [hd], by simp only [List.map_set] <;> rfl⟩
      · simp! only [h8, mulD_r (i := x) (j := 48271) (by omega), mulD_r (i := (i : Int)) (j := 69621) (by omega), modD_int (j := 2147483647) (by omega)]
        generalize hz : (x * 48271 + (i : Int) * 69621 + 11) % 2147483647 = z
        have z0 : 0 ≤ z ∧ z < 2147483647 := by omega
        rw [mulD_r (i := z) (j := z) (by omega)]
        simp! only [true_and]
        rw [mulD_r (i := 3) (j := z) (by omega)]
        simp! only [modD_int (j := 1000003) (by omega), hap]
        exact ⟨rs, _, _, _, _, fre_im.mpr trivial, fre_im.mpr trivial, fre_im.mpr trivial, hr, by simp [hd], rfl⟩
    · rintro Γ ⟨rs, ds, s5, s6, s8, h5, h6, h8, hr, hd, rfl⟩
      exact ⟨rfl, rs, ds, s5, s6, s8, rfl⟩
theorem draws_spec {sc : List Int} (hsc : sc.length ≤ 63) {n : Int} (hn : 0 ≤ n ∧ n ≤ 1000) {P : Rs → List (List PyData) → Prop} (h : ∀ ns', P (.l (DI ns')) []) : wpF D_law_draws [.l (DI sc), .v (.int n)] P := by
  unfold D_law_draws
  refine wp_F rfl ?_
  unfold m_law_draws
  simp! only [true_and]
  refine lcI (fun i acc Γ => ∃ ns, acc = DI ns ∧ ns.length = i ∧ Γ = [Slot.bo (DI sc), Slot.im (.int n), .em, .em, .em, .em, .em, .em, .em]) ⟨[], rfl, rfl, rfl⟩ ?_ ?_
  · rintro i d acc Γ hi ⟨ns, rfl, hl, rfl⟩
    obtain ⟨j, _, rfl⟩ := List.mem_map.mp (get_mem hi)
    have hi' : i < (DI sc).length := (List.getElem?_eq_some_iff.mp hi).1
    simp at hi'
    simp! only [true_and]
    refine ⟨by simp; omega, ns ++ [j], by simp, by simp [hl], rfl⟩
  rintro acc Γ ⟨cs, rfl, hl, rfl⟩
  simp at hl
  have h5 : (-2 ^ 62 ≤ n ∧ n < 2 ^ 62) := by omega
  simp! only [true_and]
  cases cs with
  | nil =>
    rw [if_pos (by simp), show appendM (DI []) [PyData.int 0] = some (DI [0], .none) by simp [appendM, imm_int, small]]
    simp! only [true_and]
    refine ⟨by omega, h5, wpX_mono (draws_loop hsc hn [0] (by simp) (by simp)) ?_⟩
    rintro o Γ ⟨rfl, rs, ds, s5, s6, s8, rfl⟩
    simp! only [show reverseM (DI ds) [] = some (DI ds.reverse, .none) by simp [reverseM]]
    exact h _
  | cons c cs =>
    rw [if_neg (by simp; omega)]
    refine ⟨by omega, h5, wpX_mono (draws_loop hsc hn (c :: cs) (by simp) (by simp at hl ⊢; omega)) ?_⟩
    rintro o Γ ⟨rfl, rs, ds, s5, s6, s8, rfl⟩
    simp! only [show reverseM (DI ds) [] = some (DI ds.reverse, .none) by simp [reverseM]]
    exact h _
theorem alpha {v : Int} (h0 : 0 ≤ v) (h1 : v < 26) : ∃ c : Nat, ixS "abcdefghijklmnopqrstuvwxyz" v = some (.str ⟨#[c]⟩) ∧ c < 1114112 := by
  obtain ⟨n, rfl⟩ := Int.eq_ofNat_of_zero_le h0
  have hA : ("abcdefghijklmnopqrstuvwxyz" : Str).cps.toList = [97,98,99,100,101,102,103,104,105,106,107,108,109,110,111,112,113,114,115,116,117,118,119,120,121,122] := rfl
  have hl : n < ([97,98,99,100,101,102,103,104,105,106,107,108,109,110,111,112,113,114,115,116,117,118,119,120,121,122] : List Nat).length := by simp; omega
  refine ⟨([97,98,99,100,101,102,103,104,105,106,107,108,109,110,111,112,113,114,115,116,117,118,119,120,121,122] : List Nat)[n], ?_, ?_⟩
  · unfold ixS
    rw [hA, L2.atI_nat (List.getElem?_eq_getElem hl)]
    rfl
  · have : ∀ c ∈ ([97,98,99,100,101,102,103,104,105,106,107,108,109,110,111,112,113,114,115,116,117,118,119,120,121,122] : List Nat), c < 1114112 := by decide
    exact this _ (List.getElem_mem hl)
theorem ok_e : PyData.strOk "" = true := by
  show (Str.ofString "").cps.all _ = true
  rw [show (Str.ofString "").cps = #[] from rfl]; simp
theorem ok_z : PyData.strOk "z" = true := by
  show (Str.ofString "z").cps.all _ = true
  rw [show (Str.ofString "z").cps = #[122] from rfl]; simp
abbrev DS (ws : List Str) : List PyData := ws.map PyData.str
structure WOk (b : Nat) (ws : List Str) : Prop where
  nd : ws.Nodup
  ok : ∀ a ∈ ws, 1 ≤ a.length ∧ a.length ≤ b ∧ PyData.strOk a = true
theorem words_spec {ns : List Int} {many : Int} (hmany : 0 ≤ many ∧ many ≤ 30) {P : Rs → List (List PyData) → Prop} (h : ∀ ws ns', WOk 60 ws → ws.length = many.toNat → P (.l (DS ws)) [DI ns']) : wpF D_law_words [.m (DI ns), .v (.int many)] P := by
  unfold D_law_words
  refine wp_F rfl ?_
  unfold m_law_words
  simp! only [true_and]
  refine ⟨by omega, by omega, ?_⟩
  refine loopI (fun i Γ => ∃ ns ws s3 s4 s5, fre s3 ∧ fre s4 ∧ fre s5 ∧ ws.length = i ∧ WOk (30 + i) ws ∧ Γ = [.io (DI ns), .im (.int many), .ow (DS ws), s3, s4, s5, .em, .em]) ⟨ns, [], .em, .em, .em, by simp! only [true_and], by simp! only [true_and], by simp! only [true_and], rfl, ⟨by simp, by simp⟩, rfl⟩ ?_ ?_
  · rintro i d Γ hi ⟨ns, ws, s3, s4, s5, h3, h4, h5, hl, hw, rfl⟩
    obtain ⟨rfl, hi⟩ := rng1_get hi
    dsimp! only [h3, h4, h5]
    refine take_spec (by omega) fun v ns1 v0 v1 => ?_
    dsimp! only [h3, h4, h5]
    refine wp_mono (P := fun o Γ => IV (o = .next ∧ ∃ ns z, 1 ≤ z ∧ z ≤ 25 ∧ Γ = [.io (DI ns), .im (.int many), .ow (DS ws), .im (.int i), .im (.int z), s5, .em, .em])) ?_ ?_
    · simp! only [true_and]
      refine take_spec (by omega) fun v2 ns2 _ _ => ?_
      simp! only [true_and]
      split
      · refine take_spec (by omega) fun v3 ns3 _ _ => ?_
        simp! only [true_and]
        exact ⟨rfl, ns3, _, by omega, by omega, rfl⟩
      · exact ⟨rfl, ns2, _, by omega, by omega, rfl⟩
    rintro o Γ ⟨rfl, ns2, z, z0, z1, rfl⟩
    dsimp! only [h5]
    refine ⟨by omega, ?_⟩
    refine lcI (fun j acc Γ => ∃ ns cs, acc = DS cs ∧ cs.length = j ∧ (∀ c ∈ cs, c.length = 1 ∧ PyData.strOk c = true) ∧ Γ = [.io (DI ns), .im (.int many), .ow (DS ws), .im (.int i), .im (.int z), s5, .em, .em]) ⟨ns2, [], rfl, rfl, by simp, rfl⟩ ?_ ?_
    · rintro j d acc Γ hj ⟨ns, cs, rfl, hc, hcs, rfl⟩
      obtain ⟨rfl, hj⟩ := rng1_get hj
      simp! only [true_and]
      refine take_spec (by omega) fun v ns3 v0 v1 => ?_
      obtain ⟨c, e, hc'⟩ := alpha v0 v1
      simp! only [e]
      refine ⟨by simp; omega, ns3, cs ++ [⟨#[c]⟩], by simp, by simp [hc], ?_, rfl⟩
      intro a ha
      rcases List.mem_append.mp ha with ha | ha
      · exact hcs a ha
      · rw [List.mem_singleton.mp ha]; exact ⟨rfl, by simp [PyData.strOk, hc']⟩
    rintro acc Γ ⟨ns3, cs, rfl, hc, hcs, rfl⟩
    rw [rng1_len] at hc
    have hsum := sum_ones fun c hc => (hcs c hc).1
    have hlen : (Txt.join "" cs).length = cs.length := by
      have := @size_glued "" cs
      show (Builtin.Str.glued (Str.ofString "") cs).length = _
      rw [this, hsum, show (Str.ofString "").length = 0 from rfl]; omega
    have hok : PyData.strOk (Txt.join "" cs) = true := strOk_join ok_e fun c hc => (hcs c hc).2
    dsimp! only [h5, joinD_strs (a := "") (ss := cs) (by rw [hsum, show (Str.ofString "").length = 0 from rfl]; omega)]
    have a0 : 1 ≤ (Txt.join "" cs).length ∧ (Txt.join "" cs).length ≤ 25 := by omega
    clear hlen hsum hcs
    generalize (Txt.join "" cs) = a at *
    refine wp_mono (P := fun o Γ => IV (o = .next ∧ ∃ ns b, 1 ≤ b.length ∧ b.length ≤ 31 + i ∧ PyData.strOk b = true ∧ Γ = [.io (DI ns), .im (.int many), .ow (DS ws), .im (.int i), .im (.int z), .im (.str b), .em, .em])) ?_ ?_
    · simp! only [true_and]
      split
      · rename_i hp
        refine take_spec (by omega) fun v ns4 _ _ => ?_
        simp! only [true_and]
        split
        · refine pick_spec (ds := DS ws) (by simp at hp ⊢; omega) immAll_strs fun d ns5 hd => ?_
          obtain ⟨b, hb, rfl⟩ := List.mem_map.mp hd
          simp! only [true_and]
          refine take_spec (by omega) fun v ns6 v0 v1 => ?_
          obtain ⟨c, e, hc'⟩ := alpha v0 v1
          have hb' := hw.ok b hb
          have hl1 : ({ cps := #[c] } : Str).length = 1 := rfl
          simp! only [e, addD_str (a := b) (b := ⟨#[c]⟩) (by rw [hl1]; omega)]
          exact ⟨rfl, ns6, b ++ ⟨#[c]⟩, by rw [len_app]; omega, by rw [len_app, hl1]; omega, by rw [strOk_app, hb'.2.2]; simp [PyData.strOk, hc'], rfl⟩
        · exact ⟨rfl, ns4, a, by omega, by omega, hok, rfl⟩
      · exact ⟨rfl, ns3, a, by omega, by omega, hok, rfl⟩
    rintro o Γ ⟨rfl, ns4, b, b0, b1, b2, rfl⟩
    clear a0 hok
    dsimp! only [true_and]
    refine wp_mono (P := fun o Γ => IV (o = .next ∧ ∃ b, b ∉ ws ∧ 1 ≤ b.length ∧ b.length ≤ 31 + i ∧ PyData.strOk b = true ∧ Γ = [.io (DI ns4), .im (.int many), .ow (DS ws), .im (.int i), .im (.int z), .im (.str b), .em, .em])) ?_ ?_
    · simp! only [inD_strs]
      split
      · rename_i hin
        refine lcI (fun j acc Γ => acc = DI ((ws.take j).map fun a => (a.length : Int)) ∧ Γ = [.io (DI ns4), .im (.int many), .bo (DS ws), .im (.int i), .im (.int z), .im (.str b), .em, .em]) ⟨rfl, rfl⟩ ?_ ?_
        · rintro j d acc Γ hj ⟨rfl, rfl⟩
          have hj' : j < (DS ws).length := (List.getElem?_eq_some_iff.mp hj).1
          simp at hj'
          have : d = .str ws[j] := by
            have := (List.getElem?_eq_some_iff.mp hj).2
            rw [← this]; simp
          subst this
          have ho := hw.ok ws[j] (List.getElem_mem hj')
          simp! only [lenS (z := ws[j]) (by omega)]
          refine ⟨by simp; omega, ?_, rfl⟩
          rw [List.take_add_one, List.getElem?_eq_getElem hj']
          simp only [Option.toList_some, List.map_append, List.map_cons, List.map_nil]
        rintro acc Γ ⟨rfl, rfl⟩
        have : (DS ws).length = ws.length := by simp
        rw [this, List.take_length]
        have hL1 : ∀ m ∈ ws.map (fun a => (a.length : Int)), 1 ≤ m ∧ m ≤ 30 + i := fun m hm => by
          obtain ⟨a, ha, rfl⟩ := List.mem_map.mp hm
          have := hw.ok a ha; omega
        have hL2 : ∀ a ∈ ws, (a.length : Int) ∈ ws.map (fun a => (a.length : Int)) := fun a ha => List.mem_map.mpr ⟨a, ha, rfl⟩
        have hL3 : (ws.map (fun a => (a.length : Int))).length ≠ 0 := by
          have hin' : b ∈ ws := by simpa using hin
          have := List.length_pos_of_mem hin'
          intro e; rw [List.length_map] at e; omega
        generalize ws.map (fun a => (a.length : Int)) = L at *
        cases L with
        | nil => simp at hL3
        | cons m L =>
          have hx := maxL_ge (n := m) (ns := L)
          have hy : maxL m L ≤ 30 + i := maxL_le (hL1 m (by simp)).2 fun k hk => (hL1 k (by simp [hk])).2
          have hz : 1 ≤ maxL m L := Int.le_trans (hL1 m (by simp)).1 hx.1
          have hzz : ∀ a ∈ ws, (a.length : Int) ≤ maxL m L := fun a ha => by
            rcases List.mem_cons.mp (hL2 a ha) with e | e
            · rw [e]; exact hx.1
            · exact hx.2 _ e
          have hd : DI (m :: L) = (m :: L).map PyData.int := rfl
          generalize hq : DI (m :: L) = q at *
          simp! only [show maxD [.list q] = some (.int (maxL m L)) by rw [hd]; exact maxD_ints]
          generalize maxL m L = M at *
          have hl1 : (Str.ofString "z").length = 1 := rfl
          rw [mulD_str (a := "z") (n := 1 + M) ⟨by omega, by omega, by rw [hl1]; omega⟩]
          simp! only [true_and]
          have hlm := len_mul "z" (1 + M)
          rw [hl1, if_neg (by simp; omega)] at hlm
          refine ⟨rfl, Txt.mul "z" (1 + M), fun hc => ?_, by omega, by omega, strOk_mul ok_z _, rfl⟩
          have := hzz _ hc
          omega
      · rename_i hin
        exact ⟨rfl, b, by simpa using hin, by omega, by omega, b2, rfl⟩
    rintro o Γ ⟨rfl, b, hb, b0, b1, b2, rfl⟩
    simp! only [appendM_ok (ds := DS ws) (d := .str b) imm_str (by simp; omega)]
    refine ⟨ns4, ws ++ [b], _, _, _, fre_im.mpr trivial, fre_im.mpr trivial, fre_im.mpr trivial, by simp [hl], ⟨?_, ?_⟩, by simp only [List.map_append, List.map_cons, List.map_nil] <;> rfl⟩
    · rw [List.nodup_append]
      exact ⟨hw.nd, by simp, fun x hx y hy => by rw [List.mem_singleton.mp hy]; exact fun e => hb (e ▸ hx)⟩
    · intro x hx
      rcases List.mem_append.mp hx with hx | hx
      · have := hw.ok x hx; exact ⟨this.1, by have := this.2.1; omega, this.2.2⟩
      · rw [List.mem_singleton.mp hx]; exact ⟨b0, by omega, b2⟩
  · rintro Γ ⟨ns, ws, s3, s4, s5, h3, h4, h5, hl, hw, rfl⟩
    simp! only [true_and]
    rw [rng1_len] at hl hw
    exact h _ _ ⟨hw.nd, fun a ha => by have := hw.ok a ha; exact ⟨this.1, by have := this.2.1; omega, this.2.2⟩⟩ (by omega)
end Lw
end

section
set_option Elab.async false
set_option linter.all false
set_option maxRecDepth 100000
set_option maxHeartbeats 400000
namespace Lw
open PySem PySem.Spec PyProof.Rows L2 Vf
variable [Tabs]
local macro_rules | `(tactic| simp! only [$ls,*]) => `(tactic| simp -implicitDefEqProofs only [↓wp_var, ↓wp_c, ↓wp_op2, ↓wp_op1, ↓wp_aNil, ↓wp_aCons, ↓wp_cb, ↓wp_mut, ↓wp_mth, ↓wp_tup, ↓wp_lst, ↓wp_isi, ↓wp_isi2, ↓wp_bVal, ↓wp_bTru, ↓wp_bNot, ↓wp_bAnd, ↓wp_bOr, ↓wp_bYes, ↓wp_eIf, ↓wp_andV, ↓wp_orV, ↓wp_notV, ↓wp_oNone, ↓wp_oSome, ↓wp_sl, ↓wp_callC, ↓wp_sortK, ↓wp_zip, zp_t, ↓wp_rev, revT, revL, ↓wp_sMv, mvq_ow, ↓wp_idx, imT_t,  skv_l, ↓wp_allS, ↓wp_seq, sq_next, sq_ret, sq_brk, sq_cont, ↓wp_next, ↓wp_brk, ↓wp_cont, ↓wp_ret, ↓wp_retN, ↓wp_drop, ↓wp_sIf, ↓wp_sSet, ↓wp_sAsg, ↓wp_sSetIx, ↓wp_iter, ↓wp_range1, ↓wp_range2, ↓wp_forP, ↓wp_lcP, pr_mk, vr_im, vr_ow, vr_io, vr_bo, rdv_im, rdv_nw, rdv_sl, rsl_ow, rsl_io, rsl_bo, rdvs_nil, rdvs_cons, cons2_some, ims_nil, ims_cons, o2_some, oo_some, om_some, imS_str, blV_b, inV1_i, imV_im, itv_t, itv_s, itv_n, itv_l, itl_ow, itl_bo, rg1_i, rg2_i, toV_int, toV_bool, toV_str, toV_tuple, toV_none, toV_list,
  slotOf, setS_eq, sS_fre, fre_em, fre_im, fre_ow, fre_bo, getM_eq, gM_ow, gM_io, putL_eq, pL_ow, pL_io, putLs, rsV, slM, slB, arsOf, arOf_im, arOf_int, arOf_str, arOf_bool, arOf_none, arOf_tuple, arOf_nw, arOf_sl, arOf_m, arS_ow, arS_io, arS_bo, arM_ow, arM_io, resP_ret, resP_next, resOf_im, resOf_nw, resOf_sl, rso_ow, outsOf, initG, slotA, bor, unb, clr, rst, gtName, gtTup, gtCons, gtNil, outI_next, outI_cont, outI_brk, outI_ret,
  List.getElem?_cons_zero, List.getElem?_cons_succ, List.set_cons_zero, List.set_cons_succ, List.map_cons, List.map_nil, List.cons_append, List.nil_append, List.append_nil, List.length_cons, List.length_nil, List.replicate_succ, List.replicate_zero, Nat.sub_self, Nat.reduceAdd, Nat.reduceSub, Nat.reduceEqDiff, List.getElem?_nil, 
  eqD_int, neD_int, eqD_bool, neD_bool, addD_int, subD_int, ltD_int, leD_int, gtD_int, geD_int, intD_int, intD_bool, lenL, lenT, listD_l, listD_t, tupleD_l, tupleD_t, ixL_int, ixT_int, ixS_int, negD_int, truD_b, atI0, atI1, atI2, List.nodup_nil, List.nodup_cons, List.not_mem_nil, not_false_eq_true, false_imp_iff, implies_true, and_true, true_and, and_self, if_true, if_false, Bool.false_eq_true, reduceIte, List.mem_cons, or_false, false_or, forall_eq, forall_eq_or_imp, imm_int, imm_str, beq_iff_eq, bne_iff_ne, decide_eq_true_eq, Bool.not_eq_true', $ls,*])
local macro_rules | `(tactic| dsimp! only [$ls,*]) => `(tactic| simp -implicitDefEqProofs only [↓wp_sIfY, ↓wp_var, ↓wp_c, ↓wp_op2, ↓wp_op1, ↓wp_aNil, ↓wp_aCons, ↓wp_cb, ↓wp_mut, ↓wp_mth, ↓wp_tup, ↓wp_lst, ↓wp_isi, ↓wp_isi2, ↓wp_bVal, ↓wp_bTru, ↓wp_bNot, ↓wp_bAnd, ↓wp_bOr, ↓wp_bYes, ↓wp_eIf, ↓wp_andV, ↓wp_orV, ↓wp_notV, ↓wp_oNone, ↓wp_oSome, ↓wp_sl, ↓wp_callC, ↓wp_sortK, ↓wp_zip, zp_t, ↓wp_rev, revT, revL, ↓wp_sMv, mvq_ow, ↓wp_idx, imT_t,  skv_l, ↓wp_allS, ↓wp_seq, sq_next, sq_ret, sq_brk, sq_cont, ↓wp_next, ↓wp_brk, ↓wp_cont, ↓wp_ret, ↓wp_retN, ↓wp_drop, ↓wp_sSet, ↓wp_sAsg, ↓wp_sSetIx, ↓wp_iter, ↓wp_range1, ↓wp_range2, ↓wp_forP, ↓wp_lcP, pr_mk, vr_im, vr_ow, vr_io, vr_bo, rdv_im, rdv_nw, rdv_sl, rsl_ow, rsl_io, rsl_bo, rdvs_nil, rdvs_cons, cons2_some, ims_nil, ims_cons, o2_some, oo_some, om_some, imS_str, blV_b, inV1_i, imV_im, itv_t, itv_s, itv_n, itv_l, itl_ow, itl_bo, rg1_i, rg2_i, toV_int, toV_bool, toV_str, toV_tuple, toV_none, toV_list,
  slotOf, setS_eq, sS_fre, fre_em, fre_im, fre_ow, fre_bo, getM_eq, gM_ow, gM_io, putL_eq, pL_ow, pL_io, putLs, rsV, slM, slB, arsOf, arOf_im, arOf_int, arOf_str, arOf_bool, arOf_none, arOf_tuple, arOf_nw, arOf_sl, arOf_m, arS_ow, arS_io, arS_bo, arM_ow, arM_io, resP_ret, resP_next, resOf_im, resOf_nw, resOf_sl, rso_ow, outsOf, initG, slotA, bor, unb, clr, rst, gtName, gtTup, gtCons, gtNil, outI_next, outI_cont, outI_brk, outI_ret,
  List.getElem?_cons_zero, List.getElem?_cons_succ, List.set_cons_zero, List.set_cons_succ, List.map_cons, List.map_nil, List.cons_append, List.nil_append, List.append_nil, List.length_cons, List.length_nil, List.replicate_succ, List.replicate_zero, Nat.sub_self, Nat.reduceAdd, Nat.reduceSub, Nat.reduceEqDiff, List.getElem?_nil, 
  eqD_int, neD_int, eqD_bool, neD_bool, addD_int, subD_int, ltD_int, leD_int, gtD_int, geD_int, intD_int, intD_bool, lenL, lenT, listD_l, listD_t, tupleD_l, tupleD_t, ixL_int, ixT_int, ixS_int, negD_int, truD_b, atI0, atI1, atI2, List.nodup_nil, List.nodup_cons, List.not_mem_nil, not_false_eq_true, false_imp_iff, implies_true, and_true, true_and, and_self, if_true, if_false, Bool.false_eq_true, reduceIte, List.mem_cons, or_false, false_or, forall_eq, forall_eq_or_imp, imm_int, imm_str, beq_iff_eq, bne_iff_ne, decide_eq_true_eq, Bool.not_eq_true', $ls,*])
def VL (d : PyData) : Prop := (∃ j, d = .int j) ∨ ∃ a, d = .str a ∧ PyData.strOk a = true
theorem VL.imm {d : PyData} (h : VL d) : imm d = true := by
  rcases h with ⟨j, rfl⟩ | ⟨a, rfl, _⟩
  · exact imm_int
  · exact imm_str
theorem any_value_spec {ns sc : List Int} {ws : List Str} (hw : WOk 60 ws) (hl : 1 ≤ ws.length ∧ ws.length ≤ 40) {P : Rs → List (List PyData) → Prop} (h : ∀ d ns', VL d → P (.v d) [DI ns']) : wpF D_law_any_value [.m (DI ns), .l (DI sc), .l (DS ws)] P := by
  unfold D_law_any_value
  refine wp_F rfl ?_
  unfold m_law_any_value
  simp! only [true_and]
  refine take_spec (by omega) fun v ns1 v0 v1 => ?_
  simp! only [true_and]
  split
  · refine pick_spec (ds := DS ws) (by simp; omega) immAll_strs fun d ns2 hd => ?_
    obtain ⟨b, hb, rfl⟩ := List.mem_map.mp hd
    simp! only [true_and]
    exact h _ _ (.inr ⟨b, rfl, (hw.ok b hb).2.2⟩)
  · refine size_spec fun v ns2 v0 => ?_
    simp! only [true_and]
    refine take_spec (by omega) fun u ns3 u0 u1 => ?_
    simp! only [true_and]
    rw [mulD_r (i := 2) (j := u) (by omega)]
    simp! only [true_and]
    rw [mulD_r (i := v) (j := 1 - 2 * u) (by omega)]
    simp! only [true_and]
    exact h _ _ (.inl ⟨_, rfl⟩)
/-! tables: a name, the number of key columns, the number of the others -/
abbrev Tb := Str × Int × Int
abbrev tD (t : Tb) : PyData := .tuple [.str t.1, .int t.2.1, .int t.2.2]
abbrev TS (l : List Tb) : List PyData := l.map tD
structure SOk (l : List Tb) : Prop where
  nd : (l.map (·.1)).Nodup
  ok : ∀ t ∈ l, PyData.strOk t.1 = true ∧ 0 ≤ t.2.1 ∧ 0 ≤ t.2.2 ∧ t.2.1 + t.2.2 ≤ 8
theorem immAll_TS {l : List Tb} : immAll (TS l) = true := immAll_of fun d hd => by
  obtain ⟨t, _, rfl⟩ := List.mem_map.mp hd
  simp [imm, immAll]
theorem cut_to {α : Type} {ds : List α} {v : Int} (h : 0 ≤ v) : cutL ds none (some v) = ds.take v.toNat := by
  unfold cutL
  simp only [HT.sIx]
  rw [if_neg (by omega), List.drop_zero, Nat.sub_zero, List.take_eq_take_iff]
  omega
theorem cut_from {α : Type} {ds : List α} {v : Int} (h : 0 ≤ v) : cutL ds (some v) none = ds.drop v.toNat := by
  unfold cutL
  simp only [HT.sIx]
  rw [if_neg (by omega), List.take_of_length_le (by rw [List.length_drop]; omega)]
  by_cases hh : v.toNat ≤ ds.length
  · rw [Nat.min_eq_left hh]
  · rw [Nat.min_eq_right (by omega), List.drop_of_length_le (by omega), List.drop_of_length_le (by omega)]
theorem any_schema_spec {ns : List Int} {ws : List Str} (hw : WOk 60 ws) (hl : 1 ≤ ws.length ∧ ws.length ≤ 40) {P : Rs → List (List PyData) → Prop} (h : ∀ l ns', SOk l → l.length ≤ 21 → P (.v (.tuple (TS l))) [DI ns']) : wpF D_law_any_schema [.m (DI ns), .l (DS ws)] P := by
  unfold D_law_any_schema
  refine wp_F rfl ?_
  unfold m_law_any_schema
  dsimp! only [true_and]
  refine take_spec (by omega) fun v ns1 v0 v1 => ?_
  dsimp! only [true_and]
  refine wp_mono (P := fun o Γ => IV (o = .next ∧ ∃ ns z, 0 ≤ z ∧ z ≤ 20 ∧ Γ = [.io (DI ns), .bo (DS ws), .im (.int z), .em, .em, .em, .em])) ?_ ?_
  · simp! only [true_and]
    refine take_spec (by omega) fun v2 ns2 _ _ => ?_
    simp! only [true_and]
    split
    · refine take_spec (by omega) fun v3 ns3 _ _ => ?_
      simp! only [true_and]
      exact ⟨rfl, ns3, _, by omega, by omega, rfl⟩
    · exact ⟨rfl, ns2, _, by omega, by omega, rfl⟩
  rintro o Γ ⟨rfl, ns2, z, z0, z1, rfl⟩
  have hsl : slD (.list (DS ws)) none (some z) = some (.list (DS (ws.take z.toNat))) := by
    show some (PyData.list (cutL _ _ _)) = _
    rw [cut_to z0]; simp only [DS, List.map_take]
  have hso : sortSD [.list (DS (ws.take z.toNat))] = some (.list (DS (sortStrs (ws.take z.toNat)))) := by
    simp only [sortSD, strsOf_map]
    rw [if_pos (by rw [List.length_take]; omega)]
  simp! only [hsl, hso]
  have hp := sortStrs_perm (ws.take z.toNat)
  have hnd : (sortStrs (ws.take z.toNat)).Nodup := hp.nodup_iff.mpr (hw.nd.sublist (List.take_sublist _ _))
  have hok : ∀ a ∈ sortStrs (ws.take z.toNat), PyData.strOk a = true := fun a ha => (hw.ok a (List.mem_of_mem_take (hp.mem_iff.mp ha))).2.2
  have hln : (sortStrs (ws.take z.toNat)).length ≤ 21 := by rw [hp.length_eq, List.length_take]; omega
  clear hp hsl hso
  generalize sortStrs (ws.take z.toNat) = names at *
  refine ⟨by omega, ?_⟩
  refine loopI (fun i Γ => ∃ ns l s4 s5 s6, fre s4 ∧ fre s5 ∧ fre s6 ∧ l.map (·.1) = names.take i ∧ (∀ t ∈ l, PyData.strOk t.1 = true ∧ 0 ≤ t.2.1 ∧ 0 ≤ t.2.2 ∧ t.2.1 + t.2.2 ≤ 8) ∧ Γ = [.io (DI ns), .bo (DS ws), .im (.int z), .ow (TS l), s4, s5, s6]) ⟨ns2, [], .em, .em, .em, by simp! only [true_and], by simp! only [true_and], by simp! only [true_and], rfl, by simp, rfl⟩ ?_ ?_
  · rintro i d Γ hi ⟨ns, l, s4, s5, s6, h4, h5, h6, hln, hlo, rfl⟩
    have hi' : i < (DS names).length := (List.getElem?_eq_some_iff.mp hi).1
    simp at hi'
    have : d = .str names[i] := by
      have := (List.getElem?_eq_some_iff.mp hi).2
      rw [← this]; simp
    subst this
    have hlc : l.length ≤ 21 := by
      have := congrArg List.length hln
      rw [List.length_map, List.length_take] at this; omega
    dsimp! only [h4]
    refine take_spec (by omega) fun k ns3 k0 k1 => ?_
    dsimp! only [h5]
    refine take_spec (by omega) fun r ns4 r0 r1 => ?_
    dsimp! only [h6]
    refine wp_mono (P := fun o Γ => IV (o = .next ∧ ∃ ns k r, 0 ≤ k ∧ 0 ≤ r ∧ k + r ≤ 8 ∧ Γ = [.io (DI ns), .bo (DS ws), .im (.int z), .ow (TS l), .im (.str names[i]), .im (.int k), .im (.int r)])) ?_ ?_
    · simp! only [true_and]
      refine take_spec (by omega) fun v2 ns5 _ _ => ?_
      simp! only [true_and]
      split
      · refine take_spec (by omega) fun v3 ns6 _ _ => ?_
        simp! only [true_and]
        exact ⟨rfl, ns6, _, _, by omega, by omega, by omega, rfl⟩
      · exact ⟨rfl, ns5, _, _, k0, r0, by omega, rfl⟩
    rintro o Γ ⟨rfl, ns5, k, r, k0, r0, kr, rfl⟩
    simp! only [true_and]
    refine ⟨by omega, ?_⟩
    rw [appendM_ok (by simp [imm, immAll]) (by simp; omega)]
    simp! only [true_and]
    refine ⟨ns5, l ++ [(names[i], k, r)], _, _, _, fre_im.mpr trivial, fre_im.mpr trivial, fre_im.mpr trivial, ?_, ?_, by simp only [List.map_append, List.map_cons, List.map_nil] <;> rfl⟩
    · rw [List.map_append, hln, List.take_add_one, List.getElem?_eq_getElem hi']; rfl
    · intro t ht
      rcases List.mem_append.mp ht with ht | ht
      · exact hlo t ht
      · rw [List.mem_singleton.mp ht]
        exact ⟨hok _ (List.getElem_mem hi'), k0, r0, kr⟩
  · rintro Γ ⟨ns, l, s4, s5, s6, h4, h5, h6, hl', hlo, rfl⟩
    simp! only [true_and]
    rw [List.length_map, List.take_length] at hl'
    refine h _ _ ⟨by rw [hl']; exact hnd, hlo⟩ ?_
    have := congrArg List.length hl'
    rw [List.length_map] at this; omega
theorem pickT_spec {ns : List Int} {ds : List PyData} (hd : 0 < ds.length) (hi : immAll ds = true) {P : Rs → List (List PyData) → Prop} (h : ∀ d ns', d ∈ ds → P (.v d) [DI ns']) : wpF D_law_pick [.m (DI ns), .v (.tuple ds)] P := by
  unfold D_law_pick
  refine wp_F rfl ?_
  unfold m_law_pick
  simp! only [true_and]
  refine take_spec (by omega) fun v ns' h0 h1 => ?_
  simp! only [true_and]
  obtain ⟨d, e, _, hm⟩ := atI_in h0 h1
  rw [e]
  simp! only [toV_of (imm_of hi hm)]
  exact h _ _ hm
abbrev Fc := Str × List PyData
abbrev fD (f : Fc) : PyData := .tuple [.str f.1, .tuple f.2]
abbrev FS (l : List Fc) : List PyData := l.map fD
structure FOk (l : List Tb) (f : Fc) : Prop where
  nm : PyData.strOk f.1 = true
  tb : ∃ t ∈ l, t.1 = f.1 ∧ (f.2.length : Int) = t.2.1 + t.2.2
  vl : ∀ d ∈ f.2, VL d
theorem imm_fD {f : Fc} (h : ∀ d ∈ f.2, VL d) : imm (fD f) = true := by
  have := immAll_of fun d hd => (h d hd).imm
  simp [imm, immAll, this]
theorem uniq {l : List Tb} (h : (l.map (·.1)).Nodup) {s t : Tb} (hs : s ∈ l) (ht : t ∈ l) (e : s.1 = t.1) : s = t := by
  induction l with
  | nil => cases hs
  | cons a l ih =>
    rw [List.map_cons, List.nodup_cons] at h
    rcases List.mem_cons.mp hs with hs' | hs'
    · rcases List.mem_cons.mp ht with ht' | ht'
      · rw [hs', ht']
      · exact absurd (List.mem_map.mpr ⟨t, ht', by rw [← e, hs']⟩) h.1
    · rcases List.mem_cons.mp ht with ht' | ht'
      · exact absurd (List.mem_map.mpr ⟨s, hs', by rw [e, ht']⟩) h.1
      · exact ih h.2 hs' ht'
theorem slT_to {ds : List PyData} {v : Int} (h : 0 ≤ v) : slD (.tuple ds) none (some v) = some (.tuple (ds.take v.toNat)) := by
  show some (PyData.tuple (cutL _ _ _)) = _
  rw [cut_to h]
theorem slL_from {ds : List PyData} {v : Int} (h : 0 ≤ v) : slD (.list ds) (some v) none = some (.list (ds.drop v.toNat)) := by
  show some (PyData.list (cutL _ _ _)) = _
  rw [cut_from h]
theorem addD_list {a b : List PyData} (h : a.length + b.length ≤ 1000000) : addD (.list a) (.list b) = some (.list (a ++ b)) := by
  show (if small _ = true then _ else _) = _
  rw [if_pos (by simpa [small] using h)]
theorem any_facts_spec {ns sc : List Int} {ws : List Str} {l : List Tb} (hw : WOk 60 ws) (hwl : 1 ≤ ws.length ∧ ws.length ≤ 40) (hl : SOk l) {many : Int} (hmany : 0 ≤ many ∧ many ≤ 60) {P : Rs → List (List PyData) → Prop} (h : ∀ fs ns', (∀ f ∈ fs, FOk l f) → fs.length ≤ many.toNat → P (.l (FS fs)) [DI ns']) : wpF D_law_any_facts [.m (DI ns), .l (DI sc), .v (.tuple (TS l)), .l (DS ws), .v (.int many)] P := by
  unfold D_law_any_facts
  refine wp_F rfl ?_
  unfold m_law_any_facts
  dsimp! only [true_and]
  refine ⟨by omega, by omega, ?_⟩
  refine lcI (fun j acc Γ => ∃ ns, acc.length = j ∧ (∀ d ∈ acc, VL d) ∧ Γ = [.io (DI ns), .bo (DI sc), .im (.tuple (TS l)), .bo (DS ws), .im (.int many), .ow [], .em, .em, .em, .em, .em, .em, .em]) ⟨ns, rfl, by simp, rfl⟩ ?_ ?_
  · rintro j d acc Γ hj ⟨ns, ha, hv, rfl⟩
    obtain ⟨rfl, hj⟩ := rng1_get hj
    simp! only [true_and]
    refine any_value_spec hw hwl fun d ns2 hd => ?_
    simp! only [true_and]
    refine ⟨by omega, ns2, by simp [ha], ?_, rfl⟩
    intro x hx
    rcases List.mem_append.mp hx with hx | hx
    · exact hv x hx
    · rw [List.mem_singleton.mp hx]; exact hd
  rintro vals Γ ⟨ns1, hvl, hvv, rfl⟩
  rw [rng1_len] at hvl
  have hvi : immAll vals = true := immAll_of fun d hd => (hvv d hd).imm
  dsimp! only [true_and]
  refine take_spec (by omega) fun n ns2 n0 n1 => ?_
  dsimp! only [true_and]
  refine ⟨by omega, ?_⟩
  refine loopI (fun i Γ => ∃ ns fs s7 s8 s9 s10, fre s7 ∧ fre s8 ∧ fre s9 ∧ fre s10 ∧ fs.length ≤ i ∧ (∀ f ∈ fs, FOk l f) ∧ Γ = [.io (DI ns), .bo (DI sc), .im (.tuple (TS l)), .bo (DS ws), .im (.int many), .ow (FS fs), .ow vals, s7, s8, s9, s10, .em, .em]) ⟨ns2, [], .em, .em, .em, .em, by simp! only [true_and], by simp! only [true_and], by simp! only [true_and], by simp! only [true_and], by simp, by simp, rfl⟩ ?_ ?_
  · rintro i d Γ hi ⟨ns, fs, s7, s8, s9, s10, h7, h8, h9, h10, hfl, hfo, rfl⟩
    obtain ⟨rfl, hi⟩ := rng1_get hi
    dsimp! only [h7]
    rw [wpY_eq, wp_sIf]
    dsimp! only [true_and]
    split
    · rename_i hz
      refine pickT_spec (ds := TS l) (by omega) immAll_TS fun d ns3 hd => ?_
      obtain ⟨t, ht, rfl⟩ := List.mem_map.mp hd
      obtain ⟨t0, t1, t2, t3⟩ := hl.ok t ht
      dsimp! only [h8]
      refine ⟨by omega, ?_⟩
      refine lcI (fun j acc Γ => ∃ ns, acc.length = j ∧ (∀ d ∈ acc, VL d) ∧ Γ = [.io (DI ns), .bo (DI sc), .im (.tuple (TS l)), .bo (DS ws), .im (.int many), .ow (FS fs), .ow vals, .im (.int i), .im (tD t), s9, s10, .em, .em]) ⟨ns3, rfl, by simp, rfl⟩ ?_ ?_
      · rintro j d acc Γ hj ⟨ns, ha, hv, rfl⟩
        obtain ⟨rfl, hj⟩ := rng1_get hj
        simp! only [true_and]
        refine pick_spec (ds := vals) (by omega) hvi fun d ns2 hd => ?_
        simp! only [true_and]
        refine ⟨by omega, ns2, by simp [ha], ?_, rfl⟩
        intro x hx
        rcases List.mem_append.mp hx with hx | hx
        · exact hv x hx
        · rw [List.mem_singleton.mp hx]; exact hvv _ hd
      rintro row Γ ⟨ns4, hrl, hrv, rfl⟩
      rw [rng1_len] at hrl
      dsimp! only [h9]
      refine lcI (fun j acc Γ => ∃ gs, acc = FS gs ∧ gs.length ≤ j ∧ (∀ g ∈ gs, g ∈ fs ∧ g.1 = t.1) ∧ Γ = [.io (DI ns4), .bo (DI sc), .im (.tuple (TS l)), .bo (DS ws), .im (.int many), .bo (FS fs), .ow vals, .im (.int i), .im (tD t), .ow row, s10, .em, .em]) ⟨[], rfl, by simp, by simp, rfl⟩ ?_ ?_
      · rintro j d acc Γ hj ⟨gs, rfl, hgl, hgo, rfl⟩
        have hj' : j < (FS fs).length := (List.getElem?_eq_some_iff.mp hj).1
        simp at hj'
        obtain ⟨f, hf, rfl⟩ := List.mem_map.mp (get_mem hj)
        simp! only [eqD_str (a := f.1) (b := t.1) (hfo f hf).nm t0]
        split
        · rename_i he
          refine ⟨by simp; omega, gs ++ [f], by simp, by simp; omega, ?_, rfl⟩
          intro g hg
          rcases List.mem_append.mp hg with hg | hg
          · exact hgo g hg
          · rw [List.mem_singleton.mp hg]; exact ⟨hf, by simpa using he⟩
        · exact ⟨gs, rfl, by omega, hgo, rfl⟩
      rintro acc Γ ⟨gs, rfl, hgl, hgo, rfl⟩
      rw [List.length_map] at hgl
      dsimp! only [h10]
      refine wp_mono (P := fun o Γ => IV (o = .next ∧ ∃ ns row, (row.length : Int) = t.2.1 + t.2.2 ∧ (∀ d ∈ row, VL d) ∧ Γ = [.io (DI ns), .bo (DI sc), .im (.tuple (TS l)), .bo (DS ws), .im (.int many), .ow (FS fs), .ow vals, .im (.int i), .im (tD t), .ow row, .ow (FS gs), .em, .em])) ?_ ?_
      · simp! only [true_and]
        split
        · rename_i hg0
          refine take_spec (by omega) fun v ns5 _ _ => ?_
          simp! only [true_and]
          split
          · have hgi : immAll (FS gs) = true := immAll_of fun d hd => by
              obtain ⟨g, hg, rfl⟩ := List.mem_map.mp hd
              exact imm_fD (hfo g (hgo g hg).1).vl
            refine pick_spec (ds := FS gs) (by omega) hgi fun d ns6 hd => ?_
            obtain ⟨g, hg, rfl⟩ := List.mem_map.mp hd
            obtain ⟨hgf, hgn⟩ := hgo g hg
            have hgk := hfo g hgf
            obtain ⟨t', ht', e1, e2⟩ := hgk.tb
            have := uniq hl.nd ht' ht (e1.trans hgn)
            subst this
            simp! only [slT_to (ds := g.2) t1, slL_from (ds := row) t1]
            rw [addD_list (by rw [List.length_take, List.length_drop]; omega)]
            simp! only [true_and]
            refine ⟨rfl, ns6, _, ?_, ?_, rfl⟩
            · rw [List.length_append, List.length_take, List.length_drop]; omega
            · intro x hx
              rcases List.mem_append.mp hx with hx | hx
              · exact hgk.vl x (List.mem_of_mem_take hx)
              · exact hrv x (List.mem_of_mem_drop hx)
          · exact ⟨rfl, ns5, row, by omega, hrv, rfl⟩
        · exact ⟨rfl, ns4, row, by omega, hrv, rfl⟩
      rintro o Γ ⟨rfl, ns5, row, hrl, hrv, rfl⟩
      simp! only [true_and]
      refine ⟨by omega, ?_⟩
      rw [appendM_ok (imm_fD (f := (t.1, row)) hrv) (by simp; omega)]
      simp! only [true_and]
      refine ⟨ns5, fs ++ [(t.1, row)], _, _, _, _, fre_im.mpr trivial, fre_im.mpr trivial, fre_ow.mpr trivial, fre_ow.mpr trivial, by simp; omega, ?_, by simp only [List.map_append, List.map_cons, List.map_nil] <;> rfl⟩
      intro f hf
      rcases List.mem_append.mp hf with hf | hf
      · exact hfo f hf
      · rw [List.mem_singleton.mp hf]; exact ⟨t0, ⟨t, ht, rfl, hrl⟩, hrv⟩
    · exact ⟨ns, fs, _, _, _, _, fre_im.mpr trivial, h8, h9, h10, by omega, hfo, rfl⟩
  · rintro Γ ⟨ns, fs, s7, s8, s9, s10, h7, h8, h9, h10, hfl, hfo, rfl⟩
    simp! only [true_and]
    rw [rng1_len] at hfl
    exact h _ _ hfo (by omega)
end Lw
end

section
set_option Elab.async false
set_option linter.all false
set_option maxRecDepth 100000
set_option maxHeartbeats 400000
namespace Lw
open PySem PySem.Spec PyProof.Rows L2 Vf
variable [Tabs]
local macro_rules | `(tactic| simp! only [$ls,*]) => `(tactic| simp -implicitDefEqProofs only [↓wp_var, ↓wp_c, ↓wp_op2, ↓wp_op1, ↓wp_aNil, ↓wp_aCons, ↓wp_cb, ↓wp_mut, ↓wp_mth, ↓wp_tup, ↓wp_lst, ↓wp_isi, ↓wp_isi2, ↓wp_bVal, ↓wp_bTru, ↓wp_bNot, ↓wp_bAnd, ↓wp_bOr, ↓wp_bYes, ↓wp_eIf, ↓wp_andV, ↓wp_orV, ↓wp_notV, ↓wp_oNone, ↓wp_oSome, ↓wp_sl, ↓wp_callC, ↓wp_sortK, ↓wp_zip, zp_t, ↓wp_rev, revT, revL, ↓wp_sMv, mvq_ow, ↓wp_idx, imT_t,  skv_l, ↓wp_allS, ↓wp_seq, sq_next, sq_ret, sq_brk, sq_cont, ↓wp_next, ↓wp_brk, ↓wp_cont, ↓wp_ret, ↓wp_retN, ↓wp_drop, ↓wp_sIf, ↓wp_sSet, ↓wp_sAsg, ↓wp_sSetIx, ↓wp_iter, ↓wp_range1, ↓wp_range2, ↓wp_forP, ↓wp_lcP, pr_mk, vr_im, vr_ow, vr_io, vr_bo, rdv_im, rdv_nw, rdv_sl, rsl_ow, rsl_io, rsl_bo, rdvs_nil, rdvs_cons, cons2_some, ims_nil, ims_cons, o2_some, oo_some, om_some, imS_str, blV_b, inV1_i, imV_im, itv_t, itv_s, itv_n, itv_l, itl_ow, itl_bo, rg1_i, rg2_i, toV_int, toV_bool, toV_str, toV_tuple, toV_none, toV_list,
  slotOf, setS_eq, sS_fre, fre_em, fre_im, fre_ow, fre_bo, getM_eq, gM_ow, gM_io, putL_eq, pL_ow, pL_io, putLs, rsV, slM, slB, arsOf, arOf_im, arOf_int, arOf_str, arOf_bool, arOf_none, arOf_tuple, arOf_nw, arOf_sl, arOf_m, arS_ow, arS_io, arS_bo, arM_ow, arM_io, resP_ret, resP_next, resOf_im, resOf_nw, resOf_sl, rso_ow, outsOf, initG, slotA, bor, unb, clr, rst, gtName, gtTup, gtCons, gtNil, outI_next, outI_cont, outI_brk, outI_ret,
  List.getElem?_cons_zero, List.getElem?_cons_succ, List.set_cons_zero, List.set_cons_succ, List.map_cons, List.map_nil, List.cons_append, List.nil_append, List.append_nil, List.length_cons, List.length_nil, List.replicate_succ, List.replicate_zero, Nat.sub_self, Nat.reduceAdd, Nat.reduceSub, Nat.reduceEqDiff, List.getElem?_nil, 
  eqD_int, neD_int, eqD_bool, neD_bool, addD_int, subD_int, ltD_int, leD_int, gtD_int, geD_int, intD_int, intD_bool, lenL, lenT, listD_l, listD_t, tupleD_l, tupleD_t, ixL_int, ixT_int, ixS_int, negD_int, truD_b, atI0, atI1, atI2, List.nodup_nil, List.nodup_cons, List.not_mem_nil, not_false_eq_true, false_imp_iff, implies_true, and_true, true_and, and_self, if_true, if_false, Bool.false_eq_true, reduceIte, List.mem_cons, or_false, false_or, forall_eq, forall_eq_or_imp, imm_int, imm_str, beq_iff_eq, bne_iff_ne, decide_eq_true_eq, Bool.not_eq_true', $ls,*])
local macro_rules | `(tactic| dsimp! only [$ls,*]) => `(tactic| simp -implicitDefEqProofs only [↓wp_sIfY, ↓wp_var, ↓wp_c, ↓wp_op2, ↓wp_op1, ↓wp_aNil, ↓wp_aCons, ↓wp_cb, ↓wp_mut, ↓wp_mth, ↓wp_tup, ↓wp_lst, ↓wp_isi, ↓wp_isi2, ↓wp_bVal, ↓wp_bTru, ↓wp_bNot, ↓wp_bAnd, ↓wp_bOr, ↓wp_bYes, ↓wp_eIf, ↓wp_andV, ↓wp_orV, ↓wp_notV, ↓wp_oNone, ↓wp_oSome, ↓wp_sl, ↓wp_callC, ↓wp_sortK, ↓wp_zip, zp_t, ↓wp_rev, revT, revL, ↓wp_sMv, mvq_ow, ↓wp_idx, imT_t,  skv_l, ↓wp_allS, ↓wp_seq, sq_next, sq_ret, sq_brk, sq_cont, ↓wp_next, ↓wp_brk, ↓wp_cont, ↓wp_ret, ↓wp_retN, ↓wp_drop, ↓wp_sSet, ↓wp_sAsg, ↓wp_sSetIx, ↓wp_iter, ↓wp_range1, ↓wp_range2, ↓wp_forP, ↓wp_lcP, pr_mk, vr_im, vr_ow, vr_io, vr_bo, rdv_im, rdv_nw, rdv_sl, rsl_ow, rsl_io, rsl_bo, rdvs_nil, rdvs_cons, cons2_some, ims_nil, ims_cons, o2_some, oo_some, om_some, imS_str, blV_b, inV1_i, imV_im, itv_t, itv_s, itv_n, itv_l, itl_ow, itl_bo, rg1_i, rg2_i, toV_int, toV_bool, toV_str, toV_tuple, toV_none, toV_list,
  slotOf, setS_eq, sS_fre, fre_em, fre_im, fre_ow, fre_bo, getM_eq, gM_ow, gM_io, putL_eq, pL_ow, pL_io, putLs, rsV, slM, slB, arsOf, arOf_im, arOf_int, arOf_str, arOf_bool, arOf_none, arOf_tuple, arOf_nw, arOf_sl, arOf_m, arS_ow, arS_io, arS_bo, arM_ow, arM_io, resP_ret, resP_next, resOf_im, resOf_nw, resOf_sl, rso_ow, outsOf, initG, slotA, bor, unb, clr, rst, gtName, gtTup, gtCons, gtNil, outI_next, outI_cont, outI_brk, outI_ret,
  List.getElem?_cons_zero, List.getElem?_cons_succ, List.set_cons_zero, List.set_cons_succ, List.map_cons, List.map_nil, List.cons_append, List.nil_append, List.append_nil, List.length_cons, List.length_nil, List.replicate_succ, List.replicate_zero, Nat.sub_self, Nat.reduceAdd, Nat.reduceSub, Nat.reduceEqDiff, List.getElem?_nil, 
  eqD_int, neD_int, eqD_bool, neD_bool, addD_int, subD_int, ltD_int, leD_int, gtD_int, geD_int, intD_int, intD_bool, lenL, lenT, listD_l, listD_t, tupleD_l, tupleD_t, ixL_int, ixT_int, ixS_int, negD_int, truD_b, atI0, atI1, atI2, List.nodup_nil, List.nodup_cons, List.not_mem_nil, not_false_eq_true, false_imp_iff, implies_true, and_true, true_and, and_self, if_true, if_false, Bool.false_eq_true, reduceIte, List.mem_cons, or_false, false_or, forall_eq, forall_eq_or_imp, imm_int, imm_str, beq_iff_eq, bne_iff_ne, decide_eq_true_eq, Bool.not_eq_true', $ls,*])
structure RK (l k : List Tb) : Prop where
  nm : k.map (·.1) = l.map (·.1)
  ok : ∀ t ∈ k, 0 ≤ t.2.1 ∧ 0 ≤ t.2.2 ∧ ∃ s ∈ l, s.1 = t.1 ∧ t.2.1 + t.2.2 = s.2.1 + s.2.2
theorem rekeyed_spec {ns : List Int} {l : List Tb} (hl : SOk l) (hll : l.length ≤ 21) {P : Rs → List (List PyData) → Prop} (h : ∀ k ns', RK l k → P (.v (.tuple (TS k))) [DI ns']) : wpF D_law_rekeyed [.m (DI ns), .v (.tuple (TS l))] P := by
  unfold D_law_rekeyed
  refine wp_F rfl ?_
  unfold m_law_rekeyed
  simp! only [true_and]
  refine ⟨by omega, ?_⟩
  refine loopI (fun i Γ => ∃ ns k s3 s4, fre s3 ∧ fre s4 ∧ k.map (·.1) = (l.take i).map (·.1) ∧ (∀ t ∈ k, 0 ≤ t.2.1 ∧ 0 ≤ t.2.2 ∧ ∃ s ∈ l, s.1 = t.1 ∧ t.2.1 + t.2.2 = s.2.1 + s.2.2) ∧ Γ = [.io (DI ns), .im (.tuple (TS l)), .ow (TS k), s3, s4]) ⟨ns, [], .em, .em, by simp! only [true_and], by simp! only [true_and], rfl, by simp, rfl⟩ ?_ ?_
  · rintro i d Γ hi ⟨ns, k, s3, s4, h3, h4, hk, hko, rfl⟩
    have hi' : i < (TS l).length := (List.getElem?_eq_some_iff.mp hi).1
    simp at hi'
    have : d = tD l[i] := by
      have := (List.getElem?_eq_some_iff.mp hi).2
      rw [← this]; simp
    subst this
    have hto := hl.ok l[i] (List.getElem_mem hi')
    have htm := List.getElem_mem hi'
    have hkl : k.length ≤ 21 := by
      have := congrArg List.length hk
      rw [List.length_map, List.length_map, List.length_take] at this; omega
    have hkk : (l.take (i + 1)).map (·.1) = (l.take i).map (·.1) ++ [l[i].1] := by
      rw [List.take_add_one, List.getElem?_eq_getElem hi', List.map_append]; rfl
    generalize l[i] = t at *
    dsimp! only [h3]
    refine take_spec (by omega) fun v ns3 v0 v1 => ?_
    dsimp! only [h4]
    refine wp_mono (P := fun o Γ => IV (o = .next ∧ ∃ z, 0 ≤ t.2.1 + z ∧ 0 ≤ t.2.2 - z ∧ Γ = [.io (DI ns3), .im (.tuple (TS l)), .ow (TS k), .im (tD t), .im (.int z)])) ?_ ?_
    · simp! only [true_and]
      split
      · exact ⟨rfl, 0, by omega, by omega, rfl⟩
      · split
        · exact ⟨rfl, 0, by omega, by omega, rfl⟩
        · exact ⟨rfl, v - 1, by omega, by omega, rfl⟩
    rintro o Γ ⟨rfl, z, z0, z1, rfl⟩
    simp! only [true_and]
    refine ⟨by omega, ?_⟩
    rw [appendM_ok (by simp [imm, immAll]) (by simp; omega)]
    simp! only [true_and]
    refine ⟨ns3, k ++ [(t.1, t.2.1 + z, t.2.2 - z)], _, _, fre_im.mpr trivial, fre_im.mpr trivial, ?_, ?_, by simp only [List.map_append, List.map_cons, List.map_nil] <;> rfl⟩
    · rw [List.map_append, hk, hkk]; rfl
    · intro x hx
      rcases List.mem_append.mp hx with hx | hx
      · exact hko x hx
      · rw [List.mem_singleton.mp hx]
        exact ⟨z0, z1, t, htm, rfl, by show t.2.1 + z + (t.2.2 - z) = _; omega⟩
  · rintro Γ ⟨ns, k, s3, s4, h3, h4, hk, hko, rfl⟩
    simp! only [true_and]
    rw [List.length_map, List.take_length] at hk
    exact h _ _ ⟨hk, hko⟩
theorem RK.ok' {l k : List Tb} (h : RK l k) (hl : SOk l) : SOk k := ⟨by rw [h.nm]; exact hl.nd, fun t ht => by
  obtain ⟨h0, h1, s, hs, e1, e2⟩ := h.ok t ht
  have := hl.ok s hs
  exact ⟨by rw [← e1]; exact this.1, h0, h1, by rw [e2]; exact this.2.2.2⟩⟩
theorem RK.fact {l k : List Tb} (h : RK l k) (hl : SOk l) {f : Fc} (hf : FOk l f) : FOk k f := ⟨hf.nm, by
  obtain ⟨s, hs, e1, e2⟩ := hf.tb
  have : f.1 ∈ k.map (·.1) := by rw [h.nm, ← e1]; exact List.mem_map.mpr ⟨s, hs, rfl⟩
  obtain ⟨t, ht, e3⟩ := List.mem_map.mp this
  obtain ⟨_, _, s', hs', e4, e5⟩ := h.ok t ht
  have := uniq hl.nd hs' hs (e4.trans (e3.trans e1.symm))
  subst this
  exact ⟨t, ht, e3, by rw [e2, e5]⟩, hf.vl⟩
theorem table_of_spec {l : List Tb} (hl : SOk l) {t : Tb} (ht : t ∈ l) {P : Rs → List (List PyData) → Prop} (h : P (.v (tD t)) []) : wpF D_table_of [.v (.tuple (TS l)), .v (.str t.1)] P := by
  unfold D_table_of
  refine wp_F rfl ?_
  unfold m_table_of
  simp! only [true_and]
  refine loopI (fun i Γ => ∃ s2, fre s2 ∧ (∀ s ∈ l.take i, s.1 ≠ t.1) ∧ Γ = [.im (.tuple (TS l)), .im (.str t.1), s2]) ⟨.em, by simp! only [true_and], by simp, rfl⟩ ?_ ?_
  · rintro i d Γ hi ⟨s2, h2, hn, rfl⟩
    have hi' : i < (TS l).length := (List.getElem?_eq_some_iff.mp hi).1
    simp at hi'
    have : d = tD l[i] := by
      have := (List.getElem?_eq_some_iff.mp hi).2
      rw [← this]; simp
    subst this
    have hto := hl.ok l[i] (List.getElem_mem hi')
    have htm := List.getElem_mem hi'
    have hkk : l.take (i + 1) = l.take i ++ [l[i]] := by
      rw [List.take_add_one, List.getElem?_eq_getElem hi']; rfl
    generalize l[i] = s at *
    simp! only [h2, eqD_str (a := s.1) (b := t.1) hto.1 (hl.ok t ht).1]
    split
    · rename_i he
      have := uniq hl.nd htm ht (by simpa using he)
      subst this
      exact h
    · rename_i he
      refine ⟨_, fre_im.mpr trivial, ?_, rfl⟩
      intro x hx
      rw [hkk] at hx
      rcases List.mem_append.mp hx with hx | hx
      · exact hn x hx
      · rw [List.mem_singleton.mp hx]; simpa using he
  · rintro Γ ⟨s2, h2, hn, rfl⟩
    rw [List.length_map, List.take_length] at hn
    exact absurd rfl (hn t ht)
theorem key_of_spec {l : List Tb} (hl : SOk l) {t : Tb} (ht : t ∈ l) {f : Fc} (e : t.1 = f.1) {P : Rs → List (List PyData) → Prop} (h : P (.v (.tuple (f.2.take t.2.1.toNat))) []) : wpF D_key_of [.v (.tuple (TS l)), .v (fD f)] P := by
  unfold D_key_of
  refine wp_F rfl ?_
  unfold m_key_of
  simp! only [true_and]
  rw [← e]
  refine table_of_spec hl ht ?_
  simp! only [slT_to (ds := f.2) (hl.ok t ht).2.1]
  exact h
end Lw
end

section
set_option Elab.async false
set_option linter.all false
set_option maxRecDepth 100000
set_option maxHeartbeats 400000
namespace Lw
open PySem PySem.Spec PyProof.Rows L2 Vf
variable [Tabs]
local macro_rules | `(tactic| simp! only [$ls,*]) => `(tactic| simp -implicitDefEqProofs only [↓wp_var, ↓wp_c, ↓wp_op2, ↓wp_op1, ↓wp_aNil, ↓wp_aCons, ↓wp_cb, ↓wp_mut, ↓wp_mth, ↓wp_tup, ↓wp_lst, ↓wp_isi, ↓wp_isi2, ↓wp_bVal, ↓wp_bTru, ↓wp_bNot, ↓wp_bAnd, ↓wp_bOr, ↓wp_bYes, ↓wp_eIf, ↓wp_andV, ↓wp_orV, ↓wp_notV, ↓wp_oNone, ↓wp_oSome, ↓wp_sl, ↓wp_callC, ↓wp_sortK, ↓wp_zip, zp_t, ↓wp_rev, revT, revL, ↓wp_sMv, mvq_ow, ↓wp_idx, imT_t,  skv_l, ↓wp_allS, ↓wp_seq, sq_next, sq_ret, sq_brk, sq_cont, ↓wp_next, ↓wp_brk, ↓wp_cont, ↓wp_ret, ↓wp_retN, ↓wp_drop, ↓wp_sIf, ↓wp_sSet, ↓wp_sAsg, ↓wp_sSetIx, ↓wp_iter, ↓wp_range1, ↓wp_range2, ↓wp_forP, ↓wp_lcP, pr_mk, vr_im, vr_ow, vr_io, vr_bo, rdv_im, rdv_nw, rdv_sl, rsl_ow, rsl_io, rsl_bo, rdvs_nil, rdvs_cons, cons2_some, ims_nil, ims_cons, o2_some, oo_some, om_some, imS_str, blV_b, inV1_i, imV_im, itv_t, itv_s, itv_n, itv_l, itl_ow, itl_bo, rg1_i, rg2_i, toV_int, toV_bool, toV_str, toV_tuple, toV_none, toV_list,
  slotOf, setS_eq, sS_fre, fre_em, fre_im, fre_ow, fre_bo, getM_eq, gM_ow, gM_io, putL_eq, pL_ow, pL_io, putLs, rsV, slM, slB, arsOf, arOf_im, arOf_int, arOf_str, arOf_bool, arOf_none, arOf_tuple, arOf_nw, arOf_sl, arOf_m, arS_ow, arS_io, arS_bo, arM_ow, arM_io, resP_ret, resP_next, resOf_im, resOf_nw, resOf_sl, rso_ow, outsOf, initG, slotA, bor, unb, clr, rst, gtName, gtTup, gtCons, gtNil, outI_next, outI_cont, outI_brk, outI_ret,
  List.getElem?_cons_zero, List.getElem?_cons_succ, List.set_cons_zero, List.set_cons_succ, List.map_cons, List.map_nil, List.cons_append, List.nil_append, List.append_nil, List.length_cons, List.length_nil, List.replicate_succ, List.replicate_zero, Nat.sub_self, Nat.reduceAdd, Nat.reduceSub, Nat.reduceEqDiff, List.getElem?_nil, 
  eqD_int, neD_int, eqD_bool, neD_bool, addD_int, subD_int, ltD_int, leD_int, gtD_int, geD_int, intD_int, intD_bool, lenL, lenT, listD_l, listD_t, tupleD_l, tupleD_t, ixL_int, ixT_int, ixS_int, negD_int, truD_b, atI0, atI1, atI2, List.nodup_nil, List.nodup_cons, List.not_mem_nil, not_false_eq_true, false_imp_iff, implies_true, and_true, true_and, and_self, if_true, if_false, Bool.false_eq_true, reduceIte, List.mem_cons, or_false, false_or, forall_eq, forall_eq_or_imp, imm_int, imm_str, beq_iff_eq, bne_iff_ne, decide_eq_true_eq, Bool.not_eq_true', $ls,*])
local macro_rules | `(tactic| dsimp! only [$ls,*]) => `(tactic| simp -implicitDefEqProofs only [↓wp_sIfY, ↓wp_var, ↓wp_c, ↓wp_op2, ↓wp_op1, ↓wp_aNil, ↓wp_aCons, ↓wp_cb, ↓wp_mut, ↓wp_mth, ↓wp_tup, ↓wp_lst, ↓wp_isi, ↓wp_isi2, ↓wp_bVal, ↓wp_bTru, ↓wp_bNot, ↓wp_bAnd, ↓wp_bOr, ↓wp_bYes, ↓wp_eIf, ↓wp_andV, ↓wp_orV, ↓wp_notV, ↓wp_oNone, ↓wp_oSome, ↓wp_sl, ↓wp_callC, ↓wp_sortK, ↓wp_zip, zp_t, ↓wp_rev, revT, revL, ↓wp_sMv, mvq_ow, ↓wp_idx, imT_t,  skv_l, ↓wp_allS, ↓wp_seq, sq_next, sq_ret, sq_brk, sq_cont, ↓wp_next, ↓wp_brk, ↓wp_cont, ↓wp_ret, ↓wp_retN, ↓wp_drop, ↓wp_sSet, ↓wp_sAsg, ↓wp_sSetIx, ↓wp_iter, ↓wp_range1, ↓wp_range2, ↓wp_forP, ↓wp_lcP, pr_mk, vr_im, vr_ow, vr_io, vr_bo, rdv_im, rdv_nw, rdv_sl, rsl_ow, rsl_io, rsl_bo, rdvs_nil, rdvs_cons, cons2_some, ims_nil, ims_cons, o2_some, oo_some, om_some, imS_str, blV_b, inV1_i, imV_im, itv_t, itv_s, itv_n, itv_l, itl_ow, itl_bo, rg1_i, rg2_i, toV_int, toV_bool, toV_str, toV_tuple, toV_none, toV_list,
  slotOf, setS_eq, sS_fre, fre_em, fre_im, fre_ow, fre_bo, getM_eq, gM_ow, gM_io, putL_eq, pL_ow, pL_io, putLs, rsV, slM, slB, arsOf, arOf_im, arOf_int, arOf_str, arOf_bool, arOf_none, arOf_tuple, arOf_nw, arOf_sl, arOf_m, arS_ow, arS_io, arS_bo, arM_ow, arM_io, resP_ret, resP_next, resOf_im, resOf_nw, resOf_sl, rso_ow, outsOf, initG, slotA, bor, unb, clr, rst, gtName, gtTup, gtCons, gtNil, outI_next, outI_cont, outI_brk, outI_ret,
  List.getElem?_cons_zero, List.getElem?_cons_succ, List.set_cons_zero, List.set_cons_succ, List.map_cons, List.map_nil, List.cons_append, List.nil_append, List.append_nil, List.length_cons, List.length_nil, List.replicate_succ, List.replicate_zero, Nat.sub_self, Nat.reduceAdd, Nat.reduceSub, Nat.reduceEqDiff, List.getElem?_nil, 
  eqD_int, neD_int, eqD_bool, neD_bool, addD_int, subD_int, ltD_int, leD_int, gtD_int, geD_int, intD_int, intD_bool, lenL, lenT, listD_l, listD_t, tupleD_l, tupleD_t, ixL_int, ixT_int, ixS_int, negD_int, truD_b, atI0, atI1, atI2, List.nodup_nil, List.nodup_cons, List.not_mem_nil, not_false_eq_true, false_imp_iff, implies_true, and_true, true_and, and_self, if_true, if_false, Bool.false_eq_true, reduceIte, List.mem_cons, or_false, false_or, forall_eq, forall_eq_or_imp, imm_int, imm_str, beq_iff_eq, bne_iff_ne, decide_eq_true_eq, Bool.not_eq_true', $ls,*])
/-! data of values and tuples, to a depth -/
def gd : Nat → PyData → Prop
  | 0, d => VL d
  | n + 1, d => gd n d ∨ ∃ ds, d = .tuple ds ∧ ds.length ≤ 1000 ∧ ∀ x ∈ ds, gd n x
theorem gd_le {n m : Nat} {d : PyData} (h : gd n d) (hm : n ≤ m) : gd m d := by
  induction m with
  | zero => rw [show n = 0 by omega] at h; exact h
  | succ m ih =>
    by_cases e : n = m + 1
    · rw [← e]; exact h
    · exact .inl (ih (by omega))
theorem gd_tup {n : Nat} {ds : List PyData} (hl : ds.length ≤ 1000) (h : ∀ x ∈ ds, gd n x) : gd (n + 1) (.tuple ds) := .inr ⟨ds, rfl, hl, h⟩
theorem lay_all {ds : List PyData} (h : ∀ d ∈ ds, PyData.canLay0 d = true) : PyData.canLayAll0 ds = true := by
  induction ds with
  | nil => rfl
  | cons d ds ih => simp only [PyData.canLayAll0, h d (by simp), ih fun x hx => h x (by simp [hx]), Bool.and_self]
theorem dep_all {n : Nat} {ds : List PyData} (h : ∀ d ∈ ds, d.depth ≤ n) : PyData.depthAll ds ≤ n := by
  induction ds with
  | nil => simp [PyData.depthAll]
  | cons d ds ih =>
    have h1 := h d (by simp)
    have h2 := ih fun x hx => h x (by simp [hx])
    simp only [PyData.depthAll]
    omega
theorem plain_all {ds : List PyData} (h : ∀ d ∈ ds, d.plain = true) : PyData.plainAll ds = true := by
  induction ds with
  | nil => rfl
  | cons d ds ih => simp only [PyData.plainAll, h d (by simp), ih fun x hx => h x (by simp [hx]), Bool.and_self]
theorem VL.lay {d : PyData} (h : VL d) : d.canLay0 = true ∧ d.depth = 0 := by
  rcases h with ⟨j, rfl⟩ | ⟨a, rfl, ha⟩
  · simp [PyData.canLay0, PyData.depth]
  · simp [PyData.canLay0, PyData.depth, ha]
theorem gd_lay : ∀ {n : Nat} {d : PyData}, gd n d → d.canLay0 = true ∧ d.depth ≤ n
  | 0, d, h => ⟨(VL.lay h).1, by rw [(VL.lay h).2]; omega⟩
  | n + 1, d, h => by
    rcases h with h | ⟨ds, rfl, _, h⟩
    · exact ⟨(gd_lay h).1, by have := (gd_lay h).2; omega⟩
    · refine ⟨by simpa [PyData.canLay0] using lay_all fun x hx => (gd_lay (h x hx)).1, ?_⟩
      have := dep_all fun x hx => (gd_lay (h x hx)).2
      simp only [PyData.depth]
      omega
theorem gd_imm : ∀ {n : Nat} {d : PyData}, gd n d → imm d = true
  | 0, d, h => VL.imm h
  | n + 1, d, h => by
    rcases h with h | ⟨ds, rfl, _, h⟩
    · exact gd_imm h
    · simpa [imm] using immAll_of fun x hx => gd_imm (h x hx)
theorem gd_shaped {n : Nat} (hn : n ≤ 60) {d : PyData} (h : gd n d) : SeqAt.shaped d = true := by
  have := gd_lay h
  simp only [SeqAt.shaped, this.1, Bool.true_and, decide_eq_true_eq]
  omega
theorem eqv_all {n : Nat} (ih : ∀ {x y : PyData}, gd n x → gd n y → (PyData.eqv x y = true ↔ x = y)) : ∀ {xs ys : List PyData}, (∀ x ∈ xs, gd n x) → (∀ y ∈ ys, gd n y) → (PyData.eqvAll xs ys = true ↔ xs = ys)
  | [], [], _, _ => by simp [PyData.eqvAll]
  | [], _ :: _, _, _ => by simp [PyData.eqvAll]
  | _ :: _, [], _, _ => by simp [PyData.eqvAll]
  | x :: xs, y :: ys, h1, h2 => by
    have e1 := ih (h1 x (by simp)) (h2 y (by simp))
    have e2 := eqv_all ih (xs := xs) (ys := ys) (fun z hz => h1 z (List.mem_cons_of_mem _ hz)) (fun z hz => h2 z (List.mem_cons_of_mem _ hz))
    simp only [PyData.eqvAll, Bool.and_eq_true, e1, e2, List.cons.injEq]
theorem eqv_gd0 {x y : PyData} (hx : VL x) (hy : VL y) : PyData.eqv x y = true ↔ x = y := by
  rcases hx with ⟨i, rfl⟩ | ⟨a, rfl, _⟩ <;> rcases hy with ⟨j, rfl⟩ | ⟨b, rfl, _⟩ <;> simp [PyData.eqv]
theorem eqv_vt {n : Nat} {x : PyData} {ys : List PyData} (hx : VL x) : PyData.eqv x (.tuple ys) = false ∧ PyData.eqv (.tuple ys) x = false ∧ x ≠ .tuple ys := by
  rcases hx with ⟨i, rfl⟩ | ⟨a, rfl, _⟩ <;> simp [PyData.eqv]
theorem gd_cases {n : Nat} {x : PyData} (h : gd n x) : VL x ∨ ∃ m ds, n = m + 1 ∧ x = .tuple ds ∧ ds.length ≤ 1000 ∧ ∀ y ∈ ds, gd m y := by
  induction n with
  | zero => exact .inl h
  | succ n ih =>
    rcases h with h | ⟨ds, rfl, hl, h⟩
    · rcases ih h with h | ⟨m, ds, rfl, rfl, hl, h⟩
      · exact .inl h
      · exact .inr ⟨m + 1, ds, rfl, rfl, hl, fun y hy => .inl (h y hy)⟩
    · exact .inr ⟨n, ds, rfl, rfl, hl, h⟩
theorem eqv_gd : ∀ {n : Nat} {x y : PyData}, gd n x → gd n y → (PyData.eqv x y = true ↔ x = y) := by
  intro n
  induction n with
  | zero => exact fun hx hy => eqv_gd0 hx hy
  | succ n ih =>
    intro x y hx hy
    rcases gd_cases hx with hx | ⟨m, xs, e1, rfl, _, hxs⟩
    · rcases gd_cases hy with hy | ⟨m, ys, e2, rfl, _, hy⟩
      · exact eqv_gd0 hx hy
      · have := eqv_vt (n := 0) (ys := ys) hx
        simp [this.1, this.2.2]
    · rcases gd_cases hy with hy | ⟨m2, ys, e2, rfl, _, hys⟩
      · have := eqv_vt (n := 0) (ys := xs) hy
        simp [this.2.1, Ne.symm this.2.2]
      · have : m = n := by omega
        subst this
        have : m2 = m := by omega
        subst this
        simp only [PyData.eqv, eqv_all ih hxs hys, PyData.tuple.injEq]
theorem eqD_gd {n : Nat} (hn : n ≤ 60) {x y : PyData} (hx : gd n x) (hy : gd n y) : eqD x y = some (.bool (PyData.eqv x y)) := by
  simp [eqD, gd_shaped hn hx, gd_shaped hn hy]
theorem neD_gd {n : Nat} (hn : n ≤ 60) {x y : PyData} (hx : gd n x) (hy : gd n y) : neD x y = some (.bool (!PyData.eqv x y)) := by
  simp [neD, gd_shaped hn hx, gd_shaped hn hy]
theorem inL_gd {n : Nat} (hn : n ≤ 60) {x : PyData} {ys : List PyData} (hx : gd n x) (hy : ∀ y ∈ ys, gd n y) : inL x ys = some (ys.any fun z => PyData.eqv z x) := by
  unfold inL
  split
  · rfl
  · have h1 := lay_all (ds := ys) fun y h => (gd_lay (hy y h)).1
    have h2 := dep_all (ds := ys) (n := n) fun y h => (gd_lay (hy y h)).2
    rw [if_pos]
    have h3 : SeqAt.shaped (.list ys) = true := by
      unfold SeqAt.shaped
      rw [show (PyData.list ys).canLay0 = true by simpa [PyData.canLay0] using h1, Bool.true_and]
      refine decide_eq_true ?_
      show PyData.depthAll ys + 1 ≤ 64
      omega
    rw [gd_shaped hn hx, h3]
    rfl
theorem any_gd {n : Nat} {x : PyData} {ys : List PyData} (hx : gd n x) (hy : ∀ y ∈ ys, gd n y) : (ys.any fun z => PyData.eqv z x) = true ↔ x ∈ ys := by
  rw [List.any_eq_true]
  constructor
  · rintro ⟨y, h1, h2⟩
    rw [← (eqv_gd (hy y h1) hx).mp h2]
    exact h1
  · intro h
    exact ⟨x, h, (eqv_gd hx hx).mpr rfl⟩
theorem inD_gd {n : Nat} (hn : n ≤ 60) {x : PyData} {ys : List PyData} (hx : gd n x) (hy : ∀ y ∈ ys, gd n y) : inD x (.list ys) = some (.bool (ys.any fun z => PyData.eqv z x)) := by
  show (match inL x ys with
    | some b => some (PyData.bool b)
    | none => none) = _
  rw [inL_gd hn hx hy]
theorem niD_gd {n : Nat} (hn : n ≤ 60) {x : PyData} {ys : List PyData} (hx : gd n x) (hy : ∀ y ∈ ys, gd n y) : niD x (.list ys) = some (.bool (!(ys.any fun z => PyData.eqv z x))) := by
  show (match inL x ys with
    | some b => some (PyData.bool (!b))
    | none => none) = _
  rw [inL_gd hn hx hy]
theorem same_val {d : PyData} (hd : VL d) {n : Nat} {P : Rs → List (List PyData) → Prop} (h : P (.v (.bool true)) []) : wpF (D_law_same_n (n + 1)) [.v d, .v d] P := by
  unfold D_law_same_n
  refine wp_F rfl ?_
  unfold m_law_same
  have t1 : ∀ i, tyN (.int i) = "int" := fun _ => rfl
  have t2 : ∀ i, tyN (.str i) = "str" := fun _ => rfl
  have i1 : isi1 "int" "tuple" = false := by decide
  have i2 : isi1 "int" "list" = false := by decide
  have i3 : isi1 "str" "tuple" = false := by decide
  have i4 : isi1 "str" "list" = false := by decide
  have k1 : okTy "tuple" = true := by decide
  have k2 : okTy "list" = true := by decide
  have k3 : okTy "bool" = true := by decide
  have k4 : okTy "int" = true := by decide
  have k5 : okTy "str" = true := by decide
  have n1 : ∀ i, isND (.int i) .none = some (.bool false) := fun _ => rfl
  have n2 : ∀ i, isND (.str i) .none = some (.bool false) := fun _ => rfl
  rcases hd with ⟨j, rfl⟩ | ⟨a, rfl, ha⟩
  · simp! only [t1, i1, i2, k1, k2, k3, k4, k5, n1, Bool.or_self, Bool.and_self, ne_eq, not_true_eq_false, beq_self_eq_true]
    exact h
  · simp! only [t2, i3, i4, k1, k2, k3, k4, k5, n2, Bool.or_self, Bool.and_self, eqD_str ha ha, ne_eq, not_true_eq_false, beq_self_eq_true]
    exact h
theorem niD_trues {bs : List PyData} (h : ∀ b ∈ bs, b = .bool true) : niD (.bool false) (.list bs) = some (.bool true) := by
  have hf : bs.all flatD = true := List.all_eq_true.mpr fun b hb => by rw [h b hb]; rfl
  have ha : (bs.any fun z => PyData.eqv z (.bool false)) = false := by
    rw [List.any_eq_false]
    intro b hb
    rw [h b hb]
    simp [PyData.eqv]
  show (match inL (.bool false) bs with
    | some b => some (PyData.bool (!b))
    | none => none) = _
  unfold inL
  rw [if_pos (by rw [hf]; rfl), ha]
  rfl
theorem same_gd : ∀ {n m : Nat} {d : PyData}, gd n d → n ≤ m → ∀ {P : Rs → List (List PyData) → Prop}, P (.v (.bool true)) [] → wpF (D_law_same_n (m + 1)) [.v d, .v d] P := by
  intro n
  induction n with
  | zero => exact fun h _ _ hP => same_val h hP
  | succ n ih =>
    intro m d hd hm P h
    rcases hd with hd | ⟨ds, rfl, hl, hd⟩
    · exact ih hd (by omega) h
    obtain ⟨k, rfl⟩ : ∃ k, m = k + 1 := ⟨m - 1, by omega⟩
    unfold D_law_same_n
    refine wp_F rfl ?_
    unfold m_law_same
    have t1 : ∀ i, tyN (.tuple i) = "tuple" := fun _ => rfl
    have i1 : isi1 "tuple" "tuple" = true := by decide
    have i2 : isi1 "tuple" "list" = false := by decide
    have k1 : okTy "tuple" = true := by decide
    have k2 : okTy "list" = true := by decide
    simp! only [t1, i1, i2, k1, k2, Bool.true_or, Bool.or_false, Bool.and_self, ne_eq, not_true_eq_false]
    refine ⟨by omega, ?_⟩
    refine lcI (fun i acc Γ => acc.length = i ∧ (∀ b ∈ acc, b = .bool true) ∧ Γ = [.im (.tuple ds), .im (.tuple ds), .em]) ⟨rfl, by simp, rfl⟩ ?_ ?_
    · rintro i d acc Γ hi ⟨ha, hb, rfl⟩
      obtain ⟨rfl, hi2⟩ := rng1_get hi
      obtain ⟨d, e, _, hm2⟩ := atI_in (ds := ds) (i := (i : Int)) (by omega) hi2
      have hv := hd d hm2
      have fin : ∀ b ∈ acc ++ [PyData.bool true], b = .bool true := fun b h => by
        rcases List.mem_append.mp h with h | h
        · exact hb b h
        · exact List.mem_singleton.mp h
      simp! only [e, toV_of (gd_imm hv), gd_imm hv]
      refine ih hv (by omega) ?_
      simp! only [true_and]
      exact ⟨by omega, by simp [ha], fin, rfl⟩
    rintro acc Γ ⟨ha, hb, rfl⟩
    simp! only [niD_trues hb]
    exact h
theorem same_ok {d : PyData} (hd : gd 10 d) {P : Rs → List (List PyData) → Prop} (h : P (.v (.bool true)) []) : wpF D_law_same [.v d, .v d] P := by
  unfold D_law_same
  exact same_gd hd (by omega) h
end Lw
end

section
set_option Elab.async false
set_option linter.all false
set_option maxRecDepth 100000
set_option maxHeartbeats 400000
namespace Lw
open PySem PySem.Spec PyProof.Rows L2 Vf
variable [Tabs]
local macro_rules | `(tactic| simp! only [$ls,*]) => `(tactic| simp -implicitDefEqProofs only [↓wp_var, ↓wp_c, ↓wp_op2, ↓wp_op1, ↓wp_aNil, ↓wp_aCons, ↓wp_cb, ↓wp_mut, ↓wp_mth, ↓wp_tup, ↓wp_lst, ↓wp_isi, ↓wp_isi2, ↓wp_bVal, ↓wp_bTru, ↓wp_bNot, ↓wp_bAnd, ↓wp_bOr, ↓wp_bYes, ↓wp_eIf, ↓wp_andV, ↓wp_orV, ↓wp_notV, ↓wp_oNone, ↓wp_oSome, ↓wp_sl, ↓wp_callC, ↓wp_sortK, ↓wp_zip, zp_t, ↓wp_rev, revT, revL, ↓wp_sMv, mvq_ow, ↓wp_idx, imT_t,  skv_l, ↓wp_allS, ↓wp_seq, sq_next, sq_ret, sq_brk, sq_cont, ↓wp_next, ↓wp_brk, ↓wp_cont, ↓wp_ret, ↓wp_retN, ↓wp_drop, ↓wp_sIf, ↓wp_sSet, ↓wp_sAsg, ↓wp_sSetIx, ↓wp_iter, ↓wp_range1, ↓wp_range2, ↓wp_forP, ↓wp_lcP, pr_mk, vr_im, vr_ow, vr_io, vr_bo, rdv_im, rdv_nw, rdv_sl, rsl_ow, rsl_io, rsl_bo, rdvs_nil, rdvs_cons, cons2_some, ims_nil, ims_cons, o2_some, oo_some, om_some, imS_str, blV_b, inV1_i, imV_im, itv_t, itv_s, itv_n, itv_l, itl_ow, itl_bo, rg1_i, rg2_i, toV_int, toV_bool, toV_str, toV_tuple, toV_none, toV_list,
  slotOf, setS_eq, sS_fre, fre_em, fre_im, fre_ow, fre_bo, getM_eq, gM_ow, gM_io, putL_eq, pL_ow, pL_io, putLs, rsV, slM, slB, arsOf, arOf_im, arOf_int, arOf_str, arOf_bool, arOf_none, arOf_tuple, arOf_nw, arOf_sl, arOf_m, arS_ow, arS_io, arS_bo, arM_ow, arM_io, resP_ret, resP_next, resOf_im, resOf_nw, resOf_sl, rso_ow, outsOf, initG, slotA, bor, unb, clr, rst, gtName, gtTup, gtCons, gtNil, outI_next, outI_cont, outI_brk, outI_ret,
  List.getElem?_cons_zero, List.getElem?_cons_succ, List.set_cons_zero, List.set_cons_succ, List.map_cons, List.map_nil, List.cons_append, List.nil_append, List.append_nil, List.length_cons, List.length_nil, List.replicate_succ, List.replicate_zero, Nat.sub_self, Nat.reduceAdd, Nat.reduceSub, Nat.reduceEqDiff, List.getElem?_nil, 
  eqD_int, neD_int, eqD_bool, neD_bool, addD_int, subD_int, ltD_int, leD_int, gtD_int, geD_int, intD_int, intD_bool, lenL, lenT, listD_l, listD_t, tupleD_l, tupleD_t, ixL_int, ixT_int, ixS_int, negD_int, truD_b, atI0, atI1, atI2, List.nodup_nil, List.nodup_cons, List.not_mem_nil, not_false_eq_true, false_imp_iff, implies_true, and_true, true_and, and_self, if_true, if_false, Bool.false_eq_true, reduceIte, List.mem_cons, or_false, false_or, forall_eq, forall_eq_or_imp, imm_int, imm_str, beq_iff_eq, bne_iff_ne, decide_eq_true_eq, Bool.not_eq_true', $ls,*])
local macro_rules | `(tactic| dsimp! only [$ls,*]) => `(tactic| simp -implicitDefEqProofs only [↓wp_sIfY, ↓wp_var, ↓wp_c, ↓wp_op2, ↓wp_op1, ↓wp_aNil, ↓wp_aCons, ↓wp_cb, ↓wp_mut, ↓wp_mth, ↓wp_tup, ↓wp_lst, ↓wp_isi, ↓wp_isi2, ↓wp_bVal, ↓wp_bTru, ↓wp_bNot, ↓wp_bAnd, ↓wp_bOr, ↓wp_bYes, ↓wp_eIf, ↓wp_andV, ↓wp_orV, ↓wp_notV, ↓wp_oNone, ↓wp_oSome, ↓wp_sl, ↓wp_callC, ↓wp_sortK, ↓wp_zip, zp_t, ↓wp_rev, revT, revL, ↓wp_sMv, mvq_ow, ↓wp_idx, imT_t,  skv_l, ↓wp_allS, ↓wp_seq, sq_next, sq_ret, sq_brk, sq_cont, ↓wp_next, ↓wp_brk, ↓wp_cont, ↓wp_ret, ↓wp_retN, ↓wp_drop, ↓wp_sSet, ↓wp_sAsg, ↓wp_sSetIx, ↓wp_iter, ↓wp_range1, ↓wp_range2, ↓wp_forP, ↓wp_lcP, pr_mk, vr_im, vr_ow, vr_io, vr_bo, rdv_im, rdv_nw, rdv_sl, rsl_ow, rsl_io, rsl_bo, rdvs_nil, rdvs_cons, cons2_some, ims_nil, ims_cons, o2_some, oo_some, om_some, imS_str, blV_b, inV1_i, imV_im, itv_t, itv_s, itv_n, itv_l, itl_ow, itl_bo, rg1_i, rg2_i, toV_int, toV_bool, toV_str, toV_tuple, toV_none, toV_list,
  slotOf, setS_eq, sS_fre, fre_em, fre_im, fre_ow, fre_bo, getM_eq, gM_ow, gM_io, putL_eq, pL_ow, pL_io, putLs, rsV, slM, slB, arsOf, arOf_im, arOf_int, arOf_str, arOf_bool, arOf_none, arOf_tuple, arOf_nw, arOf_sl, arOf_m, arS_ow, arS_io, arS_bo, arM_ow, arM_io, resP_ret, resP_next, resOf_im, resOf_nw, resOf_sl, rso_ow, outsOf, initG, slotA, bor, unb, clr, rst, gtName, gtTup, gtCons, gtNil, outI_next, outI_cont, outI_brk, outI_ret,
  List.getElem?_cons_zero, List.getElem?_cons_succ, List.set_cons_zero, List.set_cons_succ, List.map_cons, List.map_nil, List.cons_append, List.nil_append, List.append_nil, List.length_cons, List.length_nil, List.replicate_succ, List.replicate_zero, Nat.sub_self, Nat.reduceAdd, Nat.reduceSub, Nat.reduceEqDiff, List.getElem?_nil, 
  eqD_int, neD_int, eqD_bool, neD_bool, addD_int, subD_int, ltD_int, leD_int, gtD_int, geD_int, intD_int, intD_bool, lenL, lenT, listD_l, listD_t, tupleD_l, tupleD_t, ixL_int, ixT_int, ixS_int, negD_int, truD_b, atI0, atI1, atI2, List.nodup_nil, List.nodup_cons, List.not_mem_nil, not_false_eq_true, false_imp_iff, implies_true, and_true, true_and, and_self, if_true, if_false, Bool.false_eq_true, reduceIte, List.mem_cons, or_false, false_or, forall_eq, forall_eq_or_imp, imm_int, imm_str, beq_iff_eq, bne_iff_ne, decide_eq_true_eq, Bool.not_eq_true', $ls,*])
/-! the order of facts, stores -/
def isS : PyData → Int
  | .str _ => 1
  | _ => 0
abbrev kv (d : PyData) : PyData := .tuple [.int (isS d), d]
theorem law_key_spec {d : PyData} (hd : VL d) {P : Rs → List (List PyData) → Prop} (h : P (.v (kv d)) []) : wpF D_law_key [.v d] P := by
  unfold D_law_key
  refine wp_F rfl ?_
  unfold m_law_key
  have t1 : ∀ i, tyN (.int i) = "int" := fun _ => rfl
  have t2 : ∀ i, tyN (.str i) = "str" := fun _ => rfl
  have i1 : isi1 "int" "str" = false := by decide
  have i2 : isi1 "str" "str" = true := by decide
  have k5 : okTy "str" = true := by decide
  rcases hd with ⟨j, rfl⟩ | ⟨a, rfl, ha⟩
  · simp! only [t1, i1, k5]
    exact ⟨by omega, h⟩
  · simp! only [t2, i2, k5]
    exact ⟨by omega, h⟩
theorem row_key_spec {ds : List PyData} (hd : ∀ d ∈ ds, VL d) (hl : ds.length ≤ 1000) {P : Rs → List (List PyData) → Prop} (h : P (.l (ds.map kv)) []) : wpF D_law_row_key [.v (.tuple ds)] P := by
  unfold D_law_row_key
  refine wp_F rfl ?_
  unfold m_law_row_key
  simp! only [true_and]
  refine lcI (fun i acc Γ => acc = (ds.take i).map kv ∧ Γ = [.im (.tuple ds), .em]) ⟨rfl, rfl⟩ ?_ ?_
  · rintro i d acc Γ hi ⟨rfl, rfl⟩
    have hv := hd d (get_mem hi)
    have hi' : i < ds.length := (List.getElem?_eq_some_iff.mp hi).1
    simp! only [hv.imm]
    refine law_key_spec hv ?_
    simp! only [true_and]
    refine ⟨by rw [List.length_map, List.length_take]; omega, ?_, rfl⟩
    rw [List.take_add_one, hi, List.map_append]
    rfl
  rintro acc Γ ⟨rfl, rfl⟩
  rw [List.take_length]
  exact h
abbrev fk (f : Fc) : PyData := .tuple [.str f.1, .list (f.2.map kv)]
def fkD : PyData → PyData
  | .tuple [.str a, .tuple r] => .tuple [.str a, .list (r.map kv)]
  | d => d
theorem fkD_f {f : Fc} : fkD (fD f) = fk f := rfl
structure FV (f : Fc) : Prop where
  nm : PyData.strOk f.1 = true
  vl : ∀ d ∈ f.2, VL d
  ln : f.2.length ≤ 8
theorem fact_key {f : Fc} (hf : FV f) : K_law_fact_key (fD f) = some (fkD (fD f)) := by
  unfold K_law_fact_key
  refine kTup_of ?_
  simp! only [true_and]
  refine row_key_spec hf.vl (by have := hf.ln; omega) ?_
  simp! only [true_and]
  omega
theorem VL.plain {d : PyData} (h : VL d) : d.plain = true := by
  rcases h with ⟨j, rfl⟩ | ⟨a, rfl, _⟩ <;> simp [PyData.plain]
theorem cmpb_kv {x y : PyData} (hx : VL x) (hy : VL y) : Vs.cmpb (kv x) (kv y) = true := by
  rcases hx with ⟨i, rfl⟩ | ⟨a, rfl, _⟩ <;> rcases hy with ⟨j, rfl⟩ | ⟨b, rfl, _⟩ <;> simp [Vs.cmpb, Vs.cmpbT, isS, PyData.eqv]
theorem cmpbL_kv : ∀ {xs ys : List PyData}, (∀ d ∈ xs, VL d) → (∀ d ∈ ys, VL d) → Vs.cmpbL (xs.map kv) (ys.map kv) = true
  | [], _, _, _ => by simp [Vs.cmpbL]
  | _ :: _, [], _, _ => by simp [Vs.cmpbL]
  | x :: xs, y :: ys, h1, h2 => by
    rw [List.map_cons, List.map_cons, Vs.cmpbL, cmpb_kv (h1 x (by simp)) (h2 y (by simp)), cmpbL_kv (fun d hd => h1 d (List.mem_cons_of_mem _ hd)) (fun d hd => h2 d (List.mem_cons_of_mem _ hd))]
    rfl
theorem cmpb_fk {f g : Fc} (hf : FV f) (hg : FV g) : Vs.cmpb (fk f) (fk g) = true := by
  have := cmpbL_kv hf.vl hg.vl
  simp [Vs.cmpb, Vs.cmpbT, this]
theorem okKeys_facts {fs : List Fc} (h : ∀ f ∈ fs, FV f) : okKeys ((FS fs).map fkD) = true := by
  have e : (FS fs).map fkD = fs.map fk := by rw [List.map_map]; rfl
  rw [e]
  unfold okKeys
  rw [Bool.and_eq_true, Bool.and_eq_true]
  refine ⟨List.all_eq_true.mpr fun k hk => ?_, List.all_eq_true.mpr fun k hk => List.all_eq_true.mpr fun k' hk' => ?_, ?_⟩
  · obtain ⟨f, hf, rfl⟩ := List.mem_map.mp hk
    have h1 : PyData.plainAll (f.2.map kv) = true := plain_all fun d hd => by
      obtain ⟨x, hx, rfl⟩ := List.mem_map.mp hd
      simp [PyData.plain, PyData.plainAll, ((h f hf).vl x hx).plain]
    have h2 : PyData.depthAll (f.2.map kv) ≤ 1 := dep_all fun d hd => by
      obtain ⟨x, hx, rfl⟩ := List.mem_map.mp hd
      simp [PyData.depth, PyData.depthAll, ((h f hf).vl x hx).lay.2]
    rw [Bool.and_eq_true]
    refine ⟨by simp [PyData.plain, PyData.plainAll, h1], decide_eq_true ?_⟩
    simp only [PyData.depth, PyData.depthAll]
    omega
  · obtain ⟨f, hf, rfl⟩ := List.mem_map.mp hk
    obtain ⟨g, hg, rfl⟩ := List.mem_map.mp hk'
    exact cmpb_fk (h f hf) (h g hg)
  · cases fs with
    | nil => rfl
    | cons f fs =>
      rw [List.map_cons]
      show (List.all _ _) = true
      refine List.all_eq_true.mpr fun k hk => ?_
      obtain ⟨g, hg, rfl⟩ := List.mem_map.mp hk
      rfl
theorem FV.gd {f : Fc} (h : FV f) : gd 2 (fD f) := by
  refine gd_tup (by simp) fun x hx => ?_
  simp only [List.mem_cons, List.not_mem_nil, or_false] at hx
  rcases hx with rfl | rfl
  · exact .inl (.inr ⟨_, rfl, h.nm⟩)
  · exact gd_tup (by have := h.ln; omega) fun y hy => h.vl y hy
theorem fD_inj {f g : Fc} (h : fD f = fD g) : f = g := by
  obtain ⟨a, r⟩ := f
  obtain ⟨b, q⟩ := g
  simp only [fD, PyData.tuple.injEq, List.cons.injEq, PyData.str.injEq, and_true] at h
  rw [h.1, h.2]
theorem FS_mem {f : Fc} {fs : List Fc} : fD f ∈ FS fs ↔ f ∈ fs := by
  constructor
  · intro h
    obtain ⟨g, hg, e⟩ := List.mem_map.mp h
    rw [← fD_inj e]; exact hg
  · exact fun h => List.mem_map.mpr ⟨f, h, rfl⟩
/-- the later fact isn't less -/
abbrev fle (f g : Fc) : Prop := PySem.W.dataLt (fk g) (fk f) = false
structure IsSt (fs gs : List Fc) : Prop where
  sub : ∀ g ∈ gs, g ∈ fs
  all : ∀ f ∈ fs, f ∈ gs
  nd : gs.Nodup
  ord : gs.Pairwise fle
  ln : gs.length ≤ fs.length
theorem eqvF {f g : Fc} (hf : FV f) (hg : FV g) : PyData.eqv (fD f) (fD g) = true ↔ f = g := by
  rw [eqv_gd hf.gd hg.gd]
  exact ⟨fD_inj, fun h => by rw [h]⟩
theorem anyF {f : Fc} {gs : List Fc} (hf : FV f) (hg : ∀ g ∈ gs, FV g) : ((FS gs).any fun z => PyData.eqv z (fD f)) = true ↔ f ∈ gs := by
  rw [any_gd hf.gd fun y hy => by
    obtain ⟨g, h, rfl⟩ := List.mem_map.mp hy
    exact (hg g h).gd]
  exact FS_mem
theorem sortF_facts {fs : List Fc} : ∃ zs : List Fc, sortF fkD (FS fs) = FS zs ∧ zs.Perm fs ∧ zs.Pairwise fle := by
  have e := PySem.W.sort_maps (r := fun a b : Fc => !PySem.W.dataLt (fkD (fD b)) (fkD (fD a))) (s := fun a b => !PySem.W.dataLt (fkD b) (fkD a)) fD (l := fs) (fun _ _ _ _ => rfl)
  refine ⟨fs.mergeSort fun a b => !PySem.W.dataLt (fkD (fD b)) (fkD (fD a)), e.symm, List.mergeSort_perm _ _, ?_⟩
  have t : PySem.W.TotalLe (fun a b : Fc => !PySem.W.dataLt (fkD (fD b)) (fkD (fD a))) := PySem.W.sortLe_total (PyProof.Rows.listOrd PyProof.Rows.itemOrd) false fun f : Fc => PySem.W.keyToks (fkD (fD f))
  refine (PySem.W.sort_pairwise t fs).imp fun {a b} h => ?_
  rw [Bool.not_eq_true'] at h
  exact h
theorem store_spec {fs : List Fc} (hf : ∀ f ∈ fs, FV f) (hl : fs.length ≤ 1000) {P : Rs → List (List PyData) → Prop} (h : ∀ gs, IsSt fs gs → P (.v (.tuple (FS gs))) []) : wpF D_law_store [.l (FS fs)] P := by
  unfold D_law_store
  refine wp_F rfl ?_
  unfold m_law_store
  obtain ⟨zs, e1, e2, e3⟩ := sortF_facts (fs := fs)
  have hs : sortK K_law_fact_key (FS fs) = some (FS zs) := by
    rw [sortK_of (f := fkD) (fun d hd => by
      obtain ⟨f, h, rfl⟩ := List.mem_map.mp hd
      exact fact_key (hf f h)) (okKeys_facts hf), e1]
  have hz : ∀ z ∈ zs, FV z := fun z hz => hf z (e2.mem_iff.mp hz)
  have hzl : zs.length = fs.length := e2.length_eq
  simp! only [hs]
  refine ⟨by omega, ?_⟩
  refine loopI (fun i Γ => ∃ gs s2, fre s2 ∧ (∀ g, g ∈ gs ↔ g ∈ zs.take i) ∧ gs.Nodup ∧ gs.Sublist (zs.take i) ∧ Γ = [.bo (FS fs), .ow (FS gs), s2]) ⟨[], .em, by simp! only [true_and], by simp, by simp, by simp, rfl⟩ ?_ ?_
  · rintro i d Γ hi ⟨gs, s2, h2, hm, hnd, hsb, rfl⟩
    have hi' : i < (FS zs).length := (List.getElem?_eq_some_iff.mp hi).1
    simp at hi'
    have : d = fD zs[i] := by
      have := (List.getElem?_eq_some_iff.mp hi).2
      rw [← this]; simp
    subst this
    have hzi := hz zs[i] (List.getElem_mem hi')
    have hgv : ∀ g ∈ gs, FV g := fun g hg => hz g (List.mem_of_mem_take ((hm g).mp hg))
    have hkk : zs.take (i + 1) = zs.take i ++ [zs[i]] := by
      rw [List.take_add_one, List.getElem?_eq_getElem hi']; rfl
    have hgl : gs.length ≤ 1000 := by
      have := hsb.length_le
      rw [List.length_take] at this; omega
    generalize zs[i] = z at *
    have ha := anyF hzi hgv
    simp! only [h2, niD_gd (n := 2) (by omega) hzi.gd (fun y hy => by
      obtain ⟨g, h, rfl⟩ := List.mem_map.mp hy
      exact (hgv g h).gd)]
    cases hc : (FS gs).any fun x => PyData.eqv x (fD z) with
    | true =>
      simp! only [Bool.not_true]
      refine ⟨gs, _, fre_im.mpr trivial, fun g => ?_, hnd, ?_, rfl⟩
      · rw [hkk, List.mem_append, List.mem_singleton, hm]
        constructor
        · exact .inl
        · rintro (h | rfl)
          · exact h
          · exact (hm _).mp (ha.mp hc)
      · rw [hkk]
        exact hsb.trans (List.sublist_append_left _ _)
    | false =>
      have hn : z ∉ gs := fun h => by rw [ha.mpr h] at hc; cases hc
      simp! only [Bool.not_false]
      rw [appendM_ok (gd_imm hzi.gd) (by simp; omega)]
      simp! only [true_and]
      refine ⟨gs ++ [z], _, fre_im.mpr trivial, fun g => ?_, ?_, ?_, by simp only [List.map_append, List.map_cons, List.map_nil] <;> rfl⟩
      · rw [hkk, List.mem_append, List.mem_append, hm]
      · rw [List.nodup_append]
        exact ⟨hnd, by simp, fun x hx y hy => by rw [List.mem_singleton.mp hy]; exact fun e => hn (e ▸ hx)⟩
      · rw [hkk]
        exact hsb.append (List.Sublist.refl _)
  · rintro Γ ⟨gs, s2, h2, hm, hnd, hsb, rfl⟩
    simp! only [true_and]
    rw [List.length_map, List.take_length] at hm hsb
    refine h gs ⟨fun g hg => e2.mem_iff.mp ((hm g).mp hg), fun f hf => (hm f).mpr (e2.mem_iff.mpr hf), hnd, e3.sublist hsb, ?_⟩
    have := hsb.length_le
    omega
end Lw
end

section
set_option Elab.async false
set_option linter.all false
set_option maxRecDepth 100000
set_option maxHeartbeats 400000
namespace Lw
open PySem PySem.Spec PyProof.Rows L2 Vf
variable [Tabs]
local macro_rules | `(tactic| simp! only [$ls,*]) => `(tactic| simp -implicitDefEqProofs only [↓wp_var, ↓wp_c, ↓wp_op2, ↓wp_op1, ↓wp_aNil, ↓wp_aCons, ↓wp_cb, ↓wp_mut, ↓wp_mth, ↓wp_tup, ↓wp_lst, ↓wp_isi, ↓wp_isi2, ↓wp_bVal, ↓wp_bTru, ↓wp_bNot, ↓wp_bAnd, ↓wp_bOr, ↓wp_bYes, ↓wp_eIf, ↓wp_andV, ↓wp_orV, ↓wp_notV, ↓wp_oNone, ↓wp_oSome, ↓wp_sl, ↓wp_callC, ↓wp_sortK, ↓wp_zip, zp_t, ↓wp_rev, revT, revL, ↓wp_sMv, mvq_ow, ↓wp_idx, imT_t,  skv_l, ↓wp_allS, ↓wp_seq, sq_next, sq_ret, sq_brk, sq_cont, ↓wp_next, ↓wp_brk, ↓wp_cont, ↓wp_ret, ↓wp_retN, ↓wp_drop, ↓wp_sIf, ↓wp_sSet, ↓wp_sAsg, ↓wp_sSetIx, ↓wp_iter, ↓wp_range1, ↓wp_range2, ↓wp_forP, ↓wp_lcP, pr_mk, vr_im, vr_ow, vr_io, vr_bo, rdv_im, rdv_nw, rdv_sl, rsl_ow, rsl_io, rsl_bo, rdvs_nil, rdvs_cons, cons2_some, ims_nil, ims_cons, o2_some, oo_some, om_some, imS_str, blV_b, inV1_i, imV_im, itv_t, itv_s, itv_n, itv_l, itl_ow, itl_bo, rg1_i, rg2_i, toV_int, toV_bool, toV_str, toV_tuple, toV_none, toV_list,
  slotOf, setS_eq, sS_fre, fre_em, fre_im, fre_ow, fre_bo, getM_eq, gM_ow, gM_io, putL_eq, pL_ow, pL_io, putLs, rsV, slM, slB, arsOf, arOf_im, arOf_int, arOf_str, arOf_bool, arOf_none, arOf_tuple, arOf_nw, arOf_sl, arOf_m, arS_ow, arS_io, arS_bo, arM_ow, arM_io, resP_ret, resP_next, resOf_im, resOf_nw, resOf_sl, rso_ow, outsOf, initG, slotA, bor, unb, clr, rst, gtName, gtTup, gtCons, gtNil, outI_next, outI_cont, outI_brk, outI_ret,
  List.getElem?_cons_zero, List.getElem?_cons_succ, List.set_cons_zero, List.set_cons_succ, List.map_cons, List.map_nil, List.cons_append, List.nil_append, List.append_nil, List.length_cons, List.length_nil, List.replicate_succ, List.replicate_zero, Nat.sub_self, Nat.reduceAdd, Nat.reduceSub, Nat.reduceEqDiff, List.getElem?_nil, 
  eqD_int, neD_int, eqD_bool, neD_bool, addD_int, subD_int, ltD_int, leD_int, gtD_int, geD_int, intD_int, intD_bool, lenL, lenT, listD_l, listD_t, tupleD_l, tupleD_t, ixL_int, ixT_int, ixS_int, negD_int, truD_b, atI0, atI1, atI2, List.nodup_nil, List.nodup_cons, List.not_mem_nil, not_false_eq_true, false_imp_iff, implies_true, and_true, true_and, and_self, if_true, if_false, Bool.false_eq_true, reduceIte, List.mem_cons, or_false, false_or, forall_eq, forall_eq_or_imp, imm_int, imm_str, beq_iff_eq, bne_iff_ne, decide_eq_true_eq, Bool.not_eq_true', $ls,*])
local macro_rules | `(tactic| dsimp! only [$ls,*]) => `(tactic| simp -implicitDefEqProofs only [↓wp_sIfY, ↓wp_var, ↓wp_c, ↓wp_op2, ↓wp_op1, ↓wp_aNil, ↓wp_aCons, ↓wp_cb, ↓wp_mut, ↓wp_mth, ↓wp_tup, ↓wp_lst, ↓wp_isi, ↓wp_isi2, ↓wp_bVal, ↓wp_bTru, ↓wp_bNot, ↓wp_bAnd, ↓wp_bOr, ↓wp_bYes, ↓wp_eIf, ↓wp_andV, ↓wp_orV, ↓wp_notV, ↓wp_oNone, ↓wp_oSome, ↓wp_sl, ↓wp_callC, ↓wp_sortK, ↓wp_zip, zp_t, ↓wp_rev, revT, revL, ↓wp_sMv, mvq_ow, ↓wp_idx, imT_t,  skv_l, ↓wp_allS, ↓wp_seq, sq_next, sq_ret, sq_brk, sq_cont, ↓wp_next, ↓wp_brk, ↓wp_cont, ↓wp_ret, ↓wp_retN, ↓wp_drop, ↓wp_sSet, ↓wp_sAsg, ↓wp_sSetIx, ↓wp_iter, ↓wp_range1, ↓wp_range2, ↓wp_forP, ↓wp_lcP, pr_mk, vr_im, vr_ow, vr_io, vr_bo, rdv_im, rdv_nw, rdv_sl, rsl_ow, rsl_io, rsl_bo, rdvs_nil, rdvs_cons, cons2_some, ims_nil, ims_cons, o2_some, oo_some, om_some, imS_str, blV_b, inV1_i, imV_im, itv_t, itv_s, itv_n, itv_l, itl_ow, itl_bo, rg1_i, rg2_i, toV_int, toV_bool, toV_str, toV_tuple, toV_none, toV_list,
  slotOf, setS_eq, sS_fre, fre_em, fre_im, fre_ow, fre_bo, getM_eq, gM_ow, gM_io, putL_eq, pL_ow, pL_io, putLs, rsV, slM, slB, arsOf, arOf_im, arOf_int, arOf_str, arOf_bool, arOf_none, arOf_tuple, arOf_nw, arOf_sl, arOf_m, arS_ow, arS_io, arS_bo, arM_ow, arM_io, resP_ret, resP_next, resOf_im, resOf_nw, resOf_sl, rso_ow, outsOf, initG, slotA, bor, unb, clr, rst, gtName, gtTup, gtCons, gtNil, outI_next, outI_cont, outI_brk, outI_ret,
  List.getElem?_cons_zero, List.getElem?_cons_succ, List.set_cons_zero, List.set_cons_succ, List.map_cons, List.map_nil, List.cons_append, List.nil_append, List.append_nil, List.length_cons, List.length_nil, List.replicate_succ, List.replicate_zero, Nat.sub_self, Nat.reduceAdd, Nat.reduceSub, Nat.reduceEqDiff, List.getElem?_nil, 
  eqD_int, neD_int, eqD_bool, neD_bool, addD_int, subD_int, ltD_int, leD_int, gtD_int, geD_int, intD_int, intD_bool, lenL, lenT, listD_l, listD_t, tupleD_l, tupleD_t, ixL_int, ixT_int, ixS_int, negD_int, truD_b, atI0, atI1, atI2, List.nodup_nil, List.nodup_cons, List.not_mem_nil, not_false_eq_true, false_imp_iff, implies_true, and_true, true_and, and_self, if_true, if_false, Bool.false_eq_true, reduceIte, List.mem_cons, or_false, false_or, forall_eq, forall_eq_or_imp, imm_int, imm_str, beq_iff_eq, bne_iff_ne, decide_eq_true_eq, Bool.not_eq_true', $ls,*])
/-! keys, places, rivals -/
theorem FOk.fv {l : List Tb} {f : Fc} (hl : SOk l) (h : FOk l f) : FV f := by
  obtain ⟨t, ht, e, e2⟩ := h.tb
  have := hl.ok t ht
  exact ⟨h.nm, h.vl, by omega⟩
theorem law_table_spec {l : List Tb} (hl : SOk l) {t : Tb} (ht : t ∈ l) {P : Rs → List (List PyData) → Prop} (h : P (.v (tD t)) []) : wpF D_law_table [.v (.tuple (TS l)), .v (.str t.1)] P := by
  unfold D_law_table
  refine wp_F rfl ?_
  unfold m_law_table
  simp! only [true_and]
  refine loopI (fun i Γ => ∃ s2, fre s2 ∧ (∀ s ∈ l.take i, s.1 ≠ t.1) ∧ Γ = [.im (.tuple (TS l)), .im (.str t.1), s2]) ⟨.em, by simp! only [true_and], by simp, rfl⟩ ?_ ?_
  · rintro i d Γ hi ⟨s2, h2, hn, rfl⟩
    have hi' : i < (TS l).length := (List.getElem?_eq_some_iff.mp hi).1
    simp at hi'
    have : d = tD l[i] := by
      have := (List.getElem?_eq_some_iff.mp hi).2
      rw [← this]; simp
    subst this
    have hto := hl.ok l[i] (List.getElem_mem hi')
    have htm := List.getElem_mem hi'
    have hkk : l.take (i + 1) = l.take i ++ [l[i]] := by
      rw [List.take_add_one, List.getElem?_eq_getElem hi']; rfl
    generalize l[i] = s at *
    simp! only [h2, eqD_str (a := s.1) (b := t.1) hto.1 (hl.ok t ht).1]
    split
    · rename_i he
      have := uniq hl.nd htm ht (by simpa using he)
      subst this
      exact h
    · rename_i he
      refine ⟨_, fre_im.mpr trivial, ?_, rfl⟩
      intro x hx
      rw [hkk] at hx
      rcases List.mem_append.mp hx with hx | hx
      · exact hn x hx
      · rw [List.mem_singleton.mp hx]; simpa using he
  · rintro Γ ⟨s2, h2, hn, rfl⟩
    rw [List.length_map, List.take_length] at hn
    exact absurd rfl (hn t ht)
/-- the number of key columns of the table with this name -/
def kc (l : List Tb) (n : Str) : Nat := match l.find? fun t => t.1 == n with
  | some t => t.2.1.toNat
  | none => 0
theorem kc_of {l : List Tb} (hl : SOk l) {t : Tb} (ht : t ∈ l) : kc l t.1 = t.2.1.toNat := by
  unfold kc
  cases e : l.find? fun s => s.1 == t.1 with
  | none =>
    have := List.find?_eq_none.mp e t ht
    simp at this
  | some s =>
    have h1 := List.mem_of_find?_eq_some e
    have h2 := List.find?_some e
    have := uniq hl.nd h1 ht (by simpa using h2)
    rw [this]
abbrev ky (l : List Tb) (f : Fc) : PyData := .tuple (f.2.take (kc l f.1))
abbrev pk (l : List Tb) (f : Fc) : PyData := .tuple [.str f.1, ky l f]
theorem key_of_ok {l : List Tb} (hl : SOk l) {f : Fc} (hf : FOk l f) {P : Rs → List (List PyData) → Prop} (h : P (.v (ky l f)) []) : wpF D_key_of [.v (.tuple (TS l)), .v (fD f)] P := by
  obtain ⟨t, ht, e, _⟩ := hf.tb
  refine key_of_spec hl ht e ?_
  rw [← kc_of hl ht, e]
  exact h
theorem law_key_of_ok {l : List Tb} (hl : SOk l) {f : Fc} (hf : FOk l f) {P : Rs → List (List PyData) → Prop} (h : P (.v (ky l f)) []) : wpF D_law_key_of [.v (.tuple (TS l)), .v (fD f)] P := by
  obtain ⟨t, ht, e, _⟩ := hf.tb
  unfold D_law_key_of
  refine wp_F rfl ?_
  unfold m_law_key_of
  simp! only [true_and]
  rw [← e]
  refine law_table_spec hl ht ?_
  simp! only [slT_to (ds := f.2) (hl.ok t ht).2.1]
  rw [← kc_of hl ht, e]
  exact h
theorem ky_gd {l : List Tb} {f : Fc} (hf : FV f) : gd 1 (ky l f) := gd_tup (by have := hf.ln; rw [List.length_take]; omega) fun x hx => hf.vl x (List.mem_of_mem_take hx)
theorem pk_gd {l : List Tb} {f : Fc} (hf : FV f) : gd 2 (pk l f) := gd_tup (by simp) fun x hx => by
  simp only [List.mem_cons, List.not_mem_nil, or_false] at hx
  rcases hx with rfl | rfl
  · exact .inl (.inr ⟨_, rfl, hf.nm⟩)
  · exact ky_gd hf
theorem place_of_ok {l : List Tb} (hl : SOk l) {f : Fc} (hf : FOk l f) {P : Rs → List (List PyData) → Prop} (h : P (.v (pk l f)) []) : wpF D_place_of [.v (.tuple (TS l)), .v (fD f)] P := by
  unfold D_place_of
  refine wp_F rfl ?_
  unfold m_place_of
  simp! only [true_and]
  refine key_of_ok hl hf ?_
  simp! only [true_and]
  exact ⟨by omega, h⟩
def rvp (l : List Tb) (f g : Fc) : Bool := !PyData.eqv (fD g) (fD f) && PyData.eqv (pk l g) (pk l f)
def riv (l : List Tb) (gs : List Fc) (f : Fc) : List Fc := gs.filter (rvp l f)
theorem flt {α : Type} {p : α → Bool} {a : List α} {x : α} {b : Bool} (h : p x = b) : (a ++ [x]).filter p = a.filter p ++ (if b = true then [x] else []) := by
  rw [List.filter_append, List.filter_cons, List.filter_nil, h]
theorem immAll_FS {gs : List Fc} (h : ∀ g ∈ gs, FV g) : immAll (FS gs) = true := immAll_of fun d hd => by
  obtain ⟨g, hg, rfl⟩ := List.mem_map.mp hd
  exact gd_imm (h g hg).gd
theorem rivals_ok {l : List Tb} (hl : SOk l) {gs : List Fc} (hg : ∀ g ∈ gs, FOk l g) (hgl : gs.length ≤ 1000) {f : Fc} (hf : FOk l f) {P : Rs → List (List PyData) → Prop} (h : P (.v (.tuple (FS (riv l gs f)))) []) : wpF D_rivals_of [.v (.tuple (TS l)), .v (.tuple (FS gs)), .v (fD f)] P := by
  unfold D_rivals_of
  refine wp_F rfl ?_
  unfold m_rivals_of
  simp! only [true_and]
  refine place_of_ok hl hf ?_
  simp! only [true_and]
  refine lcI (fun i acc Γ => acc = FS ((gs.take i).filter (rvp l f)) ∧ Γ = [.im (.tuple (TS l)), .im (.tuple (FS gs)), .im (fD f), .im (pk l f), .em]) ⟨rfl, rfl⟩ ?_ ?_
  · rintro i d acc Γ hi ⟨rfl, rfl⟩
    have hi' : i < (FS gs).length := (List.getElem?_eq_some_iff.mp hi).1
    simp at hi'
    have : d = fD gs[i] := by
      have := (List.getElem?_eq_some_iff.mp hi).2
      rw [← this]; simp
    subst this
    have hgi := hg gs[i] (List.getElem_mem hi')
    have hkk : gs.take (i + 1) = gs.take i ++ [gs[i]] := by
      rw [List.take_add_one, List.getElem?_eq_getElem hi']; rfl
    have hlen : ((gs.take i).filter (rvp l f)).length ≤ 1000 := by
      refine Nat.le_trans (List.length_filter_le _ _) ?_
      rw [List.length_take]; omega
    generalize gs[i] = g at *
    have e1 := neD_gd (n := 2) (by omega) (hgi.fv hl).gd (hf.fv hl).gd
    have e2 := eqD_gd (n := 2) (by omega) (pk_gd (l := l) (hgi.fv hl)) (pk_gd (l := l) (hf.fv hl))
    simp! only [e1]
    cases c1 : PyData.eqv (fD g) (fD f) with
    | true =>
      simp! only [Bool.true_eq_false]
      refine ⟨?_, rfl⟩
      rw [hkk, flt (b := false) (by unfold rvp; rw [c1]; rfl)]
      simp
    | false =>
      simp! only [Bool.not_false]
      refine place_of_ok hl hgi ?_
      simp! only [e2]
      cases c2 : PyData.eqv (pk l g) (pk l f) with
      | true =>
        simp! only [true_and]
        refine ⟨by rw [List.length_map]; omega, ?_, rfl⟩
        rw [hkk, flt (b := true) (by unfold rvp; rw [c1, c2]; rfl), if_pos rfl]
        simp only [List.map_append, List.map_cons, List.map_nil]
      | false =>
        simp! only [true_and]
        refine ⟨?_, rfl⟩
        rw [hkk, flt (b := false) (by unfold rvp; rw [c1, c2]; rfl)]
        simp
  rintro acc Γ ⟨rfl, rfl⟩
  simp! only [true_and]
  rw [List.length_map, List.take_length]
  exact h
/-! a schema and a store of it -/
structure Wd (l : List Tb) (gs : List Fc) : Prop where
  sch : SOk l
  ll : l.length ≤ 21
  fct : ∀ g ∈ gs, FOk l g
  nd : gs.Nodup
  ord : gs.Pairwise fle
  ln : gs.length ≤ 200
theorem wd_of {l : List Tb} (hl : SOk l) (hll : l.length ≤ 21) {fs gs : List Fc} (hf : ∀ f ∈ fs, FOk l f) (hfl : fs.length ≤ 200) (h : IsSt fs gs) : Wd l gs :=
  ⟨hl, hll, fun g hg => hf g (h.sub g hg), h.nd, h.ord, by have := h.ln; omega⟩
theorem many_blocks_spec {ns sc : List Int} {P : Rs → List (List PyData) → Prop} (h : ∀ l gs ns', Wd l gs → P (.l [.tuple (TS l), .tuple (FS gs)]) [DI ns']) : wpF D_law_many_blocks [.m (DI ns), .l (DI sc)] P := by
  unfold D_law_many_blocks
  refine wp_F rfl ?_
  unfold m_law_many_blocks
  dsimp! only [true_and]
  refine words_spec (by omega) fun ws ns1 hw hwl => ?_
  have hwl2 : ws.length = 2 := hwl
  have hso : sortSD [.list (DS ws)] = some (.list (DS (sortStrs ws))) := by
    simp only [sortSD, strsOf_map]
    rw [if_pos (by omega)]
  have hp := sortStrs_perm ws
  have hnd : (sortStrs ws).Nodup := hp.nodup_iff.mpr hw.nd
  have hok : ∀ a ∈ sortStrs ws, PyData.strOk a = true := fun a ha => (hw.ok a (hp.mem_iff.mp ha)).2.2
  have hln : (sortStrs ws).length = 2 := by rw [hp.length_eq, hwl2]
  have hmm : ∀ a ∈ ws, a ∈ sortStrs ws := fun a ha => hp.mem_iff.mpr ha
  dsimp! only [hso]
  clear hp hso
  generalize sortStrs ws = names at *
  refine lcI (fun i acc Γ => acc = TS ((names.take i).map fun a => (a, 1, 1)) ∧ Γ = [.io (DI ns1), .bo (DI sc), .ow (DS ws), .em, .em, .em, .em, .em, .em]) ⟨rfl, rfl⟩ ?_ ?_
  · rintro i d acc Γ hi ⟨rfl, rfl⟩
    have hi' : i < (DS names).length := (List.getElem?_eq_some_iff.mp hi).1
    simp at hi'
    have : d = .str names[i] := by
      have := (List.getElem?_eq_some_iff.mp hi).2
      rw [← this]; simp
    subst this
    simp! only [true_and]
    refine ⟨by omega, by rw [List.length_map, List.length_map, List.length_take]; omega, ?_, rfl⟩
    rw [List.take_add_one, List.getElem?_eq_getElem hi', List.map_append]
    show _ = List.map tD (_ ++ _)
    rw [List.map_append]
    rfl
  rintro acc Γ ⟨rfl, rfl⟩
  rw [List.length_map, List.take_length]
  have hl : SOk (names.map fun a => (a, 1, 1)) := ⟨by rw [List.map_map]; exact (List.map_id names).symm ▸ hnd, fun t ht => by
    obtain ⟨a, ha, rfl⟩ := List.mem_map.mp ht
    exact ⟨hok a ha, Int.zero_le_ofNat 1, Int.zero_le_ofNat 1, show (1 : Int) + 1 ≤ 8 by omega⟩⟩
  have hll : (names.map fun a => ((a, 1, 1) : Tb)).length ≤ 21 := by rw [List.length_map]; omega
  have hfk : ∀ (a : Str) (i j : Int), a ∈ ws → FOk (names.map fun a => (a, 1, 1)) (a, [.int i, .int j]) := fun a i j ha => ⟨hok a (hmm a ha), ⟨(a, 1, 1), List.mem_map.mpr ⟨a, hmm a ha, rfl⟩, rfl, rfl⟩, fun d hd => by
    simp only [List.mem_cons, List.not_mem_nil, or_false] at hd
    rcases hd with rfl | rfl
    · exact .inl ⟨_, rfl⟩
    · exact .inl ⟨_, rfl⟩⟩
  generalize (names.map fun a => ((a, 1, 1) : Tb)) = l at *
  dsimp! only [true_and]
  refine ⟨by omega, ?_⟩
  refine take_spec (by omega) fun s0 ns2 _ _ => ?_
  dsimp! only [true_and]
  refine take_spec (by omega) fun n ns3 n0 n1 => ?_
  dsimp! only [true_and]
  refine ⟨by omega, ?_⟩
  refine loopI (fun i Γ => ∃ ns fs st s6 s7 s8, fre s6 ∧ fre s7 ∧ fre s8 ∧ fs.length ≤ 4 * i ∧ (∀ f ∈ fs, FOk l f) ∧ Γ = [.io (DI ns), .bo (DI sc), .ow (DS ws), .im (.tuple (TS l)), .ow (FS fs), .im (.int st), s6, s7, s8]) ⟨ns3, [], _, .em, .em, .em, by simp! only [true_and], by simp! only [true_and], by simp! only [true_and], by simp, by simp, rfl⟩ ?_ ?_
  · rintro i d Γ hi ⟨ns, fs, st, s6, s7, s8, h6, h7, h8, hfl, hfo, rfl⟩
    obtain ⟨rfl, hi⟩ := rng1_get hi
    dsimp! only [h6]
    refine take_spec (by omega) fun v ns4 _ _ => ?_
    dsimp! only [h7]
    refine pick_spec (ds := DS ws) (by simp; omega) immAll_strs fun d ns5 hd => ?_
    obtain ⟨b, hb, rfl⟩ := List.mem_map.mp hd
    dsimp! only [h7]
    refine ⟨by omega, ?_⟩
    refine take_spec (by omega) fun k ns6 k0 k1 => ?_
    obtain ⟨m, em, m0, m1⟩ : ∃ m : Int, ixD (.list [.int 2, .int 1, .int 3, .int 4, .int 2]) (.int k) = some (.int m) ∧ 0 ≤ m ∧ m ≤ 4 := by
      have : k = 0 ∨ k = 1 ∨ k = 2 ∨ k = 3 ∨ k = 4 := by omega
      rcases this with rfl | rfl | rfl | rfl | rfl <;> exact ⟨_, atI_of (i := _) rfl, by omega, by omega⟩
    dsimp! only [em]
    refine ⟨by omega, ?_⟩
    refine loopI (fun j Γ => ∃ fs s8, fre s8 ∧ fs.length ≤ 4 * i + j ∧ (∀ f ∈ fs, FOk l f) ∧ Γ = [.io (DI ns6), .bo (DI sc), .ow (DS ws), .im (.tuple (TS l)), .ow (FS fs), .im (.int (st + 1 + v)), .im (.int i), .im (.str b), s8]) ⟨fs, s8, h8, by omega, hfo, rfl⟩ ?_ ?_
    · rintro j d Γ hj ⟨fs, s8, h8, hfl, hfo, rfl⟩
      obtain ⟨rfl, hj⟩ := rng1_get hj
      simp! only [h8, mulD_l (i := 3) (j := (j : Int)) (by omega)]
      refine ⟨by omega, by omega, ?_⟩
      rw [appendM_ok (imm_fD (f := (b, [.int (st + 1 + v), .int (3 * j + i)])) (hfk b _ _ hb).vl) (by simp; omega)]
      simp! only [true_and]
      refine ⟨fs ++ [(b, [.int (st + 1 + v), .int (3 * j + i)])], _, fre_im.mpr trivial, by simp; omega, ?_, by simp only [List.map_append, List.map_cons, List.map_nil] <;> rfl⟩
      intro f hf
      rcases List.mem_append.mp hf with hf | hf
      · exact hfo f hf
      · rw [List.mem_singleton.mp hf]; exact hfk b _ _ hb
    · rintro Γ ⟨fs, s8, h8, hfl, hfo, rfl⟩
      rw [rng1_len] at hfl
      simp! only [true_and]
      exact ⟨ns6, fs, _, _, _, s8, fre_im.mpr trivial, fre_im.mpr trivial, h8, by omega, hfo, rfl⟩
  · rintro Γ ⟨ns, fs, st, s6, s7, s8, h6, h7, h8, hfl, hfo, rfl⟩
    rw [rng1_len] at hfl
    simp! only [true_and]
    refine store_spec (fun f hf => (hfo f hf).fv hl) (by omega) fun gs hg => ?_
    simp! only [true_and]
    exact ⟨by omega, h l gs ns (wd_of hl hll hfo (by omega) hg)⟩
theorem some_store_spec {ns sc : List Int} {P : Rs → List (List PyData) → Prop} (h : ∀ l gs ns', Wd l gs → P (.l [.tuple (TS l), .tuple (FS gs)]) [DI ns']) : wpF D_law_some_store [.m (DI ns), .l (DI sc)] P := by
  unfold D_law_some_store
  refine wp_F rfl ?_
  unfold m_law_some_store
  dsimp! only [true_and]
  rw [wpY_eq, wp_sIf]
  dsimp! only [true_and]
  refine take_spec (by omega) fun v ns1 _ _ => ?_
  dsimp! only [true_and]
  split
  · refine many_blocks_spec fun l gs ns2 hw => ?_
    dsimp! only [true_and]
    exact h l gs ns2 hw
  · refine words_spec (by omega) fun ws ns2 hw hwl0 => ?_
    have hwl : 1 ≤ ws.length ∧ ws.length ≤ 40 := by rw [hwl0]; decide
    dsimp! only [true_and]
    refine any_schema_spec hw hwl fun l ns3 hl hll => ?_
    dsimp! only [true_and]
    refine any_facts_spec hw hwl hl (by omega) fun fs ns4 hfs hfl => ?_
    dsimp! only [true_and]
    refine store_spec (fun f hf => (hfs f hf).fv hl) (by omega) fun gs hg => ?_
    simp! only [true_and]
    exact ⟨by omega, h l gs ns4 (wd_of hl hll hfs (by omega) hg)⟩
end Lw
end

section
set_option Elab.async false
set_option linter.all false
set_option maxRecDepth 100000
set_option maxHeartbeats 400000
namespace Lw
open PySem PySem.Spec PyProof.Rows L2 Vf
variable [Tabs]
local macro_rules | `(tactic| simp! only [$ls,*]) => `(tactic| simp -implicitDefEqProofs only [↓wp_var, ↓wp_c, ↓wp_op2, ↓wp_op1, ↓wp_aNil, ↓wp_aCons, ↓wp_cb, ↓wp_mut, ↓wp_mth, ↓wp_tup, ↓wp_lst, ↓wp_isi, ↓wp_isi2, ↓wp_bVal, ↓wp_bTru, ↓wp_bNot, ↓wp_bAnd, ↓wp_bOr, ↓wp_bYes, ↓wp_eIf, ↓wp_andV, ↓wp_orV, ↓wp_notV, ↓wp_oNone, ↓wp_oSome, ↓wp_sl, ↓wp_callC, ↓wp_sortK, ↓wp_zip, zp_t, ↓wp_rev, revT, revL, ↓wp_sMv, mvq_ow, ↓wp_idx, imT_t,  skv_l, ↓wp_allS, ↓wp_seq, sq_next, sq_ret, sq_brk, sq_cont, ↓wp_next, ↓wp_brk, ↓wp_cont, ↓wp_ret, ↓wp_retN, ↓wp_drop, ↓wp_sIf, ↓wp_sSet, ↓wp_sAsg, ↓wp_sSetIx, ↓wp_iter, ↓wp_range1, ↓wp_range2, ↓wp_forP, ↓wp_lcP, pr_mk, vr_im, vr_ow, vr_io, vr_bo, rdv_im, rdv_nw, rdv_sl, rsl_ow, rsl_io, rsl_bo, rdvs_nil, rdvs_cons, cons2_some, ims_nil, ims_cons, o2_some, oo_some, om_some, imS_str, blV_b, inV1_i, imV_im, itv_t, itv_s, itv_n, itv_l, itl_ow, itl_bo, rg1_i, rg2_i, toV_int, toV_bool, toV_str, toV_tuple, toV_none, toV_list,
  slotOf, setS_eq, sS_fre, fre_em, fre_im, fre_ow, fre_bo, getM_eq, gM_ow, gM_io, putL_eq, pL_ow, pL_io, putLs, rsV, slM, slB, arsOf, arOf_im, arOf_int, arOf_str, arOf_bool, arOf_none, arOf_tuple, arOf_nw, arOf_sl, arOf_m, arS_ow, arS_io, arS_bo, arM_ow, arM_io, resP_ret, resP_next, resOf_im, resOf_nw, resOf_sl, rso_ow, outsOf, initG, slotA, bor, unb, clr, rst, gtName, gtTup, gtCons, gtNil, outI_next, outI_cont, outI_brk, outI_ret,
  List.getElem?_cons_zero, List.getElem?_cons_succ, List.set_cons_zero, List.set_cons_succ, List.map_cons, List.map_nil, List.cons_append, List.nil_append, List.append_nil, List.length_cons, List.length_nil, List.replicate_succ, List.replicate_zero, Nat.sub_self, Nat.reduceAdd, Nat.reduceSub, Nat.reduceEqDiff, List.getElem?_nil, 
  eqD_int, neD_int, eqD_bool, neD_bool, addD_int, subD_int, ltD_int, leD_int, gtD_int, geD_int, intD_int, intD_bool, lenL, lenT, listD_l, listD_t, tupleD_l, tupleD_t, ixL_int, ixT_int, ixS_int, negD_int, truD_b, atI0, atI1, atI2, List.nodup_nil, List.nodup_cons, List.not_mem_nil, not_false_eq_true, false_imp_iff, implies_true, and_true, true_and, and_self, if_true, if_false, Bool.false_eq_true, reduceIte, List.mem_cons, or_false, false_or, forall_eq, forall_eq_or_imp, imm_int, imm_str, beq_iff_eq, bne_iff_ne, decide_eq_true_eq, Bool.not_eq_true', $ls,*])
local macro_rules | `(tactic| dsimp! only [$ls,*]) => `(tactic| simp -implicitDefEqProofs only [↓wp_sIfY, ↓wp_var, ↓wp_c, ↓wp_op2, ↓wp_op1, ↓wp_aNil, ↓wp_aCons, ↓wp_cb, ↓wp_mut, ↓wp_mth, ↓wp_tup, ↓wp_lst, ↓wp_isi, ↓wp_isi2, ↓wp_bVal, ↓wp_bTru, ↓wp_bNot, ↓wp_bAnd, ↓wp_bOr, ↓wp_bYes, ↓wp_eIf, ↓wp_andV, ↓wp_orV, ↓wp_notV, ↓wp_oNone, ↓wp_oSome, ↓wp_sl, ↓wp_callC, ↓wp_sortK, ↓wp_zip, zp_t, ↓wp_rev, revT, revL, ↓wp_sMv, mvq_ow, ↓wp_idx, imT_t,  skv_l, ↓wp_allS, ↓wp_seq, sq_next, sq_ret, sq_brk, sq_cont, ↓wp_next, ↓wp_brk, ↓wp_cont, ↓wp_ret, ↓wp_retN, ↓wp_drop, ↓wp_sSet, ↓wp_sAsg, ↓wp_sSetIx, ↓wp_iter, ↓wp_range1, ↓wp_range2, ↓wp_forP, ↓wp_lcP, pr_mk, vr_im, vr_ow, vr_io, vr_bo, rdv_im, rdv_nw, rdv_sl, rsl_ow, rsl_io, rsl_bo, rdvs_nil, rdvs_cons, cons2_some, ims_nil, ims_cons, o2_some, oo_some, om_some, imS_str, blV_b, inV1_i, imV_im, itv_t, itv_s, itv_n, itv_l, itl_ow, itl_bo, rg1_i, rg2_i, toV_int, toV_bool, toV_str, toV_tuple, toV_none, toV_list,
  slotOf, setS_eq, sS_fre, fre_em, fre_im, fre_ow, fre_bo, getM_eq, gM_ow, gM_io, putL_eq, pL_ow, pL_io, putLs, rsV, slM, slB, arsOf, arOf_im, arOf_int, arOf_str, arOf_bool, arOf_none, arOf_tuple, arOf_nw, arOf_sl, arOf_m, arS_ow, arS_io, arS_bo, arM_ow, arM_io, resP_ret, resP_next, resOf_im, resOf_nw, resOf_sl, rso_ow, outsOf, initG, slotA, bor, unb, clr, rst, gtName, gtTup, gtCons, gtNil, outI_next, outI_cont, outI_brk, outI_ret,
  List.getElem?_cons_zero, List.getElem?_cons_succ, List.set_cons_zero, List.set_cons_succ, List.map_cons, List.map_nil, List.cons_append, List.nil_append, List.append_nil, List.length_cons, List.length_nil, List.replicate_succ, List.replicate_zero, Nat.sub_self, Nat.reduceAdd, Nat.reduceSub, Nat.reduceEqDiff, List.getElem?_nil, 
  eqD_int, neD_int, eqD_bool, neD_bool, addD_int, subD_int, ltD_int, leD_int, gtD_int, geD_int, intD_int, intD_bool, lenL, lenT, listD_l, listD_t, tupleD_l, tupleD_t, ixL_int, ixT_int, ixS_int, negD_int, truD_b, atI0, atI1, atI2, List.nodup_nil, List.nodup_cons, List.not_mem_nil, not_false_eq_true, false_imp_iff, implies_true, and_true, true_and, and_self, if_true, if_false, Bool.false_eq_true, reduceIte, List.mem_cons, or_false, false_or, forall_eq, forall_eq_or_imp, imm_int, imm_str, beq_iff_eq, bne_iff_ne, decide_eq_true_eq, Bool.not_eq_true', $ls,*])
/-! the order of the facts, place by place -/
abbrev Tok1 := Int ⊕ List Nat
theorem sand : ∀ (p t1 t2 t3 : List Tok1), PyProof.Rows.lexLt PyProof.Rows.itemOrd t2 (p ++ t1) = false → PyProof.Rows.lexLt PyProof.Rows.itemOrd (p ++ t3) t2 = false → ∃ t, t2 = p ++ t
  | [], _, t2, _, _, _ => ⟨t2, rfl⟩
  | x :: p, t1, [], _, h, _ => absurd (show true = false from h) (by decide)
  | x :: p, t1, y :: t2, t3, h1, h2 => by
    obtain ⟨a1, a2⟩ := PyProof.Rows.lex_false.mp (show PyProof.Rows.lexLt PyProof.Rows.itemOrd (y :: t2) (x :: (p ++ t1)) = false from h1)
    obtain ⟨b1, b2⟩ := PyProof.Rows.lex_false.mp (show PyProof.Rows.lexLt PyProof.Rows.itemOrd (x :: (p ++ t3)) (y :: t2) = false from h2)
    have e : y = x := PyProof.Rows.itemOrd.total y x a1 b1
    subst e
    obtain ⟨t, rfl⟩ := sand p t1 t2 t3 (a2.resolve_left (by rw [b1]; decide)) (b2.resolve_left (by rw [a1]; decide))
    exact ⟨t, rfl⟩
def tk1 : PyData → Tok1
  | .int i => .inl i
  | .str s => .inr s.cps.toList
  | _ => .inl 0
abbrev tv (d : PyData) : List Tok1 := [.inl 1, .inl 1, .inl (isS d), .inl 1, tk1 d, .inl 0]
def rts : List PyData → List Tok1
  | [] => []
  | d :: ds => tv d ++ rts ds
theorem rts_app : ∀ a b : List PyData, rts (a ++ b) = rts a ++ rts b
  | [], b => rfl
  | d :: a, b => by rw [List.cons_append, rts, rts, rts_app a b, List.append_assoc]
theorem toks_kv {d : PyData} (h : VL d) : (Sum.inl 1 :: PySem.W.keyToks (kv d) : List Tok1) = tv d := by
  rcases h with ⟨i, rfl⟩ | ⟨a, rfl, _⟩ <;> simp [PySem.W.keyToks, PySem.W.keyToksAll, isS, tk1]
theorem toks_kvs : ∀ {ds : List PyData}, (∀ d ∈ ds, VL d) → PySem.W.keyToksAll (ds.map kv) = rts ds ++ [.inl 0]
  | [], _ => by simp [PySem.W.keyToksAll, rts]
  | d :: ds, h => by
    rw [List.map_cons, PySem.W.keyToksAll, toks_kvs fun x hx => h x (List.mem_cons_of_mem _ hx), rts, ← toks_kv (h d (by simp))]
    simp
theorem toks_fk {f : Fc} (h : FV f) : PySem.W.keyToks (fk f) = [.inl 1, .inr f.1.cps.toList, .inl 1] ++ (rts f.2 ++ [.inl 0, .inl 0]) := by
  have := toks_kvs h.vl
  simp [PySem.W.keyToks, PySem.W.keyToksAll, this]
theorem tv_inj {a b : PyData} (ha : VL a) (hb : VL b) (h : tv a = tv b) : a = b := by
  rcases ha with ⟨i, rfl⟩ | ⟨x, rfl, _⟩ <;> rcases hb with ⟨j, rfl⟩ | ⟨y, rfl, _⟩
  · simpa [isS, tk1] using h
  · simp [isS, tk1] at h
  · simp [isS, tk1] at h
  · have : x.cps.toList = y.cps.toList := by simpa [isS, tk1] using h
    rw [PySem.W.str_of_cps this]
theorem rts_pre : ∀ {K A : List PyData} {x y : List Tok1}, (∀ d ∈ K, VL d) → (∀ d ∈ A, VL d) → K.length ≤ A.length → rts A ++ x = rts K ++ y → A.take K.length = K
  | [], A, _, _, _, _, _, _ => by simp
  | k :: K, [], _, _, _, _, h, _ => by simp at h
  | k :: K, a :: A, x, y, hK, hA, hl, h => by
    rw [rts, rts, List.append_assoc, List.append_assoc] at h
    obtain ⟨h1, h2⟩ := List.append_inj h rfl
    have e := tv_inj (hA a (by simp)) (hK k (by simp)) h1
    have := rts_pre (K := K) (A := A) (fun d hd => hK d (List.mem_cons_of_mem _ hd)) (fun d hd => hA d (List.mem_cons_of_mem _ hd)) (by simpa using hl) h2
    rw [List.length_cons, List.take_succ_cons, this, e]
theorem pk_eq {l : List Tb} {f g : Fc} : pk l f = pk l g ↔ f.1 = g.1 ∧ f.2.take (kc l f.1) = g.2.take (kc l g.1) := by
  simp only [pk, ky, PyData.tuple.injEq, List.cons.injEq, PyData.str.injEq, and_true]
theorem FOk.len {l : List Tb} (hl : SOk l) {f g : Fc} (hf : FOk l f) (hg : FOk l g) (e : f.1 = g.1) : f.2.length = g.2.length := by
  obtain ⟨t, ht, e1, e2⟩ := hf.tb
  obtain ⟨s, hs, e3, e4⟩ := hg.tb
  have := uniq hl.nd ht hs (e1.trans (e.trans e3.symm))
  subst this
  omega
theorem FOk.kcl {l : List Tb} (hl : SOk l) {f : Fc} (hf : FOk l f) : kc l f.1 ≤ f.2.length := by
  obtain ⟨t, ht, e1, e2⟩ := hf.tb
  have := kc_of hl ht
  have := hl.ok t ht
  rw [← e1]
  omega
theorem place_mid {l : List Tb} (hl : SOk l) {f1 f2 f3 : Fc} (h1 : FOk l f1) (h2 : FOk l f2) (h3 : FOk l f3) (a : fle f1 f2) (b : fle f2 f3) (e : pk l f1 = pk l f3) : pk l f2 = pk l f1 := by
  obtain ⟨en, ek⟩ := pk_eq.mp e
  have hk1 := h1.kcl hl
  have a' : PyProof.Rows.lexLt PyProof.Rows.itemOrd (PySem.W.keyToks (fk f2)) (PySem.W.keyToks (fk f1)) = false := a
  have b' : PyProof.Rows.lexLt PyProof.Rows.itemOrd (PySem.W.keyToks (fk f3)) (PySem.W.keyToks (fk f2)) = false := b
  have s1 : rts f1.2 = rts (f1.2.take (kc l f1.1)) ++ rts (f1.2.drop (kc l f1.1)) := by rw [← rts_app, List.take_append_drop]
  have s3 : rts f3.2 = rts (f1.2.take (kc l f1.1)) ++ rts (f3.2.drop (kc l f3.1)) := by rw [ek, ← rts_app, List.take_append_drop]
  rw [toks_fk (h1.fv hl), s1] at a'
  rw [toks_fk (h3.fv hl), s3, ← en] at b'
  have hs := sand ([.inl 1, .inr f1.1.cps.toList, .inl 1] ++ rts (f1.2.take (kc l f1.1))) (rts (f1.2.drop (kc l f1.1)) ++ [.inl 0, .inl 0]) _ (rts (f3.2.drop (kc l f1.1)) ++ [.inl 0, .inl 0]) (by simpa using a') (by simpa using b')
  obtain ⟨t, ht⟩ := hs
  rw [toks_fk (h2.fv hl)] at ht
  rw [List.append_assoc] at ht
  obtain ⟨u1, u2⟩ := List.append_inj ht rfl
  have en2 : f2.1 = f1.1 := by
    have : f2.1.cps.toList = f1.1.cps.toList := by simpa using u1
    exact PySem.W.str_of_cps this
  have hle := h2.len hl h1 en2
  have := rts_pre (K := f1.2.take (kc l f1.1)) (A := f2.2) (fun d hd => h1.vl d (List.mem_of_mem_take hd)) h2.vl (by rw [List.length_take]; omega) u2
  rw [List.length_take, Nat.min_eq_left hk1] at this
  exact pk_eq.mpr ⟨en2, by rw [en2, this]⟩
/-! blocks -/
abbrev Bk := Str × List PyData × List (List PyData)
abbrev bp (b : Bk) : PyData := .tuple [.str b.1, .tuple b.2.1]
abbrev bD (b : Bk) : PyData := .tuple [.str b.1, .tuple b.2.1, .tuple (b.2.2.map PyData.tuple)]
abbrev BS (bs : List Bk) : List PyData := bs.map bD
def newB (l : List Tb) (f : Fc) : Bk := (f.1, f.2.take (kc l f.1), [f.2])
def addB (l : List Tb) (acc : List Bk) (f : Fc) : List Bk := match acc.getLast? with
  | some b => if PyData.eqv (bp b) (pk l f) = true then acc.dropLast ++ [(b.1, b.2.1, b.2.2 ++ [f.2])] else acc ++ [newB l f]
  | none => [newB l f]
def bls (l : List Tb) (gs : List Fc) : List Bk := gs.foldl (addB l) []
theorem bls_snoc {l : List Tb} {gs : List Fc} {f : Fc} : bls l (gs ++ [f]) = addB l (bls l gs) f := by
  unfold bls
  rw [List.foldl_append]
  rfl
abbrev bfs (b : Bk) : List Fc := b.2.2.map fun r => (b.1, r)
structure BOk (l : List Tb) (gs : List Fc) (acc : List Bk) : Prop where
  flat : acc.flatMap bfs = gs
  plc : ∀ b ∈ acc, b.2.2 ≠ [] ∧ ∀ f ∈ bfs b, pk l f = bp b
  nd : (acc.map bp).Nodup
theorem BOk.src {l : List Tb} {gs : List Fc} {acc : List Bk} (h : BOk l gs acc) {b : Bk} (hb : b ∈ acc) : ∃ f ∈ gs, pk l f = bp b := by
  obtain ⟨h1, h2⟩ := h.plc b hb
  obtain ⟨r, hr⟩ : ∃ r, r ∈ b.2.2 := by
    cases e : b.2.2 with
    | nil => exact absurd e h1
    | cons r _ => exact ⟨r, by simp⟩
  have hm : (b.1, r) ∈ bfs b := List.mem_map.mpr ⟨r, hr, rfl⟩
  exact ⟨_, by rw [← h.flat]; exact List.mem_flatMap.mpr ⟨b, hb, hm⟩, h2 _ hm⟩
theorem BOk.last {l : List Tb} {gs : List Fc} {acc : List Bk} {b : Bk} (h : BOk l gs (acc ++ [b])) : ∃ gs' f, gs = gs' ++ [f] ∧ pk l f = bp b := by
  obtain ⟨h1, h2⟩ := h.plc b (by simp)
  obtain ⟨rs, r, e⟩ : ∃ rs r, b.2.2 = rs ++ [r] := by
    rcases List.eq_nil_or_concat b.2.2 with e | ⟨rs, r, e⟩
    · exact absurd e h1
    · exact ⟨rs, r, by rw [e, List.concat_eq_append]⟩
  refine ⟨acc.flatMap bfs ++ rs.map fun r => (b.1, r), (b.1, r), ?_, h2 _ (List.mem_map.mpr ⟨r, by rw [e]; simp, rfl⟩)⟩
  rw [← h.flat, List.flatMap_append]
  simp [bfs, e]
theorem bp_gd {l : List Tb} {gs : List Fc} (hg : ∀ g ∈ gs, FV g) {acc : List Bk} (h : BOk l gs acc) {b : Bk} (hb : b ∈ acc) : gd 2 (bp b) := by
  obtain ⟨f, hf, e⟩ := h.src hb
  rw [← e]
  exact pk_gd (hg f hf)
theorem BOk.step {l : List Tb} (hl : SOk l) {gs : List Fc} {f : Fc} (hg : ∀ g ∈ gs ++ [f], FOk l g) (ho : (gs ++ [f]).Pairwise fle) {acc : List Bk} (h : BOk l gs acc) :
    BOk l (gs ++ [f]) (addB l acc f) ∧ ((acc = [] ∧ addB l acc f = [newB l f]) ∨ ∃ acc' b, acc = acc' ++ [b] ∧ ((PyData.eqv (bp b) (pk l f) = true ∧ addB l acc f = acc' ++ [(b.1, b.2.1, b.2.2 ++ [f.2])] ∧ bp b = pk l f) ∨ (PyData.eqv (bp b) (pk l f) = false ∧ addB l acc f = acc ++ [newB l f] ∧ pk l f ∉ acc.map bp))) := by
  have hf := hg f (by simp)
  have hv : ∀ g ∈ gs, FV g := fun g h => (hg g (by simp [h])).fv hl
  have hnp : bp (newB l f) = pk l f := rfl
  rcases List.eq_nil_or_concat acc with rfl | ⟨acc', b, rfl⟩
  · have hgs : gs = [] := by rw [← h.flat]; rfl
    subst hgs
    refine ⟨⟨?_, ?_, by simp [addB]⟩, .inl ⟨rfl, rfl⟩⟩
    · simp [addB, newB, bfs]
    · intro b hb
      have : b = newB l f := by simpa [addB] using hb
      subst this
      exact ⟨by simp [newB], fun g hg => by simp [newB, bfs] at hg; rw [hg]; rfl⟩
  · rw [List.concat_eq_append] at h ⊢
    have hbg := bp_gd hv h (b := b) (by simp)
    have hfg := pk_gd (l := l) (hf.fv hl)
    have hlast : (acc' ++ [b]).getLast? = some b := by simp
    have hdrop : (acc' ++ [b]).dropLast = acc' := by simp
    have hnd := h.nd
    rw [List.map_append, List.nodup_append] at hnd
    cases c : PyData.eqv (bp b) (pk l f) with
    | true =>
      have e := (eqv_gd hbg hfg).mp c
      have ea : addB l (acc' ++ [b]) f = acc' ++ [(b.1, b.2.1, b.2.2 ++ [f.2])] := by
        unfold addB
        rw [hlast]
        simp only [if_pos c, hdrop]
      have en : b.1 = f.1 := by
        have := e
        simp only [bp, pk, PyData.tuple.injEq, List.cons.injEq, PyData.str.injEq] at this
        exact this.1
      refine ⟨?_, .inr ⟨acc', b, rfl, .inl ⟨c, ea, e⟩⟩⟩
      rw [ea]
      refine ⟨?_, fun x hx => ?_, ?_⟩
      · have := h.flat
        rw [List.flatMap_append] at this ⊢
        rw [← this]
        simp [bfs, en]
      · rcases List.mem_append.mp hx with hx | hx
        · exact h.plc x (by simp [hx])
        · rw [List.mem_singleton.mp hx]
          refine ⟨by simp, fun g hg => ?_⟩
          show pk l g = bp b
          obtain ⟨r, hr, rfl⟩ := List.mem_map.mp hg
          rcases List.mem_append.mp hr with hr | hr
          · exact (h.plc b (by simp)).2 _ (List.mem_map.mpr ⟨r, hr, rfl⟩)
          · rw [List.mem_singleton.mp hr, e]
            show pk l (b.1, f.2) = pk l f
            rw [en]
      · rw [List.map_append]
        exact List.nodup_append.mpr hnd
    | false =>
      have ea : addB l (acc' ++ [b]) f = acc' ++ [b] ++ [newB l f] := by
        unfold addB
        rw [hlast]
        simp only [c, Bool.false_eq_true, if_false]
      have hne : bp b ≠ pk l f := fun e => by rw [(eqv_gd hbg hfg).mpr e] at c; cases c
      have hnot : pk l f ∉ (acc' ++ [b]).map bp := fun hm => by
        obtain ⟨x, hx, e⟩ := List.mem_map.mp hm
        obtain ⟨g, hgm, eg⟩ := h.src hx
        obtain ⟨gs', f', rfl, ef⟩ := h.last
        rcases List.mem_append.mp hgm with hgm | hgm
        · have o1 : fle g f' := by
            have := (List.pairwise_append.mp ho).1
            exact (List.pairwise_append.mp this).2.2 g hgm f' (by simp)
          have o2 : fle f' f := (List.pairwise_append.mp ho).2.2 f' (by simp) f (by simp)
          have := place_mid hl (hg g (by simp [hgm])) (hg f' (by simp)) hf o1 o2 (eg.trans e)
          exact hne (ef.symm.trans (this.trans (eg.trans e)))
        · rw [List.mem_singleton.mp hgm] at eg
          exact hne (ef.symm.trans (eg.trans e))
      refine ⟨?_, .inr ⟨acc', b, rfl, .inr ⟨c, ea, hnot⟩⟩⟩
      rw [ea]
      refine ⟨?_, fun x hx => ?_, ?_⟩
      · rw [List.flatMap_append, h.flat]
        simp [newB, bfs]
      · rcases List.mem_append.mp hx with hx | hx
        · exact h.plc x hx
        · rw [List.mem_singleton.mp hx]
          exact ⟨by simp [newB], fun g hg => by simp [newB, bfs] at hg; rw [hg]; rfl⟩
      · rw [List.map_append, List.nodup_append]
        refine ⟨h.nd, by simp, fun a ha b' hb' => ?_⟩
        simp only [List.map_cons, List.map_nil, List.mem_singleton] at hb'
        rw [hb', hnp]
        exact fun z => hnot (z ▸ ha)
theorem take_snoc {α : Type} {gs : List α} {i : Nat} (hi : i < gs.length) : gs.take (i + 1) = gs.take i ++ [gs[i]] := by
  rw [List.take_add_one, List.getElem?_eq_getElem hi]; rfl
theorem bls_ok {l : List Tb} (hl : SOk l) {gs : List Fc} (hg : ∀ g ∈ gs, FOk l g) (ho : gs.Pairwise fle) : ∀ i, i ≤ gs.length → BOk l (gs.take i) (bls l (gs.take i))
  | 0, _ => ⟨by simp [bls], by simp [bls], by simp [bls]⟩
  | i + 1, hi => by
    have ih := bls_ok hl hg ho i (by omega)
    have hs := take_snoc (gs := gs) (i := i) (by omega)
    rw [hs, bls_snoc]
    refine (BOk.step hl (fun g h => ?_) ?_ ih).1
    · rw [← hs] at h
      exact hg g (List.mem_of_mem_take h)
    · rw [← hs]
      exact ho.sublist (List.take_sublist _ _)
end Lw
end

section
set_option Elab.async false
set_option linter.all false
set_option maxRecDepth 100000
set_option maxHeartbeats 400000
namespace Lw
open PySem PySem.Spec PyProof.Rows L2 Vf
variable [Tabs]
local macro_rules | `(tactic| simp! only [$ls,*]) => `(tactic| simp -implicitDefEqProofs only [↓wp_var, ↓wp_c, ↓wp_op2, ↓wp_op1, ↓wp_aNil, ↓wp_aCons, ↓wp_cb, ↓wp_mut, ↓wp_mth, ↓wp_tup, ↓wp_lst, ↓wp_isi, ↓wp_isi2, ↓wp_bVal, ↓wp_bTru, ↓wp_bNot, ↓wp_bAnd, ↓wp_bOr, ↓wp_bYes, ↓wp_eIf, ↓wp_andV, ↓wp_orV, ↓wp_notV, ↓wp_oNone, ↓wp_oSome, ↓wp_sl, ↓wp_callC, ↓wp_sortK, ↓wp_zip, zp_t, ↓wp_rev, revT, revL, ↓wp_sMv, mvq_ow, ↓wp_idx, imT_t,  skv_l, ↓wp_allS, ↓wp_seq, sq_next, sq_ret, sq_brk, sq_cont, ↓wp_next, ↓wp_brk, ↓wp_cont, ↓wp_ret, ↓wp_retN, ↓wp_drop, ↓wp_sIf, ↓wp_sSet, ↓wp_sAsg, ↓wp_sSetIx, ↓wp_iter, ↓wp_range1, ↓wp_range2, ↓wp_forP, ↓wp_lcP, pr_mk, vr_im, vr_ow, vr_io, vr_bo, rdv_im, rdv_nw, rdv_sl, rsl_ow, rsl_io, rsl_bo, rdvs_nil, rdvs_cons, cons2_some, ims_nil, ims_cons, o2_some, oo_some, om_some, imS_str, blV_b, inV1_i, imV_im, itv_t, itv_s, itv_n, itv_l, itl_ow, itl_bo, rg1_i, rg2_i, toV_int, toV_bool, toV_str, toV_tuple, toV_none, toV_list,
  slotOf, setS_eq, sS_fre, fre_em, fre_im, fre_ow, fre_bo, getM_eq, gM_ow, gM_io, putL_eq, pL_ow, pL_io, putLs, rsV, slM, slB, arsOf, arOf_im, arOf_int, arOf_str, arOf_bool, arOf_none, arOf_tuple, arOf_nw, arOf_sl, arOf_m, arS_ow, arS_io, arS_bo, arM_ow, arM_io, resP_ret, resP_next, resOf_im, resOf_nw, resOf_sl, rso_ow, outsOf, initG, slotA, bor, unb, clr, rst, gtName, gtTup, gtCons, gtNil, outI_next, outI_cont, outI_brk, outI_ret,
  List.getElem?_cons_zero, List.getElem?_cons_succ, List.set_cons_zero, List.set_cons_succ, List.map_cons, List.map_nil, List.cons_append, List.nil_append, List.append_nil, List.length_cons, List.length_nil, List.replicate_succ, List.replicate_zero, Nat.sub_self, Nat.reduceAdd, Nat.reduceSub, Nat.reduceEqDiff, List.getElem?_nil, 
  eqD_int, neD_int, eqD_bool, neD_bool, addD_int, subD_int, ltD_int, leD_int, gtD_int, geD_int, intD_int, intD_bool, lenL, lenT, listD_l, listD_t, tupleD_l, tupleD_t, ixL_int, ixT_int, ixS_int, negD_int, truD_b, atI0, atI1, atI2, List.nodup_nil, List.nodup_cons, List.not_mem_nil, not_false_eq_true, false_imp_iff, implies_true, and_true, true_and, and_self, if_true, if_false, Bool.false_eq_true, reduceIte, List.mem_cons, or_false, false_or, forall_eq, forall_eq_or_imp, imm_int, imm_str, beq_iff_eq, bne_iff_ne, decide_eq_true_eq, Bool.not_eq_true', $ls,*])
local macro_rules | `(tactic| dsimp! only [$ls,*]) => `(tactic| simp -implicitDefEqProofs only [↓wp_sIfY, ↓wp_var, ↓wp_c, ↓wp_op2, ↓wp_op1, ↓wp_aNil, ↓wp_aCons, ↓wp_cb, ↓wp_mut, ↓wp_mth, ↓wp_tup, ↓wp_lst, ↓wp_isi, ↓wp_isi2, ↓wp_bVal, ↓wp_bTru, ↓wp_bNot, ↓wp_bAnd, ↓wp_bOr, ↓wp_bYes, ↓wp_eIf, ↓wp_andV, ↓wp_orV, ↓wp_notV, ↓wp_oNone, ↓wp_oSome, ↓wp_sl, ↓wp_callC, ↓wp_sortK, ↓wp_zip, zp_t, ↓wp_rev, revT, revL, ↓wp_sMv, mvq_ow, ↓wp_idx, imT_t,  skv_l, ↓wp_allS, ↓wp_seq, sq_next, sq_ret, sq_brk, sq_cont, ↓wp_next, ↓wp_brk, ↓wp_cont, ↓wp_ret, ↓wp_retN, ↓wp_drop, ↓wp_sSet, ↓wp_sAsg, ↓wp_sSetIx, ↓wp_iter, ↓wp_range1, ↓wp_range2, ↓wp_forP, ↓wp_lcP, pr_mk, vr_im, vr_ow, vr_io, vr_bo, rdv_im, rdv_nw, rdv_sl, rsl_ow, rsl_io, rsl_bo, rdvs_nil, rdvs_cons, cons2_some, ims_nil, ims_cons, o2_some, oo_some, om_some, imS_str, blV_b, inV1_i, imV_im, itv_t, itv_s, itv_n, itv_l, itl_ow, itl_bo, rg1_i, rg2_i, toV_int, toV_bool, toV_str, toV_tuple, toV_none, toV_list,
  slotOf, setS_eq, sS_fre, fre_em, fre_im, fre_ow, fre_bo, getM_eq, gM_ow, gM_io, putL_eq, pL_ow, pL_io, putLs, rsV, slM, slB, arsOf, arOf_im, arOf_int, arOf_str, arOf_bool, arOf_none, arOf_tuple, arOf_nw, arOf_sl, arOf_m, arS_ow, arS_io, arS_bo, arM_ow, arM_io, resP_ret, resP_next, resOf_im, resOf_nw, resOf_sl, rso_ow, outsOf, initG, slotA, bor, unb, clr, rst, gtName, gtTup, gtCons, gtNil, outI_next, outI_cont, outI_brk, outI_ret,
  List.getElem?_cons_zero, List.getElem?_cons_succ, List.set_cons_zero, List.set_cons_succ, List.map_cons, List.map_nil, List.cons_append, List.nil_append, List.append_nil, List.length_cons, List.length_nil, List.replicate_succ, List.replicate_zero, Nat.sub_self, Nat.reduceAdd, Nat.reduceSub, Nat.reduceEqDiff, List.getElem?_nil, 
  eqD_int, neD_int, eqD_bool, neD_bool, addD_int, subD_int, ltD_int, leD_int, gtD_int, geD_int, intD_int, intD_bool, lenL, lenT, listD_l, listD_t, tupleD_l, tupleD_t, ixL_int, ixT_int, ixS_int, negD_int, truD_b, atI0, atI1, atI2, List.nodup_nil, List.nodup_cons, List.not_mem_nil, not_false_eq_true, false_imp_iff, implies_true, and_true, true_and, and_self, if_true, if_false, Bool.false_eq_true, reduceIte, List.mem_cons, or_false, false_or, forall_eq, forall_eq_or_imp, imm_int, imm_str, beq_iff_eq, bne_iff_ne, decide_eq_true_eq, Bool.not_eq_true', $ls,*])
theorem len_ge : ∀ {acc : List Bk}, (∀ b ∈ acc, b.2.2 ≠ []) → acc.length ≤ (acc.flatMap bfs).length
  | [], _ => by simp
  | b :: acc, h => by
    have := len_ge fun x hx => h x (List.mem_cons_of_mem _ hx)
    have hb : 0 < b.2.2.length := by
      have := h b (by simp)
      cases e : b.2.2 with
      | nil => exact absurd e this
      | cons _ _ => simp
    rw [List.flatMap_cons, List.length_append, List.length_cons, List.length_map]
    omega
theorem BOk.len2 {l : List Tb} {gs : List Fc} {acc : List Bk} (h : BOk l gs acc) : acc.length ≤ gs.length := by
  have := len_ge fun b hb => (h.plc b hb).1
  rw [h.flat] at this
  exact this
theorem BOk.len1 {l : List Tb} {gs : List Fc} {acc : List Bk} (h : BOk l gs acc) {b : Bk} (hb : b ∈ acc) : b.2.2.length ≤ gs.length := by
  obtain ⟨a1, a2, rfl⟩ := List.append_of_mem hb
  have := congrArg List.length h.flat
  rw [List.flatMap_append, List.flatMap_cons, List.length_append, List.length_append, List.length_map] at this
  omega
def nkv : PyData → NestedKey
  | .int i => .num i
  | .str s => .text s
  | _ => .none
theorem nkv_ok {d : PyData} (h : VL d) : nkD d = some (nkv d) ∧ (nkv d).depth = 0 := by
  rcases h with ⟨i, rfl⟩ | ⟨a, rfl, _⟩ <;> exact ⟨rfl, rfl⟩
theorem nkvs_ok : ∀ {ds : List PyData}, (∀ d ∈ ds, VL d) → nkDs ds = some (ds.map nkv) ∧ NestedKey.depthAll (ds.map nkv) = 0
  | [], _ => ⟨rfl, rfl⟩
  | d :: ds, h => by
    obtain ⟨a, b⟩ := nkv_ok (h d (by simp))
    obtain ⟨a2, b2⟩ := nkvs_ok fun x hx => h x (List.mem_cons_of_mem _ hx)
    refine ⟨by simp only [nkDs, a, a2, List.map_cons], ?_⟩
    show max (nkv d).depth (NestedKey.depthAll (ds.map nkv)) = 0
    rw [b, b2]; rfl
def bkk (b : Bk) : NestedKey := .tup [.text b.1, .tup (b.2.1.map nkv)]
def toG (b : Bk) : Grp := (bkk b, b.2.2.map PyData.tuple)
theorem nkD_bp {b : Bk} (h : ∀ d ∈ b.2.1, VL d) : nkD (bp b) = some (bkk b) := by
  simp only [bp, nkD, nkDs, (nkvs_ok h).1]
  rfl
theorem bkk_depth {b : Bk} (h : ∀ d ∈ b.2.1, VL d) : (bkk b).depth = 2 := by
  have := (nkvs_ok h).2
  show max 0 (max (NestedKey.depthAll (b.2.1.map nkv) + 1) 0) + 1 = 2
  rw [this]; rfl
theorem bp_vl {l : List Tb} {gs : List Fc} (hg : ∀ g ∈ gs, FV g) {acc : List Bk} (h : BOk l gs acc) {b : Bk} (hb : b ∈ acc) : (∀ d ∈ b.2.1, VL d) ∧ PyData.strOk b.1 = true := by
  obtain ⟨f, hf, e⟩ := h.src hb
  simp only [pk, ky, bp, PyData.tuple.injEq, List.cons.injEq, PyData.str.injEq, and_true] at e
  refine ⟨fun d hd => ?_, by rw [← e.1]; exact (hg f hf).nm⟩
  rw [← e.2] at hd
  exact (hg f hf).vl d (List.mem_of_mem_take hd)
theorem bkk_inj {b c : Bk} (hb : ∀ d ∈ b.2.1, VL d) (hc : ∀ d ∈ c.2.1, VL d) : bkk b = bkk c ↔ bp b = bp c := by
  constructor
  · intro e
    have h1 := nkD_data _ _ (nkD_bp hb)
    have h2 := nkD_data _ _ (nkD_bp hc)
    rw [← h1, ← h2, e]
  · intro e
    have h1 := nkD_bp hb
    have h2 := nkD_bp hc
    rw [e] at h1
    rw [h1] at h2
    exact Option.some.inj h2
theorem addG_new {acc : List Grp} {k : NestedKey} {r : PyData} (h : ∀ g ∈ acc, g.1 ≠ k) : addG acc k r = acc ++ [(k, [r])] := by
  unfold addG
  rw [if_neg]
  intro z
  obtain ⟨g, hg, e⟩ := List.any_eq_true.mp z
  exact h g hg (by simpa using e)
theorem addG_last {acc : List Grp} {k : NestedKey} {rs : List PyData} {r : PyData} (h : ∀ g ∈ acc, g.1 ≠ k) : addG (acc ++ [(k, rs)]) k r = acc ++ [(k, rs ++ [r])] := by
  unfold addG
  rw [if_pos (List.any_eq_true.mpr ⟨(k, rs), by simp, by simp⟩), List.map_append]
  congr 1
  · have : acc.map (fun g => if g.1 = k then (g.1, g.2 ++ [r]) else g) = acc.map id := List.map_congr_left fun g hg => by
      rw [if_neg (h g hg)]; rfl
    rw [this, List.map_id]
  · simp
theorem step_groups {l : List Tb} (hl : SOk l) {gs : List Fc} {f : Fc} (hg : ∀ g ∈ gs ++ [f], FOk l g) (ho : (gs ++ [f]).Pairwise fle) (hn : gs.length ≤ 1000) {acc : List Bk} (h : BOk l gs acc) :
    stepG D_place_of (.tuple (TS l)) (acc.map toG) (fD f) = some ((addB l acc f).map toG) := by
  have hf := hg f (by simp)
  have hv : ∀ g ∈ gs, FV g := fun g h => (hg g (by simp [h])).fv hl
  have hfv := hf.fv hl
  obtain ⟨r, o, hp, rfl, rfl⟩ := wpF_ex.mp (place_of_ok hl hf (P := fun r o => r = .v (pk l f) ∧ o = []) ⟨rfl, rfl⟩)
  have hr : ixD (fD f) (.int 1) = some (.tuple f.2) := atI1
  have hkv : ∀ d ∈ (newB l f).2.1, VL d := fun d hd => hfv.vl d (List.mem_of_mem_take hd)
  have hk : nkD (pk l f) = some (bkk (newB l f)) := nkD_bp hkv
  have him : imm (.tuple f.2) = true := gd_imm (n := 1) (gd_tup (by have := hfv.ln; omega) hfv.vl)
  have l2 := h.len2
  unfold stepG
  simp only [hp, hr, hk]
  rw [if_pos]
  · have hs := (BOk.step hl hg ho h).2
    congr 1
    rcases hs with ⟨rfl, e⟩ | ⟨acc', b, rfl, ⟨c, e, ep⟩ | ⟨c, e, hnot⟩⟩
    · rw [e]
      rfl
    · rw [e, List.map_append, List.map_append]
      have hbv := (bp_vl hv h (b := b) (by simp)).1
      have hk2 : bkk (newB l f) = bkk b := (bkk_inj hkv hbv).mpr ep.symm
      rw [hk2]
      refine (addG_last (acc := acc'.map toG) (k := bkk b) (rs := b.2.2.map PyData.tuple) (r := .tuple f.2) fun g hgm => ?_).trans ?_
      · obtain ⟨x, hx, rfl⟩ := List.mem_map.mp hgm
        intro z
        have hxv := (bp_vl hv h (b := x) (by simp [hx])).1
        have := (bkk_inj hxv hbv).mp z
        have hnd := h.nd
        rw [List.map_append, List.nodup_append] at hnd
        exact hnd.2.2 _ (List.mem_map.mpr ⟨x, hx, rfl⟩) _ (by simp) this
      · simp [toG, bkk]
    · rw [e]
      refine (addG_new (acc := (acc' ++ [b]).map toG) fun g hgm => ?_).trans ?_
      · obtain ⟨x, hx, rfl⟩ := List.mem_map.mp hgm
        intro z
        have hxv := (bp_vl hv h hx).1
        have := (bkk_inj hxv hkv).mp z
        exact hnot (List.mem_map.mpr ⟨x, hx, this⟩)
      · simp [toG, newB]
  · simp only [Bool.and_eq_true, decide_eq_true_eq, List.all_eq_true]
    refine ⟨rfl, him, by rw [bkk_depth hkv]; decide, by rw [List.length_map]; omega, fun g hgm => ?_⟩
    obtain ⟨x, hx, rfl⟩ := List.mem_map.mp hgm
    have := h.len1 hx
    simp only [toG, List.length_map]
    omega
theorem blk_groups {l : List Tb} (hl : SOk l) {gs : List Fc} (hg : ∀ g ∈ gs, FOk l g) (ho : gs.Pairwise fle) (hn : gs.length ≤ 1000) : ∀ i, i ≤ gs.length → groupsG D_place_of (.tuple (TS l)) [] (FS (gs.take i)) = some ((bls l (gs.take i)).map toG)
  | 0, _ => by simp [bls, groupsG]
  | i + 1, hi => by
    have ih := blk_groups hl hg ho hn i (by omega)
    have hs := take_snoc (gs := gs) (i := i) (by omega)
    have st := step_groups (l := l) hl (gs := gs.take i) (f := gs[i]) (fun g h => by rw [← hs] at h; exact hg g (List.mem_of_mem_take h)) (by rw [← hs]; exact ho.sublist (List.take_sublist _ _)) (by rw [List.length_take]; omega) (bls_ok hl hg ho i (by omega))
    rw [hs, bls_snoc]
    show groupsG _ _ [] ((gs.take i ++ [gs[i]]).map fD) = _
    rw [List.map_append, groupsG_app, ih]
    simp only [List.map_cons, List.map_nil, groupsG, st]
theorem blks_all : ∀ {acc : List Bk}, (∀ b ∈ acc, ∀ d ∈ b.2.1, VL d) → blksD (acc.map toG) = some (BS acc)
  | [], _ => rfl
  | b :: acc, h => by
    have h1 : NestedKey.data (.tup (b.2.1.map nkv)) = .tuple b.2.1 := by
      have := nkD_data _ _ (nkD_bp (h b (by simp)))
      simp only [bkk, bp, NestedKey.data, NestedKey.datas, PyData.tuple.injEq, List.cons.injEq, and_true] at this
      show PyData.tuple (NestedKey.datas _) = _
      rw [this.2]
    have h2 : blkD (toG b) = some (bD b) := by
      show some (PyData.tuple [NestedKey.data (.text b.1), NestedKey.data (.tup (b.2.1.map nkv)), .tuple (b.2.2.map PyData.tuple)]) = _
      rw [h1]
      rfl
    simp only [List.map_cons, blksD, h2, blks_all fun x hx => h x (List.mem_cons_of_mem _ hx)]
theorem blocks_ok {l : List Tb} {gs : List Fc} (hw : Wd l gs) {P : Rs → List (List PyData) → Prop} (h : P (.v (.tuple (BS (bls l gs)))) []) : wpF D_blocks_of [.v (.tuple (TS l)), .v (.tuple (FS gs))] P := by
  have hn := hw.ln
  have hg := blk_groups hw.sch hw.fct hw.ord (by omega) gs.length (Nat.le_refl _)
  have hb := bls_ok hw.sch hw.fct hw.ord gs.length (Nat.le_refl _)
  rw [List.take_length] at hg hb
  have hv : ∀ g ∈ gs, FV g := fun g hm => (hw.fct g hm).fv hw.sch
  have hbs := blks_all fun b hbm => (bp_vl hv hb hbm).1
  have h2 := hb.len2
  refine wpF_ex.mpr ⟨_, [], ?_, h⟩
  unfold D_blocks_of D_blocks
  simp only [hg, hbs, List.length_map]
  rw [if_pos (by omega)]
theorem ixN_last {n : Nat} (h : 0 < n) : ixN n (-1) = some (n - 1) := by
  unfold ixN
  rw [if_neg (by omega), if_pos (by omega)]
  congr 1
  omega
theorem addD_tup {a b : List PyData} (h : a.length + b.length ≤ 1000000) : addD (.tuple a) (.tuple b) = some (.tuple (a ++ b)) := by
  show (if small _ = true then _ else _) = _
  rw [if_pos (by simpa [small] using h)]
theorem bD_imm {b : Bk} (h1 : ∀ d ∈ b.2.1, VL d) (h2 : ∀ r ∈ b.2.2, ∀ d ∈ r, VL d) : imm (bD b) = true := by
  have e1 := immAll_of fun d hd => (h1 d hd).imm
  have e2 : immAll (b.2.2.map PyData.tuple) = true := immAll_of fun d hd => by
    obtain ⟨r, hr, rfl⟩ := List.mem_map.mp hd
    simpa [imm] using immAll_of fun d hd => (h2 r hr d hd).imm
  simp [imm, immAll, e1, e2]
theorem BOk.rows {l : List Tb} {gs : List Fc} {acc : List Bk} (h : BOk l gs acc) {b : Bk} (hb : b ∈ acc) {r : List PyData} (hr : r ∈ b.2.2) : (b.1, r) ∈ gs := by
  rw [← h.flat]
  exact List.mem_flatMap.mpr ⟨b, hb, List.mem_map.mpr ⟨r, hr, rfl⟩⟩
theorem law_blocks_ok {l : List Tb} {gs : List Fc} (hw : Wd l gs) {P : Rs → List (List PyData) → Prop} (h : P (.v (.tuple (BS (bls l gs)))) []) : wpF D_law_blocks [.v (.tuple (TS l)), .v (.tuple (FS gs))] P := by
  have hl := hw.sch
  have hn := hw.ln
  have hv : ∀ g ∈ gs, FV g := fun g hm => (hw.fct g hm).fv hl
  unfold D_law_blocks
  refine wp_F rfl ?_
  unfold m_law_blocks
  dsimp! only [true_and]
  refine ⟨by omega, ?_⟩
  refine loopI (fun i Γ => ∃ s3 s4, fre s3 ∧ fre s4 ∧ Γ = [.im (.tuple (TS l)), .im (.tuple (FS gs)), .ow (BS (bls l (gs.take i))), s3, s4]) ⟨.em, .em, by simp! only [true_and], by simp! only [true_and], rfl⟩ ?_ ?_
  · rintro i d Γ hi ⟨s3, s4, h3, h4, rfl⟩
    have hi' : i < (FS gs).length := (List.getElem?_eq_some_iff.mp hi).1
    simp at hi'
    have : d = fD gs[i] := by
      have := (List.getElem?_eq_some_iff.mp hi).2
      rw [← this]; simp
    subst this
    have hgi := hw.fct gs[i] (List.getElem_mem hi')
    have hs := take_snoc hi'
    have hb := bls_ok hl hw.fct hw.ord i (by omega)
    have hst := BOk.step hl (gs := gs.take i) (f := gs[i]) (fun g h => by rw [← hs] at h; exact hw.fct g (List.mem_of_mem_take h)) (by rw [← hs]; exact hw.ord.sublist (List.take_sublist _ _)) hb
    have hvt : ∀ g ∈ gs.take i, FV g := fun g h => hv g (List.mem_of_mem_take h)
    have hl2 := hb.len2
    have hl1 := fun b hbm => hb.len1 (b := b) hbm
    rw [hs, bls_snoc]
    have hfv := hgi.fv hl
    rw [List.length_take] at hl2
    have hl1' : ∀ b ∈ bls l (gs.take i), b.2.2.length ≤ 200 := fun b hbm => by
      have := hl1 b hbm
      rw [List.length_take] at this
      omega
    clear hl1
    have hrows : ∀ b ∈ bls l (gs.take i), (∀ d ∈ b.2.1, VL d) ∧ ∀ r ∈ b.2.2, ∀ d ∈ r, VL d := fun b hbm => ⟨(bp_vl hvt hb hbm).1, fun r hr => (hvt _ (hb.rows hbm hr)).vl⟩
    have hbg : ∀ b ∈ bls l (gs.take i), gd 2 (bp b) := fun b hbm => bp_gd hvt hb hbm
    have hpg := pk_gd (l := l) hfv
    generalize bls l (gs.take i) = acc at *
    generalize gs[i] = f at *
    clear hi hs hi' hb
    dsimp! only [h3, h4]
    refine law_key_of_ok hl hgi ?_
    dsimp! only [h4]
    have hap : ∀ acc : List Bk, acc.length ≤ 200 → appendM (BS acc) [bD (newB l f)] = some (BS (acc ++ [newB l f]), .none) := fun acc ha => by
      rw [appendM_ok (bD_imm (fun d hd => hfv.vl d (List.mem_of_mem_take hd)) (fun r hr d hd => by
        have : r = f.2 := by simpa [newB] using hr
        rw [this] at hd
        exact hfv.vl d hd)) (by simp; omega)]
      simp
    rcases hst.2 with ⟨rfl, e⟩ | ⟨acc', b, rfl, hc⟩
    · rw [wpY_eq, wp_sIf]
      dsimp! only [List.length_nil]
      rw [if_neg (by decide)]
      dsimp! only [true_and]
      refine ⟨by omega, by omega, ?_⟩
      have hap0 : appendM [] [.tuple [.str f.1, ky l f, .tuple [.tuple f.2]]] = some (BS [newB l f], .none) := hap [] (by simp)
      show om (appendM [] [.tuple [.str f.1, ky l f, .tuple [.tuple f.2]]]) _
      rw [hap0]
      dsimp! only [true_and]
      rw [e]
      exact ⟨_, _, fre_im.mpr trivial, fre_im.mpr trivial, rfl⟩
    · have hlast : ixD (.list (BS (acc' ++ [b]))) (.int (-1)) = some (bD b) := by
        show atI _ _ = _
        have : BS (acc' ++ [b]) = BS acc' ++ [bD b] := by simp
        rw [this]
        exact L2.atI_last _ _
      have hrb := hrows b (by simp)
      have himb := bD_imm hrb.1 hrb.2
      have hpos : (0 : Int) < ((BS (acc' ++ [b])).length : Int) := by simp
      have hsl : slD (bD b) none (some 2) = some (bp b) := by
        rw [slT_to (by omega)]
        rfl
      have hix2 : ixD (bD b) (.int 2) = some (.tuple (b.2.2.map PyData.tuple)) := atI2
      have heq := eqD_gd (n := 2) (by omega) (hbg b (by simp)) hpg
      have hadd : addD (.tuple (b.2.2.map PyData.tuple)) (.tuple [.tuple f.2]) = some (.tuple ((b.2.2 ++ [f.2]).map PyData.tuple)) := by
        rw [addD_tup (by have := hl1' b (by simp); simp; omega)]
        simp
      have hixn : ixN (BS (acc' ++ [b])).length (-1) = some acc'.length := by
        rw [ixN_last (by simp)]
        simp
      have hset : ∀ x : Bk, (BS (acc' ++ [b])).set acc'.length (bD x) = BS (acc' ++ [x]) := fun x => by
        have e1 : BS (acc' ++ [b]) = BS acc' ++ [bD b] := by simp
        rw [e1, List.set_append_right _ _ (by simp)]
        simp
      rw [wpY_eq, wp_sIf]
      dsimp! only [hlast]
      rw [if_pos (by simpa using hpos)]
      dsimp! only [hlast, toV_of himb, hsl]
      refine ⟨by omega, ?_⟩
      rw [heq]
      dsimp! only [true_and]
      rcases hc with ⟨c, e, ep⟩ | ⟨c, e, hnot⟩
      · rw [if_pos c]
        refine ⟨by omega, ?_⟩
        rw [hadd]
        dsimp! only [true_and]
        refine ⟨by omega, ?_⟩
        rw [hixn]
        dsimp! only [true_and]
        have en : b.1 = f.1 ∧ b.2.1 = f.2.take (kc l f.1) := by
          simpa only [bp, pk, ky, PyData.tuple.injEq, List.cons.injEq, PyData.str.injEq, and_true] using ep
        have hx := hset (b.1, b.2.1, b.2.2 ++ [f.2])
        rw [e, ← hx]
        refine ⟨.im (fD f), .im (ky l f), fre_im.mpr trivial, fre_im.mpr trivial, ?_⟩
        show _ = [_, _, Slot.ow ((BS (acc' ++ [b])).set acc'.length (.tuple [.str b.1, .tuple b.2.1, .tuple ((b.2.2 ++ [f.2]).map PyData.tuple)])), _, _]
        rw [en.1, en.2]
      · rw [if_neg (by rw [c]; decide)]
        refine ⟨by omega, by omega, ?_⟩
        show om (appendM (BS (acc' ++ [b])) [bD (newB l f)]) _
        rw [hap _ (by omega)]
        dsimp! only [true_and]
        rw [e]
        exact ⟨_, _, fre_im.mpr trivial, fre_im.mpr trivial, rfl⟩
  · rintro Γ ⟨s3, s4, h3, h4, rfl⟩
    simp! only [true_and]
    rw [List.length_map, List.take_length]
    exact h
end Lw
end

section
set_option Elab.async false
set_option linter.all false
set_option maxRecDepth 100000
set_option maxHeartbeats 400000
namespace Lw
open PySem PySem.Spec PyProof.Rows L2 Vf
variable [Tabs]
local macro_rules | `(tactic| simp! only [$ls,*]) => `(tactic| simp -implicitDefEqProofs only [↓wp_var, ↓wp_c, ↓wp_op2, ↓wp_op1, ↓wp_aNil, ↓wp_aCons, ↓wp_cb, ↓wp_mut, ↓wp_mth, ↓wp_tup, ↓wp_lst, ↓wp_isi, ↓wp_isi2, ↓wp_bVal, ↓wp_bTru, ↓wp_bNot, ↓wp_bAnd, ↓wp_bOr, ↓wp_bYes, ↓wp_eIf, ↓wp_andV, ↓wp_orV, ↓wp_notV, ↓wp_oNone, ↓wp_oSome, ↓wp_sl, ↓wp_callC, ↓wp_sortK, ↓wp_zip, zp_t, ↓wp_rev, revT, revL, ↓wp_sMv, mvq_ow, ↓wp_idx, imT_t,  skv_l, ↓wp_allS, ↓wp_seq, sq_next, sq_ret, sq_brk, sq_cont, ↓wp_next, ↓wp_brk, ↓wp_cont, ↓wp_ret, ↓wp_retN, ↓wp_drop, ↓wp_sIf, ↓wp_sSet, ↓wp_sAsg, ↓wp_sSetIx, ↓wp_iter, ↓wp_range1, ↓wp_range2, ↓wp_forP, ↓wp_lcP, pr_mk, vr_im, vr_ow, vr_io, vr_bo, rdv_im, rdv_nw, rdv_sl, rsl_ow, rsl_io, rsl_bo, rdvs_nil, rdvs_cons, cons2_some, ims_nil, ims_cons, o2_some, oo_some, om_some, imS_str, blV_b, inV1_i, imV_im, itv_t, itv_s, itv_n, itv_l, itl_ow, itl_bo, rg1_i, rg2_i, toV_int, toV_bool, toV_str, toV_tuple, toV_none, toV_list,
  slotOf, setS_eq, sS_fre, fre_em, fre_im, fre_ow, fre_bo, getM_eq, gM_ow, gM_io, putL_eq, pL_ow, pL_io, putLs, rsV, slM, slB, arsOf, arOf_im, arOf_int, arOf_str, arOf_bool, arOf_none, arOf_tuple, arOf_nw, arOf_sl, arOf_m, arS_ow, arS_io, arS_bo, arM_ow, arM_io, resP_ret, resP_next, resOf_im, resOf_nw, resOf_sl, rso_ow, outsOf, initG, slotA, bor, unb, clr, rst, gtName, gtTup, gtCons, gtNil, outI_next, outI_cont, outI_brk, outI_ret,
  List.getElem?_cons_zero, List.getElem?_cons_succ, List.set_cons_zero, List.set_cons_succ, List.map_cons, List.map_nil, List.cons_append, List.nil_append, List.append_nil, List.length_cons, List.length_nil, List.replicate_succ, List.replicate_zero, Nat.sub_self, Nat.reduceAdd, Nat.reduceSub, Nat.reduceEqDiff, List.getElem?_nil, 
  eqD_int, neD_int, eqD_bool, neD_bool, addD_int, subD_int, ltD_int, leD_int, gtD_int, geD_int, intD_int, intD_bool, lenL, lenT, listD_l, listD_t, tupleD_l, tupleD_t, ixL_int, ixT_int, ixS_int, negD_int, truD_b, atI0, atI1, atI2, List.nodup_nil, List.nodup_cons, List.not_mem_nil, not_false_eq_true, false_imp_iff, implies_true, and_true, true_and, and_self, if_true, if_false, Bool.false_eq_true, reduceIte, List.mem_cons, or_false, false_or, forall_eq, forall_eq_or_imp, imm_int, imm_str, beq_iff_eq, bne_iff_ne, decide_eq_true_eq, Bool.not_eq_true', $ls,*])
local macro_rules | `(tactic| dsimp! only [$ls,*]) => `(tactic| simp -implicitDefEqProofs only [↓wp_sIfY, ↓wp_var, ↓wp_c, ↓wp_op2, ↓wp_op1, ↓wp_aNil, ↓wp_aCons, ↓wp_cb, ↓wp_mut, ↓wp_mth, ↓wp_tup, ↓wp_lst, ↓wp_isi, ↓wp_isi2, ↓wp_bVal, ↓wp_bTru, ↓wp_bNot, ↓wp_bAnd, ↓wp_bOr, ↓wp_bYes, ↓wp_eIf, ↓wp_andV, ↓wp_orV, ↓wp_notV, ↓wp_oNone, ↓wp_oSome, ↓wp_sl, ↓wp_callC, ↓wp_sortK, ↓wp_zip, zp_t, ↓wp_rev, revT, revL, ↓wp_sMv, mvq_ow, ↓wp_idx, imT_t,  skv_l, ↓wp_allS, ↓wp_seq, sq_next, sq_ret, sq_brk, sq_cont, ↓wp_next, ↓wp_brk, ↓wp_cont, ↓wp_ret, ↓wp_retN, ↓wp_drop, ↓wp_sSet, ↓wp_sAsg, ↓wp_sSetIx, ↓wp_iter, ↓wp_range1, ↓wp_range2, ↓wp_forP, ↓wp_lcP, pr_mk, vr_im, vr_ow, vr_io, vr_bo, rdv_im, rdv_nw, rdv_sl, rsl_ow, rsl_io, rsl_bo, rdvs_nil, rdvs_cons, cons2_some, ims_nil, ims_cons, o2_some, oo_some, om_some, imS_str, blV_b, inV1_i, imV_im, itv_t, itv_s, itv_n, itv_l, itl_ow, itl_bo, rg1_i, rg2_i, toV_int, toV_bool, toV_str, toV_tuple, toV_none, toV_list,
  slotOf, setS_eq, sS_fre, fre_em, fre_im, fre_ow, fre_bo, getM_eq, gM_ow, gM_io, putL_eq, pL_ow, pL_io, putLs, rsV, slM, slB, arsOf, arOf_im, arOf_int, arOf_str, arOf_bool, arOf_none, arOf_tuple, arOf_nw, arOf_sl, arOf_m, arS_ow, arS_io, arS_bo, arM_ow, arM_io, resP_ret, resP_next, resOf_im, resOf_nw, resOf_sl, rso_ow, outsOf, initG, slotA, bor, unb, clr, rst, gtName, gtTup, gtCons, gtNil, outI_next, outI_cont, outI_brk, outI_ret,
  List.getElem?_cons_zero, List.getElem?_cons_succ, List.set_cons_zero, List.set_cons_succ, List.map_cons, List.map_nil, List.cons_append, List.nil_append, List.append_nil, List.length_cons, List.length_nil, List.replicate_succ, List.replicate_zero, Nat.sub_self, Nat.reduceAdd, Nat.reduceSub, Nat.reduceEqDiff, List.getElem?_nil, 
  eqD_int, neD_int, eqD_bool, neD_bool, addD_int, subD_int, ltD_int, leD_int, gtD_int, geD_int, intD_int, intD_bool, lenL, lenT, listD_l, listD_t, tupleD_l, tupleD_t, ixL_int, ixT_int, ixS_int, negD_int, truD_b, atI0, atI1, atI2, List.nodup_nil, List.nodup_cons, List.not_mem_nil, not_false_eq_true, false_imp_iff, implies_true, and_true, true_and, and_self, if_true, if_false, Bool.false_eq_true, reduceIte, List.mem_cons, or_false, false_or, forall_eq, forall_eq_or_imp, imm_int, imm_str, beq_iff_eq, bne_iff_ne, decide_eq_true_eq, Bool.not_eq_true', $ls,*])
theorem bD_gd {l : List Tb} {gs : List Fc} (hg : ∀ g ∈ gs, FV g) (hn : gs.length ≤ 1000) {acc : List Bk} (h : BOk l gs acc) {b : Bk} (hb : b ∈ acc) : gd 3 (bD b) := by
  obtain ⟨h1, h2⟩ := bp_vl hg h hb
  have hl := h.len1 hb
  refine gd_tup (by simp) fun x hx => ?_
  simp only [List.mem_cons, List.not_mem_nil, or_false] at hx
  rcases hx with rfl | rfl | rfl
  · exact .inl (.inl (.inr ⟨_, rfl, h2⟩))
  · refine gd_le (n := 1) (gd_tup ?_ h1) (by omega)
    obtain ⟨f, hf, e⟩ := h.src hb
    simp only [pk, ky, bp, PyData.tuple.injEq, List.cons.injEq, and_true] at e
    rw [← e.2, List.length_take]
    have := (hg f hf).ln
    omega
  · refine gd_tup (by rw [List.length_map]; omega) fun y hy => ?_
    obtain ⟨r, hr, rfl⟩ := List.mem_map.mp hy
    have := hg _ (h.rows hb hr)
    exact gd_tup (by have := this.ln; simp only at this; omega) this.vl
theorem Wd.fv {l : List Tb} {gs : List Fc} (hw : Wd l gs) : ∀ g ∈ gs, FV g := fun g h => (hw.fct g h).fv hw.sch
theorem Wd.bok {l : List Tb} {gs : List Fc} (hw : Wd l gs) : BOk l gs (bls l gs) := by
  have := bls_ok hw.sch hw.fct hw.ord gs.length (Nat.le_refl _)
  rw [List.take_length] at this
  exact this
theorem BS_gd {l : List Tb} {gs : List Fc} (hw : Wd l gs) : gd 10 (.tuple (BS (bls l gs))) := by
  have hn := hw.ln
  have h2 := hw.bok.len2
  refine gd_le (n := 4) (gd_tup (by rw [List.length_map]; omega) fun x hx => ?_) (by omega)
  obtain ⟨b, hb, rfl⟩ := List.mem_map.mp hx
  exact bD_gd hw.fv (by omega) hw.bok hb
theorem Wd.nil {l : List Tb} {gs : List Fc} (hw : Wd l gs) : Wd l [] := ⟨hw.sch, hw.ll, by simp, by simp, by simp, by simp⟩
theorem Wd.rk {l k : List Tb} {gs : List Fc} (hw : Wd l gs) (hk : RK l k) : Wd k gs := ⟨hk.ok' hw.sch, by
    have := congrArg List.length hk.nm
    rw [List.length_map, List.length_map] at this
    have := hw.ll
    omega, fun g h => hk.fact hw.sch (hw.fct g h), hw.nd, hw.ord, hw.ln⟩
theorem same_bool {b : Bool} {P : Rs → List (List PyData) → Prop} (h : P (.v (.bool true)) []) : wpF D_law_same [.v (.bool b), .v (.bool b)] P := by
  unfold D_law_same
  unfold D_law_same_n
  refine wp_F rfl ?_
  unfold m_law_same
  have t1 : ∀ i, tyN (.bool i) = "bool" := fun _ => rfl
  have i1 : isi1 "bool" "tuple" = false := by decide
  have i2 : isi1 "bool" "list" = false := by decide
  have k1 : okTy "tuple" = true := by decide
  have k2 : okTy "list" = true := by decide
  have k3 : okTy "bool" = true := by decide
  have k4 : okTy "int" = true := by decide
  have k5 : okTy "str" = true := by decide
  have n1 : ∀ i, isND (.bool i) .none = some (.bool false) := fun _ => rfl
  simp! only [t1, i1, i2, k1, k2, k3, k4, k5, n1, Bool.or_self, Bool.and_self, ne_eq, not_true_eq_false, beq_self_eq_true]
  exact h
theorem same_none {P : Rs → List (List PyData) → Prop} (h : P (.v (.bool true)) []) : wpF D_law_same [.v .none, .v .none] P := by
  unfold D_law_same
  unfold D_law_same_n
  refine wp_F rfl ?_
  unfold m_law_same
  have t1 : tyN .none = "NoneType" := rfl
  have i1 : isi1 "NoneType" "tuple" = false := by decide
  have i2 : isi1 "NoneType" "list" = false := by decide
  have k1 : okTy "tuple" = true := by decide
  have k2 : okTy "list" = true := by decide
  have k3 : okTy "bool" = true := by decide
  have k4 : okTy "int" = true := by decide
  have k5 : okTy "str" = true := by decide
  have n1 : isND .none .none = some (.bool true) := rfl
  have e1 : eqD .none .none = some (.bool true) := by simp [eqD, shaped_none, PyData.eqv]
  simp! only [t1, i1, i2, k1, k2, k3, k4, k5, n1, e1, Bool.or_self, Bool.and_self, ne_eq, not_true_eq_false, beq_self_eq_true]
  exact h
theorem toV_BS {l : List Tb} {gs : List Fc} (hw : Wd l gs) : toV (.tuple (BS (bls l gs))) = .im (.tuple (BS (bls l gs))) := rfl
/-- the product of the numbers of rows -/
def prodB (bs : List Bk) : Int := bs.foldl (fun a b => a * (b.2.2.length : Int)) 1
theorem prodB_snoc {bs : List Bk} {b : Bk} : prodB (bs ++ [b]) = prodB bs * (b.2.2.length : Int) := by
  unfold prodB
  rw [List.foldl_append]
  rfl
theorem count_ok {l : List Tb} {gs : List Fc} (hw : Wd l gs) {P : Rs → List (List PyData) → Prop} (h : P (.v (.int (prodB (bls l gs)))) []) : wpF D_count_mendings [.v (.tuple (TS l)), .v (.tuple (FS gs))] P := by
  unfold D_count_mendings
  refine wp_F rfl ?_
  unfold m_count_mendings
  have hn := hw.ln
  dsimp! only [true_and]
  refine blocks_ok hw ?_
  dsimp! only [true_and]
  refine loopI (fun i Γ => ∃ s3, fre s3 ∧ Γ = [.im (.tuple (TS l)), .im (.tuple (FS gs)), .im (.int (prodB ((bls l gs).take i))), s3]) ⟨.em, by simp! only [true_and], rfl⟩ ?_ ?_
  · rintro i d Γ hi ⟨s3, h3, rfl⟩
    have hi' : i < (BS (bls l gs)).length := (List.getElem?_eq_some_iff.mp hi).1
    simp at hi'
    have : d = bD (bls l gs)[i] := by
      have := (List.getElem?_eq_some_iff.mp hi).2
      rw [← this]; simp
    subst this
    have hl := hw.bok.len1 (List.getElem_mem hi')
    rw [take_snoc hi', prodB_snoc]
    generalize (bls l gs)[i] = b at *
    have e2 : ixD (bD b) (.int 2) = some (.tuple (b.2.2.map PyData.tuple)) := atI2
    simp! only [h3, e2, mulD_r (i := prodB ((bls l gs).take i)) (j := ((b.2.2.map PyData.tuple).length : Int)) (by simp; omega)]
    exact ⟨_, fre_im.mpr trivial, by rw [List.length_map]⟩
  · rintro Γ ⟨s3, h3, rfl⟩
    rw [List.length_map, List.take_length]
    simp! only [true_and]
    exact h
theorem product_ok {l : List Tb} {gs : List Fc} (hw : Wd l gs) {P : Rs → List (List PyData) → Prop} (h : P (.v (.int (prodB (bls l gs)))) []) : wpF D_law_product [.v (.tuple (BS (bls l gs)))] P := by
  unfold D_law_product
  refine wp_F rfl ?_
  unfold m_law_product
  have hn := hw.ln
  dsimp! only [true_and]
  refine loopI (fun i Γ => ∃ s3, fre s3 ∧ Γ = [.im (.tuple (BS (bls l gs))), .im (.int (prodB ((bls l gs).take i))), s3]) ⟨.em, by simp! only [true_and], rfl⟩ ?_ ?_
  · rintro i d Γ hi ⟨s3, h3, rfl⟩
    have hi' : i < (BS (bls l gs)).length := (List.getElem?_eq_some_iff.mp hi).1
    simp at hi'
    have : d = bD (bls l gs)[i] := by
      have := (List.getElem?_eq_some_iff.mp hi).2
      rw [← this]; simp
    subst this
    have hl := hw.bok.len1 (List.getElem_mem hi')
    rw [take_snoc hi', prodB_snoc]
    generalize (bls l gs)[i] = b at *
    have e2 : ixD (bD b) (.int 2) = some (.tuple (b.2.2.map PyData.tuple)) := atI2
    simp! only [h3, e2, mulD_r (i := prodB ((bls l gs).take i)) (j := ((b.2.2.map PyData.tuple).length : Int)) (by simp; omega)]
    exact ⟨_, fre_im.mpr trivial, by rw [List.length_map]⟩
  · rintro Γ ⟨s3, h3, rfl⟩
    rw [List.length_map, List.take_length]
    simp! only [true_and]
    exact h
end Lw
end

section
set_option Elab.async false
set_option linter.all false
set_option maxRecDepth 100000
set_option maxHeartbeats 400000
namespace Lw
open PySem PySem.Spec PyProof.Rows L2 Vf
variable [Tabs]
local macro_rules | `(tactic| simp! only [$ls,*]) => `(tactic| simp -implicitDefEqProofs only [↓wp_var, ↓wp_c, ↓wp_op2, ↓wp_op1, ↓wp_aNil, ↓wp_aCons, ↓wp_cb, ↓wp_mut, ↓wp_mth, ↓wp_tup, ↓wp_lst, ↓wp_isi, ↓wp_isi2, ↓wp_bVal, ↓wp_bTru, ↓wp_bNot, ↓wp_bAnd, ↓wp_bOr, ↓wp_bYes, ↓wp_eIf, ↓wp_andV, ↓wp_orV, ↓wp_notV, ↓wp_oNone, ↓wp_oSome, ↓wp_sl, ↓wp_callC, ↓wp_sortK, ↓wp_zip, zp_t, ↓wp_rev, revT, revL, ↓wp_sMv, mvq_ow, ↓wp_idx, imT_t,  skv_l, ↓wp_allS, ↓wp_seq, sq_next, sq_ret, sq_brk, sq_cont, ↓wp_next, ↓wp_brk, ↓wp_cont, ↓wp_ret, ↓wp_retN, ↓wp_drop, ↓wp_sIf, ↓wp_sSet, ↓wp_sAsg, ↓wp_sSetIx, ↓wp_iter, ↓wp_range1, ↓wp_range2, ↓wp_forP, ↓wp_lcP, pr_mk, vr_im, vr_ow, vr_io, vr_bo, rdv_im, rdv_nw, rdv_sl, rsl_ow, rsl_io, rsl_bo, rdvs_nil, rdvs_cons, cons2_some, ims_nil, ims_cons, o2_some, oo_some, om_some, imS_str, blV_b, inV1_i, imV_im, itv_t, itv_s, itv_n, itv_l, itl_ow, itl_bo, rg1_i, rg2_i, toV_int, toV_bool, toV_str, toV_tuple, toV_none, toV_list,
  slotOf, setS_eq, sS_fre, fre_em, fre_im, fre_ow, fre_bo, getM_eq, gM_ow, gM_io, putL_eq, pL_ow, pL_io, putLs, rsV, slM, slB, arsOf, arOf_im, arOf_int, arOf_str, arOf_bool, arOf_none, arOf_tuple, arOf_nw, arOf_sl, arOf_m, arS_ow, arS_io, arS_bo, arM_ow, arM_io, resP_ret, resP_next, resOf_im, resOf_nw, resOf_sl, rso_ow, outsOf, initG, slotA, bor, unb, clr, rst, gtName, gtTup, gtCons, gtNil, outI_next, outI_cont, outI_brk, outI_ret,
  List.getElem?_cons_zero, List.getElem?_cons_succ, List.set_cons_zero, List.set_cons_succ, List.map_cons, List.map_nil, List.cons_append, List.nil_append, List.append_nil, List.length_cons, List.length_nil, List.replicate_succ, List.replicate_zero, Nat.sub_self, Nat.reduceAdd, Nat.reduceSub, Nat.reduceEqDiff, List.getElem?_nil, 
  eqD_int, neD_int, eqD_bool, neD_bool, addD_int, subD_int, ltD_int, leD_int, gtD_int, geD_int, intD_int, intD_bool, lenL, lenT, listD_l, listD_t, tupleD_l, tupleD_t, ixL_int, ixT_int, ixS_int, negD_int, truD_b, atI0, atI1, atI2, List.nodup_nil, List.nodup_cons, List.not_mem_nil, not_false_eq_true, false_imp_iff, implies_true, and_true, true_and, and_self, if_true, if_false, Bool.false_eq_true, reduceIte, List.mem_cons, or_false, false_or, forall_eq, forall_eq_or_imp, imm_int, imm_str, beq_iff_eq, bne_iff_ne, decide_eq_true_eq, Bool.not_eq_true', $ls,*])
local macro_rules | `(tactic| dsimp! only [$ls,*]) => `(tactic| simp -implicitDefEqProofs only [↓wp_sIfY, ↓wp_var, ↓wp_c, ↓wp_op2, ↓wp_op1, ↓wp_aNil, ↓wp_aCons, ↓wp_cb, ↓wp_mut, ↓wp_mth, ↓wp_tup, ↓wp_lst, ↓wp_isi, ↓wp_isi2, ↓wp_bVal, ↓wp_bTru, ↓wp_bNot, ↓wp_bAnd, ↓wp_bOr, ↓wp_bYes, ↓wp_eIf, ↓wp_andV, ↓wp_orV, ↓wp_notV, ↓wp_oNone, ↓wp_oSome, ↓wp_sl, ↓wp_callC, ↓wp_sortK, ↓wp_zip, zp_t, ↓wp_rev, revT, revL, ↓wp_sMv, mvq_ow, ↓wp_idx, imT_t,  skv_l, ↓wp_allS, ↓wp_seq, sq_next, sq_ret, sq_brk, sq_cont, ↓wp_next, ↓wp_brk, ↓wp_cont, ↓wp_ret, ↓wp_retN, ↓wp_drop, ↓wp_sSet, ↓wp_sAsg, ↓wp_sSetIx, ↓wp_iter, ↓wp_range1, ↓wp_range2, ↓wp_forP, ↓wp_lcP, pr_mk, vr_im, vr_ow, vr_io, vr_bo, rdv_im, rdv_nw, rdv_sl, rsl_ow, rsl_io, rsl_bo, rdvs_nil, rdvs_cons, cons2_some, ims_nil, ims_cons, o2_some, oo_some, om_some, imS_str, blV_b, inV1_i, imV_im, itv_t, itv_s, itv_n, itv_l, itl_ow, itl_bo, rg1_i, rg2_i, toV_int, toV_bool, toV_str, toV_tuple, toV_none, toV_list,
  slotOf, setS_eq, sS_fre, fre_em, fre_im, fre_ow, fre_bo, getM_eq, gM_ow, gM_io, putL_eq, pL_ow, pL_io, putLs, rsV, slM, slB, arsOf, arOf_im, arOf_int, arOf_str, arOf_bool, arOf_none, arOf_tuple, arOf_nw, arOf_sl, arOf_m, arS_ow, arS_io, arS_bo, arM_ow, arM_io, resP_ret, resP_next, resOf_im, resOf_nw, resOf_sl, rso_ow, outsOf, initG, slotA, bor, unb, clr, rst, gtName, gtTup, gtCons, gtNil, outI_next, outI_cont, outI_brk, outI_ret,
  List.getElem?_cons_zero, List.getElem?_cons_succ, List.set_cons_zero, List.set_cons_succ, List.map_cons, List.map_nil, List.cons_append, List.nil_append, List.append_nil, List.length_cons, List.length_nil, List.replicate_succ, List.replicate_zero, Nat.sub_self, Nat.reduceAdd, Nat.reduceSub, Nat.reduceEqDiff, List.getElem?_nil, 
  eqD_int, neD_int, eqD_bool, neD_bool, addD_int, subD_int, ltD_int, leD_int, gtD_int, geD_int, intD_int, intD_bool, lenL, lenT, listD_l, listD_t, tupleD_l, tupleD_t, ixL_int, ixT_int, ixS_int, negD_int, truD_b, atI0, atI1, atI2, List.nodup_nil, List.nodup_cons, List.not_mem_nil, not_false_eq_true, false_imp_iff, implies_true, and_true, true_and, and_self, if_true, if_false, Bool.false_eq_true, reduceIte, List.mem_cons, or_false, false_or, forall_eq, forall_eq_or_imp, imm_int, imm_str, beq_iff_eq, bne_iff_ne, decide_eq_true_eq, Bool.not_eq_true', $ls,*])
/-! mendings -/
theorem inD_gdT {n : Nat} (hn : n ≤ 60) {x : PyData} {ys : List PyData} (hx : gd n x) (hy : ∀ y ∈ ys, gd n y) : inT x ys = some (ys.any fun z => PyData.eqv z x) := by
  unfold inT
  split
  · rfl
  · have h1 := lay_all (ds := ys) fun y h => (gd_lay (hy y h)).1
    have h2 := dep_all (ds := ys) (n := n) fun y h => (gd_lay (hy y h)).2
    rw [if_pos]
    have h3 : SeqAt.shaped (.tuple ys) = true := by
      unfold SeqAt.shaped
      rw [show (PyData.tuple ys).canLay0 = true by simpa [PyData.canLay0] using h1, Bool.true_and]
      refine decide_eq_true ?_
      show PyData.depthAll ys + 1 ≤ 64
      omega
    rw [gd_shaped hn hx, h3]
    rfl
theorem inDt {n : Nat} (hn : n ≤ 60) {x : PyData} {ys : List PyData} (hx : gd n x) (hy : ∀ y ∈ ys, gd n y) : inD x (.tuple ys) = some (.bool (ys.any fun z => PyData.eqv z x)) := by
  show (match inT x ys with
    | some b => some (PyData.bool b)
    | none => none) = _
  rw [inD_gdT hn hx hy]
theorem niDt {n : Nat} (hn : n ≤ 60) {x : PyData} {ys : List PyData} (hx : gd n x) (hy : ∀ y ∈ ys, gd n y) : niD x (.tuple ys) = some (.bool (!(ys.any fun z => PyData.eqv z x))) := by
  show (match inT x ys with
    | some b => some (PyData.bool (!b))
    | none => none) = _
  rw [inD_gdT hn hx hy]
def mtc (f : Fc) (b : Bk) : Bool := (f.1 == b.1) && ((b.2.2.map PyData.tuple).any fun z => PyData.eqv z (.tuple f.2))
def isM (bs : List Bk) (ms : List Fc) : Bool := decide (ms.length = bs.length) && (ms.zip bs).all fun p => mtc p.1 p.2
/-- blocks of facts -/
structure BV (b : Bk) : Prop where
  nm : PyData.strOk b.1 = true
  ky : ∀ d ∈ b.2.1, VL d
  rw : ∀ r ∈ b.2.2, FV (b.1, r)
  ne : b.2.2 ≠ []
  ln : b.2.2.length ≤ 1000
theorem Wd.bv {l : List Tb} {gs : List Fc} (hw : Wd l gs) : ∀ b ∈ bls l gs, BV b := fun b hb => by
  obtain ⟨h1, h2⟩ := bp_vl hw.fv hw.bok hb
  have := hw.bok.len1 hb
  have := hw.ln
  exact ⟨h2, h1, fun r hr => hw.fv _ (hw.bok.rows hb hr), (hw.bok.plc b hb).1, by omega⟩
theorem BV.rg {b : Bk} (h : BV b) : ∀ y ∈ b.2.2.map PyData.tuple, gd 1 y := fun y hy => by
  obtain ⟨r, hr, rfl⟩ := List.mem_map.mp hy
  have := h.rw r hr
  exact gd_tup (by have := this.ln; simp only at this; omega) this.vl
theorem FV.rg {f : Fc} (h : FV f) : Lw.gd 1 (.tuple f.2) := by
  refine Lw.gd_tup (n := 0) ?_ h.vl
  have := h.ln
  omega
theorem bD_immV {b : Bk} (h : BV b) : imm (bD b) = true := bD_imm h.ky fun r hr => (h.rw r hr).vl
theorem zip_len {l : List Tb} {gs ms : List Fc} : ((ms.zip (bls l gs)).length) = min ms.length (bls l gs).length := List.length_zip
theorem is_mending_ok {l : List Tb} {gs : List Fc} (hw : Wd l gs) {ms : List Fc} (hm : ∀ f ∈ ms, FV f) (hml : ms.length ≤ 1000) {P : Rs → List (List PyData) → Prop} (h : P (.v (.bool (isM (bls l gs) ms))) []) : wpF D_is_mending [.v (.tuple (TS l)), .v (.tuple (FS gs)), .v (.tuple (FS ms))] P := by
  unfold D_is_mending
  refine wp_F rfl ?_
  unfold m_is_mending
  have hbv := hw.bv
  dsimp! only [true_and]
  refine blocks_ok hw ?_
  generalize bls l gs = bs at *
  simp! only [true_and]
  split
  · rename_i hc
    simp only [List.length_map] at hc
    have : isM bs ms = false := by
      unfold isM
      rw [decide_eq_false (by omega), Bool.false_and]
    rw [this] at h
    exact h
  · rename_i hc
    simp only [List.length_map] at hc
    have hc : ms.length = bs.length := by omega
    refine lcI (fun i acc Γ => acc = (((ms.zip bs).take i).map fun p => mtc p.1 p.2).map PyData.bool ∧ Γ = [.im (.tuple (TS l)), .im (.tuple (FS gs)), .im (.tuple (FS ms)), .im (.tuple (BS bs)), .em, .em]) ⟨rfl, rfl⟩ ?_ ?_
    · rintro i d acc Γ hi ⟨rfl, rfl⟩
      obtain ⟨x, y, h1, h2, rfl⟩ := zipD_get hi
      have i1 : i < ms.length := by have := (List.getElem?_eq_some_iff.mp h1).1; simpa using this
      have i2 : i < bs.length := by have := (List.getElem?_eq_some_iff.mp h2).1; simpa using this
      have e1 : x = fD ms[i] := by
        have := (List.getElem?_eq_some_iff.mp h1).2
        rw [← this]; simp
      have e2 : y = bD bs[i] := by
        have := (List.getElem?_eq_some_iff.mp h2).2
        rw [← this]; simp
      subst e1
      subst e2
      have f1 := hm ms[i] (List.getElem_mem i1)
      have f2 := hbv bs[i] (List.getElem_mem i2)
      have ht : (ms.zip bs).take (i + 1) = (ms.zip bs).take i ++ [(ms[i], bs[i])] := by
        rw [List.take_add_one, List.getElem?_eq_getElem (by rw [List.length_zip]; omega)]
        simp
      rw [ht]
      generalize ms[i] = f at *
      generalize bs[i] = b at *
      have q1 : ixD (bD b) (.int 2) = some (.tuple (b.2.2.map PyData.tuple)) := atI2
      have q2 := eqD_str f1.nm f2.nm
      have q3 := inDt (n := 1) (by omega) f1.rg f2.rg
      have q4 : ((((ms.zip bs).take i).map fun p => mtc p.1 p.2).map PyData.bool).length < 1000000 := by
        rw [List.length_map, List.length_map, List.length_take, List.length_zip]; omega
      have q5 : imm (bD b) = true := bD_immV f2
      have q6 : imm (fD f) = true := gd_imm f1.gd
      simp! only [q1, q2, q3, q5, q6]
      split
      · rename_i c1
        refine ⟨q4, ?_, rfl⟩
        simp only [List.map_append, List.map_cons, List.map_nil, mtc, beq_iff_eq.mpr c1, Bool.true_and]
      · rename_i c1
        refine ⟨q4, ?_, rfl⟩
        simp only [List.map_append, List.map_cons, List.map_nil, mtc, beq_eq_false_iff_ne.mpr c1, Bool.false_and]
    rintro acc Γ ⟨rfl, rfl⟩
    rw [zipD_len, List.length_map, List.length_map, List.take_of_length_le (by rw [List.length_zip]; omega)]
    simp! only [allD_b]
    have : isM bs ms = (((ms.zip bs).map fun p => mtc p.1 p.2).all id) := by
      unfold isM
      rw [decide_eq_true hc, Bool.true_and, List.all_map]
      rfl
    rw [this] at h
    exact h
theorem law_is_mending_ok {bs : List Bk} (hbv : ∀ b ∈ bs, BV b) (hbl : bs.length ≤ 1000) {ms : List Fc} (hm : ∀ f ∈ ms, FV f) {P : Rs → List (List PyData) → Prop} (h : P (.v (.bool (isM bs ms))) []) : wpF D_law_is_mending [.v (.tuple (BS bs)), .v (.tuple (FS ms))] P := by
  unfold D_law_is_mending
  refine wp_F rfl ?_
  unfold m_law_is_mending
  simp! only [true_and]
  split
  · rename_i hc
    simp only [List.length_map] at hc
    have : isM bs ms = false := by
      unfold isM
      rw [decide_eq_false (by omega), Bool.false_and]
    rw [this] at h
    exact h
  · rename_i hc
    simp only [List.length_map] at hc
    have hc : ms.length = bs.length := by omega
    refine ⟨by rw [List.length_map]; omega, ?_⟩
    refine loopI (fun i Γ => ∃ s2, fre s2 ∧ (((ms.zip bs).take i).all fun p => mtc p.1 p.2) = true ∧ Γ = [.im (.tuple (BS bs)), .im (.tuple (FS ms)), s2]) ⟨.em, by simp! only [true_and], by simp, rfl⟩ ?_ ?_
    · rintro i d Γ hi ⟨s2, h2, ha, rfl⟩
      obtain ⟨rfl, hj⟩ := rng1_get hi
      clear hi
      have hj : (i : Int) < (bs.length : Int) := by
        rw [List.length_map] at hj
        exact hj
      have i1 : i < ms.length := by omega
      have i2 : i < bs.length := by omega
      have f1 := hm ms[i] (List.getElem_mem i1)
      have f2 := hbv bs[i] (List.getElem_mem i2)
      have ht : (ms.zip bs).take (i + 1) = (ms.zip bs).take i ++ [(ms[i], bs[i])] := by
        rw [List.take_add_one, List.getElem?_eq_getElem (by rw [List.length_zip]; omega)]
        simp
      have g1 : atI (FS ms) (i : Int) = some (fD ms[i]) := L2.atI_nat (by simp [i1])
      have g2 : atI (BS bs) (i : Int) = some (bD bs[i]) := L2.atI_nat (by simp [i2])
      have hin : (ms[i], bs[i]) ∈ ms.zip bs := List.mem_iff_getElem.mpr ⟨i, by rw [List.length_zip]; omega, by simp⟩
      rw [ht]
      generalize ms[i] = f at *
      generalize bs[i] = b at *
      have q1 : ixD (bD b) (.int 2) = some (.tuple (b.2.2.map PyData.tuple)) := atI2
      have q2 : neD (.str f.1) (.str b.1) = some (.bool (!(f.1 == b.1))) := by
        have := neD_gd (n := 0) (by omega) (x := .str f.1) (y := .str b.1) (.inr ⟨_, rfl, f1.nm⟩) (.inr ⟨_, rfl, f2.nm⟩)
        rw [this]
        simp [PyData.eqv]
      have q3 := niDt (n := 1) (by omega) f1.rg f2.rg
      have q5 : imm (bD b) = true := bD_immV f2
      have q6 : imm (fD f) = true := gd_imm f1.gd
      have bad : mtc f b = false → P (.v (.bool false)) [] := fun hf => by
        have : isM bs ms = false := by
          unfold isM
          rw [decide_eq_true hc, Bool.true_and, List.all_eq_false]
          exact ⟨_, hin, by simp only [hf]; decide⟩
        rw [this] at h
        exact h
      simp! only [h2, g1, g2, q1, q2, q3, q5, q6]
      split
      · rename_i c1
        exact bad (by unfold mtc; rw [c1, Bool.false_and])
      · rename_i c1
        have c1 : (f.1 == b.1) = true := by simpa using c1
        split
        · rename_i c2
          exact bad (by unfold mtc; rw [c2, Bool.and_false])
        · rename_i c2
          refine ⟨_, fre_im.mpr trivial, ?_, rfl⟩
          have c2 : ((b.2.2.map PyData.tuple).any fun z => PyData.eqv z (.tuple f.2)) = true := by simpa only [Bool.not_eq_false] using c2
          have c3 : mtc f b = true := by unfold mtc; rw [c1, c2]; rfl
          rw [List.all_append, ha, List.all_cons, List.all_nil, c3]
          rfl
    · rintro Γ ⟨s2, h2, ha, rfl⟩
      rw [rng1_len, List.take_of_length_le (by rw [List.length_zip, List.length_map]; omega)] at ha
      simp! only [true_and]
      have : isM bs ms = true := by
        unfold isM
        rw [decide_eq_true hc, ha]
        rfl
      rw [this] at h
      exact h
theorem chosen_ok {ns : List Int} {bs : List Bk} (hbv : ∀ b ∈ bs, BV b) (hbl : bs.length ≤ 1000) {P : Rs → List (List PyData) → Prop} (h : ∀ ms ns', ms.length = bs.length → (∀ f ∈ ms, FV f) → isM bs ms = true → P (.v (.tuple (FS ms))) [DI ns']) : wpF D_law_chosen [.m (DI ns), .v (.tuple (BS bs))] P := by
  unfold D_law_chosen
  refine wp_F rfl ?_
  unfold m_law_chosen
  simp! only [true_and]
  refine lcI (fun i acc Γ => ∃ ms ns, acc = FS ms ∧ ms.length = i ∧ (∀ f ∈ ms, FV f) ∧ ((ms.zip (bs.take i)).all fun p => mtc p.1 p.2) = true ∧ Γ = [.io (DI ns), .im (.tuple (BS bs)), .em]) ⟨[], ns, rfl, rfl, by simp, by simp, rfl⟩ ?_ ?_
  · rintro i d acc Γ hi ⟨ms, ns, rfl, hml, hm, hz, rfl⟩
    have hi' : i < (BS bs).length := (List.getElem?_eq_some_iff.mp hi).1
    simp at hi'
    have : d = bD bs[i] := by
      have := (List.getElem?_eq_some_iff.mp hi).2
      rw [← this]; simp
    subst this
    have f2 := hbv bs[i] (List.getElem_mem hi')
    have hi2 : (bs.take i).length = i := by rw [List.length_take]; omega
    rw [take_snoc hi']
    generalize bs[i] = b at *
    have q1 : ixD (bD b) (.int 2) = some (.tuple (b.2.2.map PyData.tuple)) := atI2
    have q5 : imm (bD b) = true := bD_immV f2
    simp! only [q1, q5]
    refine pickT_spec (by rw [List.length_map]; exact List.length_pos_iff.mpr f2.ne) (immAll_of fun d hd => gd_imm (f2.rg d hd)) fun d ns2 hd => ?_
    obtain ⟨r, hr, rfl⟩ := List.mem_map.mp hd
    simp! only [true_and]
    refine ⟨by omega, by rw [List.length_map]; omega, ms ++ [(b.1, r)], ns2, by simp, by simp [hml], ?_, ?_, rfl⟩
    · intro f hf
      rcases List.mem_append.mp hf with hf | hf
      · exact hm f hf
      · rw [List.mem_singleton.mp hf]; exact f2.rw r hr
    · rw [List.zip_append (by rw [hml, hi2]), List.all_append, hz]
      have : mtc (b.1, r) b = true := by
        unfold mtc
        rw [beq_self_eq_true, Bool.true_and, any_gd (n := 1) (f2.rw r hr).rg f2.rg]
        exact hd
      simp [this]
  rintro acc Γ ⟨ms, ns, rfl, hml, hm, hz, rfl⟩
  rw [List.length_map] at hml hz
  simp! only [true_and]
  refine h ms ns hml hm ?_
  unfold isM
  rw [decide_eq_true hml, Bool.true_and]
  rw [List.take_length] at hz
  exact hz
/-- a fact -/
def fct (d : PyData) : Prop := ∃ f, FV f ∧ d = fD f
theorem fct_FS {gs : List Fc} (h : ∀ g ∈ gs, FV g) : ∀ d ∈ FS gs, fct d := fun d hd => by
  obtain ⟨g, hg, rfl⟩ := List.mem_map.mp hd
  exact ⟨g, h g hg, rfl⟩
theorem toFS : ∀ {X : List PyData}, (∀ d ∈ X, fct d) → ∃ fs, X = FS fs ∧ ∀ f ∈ fs, FV f
  | [], _ => ⟨[], rfl, by simp⟩
  | d :: X, h => by
    obtain ⟨f, hf, rfl⟩ := h d (by simp)
    obtain ⟨fs, rfl, hfs⟩ := toFS (X := X) fun x hx => h x (by simp [hx])
    refine ⟨f :: fs, rfl, fun g hg => ?_⟩
    rcases List.mem_cons.mp hg with rfl | hg
    · exact hf
    · exact hfs g hg
theorem popM_at {ds : List PyData} {i : Int} {d : PyData} (h0 : 0 ≤ i) (h1 : i < ds.length) (hs : ds.length ≤ 1000) : ∃ d, popM ds [.int i] = some (ds.eraseIdx i.toNat, d) := by
  have hi : i.toNat < ds.length := by omega
  refine ⟨ds[i.toNat], ?_⟩
  have : ixN ds.length i = some i.toNat := by
    unfold ixN
    rw [if_pos (by omega)]
    first | rfl | (rw [if_pos (by omega)])
  simp only [popM]
  rw [if_pos (by omega), this]
  simp [hi]
theorem insertM_at {ds : List PyData} {i : Int} {d : PyData} (h0 : 0 ≤ i) (h1 : i ≤ 2000) (hd : imm d = true) (hs : ds.length ≤ 1000) : insertM ds [.int i, d] = some (ds.take i.toNat ++ [d] ++ ds.drop i.toNat, .none) := by
  simp only [insertM]
  rw [if_pos]
  rw [hd, decide_eq_true (by omega), decide_eq_true h0, decide_eq_true (by omega)]
  rfl
theorem ixN_at {n : Nat} {i : Int} (h0 : 0 ≤ i) (h1 : i < n) : ixN n i = some i.toNat := by
  unfold ixN
  rw [if_pos (by omega)]
  first | rfl | (rw [if_pos (by omega)])
end Lw
end

section
set_option Elab.async false
set_option linter.all false
set_option maxRecDepth 100000
set_option maxHeartbeats 400000
namespace Lw
open PySem PySem.Spec PyProof.Rows L2 Vf
variable [Tabs]
local macro_rules | `(tactic| simp! only [$ls,*]) => `(tactic| simp -implicitDefEqProofs only [↓wp_var, ↓wp_c, ↓wp_op2, ↓wp_op1, ↓wp_aNil, ↓wp_aCons, ↓wp_cb, ↓wp_mut, ↓wp_mth, ↓wp_tup, ↓wp_lst, ↓wp_isi, ↓wp_isi2, ↓wp_bVal, ↓wp_bTru, ↓wp_bNot, ↓wp_bAnd, ↓wp_bOr, ↓wp_bYes, ↓wp_eIf, ↓wp_andV, ↓wp_orV, ↓wp_notV, ↓wp_oNone, ↓wp_oSome, ↓wp_sl, ↓wp_callC, ↓wp_sortK, ↓wp_zip, zp_t, ↓wp_rev, revT, revL, ↓wp_sMv, mvq_ow, ↓wp_idx, imT_t,  skv_l, ↓wp_allS, ↓wp_seq, sq_next, sq_ret, sq_brk, sq_cont, ↓wp_next, ↓wp_brk, ↓wp_cont, ↓wp_ret, ↓wp_retN, ↓wp_drop, ↓wp_sIf, ↓wp_sSet, ↓wp_sAsg, ↓wp_sSetIx, ↓wp_iter, ↓wp_range1, ↓wp_range2, ↓wp_forP, ↓wp_lcP, pr_mk, vr_im, vr_ow, vr_io, vr_bo, rdv_im, rdv_nw, rdv_sl, rsl_ow, rsl_io, rsl_bo, rdvs_nil, rdvs_cons, cons2_some, ims_nil, ims_cons, o2_some, oo_some, om_some, imS_str, blV_b, inV1_i, imV_im, itv_t, itv_s, itv_n, itv_l, itl_ow, itl_bo, rg1_i, rg2_i, toV_int, toV_bool, toV_str, toV_tuple, toV_none, toV_list,
  slotOf, setS_eq, sS_fre, fre_em, fre_im, fre_ow, fre_bo, getM_eq, gM_ow, gM_io, putL_eq, pL_ow, pL_io, putLs, rsV, slM, slB, arsOf, arOf_im, arOf_int, arOf_str, arOf_bool, arOf_none, arOf_tuple, arOf_nw, arOf_sl, arOf_m, arS_ow, arS_io, arS_bo, arM_ow, arM_io, resP_ret, resP_next, resOf_im, resOf_nw, resOf_sl, rso_ow, outsOf, initG, slotA, bor, unb, clr, rst, gtName, gtTup, gtCons, gtNil, outI_next, outI_cont, outI_brk, outI_ret,
  List.getElem?_cons_zero, List.getElem?_cons_succ, List.set_cons_zero, List.set_cons_succ, List.map_cons, List.map_nil, List.cons_append, List.nil_append, List.append_nil, List.length_cons, List.length_nil, List.replicate_succ, List.replicate_zero, Nat.sub_self, Nat.reduceAdd, Nat.reduceSub, Nat.reduceEqDiff, List.getElem?_nil, 
  eqD_int, neD_int, eqD_bool, neD_bool, addD_int, subD_int, ltD_int, leD_int, gtD_int, geD_int, intD_int, intD_bool, lenL, lenT, listD_l, listD_t, tupleD_l, tupleD_t, ixL_int, ixT_int, ixS_int, negD_int, truD_b, atI0, atI1, atI2, List.nodup_nil, List.nodup_cons, List.not_mem_nil, not_false_eq_true, false_imp_iff, implies_true, and_true, true_and, and_self, if_true, if_false, Bool.false_eq_true, reduceIte, List.mem_cons, or_false, false_or, forall_eq, forall_eq_or_imp, imm_int, imm_str, beq_iff_eq, bne_iff_ne, decide_eq_true_eq, Bool.not_eq_true', $ls,*])
local macro_rules | `(tactic| dsimp! only [$ls,*]) => `(tactic| simp -implicitDefEqProofs only [↓wp_sIfY, ↓wp_var, ↓wp_c, ↓wp_op2, ↓wp_op1, ↓wp_aNil, ↓wp_aCons, ↓wp_cb, ↓wp_mut, ↓wp_mth, ↓wp_tup, ↓wp_lst, ↓wp_isi, ↓wp_isi2, ↓wp_bVal, ↓wp_bTru, ↓wp_bNot, ↓wp_bAnd, ↓wp_bOr, ↓wp_bYes, ↓wp_eIf, ↓wp_andV, ↓wp_orV, ↓wp_notV, ↓wp_oNone, ↓wp_oSome, ↓wp_sl, ↓wp_callC, ↓wp_sortK, ↓wp_zip, zp_t, ↓wp_rev, revT, revL, ↓wp_sMv, mvq_ow, ↓wp_idx, imT_t,  skv_l, ↓wp_allS, ↓wp_seq, sq_next, sq_ret, sq_brk, sq_cont, ↓wp_next, ↓wp_brk, ↓wp_cont, ↓wp_ret, ↓wp_retN, ↓wp_drop, ↓wp_sSet, ↓wp_sAsg, ↓wp_sSetIx, ↓wp_iter, ↓wp_range1, ↓wp_range2, ↓wp_forP, ↓wp_lcP, pr_mk, vr_im, vr_ow, vr_io, vr_bo, rdv_im, rdv_nw, rdv_sl, rsl_ow, rsl_io, rsl_bo, rdvs_nil, rdvs_cons, cons2_some, ims_nil, ims_cons, o2_some, oo_some, om_some, imS_str, blV_b, inV1_i, imV_im, itv_t, itv_s, itv_n, itv_l, itl_ow, itl_bo, rg1_i, rg2_i, toV_int, toV_bool, toV_str, toV_tuple, toV_none, toV_list,
  slotOf, setS_eq, sS_fre, fre_em, fre_im, fre_ow, fre_bo, getM_eq, gM_ow, gM_io, putL_eq, pL_ow, pL_io, putLs, rsV, slM, slB, arsOf, arOf_im, arOf_int, arOf_str, arOf_bool, arOf_none, arOf_tuple, arOf_nw, arOf_sl, arOf_m, arS_ow, arS_io, arS_bo, arM_ow, arM_io, resP_ret, resP_next, resOf_im, resOf_nw, resOf_sl, rso_ow, outsOf, initG, slotA, bor, unb, clr, rst, gtName, gtTup, gtCons, gtNil, outI_next, outI_cont, outI_brk, outI_ret,
  List.getElem?_cons_zero, List.getElem?_cons_succ, List.set_cons_zero, List.set_cons_succ, List.map_cons, List.map_nil, List.cons_append, List.nil_append, List.append_nil, List.length_cons, List.length_nil, List.replicate_succ, List.replicate_zero, Nat.sub_self, Nat.reduceAdd, Nat.reduceSub, Nat.reduceEqDiff, List.getElem?_nil, 
  eqD_int, neD_int, eqD_bool, neD_bool, addD_int, subD_int, ltD_int, leD_int, gtD_int, geD_int, intD_int, intD_bool, lenL, lenT, listD_l, listD_t, tupleD_l, tupleD_t, ixL_int, ixT_int, ixS_int, negD_int, truD_b, atI0, atI1, atI2, List.nodup_nil, List.nodup_cons, List.not_mem_nil, not_false_eq_true, false_imp_iff, implies_true, and_true, true_and, and_self, if_true, if_false, Bool.false_eq_true, reduceIte, List.mem_cons, or_false, false_or, forall_eq, forall_eq_or_imp, imm_int, imm_str, beq_iff_eq, bne_iff_ne, decide_eq_true_eq, Bool.not_eq_true', $ls,*])
theorem ok_z6 : PyData.strOk "zzzzzz" = true := by
  show (Str.ofString "zzzzzz").cps.all _ = true
  rw [show (Str.ofString "zzzzzz").cps = #[122, 122, 122, 122, 122, 122] from rfl]; simp
theorem fct.im {d : PyData} (h : fct d) : imm d = true := by
  obtain ⟨f, hf, rfl⟩ := h
  exact gd_imm hf.gd
theorem fct_set {X : List PyData} (h : ∀ d ∈ X, fct d) {n : Nat} {x : PyData} (hx : fct x) : ∀ d ∈ X.set n x, fct d := fun d hd => by
  rcases List.mem_or_eq_of_mem_set hd with hd | rfl
  · exact h d hd
  · exact hx
theorem fct_ins {X : List PyData} (h : ∀ d ∈ X, fct d) {n : Nat} {x : PyData} (hx : fct x) : ∀ d ∈ X.take n ++ [x] ++ X.drop n, fct d := fun d hd => by
  simp only [List.mem_append, List.mem_singleton] at hd
  rcases hd with (hd | rfl) | hd
  · exact h d (List.mem_of_mem_take hd)
  · exact hx
  · exact h d (List.mem_of_mem_drop hd)
theorem near_mending_ok {ns : List Int} {bs : List Bk} (hbv : ∀ b ∈ bs, BV b) (hbl : bs.length ≤ 900) (hbp : 0 < bs.length) {gs ms : List Fc} (hg : ∀ g ∈ gs, FV g) (hgp : 0 < gs.length) (hgl : gs.length ≤ 900) (hm : ∀ f ∈ ms, FV f) (hml : ms.length = bs.length) {P : Rs → List (List PyData) → Prop} (h : ∀ fs ns', (∀ f ∈ fs, FV f) → fs.length ≤ 1000 → P (.v (.tuple (FS fs))) [DI ns']) : wpF D_law_near_mending [.m (DI ns), .v (.tuple (BS bs)), .v (.tuple (FS gs)), .v (.tuple (FS ms))] P := by
  unfold D_law_near_mending
  refine wp_F rfl ?_
  unfold m_law_near_mending
  have hms : ∀ d ∈ FS ms, fct d := fct_FS hm
  have hL : (FS ms).length = bs.length := by rw [List.length_map, hml]
  have hX : ∀ X ns', (∀ d ∈ X, fct d) → X.length ≤ 1000 → P (.v (.tuple X)) [DI ns'] := fun X ns' hx hl => by
    obtain ⟨fs, rfl, hf⟩ := toFS hx
    exact h fs ns' hf (by rw [List.length_map] at hl; exact hl)
  generalize FS ms = M at *
  dsimp! only [true_and]
  refine take_spec (by omega) fun i ns1 i0 i1 => ?_
  dsimp! only [true_and]
  refine take_spec (by omega) fun v ns2 v0 v1 => ?_
  obtain ⟨d, e, e2, hd⟩ := atI_in (ds := M) i0 i1
  obtain ⟨f, hf, rfl⟩ := hms d hd
  have ib : i.toNat < bs.length := by omega
  have g2 : atI (BS bs) i = some (bD bs[i.toNat]) := by
    have := L2.atI_nat (xs := BS bs) (j := i.toNat) (v := bD bs[i.toNat]) (by simp [ib])
    rw [show ((i.toNat : Nat) : Int) = i by omega] at this
    exact this
  have f2 := hbv bs[i.toNat] (List.getElem_mem ib)
  generalize bs[i.toNat] = b at *
  have q1 : ixD (bD b) (.int 2) = some (.tuple (b.2.2.map PyData.tuple)) := atI2
  have q5 : imm (bD b) = true := bD_immV f2
  have q6 : imm (fD f) = true := gd_imm hf.gd
  have q7 : imm (.tuple f.2) = true := gd_imm hf.rg
  have hx : ixN M.length i = some i.toNat := ixN_at i0 i1
  have pk : ∀ {ns : List Int} {P : Rs → List (List PyData) → Prop}, (∀ r ns', FV (b.1, r) → P (.v (.tuple r)) [DI ns']) → wpF D_law_pick [.m (DI ns), .v (.tuple (b.2.2.map PyData.tuple))] P := fun {ns P} hP => by
    refine pickT_spec (by rw [List.length_map]; exact List.length_pos_iff.mpr f2.ne) (immAll_of fun d hd => gd_imm (f2.rg d hd)) fun d ns2 hd => ?_
    obtain ⟨r, hr, rfl⟩ := List.mem_map.mp hd
    exact hP r ns2 (f2.rw r hr)
  have hv : v = 0 ∨ v = 1 ∨ v = 2 ∨ v = 3 ∨ v = 4 ∨ v = 5 ∨ v = 6 ∨ v = 7 := by omega
  rcases hv with rfl | rfl | rfl | rfl | rfl | rfl | rfl | rfl
  · obtain ⟨x, ex⟩ := popM_at (ds := M) (d := fD f) i0 i1 (by omega)
    simp! only [Int.reduceEq, ex]
    refine hX _ _ (fun d hd => hms d (List.mem_of_mem_eraseIdx hd)) ?_
    have := List.length_eraseIdx_le M i.toNat
    omega
  · simp! only [Int.reduceEq, e, toV_of q6, insertM_at i0 (by omega) q6 (ds := M) (by omega)]
    refine hX _ _ (fct_ins hms ⟨f, hf, rfl⟩) ?_
    simp
    omega
  · simp! only [Int.reduceEq]
    refine take_spec (by omega) fun j ns3 j0 j1 => ?_
    obtain ⟨y, ey, _, hy⟩ := atI_in (ds := M) j0 j1
    obtain ⟨g, hg', rfl⟩ := hms y hy
    have q8 : imm (fD g) = true := gd_imm hg'.gd
    have hx2 : ixN (M.set i.toNat (fD g)).length j = some j.toNat := by rw [List.length_set]; exact ixN_at j0 j1
    simp! only [Int.reduceEq, e, ey, q6, q8, toV_of q6, toV_of q8, hx, hx2]
    refine hX _ _ (fct_set (fct_set hms ⟨g, hg', rfl⟩) ⟨f, hf, rfl⟩) ?_
    rw [List.length_set, List.length_set]
    omega
  · simp! only [Int.reduceEq]
    refine take_spec (by omega) fun j ns3 j0 j1 => ?_
    simp! only [g2, q1, q5]
    refine pk fun r ns4 hr => ?_
    simp! only [true_and]
    have hi : imm (fD (b.1, r)) = true := gd_imm hr.gd
    refine ⟨by omega, ?_⟩
    rw [insertM_at (by omega) (by omega) hi (ds := M) (by omega)]
    simp! only [Int.reduceEq]
    refine hX _ _ (fct_ins hms ⟨_, hr, rfl⟩) ?_
    simp
    omega
  · simp! only [Int.reduceEq, g2, q1, q5]
    refine pk fun r ns4 hr => ?_
    simp! only [hx, Int.reduceEq]
    refine ⟨by omega, ?_⟩
    refine hX _ _ (fct_set hms ⟨_, hr, rfl⟩) ?_
    rw [List.length_set]
    omega
  · simp! only [Int.reduceEq, e, toV_of q6, q7]
    split
    · rename_i hpos
      have ht : (((f.2.length : Int) - 1).toNat) = f.2.length - 1 := by omega
      have hl := hf.ln
      rw [slT_to (by omega), ht]
      have hq : imm (.tuple (f.2.take (f.2.length - 1))) = true := gd_imm (gd_tup (n := 0) (by rw [List.length_take]; omega) fun x hx => hf.vl x (List.mem_of_mem_take hx))
      simp! only [toV_of hq]
      refine ⟨by omega, ?_⟩
      rw [addD_tup (by rw [List.length_take]; simp; omega)]
      simp! only [hx]
      refine ⟨by omega, ?_⟩
      have hf' : FV (f.1, f.2.take (f.2.length - 1) ++ [.str (Str.ofString "zzzzzz")]) := ⟨hf.nm, fun d hd => by
        rcases List.mem_append.mp hd with hd | hd
        · exact hf.vl d (List.mem_of_mem_take hd)
        · exact .inr ⟨_, List.mem_singleton.mp hd, ok_z6⟩, by
        simp only [List.length_append, List.length_take, List.length_cons, List.length_nil]
        omega⟩
      refine hX _ _ (fct_set hms ⟨_, hf', rfl⟩) ?_
      rw [List.length_set]
      omega
    · exact hX _ _ hms (by omega)
  · simp! only [Int.reduceEq]
    exact h gs ns2 hg (by omega)
  · simp! only [Int.reduceEq]
    refine pickT_spec (by rw [List.length_map]; omega) (immAll_FS hg) fun d ns3 hd2 => ?_
    obtain ⟨g, hg', rfl⟩ := List.mem_map.mp hd2
    simp! only [hx]
    refine hX _ _ (fct_set hms ⟨g, hg g hg', rfl⟩) ?_
    rw [List.length_set]
    omega
end Lw
end

section
set_option Elab.async false
set_option linter.all false
set_option maxRecDepth 100000
set_option maxHeartbeats 400000
namespace Lw
open PySem PySem.Spec PyProof.Rows L2 Vf
variable [Tabs]
local macro_rules | `(tactic| simp! only [$ls,*]) => `(tactic| simp -implicitDefEqProofs only [↓wp_var, ↓wp_c, ↓wp_op2, ↓wp_op1, ↓wp_aNil, ↓wp_aCons, ↓wp_cb, ↓wp_mut, ↓wp_mth, ↓wp_tup, ↓wp_lst, ↓wp_isi, ↓wp_isi2, ↓wp_bVal, ↓wp_bTru, ↓wp_bNot, ↓wp_bAnd, ↓wp_bOr, ↓wp_bYes, ↓wp_eIf, ↓wp_andV, ↓wp_orV, ↓wp_notV, ↓wp_oNone, ↓wp_oSome, ↓wp_sl, ↓wp_callC, ↓wp_sortK, ↓wp_zip, zp_t, ↓wp_rev, revT, revL, ↓wp_sMv, mvq_ow, ↓wp_idx, imT_t,  skv_l, ↓wp_allS, ↓wp_seq, sq_next, sq_ret, sq_brk, sq_cont, ↓wp_next, ↓wp_brk, ↓wp_cont, ↓wp_ret, ↓wp_retN, ↓wp_drop, ↓wp_sIf, ↓wp_sSet, ↓wp_sAsg, ↓wp_sSetIx, ↓wp_iter, ↓wp_range1, ↓wp_range2, ↓wp_forP, ↓wp_lcP, pr_mk, vr_im, vr_ow, vr_io, vr_bo, rdv_im, rdv_nw, rdv_sl, rsl_ow, rsl_io, rsl_bo, rdvs_nil, rdvs_cons, cons2_some, ims_nil, ims_cons, o2_some, oo_some, om_some, imS_str, blV_b, inV1_i, imV_im, itv_t, itv_s, itv_n, itv_l, itl_ow, itl_bo, rg1_i, rg2_i, toV_int, toV_bool, toV_str, toV_tuple, toV_none, toV_list,
  slotOf, setS_eq, sS_fre, fre_em, fre_im, fre_ow, fre_bo, getM_eq, gM_ow, gM_io, putL_eq, pL_ow, pL_io, putLs, rsV, slM, slB, arsOf, arOf_im, arOf_int, arOf_str, arOf_bool, arOf_none, arOf_tuple, arOf_nw, arOf_sl, arOf_m, arS_ow, arS_io, arS_bo, arM_ow, arM_io, resP_ret, resP_next, resOf_im, resOf_nw, resOf_sl, rso_ow, outsOf, initG, slotA, bor, unb, clr, rst, gtName, gtTup, gtCons, gtNil, outI_next, outI_cont, outI_brk, outI_ret,
  List.getElem?_cons_zero, List.getElem?_cons_succ, List.set_cons_zero, List.set_cons_succ, List.map_cons, List.map_nil, List.cons_append, List.nil_append, List.append_nil, List.length_cons, List.length_nil, List.replicate_succ, List.replicate_zero, Nat.sub_self, Nat.reduceAdd, Nat.reduceSub, Nat.reduceEqDiff, List.getElem?_nil, 
  eqD_int, neD_int, eqD_bool, neD_bool, addD_int, subD_int, ltD_int, leD_int, gtD_int, geD_int, intD_int, intD_bool, lenL, lenT, listD_l, listD_t, tupleD_l, tupleD_t, ixL_int, ixT_int, ixS_int, negD_int, truD_b, atI0, atI1, atI2, List.nodup_nil, List.nodup_cons, List.not_mem_nil, not_false_eq_true, false_imp_iff, implies_true, and_true, true_and, and_self, if_true, if_false, Bool.false_eq_true, reduceIte, List.mem_cons, or_false, false_or, forall_eq, forall_eq_or_imp, imm_int, imm_str, beq_iff_eq, bne_iff_ne, decide_eq_true_eq, Bool.not_eq_true', $ls,*])
local macro_rules | `(tactic| dsimp! only [$ls,*]) => `(tactic| simp -implicitDefEqProofs only [↓wp_sIfY, ↓wp_var, ↓wp_c, ↓wp_op2, ↓wp_op1, ↓wp_aNil, ↓wp_aCons, ↓wp_cb, ↓wp_mut, ↓wp_mth, ↓wp_tup, ↓wp_lst, ↓wp_isi, ↓wp_isi2, ↓wp_bVal, ↓wp_bTru, ↓wp_bNot, ↓wp_bAnd, ↓wp_bOr, ↓wp_bYes, ↓wp_eIf, ↓wp_andV, ↓wp_orV, ↓wp_notV, ↓wp_oNone, ↓wp_oSome, ↓wp_sl, ↓wp_callC, ↓wp_sortK, ↓wp_zip, zp_t, ↓wp_rev, revT, revL, ↓wp_sMv, mvq_ow, ↓wp_idx, imT_t,  skv_l, ↓wp_allS, ↓wp_seq, sq_next, sq_ret, sq_brk, sq_cont, ↓wp_next, ↓wp_brk, ↓wp_cont, ↓wp_ret, ↓wp_retN, ↓wp_drop, ↓wp_sSet, ↓wp_sAsg, ↓wp_sSetIx, ↓wp_iter, ↓wp_range1, ↓wp_range2, ↓wp_forP, ↓wp_lcP, pr_mk, vr_im, vr_ow, vr_io, vr_bo, rdv_im, rdv_nw, rdv_sl, rsl_ow, rsl_io, rsl_bo, rdvs_nil, rdvs_cons, cons2_some, ims_nil, ims_cons, o2_some, oo_some, om_some, imS_str, blV_b, inV1_i, imV_im, itv_t, itv_s, itv_n, itv_l, itl_ow, itl_bo, rg1_i, rg2_i, toV_int, toV_bool, toV_str, toV_tuple, toV_none, toV_list,
  slotOf, setS_eq, sS_fre, fre_em, fre_im, fre_ow, fre_bo, getM_eq, gM_ow, gM_io, putL_eq, pL_ow, pL_io, putLs, rsV, slM, slB, arsOf, arOf_im, arOf_int, arOf_str, arOf_bool, arOf_none, arOf_tuple, arOf_nw, arOf_sl, arOf_m, arS_ow, arS_io, arS_bo, arM_ow, arM_io, resP_ret, resP_next, resOf_im, resOf_nw, resOf_sl, rso_ow, outsOf, initG, slotA, bor, unb, clr, rst, gtName, gtTup, gtCons, gtNil, outI_next, outI_cont, outI_brk, outI_ret,
  List.getElem?_cons_zero, List.getElem?_cons_succ, List.set_cons_zero, List.set_cons_succ, List.map_cons, List.map_nil, List.cons_append, List.nil_append, List.append_nil, List.length_cons, List.length_nil, List.replicate_succ, List.replicate_zero, Nat.sub_self, Nat.reduceAdd, Nat.reduceSub, Nat.reduceEqDiff, List.getElem?_nil, 
  eqD_int, neD_int, eqD_bool, neD_bool, addD_int, subD_int, ltD_int, leD_int, gtD_int, geD_int, intD_int, intD_bool, lenL, lenT, listD_l, listD_t, tupleD_l, tupleD_t, ixL_int, ixT_int, ixS_int, negD_int, truD_b, atI0, atI1, atI2, List.nodup_nil, List.nodup_cons, List.not_mem_nil, not_false_eq_true, false_imp_iff, implies_true, and_true, true_and, and_self, if_true, if_false, Bool.false_eq_true, reduceIte, List.mem_cons, or_false, false_or, forall_eq, forall_eq_or_imp, imm_int, imm_str, beq_iff_eq, bne_iff_ne, decide_eq_true_eq, Bool.not_eq_true', $ls,*])
/-! mendings exchange -/
structure Md (bs : List Bk) (ms : List Fc) : Prop where
  ln : ms.length = bs.length
  at' : ∀ i (h1 : i < ms.length) (h2 : i < bs.length), ms[i] ∈ bfs bs[i]
theorem mtc_mem {f : Fc} {b : Bk} (hf : FV f) (hb : BV b) : mtc f b = true ↔ f ∈ bfs b := by
  unfold mtc
  rw [Bool.and_eq_true, any_gd (n := 1) hf.rg hb.rg, beq_iff_eq]
  constructor
  · rintro ⟨h1, h2⟩
    obtain ⟨r, hr, e⟩ := List.mem_map.mp h2
    refine List.mem_map.mpr ⟨r, hr, ?_⟩
    obtain ⟨a, q⟩ := f
    simp only [PyData.tuple.injEq] at e h1
    rw [h1, e]
  · intro h
    obtain ⟨r, hr, rfl⟩ := List.mem_map.mp h
    exact ⟨rfl, List.mem_map.mpr ⟨r, hr, rfl⟩⟩
theorem isM_Md {bs : List Bk} (hbv : ∀ b ∈ bs, BV b) {ms : List Fc} (hm : ∀ f ∈ ms, FV f) : isM bs ms = true ↔ Md bs ms := by
  unfold isM
  rw [Bool.and_eq_true, decide_eq_true_eq, List.all_eq_true]
  constructor
  · rintro ⟨h1, h2⟩
    refine ⟨h1, fun i i1 i2 => ?_⟩
    have := h2 (ms[i], bs[i]) (List.mem_iff_getElem.mpr ⟨i, by rw [List.length_zip]; omega, by simp⟩)
    exact (mtc_mem (hm _ (List.getElem_mem i1)) (hbv _ (List.getElem_mem i2))).mp this
  · rintro ⟨h1, h2⟩
    refine ⟨h1, fun p hp => ?_⟩
    obtain ⟨i, hi, e⟩ := List.mem_iff_getElem.mp hp
    rw [List.length_zip] at hi
    rw [List.getElem_zip] at e
    subst e
    exact (mtc_mem (hm _ (List.getElem_mem _)) (hbv _ (List.getElem_mem _))).mpr (h2 i (by omega) (by omega))
theorem Md.fv {bs : List Bk} (hbv : ∀ b ∈ bs, BV b) {ms : List Fc} (h : Md bs ms) : ∀ f ∈ ms, FV f := fun f hf => by
  obtain ⟨i, hi, rfl⟩ := List.mem_iff_getElem.mp hf
  have i2 : i < bs.length := by have := h.ln; omega
  obtain ⟨r, hr, e⟩ := List.mem_map.mp (h.at' i hi i2)
  rw [← e]
  exact (hbv _ (List.getElem_mem i2)).rw r hr
theorem Md.mem {l : List Tb} {gs : List Fc} (hw : Wd l gs) {ms : List Fc} (h : Md (bls l gs) ms) : ∀ f ∈ ms, f ∈ gs := fun f hf => by
  obtain ⟨i, hi, rfl⟩ := List.mem_iff_getElem.mp hf
  have i2 : i < (bls l gs).length := by have := h.ln; omega
  obtain ⟨r, hr, e⟩ := List.mem_map.mp (h.at' i hi i2)
  rw [← e]
  exact hw.bok.rows (List.getElem_mem i2) hr
theorem Md.place {l : List Tb} {gs : List Fc} (hw : Wd l gs) {ms : List Fc} (h : Md (bls l gs) ms) (i : Nat) (h1 : i < ms.length) (h2 : i < (bls l gs).length) : pk l ms[i] = bp (bls l gs)[i] :=
  (hw.bok.plc _ (List.getElem_mem h2)).2 _ (h.at' i h1 h2)
theorem Md.set {bs : List Bk} {ms go : List Fc} (h : Md bs ms) (hg : Md bs go) {j : Nat} (hj : j < go.length) : Md bs (ms.set j go[j]) := by
  refine ⟨by rw [List.length_set]; exact h.ln, fun i h1 h2 => ?_⟩
  rw [List.length_set] at h1
  rw [List.getElem_set]
  split
  · rename_i e
    subst e
    exact hg.at' _ hj h2
  · exact h.at' i h1 h2
def exch (l : List Tb) (ms : List Fc) (f : Fc) : List Fc := ms.map fun o => if PyData.eqv (pk l o) (pk l f) = true then f else o
theorem exch_set {l : List Tb} {gs : List Fc} (hw : Wd l gs) {ms go : List Fc} (h : Md (bls l gs) ms) (hg : Md (bls l gs) go) {j : Nat} (hj : j < go.length) : exch l ms go[j] = ms.set j go[j] := by
  have hbv := hw.bv
  have l1 := h.ln
  have l2 := hg.ln
  unfold exch
  refine List.ext_getElem (by simp) fun i i1 i2 => ?_
  rw [List.length_map] at i1
  rw [List.getElem_map, List.getElem_set]
  have e1 := Md.place hw h i i1 (by omega)
  have e2 := Md.place hw hg j hj (by omega)
  have v1 := pk_gd (l := l) (Md.fv hbv h _ (List.getElem_mem i1))
  have v2 := pk_gd (l := l) (Md.fv hbv hg _ (List.getElem_mem hj))
  have nd := hw.bok.nd
  by_cases c : j = i
  · subst c
    rw [if_pos rfl, if_pos]
    rw [eqv_gd v1 v2, e1, e2]
  · rw [if_neg c, if_neg]
    rw [eqv_gd v1 v2, e1, e2]
    intro e
    have b1 : i < ((bls l gs).map bp).length := by rw [List.length_map]; omega
    have b2 : j < ((bls l gs).map bp).length := by rw [List.length_map]; omega
    have := (List.getElem_inj (h₀ := b1) (h₁ := b2) nd).mp (by rw [List.getElem_map, List.getElem_map]; exact e)
    exact c this.symm
theorem exchanged_ok {l : List Tb} (hl : SOk l) {ms : List Fc} (hm : ∀ f ∈ ms, FOk l f) (hml : ms.length ≤ 1000) {f : Fc} (hf : FOk l f) {P : Rs → List (List PyData) → Prop} (h : P (.v (.tuple (FS (exch l ms f)))) []) : wpF D_exchanged [.v (.tuple (TS l)), .v (.tuple (FS ms)), .v (fD f)] P := by
  unfold D_exchanged
  refine wp_F rfl ?_
  unfold m_exchanged
  simp! only [true_and]
  refine place_of_ok hl hf ?_
  simp! only [true_and]
  refine lcI (fun i acc Γ => acc = FS (exch l (ms.take i) f) ∧ Γ = [.im (.tuple (TS l)), .im (.tuple (FS ms)), .im (fD f), .im (pk l f), .em]) ⟨rfl, rfl⟩ ?_ ?_
  · rintro i d acc Γ hi ⟨rfl, rfl⟩
    have hi' : i < (FS ms).length := (List.getElem?_eq_some_iff.mp hi).1
    simp at hi'
    have : d = fD ms[i] := by
      have := (List.getElem?_eq_some_iff.mp hi).2
      rw [← this]; simp
    subst this
    have ho := hm ms[i] (List.getElem_mem hi')
    have hlen : (FS (exch l (ms.take i) f)).length < 1000000 := by
      unfold exch
      rw [List.length_map, List.length_map, List.length_take]; omega
    have hst : ∀ x, (if PyData.eqv (pk l ms[i]) (pk l f) = true then f else ms[i]) = x → FS (exch l (ms.take i) f) ++ [fD x] = FS (exch l (ms.take (i + 1)) f) := fun x hx => by
      rw [take_snoc hi']
      unfold exch
      rw [List.map_append, List.map_cons, List.map_nil, hx]
      show _ = List.map fD (_ ++ _)
      rw [List.map_append]
      rfl
    generalize ms[i] = o at *
    have e2 := eqD_gd (n := 2) (by omega) (pk_gd (l := l) (ho.fv hl)) (pk_gd (l := l) (hf.fv hl))
    have q6 : imm (fD f) = true := gd_imm (hf.fv hl).gd
    have q7 : imm (fD o) = true := gd_imm (ho.fv hl).gd
    simp! only [true_and]
    refine place_of_ok hl ho ?_
    simp! only [e2]
    split
    · rename_i c
      refine ⟨hlen, hst f (if_pos c), rfl⟩
    · rename_i c
      refine ⟨hlen, hst o (if_neg c), rfl⟩
  rintro acc Γ ⟨rfl, rfl⟩
  simp! only [true_and]
  rw [List.length_map, List.take_length]
  exact h
/-! where two tuples differ -/
def pX (X Y : List PyData) (k : Nat) : Bool := !PyData.eqv (X.getD k .none) (Y.getD k .none)
def DL (X Y : List PyData) (i : Nat) : List PyData := ((List.range i).filter (pX X Y)).map fun k : Nat => PyData.int (k : Int)
theorem DL_succ {X Y : List PyData} {i : Nat} : DL X Y (i + 1) = if pX X Y i = true then DL X Y i ++ [.int (i : Int)] else DL X Y i := by
  unfold DL
  rw [List.range_succ, List.filter_append, List.map_append, List.filter_cons, List.filter_nil]
  split
  · rfl
  · rw [List.map_nil, List.append_nil]
theorem DL_le {X Y : List PyData} {i : Nat} : (DL X Y i).length ≤ i := by
  unfold DL
  rw [List.length_map]
  have := List.length_filter_le (pX X Y) (List.range i)
  rw [List.length_range] at this
  exact this
theorem DL_one {X Y : List PyData} {j : Nat} {c : Bool} (h : ∀ k, pX X Y k = (decide (k = j) && c)) : ∀ n, j < n → DL X Y n = if c = true then [.int (j : Int)] else []
  | 0, hn => by omega
  | n + 1, hn => by
    rw [DL_succ, h n]
    by_cases e : n = j
    · subst e
      have : DL X Y n = [] := by
        unfold DL
        rw [List.map_eq_nil_iff, List.filter_eq_nil_iff]
        intro k hk
        have := List.mem_range.mp hk
        rw [h k, decide_eq_false (by omega)]
        simp
      rw [this]
      cases c <;> simp
    · rw [DL_one h n (by omega), decide_eq_false e, Bool.false_and]
      simp
theorem DL_less {X Z Y : List PyData} {j : Nat} (h : ∀ k, pX Z Y k = (pX X Y k && !decide (k = j))) : ∀ n, (DL X Y n).length = (DL Z Y n).length + if j < n ∧ pX X Y j = true then 1 else 0
  | 0 => by simp [DL]
  | n + 1 => by
    have ih := DL_less h n
    rw [DL_succ, DL_succ, h n]
    by_cases e : n = j
    · subst e
      rw [if_neg (by omega)] at ih
      cases c : pX X Y n <;> simp [c, ih]
    · rw [decide_eq_false e, Bool.not_false, Bool.and_true]
      have : (j < n + 1 ∧ pX X Y j = true) ↔ (j < n ∧ pX X Y j = true) := by
        constructor
        · rintro ⟨a, b⟩; exact ⟨by omega, b⟩
        · rintro ⟨a, b⟩; exact ⟨by omega, b⟩
      simp only [this]
      cases c : pX X Y n <;> simp only [if_true, Bool.false_eq_true, if_false, List.length_append, List.length_cons, List.length_nil] <;> omega
end Lw
end

section
set_option Elab.async false
set_option linter.all false
set_option maxRecDepth 100000
set_option maxHeartbeats 400000
namespace Lw
open PySem PySem.Spec PyProof.Rows L2 Vf
variable [Tabs]
local macro_rules | `(tactic| simp! only [$ls,*]) => `(tactic| simp -implicitDefEqProofs only [↓wp_var, ↓wp_c, ↓wp_op2, ↓wp_op1, ↓wp_aNil, ↓wp_aCons, ↓wp_cb, ↓wp_mut, ↓wp_mth, ↓wp_tup, ↓wp_lst, ↓wp_isi, ↓wp_isi2, ↓wp_bVal, ↓wp_bTru, ↓wp_bNot, ↓wp_bAnd, ↓wp_bOr, ↓wp_bYes, ↓wp_eIf, ↓wp_andV, ↓wp_orV, ↓wp_notV, ↓wp_oNone, ↓wp_oSome, ↓wp_sl, ↓wp_callC, ↓wp_sortK, ↓wp_zip, zp_t, ↓wp_rev, revT, revL, ↓wp_sMv, mvq_ow, ↓wp_idx, imT_t,  skv_l, ↓wp_allS, ↓wp_seq, sq_next, sq_ret, sq_brk, sq_cont, ↓wp_next, ↓wp_brk, ↓wp_cont, ↓wp_ret, ↓wp_retN, ↓wp_drop, ↓wp_sIf, ↓wp_sSet, ↓wp_sAsg, ↓wp_sSetIx, ↓wp_iter, ↓wp_range1, ↓wp_range2, ↓wp_forP, ↓wp_lcP, pr_mk, vr_im, vr_ow, vr_io, vr_bo, rdv_im, rdv_nw, rdv_sl, rsl_ow, rsl_io, rsl_bo, rdvs_nil, rdvs_cons, cons2_some, ims_nil, ims_cons, o2_some, oo_some, om_some, imS_str, blV_b, inV1_i, imV_im, itv_t, itv_s, itv_n, itv_l, itl_ow, itl_bo, rg1_i, rg2_i, toV_int, toV_bool, toV_str, toV_tuple, toV_none, toV_list,
  slotOf, setS_eq, sS_fre, fre_em, fre_im, fre_ow, fre_bo, getM_eq, gM_ow, gM_io, putL_eq, pL_ow, pL_io, putLs, rsV, slM, slB, arsOf, arOf_im, arOf_int, arOf_str, arOf_bool, arOf_none, arOf_tuple, arOf_nw, arOf_sl, arOf_m, arS_ow, arS_io, arS_bo, arM_ow, arM_io, resP_ret, resP_next, resOf_im, resOf_nw, resOf_sl, rso_ow, outsOf, initG, slotA, bor, unb, clr, rst, gtName, gtTup, gtCons, gtNil, outI_next, outI_cont, outI_brk, outI_ret,
  List.getElem?_cons_zero, List.getElem?_cons_succ, List.set_cons_zero, List.set_cons_succ, List.map_cons, List.map_nil, List.cons_append, List.nil_append, List.append_nil, List.length_cons, List.length_nil, List.replicate_succ, List.replicate_zero, Nat.sub_self, Nat.reduceAdd, Nat.reduceSub, Nat.reduceEqDiff, List.getElem?_nil, 
  eqD_int, neD_int, eqD_bool, neD_bool, addD_int, subD_int, ltD_int, leD_int, gtD_int, geD_int, intD_int, intD_bool, lenL, lenT, listD_l, listD_t, tupleD_l, tupleD_t, ixL_int, ixT_int, ixS_int, negD_int, truD_b, atI0, atI1, atI2, List.nodup_nil, List.nodup_cons, List.not_mem_nil, not_false_eq_true, false_imp_iff, implies_true, and_true, true_and, and_self, if_true, if_false, Bool.false_eq_true, reduceIte, List.mem_cons, or_false, false_or, forall_eq, forall_eq_or_imp, imm_int, imm_str, beq_iff_eq, bne_iff_ne, decide_eq_true_eq, Bool.not_eq_true', $ls,*])
local macro_rules | `(tactic| dsimp! only [$ls,*]) => `(tactic| simp -implicitDefEqProofs only [↓wp_sIfY, ↓wp_var, ↓wp_c, ↓wp_op2, ↓wp_op1, ↓wp_aNil, ↓wp_aCons, ↓wp_cb, ↓wp_mut, ↓wp_mth, ↓wp_tup, ↓wp_lst, ↓wp_isi, ↓wp_isi2, ↓wp_bVal, ↓wp_bTru, ↓wp_bNot, ↓wp_bAnd, ↓wp_bOr, ↓wp_bYes, ↓wp_eIf, ↓wp_andV, ↓wp_orV, ↓wp_notV, ↓wp_oNone, ↓wp_oSome, ↓wp_sl, ↓wp_callC, ↓wp_sortK, ↓wp_zip, zp_t, ↓wp_rev, revT, revL, ↓wp_sMv, mvq_ow, ↓wp_idx, imT_t,  skv_l, ↓wp_allS, ↓wp_seq, sq_next, sq_ret, sq_brk, sq_cont, ↓wp_next, ↓wp_brk, ↓wp_cont, ↓wp_ret, ↓wp_retN, ↓wp_drop, ↓wp_sSet, ↓wp_sAsg, ↓wp_sSetIx, ↓wp_iter, ↓wp_range1, ↓wp_range2, ↓wp_forP, ↓wp_lcP, pr_mk, vr_im, vr_ow, vr_io, vr_bo, rdv_im, rdv_nw, rdv_sl, rsl_ow, rsl_io, rsl_bo, rdvs_nil, rdvs_cons, cons2_some, ims_nil, ims_cons, o2_some, oo_some, om_some, imS_str, blV_b, inV1_i, imV_im, itv_t, itv_s, itv_n, itv_l, itl_ow, itl_bo, rg1_i, rg2_i, toV_int, toV_bool, toV_str, toV_tuple, toV_none, toV_list,
  slotOf, setS_eq, sS_fre, fre_em, fre_im, fre_ow, fre_bo, getM_eq, gM_ow, gM_io, putL_eq, pL_ow, pL_io, putLs, rsV, slM, slB, arsOf, arOf_im, arOf_int, arOf_str, arOf_bool, arOf_none, arOf_tuple, arOf_nw, arOf_sl, arOf_m, arS_ow, arS_io, arS_bo, arM_ow, arM_io, resP_ret, resP_next, resOf_im, resOf_nw, resOf_sl, rso_ow, outsOf, initG, slotA, bor, unb, clr, rst, gtName, gtTup, gtCons, gtNil, outI_next, outI_cont, outI_brk, outI_ret,
  List.getElem?_cons_zero, List.getElem?_cons_succ, List.set_cons_zero, List.set_cons_succ, List.map_cons, List.map_nil, List.cons_append, List.nil_append, List.append_nil, List.length_cons, List.length_nil, List.replicate_succ, List.replicate_zero, Nat.sub_self, Nat.reduceAdd, Nat.reduceSub, Nat.reduceEqDiff, List.getElem?_nil, 
  eqD_int, neD_int, eqD_bool, neD_bool, addD_int, subD_int, ltD_int, leD_int, gtD_int, geD_int, intD_int, intD_bool, lenL, lenT, listD_l, listD_t, tupleD_l, tupleD_t, ixL_int, ixT_int, ixS_int, negD_int, truD_b, atI0, atI1, atI2, List.nodup_nil, List.nodup_cons, List.not_mem_nil, not_false_eq_true, false_imp_iff, implies_true, and_true, true_and, and_self, if_true, if_false, Bool.false_eq_true, reduceIte, List.mem_cons, or_false, false_or, forall_eq, forall_eq_or_imp, imm_int, imm_str, beq_iff_eq, bne_iff_ne, decide_eq_true_eq, Bool.not_eq_true', $ls,*])
/-! numbers of mendings -/
def dg (b : Bk) (f : Fc) : Nat := ((b.2.2.map PyData.tuple).findIdx? fun z => PyData.eqv z (.tuple f.2)).getD 0
theorem dg_ok {b : Bk} (hb : BV b) {f : Fc} (hf : f ∈ bfs b) : idxD (b.2.2.map PyData.tuple) (.tuple f.2) = some (dg b f) ∧ dg b f < b.2.2.length := by
  obtain ⟨r, hr, rfl⟩ := List.mem_map.mp hf
  have hv := hb.rw r hr
  have hl : PyData.canLayAll0 (b.2.2.map PyData.tuple) = true := lay_all fun d hd => (gd_lay (hb.rg d hd)).1
  have hs : SeqAt.shaped (.tuple r) = true := gd_shaped (n := 1) (by omega) hv.rg
  have hex : ∃ d ∈ b.2.2.map PyData.tuple, PyData.eqv d (.tuple r) = true := ⟨_, List.mem_map.mpr ⟨r, hr, rfl⟩, (eqv_gd hv.rg hv.rg).mpr rfl⟩
  unfold idxD dg
  rw [hl, hs]
  cases e : (b.2.2.map PyData.tuple).findIdx? fun z => PyData.eqv z (.tuple r) with
  | none =>
    obtain ⟨d, hd, hh⟩ := hex
    have := List.findIdx?_eq_none_iff.mp e d hd
    rw [hh] at this
    cases this
  | some j =>
    obtain ⟨hj, _⟩ := List.findIdx?_eq_some_iff_getElem.mp e
    rw [List.length_map] at hj
    exact ⟨rfl, hj⟩
def numZ : List Bk → List Fc → Int → Int
  | b :: bs, f :: fs, n => numZ bs fs (n * (b.2.2.length : Int) + (dg b f : Int))
  | _, _, n => n
theorem foldB (bs : List Bk) : ∀ c : Int, bs.foldl (fun a b => a * (b.2.2.length : Int)) c = c * prodB bs := by
  induction bs with
  | nil => intro c; simp [prodB]
  | cons b bs ih =>
    intro c
    unfold prodB
    rw [List.foldl_cons, List.foldl_cons, ih, ih, Int.one_mul, Int.mul_assoc]
theorem prodB_cons {b : Bk} {bs : List Bk} : prodB (b :: bs) = (b.2.2.length : Int) * prodB bs := by
  show (b :: bs).foldl _ 1 = _
  rw [List.foldl_cons, foldB, Int.one_mul]
theorem numZ_lin : ∀ (bs : List Bk) (ms : List Fc) (n : Int), ms.length = bs.length → numZ bs ms n = n * prodB bs + numZ bs ms 0
  | [], [], n, _ => by simp [numZ, prodB]
  | [], _ :: _, _, h => by simp at h
  | _ :: _, [], _, h => by simp at h
  | b :: bs, f :: ms, n, h => by
    have h : ms.length = bs.length := by simpa using h
    simp only [numZ]
    rw [numZ_lin bs ms _ h, numZ_lin bs ms (0 * _ + _) h, prodB_cons, Int.zero_mul, Int.zero_add, Int.add_mul, Int.mul_assoc]
    omega
theorem numZ_set : ∀ (bs : List Bk) (ms : List Fc) (n : Int) (j : Nat) (f : Fc) (hl : ms.length = bs.length) (hj : j < bs.length), numZ bs (ms.set j f) n = numZ bs ms n + ((dg bs[j] f : Int) - (dg bs[j] (ms[j]'(by omega)) : Int)) * prodB (bs.drop (j + 1))
  | [], _, _, _, _, _, h => by simp at h
  | _ :: _, [], _, _, _, h, _ => by simp at h
  | b :: bs, m :: ms, n, 0, f, h, _ => by
    have h : ms.length = bs.length := by simpa using h
    simp only [List.set_cons_zero, numZ, List.getElem_cons_zero, List.drop_succ_cons, List.drop_zero]
    rw [numZ_lin bs ms _ h, numZ_lin bs ms (n * _ + (dg b m : Int)) h, Int.add_mul, Int.add_mul, Int.sub_mul]
    omega
  | b :: bs, m :: ms, n, j + 1, f, h, hj => by
    simp only [List.set_cons_succ, numZ, List.getElem_cons_succ, List.drop_succ_cons]
    exact numZ_set bs ms _ j f (by simpa using h) (by simpa using hj)
theorem number_of_ok {l : List Tb} {gs : List Fc} (hw : Wd l gs) {ms : List Fc} (hM : Md (bls l gs) ms) {P : Rs → List (List PyData) → Prop} (h : P (.v (.int (numZ (bls l gs) ms 0))) []) : wpF D_number_of [.v (.tuple (TS l)), .v (.tuple (FS gs)), .v (.tuple (FS ms))] P := by
  unfold D_number_of
  refine wp_F rfl ?_
  unfold m_number_of
  have hbv := hw.bv
  have hmv := hM.fv hbv
  have hml := hM.ln
  have hat := hM.at'
  dsimp! only [true_and]
  refine blocks_ok hw ?_
  generalize bls l gs = bs at *
  dsimp! only [true_and]
  refine loopI (fun i Γ => ∃ (n : Int) (s4 s5 s6 : Vf.Slot), fre s4 ∧ fre s5 ∧ fre s6 ∧ numZ bs ms 0 = numZ (bs.drop i) (ms.drop i) n ∧ Γ = [.im (.tuple (TS l)), .im (.tuple (FS gs)), .im (.tuple (FS ms)), .im (.int n), s4, s5, s6]) ⟨0, .em, .em, .em, by simp! only [true_and], by simp! only [true_and], by simp! only [true_and], rfl, rfl⟩ ?_ ?_
  · rintro i d Γ hi ⟨n, s4, s5, s6, h4, h5, h6, hn, rfl⟩
    obtain ⟨x, y, e1, e2, rfl⟩ := zipD_get hi
    have i1 : i < ms.length := by have := (List.getElem?_eq_some_iff.mp e1).1; simpa using this
    have i2 : i < bs.length := by have := (List.getElem?_eq_some_iff.mp e2).1; simpa using this
    have x1 : x = fD ms[i] := by
      have := (List.getElem?_eq_some_iff.mp e1).2
      rw [← this]; simp
    have x2 : y = bD bs[i] := by
      have := (List.getElem?_eq_some_iff.mp e2).2
      rw [← this]; simp
    subst x1
    subst x2
    have hf := hat i i1 i2
    have f2 := hbv bs[i] (List.getElem_mem i2)
    have f1 := hmv ms[i] (List.getElem_mem i1)
    rw [List.drop_eq_getElem_cons i1, List.drop_eq_getElem_cons i2] at hn
    generalize ms[i] = f at *
    generalize bs[i] = b at *
    obtain ⟨d1, d2⟩ := dg_ok f2 hf
    have q1 : ixD (bD b) (.int 2) = some (.tuple (b.2.2.map PyData.tuple)) := atI2
    have q5 : imm (bD b) = true := bD_immV f2
    have q6 : imm (fD f) = true := gd_imm f1.gd
    have q7 : imm (.tuple f.2) = true := gd_imm f1.rg
    have q8 : imm (.tuple (b.2.2.map PyData.tuple)) = true := by
      have := immAll_of fun d hd => gd_imm (f2.rg d hd)
      simpa [imm] using this
    have e3 : mulD (.int n) (.int ((b.2.2.map PyData.tuple).length : Int)) = some (.int (n * ((b.2.2.map PyData.tuple).length : Int))) := mulD_r (by have := f2.ln; simp; omega)
    simp! only [h4, h5, h6, q1, q5, q6, q7, q8, d1, e3]
    refine ⟨_, .im (fD f), .im (bD b), .im (.tuple (b.2.2.map PyData.tuple)), fre_im.mpr trivial, fre_im.mpr trivial, fre_im.mpr trivial, ?_, rfl⟩
    rw [hn, List.length_map]
    rfl
  · rintro Γ ⟨n, s4, s5, s6, h4, h5, h6, hn, rfl⟩
    rw [zipD_len, List.length_map, List.length_map, hml, Nat.min_self] at hn
    rw [List.drop_length, List.drop_of_length_le (by omega)] at hn
    have hn : numZ bs ms 0 = n := hn
    simp! only [true_and]
    rw [← hn]
    exact h
theorem product_gen {bs : List Bk} (hbv : ∀ b ∈ bs, BV b) {P : Rs → List (List PyData) → Prop} (h : P (.v (.int (prodB bs))) []) : wpF D_law_product [.v (.tuple (BS bs))] P := by
  unfold D_law_product
  refine wp_F rfl ?_
  unfold m_law_product
  dsimp! only [true_and]
  refine loopI (fun i Γ => ∃ s3, fre s3 ∧ Γ = [.im (.tuple (BS bs)), .im (.int (prodB (bs.take i))), s3]) ⟨.em, by simp! only [true_and], rfl⟩ ?_ ?_
  · rintro i d Γ hi ⟨s3, h3, rfl⟩
    have hi' : i < (BS bs).length := (List.getElem?_eq_some_iff.mp hi).1
    simp at hi'
    have : d = bD bs[i] := by
      have := (List.getElem?_eq_some_iff.mp hi).2
      rw [← this]; simp
    subst this
    have hl := (hbv _ (List.getElem_mem hi')).ln
    rw [take_snoc hi', prodB_snoc]
    generalize bs[i] = b at *
    have e2 : ixD (bD b) (.int 2) = some (.tuple (b.2.2.map PyData.tuple)) := atI2
    simp! only [h3, e2, mulD_r (i := prodB (bs.take i)) (j := ((b.2.2.map PyData.tuple).length : Int)) (by simp; omega)]
    exact ⟨_, fre_im.mpr trivial, by rw [List.length_map]⟩
  · rintro Γ ⟨s3, h3, rfl⟩
    rw [List.length_map, List.take_length]
    simp! only [true_and]
    exact h
theorem slT_from {ds : List PyData} {v : Int} (h : 0 ≤ v) : slD (.tuple ds) (some v) none = some (.tuple (ds.drop v.toNat)) := by
  show some (PyData.tuple (cutL ds (some v) none)) = _
  rw [cut_from h]
end Lw
end

section
set_option Elab.async false
set_option linter.all false
set_option maxRecDepth 100000
set_option maxHeartbeats 400000
namespace Lw
open PySem PySem.Spec PyProof.Rows L2 Vf
variable [Tabs]
local macro_rules | `(tactic| simp! only [$ls,*]) => `(tactic| simp -implicitDefEqProofs only [↓wp_var, ↓wp_c, ↓wp_op2, ↓wp_op1, ↓wp_aNil, ↓wp_aCons, ↓wp_cb, ↓wp_mut, ↓wp_mth, ↓wp_tup, ↓wp_lst, ↓wp_isi, ↓wp_isi2, ↓wp_bVal, ↓wp_bTru, ↓wp_bNot, ↓wp_bAnd, ↓wp_bOr, ↓wp_bYes, ↓wp_eIf, ↓wp_andV, ↓wp_orV, ↓wp_notV, ↓wp_oNone, ↓wp_oSome, ↓wp_sl, ↓wp_callC, ↓wp_sortK, ↓wp_zip, zp_t, ↓wp_rev, revT, revL, ↓wp_sMv, mvq_ow, ↓wp_idx, imT_t,  skv_l, ↓wp_allS, ↓wp_seq, sq_next, sq_ret, sq_brk, sq_cont, ↓wp_next, ↓wp_brk, ↓wp_cont, ↓wp_ret, ↓wp_retN, ↓wp_drop, ↓wp_sIf, ↓wp_sSet, ↓wp_sAsg, ↓wp_sSetIx, ↓wp_iter, ↓wp_range1, ↓wp_range2, ↓wp_forP, ↓wp_lcP, pr_mk, vr_im, vr_ow, vr_io, vr_bo, rdv_im, rdv_nw, rdv_sl, rsl_ow, rsl_io, rsl_bo, rdvs_nil, rdvs_cons, cons2_some, ims_nil, ims_cons, o2_some, oo_some, om_some, imS_str, blV_b, inV1_i, imV_im, itv_t, itv_s, itv_n, itv_l, itl_ow, itl_bo, rg1_i, rg2_i, toV_int, toV_bool, toV_str, toV_tuple, toV_none, toV_list,
  slotOf, setS_eq, sS_fre, fre_em, fre_im, fre_ow, fre_bo, getM_eq, gM_ow, gM_io, putL_eq, pL_ow, pL_io, putLs, rsV, slM, slB, arsOf, arOf_im, arOf_int, arOf_str, arOf_bool, arOf_none, arOf_tuple, arOf_nw, arOf_sl, arOf_m, arS_ow, arS_io, arS_bo, arM_ow, arM_io, resP_ret, resP_next, resOf_im, resOf_nw, resOf_sl, rso_ow, outsOf, initG, slotA, bor, unb, clr, rst, gtName, gtTup, gtCons, gtNil, outI_next, outI_cont, outI_brk, outI_ret,
  List.getElem?_cons_zero, List.getElem?_cons_succ, List.set_cons_zero, List.set_cons_succ, List.map_cons, List.map_nil, List.cons_append, List.nil_append, List.append_nil, List.length_cons, List.length_nil, List.replicate_succ, List.replicate_zero, Nat.sub_self, Nat.reduceAdd, Nat.reduceSub, Nat.reduceEqDiff, List.getElem?_nil, 
  eqD_int, neD_int, eqD_bool, neD_bool, addD_int, subD_int, ltD_int, leD_int, gtD_int, geD_int, intD_int, intD_bool, lenL, lenT, listD_l, listD_t, tupleD_l, tupleD_t, ixL_int, ixT_int, ixS_int, negD_int, truD_b, atI0, atI1, atI2, List.nodup_nil, List.nodup_cons, List.not_mem_nil, not_false_eq_true, false_imp_iff, implies_true, and_true, true_and, and_self, if_true, if_false, Bool.false_eq_true, reduceIte, List.mem_cons, or_false, false_or, forall_eq, forall_eq_or_imp, imm_int, imm_str, beq_iff_eq, bne_iff_ne, decide_eq_true_eq, Bool.not_eq_true', $ls,*])
local macro_rules | `(tactic| dsimp! only [$ls,*]) => `(tactic| simp -implicitDefEqProofs only [↓wp_sIfY, ↓wp_var, ↓wp_c, ↓wp_op2, ↓wp_op1, ↓wp_aNil, ↓wp_aCons, ↓wp_cb, ↓wp_mut, ↓wp_mth, ↓wp_tup, ↓wp_lst, ↓wp_isi, ↓wp_isi2, ↓wp_bVal, ↓wp_bTru, ↓wp_bNot, ↓wp_bAnd, ↓wp_bOr, ↓wp_bYes, ↓wp_eIf, ↓wp_andV, ↓wp_orV, ↓wp_notV, ↓wp_oNone, ↓wp_oSome, ↓wp_sl, ↓wp_callC, ↓wp_sortK, ↓wp_zip, zp_t, ↓wp_rev, revT, revL, ↓wp_sMv, mvq_ow, ↓wp_idx, imT_t,  skv_l, ↓wp_allS, ↓wp_seq, sq_next, sq_ret, sq_brk, sq_cont, ↓wp_next, ↓wp_brk, ↓wp_cont, ↓wp_ret, ↓wp_retN, ↓wp_drop, ↓wp_sSet, ↓wp_sAsg, ↓wp_sSetIx, ↓wp_iter, ↓wp_range1, ↓wp_range2, ↓wp_forP, ↓wp_lcP, pr_mk, vr_im, vr_ow, vr_io, vr_bo, rdv_im, rdv_nw, rdv_sl, rsl_ow, rsl_io, rsl_bo, rdvs_nil, rdvs_cons, cons2_some, ims_nil, ims_cons, o2_some, oo_some, om_some, imS_str, blV_b, inV1_i, imV_im, itv_t, itv_s, itv_n, itv_l, itl_ow, itl_bo, rg1_i, rg2_i, toV_int, toV_bool, toV_str, toV_tuple, toV_none, toV_list,
  slotOf, setS_eq, sS_fre, fre_em, fre_im, fre_ow, fre_bo, getM_eq, gM_ow, gM_io, putL_eq, pL_ow, pL_io, putLs, rsV, slM, slB, arsOf, arOf_im, arOf_int, arOf_str, arOf_bool, arOf_none, arOf_tuple, arOf_nw, arOf_sl, arOf_m, arS_ow, arS_io, arS_bo, arM_ow, arM_io, resP_ret, resP_next, resOf_im, resOf_nw, resOf_sl, rso_ow, outsOf, initG, slotA, bor, unb, clr, rst, gtName, gtTup, gtCons, gtNil, outI_next, outI_cont, outI_brk, outI_ret,
  List.getElem?_cons_zero, List.getElem?_cons_succ, List.set_cons_zero, List.set_cons_succ, List.map_cons, List.map_nil, List.cons_append, List.nil_append, List.append_nil, List.length_cons, List.length_nil, List.replicate_succ, List.replicate_zero, Nat.sub_self, Nat.reduceAdd, Nat.reduceSub, Nat.reduceEqDiff, List.getElem?_nil, 
  eqD_int, neD_int, eqD_bool, neD_bool, addD_int, subD_int, ltD_int, leD_int, gtD_int, geD_int, intD_int, intD_bool, lenL, lenT, listD_l, listD_t, tupleD_l, tupleD_t, ixL_int, ixT_int, ixS_int, negD_int, truD_b, atI0, atI1, atI2, List.nodup_nil, List.nodup_cons, List.not_mem_nil, not_false_eq_true, false_imp_iff, implies_true, and_true, true_and, and_self, if_true, if_false, Bool.false_eq_true, reduceIte, List.mem_cons, or_false, false_or, forall_eq, forall_eq_or_imp, imm_int, imm_str, beq_iff_eq, bne_iff_ne, decide_eq_true_eq, Bool.not_eq_true', $ls,*])
theorem snocI {α : Type} {P : List α → Prop} (h0 : P []) (h1 : ∀ l a, P l → P (l ++ [a])) (l : List α) : P l := by
  have : ∀ r : List α, P r.reverse := fun r => by
    induction r with
    | nil => exact h0
    | cons a r ih => rw [List.reverse_cons]; exact h1 _ _ ih
  have h := this l.reverse
  rw [List.reverse_reverse] at h
  exact h
/-! mendings by number -/
def goM : List Bk → Nat → Nat × List Fc
  | [], n => (n, [])
  | b :: rs, n => let r := goM rs (n / b.2.2.length); (r.1, (b.1, b.2.2.getD (n % b.2.2.length) []) :: r.2)
def stM (acc : List (List Fc)) (b : Bk) : List (List Fc) := acc.flatMap fun m => b.2.2.map fun r => m ++ [(b.1, r)]
def ML (bs : List Bk) : List (List Fc) := bs.foldl stM [[]]
def prodN (bs : List Bk) : Nat := bs.foldl (fun a b => a * b.2.2.length) 1
theorem prodN_snoc {bs : List Bk} {b : Bk} : prodN (bs ++ [b]) = prodN bs * b.2.2.length := by
  unfold prodN
  rw [List.foldl_append]
  rfl
theorem ML_snoc {bs : List Bk} {b : Bk} : ML (bs ++ [b]) = stM (ML bs) b := by
  unfold ML
  rw [List.foldl_append]
  rfl
theorem fm_len {α β : Type} {f : α → List β} {k : Nat} (hk : ∀ x, (f x).length = k) : ∀ xs : List α, (xs.flatMap f).length = xs.length * k
  | [] => by simp
  | x :: xs => by rw [List.flatMap_cons, List.length_append, hk, fm_len hk xs, List.length_cons, Nat.succ_mul]; omega
theorem fm_get {α β : Type} {f : α → List β} {k : Nat} (hk : ∀ x, (f x).length = k) (h0 : 0 < k) : ∀ (xs : List α) (n : Nat), (xs.flatMap f)[n]? = xs[n / k]?.bind fun x => (f x)[n % k]?
  | [], n => by simp
  | x :: xs, n => by
    rw [List.flatMap_cons]
    by_cases c : n < k
    · rw [List.getElem?_append_left (by rw [hk]; exact c), Nat.div_eq_of_lt c, Nat.mod_eq_of_lt c]
      rfl
    · obtain ⟨m, rfl⟩ : ∃ m, n = m + k := ⟨n - k, by omega⟩
      rw [List.getElem?_append_right (by rw [hk]; omega), hk, Nat.add_sub_cancel, fm_get hk h0 xs m, Nat.add_div_right m h0, Nat.add_mod_right]
      rfl
theorem prodN_pos {bs : List Bk} (h : ∀ b ∈ bs, b.2.2 ≠ []) : 0 < prodN bs := by
  refine snocI (P := fun bs => (∀ b ∈ bs, b.2.2 ≠ []) → 0 < prodN bs) ?_ (fun bs b ih => ?_) bs h
  · exact fun _ => Nat.one_pos
  · intro h
    rw [prodN_snoc]
    exact Nat.mul_pos (ih fun x hx => h x (by simp [hx])) (List.length_pos_iff.mpr (h b (by simp)))
theorem ML_len (bs : List Bk) : (ML bs).length = prodN bs := by
  refine snocI (P := fun bs => (ML bs).length = prodN bs) ?_ (fun bs b ih => ?_) bs
  · rfl
  · rw [ML_snoc, prodN_snoc, ← ih]
    exact fm_len (fun m => List.length_map _) _
theorem goM_ok {bs : List Bk} (h : ∀ b ∈ bs, b.2.2 ≠ []) : ∀ n, (goM bs.reverse n).1 = n / prodN bs ∧ (n < prodN bs → (ML bs)[n]? = some (goM bs.reverse n).2.reverse) := by
  refine snocI (P := fun bs => (∀ b ∈ bs, b.2.2 ≠ []) → ∀ n, (goM bs.reverse n).1 = n / prodN bs ∧ (n < prodN bs → (ML bs)[n]? = some (goM bs.reverse n).2.reverse)) ?_ (fun bs b ih => ?_) bs h
  · intro _ n
    refine ⟨by simp [goM, prodN], fun hn => ?_⟩
    have : n = 0 := by simpa [prodN] using hn
    subst this
    rfl
  · intro h n
    have ih := ih (fun x hx => h x (by simp [hx])) (n / b.2.2.length)
    have h0 : 0 < b.2.2.length := List.length_pos_iff.mpr (h b (by simp))
    rw [List.reverse_append, List.reverse_singleton, List.singleton_append]
    show (goM bs.reverse (n / b.2.2.length)).1 = _ ∧ (_ → _ = some ((b.1, b.2.2.getD (n % b.2.2.length) []) :: (goM bs.reverse (n / b.2.2.length)).2).reverse)
    rw [prodN_snoc]
    refine ⟨by rw [ih.1, Nat.div_div_eq_div_mul, Nat.mul_comm], fun hn => ?_⟩
    have hq : n / b.2.2.length < prodN bs := Nat.div_lt_of_lt_mul (by rw [Nat.mul_comm]; exact hn)
    have hm : n % b.2.2.length < b.2.2.length := Nat.mod_lt _ h0
    rw [ML_snoc]
    unfold stM
    rw [fm_get (fun m => List.length_map _) h0, ih.2 hq, List.reverse_cons]
    simp [hm]
theorem divmod_N {a b : Nat} (h : 0 < b) (hb : b ≤ 1000) : divmodD [.int (a : Int), .int (b : Int)] = some (.tuple [.int ((a / b : Nat) : Int), .int ((a % b : Nat) : Int)]) := by
  rw [divmodD_ok (by omega)]
  rw [Int.natCast_ediv, Int.natCast_emod]
theorem mending_at_ok {l : List Tb} {gs : List Fc} (hw : Wd l gs) {n : Int} {P : Rs → List (List PyData) → Prop} (h1 : n < 0 → P (.v .none) []) (h2 : 0 ≤ n → prodN (bls l gs) ≤ n.toNat → P (.v .none) []) (h3 : 0 ≤ n → n.toNat < prodN (bls l gs) → ∀ m, (ML (bls l gs))[n.toNat]? = some m → P (.v (.tuple (FS m))) []) : wpF D_mending_at [.v (.tuple (TS l)), .v (.tuple (FS gs)), .v (.int n)] P := by
  unfold D_mending_at
  refine wp_F rfl ?_
  unfold m_mending_at
  have hbv := hw.bv
  dsimp! only [true_and]
  rw [wpY_eq, wp_sIf]
  dsimp! only [true_and]
  by_cases hn : n < 0
  · rw [if_pos hn]
    exact h1 hn
  rw [if_neg hn]
  refine ⟨by omega, ?_⟩
  refine blocks_ok hw ?_
  have hbl : (bls l gs).length ≤ 200 := by
    have := hw.bok.len2
    have := hw.ln
    omega
  have hne : ∀ b ∈ bls l gs, b.2.2 ≠ [] := fun b hb => (hbv b hb).ne
  obtain ⟨o1, o2⟩ := goM_ok hne n.toNat
  have hpp := prodN_pos hne
  obtain ⟨N, rfl⟩ : ∃ N : Nat, n = (N : Int) := ⟨n.toNat, by omega⟩
  simp only [Int.toNat_natCast] at h2 h3 o1 o2
  generalize bls l gs = bs at *
  have er : (BS bs).reverse = BS bs.reverse := List.map_reverse.symm
  have hbv : ∀ b ∈ bs.reverse, BV b := fun b hb => hbv b (List.mem_reverse.mp hb)
  have hrl : bs.reverse.length ≤ 200 := by rw [List.length_reverse]; exact hbl
  dsimp! only [er]
  generalize bs.reverse = rs at *
  refine loopI (fun i Γ => ∃ (L : Nat) (F : List Fc) (s5 s6 s7 s8 : Vf.Slot), fre s5 ∧ fre s6 ∧ fre s7 ∧ fre s8 ∧ goM rs N = ((goM (rs.drop i) L).1, F ++ (goM (rs.drop i) L).2) ∧ F.length = i ∧ Γ = [.im (.tuple (TS l)), .im (.tuple (FS gs)), .im (.int (N : Int)), .im (.int (L : Int)), .ow (FS F), s5, s6, s7, s8]) ⟨N, [], .em, .em, .em, .em, by simp! only [true_and], by simp! only [true_and], by simp! only [true_and], by simp! only [true_and], rfl, rfl, rfl⟩ ?_ ?_
  · rintro i d Γ hi ⟨L, F, s5, s6, s7, s8, h5, h6, h7, h8, hg, hF, rfl⟩
    have hi' : i < (BS rs).length := (List.getElem?_eq_some_iff.mp hi).1
    rw [List.length_map] at hi'
    have : d = bD rs[i] := by
      have := (List.getElem?_eq_some_iff.mp hi).2
      rw [← this]; simp
    subst this
    have hb := hbv rs[i] (List.getElem_mem hi')
    rw [List.drop_eq_getElem_cons hi'] at hg
    generalize rs[i] = b at *
    have k0 : 0 < b.2.2.length := List.length_pos_iff.mpr hb.ne
    have e1 : divmodD [.int (L : Int), .int ((b.2.2.map PyData.tuple).length : Int)] = some (.tuple [.int ((L / b.2.2.length : Nat) : Int), .int ((L % b.2.2.length : Nat) : Int)]) := by
      rw [List.length_map]
      exact divmod_N k0 hb.ln
    have hm : L % b.2.2.length < b.2.2.length := Nat.mod_lt _ k0
    have e2 : atI (b.2.2.map PyData.tuple) ((L % b.2.2.length : Nat) : Int) = some (.tuple (b.2.2.getD (L % b.2.2.length) [])) := by
      rw [L2.atI_nat (v := .tuple b.2.2[L % b.2.2.length]) (by simp [hm])]
      simp [hm]
    have hr : FV (b.1, b.2.2.getD (L % b.2.2.length) []) := by
      have : b.2.2.getD (L % b.2.2.length) [] = b.2.2[L % b.2.2.length] := by simp [hm]
      rw [this]
      exact hb.rw _ (List.getElem_mem hm)
    have q1 : imm (.tuple (b.2.2.map PyData.tuple)) = true := by
      have := immAll_of fun d hd => gd_imm (hb.rg d hd)
      simpa [imm] using this
    have q2 : imm (.tuple b.2.1) = true := by
      have := immAll_of fun d hd => (hb.ky d hd).imm
      simpa [imm] using this
    have q3 : imm (fD (b.1, b.2.2.getD (L % b.2.2.length) [])) = true := gd_imm hr.gd
    simp! only [h5, h6, h7, h8, q1, q2, e1, e2]
    refine ⟨by omega, ?_⟩
    rw [appendM_ok q3 (by simp; omega)]
    simp! only [true_and]
    exact ⟨L / b.2.2.length, F ++ [(b.1, b.2.2.getD (L % b.2.2.length) [])], .im (.str b.1), .im (.tuple b.2.1), .im (.tuple (b.2.2.map PyData.tuple)), .im (.int ((L % b.2.2.length : Nat) : Int)), fre_im.mpr trivial, fre_im.mpr trivial, fre_im.mpr trivial, fre_im.mpr trivial, by rw [hg]; simp [goM], by simp [hF], by simp only [List.map_append, List.map_cons, List.map_nil]⟩
  · rintro Γ ⟨L, F, s5, s6, s7, s8, h5, h6, h7, h8, hg, hF, rfl⟩
    rw [List.length_map, List.drop_length] at hg
    have hg : goM rs N = (L, F) := by
      rw [hg]
      simp [goM]
    rw [hg] at o1 o2
    have eF : (FS F).reverse = FS F.reverse := List.map_reverse.symm
    simp! only [eF]
    split
    · rename_i hL
      refine h2 (by omega) ?_
      have : 0 < N / prodN bs := by
        have : L = N / prodN bs := o1
        omega
      exact Nat.le_of_lt_succ (Nat.lt_succ_of_le ((Nat.div_pos_iff.mp this).2))
    · rename_i hL
      have o1 : L = N / prodN bs := o1
      have hlt : N < prodN bs := by
        have : N / prodN bs = 0 := by omega
        rcases Nat.div_eq_zero_iff.mp this with h | h
        · omega
        · exact h
      exact h3 (by omega) hlt _ (o2 hlt)
theorem fct_FM {bs : List Bk} (hbv : ∀ b ∈ bs, BV b) : ∀ m ∈ ML bs, m.length = bs.length ∧ ∀ f ∈ m, FV f := by
  refine snocI (P := fun bs => (∀ b ∈ bs, BV b) → ∀ m ∈ ML bs, m.length = bs.length ∧ ∀ f ∈ m, FV f) ?_ (fun bs b ih => ?_) bs hbv
  · intro _ m hm
    have : m = [] := by simpa [ML] using hm
    subst this
    simp
  · intro h m hm
    rw [ML_snoc] at hm
    obtain ⟨m0, h0, h1⟩ := List.mem_flatMap.mp hm
    obtain ⟨r, hr, rfl⟩ := List.mem_map.mp h1
    obtain ⟨a1, a2⟩ := ih (fun x hx => h x (by simp [hx])) m0 h0
    refine ⟨by simp [a1], fun f hf => ?_⟩
    rcases List.mem_append.mp hf with hf | hf
    · exact a2 f hf
    · rw [List.mem_singleton.mp hf]
      exact (h b (by simp)).rw r hr
theorem prodN_le {bs : List Bk} (h : ∀ b ∈ bs, b.2.2 ≠ []) : ∀ i, prodN (bs.take i) ≤ prodN bs := by
  refine snocI (P := fun bs => (∀ b ∈ bs, b.2.2 ≠ []) → ∀ i, prodN (bs.take i) ≤ prodN bs) ?_ (fun bs b ih => ?_) bs h
  · intro _ i
    rw [List.take_nil]
    exact Nat.le_refl _
  · intro h i
    have ih := ih fun x hx => h x (by simp [hx])
    have h0 : 0 < b.2.2.length := List.length_pos_iff.mpr (h b (by simp))
    by_cases c : i ≤ bs.length
    · rw [List.take_append_of_le_length c, prodN_snoc]
      exact Nat.le_trans (ih i) (Nat.le_mul_of_pos_right _ h0)
    · rw [List.take_of_length_le (by simp; omega)]
      exact Nat.le_refl _

theorem prodB_N (bs : List Bk) : prodB bs = (prodN bs : Int) := by
  refine snocI (P := fun bs => prodB bs = (prodN bs : Int)) ?_ (fun bs b ih => ?_) bs
  · rfl
  · rw [prodB_snoc, prodN_snoc, ih, Int.natCast_mul]
theorem numZ_snoc : ∀ (bs : List Bk) (ms : List Fc) (n : Int) (b : Bk) (f : Fc), ms.length = bs.length → numZ (bs ++ [b]) (ms ++ [f]) n = numZ bs ms n * (b.2.2.length : Int) + (dg b f : Int)
  | [], [], _, _, _, _ => rfl
  | [], _ :: _, _, _, _, h => by simp at h
  | _ :: _, [], _, _, _, h => by simp at h
  | c :: bs, g :: ms, n, b, f, h => by
    show numZ (bs ++ [b]) (ms ++ [f]) _ = _
    exact numZ_snoc bs ms _ b f (by simpa using h)
theorem bfs_sub : ∀ {acc : List Bk} {b : Bk}, b ∈ acc → (bfs b).Sublist (acc.flatMap bfs)
  | a :: acc, b, h => by
    rw [List.flatMap_cons]
    rcases List.mem_cons.mp h with rfl | h
    · exact List.sublist_append_left _ _
    · exact (bfs_sub h).trans (List.sublist_append_right _ _)
theorem rows_nd {l : List Tb} {gs : List Fc} (hw : Wd l gs) {b : Bk} (hb : b ∈ bls l gs) : b.2.2.Nodup := by
  have h1 := bfs_sub hb
  rw [hw.bok.flat] at h1
  have h2 : (bfs b).Nodup := hw.nd.sublist h1
  have h3 : (b.2.2.map fun r => (b.1, r)).Pairwise (· ≠ ·) := h2
  rw [List.pairwise_map] at h3
  exact h3.imp fun {x y} h e => h (by rw [e])
theorem dg_at {b : Bk} (hb : BV b) (hn : b.2.2.Nodup) {i : Nat} (hi : i < b.2.2.length) : dg b (b.1, b.2.2[i]) = i := by
  have hv := hb.rw _ (List.getElem_mem hi)
  obtain ⟨e, hl⟩ := dg_ok hb (f := (b.1, b.2.2[i])) (List.mem_map.mpr ⟨_, List.getElem_mem hi, rfl⟩)
  unfold idxD at e
  split at e
  · obtain ⟨hj, h1, _⟩ := List.findIdx?_eq_some_iff_getElem.mp e
    rw [List.getElem_map] at h1
    have h1 := (eqv_gd (n := 1) (hb.rw _ (List.getElem_mem hl)).rg hv.rg).mp h1
    have h1 : b.2.2[dg b (b.1, b.2.2[i])] = b.2.2[i] := by simpa using h1
    exact (List.getElem_inj (h₀ := hl) (h₁ := hi) hn).mp h1
  · cases e
theorem ML_num {bs : List Bk} (hbv : ∀ b ∈ bs, BV b) (hnd : ∀ b ∈ bs, b.2.2.Nodup) : ∀ (N : Nat) (m : List Fc), (ML bs)[N]? = some m → m.length = bs.length ∧ numZ bs m 0 = (N : Int) := by
  refine snocI (P := fun bs => (∀ b ∈ bs, BV b) → (∀ b ∈ bs, b.2.2.Nodup) → ∀ (N : Nat) (m : List Fc), (ML bs)[N]? = some m → m.length = bs.length ∧ numZ bs m 0 = (N : Int)) ?_ (fun bs b ih => ?_) bs hbv hnd
  · intro _ _ N m h
    have h : ([[]] : List (List Fc))[N]? = some m := h
    cases N with
    | zero =>
      have : m = [] := by simpa using h.symm
      subst this
      exact ⟨rfl, rfl⟩
    | succ N => simp at h
  · intro h1 h2 N m h
    have hb := h1 b (by simp)
    have h0 : 0 < b.2.2.length := List.length_pos_iff.mpr hb.ne
    rw [ML_snoc] at h
    unfold stM at h
    rw [fm_get (fun m => List.length_map _) h0] at h
    obtain ⟨m0, e0, h⟩ := Option.bind_eq_some_iff.mp h
    obtain ⟨l0, n0⟩ := ih (fun x hx => h1 x (by simp [hx])) (fun x hx => h2 x (by simp [hx])) _ m0 e0
    have hm : N % b.2.2.length < b.2.2.length := Nat.mod_lt _ h0
    rw [List.getElem?_map, List.getElem?_eq_getElem hm] at h
    have h : m0 ++ [(b.1, b.2.2[N % b.2.2.length])] = m := by simpa using h
    subst h
    refine ⟨by simp [l0], ?_⟩
    rw [numZ_snoc bs m0 0 b _ l0, n0, dg_at hb (h2 b (by simp)) hm]
    have := Nat.div_add_mod N b.2.2.length
    rw [← Int.natCast_mul, ← Int.natCast_add]
    congr 1
    rw [Nat.mul_comm]
    exact this
theorem Md_ML {bs : List Bk} : ∀ {ms : List Fc}, Md bs ms → ms ∈ ML bs := by
  refine snocI (P := fun bs => ∀ {ms : List Fc}, Md bs ms → ms ∈ ML bs) ?_ (fun bs b ih => ?_) bs
  · intro ms h
    have : ms = [] := List.length_eq_zero_iff.mp h.ln
    subst this
    exact List.mem_singleton.mpr rfl
  · intro ms h
    have hl := h.ln
    rw [List.length_append, List.length_singleton] at hl
    have hk : bs.length < ms.length := by omega
    have hb := h.at' bs.length hk (by simp)
    rw [List.getElem_append_right (Nat.le_refl _)] at hb
    simp only [Nat.sub_self, List.getElem_singleton] at hb
    have h0 : Md bs (ms.take bs.length) := ⟨by rw [List.length_take]; omega, fun i h1 h2 => by
      rw [List.getElem_take]
      have := h.at' i (by omega) (by simp; omega)
      rw [List.getElem_append_left h2] at this
      exact this⟩
    have e : ms = ms.take bs.length ++ [ms[bs.length]] := by
      rw [← List.take_succ_eq_append_getElem hk, List.take_of_length_le (by omega)]
    rw [ML_snoc]
    unfold stM
    obtain ⟨r, hr, er⟩ := List.mem_map.mp hb
    refine List.mem_flatMap.mpr ⟨_, ih h0, List.mem_map.mpr ⟨r, hr, ?_⟩⟩
    rw [er]
    exact e.symm
theorem ML_at {bs : List Bk} (hbv : ∀ b ∈ bs, BV b) (hnd : ∀ b ∈ bs, b.2.2.Nodup) {ms : List Fc} (h : Md bs ms) : ∃ N : Nat, numZ bs ms 0 = (N : Int) ∧ N < prodN bs ∧ (ML bs)[N]? = some ms := by
  obtain ⟨N, hN, e⟩ := List.mem_iff_getElem.mp (Md_ML h)
  have e2 : (ML bs)[N]? = some ms := by rw [List.getElem?_eq_getElem hN, e]
  exact ⟨N, (ML_num hbv hnd N ms e2).2, by rw [← ML_len]; exact hN, e2⟩
theorem ML_Md {bs : List Bk} : ∀ m ∈ ML bs, Md bs m := by
  refine snocI (P := fun bs => ∀ m ∈ ML bs, Md bs m) ?_ (fun bs b ih => ?_) bs
  · intro m hm
    have : m = [] := by simpa [ML] using hm
    subst this
    exact ⟨rfl, fun i h => by simp at h⟩
  · intro m hm
    rw [ML_snoc] at hm
    obtain ⟨m0, h0, h1⟩ := List.mem_flatMap.mp hm
    obtain ⟨r, hr, rfl⟩ := List.mem_map.mp h1
    have hM := ih m0 h0
    have hl := hM.ln
    refine ⟨by simp [hl], fun i i1 i2 => ?_⟩
    by_cases c : i < bs.length
    · rw [List.getElem_append_left (as := m0) (show i < m0.length by omega), List.getElem_append_left (as := bs) c]
      exact hM.at' i (by omega) c
    · have : i = bs.length := by simp at i2; omega
      subst this
      rw [List.getElem_append_right (as := m0) (show m0.length ≤ bs.length by omega), List.getElem_append_right (as := bs) (Nat.le_refl _)]
      simp only [hl, Nat.sub_self, List.getElem_singleton]
      exact List.mem_map.mpr ⟨r, hr, rfl⟩
end Lw
end

section
set_option Elab.async false
set_option linter.all false
set_option maxRecDepth 100000
set_option maxHeartbeats 4000000
namespace Lw
open PySem PySem.Spec PyProof.Rows L2 Vf
/-! ### mirrors -/
abbrev NN_value_text : List Str := ["value"]
abbrev PP_value_text : List Str := ["value"]
abbrev NN_columns_text : List Str := ["schema", "name", "texts", "key", "parts"]
abbrev PP_columns_text : List Str := ["schema", "name", "texts"]
abbrev NN_fact_text : List Str := ["schema", "fact", "name", "row", "value"]
abbrev PP_fact_text : List Str := ["schema", "fact"]
abbrev NN_write_book : List Str := ["schema", "store", "lines", "name", "key", "rest", "fact"]
abbrev PP_write_book : List Str := ["schema", "store"]
abbrev NN_law_words2 : List Str := ["draws", "many", "words", "k", "size", "word", "j"]
abbrev PP_law_words2 : List Str := ["draws", "many"]
abbrev NN_law_some_words : List Str := ["draws", "many", "words", "word", "at"]
abbrev PP_law_some_words : List Str := ["draws", "many"]
abbrev NN_law_number : List Str := ["draws", "script"]
abbrev PP_law_number : List Str := ["draws", "script"]
abbrev NN_law_any_value2 : List Str := ["draws", "script", "words"]
abbrev PP_law_any_value2 : List Str := ["draws", "script", "words"]
abbrev NN_law_any_schema2 : List Str := ["draws", "words", "many", "names", "found", "name", "total", "key", "letter"]
abbrev PP_law_any_schema2 : List Str := ["draws", "words"]
abbrev NN_law_any_facts2 : List Str := ["draws", "script", "words", "schema", "many", "facts", "k", "table", "row", "alike", "j", "fact"]
abbrev PP_law_any_facts2 : List Str := ["draws", "script", "words", "schema", "many"]
abbrev NN_law_piece : List Str := ["term"]
abbrev PP_law_piece : List Str := ["term"]
abbrev NN_law_written_atom : List Str := ["table", "terms", "left", "right", "term"]
abbrev PP_law_written_atom : List Str := ["table", "terms"]
abbrev NN_law_written_book : List Str := ["schema", "store", "lines", "fact", "table", "value"]
abbrev PP_law_written_book : List Str := ["schema", "store"]
abbrev NN_term_text : List Str := ["term", "kind", "content"]
abbrev PP_term_text : List Str := ["term"]
abbrev NN_atom_text : List Str := ["schema", "atom", "name", "terms", "term"]
abbrev PP_atom_text : List Str := ["schema", "atom"]
abbrev NN_join_text : List Str := ["schema", "join", "text", "head", "body", "atom", "term"]
abbrev PP_join_text : List Str := ["schema", "join"]
abbrev NN_write_question : List Str := ["schema", "question", "width", "joins", "join"]
abbrev PP_write_question : List Str := ["schema", "question"]
abbrev NN_law_any_term : List Str := ["draws", "script", "words"]
abbrev PP_law_any_term : List Str := ["draws", "script", "words"]
abbrev NN_law_any_atom : List Str := ["draws", "script", "words", "table", "k"]
abbrev PP_law_any_atom : List Str := ["draws", "script", "words", "table"]
abbrev NN_law_any_join : List Str := ["draws", "script", "words", "schema", "width", "atoms", "body", "k", "known", "atom", "head", "term"]
abbrev PP_law_any_join : List Str := ["draws", "script", "words", "schema", "width", "atoms"]
abbrev NN_law_any_question : List Str := ["draws", "script", "words", "schema", "shape", "width", "many", "joins", "k"]
abbrev PP_law_any_question : List Str := ["draws", "script", "words", "schema"]
abbrev NN_law_written_question : List Str := ["schema", "question", "texts", "join", "head", "atoms", "atom", "term"]
abbrev PP_law_written_question : List Str := ["schema", "question"]
def m_value_text : MS :=
  (sSeq (sIf (bTru (eIsi "int" (eVar 0))) (sRet (eCB strD (aCons (eVar 0) aNil))) sNext)
    (sRet (eJoined [(eC (.str "\"")), (eFmt (eVar 0)), (eC (.str "\""))])))
def D_value_text : FD := mkF0 (List.length NN_value_text) (List.length PP_value_text) m_value_text
def m_columns_text : MS :=
  (sSeq (sSet 3 (eOp2 ixD (eCall [false, false] D_table_of (aCons (eVar 0) (aCons (eVar 1) aNil))) (eC (.int 1))))
    (sSeq (sSet 4 (eLst aNil))
    (sSeq (sIf (bVal (eOp2 (cmpI gtI) (eVar 3) (eC (.int 0)))) (sDrop (eMut 4 appendM (aCons (eMth joinD (eC (.str ", ")) (aCons (eSl (eVar 2) oNone (oSome (eVar 3))) aNil)) aNil))) sNext)
    (sSeq (sDrop (eMut 4 appendM (aCons (eC (.str "|")) aNil)))
    (sSeq (sIf (bVal (eOp2 ltD (eVar 3) (eCB lenD (aCons (eVar 2) aNil)))) (sDrop (eMut 4 appendM (aCons (eMth joinD (eC (.str ", ")) (aCons (eSl (eVar 2) (oSome (eVar 3)) oNone) aNil)) aNil))) sNext)
    (sRet (eOp2 addD (eOp2 addD (eOp2 addD (eVar 1) (eC (.str "("))) (eMth joinD (eC (.str " ")) (aCons (eVar 4) aNil))) (eC (.str ")")))))))))
def D_columns_text : FD := mkF0 (List.length NN_columns_text) (List.length PP_columns_text) m_columns_text
def m_fact_text : MS :=
  (sSeq (sAsg (gtTup 2 (gtCons (gtName 2) (gtCons (gtName 3) gtNil))) (eVar 1))
    (sRet (eCall [false, false, false] D_columns_text (aCons (eVar 0) (aCons (eVar 2) (aCons (eLc [4] (eIter (eVar 3)) (gtName 4) bYes (eCall [false] D_value_text (aCons (eVar 4) aNil))) aNil))))))
def D_fact_text : FD := mkF0 (List.length NN_fact_text) (List.length PP_fact_text) m_fact_text
def m_write_book : MS :=
  (sSeq (sSet 2 (eLc [3, 4, 5] (eIter (eVar 0)) (gtTup 3 (gtCons (gtName 3) (gtCons (gtName 4) (gtCons (gtName 5) gtNil)))) bYes (eJoined [(eC (.str "table ")), (eFmt (eVar 3)), (eC (.str " ")), (eFmt (eVar 4)), (eC (.str " ")), (eFmt (eVar 5))])))
    (sSeq (sDrop (eMut 2 extendM (aCons (eLc [6] (eIter (eVar 1)) (gtName 6) bYes (eCall [false, false] D_fact_text (aCons (eVar 0) (aCons (eVar 6) aNil)))) aNil)))
    (sRet (eMth joinD (eC (.str "\n")) (aCons (eVar 2) aNil)))))
def D_write_book : FD := mkF0 (List.length NN_write_book) (List.length PP_write_book) m_write_book
def m_law_words2 : MS :=
  (sSeq (sSet 2 (eLst aNil))
    (sSeq (sFor (eRange1 (aCons (eVar 1) aNil)) (gtName 3) (sSeq (sSet 4 (eOp2 addD (eC (.int 1)) (eCall [true, false] D_law_take (aCons (eVar 0) (aCons (eC (.int 3)) aNil)))))
    (sSeq (sIf (bVal (eOp2 eqD (eCall [true, false] D_law_take (aCons (eVar 0) (aCons (eC (.int 12)) aNil))) (eC (.int 0)))) (sSet 4 (eOp2 addD (eOp2 addD (eVar 4) (eC (.int 9))) (eCall [true, false] D_law_take (aCons (eVar 0) (aCons (eC (.int 12)) aNil))))) sNext)
    (sSeq (sSet 5 (eMth joinD (eC (.str "")) (aCons (eLc [6] (eRange1 (aCons (eVar 4) aNil)) (gtName 6) bYes (eOp2 ixD (eC (.str "abcdefghijklmnopqrstuvwxyz")) (eCall [true, false] D_law_take (aCons (eVar 0) (aCons (eC (.int 26)) aNil))))) aNil)))
    (sSeq (sIf (bVal (eOp2 inD (eVar 5) (eVar 2))) (sSet 5 (eOp2 addD (eC (.str "zzzz")) (eOp2 ixD (eC (.str "abcdefghijklmnopqrstuvwxyz")) (eVar 3)))) sNext)
    (sDrop (eMut 2 appendM (aCons (eVar 5) aNil))))))))
    (sRet (eVar 2))))
def D_law_words2 : FD := mkF0 (List.length NN_law_words2) (List.length PP_law_words2) m_law_words2
def m_law_some_words : MS :=
  (sSeq (sSet 2 (eCall [true, false] D_law_words2 (aCons (eVar 0) (aCons (eVar 1) aNil))))
    (sSeq (sIf (bVal (eOp2 eqD (eCall [true, false] D_law_take (aCons (eVar 0) (aCons (eC (.int 2)) aNil))) (eC (.int 0)))) (sFor (eIter (eLst (aCons (eC (.str "table")) (aCons (eC (.str "none")) aNil)))) (gtName 3) (sSeq (sSet 4 (eCall [true, false] D_law_take (aCons (eVar 0) (aCons (eVar 1) aNil))))
    (sIf (bAnd (bVal (eOp2 niD (eVar 3) (eVar 2))) (bVal (eOp2 (cmpI gtI) (eCall [true, false] D_law_take (aCons (eVar 0) (aCons (eC (.int 4)) aNil))) (eC (.int 0))))) (sSetIx 2 (eVar 4) (eVar 3)) sNext))) sNext)
    (sRet (eVar 2))))
def D_law_some_words : FD := mkF0 (List.length NN_law_some_words) (List.length PP_law_some_words) m_law_some_words
def m_law_number : MS :=
  (sRet (eOp2 mulD (eCall [true, false] D_law_size (aCons (eVar 0) (aCons (eVar 1) aNil))) (eOp2 subD (eC (.int 1)) (eOp2 mulD (eC (.int 2)) (eCall [true, false] D_law_take (aCons (eVar 0) (aCons (eC (.int 2)) aNil)))))))
def D_law_number : FD := mkF0 (List.length NN_law_number) (List.length PP_law_number) m_law_number
def m_law_any_value2 : MS :=
  (sSeq (sIf (bVal (eOp2 eqD (eCall [true, false] D_law_take (aCons (eVar 0) (aCons (eC (.int 2)) aNil))) (eC (.int 0)))) (sRet (eCall [true, false] D_law_pick (aCons (eVar 0) (aCons (eVar 2) aNil)))) sNext)
    (sRet (eCall [true, false] D_law_number (aCons (eVar 0) (aCons (eVar 1) aNil)))))
def D_law_any_value2 : FD := mkF0 (List.length NN_law_any_value2) (List.length PP_law_any_value2) m_law_any_value2
def m_law_any_schema2 : MS :=
  (sSeq (sSet 2 (eOp2 ixD (eLst (aCons (eC (.int 3)) (aCons (eC (.int 2)) (aCons (eC (.int 4)) (aCons (eC (.int 3)) (aCons (eC (.int 1)) (aCons (eC (.int 0)) aNil))))))) (eCall [true, false] D_law_take (aCons (eVar 0) (aCons (eC (.int 6)) aNil)))))
    (sSeq (sSet 3 (eSl (eVar 1) oNone (oSome (eVar 2))))
    (sSeq (sIf (bVal (eOp2 eqD (eCall [true, false] D_law_take (aCons (eVar 0) (aCons (eC (.int 9)) aNil))) (eC (.int 0)))) (sSet 3 (eLc [8] (eIter (eC (.str "abcdefghijklmnopqrst"))) (gtName 8) bYes (eOp2 addD (eOp2 ixD (eVar 1) (eC (.int 0))) (eVar 8)))) sNext)
    (sSeq (sSet 4 (eLst aNil))
    (sSeq (sFor (eIter (eCB sortSD (aCons (eVar 3) aNil))) (gtName 5) (sSeq (sSet 6 (eOp2 ixD (eLst (aCons (eC (.int 2)) (aCons (eC (.int 3)) (aCons (eC (.int 1)) (aCons (eC (.int 2)) (aCons (eCall [true, false] D_law_take (aCons (eVar 0) (aCons (eC (.int 9)) aNil))) (aCons (eC (.int 0)) aNil))))))) (eCall [true, false] D_law_take (aCons (eVar 0) (aCons (eC (.int 6)) aNil)))))
    (sSeq (sSet 7 (eCall [true, false] D_law_take (aCons (eVar 0) (aCons (eOp2 addD (eVar 6) (eC (.int 1))) aNil))))
    (sDrop (eMut 4 appendM (aCons (eTup (aCons (eVar 5) (aCons (eVar 7) (aCons (eOp2 subD (eVar 6) (eVar 7)) aNil)))) aNil))))))
    (sRet (eCB tupleD (aCons (eVar 4) aNil))))))))
def D_law_any_schema2 : FD := mkF0 (List.length NN_law_any_schema2) (List.length PP_law_any_schema2) m_law_any_schema2
def m_law_any_facts2 : MS :=
  (sSeq (sSet 5 (eLst aNil))
    (sSeq (sFor (eRange1 (aCons (eCall [true, false] D_law_take (aCons (eVar 0) (aCons (eOp2 addD (eVar 4) (eC (.int 1))) aNil))) aNil)) (gtName 6) (sIf (bVal (eOp2 (cmpI gtI) (eCB lenD (aCons (eVar 3) aNil)) (eC (.int 0)))) (sSeq (sSet 7 (eCall [true, false] D_law_pick (aCons (eVar 0) (aCons (eVar 3) aNil))))
    (sSeq (sSet 8 (eLc [10] (eRange1 (aCons (eOp2 addD (eOp2 ixD (eVar 7) (eC (.int 1))) (eOp2 ixD (eVar 7) (eC (.int 2)))) aNil)) (gtName 10) bYes (eCall [true, false, false] D_law_any_value2 (aCons (eVar 0) (aCons (eVar 1) (aCons (eVar 2) aNil))))))
    (sSeq (sSet 9 (eLc [11] (eIter (eVar 5)) (gtName 11) (bVal (eOp2 eqD (eOp2 ixD (eVar 11) (eC (.int 0))) (eOp2 ixD (eVar 7) (eC (.int 0))))) (eVar 11)))
    (sSeq (sIf (bAnd (bVal (eOp2 (cmpI gtI) (eCB lenD (aCons (eVar 9) aNil)) (eC (.int 0)))) (bVal (eOp2 eqD (eCall [true, false] D_law_take (aCons (eVar 0) (aCons (eC (.int 2)) aNil))) (eC (.int 0))))) (sSet 8 (eOp2 addD (eCB listD (aCons (eSl (eOp2 ixD (eCall [true, false] D_law_pick (aCons (eVar 0) (aCons (eVar 9) aNil))) (eC (.int 1))) oNone (oSome (eOp2 ixD (eVar 7) (eC (.int 1))))) aNil)) (eSl (eVar 8) (oSome (eOp2 ixD (eVar 7) (eC (.int 1)))) oNone))) sNext)
    (sDrop (eMut 5 appendM (aCons (eTup (aCons (eOp2 ixD (eVar 7) (eC (.int 0))) (aCons (eCB tupleD (aCons (eVar 8) aNil)) aNil))) aNil))))))) sNext))
    (sRet (eVar 5))))
def D_law_any_facts2 : FD := mkF0 (List.length NN_law_any_facts2) (List.length PP_law_any_facts2) m_law_any_facts2
def m_law_piece : MS :=
  (sSeq (sIf (bVal (eOp2 eqD (eOp2 ixD (eVar 0) (eC (.int 0))) (eC (.str "var")))) (sRet (eOp2 ixD (eVar 0) (eC (.int 1)))) sNext)
    (sSeq (sIf (bTru (eIsi "str" (eOp2 ixD (eVar 0) (eC (.int 1))))) (sRet (eOp2 addD (eOp2 addD (eC (.str "\"")) (eOp2 ixD (eVar 0) (eC (.int 1)))) (eC (.str "\"")))) sNext)
    (sRet (eCB strD (aCons (eOp2 ixD (eVar 0) (eC (.int 1))) aNil)))))
def D_law_piece : FD := mkF0 (List.length NN_law_piece) (List.length PP_law_piece) m_law_piece
def m_law_written_atom : MS :=
  (sSeq (sSet 2 (eMth joinD (eC (.str ", ")) (aCons (eLc [4] (eIter (eSl (eVar 1) oNone (oSome (eOp2 ixD (eVar 0) (eC (.int 1)))))) (gtName 4) bYes (eCall [false] D_law_piece (aCons (eVar 4) aNil))) aNil)))
    (sSeq (sSet 3 (eMth joinD (eC (.str ", ")) (aCons (eLc [4] (eIter (eSl (eVar 1) (oSome (eOp2 ixD (eVar 0) (eC (.int 1)))) oNone)) (gtName 4) bYes (eCall [false] D_law_piece (aCons (eVar 4) aNil))) aNil)))
    (sRet (eOp2 addD (eOp2 addD (eOp2 addD (eOp2 addD (eOp2 addD (eOp2 addD (eOp2 addD (eOp2 ixD (eVar 0) (eC (.int 0))) (eC (.str "("))) (eVar 2)) (eOp2 mulD (eC (.str " ")) (eCB intD (aCons (eOp2 neD (eVar 2) (eC (.str ""))) aNil)))) (eC (.str "|"))) (eOp2 mulD (eC (.str " ")) (eCB intD (aCons (eOp2 neD (eVar 3) (eC (.str ""))) aNil)))) (eVar 3)) (eC (.str ")"))))))
def D_law_written_atom : FD := mkF0 (List.length NN_law_written_atom) (List.length PP_law_written_atom) m_law_written_atom
def m_law_written_book : MS :=
  (sSeq (sSet 2 (eLc [4] (eIter (eVar 0)) (gtName 4) bYes (eOp2 addD (eOp2 addD (eOp2 addD (eOp2 addD (eOp2 addD (eC (.str "table ")) (eOp2 ixD (eVar 4) (eC (.int 0)))) (eC (.str " "))) (eCB strD (aCons (eOp2 ixD (eVar 4) (eC (.int 1))) aNil))) (eC (.str " "))) (eCB strD (aCons (eOp2 ixD (eVar 4) (eC (.int 2))) aNil)))))
    (sSeq (sFor (eIter (eVar 1)) (gtName 3) (sDrop (eMut 2 appendM (aCons (eCall [false, false] D_law_written_atom (aCons (eCall [false, false] D_law_table (aCons (eVar 0) (aCons (eOp2 ixD (eVar 3) (eC (.int 0))) aNil))) (aCons (eLc [5] (eIter (eOp2 ixD (eVar 3) (eC (.int 1)))) (gtName 5) bYes (eTup (aCons (eC (.str "value")) (aCons (eVar 5) aNil)))) aNil))) aNil))))
    (sRet (eMth joinD (eC (.str "\n")) (aCons (eVar 2) aNil)))))
def D_law_written_book : FD := mkF0 (List.length NN_law_written_book) (List.length PP_law_written_book) m_law_written_book
def m_term_text : MS :=
  (sSeq (sAsg (gtTup 2 (gtCons (gtName 1) (gtCons (gtName 2) gtNil))) (eVar 0))
    (sSeq (sIf (bVal (eOp2 eqD (eVar 1) (eC (.str "var")))) (sRet (eVar 2)) sNext)
    (sRet (eCall [false] D_value_text (aCons (eVar 2) aNil)))))
def D_term_text : FD := mkF0 (List.length NN_term_text) (List.length PP_term_text) m_term_text
def m_atom_text : MS :=
  (sSeq (sAsg (gtTup 2 (gtCons (gtName 2) (gtCons (gtName 3) gtNil))) (eVar 1))
    (sRet (eCall [false, false, false] D_columns_text (aCons (eVar 0) (aCons (eVar 2) (aCons (eLc [4] (eIter (eVar 3)) (gtName 4) bYes (eCall [false] D_term_text (aCons (eVar 4) aNil))) aNil))))))
def D_atom_text : FD := mkF0 (List.length NN_atom_text) (List.length PP_atom_text) m_atom_text
def m_join_text : MS :=
  (sSeq (sAsg (gtTup 2 (gtCons (gtName 3) (gtCons (gtName 4) gtNil))) (eVar 1))
    (sSeq (sSet 2 (eOp2 addD (eOp2 addD (eC (.str "[")) (eMth joinD (eC (.str ", ")) (aCons (eLc [6] (eIter (eVar 3)) (gtName 6) bYes (eCall [false] D_term_text (aCons (eVar 6) aNil))) aNil))) (eC (.str "]"))))
    (sSeq (sIf (bVal (eOp2 eqD (eCB lenD (aCons (eVar 4) aNil)) (eC (.int 0)))) (sRet (eVar 2)) sNext)
    (sRet (eOp2 addD (eOp2 addD (eVar 2) (eC (.str " "))) (eMth joinD (eC (.str ", ")) (aCons (eLc [5] (eIter (eVar 4)) (gtName 5) bYes (eCall [false, false] D_atom_text (aCons (eVar 0) (aCons (eVar 5) aNil)))) aNil)))))))
def D_join_text : FD := mkF0 (List.length NN_join_text) (List.length PP_join_text) m_join_text
def m_write_question : MS :=
  (sSeq (sAsg (gtTup 2 (gtCons (gtName 2) (gtCons (gtName 3) gtNil))) (eVar 1))
    (sSeq (sIf (bVal (eOp2 eqD (eCB lenD (aCons (eVar 3) aNil)) (eC (.int 0)))) (sRet (eJoined [(eC (.str "none ")), (eFmt (eVar 2))])) sNext)
    (sRet (eMth joinD (eC (.str "; ")) (aCons (eLc [4] (eIter (eVar 3)) (gtName 4) bYes (eCall [false, false] D_join_text (aCons (eVar 0) (aCons (eVar 4) aNil)))) aNil)))))
def D_write_question : FD := mkF0 (List.length NN_write_question) (List.length PP_write_question) m_write_question
def m_law_any_term : MS :=
  (sSeq (sIf (bVal (eOp2 eqD (eCall [true, false] D_law_take (aCons (eVar 0) (aCons (eC (.int 3)) aNil))) (eC (.int 0)))) (sRet (eTup (aCons (eC (.str "value")) (aCons (eCall [true, false, false] D_law_any_value2 (aCons (eVar 0) (aCons (eVar 1) (aCons (eVar 2) aNil)))) aNil)))) sNext)
    (sRet (eTup (aCons (eC (.str "var")) (aCons (eCall [true, false] D_law_pick (aCons (eVar 0) (aCons (eSl (eVar 2) (oSome (eC (.int 3))) oNone) aNil))) aNil)))))
def D_law_any_term : FD := mkF0 (List.length NN_law_any_term) (List.length PP_law_any_term) m_law_any_term
def m_law_any_atom : MS :=
  (sRet (eTup (aCons (eOp2 ixD (eVar 3) (eC (.int 0))) (aCons (eCB tupleD (aCons (eLc [4] (eRange1 (aCons (eOp2 addD (eOp2 ixD (eVar 3) (eC (.int 1))) (eOp2 ixD (eVar 3) (eC (.int 2)))) aNil)) (gtName 4) bYes (eCall [true, false, false] D_law_any_term (aCons (eVar 0) (aCons (eVar 1) (aCons (eVar 2) aNil))))) aNil)) aNil))))
def D_law_any_atom : FD := mkF0 (List.length NN_law_any_atom) (List.length PP_law_any_atom) m_law_any_atom
def m_law_any_join : MS :=
  (sSeq (sSet 6 (eLst aNil))
    (sSeq (sFor (eRange1 (aCons (eCall [true, false] D_law_take (aCons (eVar 0) (aCons (eOp2 addD (eVar 5) (eC (.int 1))) aNil))) aNil)) (gtName 7) (sIf (bVal (eOp2 (cmpI gtI) (eCB lenD (aCons (eVar 3) aNil)) (eC (.int 0)))) (sDrop (eMut 6 appendM (aCons (eCall [true, false, false, false] D_law_any_atom (aCons (eVar 0) (aCons (eVar 1) (aCons (eVar 2) (aCons (eCall [true, false] D_law_pick (aCons (eVar 0) (aCons (eVar 3) aNil))) aNil))))) aNil))) sNext))
    (sSeq (sSet 8 (eLst aNil))
    (sSeq (sFor (eIter (eVar 6)) (gtName 9) (sSet 8 (eOp2 addD (eVar 8) (eLc [11] (eIter (eOp2 ixD (eVar 9) (eC (.int 1)))) (gtName 11) (bVal (eOp2 eqD (eOp2 ixD (eVar 11) (eC (.int 0))) (eC (.str "var")))) (eVar 11)))))
    (sSeq (sSet 10 (eLst aNil))
    (sSeq (sFor (eRange1 (aCons (eVar 4) aNil)) (gtName 7) (sSeq (sDrop (eMut 10 appendM (aCons (eTup (aCons (eC (.str "value")) (aCons (eCall [true, false, false] D_law_any_value2 (aCons (eVar 0) (aCons (eVar 1) (aCons (eVar 2) aNil)))) aNil))) aNil)))
    (sIf (bAnd (bVal (eOp2 (cmpI gtI) (eCB lenD (aCons (eVar 8) aNil)) (eC (.int 0)))) (bVal (eOp2 (cmpI gtI) (eCall [true, false] D_law_take (aCons (eVar 0) (aCons (eC (.int 4)) aNil))) (eC (.int 0))))) (sSetIx 10 (eVar 7) (eCall [true, false] D_law_pick (aCons (eVar 0) (aCons (eVar 8) aNil)))) sNext)))
    (sRet (eTup (aCons (eCB tupleD (aCons (eVar 10) aNil)) (aCons (eCB tupleD (aCons (eVar 6) aNil)) aNil))))))))))
def D_law_any_join : FD := mkF0 (List.length NN_law_any_join) (List.length PP_law_any_join) m_law_any_join
def m_law_any_question : MS :=
  (sSeq (sSet 4 (eCall [true, false] D_law_pick (aCons (eVar 0) (aCons (eLst (aCons (eTup (aCons (eC (.int 3)) (aCons (eC (.int 3)) aNil))) (aCons (eTup (aCons (eC (.int 2)) (aCons (eC (.int 2)) aNil))) (aCons (eTup (aCons (eC (.int 8)) (aCons (eC (.int 2)) aNil))) (aCons (eTup (aCons (eC (.int 2)) (aCons (eC (.int 8)) aNil))) aNil))))) aNil))))
    (sSeq (sSet 5 (eCall [true, false] D_law_pick (aCons (eVar 0) (aCons (eLst (aCons (eC (.int 1)) (aCons (eC (.int 2)) (aCons (eC (.int 0)) (aCons (eC (.int 3)) (aCons (eCall [true, false] D_law_take (aCons (eVar 0) (aCons (eC (.int 9)) aNil))) aNil)))))) aNil))))
    (sSeq (sSet 6 (eOp2 addD (eC (.int 1)) (eCall [true, false] D_law_take (aCons (eVar 0) (aCons (eOp2 ixD (eVar 4) (eC (.int 0))) aNil)))))
    (sSeq (sIf (bVal (eOp2 eqD (eCall [true, false] D_law_take (aCons (eVar 0) (aCons (eC (.int 9)) aNil))) (eC (.int 0)))) (sSet 6 (eC (.int 0))) sNext)
    (sSeq (sSet 7 (eLc [8] (eRange1 (aCons (eVar 6) aNil)) (gtName 8) bYes (eCall [true, false, false, false, false, false] D_law_any_join (aCons (eVar 0) (aCons (eVar 1) (aCons (eVar 2) (aCons (eVar 3) (aCons (eVar 5) (aCons (eOp2 ixD (eVar 4) (eC (.int 1))) aNil)))))))))
    (sRet (eTup (aCons (eVar 5) (aCons (eCB tupleD (aCons (eVar 7) aNil)) aNil)))))))))
def D_law_any_question : FD := mkF0 (List.length NN_law_any_question) (List.length PP_law_any_question) m_law_any_question
def m_law_written_question : MS :=
  (sSeq (sIf (bVal (eOp2 eqD (eCB lenD (aCons (eOp2 ixD (eVar 1) (eC (.int 1))) aNil)) (eC (.int 0)))) (sRet (eOp2 addD (eC (.str "none ")) (eCB strD (aCons (eOp2 ixD (eVar 1) (eC (.int 0))) aNil)))) sNext)
    (sSeq (sSet 2 (eLst aNil))
    (sSeq (sFor (eIter (eOp2 ixD (eVar 1) (eC (.int 1)))) (gtName 3) (sSeq (sSet 4 (eOp2 addD (eOp2 addD (eC (.str "[")) (eMth joinD (eC (.str ", ")) (aCons (eLc [7] (eIter (eOp2 ixD (eVar 3) (eC (.int 0)))) (gtName 7) bYes (eCall [false] D_law_piece (aCons (eVar 7) aNil))) aNil))) (eC (.str "]"))))
    (sSeq (sSet 5 (eLc [6] (eIter (eOp2 ixD (eVar 3) (eC (.int 1)))) (gtName 6) bYes (eCall [false, false] D_law_written_atom (aCons (eCall [false, false] D_law_table (aCons (eVar 0) (aCons (eOp2 ixD (eVar 6) (eC (.int 0))) aNil))) (aCons (eOp2 ixD (eVar 6) (eC (.int 1))) aNil)))))
    (sDrop (eMut 2 appendM (aCons (eOp2 addD (eOp2 addD (eVar 4) (eOp2 mulD (eC (.str " ")) (eCB intD (aCons (eOp2 (cmpI gtI) (eCB lenD (aCons (eVar 5) aNil)) (eC (.int 0))) aNil)))) (eMth joinD (eC (.str ", ")) (aCons (eVar 5) aNil))) aNil))))))
    (sRet (eMth joinD (eC (.str "; ")) (aCons (eVar 2) aNil))))))
def D_law_written_question : FD := mkF0 (List.length NN_law_written_question) (List.length PP_law_written_question) m_law_written_question
/-! ### end of mirrors -/
end Lw
end

section
set_option Elab.async false
set_option linter.all false
set_option maxRecDepth 100000
set_option maxHeartbeats 400000
namespace Lw
open PySem PySem.Spec PyProof.Rows L2 Vf
variable [Tabs]
local macro_rules | `(tactic| simp! only [$ls,*]) => `(tactic| simp -implicitDefEqProofs only [↓wp_var, ↓wp_c, ↓wp_op2, ↓wp_op1, ↓wp_aNil, ↓wp_aCons, ↓wp_cb, ↓wp_mut, ↓wp_mth, ↓wp_tup, ↓wp_lst, ↓wp_isi, ↓wp_isi2, ↓wp_bVal, ↓wp_bTru, ↓wp_bNot, ↓wp_bAnd, ↓wp_bOr, ↓wp_bYes, ↓wp_eIf, ↓wp_andV, ↓wp_orV, ↓wp_notV, ↓wp_oNone, ↓wp_oSome, ↓wp_sl, ↓wp_callC, ↓wp_sortK, ↓wp_zip, zp_t, ↓wp_rev, revT, revL, ↓wp_sMv, mvq_ow, ↓wp_idx, ↓wp_fmt, ↓wp_joined, ↓wp_js, ↓wp_jn, strV_s, ↓wp_never, imT_t,  skv_l, ↓wp_allS, ↓wp_seq, sq_next, sq_ret, sq_brk, sq_cont, ↓wp_next, ↓wp_brk, ↓wp_cont, ↓wp_ret, ↓wp_retN, ↓wp_drop, ↓wp_sIf, ↓wp_sSet, ↓wp_sAsg, ↓wp_sSetIx, ↓wp_iter, ↓wp_range1, ↓wp_range2, ↓wp_forP, ↓wp_lcP, pr_mk, vr_im, vr_ow, vr_io, vr_bo, rdv_im, rdv_nw, rdv_sl, rsl_ow, rsl_io, rsl_bo, rdvs_nil, rdvs_cons, cons2_some, ims_nil, ims_cons, o2_some, oo_some, om_some, imS_str, blV_b, inV1_i, imV_im, itv_t, itv_s, itv_n, itv_l, itl_ow, itl_bo, rg1_i, rg2_i, toV_int, toV_bool, toV_str, toV_tuple, toV_none, toV_list,
  slotOf, setS_eq, sS_fre, fre_em, fre_im, fre_ow, fre_bo, getM_eq, gM_ow, gM_io, putL_eq, pL_ow, pL_io, putLs, rsV, slM, slB, arsOf, arOf_im, arOf_int, arOf_str, arOf_bool, arOf_none, arOf_tuple, arOf_nw, arOf_sl, arOf_m, arS_ow, arS_io, arS_bo, arM_ow, arM_io, resP_ret, resP_next, resOf_im, resOf_nw, resOf_sl, rso_ow, outsOf, initG, slotA, bor, unb, clr, rst, gtName, gtTup, gtCons, gtNil, outI_next, outI_cont, outI_brk, outI_ret,
  List.getElem?_cons_zero, List.getElem?_cons_succ, List.set_cons_zero, List.set_cons_succ, List.map_cons, List.map_nil, List.cons_append, List.nil_append, List.append_nil, List.length_cons, List.length_nil, List.replicate_succ, List.replicate_zero, Nat.sub_self, Nat.reduceAdd, Nat.reduceSub, Nat.reduceEqDiff, List.getElem?_nil, 
  eqD_int, neD_int, eqD_bool, neD_bool, addD_int, subD_int, ltD_int, leD_int, gtD_int, geD_int, intD_int, intD_bool, lenL, lenT, listD_l, listD_t, tupleD_l, tupleD_t, ixL_int, ixT_int, ixS_int, negD_int, truD_b, atI0, atI1, atI2, List.nodup_nil, List.nodup_cons, List.not_mem_nil, not_false_eq_true, false_imp_iff, implies_true, and_true, true_and, and_self, if_true, if_false, Bool.false_eq_true, reduceIte, List.mem_cons, or_false, false_or, forall_eq, forall_eq_or_imp, imm_int, imm_str, beq_iff_eq, bne_iff_ne, decide_eq_true_eq, Bool.not_eq_true', $ls,*])
local macro_rules | `(tactic| dsimp! only [$ls,*]) => `(tactic| simp -implicitDefEqProofs only [↓wp_sIfY, ↓wp_var, ↓wp_c, ↓wp_op2, ↓wp_op1, ↓wp_aNil, ↓wp_aCons, ↓wp_cb, ↓wp_mut, ↓wp_mth, ↓wp_tup, ↓wp_lst, ↓wp_isi, ↓wp_isi2, ↓wp_bVal, ↓wp_bTru, ↓wp_bNot, ↓wp_bAnd, ↓wp_bOr, ↓wp_bYes, ↓wp_eIf, ↓wp_andV, ↓wp_orV, ↓wp_notV, ↓wp_oNone, ↓wp_oSome, ↓wp_sl, ↓wp_callC, ↓wp_sortK, ↓wp_zip, zp_t, ↓wp_rev, revT, revL, ↓wp_sMv, mvq_ow, ↓wp_idx, ↓wp_fmt, ↓wp_joined, ↓wp_js, ↓wp_jn, strV_s, ↓wp_never, imT_t,  skv_l, ↓wp_allS, ↓wp_seq, sq_next, sq_ret, sq_brk, sq_cont, ↓wp_next, ↓wp_brk, ↓wp_cont, ↓wp_ret, ↓wp_retN, ↓wp_drop, ↓wp_sSet, ↓wp_sAsg, ↓wp_sSetIx, ↓wp_iter, ↓wp_range1, ↓wp_range2, ↓wp_forP, ↓wp_lcP, pr_mk, vr_im, vr_ow, vr_io, vr_bo, rdv_im, rdv_nw, rdv_sl, rsl_ow, rsl_io, rsl_bo, rdvs_nil, rdvs_cons, cons2_some, ims_nil, ims_cons, o2_some, oo_some, om_some, imS_str, blV_b, inV1_i, imV_im, itv_t, itv_s, itv_n, itv_l, itl_ow, itl_bo, rg1_i, rg2_i, toV_int, toV_bool, toV_str, toV_tuple, toV_none, toV_list,
  slotOf, setS_eq, sS_fre, fre_em, fre_im, fre_ow, fre_bo, getM_eq, gM_ow, gM_io, putL_eq, pL_ow, pL_io, putLs, rsV, slM, slB, arsOf, arOf_im, arOf_int, arOf_str, arOf_bool, arOf_none, arOf_tuple, arOf_nw, arOf_sl, arOf_m, arS_ow, arS_io, arS_bo, arM_ow, arM_io, resP_ret, resP_next, resOf_im, resOf_nw, resOf_sl, rso_ow, outsOf, initG, slotA, bor, unb, clr, rst, gtName, gtTup, gtCons, gtNil, outI_next, outI_cont, outI_brk, outI_ret,
  List.getElem?_cons_zero, List.getElem?_cons_succ, List.set_cons_zero, List.set_cons_succ, List.map_cons, List.map_nil, List.cons_append, List.nil_append, List.append_nil, List.length_cons, List.length_nil, List.replicate_succ, List.replicate_zero, Nat.sub_self, Nat.reduceAdd, Nat.reduceSub, Nat.reduceEqDiff, List.getElem?_nil, 
  eqD_int, neD_int, eqD_bool, neD_bool, addD_int, subD_int, ltD_int, leD_int, gtD_int, geD_int, intD_int, intD_bool, lenL, lenT, listD_l, listD_t, tupleD_l, tupleD_t, ixL_int, ixT_int, ixS_int, negD_int, truD_b, atI0, atI1, atI2, List.nodup_nil, List.nodup_cons, List.not_mem_nil, not_false_eq_true, false_imp_iff, implies_true, and_true, true_and, and_self, if_true, if_false, Bool.false_eq_true, reduceIte, List.mem_cons, or_false, false_or, forall_eq, forall_eq_or_imp, imm_int, imm_str, beq_iff_eq, bne_iff_ne, decide_eq_true_eq, Bool.not_eq_true', $ls,*])
structure Bd (b : Int → Prop) (sc : List Int) : Prop where
  sm : ∀ v, 0 ≤ v → v < 1000000000000000 → b v
  ng : ∀ v, b v → b (-v)
  sc : ∀ s ∈ sc, b (if s < 0 then -s else s)
theorem Bd.any {sc : List Int} : Bd (fun _ => True) sc := ⟨fun _ _ _ => trivial, fun _ _ => trivial, fun _ _ => trivial⟩
theorem size_specQ {b : Int → Prop} {ns sc : List Int} (hb : Bd b sc) {P : Rs → List (List PyData) → Prop} (h : ∀ v ns', 0 ≤ v → b v → P (.v (.int v)) [DI ns']) : wpF D_law_size [.m (DI ns), .l (DI sc)] P := by
  unfold D_law_size
  refine wp_F rfl ?_
  unfold m_law_size
  simp! only [true_and]
  refine take_spec (by omega) fun v ns1 h0 h1 => ?_
  simp! only [true_and]
  split
  · refine take_spec (by omega) fun v ns2 h0 h1 => ?_
    simp! only [true_and]
    exact h _ _ h0 (hb.sm _ h0 (by omega))
  split
  · refine take_spec (by omega) fun v ns2 h0 h1 => ?_
    simp! only [true_and]
    exact h _ _ h0 (hb.sm _ h0 (by omega))
  have loop : ∀ ns1 : List Int, wpX
        (sLoop (gtName 4) (sSet 3 (eOp2 addD (eOp2 mulD (eVar 3) (eC (.int 1000))) (eCall [true, false] D_law_take (aCons (eVar 0) (aCons (eC (.int 1000)) aNil))))) (rng1 5))
        [Slot.io (DI ns1), Slot.bo (DI sc), Slot.im (PyData.int v), Slot.im (PyData.int 0), Slot.em] fun o Γ => o = .next ∧ ∃ ns2 u s, 0 ≤ u ∧ u < 1000 ^ 5 ∧ Γ = [Slot.io (DI ns2), Slot.bo (DI sc), Slot.im (PyData.int v), Slot.im (PyData.int u), s] := by
    intro ns1
    refine loopI (fun i Γ => ∃ ns2 u s, 0 ≤ u ∧ u < 1000 ^ i ∧ fre s ∧ Γ = [Slot.io (DI ns2), Slot.bo (DI sc), Slot.im (PyData.int v), Slot.im (PyData.int u), s]) ⟨ns1, 0, .em, by omega, by decide, by simp! only [true_and], rfl⟩ ?_ ?_
    · rintro i d Γ hi ⟨ns2, u, s, hu, hu2, hs, rfl⟩
      obtain ⟨rfl, _⟩ := rng1_get hi
      simp! only [hs, mulD_r (i := u) (j := 1000) (by omega)]
      refine take_spec (by omega) fun v ns3 h0 h1 => ?_
      simp! only [true_and]
      have e : (1000 : Int) ^ (i + 1) = 1000 ^ i * 1000 := Int.pow_succ ..
      refine ⟨ns3, _, _, by omega, by rw [e]; generalize (1000 : Int) ^ i = q at *; omega, by simp! only [true_and], rfl⟩
    · rintro Γ ⟨ns2, u, s, hu, hu2, hs, rfl⟩
      exact ⟨rfl, ns2, u, s, hu, hu2, rfl⟩
  have e5 : (1000 : Int) ^ 5 = 1000000000000000 := by decide
  split
  · refine ⟨by omega, wpX_mono (loop _) ?_⟩
    rintro o Γ ⟨rfl, ns2, u, s, hu, hu2, rfl⟩
    simp! only [true_and]
    exact h _ _ hu (hb.sm _ hu (by omega))
  split
  · refine ⟨by omega, wpX_mono (loop _) ?_⟩
    rintro o Γ ⟨rfl, ns2, u, s, hu, hu2, rfl⟩
    simp! only [true_and]
    exact h _ _ hu (hb.sm _ hu (by omega))
  rename_i hz
  refine take_spec (by omega) fun q ns2 h0 h1 => ?_
  simp! only [true_and]
  obtain ⟨d, e, _, hm⟩ := atI_in h0 h1
  rw [e]
  obtain ⟨j, hj, rfl⟩ := List.mem_map.mp hm
  simp! only [absD]
  exact h _ _ (by split <;> omega) (hb.sc j hj)
/-! words -/
def zz (i : Nat) : Str := "zzzz" ++ (⟨#[97 + i]⟩ : Str)
theorem alphaN {i : Nat} (h : i < 26) : ixS "abcdefghijklmnopqrstuvwxyz" (i : Int) = some (.str ⟨#[97 + i]⟩) := by
  have hA : ("abcdefghijklmnopqrstuvwxyz" : Str).cps.toList = [97,98,99,100,101,102,103,104,105,106,107,108,109,110,111,112,113,114,115,116,117,118,119,120,121,122] := rfl
  have hl : i < ([97,98,99,100,101,102,103,104,105,106,107,108,109,110,111,112,113,114,115,116,117,118,119,120,121,122] : List Nat).length := by simp; omega
  unfold ixS
  rw [hA, L2.atI_nat (List.getElem?_eq_getElem hl)]
  have e : ([97,98,99,100,101,102,103,104,105,106,107,108,109,110,111,112,113,114,115,116,117,118,119,120,121,122] : List Nat)[i] = 97 + i := by
    have : ∀ j : Fin 26, ([97,98,99,100,101,102,103,104,105,106,107,108,109,110,111,112,113,114,115,116,117,118,119,120,121,122] : List Nat)[j.1]'(by have := j.2; simp) = 97 + j.1 := by decide
    exact this ⟨i, h⟩
  rw [e]
  rfl
theorem zz_len {i : Nat} : (zz i).length = 5 := by
  unfold zz
  rw [len_app]
  rfl
theorem zz_inj {i j : Nat} (h : zz i = zz j) : i = j := by
  unfold zz at h
  have h2 : ("zzzz" ++ (⟨#[97 + i]⟩ : Str)).cps = ("zzzz" ++ (⟨#[97 + j]⟩ : Str)).cps := by rw [h]
  have h3 : ((Str.ofString "zzzz").cps ++ #[97 + i]) = ((Str.ofString "zzzz").cps ++ #[97 + j]) := h2
  have h4 := congrArg Array.toList h3
  simp at h4
  exact h4
theorem zz_ok {i : Nat} (h : i < 26) : PyData.strOk (zz i) = true := by
  unfold zz
  rw [strOk_app, Bool.and_eq_true]
  constructor
  · show (Str.ofString "zzzz").cps.all _ = true
    rw [show (Str.ofString "zzzz").cps = #[122, 122, 122, 122] from rfl]; simp
  · have : 97 + i < 1114112 := by omega
    simp [PyData.strOk, this]
structure WX (i : Nat) (ws : List Str) : Prop where
  nd : ws.Nodup
  ok : ∀ a ∈ ws, 1 ≤ a.length ∧ a.length ≤ 23 ∧ PyData.strOk a = true ∧ (a.length = 5 → ∃ j, j < i ∧ a = zz j)
theorem words2_spec {ns : List Int} {many : Int} (hmany : 0 ≤ many ∧ many ≤ 26) {P : Rs → List (List PyData) → Prop} (h : ∀ ws ns', WOk 40 ws → ws.length = many.toNat → P (.l (DS ws)) [DI ns']) : wpF D_law_words2 [.m (DI ns), .v (.int many)] P := by
  unfold D_law_words2
  refine wp_F rfl ?_
  unfold m_law_words2
  simp! only [true_and]
  refine ⟨by omega, by omega, ?_⟩
  refine loopI (fun i Γ => ∃ ns ws s3 s4 s5, fre s3 ∧ fre s4 ∧ fre s5 ∧ ws.length = i ∧ WX i ws ∧ Γ = [.io (DI ns), .im (.int many), .ow (DS ws), s3, s4, s5, .em]) ⟨ns, [], .em, .em, .em, by simp! only [true_and], by simp! only [true_and], by simp! only [true_and], rfl, ⟨by simp, by simp⟩, rfl⟩ ?_ ?_
  · rintro i d Γ hi ⟨ns, ws, s3, s4, s5, h3, h4, h5, hl, hw, rfl⟩
    obtain ⟨rfl, hi⟩ := rng1_get hi
    dsimp! only [h3, h4, h5]
    refine take_spec (by omega) fun v ns1 v0 v1 => ?_
    dsimp! only [h3, h4, h5]
    refine wp_mono (P := fun o Γ => IV (o = .next ∧ ∃ ns z, 1 ≤ z ∧ z ≤ 23 ∧ z ≠ 5 ∧ Γ = [.io (DI ns), .im (.int many), .ow (DS ws), .im (.int i), .im (.int z), s5, .em])) ?_ ?_
    · simp! only [true_and]
      refine take_spec (by omega) fun v2 ns2 _ _ => ?_
      simp! only [true_and]
      split
      · refine take_spec (by omega) fun v3 ns3 _ _ => ?_
        simp! only [true_and]
        exact ⟨rfl, ns3, _, by omega, by omega, by omega, rfl⟩
      · exact ⟨rfl, ns2, _, by omega, by omega, by omega, rfl⟩
    rintro o Γ ⟨rfl, ns2, z, z0, z1, z5, rfl⟩
    dsimp! only [h5]
    refine ⟨by omega, ?_⟩
    refine lcI (fun j acc Γ => ∃ ns cs, acc = DS cs ∧ cs.length = j ∧ (∀ c ∈ cs, c.length = 1 ∧ PyData.strOk c = true) ∧ Γ = [.io (DI ns), .im (.int many), .ow (DS ws), .im (.int i), .im (.int z), s5, .em]) ⟨ns2, [], rfl, rfl, by simp, rfl⟩ ?_ ?_
    · rintro j d acc Γ hj ⟨ns, cs, rfl, hc, hcs, rfl⟩
      obtain ⟨rfl, hj⟩ := rng1_get hj
      simp! only [true_and]
      refine take_spec (by omega) fun v ns3 v0 v1 => ?_
      obtain ⟨c, e, hc'⟩ := alpha v0 v1
      simp! only [e]
      refine ⟨by simp; omega, ns3, cs ++ [⟨#[c]⟩], by simp, by simp [hc], ?_, rfl⟩
      intro a ha
      rcases List.mem_append.mp ha with ha | ha
      · exact hcs a ha
      · rw [List.mem_singleton.mp ha]; exact ⟨rfl, by simp [PyData.strOk, hc']⟩
    rintro acc Γ ⟨ns3, cs, rfl, hc, hcs, rfl⟩
    rw [rng1_len] at hc
    have hsum := sum_ones fun c hc => (hcs c hc).1
    have hlen : (Txt.join "" cs).length = cs.length := by
      have := @size_glued "" cs
      show (Builtin.Str.glued (Str.ofString "") cs).length = _
      rw [this, hsum, show (Str.ofString "").length = 0 from rfl]; omega
    have hok : PyData.strOk (Txt.join "" cs) = true := strOk_join ok_e fun c hc => (hcs c hc).2
    dsimp! only [h5, joinD_strs (a := "") (ss := cs) (by rw [hsum, show (Str.ofString "").length = 0 from rfl]; omega)]
    have a0 : 1 ≤ (Txt.join "" cs).length ∧ (Txt.join "" cs).length ≤ 23 ∧ (Txt.join "" cs).length ≠ 5 := by omega
    clear hlen hsum hcs
    generalize (Txt.join "" cs) = a at *
    refine wp_mono (P := fun o Γ => IV (o = .next ∧ ∃ b, b ∉ ws ∧ 1 ≤ b.length ∧ b.length ≤ 23 ∧ PyData.strOk b = true ∧ (b.length = 5 → b = zz i) ∧ Γ = [.io (DI ns3), .im (.int many), .ow (DS ws), .im (.int i), .im (.int z), .im (.str b), .em])) ?_ ?_
    · simp! only [inD_strs]
      split
      · have hl1 : ({ cps := #[97 + i] } : Str).length = 1 := rfl
        have hl4 : (Str.ofString "zzzz").length = 4 := rfl
        simp! only [alphaN (i := i) (by omega)]
        rw [addD_str (a := "zzzz") (b := ⟨#[97 + i]⟩) (by rw [hl1, hl4]; omega)]
        simp! only [true_and]
        refine ⟨rfl, zz i, fun hm => ?_, by rw [zz_len]; omega, by rw [zz_len]; omega, zz_ok (by omega), fun _ => rfl, rfl⟩
        obtain ⟨j, hj, e⟩ := (hw.ok _ hm).2.2.2 zz_len
        have := zz_inj e
        omega
      · rename_i hin
        exact ⟨rfl, a, by simpa using hin, a0.1, a0.2.1, hok, fun e => absurd e a0.2.2, rfl⟩
    rintro o Γ ⟨rfl, b, hb, b0, b1, b2, b3, rfl⟩
    simp! only [appendM_ok (ds := DS ws) (d := .str b) imm_str (by simp; omega)]
    refine ⟨ns3, ws ++ [b], _, _, _, fre_im.mpr trivial, fre_im.mpr trivial, fre_im.mpr trivial, by simp [hl], ⟨?_, ?_⟩, by simp only [List.map_append, List.map_cons, List.map_nil] <;> rfl⟩
    · rw [List.nodup_append]
      exact ⟨hw.nd, by simp, fun x hx y hy => by rw [List.mem_singleton.mp hy]; exact fun e => hb (e ▸ hx)⟩
    · intro x hx
      rcases List.mem_append.mp hx with hx | hx
      · have := hw.ok x hx
        exact ⟨this.1, this.2.1, this.2.2.1, fun e => by obtain ⟨j, hj, e2⟩ := this.2.2.2 e; exact ⟨j, by omega, e2⟩⟩
      · rw [List.mem_singleton.mp hx]; exact ⟨b0, b1, b2, fun e => ⟨i, by omega, b3 e⟩⟩
  · rintro Γ ⟨ns, ws, s3, s4, s5, h3, h4, h5, hl, hw, rfl⟩
    simp! only [true_and]
    rw [rng1_len] at hl hw
    exact h _ _ ⟨hw.nd, fun a ha => by have := hw.ok a ha; exact ⟨this.1, by have := this.2.1; omega, this.2.2.1⟩⟩ (by omega)
end Lw
end

section
set_option Elab.async false
set_option linter.all false
set_option maxRecDepth 100000
set_option maxHeartbeats 400000
namespace Lw
open PySem PySem.Spec PyProof.Rows L2 Vf
variable [Tabs]
local macro_rules | `(tactic| simp! only [$ls,*]) => `(tactic| simp -implicitDefEqProofs only [↓wp_var, ↓wp_c, ↓wp_op2, ↓wp_op1, ↓wp_aNil, ↓wp_aCons, ↓wp_cb, ↓wp_mut, ↓wp_mth, ↓wp_tup, ↓wp_lst, ↓wp_isi, ↓wp_isi2, ↓wp_bVal, ↓wp_bTru, ↓wp_bNot, ↓wp_bAnd, ↓wp_bOr, ↓wp_bYes, ↓wp_eIf, ↓wp_andV, ↓wp_orV, ↓wp_notV, ↓wp_oNone, ↓wp_oSome, ↓wp_sl, ↓wp_callC, ↓wp_sortK, ↓wp_zip, zp_t, ↓wp_rev, revT, revL, ↓wp_sMv, mvq_ow, ↓wp_idx, ↓wp_fmt, ↓wp_joined, ↓wp_js, ↓wp_jn, strV_s, ↓wp_never, imT_t,  skv_l, ↓wp_allS, ↓wp_seq, sq_next, sq_ret, sq_brk, sq_cont, ↓wp_next, ↓wp_brk, ↓wp_cont, ↓wp_ret, ↓wp_retN, ↓wp_drop, ↓wp_sIf, ↓wp_sSet, ↓wp_sAsg, ↓wp_sSetIx, ↓wp_iter, ↓wp_range1, ↓wp_range2, ↓wp_forP, ↓wp_lcP, pr_mk, vr_im, vr_ow, vr_io, vr_bo, rdv_im, rdv_nw, rdv_sl, rsl_ow, rsl_io, rsl_bo, rdvs_nil, rdvs_cons, cons2_some, ims_nil, ims_cons, o2_some, oo_some, om_some, imS_str, blV_b, inV1_i, imV_im, itv_t, itv_s, itv_n, itv_l, itl_ow, itl_bo, rg1_i, rg2_i, toV_int, toV_bool, toV_str, toV_tuple, toV_none, toV_list,
  slotOf, setS_eq, sS_fre, fre_em, fre_im, fre_ow, fre_bo, getM_eq, gM_ow, gM_io, putL_eq, pL_ow, pL_io, putLs, rsV, slM, slB, arsOf, arOf_im, arOf_int, arOf_str, arOf_bool, arOf_none, arOf_tuple, arOf_nw, arOf_sl, arOf_m, arS_ow, arS_io, arS_bo, arM_ow, arM_io, resP_ret, resP_next, resOf_im, resOf_nw, resOf_sl, rso_ow, outsOf, initG, slotA, bor, unb, clr, rst, gtName, gtTup, gtCons, gtNil, outI_next, outI_cont, outI_brk, outI_ret,
  List.getElem?_cons_zero, List.getElem?_cons_succ, List.set_cons_zero, List.set_cons_succ, List.map_cons, List.map_nil, List.cons_append, List.nil_append, List.append_nil, List.length_cons, List.length_nil, List.replicate_succ, List.replicate_zero, Nat.sub_self, Nat.reduceAdd, Nat.reduceSub, Nat.reduceEqDiff, List.getElem?_nil, 
  eqD_int, neD_int, eqD_bool, neD_bool, addD_int, subD_int, ltD_int, leD_int, gtD_int, geD_int, intD_int, intD_bool, lenL, lenT, listD_l, listD_t, tupleD_l, tupleD_t, ixL_int, ixT_int, ixS_int, negD_int, truD_b, atI0, atI1, atI2, List.nodup_nil, List.nodup_cons, List.not_mem_nil, not_false_eq_true, false_imp_iff, implies_true, and_true, true_and, and_self, if_true, if_false, Bool.false_eq_true, reduceIte, List.mem_cons, or_false, false_or, forall_eq, forall_eq_or_imp, imm_int, imm_str, beq_iff_eq, bne_iff_ne, decide_eq_true_eq, Bool.not_eq_true', $ls,*])
local macro_rules | `(tactic| dsimp! only [$ls,*]) => `(tactic| simp -implicitDefEqProofs only [↓wp_sIfY, ↓wp_var, ↓wp_c, ↓wp_op2, ↓wp_op1, ↓wp_aNil, ↓wp_aCons, ↓wp_cb, ↓wp_mut, ↓wp_mth, ↓wp_tup, ↓wp_lst, ↓wp_isi, ↓wp_isi2, ↓wp_bVal, ↓wp_bTru, ↓wp_bNot, ↓wp_bAnd, ↓wp_bOr, ↓wp_bYes, ↓wp_eIf, ↓wp_andV, ↓wp_orV, ↓wp_notV, ↓wp_oNone, ↓wp_oSome, ↓wp_sl, ↓wp_callC, ↓wp_sortK, ↓wp_zip, zp_t, ↓wp_rev, revT, revL, ↓wp_sMv, mvq_ow, ↓wp_idx, ↓wp_fmt, ↓wp_joined, ↓wp_js, ↓wp_jn, strV_s, ↓wp_never, imT_t,  skv_l, ↓wp_allS, ↓wp_seq, sq_next, sq_ret, sq_brk, sq_cont, ↓wp_next, ↓wp_brk, ↓wp_cont, ↓wp_ret, ↓wp_retN, ↓wp_drop, ↓wp_sSet, ↓wp_sAsg, ↓wp_sSetIx, ↓wp_iter, ↓wp_range1, ↓wp_range2, ↓wp_forP, ↓wp_lcP, pr_mk, vr_im, vr_ow, vr_io, vr_bo, rdv_im, rdv_nw, rdv_sl, rsl_ow, rsl_io, rsl_bo, rdvs_nil, rdvs_cons, cons2_some, ims_nil, ims_cons, o2_some, oo_some, om_some, imS_str, blV_b, inV1_i, imV_im, itv_t, itv_s, itv_n, itv_l, itl_ow, itl_bo, rg1_i, rg2_i, toV_int, toV_bool, toV_str, toV_tuple, toV_none, toV_list,
  slotOf, setS_eq, sS_fre, fre_em, fre_im, fre_ow, fre_bo, getM_eq, gM_ow, gM_io, putL_eq, pL_ow, pL_io, putLs, rsV, slM, slB, arsOf, arOf_im, arOf_int, arOf_str, arOf_bool, arOf_none, arOf_tuple, arOf_nw, arOf_sl, arOf_m, arS_ow, arS_io, arS_bo, arM_ow, arM_io, resP_ret, resP_next, resOf_im, resOf_nw, resOf_sl, rso_ow, outsOf, initG, slotA, bor, unb, clr, rst, gtName, gtTup, gtCons, gtNil, outI_next, outI_cont, outI_brk, outI_ret,
  List.getElem?_cons_zero, List.getElem?_cons_succ, List.set_cons_zero, List.set_cons_succ, List.map_cons, List.map_nil, List.cons_append, List.nil_append, List.append_nil, List.length_cons, List.length_nil, List.replicate_succ, List.replicate_zero, Nat.sub_self, Nat.reduceAdd, Nat.reduceSub, Nat.reduceEqDiff, List.getElem?_nil, 
  eqD_int, neD_int, eqD_bool, neD_bool, addD_int, subD_int, ltD_int, leD_int, gtD_int, geD_int, intD_int, intD_bool, lenL, lenT, listD_l, listD_t, tupleD_l, tupleD_t, ixL_int, ixT_int, ixS_int, negD_int, truD_b, atI0, atI1, atI2, List.nodup_nil, List.nodup_cons, List.not_mem_nil, not_false_eq_true, false_imp_iff, implies_true, and_true, true_and, and_self, if_true, if_false, Bool.false_eq_true, reduceIte, List.mem_cons, or_false, false_or, forall_eq, forall_eq_or_imp, imm_int, imm_str, beq_iff_eq, bne_iff_ne, decide_eq_true_eq, Bool.not_eq_true', $ls,*])
theorem nodup_set {α : Type} : ∀ {l : List α} {i : Nat} {x : α}, l.Nodup → x ∉ l → (l.set i x).Nodup
  | [], _, _, _, _ => by simp
  | a :: l, 0, x, h, hx => by
    rw [List.set_cons_zero, List.nodup_cons]
    rw [List.nodup_cons] at h
    exact ⟨fun m => hx (List.mem_cons_of_mem _ m), h.2⟩
  | a :: l, i + 1, x, h, hx => by
    rw [List.set_cons_succ, List.nodup_cons]
    rw [List.nodup_cons] at h
    refine ⟨fun m => ?_, nodup_set h.2 fun m => hx (List.mem_cons_of_mem _ m)⟩
    rcases List.mem_or_eq_of_mem_set m with m | e
    · exact h.1 m
    · exact hx (by rw [← e]; exact List.mem_cons_self)
theorem niD_strs {a : Str} {ws : List Str} : niD (.str a) (.list (DS ws)) = some (.bool (!decide (a ∈ ws))) := by
  have h := @inD_strs _ a ws
  unfold inD at h
  unfold niD
  cases e : inB (.str a) (.list (DS ws)) with
  | none => rw [e] at h; cases h
  | some q =>
    rw [e] at h
    simp only [Option.some.injEq, PyData.bool.injEq] at h
    simp only [h]
theorem some_words_spec {ns : List Int} {P : Rs → List (List PyData) → Prop} (h : ∀ ws ns', WOk 40 ws → ws.length = 10 → P (.l (DS ws)) [DI ns']) : wpF D_law_some_words [.m (DI ns), .v (.int 10)] P := by
  unfold D_law_some_words
  refine wp_F rfl ?_
  unfold m_law_some_words
  simp! only [true_and]
  refine words2_spec (by omega) fun ws ns1 hw hl => ?_
  have hl : ws.length = 10 := by simpa using hl
  simp! only [true_and]
  refine take_spec (by omega) fun v ns2 _ _ => ?_
  simp! only [true_and]
  split
  · refine ⟨by omega, ?_⟩
    refine loopI (fun i Γ => ∃ ns ws s3 s4, fre s3 ∧ fre s4 ∧ WOk 40 ws ∧ ws.length = 10 ∧ Γ = [.io (DI ns), .im (.int 10), .ow (DS ws), s3, s4]) ⟨ns2, ws, .em, .em, by simp! only [true_and], by simp! only [true_and], hw, hl, rfl⟩ ?_ ?_
    · rintro i d Γ hi ⟨ns, ws, s3, s4, h3, h4, hw, hl, rfl⟩
      have hd : ∃ a : Str, d = .str a ∧ 1 ≤ a.length ∧ a.length ≤ 40 ∧ PyData.strOk a = true := by
        have hm := get_mem hi
        simp only [List.mem_cons, List.not_mem_nil, or_false] at hm
        rcases hm with rfl | rfl
        · exact ⟨_, rfl, by decide, by decide, by decide +kernel⟩
        · exact ⟨_, rfl, by decide, by decide, by decide +kernel⟩
      obtain ⟨a, rfl, a1, a2, a3⟩ := hd
      simp! only [h3, h4]
      refine take_spec (by omega) fun v ns3 v0 v1 => ?_
      simp! only [h3, h4, niD_strs]
      split
      · rename_i hn
        refine take_spec (by omega) fun u ns4 u0 u1 => ?_
        simp! only [true_and]
        split
        · have hix : ixN (DS ws).length v = some v.toNat := by
            unfold ixN; rw [if_pos v0, if_pos (by simp; omega)]
          rw [hix]
          simp! only [true_and]
          refine ⟨ns4, ws.set v.toNat a, _, _, fre_im.mpr trivial, fre_im.mpr trivial, ⟨nodup_set hw.nd (by simpa using hn), fun x hx => ?_⟩, by simp [hl], by simp only [List.map_set] <;> rfl⟩
          rcases List.mem_or_eq_of_mem_set hx with hx | hx
          · exact hw.ok x hx
          · rw [hx]; exact ⟨a1, a2, a3⟩
        · exact ⟨ns4, ws, _, _, fre_im.mpr trivial, fre_im.mpr trivial, hw, hl, rfl⟩
      · exact ⟨ns3, ws, _, _, fre_im.mpr trivial, fre_im.mpr trivial, hw, hl, rfl⟩
    · rintro Γ ⟨ns, ws, s3, s4, h3, h4, hw, hl, rfl⟩
      simp! only [true_and]
      exact h _ _ hw hl
  · exact h _ _ hw hl
theorem number_specQ {b : Int → Prop} {ns sc : List Int} (hb : Bd b sc) {P : Rs → List (List PyData) → Prop} (h : ∀ v ns', b v → P (.v (.int v)) [DI ns']) : wpF D_law_number [.m (DI ns), .l (DI sc)] P := by
  unfold D_law_number
  refine wp_F rfl ?_
  unfold m_law_number
  simp! only [true_and]
  refine size_specQ hb fun v ns2 v0 vb => ?_
  simp! only [true_and]
  refine take_spec (by omega) fun u ns3 u0 u1 => ?_
  simp! only [true_and]
  rw [mulD_r (i := 2) (j := u) (by omega)]
  simp! only [true_and]
  rw [mulD_r (i := v) (j := 1 - 2 * u) (by omega)]
  simp! only [true_and]
  have hu : u = 0 ∨ u = 1 := by omega
  rcases hu with rfl | rfl
  · rw [show v * (1 - 2 * 0) = v by omega]; exact h _ _ vb
  · rw [show v * (1 - 2 * 1) = -v by omega]; exact h _ _ (hb.ng _ vb)
def VQ (b : Int → Prop) (d : PyData) : Prop := (∃ j, d = .int j ∧ b j) ∨ ∃ a, d = .str a ∧ (1 ≤ a.length ∧ a.length ≤ 40 ∧ PyData.strOk a = true)
theorem VQ.vl {b : Int → Prop} {d : PyData} (h : VQ b d) : VL d := by
  rcases h with ⟨j, rfl, _⟩ | ⟨a, rfl, _, _, k⟩
  · exact .inl ⟨j, rfl⟩
  · exact .inr ⟨a, rfl, k⟩
theorem any_value2_spec {b : Int → Prop} {ns sc : List Int} {ws : List Str} (hb : Bd b sc) (hw : WOk 40 ws) (hl : 1 ≤ ws.length ∧ ws.length ≤ 40) {P : Rs → List (List PyData) → Prop} (h : ∀ d ns', VQ b d → P (.v d) [DI ns']) : wpF D_law_any_value2 [.m (DI ns), .l (DI sc), .l (DS ws)] P := by
  unfold D_law_any_value2
  refine wp_F rfl ?_
  unfold m_law_any_value2
  simp! only [true_and]
  refine take_spec (by omega) fun v ns1 v0 v1 => ?_
  simp! only [true_and]
  split
  · refine pick_spec (ds := DS ws) (by simp; omega) immAll_strs fun d ns2 hd => ?_
    obtain ⟨a, ha, rfl⟩ := List.mem_map.mp hd
    simp! only [true_and]
    exact h _ _ (.inr ⟨a, rfl, hw.ok a ha⟩)
  · refine number_specQ hb fun v ns2 vb => ?_
    simp! only [true_and]
    exact h _ _ (.inl ⟨_, rfl, vb⟩)
/-! tables -/
structure SQ (l : List Tb) : Prop where
  ok : SOk l
  ln : l.length ≤ 21
  nm : ∀ t ∈ l, 1 ≤ t.1.length ∧ t.1.length ≤ 41
theorem lets_ok : ∀ c ∈ ("abcdefghijklmnopqrst" : Str).cps.toList, c < 1114112 := by
  rw [show ("abcdefghijklmnopqrst" : Str).cps.toList = [97,98,99,100,101,102,103,104,105,106,107,108,109,110,111,112,113,114,115,116] from rfl]
  decide
theorem lets_nd : ("abcdefghijklmnopqrst" : Str).cps.toList.Nodup := by
  rw [show ("abcdefghijklmnopqrst" : Str).cps.toList = [97,98,99,100,101,102,103,104,105,106,107,108,109,110,111,112,113,114,115,116] from rfl]
  decide
theorem any_schema2_spec {ns : List Int} {ws : List Str} (hw : WOk 40 ws) (hl : 1 ≤ ws.length ∧ ws.length ≤ 40) {P : Rs → List (List PyData) → Prop} (h : ∀ l ns', SQ l → P (.v (.tuple (TS l))) [DI ns']) : wpF D_law_any_schema2 [.m (DI ns), .l (DS ws)] P := by
  unfold D_law_any_schema2
  refine wp_F rfl ?_
  unfold m_law_any_schema2
  dsimp! only [true_and]
  refine ⟨by omega, ?_⟩
  refine take_spec (by omega) fun v ns1 v0 v1 => ?_
  obtain ⟨d, e, _, hm⟩ := atI_in (ds := [PyData.int 3, .int 2, .int 4, .int 3, .int 1, .int 0]) v0 (by simpa using v1)
  have hz : ∃ z : Int, d = .int z ∧ 0 ≤ z ∧ z ≤ 4 := by
    simp only [List.mem_cons, List.not_mem_nil, or_false] at hm
    rcases hm with rfl | rfl | rfl | rfl | rfl | rfl <;> exact ⟨_, rfl, by omega, by omega⟩
  obtain ⟨z, rfl, z0, z1⟩ := hz
  dsimp! only [true_and]
  rw [e]
  have hsl : slD (.list (DS ws)) none (some z) = some (.list (DS (ws.take z.toNat))) := by
    show some (PyData.list (cutL _ _ _)) = _
    rw [cut_to z0]; simp only [DS, List.map_take]
  dsimp! only [hsl]
  refine wp_mono (P := fun o Γ => IV (o = .next ∧ ∃ ns names, names.length ≤ 20 ∧ names.Nodup ∧ (∀ a ∈ names, 1 ≤ a.length ∧ a.length ≤ 41 ∧ PyData.strOk a = true) ∧ Γ = [.io (DI ns), .bo (DS ws), .im (.int z), .ow (DS names), .em, .em, .em, .em, .em])) ?_ ?_
  · simp! only [true_and]
    refine take_spec (by omega) fun v2 ns2 _ _ => ?_
    simp! only [true_and]
    split
    · have hcl : (chars "abcdefghijklmnopqrst").length = 20 := by decide +kernel
      refine lcI (fun j acc Γ => acc = DS ((("abcdefghijklmnopqrst" : Str).cps.toList.take j).map fun c => ws[0]'(by omega) ++ (⟨#[c]⟩ : Str)) ∧ Γ = [.io (DI ns2), .bo (DS ws), .im (.int z), .ow (DS (ws.take z.toNat)), .em, .em, .em, .em, .em]) ⟨rfl, rfl⟩ ?_ ?_
      · rintro j d acc Γ hj ⟨rfl, rfl⟩
        unfold chars at hj
        rw [List.getElem?_map, Option.map_eq_some_iff] at hj
        obtain ⟨c, hc, rfl⟩ := hj
        have e0 : atI (DS ws) 0 = some (PyData.str (ws[0]'(by omega))) := by
          refine L2.atI_nat (j := 0) ?_
          simp [DS, List.getElem?_map, List.getElem?_eq_getElem (show 0 < ws.length by omega)]
        have h0 := hw.ok (ws[0]'(by omega)) (List.getElem_mem _)
        have hl1 : ({ cps := #[c] } : Str).length = 1 := rfl
        simp! only [e0, addD_str (a := ws[0]'(by omega)) (b := ⟨#[c]⟩) (by rw [hl1]; omega)]
        have hjl : j < ("abcdefghijklmnopqrst" : Str).cps.toList.length := (List.getElem?_eq_some_iff.mp hc).1
        have hjl2 : ("abcdefghijklmnopqrst" : Str).cps.toList.length = 20 := by decide +kernel
        refine ⟨by simp; omega, ?_, rfl⟩
        rw [List.take_add_one, hc]
        simp only [Option.toList_some, List.map_append, List.map_cons, List.map_nil]
      rintro acc Γ ⟨rfl, rfl⟩
      rw [show (chars "abcdefghijklmnopqrst").length = ("abcdefghijklmnopqrst" : Str).cps.toList.length from List.length_map .., List.take_length]
      simp! only [true_and]
      have h0 := hw.ok (ws[0]'(by omega)) (List.getElem_mem _)
      refine ⟨rfl, ns2, _, ?_, ?_, ?_, rfl⟩
      · rw [List.length_map]
        exact (show ("abcdefghijklmnopqrst" : Str).cps.toList.length ≤ 20 by decide +kernel)
      · refine List.Pairwise.map _ (fun a b hab e => hab ?_) lets_nd
        have e2 : (ws[0]'(by omega)).cps ++ #[a] = (ws[0]'(by omega)).cps ++ #[b] := congrArg Str.cps e
        have e3 := congrArg Array.toList e2
        simpa using e3
      · intro a ha
        obtain ⟨c, hc, rfl⟩ := List.mem_map.mp ha
        have hl1 : ({ cps := #[c] } : Str).length = 1 := rfl
        refine ⟨by rw [len_app]; omega, by rw [len_app, hl1]; omega, ?_⟩
        rw [strOk_app, h0.2.2]
        have := lets_ok c hc
        simp [PyData.strOk, this]
    · refine ⟨rfl, ns2, ws.take z.toNat, by rw [List.length_take]; omega, hw.nd.sublist (List.take_sublist _ _), fun a ha => ?_, rfl⟩
      have := hw.ok a (List.mem_of_mem_take ha)
      exact ⟨this.1, by omega, this.2.2⟩
  rintro o Γ ⟨rfl, ns2, names0, nl, nd, nok, rfl⟩
  have hso : sortSD [.list (DS names0)] = some (.list (DS (sortStrs names0))) := by
    simp only [sortSD, strsOf_map]
    rw [if_pos (by omega)]
  simp! only [hso]
  have hp := sortStrs_perm names0
  have hnd : (sortStrs names0).Nodup := hp.nodup_iff.mpr nd
  have hok : ∀ a ∈ sortStrs names0, 1 ≤ a.length ∧ a.length ≤ 41 ∧ PyData.strOk a = true := fun a ha => nok a (hp.mem_iff.mp ha)
  have hln : (sortStrs names0).length ≤ 20 := by rw [hp.length_eq]; exact nl
  clear hp hso
  generalize sortStrs names0 = names at *
  refine ⟨by omega, ?_⟩
  refine loopI (fun i Γ => ∃ ns l s5 s6 s7, fre s5 ∧ fre s6 ∧ fre s7 ∧ l.map (·.1) = names.take i ∧ (∀ t ∈ l, PyData.strOk t.1 = true ∧ 0 ≤ t.2.1 ∧ 0 ≤ t.2.2 ∧ t.2.1 + t.2.2 ≤ 8) ∧ Γ = [.io (DI ns), .bo (DS ws), .im (.int z), .ow (DS names0), .ow (TS l), s5, s6, s7, .em]) ⟨ns2, [], .em, .em, .em, by simp! only [true_and], by simp! only [true_and], by simp! only [true_and], rfl, by simp, rfl⟩ ?_ ?_
  · rintro i d Γ hi ⟨ns, l, s5, s6, s7, h5, h6, h7, hln', hlo, rfl⟩
    have hi' : i < (DS names).length := (List.getElem?_eq_some_iff.mp hi).1
    simp at hi'
    have : d = .str names[i] := by
      have := (List.getElem?_eq_some_iff.mp hi).2
      rw [← this]; simp
    subst this
    have hlc : l.length ≤ 21 := by
      have := congrArg List.length hln'
      rw [List.length_map, List.length_take] at this; omega
    dsimp! only [h5]
    refine take_spec (by omega) fun k ns3 k0 k1 => ?_
    dsimp! only [h6]
    refine ⟨by omega, ?_⟩
    refine take_spec (by omega) fun r ns4 r0 r1 => ?_
    obtain ⟨d, e, _, hm⟩ := atI_in (ds := [PyData.int 2, .int 3, .int 1, .int 2, .int k, .int 0]) r0 (by simpa using r1)
    have hz : ∃ q : Int, d = .int q ∧ 0 ≤ q ∧ q ≤ 8 := by
      simp only [List.mem_cons, List.not_mem_nil, or_false] at hm
      rcases hm with rfl | rfl | rfl | rfl | rfl | rfl
      all_goals exact ⟨_, rfl, by omega, by omega⟩
    obtain ⟨q, rfl, q0, q1⟩ := hz
    dsimp! only [h6]
    rw [e]
    dsimp! only [h7]
    refine take_spec (by omega) fun u ns5 u0 u1 => ?_
    simp! only [h7]
    rw [appendM_ok (by simp [imm, immAll]) (by simp; omega)]
    simp! only [true_and]
    refine ⟨by omega, ns5, l ++ [(names[i], u, q - u)], _, _, _, fre_im.mpr trivial, fre_im.mpr trivial, fre_im.mpr trivial, ?_, ?_, by simp only [List.map_append, List.map_cons, List.map_nil] <;> rfl⟩
    · rw [List.map_append, hln', List.take_add_one, List.getElem?_eq_getElem hi']; rfl
    · intro t ht
      rcases List.mem_append.mp ht with ht | ht
      · exact hlo t ht
      · rw [List.mem_singleton.mp ht]
        exact ⟨(hok _ (List.getElem_mem hi')).2.2, u0, (show 0 ≤ q - u by omega), (show u + (q - u) ≤ 8 by omega)⟩
  · rintro Γ ⟨ns, l, s5, s6, s7, h5, h6, h7, hl', hlo, rfl⟩
    simp! only [true_and]
    rw [List.length_map, List.take_length] at hl'
    refine h _ _ ⟨⟨by rw [hl']; exact hnd, hlo⟩, ?_, fun t ht => ?_⟩
    · have := congrArg List.length hl'
      rw [List.length_map] at this; omega
    · have : t.1 ∈ names := by rw [← hl']; exact List.mem_map.mpr ⟨t, ht, rfl⟩
      exact ⟨(hok _ this).1, (hok _ this).2.1⟩
structure FQ (b : Int → Prop) (l : List Tb) (f : Fc) : Prop where
  ok : FOk l f
  vq : ∀ d ∈ f.2, VQ b d
theorem any_facts2_spec {b : Int → Prop} {ns sc : List Int} {ws : List Str} {l : List Tb} (hb : Bd b sc) (hw : WOk 40 ws) (hwl : 1 ≤ ws.length ∧ ws.length ≤ 40) (hl : SQ l) {many : Int} (hmany : 0 ≤ many ∧ many ≤ 60) {P : Rs → List (List PyData) → Prop} (h : ∀ fs ns', (∀ f ∈ fs, FQ b l f) → fs.length ≤ many.toNat → P (.l (FS fs)) [DI ns']) : wpF D_law_any_facts2 [.m (DI ns), .l (DI sc), .l (DS ws), .v (.tuple (TS l)), .v (.int many)] P := by
  unfold D_law_any_facts2
  refine wp_F rfl ?_
  unfold m_law_any_facts2
  dsimp! only [true_and]
  refine ⟨by omega, ?_⟩
  refine take_spec (by omega) fun n ns2 n0 n1 => ?_
  dsimp! only [true_and]
  refine ⟨by omega, ?_⟩
  refine loopI (fun i Γ => ∃ ns fs s6 s7 s8 s9, fre s6 ∧ fre s7 ∧ fre s8 ∧ fre s9 ∧ fs.length ≤ i ∧ (∀ f ∈ fs, FQ b l f) ∧ Γ = [.io (DI ns), .bo (DI sc), .bo (DS ws), .im (.tuple (TS l)), .im (.int many), .ow (FS fs), s6, s7, s8, s9, .em, .em]) ⟨ns2, [], .em, .em, .em, .em, by simp! only [true_and], by simp! only [true_and], by simp! only [true_and], by simp! only [true_and], by simp, by simp, rfl⟩ ?_ ?_
  · rintro i d Γ hi ⟨ns, fs, s6, s7, s8, s9, h6, h7, h8, h9, hfl, hfo, rfl⟩
    obtain ⟨rfl, hi⟩ := rng1_get hi
    dsimp! only [h6]
    rw [wpY_eq, wp_sIf]
    dsimp! only [true_and]
    split
    · rename_i hz
      refine pickT_spec (ds := TS l) (by omega) immAll_TS fun d ns3 hd => ?_
      obtain ⟨t, ht, rfl⟩ := List.mem_map.mp hd
      obtain ⟨t0, t1, t2, t3⟩ := hl.ok.ok t ht
      dsimp! only [h7]
      refine ⟨by omega, ?_⟩
      refine lcI (fun j acc Γ => ∃ ns, acc.length = j ∧ (∀ d ∈ acc, VQ b d) ∧ Γ = [.io (DI ns), .bo (DI sc), .bo (DS ws), .im (.tuple (TS l)), .im (.int many), .ow (FS fs), .im (.int i), .im (tD t), s8, s9, .em, .em]) ⟨ns3, rfl, by simp, rfl⟩ ?_ ?_
      · rintro j d acc Γ hj ⟨ns, ha, hv, rfl⟩
        obtain ⟨rfl, hj⟩ := rng1_get hj
        simp! only [true_and]
        refine any_value2_spec hb hw hwl fun d ns2 hd => ?_
        simp! only [true_and]
        refine ⟨by omega, ns2, by simp [ha], ?_, rfl⟩
        intro x hx
        rcases List.mem_append.mp hx with hx | hx
        · exact hv x hx
        · rw [List.mem_singleton.mp hx]; exact hd
      rintro row Γ ⟨ns4, hrl, hrv, rfl⟩
      rw [rng1_len] at hrl
      dsimp! only [h8]
      refine lcI (fun j acc Γ => ∃ gs, acc = FS gs ∧ gs.length ≤ j ∧ (∀ g ∈ gs, g ∈ fs ∧ g.1 = t.1) ∧ Γ = [.io (DI ns4), .bo (DI sc), .bo (DS ws), .im (.tuple (TS l)), .im (.int many), .bo (FS fs), .im (.int i), .im (tD t), .ow row, s9, .em, .em]) ⟨[], rfl, by simp, by simp, rfl⟩ ?_ ?_
      · rintro j d acc Γ hj ⟨gs, rfl, hgl, hgo, rfl⟩
        have hj' : j < (FS fs).length := (List.getElem?_eq_some_iff.mp hj).1
        simp at hj'
        obtain ⟨f, hf, rfl⟩ := List.mem_map.mp (get_mem hj)
        simp! only [eqD_str (a := f.1) (b := t.1) (hfo f hf).ok.nm t0]
        split
        · rename_i he
          refine ⟨by simp; omega, gs ++ [f], by simp, by simp; omega, ?_, rfl⟩
          intro g hg
          rcases List.mem_append.mp hg with hg | hg
          · exact hgo g hg
          · rw [List.mem_singleton.mp hg]; exact ⟨hf, by simpa using he⟩
        · exact ⟨gs, rfl, by omega, hgo, rfl⟩
      rintro acc Γ ⟨gs, rfl, hgl, hgo, rfl⟩
      rw [List.length_map] at hgl
      dsimp! only [h9]
      refine wp_mono (P := fun o Γ => IV (o = .next ∧ ∃ ns row, (row.length : Int) = t.2.1 + t.2.2 ∧ (∀ d ∈ row, VQ b d) ∧ Γ = [.io (DI ns), .bo (DI sc), .bo (DS ws), .im (.tuple (TS l)), .im (.int many), .ow (FS fs), .im (.int i), .im (tD t), .ow row, .ow (FS gs), .em, .em])) ?_ ?_
      · simp! only [true_and]
        split
        · rename_i hg0
          refine take_spec (by omega) fun v ns5 _ _ => ?_
          simp! only [true_and]
          split
          · have hgi : immAll (FS gs) = true := immAll_of fun d hd => by
              obtain ⟨g, hg, rfl⟩ := List.mem_map.mp hd
              exact imm_fD (hfo g (hgo g hg).1).ok.vl
            refine pick_spec (ds := FS gs) (by omega) hgi fun d ns6 hd => ?_
            obtain ⟨g, hg, rfl⟩ := List.mem_map.mp hd
            obtain ⟨hgf, hgn⟩ := hgo g hg
            have hgk := hfo g hgf
            obtain ⟨t', ht', e1, e2⟩ := hgk.ok.tb
            have := uniq hl.ok.nd ht' ht (e1.trans hgn)
            subst this
            simp! only [slT_to (ds := g.2) t1, slL_from (ds := row) t1]
            rw [addD_list (by rw [List.length_take, List.length_drop]; omega)]
            simp! only [true_and]
            refine ⟨rfl, ns6, _, ?_, ?_, rfl⟩
            · rw [List.length_append, List.length_take, List.length_drop]; omega
            · intro x hx
              rcases List.mem_append.mp hx with hx | hx
              · exact hgk.vq x (List.mem_of_mem_take hx)
              · exact hrv x (List.mem_of_mem_drop hx)
          · exact ⟨rfl, ns5, row, by omega, hrv, rfl⟩
        · exact ⟨rfl, ns4, row, by omega, hrv, rfl⟩
      rintro o Γ ⟨rfl, ns5, row, hrl, hrv, rfl⟩
      simp! only [true_and]
      have hrv' : ∀ d ∈ row, VL d := fun d hd => (hrv d hd).vl
      rw [appendM_ok (imm_fD (f := (t.1, row)) hrv') (by simp; omega)]
      simp! only [true_and]
      refine ⟨by omega, ns5, fs ++ [(t.1, row)], _, _, _, _, fre_im.mpr trivial, fre_im.mpr trivial, fre_ow.mpr trivial, fre_ow.mpr trivial, by simp; omega, ?_, by simp only [List.map_append, List.map_cons, List.map_nil] <;> rfl⟩
      intro f hf
      rcases List.mem_append.mp hf with hf | hf
      · exact hfo f hf
      · rw [List.mem_singleton.mp hf]; exact ⟨⟨t0, ⟨t, ht, rfl, hrl⟩, hrv'⟩, hrv⟩
    · exact ⟨ns, fs, _, _, _, _, fre_im.mpr trivial, h7, h8, h9, by omega, hfo, rfl⟩
  · rintro Γ ⟨ns, fs, s6, s7, s8, s9, h6, h7, h8, h9, hfl, hfo, rfl⟩
    simp! only [true_and]
    rw [rng1_len] at hfl
    exact h _ _ hfo (by omega)
end Lw
end

section
set_option Elab.async false
set_option linter.all false
set_option maxRecDepth 100000
set_option maxHeartbeats 400000
namespace Lw
open PySem PySem.Spec PyProof.Rows L2 Vf
variable [Tabs]
local macro_rules | `(tactic| simp! only [$ls,*]) => `(tactic| simp -implicitDefEqProofs only [↓wp_var, ↓wp_c, ↓wp_op2, ↓wp_op1, ↓wp_aNil, ↓wp_aCons, ↓wp_cb, ↓wp_mut, ↓wp_mth, ↓wp_tup, ↓wp_lst, ↓wp_isi, ↓wp_isi2, ↓wp_bVal, ↓wp_bTru, ↓wp_bNot, ↓wp_bAnd, ↓wp_bOr, ↓wp_bYes, ↓wp_eIf, ↓wp_andV, ↓wp_orV, ↓wp_notV, ↓wp_oNone, ↓wp_oSome, ↓wp_sl, ↓wp_callC, ↓wp_sortK, ↓wp_zip, zp_t, ↓wp_rev, revT, revL, ↓wp_sMv, mvq_ow, ↓wp_idx, ↓wp_fmt, ↓wp_joined, ↓wp_js, ↓wp_jn, strV_s, ↓wp_never, imT_t,  skv_l, ↓wp_allS, ↓wp_seq, sq_next, sq_ret, sq_brk, sq_cont, ↓wp_next, ↓wp_brk, ↓wp_cont, ↓wp_ret, ↓wp_retN, ↓wp_drop, ↓wp_sIf, ↓wp_sSet, ↓wp_sAsg, ↓wp_sSetIx, ↓wp_iter, ↓wp_range1, ↓wp_range2, ↓wp_forP, ↓wp_lcP, pr_mk, vr_im, vr_ow, vr_io, vr_bo, rdv_im, rdv_nw, rdv_sl, rsl_ow, rsl_io, rsl_bo, rdvs_nil, rdvs_cons, cons2_some, ims_nil, ims_cons, o2_some, oo_some, om_some, imS_str, blV_b, inV1_i, imV_im, itv_t, itv_s, itv_n, itv_l, itl_ow, itl_bo, rg1_i, rg2_i, toV_int, toV_bool, toV_str, toV_tuple, toV_none, toV_list,
  slotOf, setS_eq, sS_fre, fre_em, fre_im, fre_ow, fre_bo, getM_eq, gM_ow, gM_io, putL_eq, pL_ow, pL_io, putLs, rsV, slM, slB, arsOf, arOf_im, arOf_int, arOf_str, arOf_bool, arOf_none, arOf_tuple, arOf_nw, arOf_sl, arOf_m, arS_ow, arS_io, arS_bo, arM_ow, arM_io, resP_ret, resP_next, resOf_im, resOf_nw, resOf_sl, rso_ow, outsOf, initG, slotA, bor, unb, clr, rst, gtName, gtTup, gtCons, gtNil, outI_next, outI_cont, outI_brk, outI_ret,
  List.getElem?_cons_zero, List.getElem?_cons_succ, List.set_cons_zero, List.set_cons_succ, List.map_cons, List.map_nil, List.cons_append, List.nil_append, List.append_nil, List.length_cons, List.length_nil, List.replicate_succ, List.replicate_zero, Nat.sub_self, Nat.reduceAdd, Nat.reduceSub, Nat.reduceEqDiff, List.getElem?_nil, 
  eqD_int, neD_int, eqD_bool, neD_bool, addD_int, subD_int, ltD_int, leD_int, gtD_int, geD_int, intD_int, intD_bool, lenL, lenT, listD_l, listD_t, tupleD_l, tupleD_t, ixL_int, ixT_int, ixS_int, negD_int, truD_b, atI0, atI1, atI2, List.nodup_nil, List.nodup_cons, List.not_mem_nil, not_false_eq_true, false_imp_iff, implies_true, and_true, true_and, and_self, if_true, if_false, Bool.false_eq_true, reduceIte, List.mem_cons, or_false, false_or, forall_eq, forall_eq_or_imp, imm_int, imm_str, beq_iff_eq, bne_iff_ne, decide_eq_true_eq, Bool.not_eq_true', $ls,*])
local macro_rules | `(tactic| dsimp! only [$ls,*]) => `(tactic| simp -implicitDefEqProofs only [↓wp_sIfY, ↓wp_var, ↓wp_c, ↓wp_op2, ↓wp_op1, ↓wp_aNil, ↓wp_aCons, ↓wp_cb, ↓wp_mut, ↓wp_mth, ↓wp_tup, ↓wp_lst, ↓wp_isi, ↓wp_isi2, ↓wp_bVal, ↓wp_bTru, ↓wp_bNot, ↓wp_bAnd, ↓wp_bOr, ↓wp_bYes, ↓wp_eIf, ↓wp_andV, ↓wp_orV, ↓wp_notV, ↓wp_oNone, ↓wp_oSome, ↓wp_sl, ↓wp_callC, ↓wp_sortK, ↓wp_zip, zp_t, ↓wp_rev, revT, revL, ↓wp_sMv, mvq_ow, ↓wp_idx, ↓wp_fmt, ↓wp_joined, ↓wp_js, ↓wp_jn, strV_s, ↓wp_never, imT_t,  skv_l, ↓wp_allS, ↓wp_seq, sq_next, sq_ret, sq_brk, sq_cont, ↓wp_next, ↓wp_brk, ↓wp_cont, ↓wp_ret, ↓wp_retN, ↓wp_drop, ↓wp_sSet, ↓wp_sAsg, ↓wp_sSetIx, ↓wp_iter, ↓wp_range1, ↓wp_range2, ↓wp_forP, ↓wp_lcP, pr_mk, vr_im, vr_ow, vr_io, vr_bo, rdv_im, rdv_nw, rdv_sl, rsl_ow, rsl_io, rsl_bo, rdvs_nil, rdvs_cons, cons2_some, ims_nil, ims_cons, o2_some, oo_some, om_some, imS_str, blV_b, inV1_i, imV_im, itv_t, itv_s, itv_n, itv_l, itl_ow, itl_bo, rg1_i, rg2_i, toV_int, toV_bool, toV_str, toV_tuple, toV_none, toV_list,
  slotOf, setS_eq, sS_fre, fre_em, fre_im, fre_ow, fre_bo, getM_eq, gM_ow, gM_io, putL_eq, pL_ow, pL_io, putLs, rsV, slM, slB, arsOf, arOf_im, arOf_int, arOf_str, arOf_bool, arOf_none, arOf_tuple, arOf_nw, arOf_sl, arOf_m, arS_ow, arS_io, arS_bo, arM_ow, arM_io, resP_ret, resP_next, resOf_im, resOf_nw, resOf_sl, rso_ow, outsOf, initG, slotA, bor, unb, clr, rst, gtName, gtTup, gtCons, gtNil, outI_next, outI_cont, outI_brk, outI_ret,
  List.getElem?_cons_zero, List.getElem?_cons_succ, List.set_cons_zero, List.set_cons_succ, List.map_cons, List.map_nil, List.cons_append, List.nil_append, List.append_nil, List.length_cons, List.length_nil, List.replicate_succ, List.replicate_zero, Nat.sub_self, Nat.reduceAdd, Nat.reduceSub, Nat.reduceEqDiff, List.getElem?_nil, 
  eqD_int, neD_int, eqD_bool, neD_bool, addD_int, subD_int, ltD_int, leD_int, gtD_int, geD_int, intD_int, intD_bool, lenL, lenT, listD_l, listD_t, tupleD_l, tupleD_t, ixL_int, ixT_int, ixS_int, negD_int, truD_b, atI0, atI1, atI2, List.nodup_nil, List.nodup_cons, List.not_mem_nil, not_false_eq_true, false_imp_iff, implies_true, and_true, true_and, and_self, if_true, if_false, Bool.false_eq_true, reduceIte, List.mem_cons, or_false, false_or, forall_eq, forall_eq_or_imp, imm_int, imm_str, beq_iff_eq, bne_iff_ne, decide_eq_true_eq, Bool.not_eq_true', $ls,*])
/-! texts -/
abbrev B60 : Int → Prop := fun j => j.natAbs < 10 ^ 60
theorem bd60 {sc : List Int} : Bd B60 (sc.map fun c => c % 10 ^ 60) := ⟨fun v h0 h1 => by
  show v.natAbs < 10 ^ 60
  omega, fun v h => by
  show (-v).natAbs < 10 ^ 60
  have h : v.natAbs < 10 ^ 60 := h
  omega, fun s hs => by
  obtain ⟨c, _, rfl⟩ := List.mem_map.mp hs
  show (if c % 10 ^ 60 < 0 then -(c % 10 ^ 60) else c % 10 ^ 60).natAbs < 10 ^ 60
  split <;> omega⟩
theorem b60_log {j : Int} (h : B60 j) : j.natAbs.log2 < 1920 := by
  by_cases h0 : j.natAbs = 0
  · rw [h0]; decide
  · rw [Nat.log2_lt h0]
    exact Nat.lt_trans h (by decide +kernel)
theorem strOk_of (s : String) : PyData.strOk (Str.ofString s) = true := by
  rw [Str.ofString_eq_toList]
  show (s.toList.map Char.toNat).toArray.all _ = true
  rw [List.all_toArray, List.all_eq_true]
  intro n hn
  obtain ⟨c, _, rfl⟩ := List.mem_map.mp hn
  have h : c.toNat < 0xd800 ∨ 0xdfff < c.toNat ∧ c.toNat < 0x110000 := c.valid
  simp only [decide_eq_true_eq]
  omega
theorem int_len {j : Int} (h : B60 j) : (Str.ofString (toString j)).length ≤ 61 := by
  have e := int_text_length_le10 (k := 60) (by decide) h
  rw [PySem.ofString_length]; omega
theorem int_pos {j : Int} : 1 ≤ (Str.ofString (toString j)).length := by
  rw [PySem.ofString_length]
  cases j with
  | ofNat m =>
    have e : toString (Int.ofNat m) = Nat.repr m := rfl
    rw [e]
    exact Nat.length_repr_pos
  | negSucc m =>
    have e : toString (Int.negSucc m) = "-" ++ Nat.repr (m + 1) := rfl
    rw [e, String.length_append]
    have e1 : "-".length = 1 := rfl
    omega
/-- codes -/
abbrev cd (a : Str) : List Nat := a.cps.toList
theorem str_ext {a b : Str} (h : cd a = cd b) : a = b := by
  obtain ⟨a⟩ := a
  obtain ⟨b⟩ := b
  have : a = b := Array.ext' h
  rw [this]
theorem cd_app {a b : Str} : cd (a ++ b) = cd a ++ cd b := by
  show (a.cps ++ b.cps).toList = _
  rw [Array.toList_append]
theorem app_assoc {a b c : Str} : (a ++ b) ++ c = a ++ (b ++ c) := str_ext (by rw [cd_app, cd_app, cd_app, cd_app, List.append_assoc])
theorem emp_app {a : Str} : Str.empty ++ a = a := str_ext (by rw [cd_app]; rfl)
theorem app_emp {a : Str} : a ++ Str.empty = a := str_ext (by rw [cd_app]; exact List.append_nil _)
theorem join0 {s : Str} : Txt.join s [] = Str.empty := rfl
theorem join1 {s a : Str} : Txt.join s [a] = a := rfl
theorem join_go {s : Str} : ∀ (l : List Str) (acc : Array Nat), (l.foldl (fun acc p => acc ++ s.cps ++ p.cps) acc).toList = acc.toList ++ (l.map fun p => cd s ++ cd p).flatten
  | [], acc => by simp
  | p :: l, acc => by
    rw [List.foldl_cons, join_go l]
    simp [cd]
theorem cd_join {s a : Str} {l : List Str} : cd (Txt.join s (a :: l)) = cd a ++ (l.map fun p => cd s ++ cd p).flatten := by
  show ((l.foldl (fun acc p => acc ++ s.cps ++ p.cps) a.cps)).toList = _
  rw [join_go]
theorem mul1 {a : Str} : Txt.mul a 1 = a := by
  unfold Txt.mul
  rw [if_neg (by decide), if_pos (by simp)]
theorem mul0 {a : Str} : Txt.mul a 0 = Str.empty := by
  unfold Txt.mul
  rw [if_pos (by decide)]
/-- a value's text -/
def vtx : PyData → Str
  | .int j => Str.ofString (toString j)
  | .str a => ("\"" : Str) ++ a ++ ("\"" : Str)
  | _ => Str.empty
structure TxOk (n : Nat) (a : Str) : Prop where
  lo : 1 ≤ a.length
  hi : a.length ≤ n
  ok : PyData.strOk a = true
theorem q_ok : PyData.strOk ("\"" : Str) = true := strOk_of _
theorem vtx_ok {d : PyData} (h : VQ B60 d) : TxOk 61 (vtx d) := by
  rcases h with ⟨j, rfl, hj⟩ | ⟨a, rfl, a0, a1, a2⟩
  · exact ⟨int_pos, int_len hj, strOk_of _⟩
  · have e : (("\"" : Str)).length = 1 := rfl
    refine ⟨?_, ?_, ?_⟩
    · show 1 ≤ (("\"" : Str) ++ a ++ ("\"" : Str)).length
      rw [len_app, len_app, e]; omega
    · show (("\"" : Str) ++ a ++ ("\"" : Str)).length ≤ 61
      rw [len_app, len_app, e]; omega
    · show PyData.strOk (("\"" : Str) ++ a ++ ("\"" : Str)) = true
      rw [strOk_app, strOk_app, q_ok, a2]; rfl
theorem strD_ok {j : Int} (h : B60 j) : strD [.int j] = some (.str (Str.ofString (toString j))) := by
  show (if _ then _ else _) = _
  rw [if_pos (b60_log h)] <;> rfl
theorem fmtS_int {j : Int} (h : B60 j) : fmtS (.int j) = some (Str.ofString (toString j)) := by
  show (if _ then _ else _) = _
  rw [if_pos (b60_log h)] <;> rfl
theorem fmtS_str {a : Str} (h : a.length ≤ 1000000) : fmtS (.str a) = some a := by
  show (if _ then _ else _) = _
  rw [if_pos (by simpa [small] using h)]
theorem isi_int {j : Int} : isi1 (tyN (.int j)) "str" = false := (show isi1 (tyN (.int 0)) "str" = false by decide +kernel)
theorem isi_str {a : Str} : isi1 (tyN (.str a)) "str" = true := (show isi1 (tyN (.str (Str.ofString ""))) "str" = true by decide +kernel)
theorem isi_strI {a : Str} : ¬ isi1 (tyN (.str a)) "int" = true := (show ¬ isi1 (tyN (.str (Str.ofString ""))) "int" = true by decide +kernel)
theorem value_text_spec {d : PyData} (h : VQ B60 d) {P : Rs → List (List PyData) → Prop} (k : P (.v (.str (vtx d))) []) : wpF D_value_text [.v d] P := by
  unfold D_value_text
  refine wp_F rfl ?_
  unfold m_value_text
  rcases h with ⟨j, rfl, hj⟩ | ⟨a, rfl, a0, a1, a2⟩
  · simp! only [strD_ok hj]
    exact ⟨by decide, k⟩
  · have e : (("\"" : Str)).length = 1 := rfl
    have e0 : (Str.empty ++ ("\"" : Str)).length = 1 := by rw [emp_app]; rfl
    simp! only [fmtS_str (a := a) (by omega)]
    refine ⟨by decide, ?_⟩
    rw [if_neg isi_strI]
    rw [emp_app]
    refine ⟨by rw [e]; omega, by rw [len_app, e]; omega, by rw [len_app, len_app, e]; omega, k⟩
theorem ok_var : PyData.strOk ("var" : Str) = true := strOk_of _
theorem ok_value : PyData.strOk ("value" : Str) = true := strOk_of _
/-- a term -/
inductive TQ (b : Int → Prop) : PyData → Prop where
  | var {a : Str} (h : 1 ≤ a.length ∧ a.length ≤ 40 ∧ PyData.strOk a = true) : TQ b (.tuple [.str "var", .str a])
  | val {d : PyData} (h : VQ b d) : TQ b (.tuple [.str "value", d])
def ttx : PyData → Str
  | .tuple [.str k, .str a] => if k = ("var" : Str) then a else vtx (.str a)
  | .tuple [_, d] => vtx d
  | _ => Str.empty
theorem var_value : ¬ ("value" : Str) = ("var" : Str) := by decide +kernel
theorem ttx_val {b : Int → Prop} {d : PyData} (h : VQ b d) : ttx (.tuple [.str "value", d]) = vtx d := by
  rcases h with ⟨j, rfl, hj⟩ | ⟨a, rfl, _⟩
  · rfl
  · show (if ("value" : Str) = ("var" : Str) then a else vtx (.str a)) = _
    rw [if_neg var_value]
theorem ttx_var {a : Str} : ttx (.tuple [.str "var", .str a]) = a := by
  show (if ("var" : Str) = ("var" : Str) then a else vtx (.str a)) = _
  rw [if_pos rfl]
theorem ttx_ok {d : PyData} (h : TQ B60 d) : TxOk 61 (ttx d) := by
  cases h with
  | var h => rw [ttx_var]; exact ⟨h.1, by omega, h.2.2⟩
  | val h => rw [ttx_val h]; exact vtx_ok h
theorem TQ.gd {b : Int → Prop} {d : PyData} (h : TQ b d) : gd 1 d := by
  cases h with
  | var h =>
    refine gd_tup (by simp) fun x hx => ?_
    · simp only [List.mem_cons, List.not_mem_nil, or_false] at hx
      rcases hx with rfl | rfl
      · show VL _
        exact .inr ⟨_, rfl, ok_var⟩
      · show VL _
        exact .inr ⟨_, rfl, h.2.2⟩
  | val h =>
    refine gd_tup (by simp) fun x hx => ?_
    · simp only [List.mem_cons, List.not_mem_nil, or_false] at hx
      rcases hx with rfl | rfl
      · show VL _
        exact .inr ⟨_, rfl, ok_value⟩
      · exact h.vl
theorem piece_spec {d : PyData} (h : TQ B60 d) {P : Rs → List (List PyData) → Prop} (k : P (.v (.str (ttx d))) []) : wpF D_law_piece [.v d] P := by
  unfold D_law_piece
  refine wp_F rfl ?_
  unfold m_law_piece
  have e : (("\"" : Str)).length = 1 := rfl
  cases h with
  | @var a h =>
    rw [ttx_var] at k
    simp! only [eqD_str (a := "var") (b := "var") ok_var ok_var]
    exact k
  | @val d h =>
    rw [ttx_val h] at k
    have hv : ("value" == ("var" : Str)) = false := by decide +kernel
    rcases h with ⟨j, rfl, hj⟩ | ⟨a, rfl, a0, a1, a2⟩
    · simp! only [eqD_str (a := "value") (b := "var") ok_value ok_var, hv, isi_int, strD_ok hj]
      exact ⟨by decide, k⟩
    · simp! only [eqD_str (a := "value") (b := "var") ok_value ok_var, hv, isi_str, addD_str (a := "\"") (b := a) (by rw [e]; omega)]
      refine ⟨by decide, ?_⟩
      rw [addD_str (a := ("\"" : Str) ++ a) (b := "\"") (by rw [len_app, e]; omega)]
      exact k
theorem term_text_spec {d : PyData} (h : TQ B60 d) {P : Rs → List (List PyData) → Prop} (k : P (.v (.str (ttx d))) []) : wpF D_term_text [.v d] P := by
  unfold D_term_text
  refine wp_F rfl ?_
  unfold m_term_text
  cases h with
  | @var a h =>
    rw [ttx_var] at k
    simp! only [eqD_str (a := "var") (b := "var") ok_var ok_var]
    exact k
  | @val d h =>
    have hv : ("value" == ("var" : Str)) = false := by decide +kernel
    have hi := h.vl.imm
    rw [ttx_val h] at k
    simp! only [eqD_str (a := "value") (b := "var") ok_value ok_var, hv, toV_of hi, hi]
    refine value_text_spec h ?_
    simp! only [true_and]
    exact k
end Lw
end

section
set_option Elab.async false
set_option linter.all false
set_option maxRecDepth 100000
set_option maxHeartbeats 400000
namespace Lw
open PySem PySem.Spec PyProof.Rows L2 Vf
variable [Tabs]
local macro_rules | `(tactic| simp! only [$ls,*]) => `(tactic| simp -implicitDefEqProofs only [↓wp_var, ↓wp_c, ↓wp_op2, ↓wp_op1, ↓wp_aNil, ↓wp_aCons, ↓wp_cb, ↓wp_mut, ↓wp_mth, ↓wp_tup, ↓wp_lst, ↓wp_isi, ↓wp_isi2, ↓wp_bVal, ↓wp_bTru, ↓wp_bNot, ↓wp_bAnd, ↓wp_bOr, ↓wp_bYes, ↓wp_eIf, ↓wp_andV, ↓wp_orV, ↓wp_notV, ↓wp_oNone, ↓wp_oSome, ↓wp_sl, ↓wp_callC, ↓wp_sortK, ↓wp_zip, zp_t, ↓wp_rev, revT, revL, ↓wp_sMv, mvq_ow, ↓wp_idx, ↓wp_fmt, ↓wp_joined, ↓wp_js, ↓wp_jn, strV_s, ↓wp_never, imT_t,  skv_l, ↓wp_allS, ↓wp_seq, sq_next, sq_ret, sq_brk, sq_cont, ↓wp_next, ↓wp_brk, ↓wp_cont, ↓wp_ret, ↓wp_retN, ↓wp_drop, ↓wp_sIf, ↓wp_sSet, ↓wp_sAsg, ↓wp_sSetIx, ↓wp_iter, ↓wp_range1, ↓wp_range2, ↓wp_forP, ↓wp_lcP, pr_mk, vr_im, vr_ow, vr_io, vr_bo, rdv_im, rdv_nw, rdv_sl, rsl_ow, rsl_io, rsl_bo, rdvs_nil, rdvs_cons, cons2_some, ims_nil, ims_cons, o2_some, oo_some, om_some, imS_str, blV_b, inV1_i, imV_im, itv_t, itv_s, itv_n, itv_l, itl_ow, itl_bo, rg1_i, rg2_i, toV_int, toV_bool, toV_str, toV_tuple, toV_none, toV_list,
  slotOf, setS_eq, sS_fre, fre_em, fre_im, fre_ow, fre_bo, getM_eq, gM_ow, gM_io, putL_eq, pL_ow, pL_io, putLs, rsV, slM, slB, arsOf, arOf_im, arOf_int, arOf_str, arOf_bool, arOf_none, arOf_tuple, arOf_nw, arOf_sl, arOf_m, arS_ow, arS_io, arS_bo, arM_ow, arM_io, resP_ret, resP_next, resOf_im, resOf_nw, resOf_sl, rso_ow, outsOf, initG, slotA, bor, unb, clr, rst, gtName, gtTup, gtCons, gtNil, outI_next, outI_cont, outI_brk, outI_ret,
  List.getElem?_cons_zero, List.getElem?_cons_succ, List.set_cons_zero, List.set_cons_succ, List.map_cons, List.map_nil, List.cons_append, List.nil_append, List.append_nil, List.length_cons, List.length_nil, List.replicate_succ, List.replicate_zero, Nat.sub_self, Nat.reduceAdd, Nat.reduceSub, Nat.reduceEqDiff, List.getElem?_nil, 
  eqD_int, neD_int, eqD_bool, neD_bool, addD_int, subD_int, ltD_int, leD_int, gtD_int, geD_int, intD_int, intD_bool, lenL, lenT, listD_l, listD_t, tupleD_l, tupleD_t, ixL_int, ixT_int, ixS_int, negD_int, truD_b, atI0, atI1, atI2, List.nodup_nil, List.nodup_cons, List.not_mem_nil, not_false_eq_true, false_imp_iff, implies_true, and_true, true_and, and_self, if_true, if_false, Bool.false_eq_true, reduceIte, List.mem_cons, or_false, false_or, forall_eq, forall_eq_or_imp, imm_int, imm_str, beq_iff_eq, bne_iff_ne, decide_eq_true_eq, Bool.not_eq_true', $ls,*])
local macro_rules | `(tactic| dsimp! only [$ls,*]) => `(tactic| simp -implicitDefEqProofs only [↓wp_sIfY, ↓wp_var, ↓wp_c, ↓wp_op2, ↓wp_op1, ↓wp_aNil, ↓wp_aCons, ↓wp_cb, ↓wp_mut, ↓wp_mth, ↓wp_tup, ↓wp_lst, ↓wp_isi, ↓wp_isi2, ↓wp_bVal, ↓wp_bTru, ↓wp_bNot, ↓wp_bAnd, ↓wp_bOr, ↓wp_bYes, ↓wp_eIf, ↓wp_andV, ↓wp_orV, ↓wp_notV, ↓wp_oNone, ↓wp_oSome, ↓wp_sl, ↓wp_callC, ↓wp_sortK, ↓wp_zip, zp_t, ↓wp_rev, revT, revL, ↓wp_sMv, mvq_ow, ↓wp_idx, ↓wp_fmt, ↓wp_joined, ↓wp_js, ↓wp_jn, strV_s, ↓wp_never, imT_t,  skv_l, ↓wp_allS, ↓wp_seq, sq_next, sq_ret, sq_brk, sq_cont, ↓wp_next, ↓wp_brk, ↓wp_cont, ↓wp_ret, ↓wp_retN, ↓wp_drop, ↓wp_sSet, ↓wp_sAsg, ↓wp_sSetIx, ↓wp_iter, ↓wp_range1, ↓wp_range2, ↓wp_forP, ↓wp_lcP, pr_mk, vr_im, vr_ow, vr_io, vr_bo, rdv_im, rdv_nw, rdv_sl, rsl_ow, rsl_io, rsl_bo, rdvs_nil, rdvs_cons, cons2_some, ims_nil, ims_cons, o2_some, oo_some, om_some, imS_str, blV_b, inV1_i, imV_im, itv_t, itv_s, itv_n, itv_l, itl_ow, itl_bo, rg1_i, rg2_i, toV_int, toV_bool, toV_str, toV_tuple, toV_none, toV_list,
  slotOf, setS_eq, sS_fre, fre_em, fre_im, fre_ow, fre_bo, getM_eq, gM_ow, gM_io, putL_eq, pL_ow, pL_io, putLs, rsV, slM, slB, arsOf, arOf_im, arOf_int, arOf_str, arOf_bool, arOf_none, arOf_tuple, arOf_nw, arOf_sl, arOf_m, arS_ow, arS_io, arS_bo, arM_ow, arM_io, resP_ret, resP_next, resOf_im, resOf_nw, resOf_sl, rso_ow, outsOf, initG, slotA, bor, unb, clr, rst, gtName, gtTup, gtCons, gtNil, outI_next, outI_cont, outI_brk, outI_ret,
  List.getElem?_cons_zero, List.getElem?_cons_succ, List.set_cons_zero, List.set_cons_succ, List.map_cons, List.map_nil, List.cons_append, List.nil_append, List.append_nil, List.length_cons, List.length_nil, List.replicate_succ, List.replicate_zero, Nat.sub_self, Nat.reduceAdd, Nat.reduceSub, Nat.reduceEqDiff, List.getElem?_nil, 
  eqD_int, neD_int, eqD_bool, neD_bool, addD_int, subD_int, ltD_int, leD_int, gtD_int, geD_int, intD_int, intD_bool, lenL, lenT, listD_l, listD_t, tupleD_l, tupleD_t, ixL_int, ixT_int, ixS_int, negD_int, truD_b, atI0, atI1, atI2, List.nodup_nil, List.nodup_cons, List.not_mem_nil, not_false_eq_true, false_imp_iff, implies_true, and_true, true_and, and_self, if_true, if_false, Bool.false_eq_true, reduceIte, List.mem_cons, or_false, false_or, forall_eq, forall_eq_or_imp, imm_int, imm_str, beq_iff_eq, bne_iff_ne, decide_eq_true_eq, Bool.not_eq_true', $ls,*])
theorem neD_str {a b : Str} (ha : PyData.strOk a = true) (hb : PyData.strOk b = true) : neD (.str a) (.str b) = some (.bool (a != b)) := by
  simp only [neD, shaped_str ha, shaped_str hb, Bool.and_self, if_true, PyData.eqv]
  rfl
abbrev jn (ts : List Str) : Str := Txt.join ", " ts
def parts (k : Nat) (ts : List Str) : List Str := (if 0 < k then [jn (ts.take k)] else []) ++ ([("|" : Str)] ++ (if k < ts.length then [jn (ts.drop k)] else []))
def colT (n : Str) (k : Nat) (ts : List Str) : Str := ((n ++ ("(" : Str)) ++ Txt.join " " (parts k ts)) ++ (")" : Str)
abbrev spc (a : Str) : Str := Txt.mul " " (if (a != ("" : Str)) = true then 1 else 0)
def lawT (n : Str) (k : Nat) (ts : List Str) : Str := n ++ ("(" : Str) ++ jn (ts.take k) ++ spc (jn (ts.take k)) ++ ("|" : Str) ++ spc (jn (ts.drop k)) ++ jn (ts.drop k) ++ (")" : Str)
theorem jn_ne {ts : List Str} (h : ∀ t ∈ ts, 1 ≤ t.length) (h0 : ts ≠ []) : (jn ts != ("" : Str)) = true := by
  cases ts with
  | nil => exact absurd rfl h0
  | cons a l =>
    have e : (cd (jn (a :: l))).length = _ := congrArg List.length (cd_join (s := ", ") (a := a) (l := l))
    rw [List.length_append] at e
    have ha : 1 ≤ (cd a).length := by
      have := h a (by simp)
      rw [Array.length_toList]; exact this
    simp only [bne_iff_ne, ne_eq]
    intro z
    rw [z] at e
    have : (cd ("" : Str)).length = 0 := rfl
    omega
theorem jn_nil : (jn [] != ("" : Str)) = false := by decide +kernel
theorem emp_s : ("" : Str) = Str.empty := rfl
theorem col_law {n : Str} {k : Nat} {ts : List Str} (hk : k ≤ ts.length) (h : ∀ t ∈ ts, 1 ≤ t.length) : colT n k ts = lawT n k ts := by
  have hL : spc (jn (ts.take k)) = if 0 < k then (" " : Str) else Str.empty := by
    by_cases z : 0 < k
    · rw [if_pos z, spc, jn_ne (fun t ht => h t (List.mem_of_mem_take ht)) (fun e => by have := congrArg List.length e; rw [List.length_take, List.length_nil] at this; omega), if_pos rfl, mul1]
    · have : ts.take k = [] := by rw [show k = 0 by omega]; rfl
      rw [if_neg z, this, spc, jn_nil, if_neg (by decide), mul0]
  have hR : spc (jn (ts.drop k)) = if k < ts.length then (" " : Str) else Str.empty := by
    by_cases z : k < ts.length
    · rw [if_pos z, spc, jn_ne (fun t ht => h t (List.mem_of_mem_drop ht)) (fun e => by have := congrArg List.length e; rw [List.length_drop, List.length_nil] at this; omega), if_pos rfl, mul1]
    · have : ts.drop k = [] := List.drop_of_length_le (by omega)
      rw [if_neg z, this, spc, jn_nil, if_neg (by decide), mul0]
  unfold colT lawT parts
  rw [hL, hR]
  refine str_ext ?_
  by_cases z1 : 0 < k
  · by_cases z2 : k < ts.length
    · simp only [if_pos z1, if_pos z2, List.cons_append, List.nil_append, cd_app, cd_join, List.map_cons, List.map_nil, List.flatten_cons, List.flatten_nil, List.append_assoc, List.append_nil]
    · have : ts.drop k = [] := List.drop_of_length_le (by omega)
      simp only [if_pos z1, if_neg z2, this, List.cons_append, List.nil_append, List.append_nil, cd_app, cd_join, List.map_cons, List.map_nil, List.flatten_cons, List.flatten_nil, List.append_assoc, emp_app, app_emp]
      rfl
  · have e0 : ts.take k = [] := by rw [show k = 0 by omega]; rfl
    by_cases z2 : k < ts.length
    · simp only [if_neg z1, if_pos z2, e0, List.nil_append, List.cons_append, cd_app, cd_join, List.map_cons, List.map_nil, List.flatten_cons, List.flatten_nil, List.append_assoc, List.append_nil]
      rfl
    · have : ts.drop k = [] := List.drop_of_length_le (by omega)
      simp only [if_neg z1, if_neg z2, e0, this, List.nil_append, List.append_nil, cd_app, List.append_assoc]
      rfl
theorem sum_le {ts : List Str} {b : Nat} (h : ∀ t ∈ ts, t.length ≤ b) : (ts.map (·.length)).sum ≤ ts.length * b := by
  induction ts with
  | nil => simp
  | cons a l ih =>
    have h1 := h a (by simp)
    have h2 := ih fun t ht => h t (by simp [ht])
    simp only [List.map_cons, List.sum_cons, List.length_cons, Nat.add_mul, Nat.one_mul]
    omega
structure TsOk (n b : Nat) (ts : List Str) : Prop where
  ln : ts.length ≤ n
  ok : ∀ t ∈ ts, TxOk b t
theorem TsOk.take {n b k : Nat} {ts : List Str} (h : TsOk n b ts) : TsOk n b (ts.take k) := ⟨by rw [List.length_take]; have := h.ln; omega, fun t ht => h.ok t (List.mem_of_mem_take ht)⟩
theorem TsOk.drop {n b k : Nat} {ts : List Str} (h : TsOk n b ts) : TsOk n b (ts.drop k) := ⟨by rw [List.length_drop]; have := h.ln; omega, fun t ht => h.ok t (List.mem_of_mem_drop ht)⟩
theorem sep_ok : PyData.strOk (", " : Str) = true := strOk_of _
theorem TsOk.sum {n b : Nat} {ts : List Str} (h : TsOk n b ts) : (ts.map (·.length)).sum ≤ n * b := Nat.le_trans (sum_le fun t ht => (h.ok t ht).hi) (Nat.mul_le_mul_right b h.ln)
theorem join_len {s : Str} {ts : List Str} : (Txt.join s ts).length ≤ (ts.map (·.length)).sum + ts.length * s.length := by
  have e := size_glued s ts
  show (Builtin.Str.glued s ts).length ≤ _
  rw [e]
  have : (ts.length - 1) * s.length ≤ ts.length * s.length := Nat.mul_le_mul_right _ (by omega)
  omega
theorem jn_len {ts : List Str} (h : TsOk 8 61 ts) : (jn ts).length ≤ 600 := by
  have e2 : (", " : Str).length = 2 := rfl
  have e : (jn ts).length ≤ _ := @join_len _ ", " ts
  rw [e2] at e
  have := h.sum
  have := h.ln
  omega
theorem jn_ok {n b : Nat} {ts : List Str} (h : TsOk n b ts) : PyData.strOk (jn ts) = true := strOk_join sep_ok fun t ht => (h.ok t ht).ok
theorem joinD_jn {ts : List Str} (h : TsOk 8 61 ts) : joinD (.str ", ") [.list (DS ts)] = some (.str (jn ts)) := by
  have e2 : (", " : Str).length = 2 := rfl
  have := h.sum
  have := h.ln
  exact joinD_strs (by rw [e2]; omega)
theorem DS_take {ts : List Str} {v : Int} (h : 0 ≤ v) : slD (.list (DS ts)) none (some v) = some (.list (DS (ts.take v.toNat))) := by
  show some (PyData.list (cutL _ _ _)) = _
  rw [cut_to h]; simp only [DS, List.map_take]
theorem DS_drop {ts : List Str} {v : Int} (h : 0 ≤ v) : slD (.list (DS ts)) (some v) none = some (.list (DS (ts.drop v.toNat))) := by
  show some (PyData.list (cutL _ _ _)) = _
  rw [cut_from h]; simp only [DS, List.map_drop]
theorem aS0 {x : Str} : appendM [] [.str x] = some ([.str x], .none) := appendM_ok imm_str (by simp)
theorem aS1 {d : PyData} {x : Str} : appendM [d] [.str x] = some ([d, .str x], .none) := appendM_ok imm_str (by simp)
theorem aS2 {d e : PyData} {x : Str} : appendM [d, e] [.str x] = some ([d, e, .str x], .none) := appendM_ok imm_str (by simp)
theorem jd_sp {ss : List Str} (h : (ss.map (·.length)).sum ≤ 5000 ∧ ss.length ≤ 3) : joinD (.str " ") [.list (DS ss)] = some (.str (Txt.join " " ss)) := by
  have e2 : (" " : Str).length = 1 := rfl
  exact joinD_strs (by rw [e2]; omega)
theorem jd_len {ss : List Str} (h : (ss.map (·.length)).sum ≤ 5000 ∧ ss.length ≤ 3) : (Txt.join " " ss).length ≤ 5003 := by
  have e2 : (" " : Str).length = 1 := rfl
  have e : (Txt.join " " ss).length ≤ _ := @join_len _ " " ss
  rw [e2] at e
  omega
theorem add_br {n m : Str} (h1 : n.length ≤ 41) (h2 : m.length ≤ 5003) : addD (.str n) (.str "(") = some (.str (n ++ ("(" : Str))) ∧ addD (.str (n ++ ("(" : Str))) (.str m) = some (.str (n ++ ("(" : Str) ++ m)) ∧ addD (.str (n ++ ("(" : Str) ++ m)) (.str ")") = some (.str (n ++ ("(" : Str) ++ m ++ (")" : Str))) := by
  have p1 : ("(" : Str).length = 1 := rfl
  have p2 : (")" : Str).length = 1 := rfl
  exact ⟨addD_str (by omega), addD_str (by rw [len_app]; omega), addD_str (by rw [len_app, len_app]; omega)⟩
theorem columns_spec {l : List Tb} (hl : SQ l) {t : Tb} (ht : t ∈ l) {ts : List Str} (hts : TsOk 8 61 ts) (hln : (ts.length : Int) = t.2.1 + t.2.2) {P : Rs → List (List PyData) → Prop} (k : P (.v (.str (colT t.1 t.2.1.toNat ts))) []) : wpF D_columns_text [.v (.tuple (TS l)), .v (.str t.1), .l (DS ts)] P := by
  obtain ⟨t0, t1, t2, t3⟩ := hl.ok.ok t ht
  have hn := hl.nm t ht
  have j1 := jn_len (hts.take (k := t.2.1.toNat))
  have j2 := jn_len (hts.drop (k := t.2.1.toNat))
  have p1 : ("(" : Str).length = 1 := rfl
  have p2 : (")" : Str).length = 1 := rfl
  have p3 : ("|" : Str).length = 1 := rfl
  have p4 : (" " : Str).length = 1 := rfl
  unfold D_columns_text
  refine wp_F rfl ?_
  unfold m_columns_text
  dsimp! only [true_and]
  refine table_of_spec hl.ok ht ?_
  have sl : ∀ q : List Str, (DS q).length = q.length := fun q => List.length_map ..
  unfold colT parts at k
  by_cases z1 : 0 < t.2.1
  · by_cases z2 : t.2.1 < (ts.length : Int)
    · rw [if_pos (show 0 < t.2.1.toNat by omega), if_pos (show t.2.1.toNat < ts.length by omega)] at k
      have hs : (([jn (ts.take t.2.1.toNat), ("|" : Str), jn (ts.drop t.2.1.toNat)]).map (·.length)).sum ≤ 5000 ∧ ([jn (ts.take t.2.1.toNat), ("|" : Str), jn (ts.drop t.2.1.toNat)]).length ≤ 3 := ⟨by simp only [List.map_cons, List.map_nil, List.sum_cons, List.sum_nil, p3]; omega, by simp⟩
      have J := jd_sp hs
      obtain ⟨q1, q2, q3⟩ := add_br hn.2 (jd_len hs)
      simp only [DS, List.map_cons, List.map_nil] at J
      simp! only [DS_take (ts := ts) t1, DS_drop (ts := ts) t1, joinD_jn (hts.take (k := t.2.1.toNat)), joinD_jn (hts.drop (k := t.2.1.toNat)), z1, z2, sl, aS0, aS1, aS2, J, q1, q2, q3]
      exact ⟨by omega, k⟩
    · rw [if_pos (show 0 < t.2.1.toNat by omega), if_neg (show ¬ t.2.1.toNat < ts.length by omega)] at k
      have hs : (([jn (ts.take t.2.1.toNat), ("|" : Str)]).map (·.length)).sum ≤ 5000 ∧ ([jn (ts.take t.2.1.toNat), ("|" : Str)]).length ≤ 3 := ⟨by simp only [List.map_cons, List.map_nil, List.sum_cons, List.sum_nil, p3]; omega, by simp⟩
      have J := jd_sp hs
      obtain ⟨q1, q2, q3⟩ := add_br hn.2 (jd_len hs)
      simp only [DS, List.map_cons, List.map_nil] at J
      simp! only [DS_take (ts := ts) t1, DS_drop (ts := ts) t1, joinD_jn (hts.take (k := t.2.1.toNat)), joinD_jn (hts.drop (k := t.2.1.toNat)), z1, z2, sl, aS0, aS1, aS2, J, q1, q2, q3]
      exact ⟨by omega, k⟩
  · by_cases z2 : t.2.1 < (ts.length : Int)
    · rw [if_neg (show ¬ 0 < t.2.1.toNat by omega), if_pos (show t.2.1.toNat < ts.length by omega)] at k
      have hs : (([("|" : Str), jn (ts.drop t.2.1.toNat)]).map (·.length)).sum ≤ 5000 ∧ ([("|" : Str), jn (ts.drop t.2.1.toNat)]).length ≤ 3 := ⟨by simp only [List.map_cons, List.map_nil, List.sum_cons, List.sum_nil, p3]; omega, by simp⟩
      have J := jd_sp hs
      obtain ⟨q1, q2, q3⟩ := add_br hn.2 (jd_len hs)
      simp only [DS, List.map_cons, List.map_nil] at J
      simp! only [DS_take (ts := ts) t1, DS_drop (ts := ts) t1, joinD_jn (hts.take (k := t.2.1.toNat)), joinD_jn (hts.drop (k := t.2.1.toNat)), z1, z2, sl, aS0, aS1, aS2, J, q1, q2, q3]
      exact ⟨by omega, k⟩
    · rw [if_neg (show ¬ 0 < t.2.1.toNat by omega), if_neg (show ¬ t.2.1.toNat < ts.length by omega)] at k
      have hs : (([("|" : Str)]).map (·.length)).sum ≤ 5000 ∧ ([("|" : Str)]).length ≤ 3 := ⟨by simp only [List.map_cons, List.map_nil, List.sum_cons, List.sum_nil, p3]; omega, by simp⟩
      have J := jd_sp hs
      obtain ⟨q1, q2, q3⟩ := add_br hn.2 (jd_len hs)
      simp only [DS, List.map_cons, List.map_nil] at J
      simp! only [DS_take (ts := ts) t1, DS_drop (ts := ts) t1, joinD_jn (hts.take (k := t.2.1.toNat)), joinD_jn (hts.drop (k := t.2.1.toNat)), z1, z2, sl, aS0, aS1, aS2, J, q1, q2, q3]
      exact ⟨by omega, k⟩
end Lw
end

section
set_option Elab.async false
set_option linter.all false
set_option maxRecDepth 100000
set_option maxHeartbeats 400000
namespace Lw
open PySem PySem.Spec PyProof.Rows L2 Vf
variable [Tabs]
local macro_rules | `(tactic| simp! only [$ls,*]) => `(tactic| simp -implicitDefEqProofs only [↓wp_var, ↓wp_c, ↓wp_op2, ↓wp_op1, ↓wp_aNil, ↓wp_aCons, ↓wp_cb, ↓wp_mut, ↓wp_mth, ↓wp_tup, ↓wp_lst, ↓wp_isi, ↓wp_isi2, ↓wp_bVal, ↓wp_bTru, ↓wp_bNot, ↓wp_bAnd, ↓wp_bOr, ↓wp_bYes, ↓wp_eIf, ↓wp_andV, ↓wp_orV, ↓wp_notV, ↓wp_oNone, ↓wp_oSome, ↓wp_sl, ↓wp_callC, ↓wp_sortK, ↓wp_zip, zp_t, ↓wp_rev, revT, revL, ↓wp_sMv, mvq_ow, ↓wp_idx, ↓wp_fmt, ↓wp_joined, ↓wp_js, ↓wp_jn, strV_s, ↓wp_never, imT_t,  skv_l, ↓wp_allS, ↓wp_seq, sq_next, sq_ret, sq_brk, sq_cont, ↓wp_next, ↓wp_brk, ↓wp_cont, ↓wp_ret, ↓wp_retN, ↓wp_drop, ↓wp_sIf, ↓wp_sSet, ↓wp_sAsg, ↓wp_sSetIx, ↓wp_iter, ↓wp_range1, ↓wp_range2, ↓wp_forP, ↓wp_lcP, pr_mk, vr_im, vr_ow, vr_io, vr_bo, rdv_im, rdv_nw, rdv_sl, rsl_ow, rsl_io, rsl_bo, rdvs_nil, rdvs_cons, cons2_some, ims_nil, ims_cons, o2_some, oo_some, om_some, imS_str, blV_b, inV1_i, imV_im, itv_t, itv_s, itv_n, itv_l, itl_ow, itl_bo, rg1_i, rg2_i, toV_int, toV_bool, toV_str, toV_tuple, toV_none, toV_list,
  slotOf, setS_eq, sS_fre, fre_em, fre_im, fre_ow, fre_bo, getM_eq, gM_ow, gM_io, putL_eq, pL_ow, pL_io, putLs, rsV, slM, slB, arsOf, arOf_im, arOf_int, arOf_str, arOf_bool, arOf_none, arOf_tuple, arOf_nw, arOf_sl, arOf_m, arS_ow, arS_io, arS_bo, arM_ow, arM_io, resP_ret, resP_next, resOf_im, resOf_nw, resOf_sl, rso_ow, outsOf, initG, slotA, bor, unb, clr, rst, gtName, gtTup, gtCons, gtNil, outI_next, outI_cont, outI_brk, outI_ret,
  List.getElem?_cons_zero, List.getElem?_cons_succ, List.set_cons_zero, List.set_cons_succ, List.map_cons, List.map_nil, List.cons_append, List.nil_append, List.append_nil, List.length_cons, List.length_nil, List.replicate_succ, List.replicate_zero, Nat.sub_self, Nat.reduceAdd, Nat.reduceSub, Nat.reduceEqDiff, List.getElem?_nil, 
  eqD_int, neD_int, eqD_bool, neD_bool, addD_int, subD_int, ltD_int, leD_int, gtD_int, geD_int, intD_int, intD_bool, lenL, lenT, listD_l, listD_t, tupleD_l, tupleD_t, ixL_int, ixT_int, ixS_int, negD_int, truD_b, atI0, atI1, atI2, List.nodup_nil, List.nodup_cons, List.not_mem_nil, not_false_eq_true, false_imp_iff, implies_true, and_true, true_and, and_self, if_true, if_false, Bool.false_eq_true, reduceIte, List.mem_cons, or_false, false_or, forall_eq, forall_eq_or_imp, imm_int, imm_str, beq_iff_eq, bne_iff_ne, decide_eq_true_eq, Bool.not_eq_true', $ls,*])
local macro_rules | `(tactic| dsimp! only [$ls,*]) => `(tactic| simp -implicitDefEqProofs only [↓wp_sIfY, ↓wp_var, ↓wp_c, ↓wp_op2, ↓wp_op1, ↓wp_aNil, ↓wp_aCons, ↓wp_cb, ↓wp_mut, ↓wp_mth, ↓wp_tup, ↓wp_lst, ↓wp_isi, ↓wp_isi2, ↓wp_bVal, ↓wp_bTru, ↓wp_bNot, ↓wp_bAnd, ↓wp_bOr, ↓wp_bYes, ↓wp_eIf, ↓wp_andV, ↓wp_orV, ↓wp_notV, ↓wp_oNone, ↓wp_oSome, ↓wp_sl, ↓wp_callC, ↓wp_sortK, ↓wp_zip, zp_t, ↓wp_rev, revT, revL, ↓wp_sMv, mvq_ow, ↓wp_idx, ↓wp_fmt, ↓wp_joined, ↓wp_js, ↓wp_jn, strV_s, ↓wp_never, imT_t,  skv_l, ↓wp_allS, ↓wp_seq, sq_next, sq_ret, sq_brk, sq_cont, ↓wp_next, ↓wp_brk, ↓wp_cont, ↓wp_ret, ↓wp_retN, ↓wp_drop, ↓wp_sSet, ↓wp_sAsg, ↓wp_sSetIx, ↓wp_iter, ↓wp_range1, ↓wp_range2, ↓wp_forP, ↓wp_lcP, pr_mk, vr_im, vr_ow, vr_io, vr_bo, rdv_im, rdv_nw, rdv_sl, rsl_ow, rsl_io, rsl_bo, rdvs_nil, rdvs_cons, cons2_some, ims_nil, ims_cons, o2_some, oo_some, om_some, imS_str, blV_b, inV1_i, imV_im, itv_t, itv_s, itv_n, itv_l, itl_ow, itl_bo, rg1_i, rg2_i, toV_int, toV_bool, toV_str, toV_tuple, toV_none, toV_list,
  slotOf, setS_eq, sS_fre, fre_em, fre_im, fre_ow, fre_bo, getM_eq, gM_ow, gM_io, putL_eq, pL_ow, pL_io, putLs, rsV, slM, slB, arsOf, arOf_im, arOf_int, arOf_str, arOf_bool, arOf_none, arOf_tuple, arOf_nw, arOf_sl, arOf_m, arS_ow, arS_io, arS_bo, arM_ow, arM_io, resP_ret, resP_next, resOf_im, resOf_nw, resOf_sl, rso_ow, outsOf, initG, slotA, bor, unb, clr, rst, gtName, gtTup, gtCons, gtNil, outI_next, outI_cont, outI_brk, outI_ret,
  List.getElem?_cons_zero, List.getElem?_cons_succ, List.set_cons_zero, List.set_cons_succ, List.map_cons, List.map_nil, List.cons_append, List.nil_append, List.append_nil, List.length_cons, List.length_nil, List.replicate_succ, List.replicate_zero, Nat.sub_self, Nat.reduceAdd, Nat.reduceSub, Nat.reduceEqDiff, List.getElem?_nil, 
  eqD_int, neD_int, eqD_bool, neD_bool, addD_int, subD_int, ltD_int, leD_int, gtD_int, geD_int, intD_int, intD_bool, lenL, lenT, listD_l, listD_t, tupleD_l, tupleD_t, ixL_int, ixT_int, ixS_int, negD_int, truD_b, atI0, atI1, atI2, List.nodup_nil, List.nodup_cons, List.not_mem_nil, not_false_eq_true, false_imp_iff, implies_true, and_true, true_and, and_self, if_true, if_false, Bool.false_eq_true, reduceIte, List.mem_cons, or_false, false_or, forall_eq, forall_eq_or_imp, imm_int, imm_str, beq_iff_eq, bne_iff_ne, decide_eq_true_eq, Bool.not_eq_true', $ls,*])
theorem DS_step {g : PyData → Str} {src : List PyData} {j : Nat} {d : PyData} (hj : src[j]? = some d) : DS ((src.take j).map g) ++ [PyData.str (g d)] = DS ((src.take (j + 1)).map g) := by
  rw [List.take_add_one, hj]
  simp only [Option.toList_some, List.map_append, List.map_cons, List.map_nil]
theorem len_step {src : List PyData} {j n : Nat} {d : PyData} (hn : src.length ≤ n) (hj : src[j]? = some d) : j < n := by
  have := (List.getElem?_eq_some_iff.mp hj).1
  omega
theorem ts_of {ds : List PyData} {n : Nat} (hd : ∀ d ∈ ds, TQ B60 d) (hl : ds.length ≤ n) : TsOk n 61 (ds.map ttx) := ⟨by rw [List.length_map]; exact hl, fun t ht => by
  obtain ⟨d, hm, rfl⟩ := List.mem_map.mp ht
  exact ttx_ok (hd d hm)⟩
theorem slL_to {ds : List PyData} {v : Int} (h : 0 ≤ v) : slD (.list ds) none (some v) = some (.list (ds.take v.toNat)) := by
  show some (PyData.list (cutL _ _ _)) = _
  rw [cut_to h]
theorem spc_len {a : Str} : (spc a).length ≤ 1 := by
  unfold spc
  split
  · rw [mul1]; exact Nat.le_refl _
  · rw [mul0]; exact Nat.zero_le _
theorem mulD_spc {a : Str} : mulD (.str " ") (.int (if (a != ("" : Str)) = true then 1 else 0)) = some (.str (spc a)) := by
  have p4 : (" " : Str).length = 1 := rfl
  refine mulD_str ?_
  split
  · exact ⟨by decide, by decide, by rw [p4]; decide⟩
  · exact ⟨by decide, by decide, by rw [p4]; decide⟩
theorem mulD_spn {a : Str} [Decidable (a ≠ ("" : Str))] : mulD (.str " ") (.int (if a ≠ ("" : Str) then 1 else 0)) = some (.str (spc a)) := by
  rw [← mulD_spc]
  by_cases h : a = ("" : Str)
  · subst h
    rw [if_neg (by simp), if_neg (by simp)]
  · rw [if_pos h, if_pos (by simpa using h)]
theorem intD_b {b : Bool} : intD [.bool b] = some (.int (if b = true then 1 else 0)) := rfl
theorem e_ok : PyData.strOk ("" : Str) = true := strOk_of _
structure Chn (n L sL sR R : Str) : Prop where
  q1 : addD (.str n) (.str "(") = some (.str (n ++ ("(" : Str)))
  q2 : addD (.str (n ++ ("(" : Str))) (.str L) = some (.str (n ++ ("(" : Str) ++ L))
  q3 : addD (.str (n ++ ("(" : Str) ++ L)) (.str sL) = some (.str (n ++ ("(" : Str) ++ L ++ sL))
  q4 : addD (.str (n ++ ("(" : Str) ++ L ++ sL)) (.str "|") = some (.str (n ++ ("(" : Str) ++ L ++ sL ++ ("|" : Str)))
  q5 : addD (.str (n ++ ("(" : Str) ++ L ++ sL ++ ("|" : Str))) (.str sR) = some (.str (n ++ ("(" : Str) ++ L ++ sL ++ ("|" : Str) ++ sR))
  q6 : addD (.str (n ++ ("(" : Str) ++ L ++ sL ++ ("|" : Str) ++ sR)) (.str R) = some (.str (n ++ ("(" : Str) ++ L ++ sL ++ ("|" : Str) ++ sR ++ R))
  q7 : addD (.str (n ++ ("(" : Str) ++ L ++ sL ++ ("|" : Str) ++ sR ++ R)) (.str ")") = some (.str (n ++ ("(" : Str) ++ L ++ sL ++ ("|" : Str) ++ sR ++ R ++ (")" : Str)))
theorem chn {n L sL sR R : Str} (h1 : n.length ≤ 41) (h2 : L.length ≤ 600) (h3 : sL.length ≤ 1) (h4 : sR.length ≤ 1) (h5 : R.length ≤ 600) : Chn n L sL sR R := by
  have p1 : ("(" : Str).length = 1 := rfl
  have p2 : (")" : Str).length = 1 := rfl
  have p3 : ("|" : Str).length = 1 := rfl
  refine ⟨addD_str ?_, addD_str ?_, addD_str ?_, addD_str ?_, addD_str ?_, addD_str ?_, addD_str ?_⟩ <;> simp only [len_app, p1, p2, p3] <;> omega
theorem written_atom_l {t : Tb} (h0 : PyData.strOk t.1 = true ∧ t.1.length ≤ 41) (h1 : 0 ≤ t.2.1) (h2 : 0 ≤ t.2.2) (h3 : t.2.1 + t.2.2 ≤ 8) {ds : List PyData} (hd : ∀ d ∈ ds, TQ B60 d) (hln : (ds.length : Int) = t.2.1 + t.2.2) {P : Rs → List (List PyData) → Prop} (k : P (.v (.str (lawT t.1 t.2.1.toNat (ds.map ttx)))) []) : wpF D_law_written_atom [.v (tD t), .l ds] P := by
  have hts : TsOk 8 61 (ds.map ttx) := ts_of hd (by omega)
  have eT : (ds.take t.2.1.toNat).map ttx = (ds.map ttx).take t.2.1.toNat := List.map_take ..
  have eD : (ds.drop t.2.1.toNat).map ttx = (ds.map ttx).drop t.2.1.toNat := List.map_drop ..
  unfold D_law_written_atom
  refine wp_F rfl ?_
  unfold m_law_written_atom
  dsimp! only [true_and]
  rw [slL_to h1]
  dsimp! only [true_and]
  refine lcI (fun j acc Γ => acc = DS (((ds.take t.2.1.toNat).take j).map ttx) ∧ Γ = [Slot.im (tD t), Slot.bo ds, Slot.em, Slot.em, Slot.em]) ⟨rfl, rfl⟩ ?_ ?_
  · rintro j d acc Γ hj ⟨rfl, rfl⟩
    have hm := hd d (List.mem_of_mem_take (get_mem hj))
    have hi := gd_imm hm.gd
    have := len_step (n := 8) (by rw [List.length_take]; omega) hj
    simp! only [toV_of hi, arOf_im hi]
    refine piece_spec hm ?_
    simp! only [true_and]
    refine ⟨by simp; omega, DS_step hj, rfl⟩
  rintro acc Γ ⟨rfl, rfl⟩
  rw [List.take_length, eT]
  dsimp! only [joinD_jn hts.take]
  rw [slL_from h1]
  dsimp! only [true_and]
  refine lcI (fun j acc Γ => acc = DS (((ds.drop t.2.1.toNat).take j).map ttx) ∧ Γ = [Slot.im (tD t), Slot.bo ds, Slot.im (.str (jn ((ds.map ttx).take t.2.1.toNat))), Slot.em, Slot.em]) ⟨rfl, rfl⟩ ?_ ?_
  · rintro j d acc Γ hj ⟨rfl, rfl⟩
    have hm := hd d (List.mem_of_mem_drop (get_mem hj))
    have hi := gd_imm hm.gd
    have := len_step (n := 8) (by rw [List.length_drop]; omega) hj
    simp! only [toV_of hi, arOf_im hi]
    refine piece_spec hm ?_
    simp! only [true_and]
    refine ⟨by simp; omega, DS_step hj, rfl⟩
  rintro acc Γ ⟨rfl, rfl⟩
  rw [List.take_length, eD]
  have C := chn (n := t.1) (L := jn ((ds.map ttx).take t.2.1.toNat)) (sL := spc (jn ((ds.map ttx).take t.2.1.toNat))) (sR := spc (jn ((ds.map ttx).drop t.2.1.toNat))) (R := jn ((ds.map ttx).drop t.2.1.toNat)) h0.2 (jn_len hts.take) spc_len spc_len (jn_len hts.drop)
  simp! only [joinD_jn hts.drop, neD_str (a := jn ((ds.map ttx).take t.2.1.toNat)) (b := "") (jn_ok hts.take) e_ok, neD_str (a := jn ((ds.map ttx).drop t.2.1.toNat)) (b := "") (jn_ok hts.drop) e_ok, intD_b, mulD_spn, C.q1, C.q2, C.q3, C.q4, C.q5, C.q6, C.q7]
  exact k
theorem written_atom_t {t : Tb} (h0 : PyData.strOk t.1 = true ∧ t.1.length ≤ 41) (h1 : 0 ≤ t.2.1) (h2 : 0 ≤ t.2.2) (h3 : t.2.1 + t.2.2 ≤ 8) {ds : List PyData} (hd : ∀ d ∈ ds, TQ B60 d) (hln : (ds.length : Int) = t.2.1 + t.2.2) {P : Rs → List (List PyData) → Prop} (k : P (.v (.str (lawT t.1 t.2.1.toNat (ds.map ttx)))) []) : wpF D_law_written_atom [.v (tD t), .v (.tuple ds)] P := by
  have hts : TsOk 8 61 (ds.map ttx) := ts_of hd (by omega)
  have eT : (ds.take t.2.1.toNat).map ttx = (ds.map ttx).take t.2.1.toNat := List.map_take ..
  have eD : (ds.drop t.2.1.toNat).map ttx = (ds.map ttx).drop t.2.1.toNat := List.map_drop ..
  unfold D_law_written_atom
  refine wp_F rfl ?_
  unfold m_law_written_atom
  dsimp! only [true_and]
  rw [slT_to h1]
  dsimp! only [true_and]
  refine lcI (fun j acc Γ => acc = DS (((ds.take t.2.1.toNat).take j).map ttx) ∧ Γ = [Slot.im (tD t), Slot.im (.tuple ds), Slot.em, Slot.em, Slot.em]) ⟨rfl, rfl⟩ ?_ ?_
  · rintro j d acc Γ hj ⟨rfl, rfl⟩
    have hm := hd d (List.mem_of_mem_take (get_mem hj))
    have hi := gd_imm hm.gd
    have := len_step (n := 8) (by rw [List.length_take]; omega) hj
    simp! only [toV_of hi, arOf_im hi]
    refine piece_spec hm ?_
    simp! only [true_and]
    refine ⟨by simp; omega, DS_step hj, rfl⟩
  rintro acc Γ ⟨rfl, rfl⟩
  rw [List.take_length, eT]
  dsimp! only [joinD_jn hts.take]
  rw [slT_from h1]
  dsimp! only [true_and]
  refine lcI (fun j acc Γ => acc = DS (((ds.drop t.2.1.toNat).take j).map ttx) ∧ Γ = [Slot.im (tD t), Slot.im (.tuple ds), Slot.im (.str (jn ((ds.map ttx).take t.2.1.toNat))), Slot.em, Slot.em]) ⟨rfl, rfl⟩ ?_ ?_
  · rintro j d acc Γ hj ⟨rfl, rfl⟩
    have hm := hd d (List.mem_of_mem_drop (get_mem hj))
    have hi := gd_imm hm.gd
    have := len_step (n := 8) (by rw [List.length_drop]; omega) hj
    simp! only [toV_of hi, arOf_im hi]
    refine piece_spec hm ?_
    simp! only [true_and]
    refine ⟨by simp; omega, DS_step hj, rfl⟩
  rintro acc Γ ⟨rfl, rfl⟩
  rw [List.take_length, eD]
  have C := chn (n := t.1) (L := jn ((ds.map ttx).take t.2.1.toNat)) (sL := spc (jn ((ds.map ttx).take t.2.1.toNat))) (sR := spc (jn ((ds.map ttx).drop t.2.1.toNat))) (R := jn ((ds.map ttx).drop t.2.1.toNat)) h0.2 (jn_len hts.take) spc_len spc_len (jn_len hts.drop)
  simp! only [joinD_jn hts.drop, neD_str (a := jn ((ds.map ttx).take t.2.1.toNat)) (b := "") (jn_ok hts.take) e_ok, neD_str (a := jn ((ds.map ttx).drop t.2.1.toNat)) (b := "") (jn_ok hts.drop) e_ok, intD_b, mulD_spn, C.q1, C.q2, C.q3, C.q4, C.q5, C.q6, C.q7]
  exact k
abbrev rtx (f : Fc) (k : Nat) : Str := colT f.1 k (f.2.map vtx)
theorem vts_of {ds : List PyData} {n : Nat} (hd : ∀ d ∈ ds, VQ B60 d) (hl : ds.length ≤ n) : TsOk n 61 (ds.map vtx) := ⟨by rw [List.length_map]; exact hl, fun t ht => by
  obtain ⟨d, hm, rfl⟩ := List.mem_map.mp ht
  exact vtx_ok (hd d hm)⟩
theorem fact_text_spec {l : List Tb} (hl : SQ l) {t : Tb} (ht : t ∈ l) {f : Fc} (e : t.1 = f.1) (hf : FQ B60 l f) (hln : (f.2.length : Int) = t.2.1 + t.2.2) {P : Rs → List (List PyData) → Prop} (k : P (.v (.str (rtx f t.2.1.toNat))) []) : wpF D_fact_text [.v (.tuple (TS l)), .v (fD f)] P := by
  obtain ⟨t0, t1, t2, t3⟩ := hl.ok.ok t ht
  have hv : immAll f.2 = true := immAll_of fun d hd => (hf.ok.vl d hd).imm
  unfold D_fact_text
  refine wp_F rfl ?_
  unfold m_fact_text
  dsimp! only [true_and]
  refine lcI (fun j acc Γ => acc = DS ((f.2.take j).map vtx) ∧ Γ = [Slot.im (.tuple (TS l)), Slot.im (fD f), Slot.im (.str f.1), Slot.im (.tuple f.2), Slot.em]) ⟨rfl, rfl⟩ ?_ ?_
  · rintro j d acc Γ hj ⟨rfl, rfl⟩
    have hm := hf.vq d (get_mem hj)
    have hi := hm.vl.imm
    have := len_step (n := 8) (by omega) hj
    simp! only [toV_of hi, arOf_im hi]
    refine value_text_spec hm ?_
    simp! only [true_and]
    refine ⟨by simp; omega, DS_step hj, rfl⟩
  rintro acc Γ ⟨rfl, rfl⟩
  rw [List.take_length]
  simp! only [true_and]
  rw [← e]
  refine columns_spec hl ht (vts_of hf.vq (by omega)) (by rw [List.length_map]; exact hln) ?_
  simp! only [true_and]
  rw [e]
  exact k
end Lw
end

section
set_option Elab.async false
set_option linter.all false
set_option maxRecDepth 100000
set_option maxHeartbeats 400000
namespace Lw
open PySem PySem.Spec PyProof.Rows L2 Vf
variable [Tabs]
local macro_rules | `(tactic| simp! only [$ls,*]) => `(tactic| simp -implicitDefEqProofs only [↓wp_var, ↓wp_c, ↓wp_op2, ↓wp_op1, ↓wp_aNil, ↓wp_aCons, ↓wp_cb, ↓wp_mut, ↓wp_mth, ↓wp_tup, ↓wp_lst, ↓wp_isi, ↓wp_isi2, ↓wp_bVal, ↓wp_bTru, ↓wp_bNot, ↓wp_bAnd, ↓wp_bOr, ↓wp_bYes, ↓wp_eIf, ↓wp_andV, ↓wp_orV, ↓wp_notV, ↓wp_oNone, ↓wp_oSome, ↓wp_sl, ↓wp_callC, ↓wp_sortK, ↓wp_zip, zp_t, ↓wp_rev, revT, revL, ↓wp_sMv, mvq_ow, ↓wp_idx, ↓wp_fmt, ↓wp_joined, ↓wp_js, ↓wp_jn, strV_s, ↓wp_never, imT_t,  skv_l, ↓wp_allS, ↓wp_seq, sq_next, sq_ret, sq_brk, sq_cont, ↓wp_next, ↓wp_brk, ↓wp_cont, ↓wp_ret, ↓wp_retN, ↓wp_drop, ↓wp_sIf, ↓wp_sSet, ↓wp_sAsg, ↓wp_sSetIx, ↓wp_iter, ↓wp_range1, ↓wp_range2, ↓wp_forP, ↓wp_lcP, pr_mk, vr_im, vr_ow, vr_io, vr_bo, rdv_im, rdv_nw, rdv_sl, rsl_ow, rsl_io, rsl_bo, rdvs_nil, rdvs_cons, cons2_some, ims_nil, ims_cons, o2_some, oo_some, om_some, imS_str, blV_b, inV1_i, imV_im, itv_t, itv_s, itv_n, itv_l, itl_ow, itl_bo, rg1_i, rg2_i, toV_int, toV_bool, toV_str, toV_tuple, toV_none, toV_list,
  slotOf, setS_eq, sS_fre, fre_em, fre_im, fre_ow, fre_bo, getM_eq, gM_ow, gM_io, putL_eq, pL_ow, pL_io, putLs, rsV, slM, slB, arsOf, arOf_im, arOf_int, arOf_str, arOf_bool, arOf_none, arOf_tuple, arOf_nw, arOf_sl, arOf_m, arS_ow, arS_io, arS_bo, arM_ow, arM_io, resP_ret, resP_next, resOf_im, resOf_nw, resOf_sl, rso_ow, outsOf, initG, slotA, bor, unb, clr, rst, gtName, gtTup, gtCons, gtNil, outI_next, outI_cont, outI_brk, outI_ret,
  List.getElem?_cons_zero, List.getElem?_cons_succ, List.set_cons_zero, List.set_cons_succ, List.map_cons, List.map_nil, List.cons_append, List.nil_append, List.append_nil, List.length_cons, List.length_nil, List.replicate_succ, List.replicate_zero, Nat.sub_self, Nat.reduceAdd, Nat.reduceSub, Nat.reduceEqDiff, List.getElem?_nil, 
  eqD_int, neD_int, eqD_bool, neD_bool, addD_int, subD_int, ltD_int, leD_int, gtD_int, geD_int, intD_int, intD_bool, lenL, lenT, listD_l, listD_t, tupleD_l, tupleD_t, ixL_int, ixT_int, ixS_int, negD_int, truD_b, atI0, atI1, atI2, List.nodup_nil, List.nodup_cons, List.not_mem_nil, not_false_eq_true, false_imp_iff, implies_true, and_true, true_and, and_self, if_true, if_false, Bool.false_eq_true, reduceIte, List.mem_cons, or_false, false_or, forall_eq, forall_eq_or_imp, imm_int, imm_str, beq_iff_eq, bne_iff_ne, decide_eq_true_eq, Bool.not_eq_true', $ls,*])
local macro_rules | `(tactic| dsimp! only [$ls,*]) => `(tactic| simp -implicitDefEqProofs only [↓wp_sIfY, ↓wp_var, ↓wp_c, ↓wp_op2, ↓wp_op1, ↓wp_aNil, ↓wp_aCons, ↓wp_cb, ↓wp_mut, ↓wp_mth, ↓wp_tup, ↓wp_lst, ↓wp_isi, ↓wp_isi2, ↓wp_bVal, ↓wp_bTru, ↓wp_bNot, ↓wp_bAnd, ↓wp_bOr, ↓wp_bYes, ↓wp_eIf, ↓wp_andV, ↓wp_orV, ↓wp_notV, ↓wp_oNone, ↓wp_oSome, ↓wp_sl, ↓wp_callC, ↓wp_sortK, ↓wp_zip, zp_t, ↓wp_rev, revT, revL, ↓wp_sMv, mvq_ow, ↓wp_idx, ↓wp_fmt, ↓wp_joined, ↓wp_js, ↓wp_jn, strV_s, ↓wp_never, imT_t,  skv_l, ↓wp_allS, ↓wp_seq, sq_next, sq_ret, sq_brk, sq_cont, ↓wp_next, ↓wp_brk, ↓wp_cont, ↓wp_ret, ↓wp_retN, ↓wp_drop, ↓wp_sSet, ↓wp_sAsg, ↓wp_sSetIx, ↓wp_iter, ↓wp_range1, ↓wp_range2, ↓wp_forP, ↓wp_lcP, pr_mk, vr_im, vr_ow, vr_io, vr_bo, rdv_im, rdv_nw, rdv_sl, rsl_ow, rsl_io, rsl_bo, rdvs_nil, rdvs_cons, cons2_some, ims_nil, ims_cons, o2_some, oo_some, om_some, imS_str, blV_b, inV1_i, imV_im, itv_t, itv_s, itv_n, itv_l, itl_ow, itl_bo, rg1_i, rg2_i, toV_int, toV_bool, toV_str, toV_tuple, toV_none, toV_list,
  slotOf, setS_eq, sS_fre, fre_em, fre_im, fre_ow, fre_bo, getM_eq, gM_ow, gM_io, putL_eq, pL_ow, pL_io, putLs, rsV, slM, slB, arsOf, arOf_im, arOf_int, arOf_str, arOf_bool, arOf_none, arOf_tuple, arOf_nw, arOf_sl, arOf_m, arS_ow, arS_io, arS_bo, arM_ow, arM_io, resP_ret, resP_next, resOf_im, resOf_nw, resOf_sl, rso_ow, outsOf, initG, slotA, bor, unb, clr, rst, gtName, gtTup, gtCons, gtNil, outI_next, outI_cont, outI_brk, outI_ret,
  List.getElem?_cons_zero, List.getElem?_cons_succ, List.set_cons_zero, List.set_cons_succ, List.map_cons, List.map_nil, List.cons_append, List.nil_append, List.append_nil, List.length_cons, List.length_nil, List.replicate_succ, List.replicate_zero, Nat.sub_self, Nat.reduceAdd, Nat.reduceSub, Nat.reduceEqDiff, List.getElem?_nil, 
  eqD_int, neD_int, eqD_bool, neD_bool, addD_int, subD_int, ltD_int, leD_int, gtD_int, geD_int, intD_int, intD_bool, lenL, lenT, listD_l, listD_t, tupleD_l, tupleD_t, ixL_int, ixT_int, ixS_int, negD_int, truD_b, atI0, atI1, atI2, List.nodup_nil, List.nodup_cons, List.not_mem_nil, not_false_eq_true, false_imp_iff, implies_true, and_true, true_and, and_self, if_true, if_false, Bool.false_eq_true, reduceIte, List.mem_cons, or_false, false_or, forall_eq, forall_eq_or_imp, imm_int, imm_str, beq_iff_eq, bne_iff_ne, decide_eq_true_eq, Bool.not_eq_true', $ls,*])
theorem TQ.imm {b : Int → Prop} {d : PyData} (h : TQ b d) : imm d = true := gd_imm h.gd
theorem any_term_spec {b : Int → Prop} {ns sc : List Int} {ws : List Str} (hb : Bd b sc) (hw : WOk 40 ws) (hl : ws.length = 10) {P : Rs → List (List PyData) → Prop} (h : ∀ d ns', TQ b d → P (.v d) [DI ns']) : wpF D_law_any_term [.m (DI ns), .l (DI sc), .l (DS ws)] P := by
  unfold D_law_any_term
  refine wp_F rfl ?_
  unfold m_law_any_term
  simp! only [true_and]
  refine take_spec (by omega) fun v ns1 v0 v1 => ?_
  simp! only [true_and]
  split
  · refine any_value2_spec hb hw (by omega) fun d ns2 hd => ?_
    have hi := hd.vl.imm
    simp! only [toV_of hi, hi]
    exact ⟨by omega, h _ _ (.val hd)⟩
  · have hsl : slD (.list (DS ws)) (some 3) none = some (.list (DS (ws.drop 3))) := by
      show some (PyData.list (cutL _ _ _)) = _
      rw [cut_from (by omega)]
      simp only [DS, List.map_drop]
      rfl
    simp! only [hsl]
    refine pick_spec (ds := DS (ws.drop 3)) (by simp; omega) immAll_strs fun d ns2 hd => ?_
    obtain ⟨a, ha, rfl⟩ := List.mem_map.mp hd
    simp! only [true_and]
    exact ⟨by omega, h _ _ (.var (hw.ok a (List.mem_of_mem_drop ha)))⟩
/-! atoms: a name and its terms (as facts are a name and its values) -/
structure AQ (b : Int → Prop) (l : List Tb) (a : Fc) : Prop where
  tb : ∃ t ∈ l, t.1 = a.1 ∧ (a.2.length : Int) = t.2.1 + t.2.2
  tq : ∀ d ∈ a.2, TQ b d
theorem AQ.imm {b : Int → Prop} {l : List Tb} {a : Fc} (h : AQ b l a) : imm (fD a) = true := by
  have := immAll_of fun d hd => (h.tq d hd).imm
  simp [Vf.imm, immAll, this]
theorem any_atom_spec {b : Int → Prop} {ns sc : List Int} {ws : List Str} {l : List Tb} (hb : Bd b sc) (hw : WOk 40 ws) (hwl : ws.length = 10) (hl : SQ l) {t : Tb} (ht : t ∈ l) {P : Rs → List (List PyData) → Prop} (h : ∀ a ns', AQ b l a → P (.v (fD a)) [DI ns']) : wpF D_law_any_atom [.m (DI ns), .l (DI sc), .l (DS ws), .v (tD t)] P := by
  obtain ⟨t0, t1, t2, t3⟩ := hl.ok.ok t ht
  unfold D_law_any_atom
  refine wp_F rfl ?_
  unfold m_law_any_atom
  dsimp! only [true_and]
  refine ⟨by omega, ?_⟩
  refine lcI (fun j acc Γ => ∃ ns, acc.length = j ∧ (∀ d ∈ acc, TQ b d) ∧ Γ = [.io (DI ns), .bo (DI sc), .bo (DS ws), .im (tD t), .em]) ⟨ns, rfl, by simp, rfl⟩ ?_ ?_
  · rintro j d acc Γ hj ⟨ns, ha, hv, rfl⟩
    obtain ⟨rfl, hj⟩ := rng1_get hj
    simp! only [true_and]
    refine any_term_spec hb hw hwl fun d ns2 hd => ?_
    simp! only [true_and]
    refine ⟨by omega, ns2, by simp [ha], ?_, rfl⟩
    intro x hx
    rcases List.mem_append.mp hx with hx | hx
    · exact hv x hx
    · rw [List.mem_singleton.mp hx]; exact hd
  rintro acc Γ ⟨ns1, hal, hv, rfl⟩
  rw [rng1_len] at hal
  have hi : immAll acc = true := immAll_of fun d hd => (hv d hd).imm
  simp! only [true_and]
  exact ⟨by omega, h (t.1, acc) _ ⟨⟨t, ht, rfl, by show (acc.length : Int) = _; omega⟩, hv⟩⟩
/-! joins -/
abbrev Jn := List PyData × List Fc
abbrev jD (j : Jn) : PyData := .tuple [.tuple j.1, .tuple (FS j.2)]
structure JQ (b : Int → Prop) (l : List Tb) (w : Int) (j : Jn) : Prop where
  wd : (j.1.length : Int) = w
  hd : ∀ d ∈ j.1, TQ b d
  kn : ∀ d ∈ j.1, (∃ v, d = .tuple [.str "value", v] ∧ VQ b v) ∨ ∃ a ∈ j.2, d ∈ a.2
  ln : j.2.length ≤ 8
  aq : ∀ a ∈ j.2, AQ b l a
theorem any_join_spec {b : Int → Prop} {ns sc : List Int} {ws : List Str} {l : List Tb} (hb : Bd b sc) (hw : WOk 40 ws) (hwl : ws.length = 10) (hl : SQ l) {w n : Int} (hw0 : 0 ≤ w ∧ w ≤ 8) (hn : 0 ≤ n ∧ n ≤ 8) {P : Rs → List (List PyData) → Prop} (h : ∀ j ns', JQ b l w j → P (.v (jD j)) [DI ns']) : wpF D_law_any_join [.m (DI ns), .l (DI sc), .l (DS ws), .v (.tuple (TS l)), .v (.int w), .v (.int n)] P := by
  unfold D_law_any_join
  refine wp_F rfl ?_
  unfold m_law_any_join
  dsimp! only [true_and]
  refine ⟨by omega, ?_⟩
  refine take_spec (by omega) fun v ns1 v0 v1 => ?_
  dsimp! only [true_and]
  refine ⟨by omega, ?_⟩
  refine wpX_mono (P := fun o Γ => o = .next ∧ ∃ ns bd s7, fre s7 ∧ bd.length ≤ 8 ∧ (∀ a ∈ bd, AQ b l a) ∧ Γ = [.io (DI ns), .bo (DI sc), .bo (DS ws), .im (.tuple (TS l)), .im (.int w), .im (.int n), .ow (FS bd), s7, .em, .em, .em, .em]) ?_ ?_
  · refine loopI (fun i Γ => ∃ ns bd s7, fre s7 ∧ bd.length ≤ i ∧ (∀ a ∈ bd, AQ b l a) ∧ Γ = [.io (DI ns), .bo (DI sc), .bo (DS ws), .im (.tuple (TS l)), .im (.int w), .im (.int n), .ow (FS bd), s7, .em, .em, .em, .em]) ⟨ns1, [], .em, by simp! only [true_and], by simp, by simp, rfl⟩ ?_ ?_
    · rintro i d Γ hi ⟨ns, bd, s7, h7, hbl, hba, rfl⟩
      obtain ⟨rfl, hi⟩ := rng1_get hi
      simp! only [h7]
      split
      · refine pickT_spec (ds := TS l) (by omega) immAll_TS fun d ns3 hd => ?_
        obtain ⟨t, ht, rfl⟩ := List.mem_map.mp hd
        simp! only [true_and]
        refine any_atom_spec hb hw hwl hl ht fun a ns4 ha => ?_
        simp! only [appendM_ok (ds := FS bd) (d := fD a) ha.imm (by simp; omega)]
        refine ⟨ns4, bd ++ [a], .im (.int i), fre_im.mpr trivial, by simp; omega, ?_, by simp only [List.map_append, List.map_cons, List.map_nil] <;> rfl⟩
        intro x hx
        rcases List.mem_append.mp hx with hx | hx
        · exact hba x hx
        · rw [List.mem_singleton.mp hx]; exact ha
      · exact ⟨ns, bd, .im (.int i), fre_im.mpr trivial, by omega, hba, rfl⟩
    · rintro Γ ⟨ns, bd, s7, h7, hbl, hba, rfl⟩
      rw [rng1_len] at hbl
      exact ⟨rfl, ns, bd, s7, h7, by omega, hba, rfl⟩
  rintro o Γ ⟨rfl, ns2, bd, s7, h7, hbl, hba, rfl⟩
  dsimp! only [true_and]
  refine ⟨by omega, ?_⟩
  have al8 : ∀ a ∈ bd, a.2.length ≤ 8 := fun a ha => by
    obtain ⟨t, ht, _, e⟩ := (hba a ha).tb
    have := (hl.ok.ok t ht)
    omega
  refine wpX_mono (P := fun o Γ => o = .next ∧ ∃ ks s9, fre s9 ∧ ks.length ≤ 64 ∧ (∀ d ∈ ks, TQ b d ∧ ∃ a ∈ bd, d ∈ a.2) ∧ Γ = [.io (DI ns2), .bo (DI sc), .bo (DS ws), .im (.tuple (TS l)), .im (.int w), .im (.int n), .bo (FS bd), s7, .ow ks, s9, .em, .em]) ?_ ?_
  · refine loopI (fun i Γ => ∃ ks s9, fre s9 ∧ ks.length ≤ 8 * i ∧ (∀ d ∈ ks, TQ b d ∧ ∃ a ∈ bd, d ∈ a.2) ∧ Γ = [.io (DI ns2), .bo (DI sc), .bo (DS ws), .im (.tuple (TS l)), .im (.int w), .im (.int n), .bo (FS bd), s7, .ow ks, s9, .em, .em]) ⟨[], .em, by simp! only [true_and], by simp, by simp, rfl⟩ ?_ ?_
    · rintro i d Γ hi ⟨ks, s9, h9, hkl, hka, rfl⟩
      have hil : i < (FS bd).length := (List.getElem?_eq_some_iff.mp hi).1
      rw [List.length_map] at hil
      obtain ⟨a, ha, rfl⟩ := List.mem_map.mp (get_mem hi)
      have ha8 := al8 a ha
      dsimp! only [h9]
      refine lcI (fun j acc Γ => acc.length ≤ j ∧ (∀ d ∈ acc, d ∈ a.2) ∧ Γ = [.io (DI ns2), .bo (DI sc), .bo (DS ws), .im (.tuple (TS l)), .im (.int w), .im (.int n), .bo (FS bd), s7, .ow ks, .im (fD a), .em, .em]) ⟨by simp, by simp, rfl⟩ ?_ ?_
      · rintro j d acc Γ hj ⟨hal, hav, rfl⟩
        have hd := get_mem hj
        have hq := (hba a ha).tq d hd
        have := len_step (n := 8) ha8 hj
        have hi := hq.imm
        cases hq with
        | @var x hx =>
          simp! only [eqD_str (a := "var") (b := "var") ok_var ok_var]
          refine ⟨by omega, by simp; omega, ?_, rfl⟩
          intro y hy
          rcases List.mem_append.mp hy with hy | hy
          · exact hav y hy
          · rw [List.mem_singleton.mp hy]; exact hd
        | @val x hx =>
          have hv : ("value" == ("var" : Str)) = false := by decide +kernel
          simp! only [eqD_str (a := "value") (b := "var") ok_value ok_var, hv]
          exact ⟨by omega, hav, rfl⟩
      rintro acc Γ ⟨hal, hav, rfl⟩
      simp! only [addD_list (a := ks) (b := acc) (by omega)]
      refine ⟨ks ++ acc, .im (fD a), fre_im.mpr trivial, by simp; omega, ?_, rfl⟩
      intro y hy
      rcases List.mem_append.mp hy with hy | hy
      · exact hka y hy
      · exact ⟨(hba a ha).tq y (hav y hy), a, ha, hav y hy⟩
    · rintro Γ ⟨ks, s9, h9, hkl, hka, rfl⟩
      rw [List.length_map] at hkl
      exact ⟨rfl, ks, s9, h9, by omega, hka, rfl⟩
  rintro o Γ ⟨rfl, ks, s9, h9, hkl, hka, rfl⟩
  have hki : immAll ks = true := immAll_of fun d hd => (hka d hd).1.imm
  dsimp! only [true_and]
  refine ⟨by omega, by omega, ?_⟩
  refine loopI (fun i Γ => ∃ ns hs s7, fre s7 ∧ hs.length = i ∧ (∀ d ∈ hs, TQ b d ∧ ((∃ v, d = .tuple [.str "value", v] ∧ VQ b v) ∨ ∃ a ∈ bd, d ∈ a.2)) ∧ Γ = [.io (DI ns), .bo (DI sc), .bo (DS ws), .im (.tuple (TS l)), .im (.int w), .im (.int n), .ow (FS bd), s7, .ow ks, s9, .ow hs, .em]) ⟨ns2, [], s7, h7, rfl, by simp, rfl⟩ ?_ ?_
  · rintro i d Γ hi ⟨ns, hs, s7, h7, hhl, hha, rfl⟩
    obtain ⟨rfl, hi⟩ := rng1_get hi
    dsimp! only [h7]
    refine any_value2_spec hb hw (by omega) fun v ns3 hv => ?_
    have hvi := hv.vl.imm
    have hvt : TQ b (.tuple [.str "value", v]) := .val hv
    dsimp! only [toV_of hvi, hvi]
    refine ⟨by omega, ?_⟩
    rw [appendM_ok (ds := hs) (d := .tuple [.str "value", v]) hvt.imm (by omega)]
    simp! only [true_and]
    have base : ∀ x ∈ hs ++ [PyData.tuple [.str "value", v]], TQ b x ∧ ((∃ v, x = .tuple [.str "value", v] ∧ VQ b v) ∨ ∃ a ∈ bd, x ∈ a.2) := fun x hx => by
      rcases List.mem_append.mp hx with hx | hx
      · exact hha x hx
      · rw [List.mem_singleton.mp hx]; exact ⟨hvt, .inl ⟨v, rfl, hv⟩⟩
    rw [wpY_eq, wp_sIf]
    simp! only [true_and]
    split
    · rename_i hk0
      refine take_spec (by omega) fun u ns4 u0 u1 => ?_
      simp! only [true_and]
      split
      · refine pick_spec (ds := ks) (by omega) hki fun d ns5 hd => ?_
        have hdi := (hka d hd).1.imm
        have hix : ixN (hs.length + 1) (i : Int) = some i := by
          unfold ixN; rw [if_pos (by omega), if_pos (by omega)]; simp
        simp! only [toV_of hdi, hix, List.length_append]
        refine ⟨ns5, (hs ++ [PyData.tuple [.str "value", v]]).set i d, .im (.int i), fre_im.mpr trivial, by simp [hhl], ?_, rfl⟩
        intro x hx
        rcases List.mem_or_eq_of_mem_set hx with hx | hx
        · exact base x hx
        · rw [hx]; exact ⟨(hka d hd).1, .inr (hka d hd).2⟩
      · exact ⟨ns4, hs ++ [PyData.tuple [.str "value", v]], .im (.int i), fre_im.mpr trivial, by simp [hhl], base, rfl⟩
    · exact ⟨ns3, hs ++ [PyData.tuple [.str "value", v]], .im (.int i), fre_im.mpr trivial, by simp [hhl], base, rfl⟩
  · rintro Γ ⟨ns, hs, s7, h7, hhl, hha, rfl⟩
    rw [rng1_len] at hhl
    have h1 : immAll hs = true := immAll_of fun d hd => (hha d hd).1.imm
    have h2 : immAll (FS bd) = true := immAll_of fun d hd => by
      obtain ⟨a, ha, rfl⟩ := List.mem_map.mp hd
      exact (hba a ha).imm
    simp! only [true_and]
    exact ⟨by omega, h (hs, bd) _ ⟨by show (hs.length : Int) = w; omega, fun d hd => (hha d hd).1, fun d hd => (hha d hd).2, hbl, hba⟩⟩
theorem JQ.imm {b : Int → Prop} {l : List Tb} {w : Int} {j : Jn} (h : JQ b l w j) : imm (jD j) = true := by
  have h1 : immAll j.1 = true := immAll_of fun d hd => (h.hd d hd).imm
  have h2 : immAll (FS j.2) = true := immAll_of fun d hd => by
    obtain ⟨a, ha, rfl⟩ := List.mem_map.mp hd
    exact (h.aq a ha).imm
  simp [Vf.imm, immAll, h1, h2]
/-! questions -/
abbrev JS (js : List Jn) : List PyData := js.map jD
abbrev Qn := Int × List Jn
abbrev qD (q : Qn) : PyData := .tuple [.int q.1, .tuple (JS q.2)]
structure QQ (b : Int → Prop) (l : List Tb) (q : Qn) : Prop where
  w0 : 0 ≤ q.1 ∧ q.1 ≤ 8
  ln : q.2.length ≤ 8
  jq : ∀ j ∈ q.2, JQ b l q.1 j
theorem any_question_spec {b : Int → Prop} {ns sc : List Int} {ws : List Str} {l : List Tb} (hb : Bd b sc) (hw : WOk 40 ws) (hwl : ws.length = 10) (hl : SQ l) {P : Rs → List (List PyData) → Prop} (h : ∀ q ns', QQ b l q → P (.v (qD q)) [DI ns']) : wpF D_law_any_question [.m (DI ns), .l (DI sc), .l (DS ws), .v (.tuple (TS l))] P := by
  unfold D_law_any_question
  refine wp_F rfl ?_
  unfold m_law_any_question
  dsimp! only [true_and]
  refine ⟨by omega, by omega, by omega, by omega, by omega, ?_⟩
  refine pick_spec (ds := [.tuple [.int 3, .int 3], .tuple [.int 2, .int 2], .tuple [.int 8, .int 2], .tuple [.int 2, .int 8]]) (by simp) (by decide) fun d ns1 hd => ?_
  have hs : ∃ m n : Int, d = .tuple [.int m, .int n] ∧ 1 ≤ m ∧ m ≤ 8 ∧ 0 ≤ n ∧ n ≤ 8 := by
    simp only [List.mem_cons, List.not_mem_nil, or_false] at hd
    rcases hd with rfl | rfl | rfl | rfl <;> exact ⟨_, _, rfl, by omega, by omega, by omega, by omega⟩
  obtain ⟨m, n, rfl, m0, m1, n0, n1⟩ := hs
  clear hd
  dsimp! only [true_and]
  refine take_spec (by omega) fun u ns2 u0 u1 => ?_
  dsimp! only [true_and]
  refine ⟨by omega, ?_⟩
  refine pick_spec (ds := [.int 1, .int 2, .int 0, .int 3, .int u]) (by simp) (by simp [immAll, Vf.imm]) fun d ns3 hd => ?_
  have hs : ∃ w : Int, d = .int w ∧ 0 ≤ w ∧ w ≤ 8 := by
    simp only [List.mem_cons, List.not_mem_nil, or_false] at hd
    rcases hd with rfl | rfl | rfl | rfl | rfl
    all_goals exact ⟨_, rfl, by omega, by omega⟩
  obtain ⟨w, rfl, w0, w1⟩ := hs
  clear hd
  dsimp! only [true_and]
  refine take_spec (by omega) fun r ns4 r0 r1 => ?_
  dsimp! only [true_and]
  refine wp_mono (P := fun o Γ => IV (o = .next ∧ ∃ ns k, 0 ≤ k ∧ k ≤ 8 ∧ Γ = [.io (DI ns), .bo (DI sc), .bo (DS ws), .im (.tuple (TS l)), .im (.tuple [.int m, .int n]), .im (.int w), .im (.int k), .em, .em])) ?_ ?_
  · simp! only [true_and]
    refine take_spec (by omega) fun v ns5 _ _ => ?_
    simp! only [true_and]
    split
    · exact ⟨rfl, ns5, 0, by omega, by omega, rfl⟩
    · exact ⟨rfl, ns5, _, by omega, by omega, rfl⟩
  rintro o Γ ⟨rfl, ns5, k, k0, k1, rfl⟩
  dsimp! only [true_and]
  refine ⟨by omega, ?_⟩
  refine lcI (fun j acc Γ => ∃ ns js, acc = JS js ∧ js.length = j ∧ (∀ x ∈ js, JQ b l w x) ∧ Γ = [.io (DI ns), .bo (DI sc), .bo (DS ws), .im (.tuple (TS l)), .im (.tuple [.int m, .int n]), .im (.int w), .im (.int k), .em, .em]) ⟨ns5, [], rfl, rfl, by simp, rfl⟩ ?_ ?_
  · rintro j d acc Γ hj ⟨ns, js, rfl, hjl, hjv, rfl⟩
    obtain ⟨rfl, hj⟩ := rng1_get hj
    simp! only [true_and]
    refine any_join_spec hb hw hwl hl ⟨w0, w1⟩ ⟨n0, n1⟩ fun x ns6 hx => ?_
    simp! only [true_and]
    refine ⟨by simp; omega, ns6, js ++ [x], by simp, by simp [hjl], ?_, rfl⟩
    intro y hy
    rcases List.mem_append.mp hy with hy | hy
    · exact hjv y hy
    · rw [List.mem_singleton.mp hy]; exact hx
  rintro acc Γ ⟨ns6, js, rfl, hjl, hjv, rfl⟩
  rw [rng1_len] at hjl
  have hi : immAll (JS js) = true := immAll_of fun d hd => by
    obtain ⟨x, hx, rfl⟩ := List.mem_map.mp hd
    exact (hjv x hx).imm
  simp! only [true_and]
  exact ⟨by omega, h (w, js) _ ⟨⟨w0, w1⟩, by show js.length ≤ 8; omega, hjv⟩⟩
end Lw
end

section
set_option Elab.async false
set_option linter.all false
set_option maxRecDepth 100000
set_option maxHeartbeats 4000000
namespace Lw
open PySem PySem.Spec PyProof.Rows L2 Vf
/-! ### mirrors -/
abbrev NN_is_word : List Str := ["text"]
abbrev PP_is_word : List Str := ["text"]
abbrev NN_is_row : List Str := ["row"]
abbrev PP_is_row : List Str := ["row"]
abbrev NN_is_fact : List Str := ["schema", "name", "row", "table"]
abbrev PP_is_fact : List Str := ["schema", "name", "row"]
abbrev NN_law_is_word : List Str := ["text", "char"]
abbrev PP_law_is_word : List Str := ["text"]
abbrev NN_law_strange : List Str := ["draws", "word", "sign", "at"]
abbrev PP_law_strange : List Str := ["draws", "word"]
abbrev NN_law_is_fact : List Str := ["schema", "name", "row", "table", "value"]
abbrev PP_law_is_fact : List Str := ["schema", "name", "row"]
abbrev NN_law_changed_row : List Str := ["draws", "script", "row", "words", "kind", "at"]
abbrev PP_law_changed_row : List Str := ["draws", "script", "row", "words"]
abbrev NN_law : List Str := ["script", "draws", "words", "schema", "names", "name", "other", "row", "table", "k", "near"]
abbrev PP_law : List Str := ["script"]
def m_is_word : MS :=
  (sRet (eAndV (eOp2 neD (eVar 0) (eC (.str ""))) (eAllS (betw "a" "z") (eVar 0))))
def D_is_word : FD := mkF0 (List.length NN_is_word) (List.length PP_is_word) m_is_word
def m_is_row : MS :=
  (sRet (eAllG (eIter (eVar 0)) (eOrV (eIsi "int" (eVar 0)) (eCall [false] D_is_word (aCons (eVar 0) aNil)))))
def D_is_row : FD := mkF0 (List.length NN_is_row) (List.length PP_is_row) m_is_row
def m_is_fact : MS :=
  (sSeq (sSet 3 (eCall [false, false] D_table_of (aCons (eVar 0) (aCons (eVar 1) aNil))))
    (sSeq (sIf (bVal (eOp2 isND (eVar 3) (eC .none))) (sRet (eC (.bool false))) sNext)
    (sRet (eAndV (eOp2 eqD (eCB lenD (aCons (eVar 2) aNil)) (eOp2 addD (eOp2 ixD (eVar 3) (eC (.int 1))) (eOp2 ixD (eVar 3) (eC (.int 2))))) (eCall [false] D_is_row (aCons (eVar 2) aNil))))))
def D_is_fact : FD := mkF0 (List.length NN_is_fact) (List.length PP_is_fact) m_is_fact
def m_law_is_word : MS :=
  (sRet (eAndV (eOp2 neD (eVar 0) (eC (.str ""))) (eOp2 eqD (eCB lenD (aCons (eLc [1] (eIter (eVar 0)) (gtName 1) (bVal (eOp2 niD (eVar 1) (eC (.str "abcdefghijklmnopqrstuvwxyz")))) (eVar 1)) aNil)) (eC (.int 0)))))
def D_law_is_word : FD := mkF0 (List.length NN_law_is_word) (List.length PP_law_is_word) m_law_is_word
def m_law_strange : MS :=
  (sSeq (sSet 2 (eCall [true, false] D_law_pick (aCons (eVar 0) (aCons (eLst (aCons (eC (.str " ")) (aCons (eC (.str "A")) (aCons (eC (.str "Z")) (aCons (eC (.str "0")) (aCons (eC (.str "9")) (aCons (eC (.str "_")) (aCons (eC (.str "-")) (aCons (eC (.str "(")) (aCons (eC (.str "|")) (aCons (eC (.str "~")) (aCons (eC (.str "{")) (aCons (eC (.str "`")) (aCons (eC (.str "@")) (aCons (eC (.str "[")) (aCons (eC (.str "\n")) aNil)))))))))))))))) aNil))))
    (sSeq (sSet 3 (eCall [true, false] D_law_take (aCons (eVar 0) (aCons (eOp2 addD (eCB lenD (aCons (eVar 1) aNil)) (eC (.int 1))) aNil))))
    (sRet (eOp2 ixD (eLst (aCons (eC (.str "")) (aCons (eOp2 addD (eOp2 addD (eSl (eVar 1) oNone (oSome (eVar 3))) (eVar 2)) (eSl (eVar 1) (oSome (eVar 3)) oNone)) aNil))) (eCB intD (aCons (eOp2 (cmpI gtI) (eCall [true, false] D_law_take (aCons (eVar 0) (aCons (eC (.int 6)) aNil))) (eC (.int 0))) aNil))))))
def D_law_strange : FD := mkF0 (List.length NN_law_strange) (List.length PP_law_strange) m_law_strange
def m_law_is_fact : MS :=
  (sSeq (sSet 3 (eCall [false, false] D_law_table (aCons (eVar 0) (aCons (eVar 1) aNil))))
    (sSeq (sIf (bOr (bVal (eOp2 isND (eVar 3) (eC .none))) (bVal (eOp2 neD (eCB lenD (aCons (eVar 2) aNil)) (eOp2 addD (eOp2 ixD (eVar 3) (eC (.int 1))) (eOp2 ixD (eVar 3) (eC (.int 2))))))) (sRet (eC (.bool false))) sNext)
    (sRet (eOp2 eqD (eCB lenD (aCons (eLc [4] (eIter (eVar 2)) (gtName 4) (bAnd (bTru (eIsi "str" (eVar 4))) (bNot (bTru (eCall [false] D_law_is_word (aCons (eVar 4) aNil))))) (eVar 4)) aNil)) (eC (.int 0))))))
def D_law_is_fact : FD := mkF0 (List.length NN_law_is_fact) (List.length PP_law_is_fact) m_law_is_fact
def m_law_changed_row : MS :=
  (sSeq (sSet 2 (eCB listD (aCons (eVar 2) aNil)))
    (sSeq (sSet 4 (eCall [true, false] D_law_take (aCons (eVar 0) (aCons (eC (.int 5)) aNil))))
    (sSeq (sIf (bAnd (bVal (eOp2 eqD (eVar 4) (eC (.int 0)))) (bVal (eOp2 (cmpI gtI) (eCB lenD (aCons (eVar 2) aNil)) (eC (.int 0))))) (sDrop (eMut 2 popM (aCons (eCall [true, false] D_law_take (aCons (eVar 0) (aCons (eCB lenD (aCons (eVar 2) aNil)) aNil))) aNil))) sNext)
    (sSeq (sIf (bVal (eOp2 eqD (eVar 4) (eC (.int 1)))) (sDrop (eMut 2 insertM (aCons (eCall [true, false] D_law_take (aCons (eVar 0) (aCons (eOp2 addD (eCB lenD (aCons (eVar 2) aNil)) (eC (.int 1))) aNil))) (aCons (eCall [true, false, false] D_law_any_value (aCons (eVar 0) (aCons (eVar 1) (aCons (eVar 3) aNil)))) aNil)))) sNext)
    (sSeq (sIf (bAnd (bVal (eOp2 (cmpI gtI) (eVar 4) (eC (.int 1)))) (bVal (eOp2 (cmpI gtI) (eCB lenD (aCons (eVar 2) aNil)) (eC (.int 0))))) (sSeq (sSet 5 (eCall [true, false] D_law_take (aCons (eVar 0) (aCons (eCB lenD (aCons (eVar 2) aNil)) aNil))))
    (sSeq (sSetIx 2 (eVar 5) (eCall [true, false, false] D_law_any_value (aCons (eVar 0) (aCons (eVar 1) (aCons (eVar 3) aNil)))))
    (sIf (bVal (eOp2 eqD (eVar 4) (eC (.int 2)))) (sSetIx 2 (eVar 5) (eCall [true, false] D_law_strange (aCons (eVar 0) (aCons (eOp2 ixD (eVar 3) (eC (.int 0))) aNil)))) sNext))) sNext)
    (sRet (eCB tupleD (aCons (eVar 2) aNil))))))))
def D_law_changed_row : FD := mkF0 (List.length NN_law_changed_row) (List.length PP_law_changed_row) m_law_changed_row
def m_law : MS :=
  (sSeq (sSet 1 (eCall [false, false] D_law_draws (aCons (eVar 0) (aCons (eC (.int 500)) aNil))))
    (sSeq (sSet 2 (eCall [true, false] D_law_words (aCons (eVar 1) (aCons (eC (.int 24)) aNil))))
    (sSeq (sSet 3 (eCall [true, false] D_law_any_schema (aCons (eVar 1) (aCons (eSl (eVar 2) oNone (oSome (eC (.int 21)))) aNil))))
    (sSeq (sSet 4 (eOp2 addD (eLc [8] (eIter (eVar 3)) (gtName 8) bYes (eOp2 ixD (eVar 8) (eC (.int 0)))) (eLst (aCons (eOp2 ixD (eVar 2) (eC (.int 21))) (aCons (eOp2 addD (eOp2 ixD (eVar 2) (eC (.int 22))) (eC (.str "q"))) (aCons (eCall [true, false] D_law_strange (aCons (eVar 1) (aCons (eOp2 ixD (eVar 2) (eC (.int 23))) aNil))) aNil))))))
    (sSeq (sFor (eIter (eVar 4)) (gtName 5) (sIf (bNot (bTru (eCall [false, false] D_law_same (aCons (eCall [false, false] D_table_of (aCons (eVar 3) (aCons (eVar 5) aNil))) (aCons (eCall [false, false] D_law_table (aCons (eVar 3) (aCons (eVar 5) aNil))) aNil))))) (sRet (eC (.bool false))) sNext))
    (sSeq (sSet 6 (eCall [true, false] D_law_rekeyed (aCons (eVar 1) (aCons (eVar 3) aNil))))
    (sSeq (sFor (eIter (eVar 4)) (gtName 5) (sSeq (sIf (bNot (bTru (eCall [false, false] D_law_same (aCons (eCall [false, false] D_table_of (aCons (eVar 6) (aCons (eVar 5) aNil))) (aCons (eCall [false, false] D_law_table (aCons (eVar 6) (aCons (eVar 5) aNil))) aNil))))) (sRet (eC (.bool false))) sNext)
    (sIf (bNot (bTru (eCall [false, false] D_law_same (aCons (eCall [false, false] D_table_of (aCons (eVar 3) (aCons (eVar 5) aNil))) (aCons (eCall [false, false] D_law_table (aCons (eVar 3) (aCons (eVar 5) aNil))) aNil))))) (sRet (eC (.bool false))) sNext)))
    (sSeq (sSet 7 (eCB tupleD (aCons (eLc [9] (eRange1 (aCons (eCall [true, false] D_law_take (aCons (eVar 1) (aCons (eC (.int 9)) aNil))) aNil)) (gtName 9) bYes (eCall [true, false, false] D_law_any_value (aCons (eVar 1) (aCons (eVar 0) (aCons (eVar 2) aNil))))) aNil)))
    (sSeq (sFor (eIter (eSl (eVar 3) oNone (oSome (eC (.int 6))))) (gtName 8) (sSeq (sSet 7 (eCB tupleD (aCons (eLc [9] (eRange1 (aCons (eOp2 addD (eOp2 ixD (eVar 8) (eC (.int 1))) (eOp2 ixD (eVar 8) (eC (.int 2)))) aNil)) (gtName 9) bYes (eCall [true, false, false] D_law_any_value (aCons (eVar 1) (aCons (eVar 0) (aCons (eVar 2) aNil))))) aNil)))
    (sSeq (sIf (bNot (bTru (eCall [false, false] D_law_same (aCons (eCall [false, false, false] D_is_fact (aCons (eVar 3) (aCons (eOp2 ixD (eVar 8) (eC (.int 0))) (aCons (eVar 7) aNil)))) (aCons (eC (.bool true)) aNil))))) (sRet (eC (.bool false))) sNext)
    (sFor (eRange1 (aCons (eC (.int 3)) aNil)) (gtName 9) (sSeq (sSet 10 (eCall [true, false, false, false] D_law_changed_row (aCons (eVar 1) (aCons (eVar 0) (aCons (eVar 7) (aCons (eVar 2) aNil))))))
    (sSeq (sSet 5 (eOp2 ixD (eVar 8) (eC (.int 0))))
    (sSeq (sIf (bVal (eOp2 eqD (eCall [true, false] D_law_take (aCons (eVar 1) (aCons (eC (.int 4)) aNil))) (eC (.int 0)))) (sSet 5 (eCall [true, false] D_law_pick (aCons (eVar 1) (aCons (eVar 4) aNil)))) sNext)
    (sIf (bNot (bTru (eCall [false, false] D_law_same (aCons (eCall [false, false, false] D_is_fact (aCons (eVar 3) (aCons (eVar 5) (aCons (eVar 10) aNil)))) (aCons (eCall [false, false, false] D_law_is_fact (aCons (eVar 3) (aCons (eVar 5) (aCons (eVar 10) aNil)))) aNil))))) (sRet (eC (.bool false))) sNext))))))))
    (sSeq (sFor (eIter (eVar 4)) (gtName 5) (sIf (bNot (bTru (eCall [false, false] D_law_same (aCons (eCall [false, false, false] D_is_fact (aCons (eVar 3) (aCons (eVar 5) (aCons (eVar 7) aNil)))) (aCons (eCall [false, false, false] D_law_is_fact (aCons (eVar 3) (aCons (eVar 5) (aCons (eVar 7) aNil)))) aNil))))) (sRet (eC (.bool false))) sNext))
    (sRet (eC (.bool true)))))))))))))
def D_law : FD := mkF0 (List.length NN_law) (List.length PP_law) m_law
/-! ### end of mirrors -/
end Lw
end

section
set_option Elab.async false
set_option linter.all false
set_option maxRecDepth 100000
set_option maxHeartbeats 400000
namespace Lw
open PySem PySem.Spec PyProof.Rows L2 Vf
variable [Tabs]
local macro_rules | `(tactic| simp! only [$ls,*]) => `(tactic| simp -implicitDefEqProofs only [↓wp_var, ↓wp_c, ↓wp_op2, ↓wp_op1, ↓wp_aNil, ↓wp_aCons, ↓wp_cb, ↓wp_mut, ↓wp_mth, ↓wp_allS, ↓wp_allG, ↓wp_tup, ↓wp_lst, ↓wp_isi, ↓wp_isi2, ↓wp_bVal, ↓wp_bTru, ↓wp_bNot, ↓wp_bAnd, ↓wp_bOr, ↓wp_bYes, ↓wp_eIf, ↓wp_andV, ↓wp_orV, ↓wp_notV, ↓wp_oNone, ↓wp_oSome, ↓wp_sl, ↓wp_callC, ↓wp_sortK, ↓wp_zip, zp_t, ↓wp_rev, revT, revL, ↓wp_sMv, mvq_ow, ↓wp_idx, ↓wp_fmt, ↓wp_joined, ↓wp_js, ↓wp_jn, strV_s, ↓wp_never, imT_t,  skv_l, ↓wp_allS, ↓wp_seq, sq_next, sq_ret, sq_brk, sq_cont, ↓wp_next, ↓wp_brk, ↓wp_cont, ↓wp_ret, ↓wp_retN, ↓wp_drop, ↓wp_sIf, ↓wp_sSet, ↓wp_sAsg, ↓wp_sSetIx, ↓wp_iter, ↓wp_range1, ↓wp_range2, ↓wp_forP, ↓wp_lcP, pr_mk, vr_im, vr_ow, vr_io, vr_bo, rdv_im, rdv_nw, rdv_sl, rsl_ow, rsl_io, rsl_bo, rdvs_nil, rdvs_cons, cons2_some, ims_nil, ims_cons, o2_some, oo_some, om_some, imS_str, blV_b, inV1_i, imV_im, itv_t, itv_s, itv_n, itv_l, itl_ow, itl_bo, rg1_i, rg2_i, toV_int, toV_bool, toV_str, toV_tuple, toV_none, toV_list,
  slotOf, setS_eq, sS_fre, fre_em, fre_im, fre_ow, fre_bo, getM_eq, gM_ow, gM_io, putL_eq, pL_ow, pL_io, putLs, rsV, slM, slB, arsOf, arOf_im, arOf_int, arOf_str, arOf_bool, arOf_none, arOf_tuple, arOf_nw, arOf_sl, arOf_m, arS_ow, arS_io, arS_bo, arM_ow, arM_io, resP_ret, resP_next, resOf_im, resOf_nw, resOf_sl, rso_ow, outsOf, initG, slotA, bor, unb, clr, rst, gtName, gtTup, gtCons, gtNil, outI_next, outI_cont, outI_brk, outI_ret,
  List.getElem?_cons_zero, List.getElem?_cons_succ, List.set_cons_zero, List.set_cons_succ, List.map_cons, List.map_nil, List.cons_append, List.nil_append, List.append_nil, List.length_cons, List.length_nil, List.replicate_succ, List.replicate_zero, Nat.sub_self, Nat.reduceAdd, Nat.reduceSub, Nat.reduceEqDiff, List.getElem?_nil, 
  eqD_int, neD_int, eqD_bool, neD_bool, addD_int, subD_int, ltD_int, leD_int, gtD_int, geD_int, intD_int, intD_bool, lenL, lenT, listD_l, listD_t, tupleD_l, tupleD_t, ixL_int, ixT_int, ixS_int, negD_int, truD_b, atI0, atI1, atI2, List.nodup_nil, List.nodup_cons, List.not_mem_nil, not_false_eq_true, false_imp_iff, implies_true, and_true, true_and, and_self, if_true, if_false, Bool.false_eq_true, reduceIte, List.mem_cons, or_false, false_or, forall_eq, forall_eq_or_imp, imm_int, imm_str, beq_iff_eq, bne_iff_ne, decide_eq_true_eq, Bool.not_eq_true', $ls,*])
local macro_rules | `(tactic| dsimp! only [$ls,*]) => `(tactic| simp -implicitDefEqProofs only [↓wp_sIfY, ↓wp_var, ↓wp_c, ↓wp_op2, ↓wp_op1, ↓wp_aNil, ↓wp_aCons, ↓wp_cb, ↓wp_mut, ↓wp_mth, ↓wp_allS, ↓wp_allG, ↓wp_tup, ↓wp_lst, ↓wp_isi, ↓wp_isi2, ↓wp_bVal, ↓wp_bTru, ↓wp_bNot, ↓wp_bAnd, ↓wp_bOr, ↓wp_bYes, ↓wp_eIf, ↓wp_andV, ↓wp_orV, ↓wp_notV, ↓wp_oNone, ↓wp_oSome, ↓wp_sl, ↓wp_callC, ↓wp_sortK, ↓wp_zip, zp_t, ↓wp_rev, revT, revL, ↓wp_sMv, mvq_ow, ↓wp_idx, ↓wp_fmt, ↓wp_joined, ↓wp_js, ↓wp_jn, strV_s, ↓wp_never, imT_t,  skv_l, ↓wp_allS, ↓wp_seq, sq_next, sq_ret, sq_brk, sq_cont, ↓wp_next, ↓wp_brk, ↓wp_cont, ↓wp_ret, ↓wp_retN, ↓wp_drop, ↓wp_sSet, ↓wp_sAsg, ↓wp_sSetIx, ↓wp_iter, ↓wp_range1, ↓wp_range2, ↓wp_forP, ↓wp_lcP, pr_mk, vr_im, vr_ow, vr_io, vr_bo, rdv_im, rdv_nw, rdv_sl, rsl_ow, rsl_io, rsl_bo, rdvs_nil, rdvs_cons, cons2_some, ims_nil, ims_cons, o2_some, oo_some, om_some, imS_str, blV_b, inV1_i, imV_im, itv_t, itv_s, itv_n, itv_l, itl_ow, itl_bo, rg1_i, rg2_i, toV_int, toV_bool, toV_str, toV_tuple, toV_none, toV_list,
  slotOf, setS_eq, sS_fre, fre_em, fre_im, fre_ow, fre_bo, getM_eq, gM_ow, gM_io, putL_eq, pL_ow, pL_io, putLs, rsV, slM, slB, arsOf, arOf_im, arOf_int, arOf_str, arOf_bool, arOf_none, arOf_tuple, arOf_nw, arOf_sl, arOf_m, arS_ow, arS_io, arS_bo, arM_ow, arM_io, resP_ret, resP_next, resOf_im, resOf_nw, resOf_sl, rso_ow, outsOf, initG, slotA, bor, unb, clr, rst, gtName, gtTup, gtCons, gtNil, outI_next, outI_cont, outI_brk, outI_ret,
  List.getElem?_cons_zero, List.getElem?_cons_succ, List.set_cons_zero, List.set_cons_succ, List.map_cons, List.map_nil, List.cons_append, List.nil_append, List.append_nil, List.length_cons, List.length_nil, List.replicate_succ, List.replicate_zero, Nat.sub_self, Nat.reduceAdd, Nat.reduceSub, Nat.reduceEqDiff, List.getElem?_nil, 
  eqD_int, neD_int, eqD_bool, neD_bool, addD_int, subD_int, ltD_int, leD_int, gtD_int, geD_int, intD_int, intD_bool, lenL, lenT, listD_l, listD_t, tupleD_l, tupleD_t, ixL_int, ixT_int, ixS_int, negD_int, truD_b, atI0, atI1, atI2, List.nodup_nil, List.nodup_cons, List.not_mem_nil, not_false_eq_true, false_imp_iff, implies_true, and_true, true_and, and_self, if_true, if_false, Bool.false_eq_true, reduceIte, List.mem_cons, or_false, false_or, forall_eq, forall_eq_or_imp, imm_int, imm_str, beq_iff_eq, bne_iff_ne, decide_eq_true_eq, Bool.not_eq_true', $ls,*])
/-! lower case -/
def lo1 (c : Nat) : Bool := decide (97 ≤ c) && decide (c ≤ 122)
def low (a : Str) : Bool := a.cps.toList.all lo1
def isW (a : Str) : Bool := a != "" && low a
structure LW (a : Str) : Prop where
  ok : PyData.strOk a = true
  lo : low a = true
theorem low_app {a b : Str} : low (a ++ b) = (low a && low b) := by
  unfold low
  show (a.cps ++ b.cps).toList.all lo1 = _
  rw [Array.toList_append, List.all_append]
theorem LW_app {a b : Str} (ha : LW a) (hb : LW b) : LW (a ++ b) := ⟨by rw [strOk_app, ha.ok, hb.ok]; rfl, by rw [low_app, ha.lo, hb.lo]; rfl⟩
theorem LW_c {c : Nat} (h : 97 ≤ c ∧ c ≤ 122) : LW ⟨#[c]⟩ := ⟨by simp [PyData.strOk]; omega, by simp [low, lo1]; omega⟩
theorem LW_z : LW "z" := ⟨ok_z, by decide⟩
theorem low_cat : ∀ (ss : List (Array Nat)) (acc : Array Nat), acc.toList.all lo1 = true → (∀ c ∈ ss, c.toList.all lo1 = true) → (ss.foldl (fun x y => x ++ y) acc).toList.all lo1 = true := by
  intro ss
  induction ss with
  | nil => intro acc h _; exact h
  | cons c ss ih =>
    intro acc h hc
    refine ih _ ?_ fun d hd => hc d (by simp [hd])
    rw [Array.toList_append, List.all_append, h, hc c (by simp)]; rfl
theorem low_fold {sep : Array Nat} (hs : sep.toList.all lo1 = true) : ∀ (ss : List Str) (acc : Array Nat), acc.toList.all lo1 = true → (∀ c ∈ ss, low c = true) → (ss.foldl (fun acc p => acc ++ sep ++ p.cps) acc).toList.all lo1 = true := by
  intro ss
  induction ss with
  | nil => intro acc h _; exact h
  | cons c ss ih =>
    intro acc h hc
    refine ih _ ?_ fun d hd => hc d (by simp [hd])
    rw [Array.toList_append, List.all_append, Array.toList_append, List.all_append, h, hs]
    exact hc c (by simp)
theorem LW_join {ss : List Str} (h : ∀ c ∈ ss, LW c) : LW (Txt.join "" ss) := ⟨strOk_join ok_e fun c hc => (h c hc).ok, by
  cases ss with
  | nil => simp [Txt.join, PySem.Builtin.Str.glued, low, Str.empty]
  | cons c ss => exact low_fold (by decide) ss c.cps (h c (by simp)).lo fun d hd => (h d (by simp [hd])).lo⟩
theorem LW_mul {x : Str} (hx : LW x) (n : Int) : LW (Txt.mul x n) := ⟨strOk_mul hx.ok n, by
  unfold Txt.mul
  split
  · simp [low, Str.empty]
  · split
    · exact hx.lo
    · exact low_cat (List.replicate n.toNat x.cps) #[] (by simp) fun c hc => by rw [(List.mem_replicate.mp hc).2]; exact hx.lo⟩
theorem alphaL {v : Int} (h0 : 0 ≤ v) (h1 : v < 26) : ∃ c : Nat, ixS "abcdefghijklmnopqrstuvwxyz" v = some (.str ⟨#[c]⟩) ∧ (97 ≤ c ∧ c ≤ 122) := by
  obtain ⟨n, rfl⟩ := Int.eq_ofNat_of_zero_le h0
  exact ⟨97 + n, alphaN (by omega), by omega⟩
structure WL (b : Nat) (ws : List Str) : Prop where
  nd : ws.Nodup
  ok : ∀ a ∈ ws, 1 ≤ a.length ∧ a.length ≤ b ∧ LW a
theorem WL.wok {b : Nat} {ws : List Str} (h : WL b ws) : WOk b ws := ⟨h.nd, fun a ha => let q := h.ok a ha; ⟨q.1, q.2.1, q.2.2.ok⟩⟩
theorem ne_e {a : Str} (h : 1 ≤ a.length) : (a != "") = true := by
  simp only [bne_iff_ne, ne_eq]
  rintro rfl
  rw [show (Str.ofString "").length = 0 from rfl] at h; omega
theorem isW_of {a : Str} (h1 : 1 ≤ a.length) (h : LW a) : isW a = true := by unfold isW; rw [ne_e h1, h.lo]; rfl
theorem words_specL {ns : List Int} {many : Int} (hmany : 0 ≤ many ∧ many ≤ 30) {P : Rs → List (List PyData) → Prop} (h : ∀ ws ns', WL 60 ws → ws.length = many.toNat → P (.l (DS ws)) [DI ns']) : wpF D_law_words [.m (DI ns), .v (.int many)] P := by
  unfold D_law_words
  refine wp_F rfl ?_
  unfold m_law_words
  simp! only [true_and]
  refine ⟨by omega, by omega, ?_⟩
  refine loopI (fun i Γ => ∃ ns ws s3 s4 s5, fre s3 ∧ fre s4 ∧ fre s5 ∧ ws.length = i ∧ WL (30 + i) ws ∧ Γ = [.io (DI ns), .im (.int many), .ow (DS ws), s3, s4, s5, .em, .em]) ⟨ns, [], .em, .em, .em, by simp! only [true_and], by simp! only [true_and], by simp! only [true_and], rfl, ⟨by simp, by simp⟩, rfl⟩ ?_ ?_
  · rintro i d Γ hi ⟨ns, ws, s3, s4, s5, h3, h4, h5, hl, hw, rfl⟩
    obtain ⟨rfl, hi⟩ := rng1_get hi
    dsimp! only [h3, h4, h5]
    refine take_spec (by omega) fun v ns1 v0 v1 => ?_
    dsimp! only [h3, h4, h5]
    refine wp_mono (P := fun o Γ => IV (o = .next ∧ ∃ ns z, 1 ≤ z ∧ z ≤ 25 ∧ Γ = [.io (DI ns), .im (.int many), .ow (DS ws), .im (.int i), .im (.int z), s5, .em, .em])) ?_ ?_
    · simp! only [true_and]
      refine take_spec (by omega) fun v2 ns2 _ _ => ?_
      simp! only [true_and]
      split
      · refine take_spec (by omega) fun v3 ns3 _ _ => ?_
        simp! only [true_and]
        exact ⟨rfl, ns3, _, by omega, by omega, rfl⟩
      · exact ⟨rfl, ns2, _, by omega, by omega, rfl⟩
    rintro o Γ ⟨rfl, ns2, z, z0, z1, rfl⟩
    dsimp! only [h5]
    refine ⟨by omega, ?_⟩
    refine lcI (fun j acc Γ => ∃ ns cs, acc = DS cs ∧ cs.length = j ∧ (∀ c ∈ cs, c.length = 1 ∧ LW c) ∧ Γ = [.io (DI ns), .im (.int many), .ow (DS ws), .im (.int i), .im (.int z), s5, .em, .em]) ⟨ns2, [], rfl, rfl, by simp, rfl⟩ ?_ ?_
    · rintro j d acc Γ hj ⟨ns, cs, rfl, hc, hcs, rfl⟩
      obtain ⟨rfl, hj⟩ := rng1_get hj
      simp! only [true_and]
      refine take_spec (by omega) fun v ns3 v0 v1 => ?_
      obtain ⟨c, e, hc'⟩ := alphaL v0 v1
      simp! only [e]
      refine ⟨by simp; omega, ns3, cs ++ [⟨#[c]⟩], by simp, by simp [hc], ?_, rfl⟩
      intro a ha
      rcases List.mem_append.mp ha with ha | ha
      · exact hcs a ha
      · rw [List.mem_singleton.mp ha]; exact ⟨rfl, LW_c hc'⟩
    rintro acc Γ ⟨ns3, cs, rfl, hc, hcs, rfl⟩
    rw [rng1_len] at hc
    have hsum := sum_ones fun c hc => (hcs c hc).1
    have hlen : (Txt.join "" cs).length = cs.length := by
      have := @size_glued "" cs
      show (Builtin.Str.glued (Str.ofString "") cs).length = _
      rw [this, hsum, show (Str.ofString "").length = 0 from rfl]; omega
    have hok : LW (Txt.join "" cs) := LW_join fun c hc => (hcs c hc).2
    dsimp! only [h5, joinD_strs (a := "") (ss := cs) (by rw [hsum, show (Str.ofString "").length = 0 from rfl]; omega)]
    have a0 : 1 ≤ (Txt.join "" cs).length ∧ (Txt.join "" cs).length ≤ 25 := by omega
    clear hlen hsum hcs
    generalize (Txt.join "" cs) = a at *
    refine wp_mono (P := fun o Γ => IV (o = .next ∧ ∃ ns b, 1 ≤ b.length ∧ b.length ≤ 31 + i ∧ LW b ∧ Γ = [.io (DI ns), .im (.int many), .ow (DS ws), .im (.int i), .im (.int z), .im (.str b), .em, .em])) ?_ ?_
    · simp! only [true_and]
      split
      · rename_i hp
        refine take_spec (by omega) fun v ns4 _ _ => ?_
        simp! only [true_and]
        split
        · refine pick_spec (ds := DS ws) (by simp at hp ⊢; omega) immAll_strs fun d ns5 hd => ?_
          obtain ⟨b, hb, rfl⟩ := List.mem_map.mp hd
          simp! only [true_and]
          refine take_spec (by omega) fun v ns6 v0 v1 => ?_
          obtain ⟨c, e, hc'⟩ := alphaL v0 v1
          have hb' := hw.ok b hb
          have hl1 : ({ cps := #[c] } : Str).length = 1 := rfl
          simp! only [e, addD_str (a := b) (b := ⟨#[c]⟩) (by rw [hl1]; omega)]
          exact ⟨rfl, ns6, b ++ ⟨#[c]⟩, by rw [len_app]; omega, by rw [len_app, hl1]; omega, LW_app hb'.2.2 (LW_c hc'), rfl⟩
        · exact ⟨rfl, ns4, a, by omega, by omega, hok, rfl⟩
      · exact ⟨rfl, ns3, a, by omega, by omega, hok, rfl⟩
    rintro o Γ ⟨rfl, ns4, b, b0, b1, b2, rfl⟩
    clear a0 hok
    dsimp! only [true_and]
    refine wp_mono (P := fun o Γ => IV (o = .next ∧ ∃ b, b ∉ ws ∧ 1 ≤ b.length ∧ b.length ≤ 31 + i ∧ LW b ∧ Γ = [.io (DI ns4), .im (.int many), .ow (DS ws), .im (.int i), .im (.int z), .im (.str b), .em, .em])) ?_ ?_
    · simp! only [inD_strs]
      split
      · rename_i hin
        refine lcI (fun j acc Γ => acc = DI ((ws.take j).map fun a => (a.length : Int)) ∧ Γ = [.io (DI ns4), .im (.int many), .bo (DS ws), .im (.int i), .im (.int z), .im (.str b), .em, .em]) ⟨rfl, rfl⟩ ?_ ?_
        · rintro j d acc Γ hj ⟨rfl, rfl⟩
          have hj' : j < (DS ws).length := (List.getElem?_eq_some_iff.mp hj).1
          simp at hj'
          have : d = .str ws[j] := by
            have := (List.getElem?_eq_some_iff.mp hj).2
            rw [← this]; simp
          subst this
          have ho := hw.ok ws[j] (List.getElem_mem hj')
          simp! only [lenS (z := ws[j]) (by omega)]
          refine ⟨by simp; omega, ?_, rfl⟩
          rw [List.take_add_one, List.getElem?_eq_getElem hj']
          simp only [Option.toList_some, List.map_append, List.map_cons, List.map_nil]
        rintro acc Γ ⟨rfl, rfl⟩
        have : (DS ws).length = ws.length := by simp
        rw [this, List.take_length]
        have hL1 : ∀ m ∈ ws.map (fun a => (a.length : Int)), 1 ≤ m ∧ m ≤ 30 + i := fun m hm => by
          obtain ⟨a, ha, rfl⟩ := List.mem_map.mp hm
          have := hw.ok a ha; omega
        have hL2 : ∀ a ∈ ws, (a.length : Int) ∈ ws.map (fun a => (a.length : Int)) := fun a ha => List.mem_map.mpr ⟨a, ha, rfl⟩
        have hL3 : (ws.map (fun a => (a.length : Int))).length ≠ 0 := by
          have hin' : b ∈ ws := by simpa using hin
          have := List.length_pos_of_mem hin'
          intro e; rw [List.length_map] at e; omega
        generalize ws.map (fun a => (a.length : Int)) = L at *
        cases L with
        | nil => simp at hL3
        | cons m L =>
          have hx := maxL_ge (n := m) (ns := L)
          have hy : maxL m L ≤ 30 + i := maxL_le (hL1 m (by simp)).2 fun k hk => (hL1 k (by simp [hk])).2
          have hz : 1 ≤ maxL m L := Int.le_trans (hL1 m (by simp)).1 hx.1
          have hzz : ∀ a ∈ ws, (a.length : Int) ≤ maxL m L := fun a ha => by
            rcases List.mem_cons.mp (hL2 a ha) with e | e
            · rw [e]; exact hx.1
            · exact hx.2 _ e
          have hd : DI (m :: L) = (m :: L).map PyData.int := rfl
          generalize hq : DI (m :: L) = q at *
          simp! only [show maxD [.list q] = some (.int (maxL m L)) by rw [hd]; exact maxD_ints]
          generalize maxL m L = M at *
          have hl1 : (Str.ofString "z").length = 1 := rfl
          rw [mulD_str (a := "z") (n := 1 + M) ⟨by omega, by omega, by rw [hl1]; omega⟩]
          simp! only [true_and]
          have hlm := len_mul "z" (1 + M)
          rw [hl1, if_neg (by simp; omega)] at hlm
          refine ⟨rfl, Txt.mul "z" (1 + M), fun hc => ?_, by omega, by omega, LW_mul LW_z _, rfl⟩
          have := hzz _ hc
          omega
      · rename_i hin
        exact ⟨rfl, b, by simpa using hin, by omega, by omega, b2, rfl⟩
    rintro o Γ ⟨rfl, b, hb, b0, b1, b2, rfl⟩
    simp! only [appendM_ok (ds := DS ws) (d := .str b) imm_str (by simp; omega)]
    refine ⟨ns4, ws ++ [b], _, _, _, fre_im.mpr trivial, fre_im.mpr trivial, fre_im.mpr trivial, by simp [hl], ⟨?_, ?_⟩, by simp only [List.map_append, List.map_cons, List.map_nil] <;> rfl⟩
    · rw [List.nodup_append]
      exact ⟨hw.nd, by simp, fun x hx y hy => by rw [List.mem_singleton.mp hy]; exact fun e => hb (e ▸ hx)⟩
    · intro x hx
      rcases List.mem_append.mp hx with hx | hx
      · have := hw.ok x hx; exact ⟨this.1, by have := this.2.1; omega, this.2.2⟩
      · rw [List.mem_singleton.mp hx]; exact ⟨b0, by omega, b2⟩
  · rintro Γ ⟨ns, ws, s3, s4, s5, h3, h4, h5, hl, hw, rfl⟩
    simp! only [true_and]
    rw [rng1_len] at hl hw
    exact h _ _ ⟨hw.nd, fun a ha => by have := hw.ok a ha; exact ⟨this.1, by have := this.2.1; omega, this.2.2⟩⟩ (by omega)

theorem betw_lo {c : Nat} : betw "a" "z" c = lo1 c := by
  unfold betw lo1
  rw [show ("a" : Str).cps.toList = [97] from rfl, show ("z" : Str).cps.toList = [122] from rfl]
  have h1 : ([c] < [97]) ↔ c < 97 := by simp [List.cons_lt_cons_iff]
  have h2 : (([122] : List Nat) < [c]) ↔ 122 < c := by simp [List.cons_lt_cons_iff]
  rw [Bool.eq_iff_iff]
  simp only [Bool.and_eq_true, Bool.not_eq_true', decide_eq_false_iff_not, decide_eq_true_eq, h1, h2]
  omega
theorem is_word_spec {a : Str} (ha : PyData.strOk a = true) {P : Rs → List (List PyData) → Prop} (h : P (.v (.bool (isW a))) []) : wpF D_is_word [.v (.str a)] P := by
  unfold D_is_word
  refine wp_F rfl ?_
  unfold m_is_word
  have e : (a.cps.toList.all (betw "a" "z")) = low a := by unfold low; congr 1; funext c; exact betw_lo
  simp! only [neD_str ha ok_e, e]
  unfold isW at h
  split
  · rename_i hn
    rw [show (a != Str.ofString "") = true by simpa using hn, Bool.true_and] at h
    exact h
  · rename_i hn
    rw [show (a != Str.ofString "") = false by simpa using hn, Bool.false_and] at h
    exact h
theorem boolV_of {fe : M Val} {Γ : Gm} {b : Bool} (h : wpE fe Γ fun v _ => v = .im (.bool b)) : boolV (fe Γ) = some b := by
  unfold wpE wpR at h
  unfold boolV
  split at h
  · rename_i e
    subst h
    rw [e]
  · exact h.elim
theorem allL_of {fe : M Val} {p : PyData → Bool} : ∀ {ds : List PyData}, (∀ d ∈ ds, wpE fe [.im d] fun v _ => v = .im (.bool (p d))) → allL fe ds = some (ds.all p)
  | [], _ => rfl
  | d :: ds, h => by
    unfold allL
    rw [boolV_of (h d (by simp))]
    dsimp only
    rw [List.all_cons]
    cases p d with
    | true => exact allL_of fun x hx => h x (by simp [hx])
    | false => rfl
theorem alpha_mem {c : Nat} : c ∈ ("abcdefghijklmnopqrstuvwxyz" : Str).cps.toList ↔ lo1 c = true := by
  rw [show ("abcdefghijklmnopqrstuvwxyz" : Str).cps.toList = [97,98,99,100,101,102,103,104,105,106,107,108,109,110,111,112,113,114,115,116,117,118,119,120,121,122] from rfl]
  unfold lo1
  simp only [List.mem_cons, List.not_mem_nil, or_false, Bool.and_eq_true, decide_eq_true_eq]
  omega
def chD (c : Nat) : PyData := .str ⟨#[c]⟩
theorem chars_get {a : Str} {j : Nat} {d : PyData} (h : (chars a)[j]? = some d) : ∃ c, a.cps.toList[j]? = some c ∧ d = chD c := by
  unfold chars at h
  rw [List.getElem?_map, Option.map_eq_some_iff] at h
  obtain ⟨c, h, rfl⟩ := h
  exact ⟨c, h, rfl⟩
theorem ni_alpha {c : Nat} : niD (chD c) (.str "abcdefghijklmnopqrstuvwxyz") = some (.bool (!lo1 c)) := by
  have : decide (c ∈ ("abcdefghijklmnopqrstuvwxyz" : Str).cps.toList) = lo1 c := by
    rw [Bool.eq_iff_iff, decide_eq_true_eq]; exact alpha_mem
  show some (PyData.bool (!decide (c ∈ ("abcdefghijklmnopqrstuvwxyz" : Str).cps.toList))) = _
  rw [this]
theorem law_is_word_spec {a : Str} (ha : PyData.strOk a = true) (hl : a.length ≤ 1000) {P : Rs → List (List PyData) → Prop} (h : P (.v (.bool (isW a))) []) : wpF D_law_is_word [.v (.str a)] P := by
  unfold D_law_is_word
  refine wp_F rfl ?_
  unfold m_law_is_word
  simp! only [neD_str ha ok_e]
  unfold isW at h
  split
  · rename_i hn
    rw [show (a != Str.ofString "") = true by simpa using hn, Bool.true_and] at h
    refine lcI (fun j acc Γ => acc = ((a.cps.toList.take j).filter fun c => !lo1 c).map chD ∧ Γ = [Slot.im (PyData.str a), Slot.em]) ⟨rfl, rfl⟩ ?_ ?_
    · rintro j d acc Γ hj ⟨rfl, rfl⟩
      obtain ⟨c, hc, rfl⟩ := chars_get hj
      have hjl : j < a.length := (List.getElem?_eq_some_iff.mp hc).1
      have hfl := List.length_filter_le (fun c => !lo1 c) (a.cps.toList.take j)
      rw [List.length_take] at hfl
      simp! only [ni_alpha]
      rw [List.take_add_one, hc]
      split
      · rename_i hq
        refine ⟨by simp only [List.length_map]; omega, ?_, rfl⟩
        simp only [Option.toList_some, List.filter_append, List.map_append, List.filter_cons, hq, Bool.not_false, if_true, List.filter_nil, List.map_cons, List.map_nil]
      · rename_i hq
        refine ⟨?_, rfl⟩
        have hq' : lo1 c = true := by simpa using hq
        simp only [Option.toList_some, List.filter_append, List.filter_cons, hq', Bool.not_true, Bool.false_eq_true, if_false, List.filter_nil, List.append_nil]
    rintro acc Γ ⟨rfl, rfl⟩
    simp! only [true_and]
    have e : (((List.map chD (List.filter (fun c => !lo1 c) (List.take (chars a).length a.cps.toList))).length : Int) == 0) = low a := by
      rw [show (chars a).length = a.cps.toList.length from List.length_map .., List.take_length, List.length_map]
      unfold low
      generalize a.cps.toList = cs
      rw [Bool.eq_iff_iff, List.all_eq_true, beq_iff_eq]
      constructor
      · intro h0 c hc
        have h1 : List.filter (fun c => !lo1 c) cs = [] := List.eq_nil_of_length_eq_zero (by omega)
        have := List.filter_eq_nil_iff.mp h1 c hc
        simpa using this
      · intro h0
        rw [List.filter_eq_nil_iff.mpr fun c hc => by simp [h0 c hc]]
        rfl
    rw [e]
    exact h
  · rename_i hn
    rw [show (a != Str.ofString "") = false by simpa using hn, Bool.false_and] at h
    exact h
theorem oo_of {α : Type} {o : Option α} {a : α} {P : α → Prop} (h : o = some a) (k : P a) : oo o P := by rw [h]; exact k
/-- a value of a row: an int or a text -/
def isV : PyData → Bool
  | .str a => isW a
  | _ => true
theorem is_row_spec {ds : List PyData} (hd : ∀ d ∈ ds, VL d) {P : Rs → List (List PyData) → Prop} (h : P (.v (.bool (ds.all isV))) []) : wpF D_is_row [.v (.tuple ds)] P := by
  unfold D_is_row
  refine wp_F rfl ?_
  unfold m_is_row
  simp! only [true_and]
  refine oo_of (allL_of (p := isV) fun d hm => ?_) h
  rcases hd d hm with ⟨j, rfl⟩ | ⟨a, rfl, ha⟩
  · simp! only [true_and]
    refine ⟨rfl, ?_⟩
    rw [if_pos (show isi1 (tyN (PyData.int j)) "int" = true from rfl)]
    rfl
  · simp! only [true_and]
    refine ⟨rfl, ?_⟩
    rw [if_neg (show ¬ isi1 (tyN (PyData.str a)) "int" = true from Bool.false_ne_true)]
    exact is_word_spec ha rfl
/-- an int, or a word -/
structure VW (d : PyData) : Prop where
  vl : VL d
  w : isV d = true
  ln : ∀ z, d = .str z → z.length ≤ 1000
theorem any_value_specL {ns sc : List Int} {ws : List Str} (hw : WL 60 ws) (hl : 1 ≤ ws.length ∧ ws.length ≤ 40) {P : Rs → List (List PyData) → Prop} (h : ∀ d ns', VW d → P (.v d) [DI ns']) : wpF D_law_any_value [.m (DI ns), .l (DI sc), .l (DS ws)] P := by
  unfold D_law_any_value
  refine wp_F rfl ?_
  unfold m_law_any_value
  simp! only [true_and]
  refine take_spec (by omega) fun v ns1 v0 v1 => ?_
  simp! only [true_and]
  split
  · refine pick_spec (ds := DS ws) (by simp; omega) immAll_strs fun d ns2 hd => ?_
    obtain ⟨b, hb, rfl⟩ := List.mem_map.mp hd
    simp! only [true_and]
    exact h _ _ ⟨.inr ⟨b, rfl, (hw.ok b hb).2.2.ok⟩, isW_of (hw.ok b hb).1 (hw.ok b hb).2.2, fun z e => by cases e; have := (hw.ok b hb).2.1; omega⟩
  · refine size_spec fun v ns2 v0 => ?_
    simp! only [true_and]
    refine take_spec (by omega) fun u ns3 u0 u1 => ?_
    simp! only [true_and]
    rw [mulD_r (i := 2) (j := u) (by omega)]
    simp! only [true_and]
    rw [mulD_r (i := v) (j := 1 - 2 * u) (by omega)]
    simp! only [true_and]
    exact h _ _ ⟨.inl ⟨_, rfl⟩, rfl, fun z e => by cases e⟩
theorem cut_ok {a : Str} {lo hi : Option Int} (ha : PyData.strOk a = true) : PyData.strOk (cutS a lo hi) = true := by
  have h : ∀ x ∈ a.cps.toList, x < 1114112 := by
    have : a.cps.all (fun x => decide (x < 1114112)) = true := ha
    rw [← Array.all_toList, List.all_eq_true] at this
    intro x hx
    simpa using this x hx
  show (Array.all _ _) = true
  rw [← Array.all_toList, List.all_eq_true]
  intro x hx
  have hx2 : x ∈ a.cps.toList := List.mem_of_mem_drop (List.mem_of_mem_take hx)
  simpa using h x hx2
theorem cut_len {a : Str} {lo hi : Option Int} : (cutS a lo hi).length ≤ a.length := by
  show (List.toArray _).size ≤ _
  rw [List.size_toArray]
  exact Nat.le_trans (List.length_take_le' ..) (by rw [List.length_drop]; exact Nat.sub_le ..)
theorem slD_str {a : Str} {lo hi : Option Int} (h : a.length ≤ 1000000) : slD (.str a) lo hi = some (.str (cutS a lo hi)) := by
  show (if _ then _ else _) = _
  rw [if_pos (by simpa [small] using h)]
theorem strange_spec {ns : List Int} {a : Str} (ha : PyData.strOk a = true) (hl : a.length ≤ 100) {P : Rs → List (List PyData) → Prop} (h : ∀ z ns', PyData.strOk z = true → z.length ≤ 205 → P (.v (.str z)) [DI ns']) : wpF D_law_strange [.m (DI ns), .v (.str a)] P := by
  unfold D_law_strange
  refine wp_F rfl ?_
  unfold m_law_strange
  simp! only [true_and]
  refine ⟨by omega, ?_⟩
  refine pick_spec (by simp) (by decide) fun d ns1 hd => ?_
  have hz : ∃ z, d = .str z ∧ PyData.strOk z = true ∧ z.length = 1 := by
    simp only [List.mem_cons, List.not_mem_nil, or_false] at hd
    rcases hd with rfl | rfl | rfl | rfl | rfl | rfl | rfl | rfl | rfl | rfl | rfl | rfl | rfl | rfl | rfl <;> exact ⟨_, rfl, strOk_of _, rfl⟩
  obtain ⟨g, rfl, hg, hgl⟩ := hz
  simp! only [lenS (z := a) (by omega)]
  refine take_spec (by omega) fun v ns2 v0 v1 => ?_
  have c1 := cut_len (a := a) (lo := none) (hi := some v)
  have c2 := cut_len (a := a) (lo := some v) (hi := none)
  have o1 := cut_ok (lo := none) (hi := some v) ha
  have o2 := cut_ok (lo := some v) (hi := none) ha
  simp! only [slD_str (a := a) (lo := none) (hi := some v) (by omega), slD_str (a := a) (lo := some v) (hi := none) (by omega)]
  generalize cutS a none (some v) = x at *
  generalize cutS a (some v) none = y at *
  rw [addD_str (a := x) (b := g) (by omega)]
  simp! only [true_and]
  rw [addD_str (a := x ++ g) (b := y) (by rw [len_app]; omega)]
  simp! only [true_and]
  refine ⟨by omega, ?_⟩
  refine take_spec (by omega) fun u ns3 u0 u1 => ?_
  dsimp! only [true_and]
  have hf : PyData.strOk (x ++ g ++ y) = true := by rw [strOk_app, strOk_app, o1, hg, o2]; rfl
  have hfl : (x ++ g ++ y).length ≤ 205 := by rw [len_app, len_app]; omega
  split
  · simp! only [true_and]
    exact h _ _ hf hfl
  · simp! only [true_and]
    exact h _ _ ok_e (by rw [show (Str.ofString "").length = 0 from rfl]; omega)
theorem TS_get {l : List Tb} {j : Nat} {d : PyData} (h : (TS l)[j]? = some d) : ∃ t, t ∈ l ∧ d = tD t ∧ l[j]? = some t := by
  rw [List.getElem?_map, Option.map_eq_some_iff] at h
  obtain ⟨t, h, rfl⟩ := h
  exact ⟨t, List.mem_of_getElem? h, rfl, h⟩
theorem nn1 : isND .none .none = some (.bool true) := rfl
theorem nn2 {t : Tb} : isND (tD t) .none = some (.bool false) := rfl
def look (l : List Tb) (a : Str) : Option Tb := l.find? fun t => t.1 == a
def tbD : Option Tb → PyData
  | some t => tD t
  | none => .none
theorem look_none {l : List Tb} {a : Str} (h : look l a = none) : ∀ t ∈ l, t.1 ≠ a := fun t ht e => by
  have := List.find?_eq_none.mp h t ht
  simp [e] at this
theorem look_some {l : List Tb} {a : Str} {t : Tb} (h : look l a = some t) : t ∈ l ∧ t.1 = a := ⟨List.mem_of_find?_eq_some h, by simpa using List.find?_some h⟩
theorem table_of_none {l : List Tb} (hl : SOk l) {a : Str} (ha : PyData.strOk a = true) (hn : ∀ t ∈ l, t.1 ≠ a) {P : Rs → List (List PyData) → Prop} (h : P (.v .none) []) : wpF D_table_of [.v (.tuple (TS l)), .v (.str a)] P := by
  unfold D_table_of
  refine wp_F rfl ?_
  unfold m_table_of
  simp! only [true_and]
  refine loopI (fun i Γ => ∃ s2, fre s2 ∧ Γ = [.im (.tuple (TS l)), .im (.str a), s2]) ⟨.em, by simp! only [true_and], rfl⟩ ?_ ?_
  · rintro i d Γ hi ⟨s2, h2, rfl⟩
    obtain ⟨t, ht, rfl, _⟩ := TS_get hi
    have hne : ¬ t.1 = a := hn t ht
    simp! only [h2, eqD_str (a := t.1) (b := a) (hl.ok t ht).1 ha, hne]
    exact ⟨_, fre_im.mpr trivial, rfl⟩
  · rintro Γ ⟨s2, h2, rfl⟩
    simp! only [true_and]
    exact h
theorem law_table_none {l : List Tb} (hl : SOk l) {a : Str} (ha : PyData.strOk a = true) (hn : ∀ t ∈ l, t.1 ≠ a) {P : Rs → List (List PyData) → Prop} (h : P (.v .none) []) : wpF D_law_table [.v (.tuple (TS l)), .v (.str a)] P := by
  unfold D_law_table
  refine wp_F rfl ?_
  unfold m_law_table
  simp! only [true_and]
  refine loopI (fun i Γ => ∃ s2, fre s2 ∧ Γ = [.im (.tuple (TS l)), .im (.str a), s2]) ⟨.em, by simp! only [true_and], rfl⟩ ?_ ?_
  · rintro i d Γ hi ⟨s2, h2, rfl⟩
    obtain ⟨t, ht, rfl, _⟩ := TS_get hi
    have hne : ¬ t.1 = a := hn t ht
    simp! only [h2, eqD_str (a := t.1) (b := a) (hl.ok t ht).1 ha, hne]
    exact ⟨_, fre_im.mpr trivial, rfl⟩
  · rintro Γ ⟨s2, h2, rfl⟩
    simp! only [true_and]
    exact h
theorem table_of_any {l : List Tb} (hl : SOk l) {a : Str} (ha : PyData.strOk a = true) {P : Rs → List (List PyData) → Prop} (h : P (.v (tbD (look l a))) []) : wpF D_table_of [.v (.tuple (TS l)), .v (.str a)] P := by
  cases e : look l a with
  | none =>
    rw [e] at h
    exact table_of_none hl ha (look_none e) h
  | some t =>
    rw [e] at h
    obtain ⟨ht, rfl⟩ := look_some e
    exact table_of_spec hl ht h
theorem law_table_any {l : List Tb} (hl : SOk l) {a : Str} (ha : PyData.strOk a = true) {P : Rs → List (List PyData) → Prop} (h : P (.v (tbD (look l a))) []) : wpF D_law_table [.v (.tuple (TS l)), .v (.str a)] P := by
  cases e : look l a with
  | none =>
    rw [e] at h
    exact law_table_none hl ha (look_none e) h
  | some t =>
    rw [e] at h
    obtain ⟨ht, rfl⟩ := look_some e
    exact law_table_spec hl ht h
def isF (l : List Tb) (a : Str) (ds : List PyData) : Bool := match look l a with
  | none => false
  | some t => decide ((ds.length : Int) = t.2.1 + t.2.2) && ds.all isV
theorem is_fact_spec {l : List Tb} (hl : SOk l) {a : Str} (ha : PyData.strOk a = true) {ds : List PyData} (hd : ∀ d ∈ ds, VL d) (hln : ds.length ≤ 20) {P : Rs → List (List PyData) → Prop} (h : P (.v (.bool (isF l a ds))) []) : wpF D_is_fact [.v (.tuple (TS l)), .v (.str a), .v (.tuple ds)] P := by
  unfold D_is_fact
  refine wp_F rfl ?_
  unfold m_is_fact
  dsimp! only [true_and]
  refine table_of_any hl ha ?_
  unfold isF at h
  cases e : look l a with
  | none =>
    rw [e] at h
    simp! only [tbD, nn1]
    exact h
  | some t =>
    rw [e] at h
    obtain ⟨ht, rfl⟩ := look_some e
    have hto := hl.ok t ht
    dsimp only at h
    simp! only [tbD, nn2]
    split
    · rename_i hq
      refine is_row_spec hd ?_
      rw [decide_eq_true hq, Bool.true_and] at h
      simp! only [true_and]
      exact h
    · rename_i hq
      rw [decide_eq_false hq, Bool.false_and] at h
      exact h
theorem law_is_fact_spec {l : List Tb} (hl : SOk l) {a : Str} (ha : PyData.strOk a = true) {ds : List PyData} (hd : ∀ d ∈ ds, VL d ∧ ∀ z, d = .str z → z.length ≤ 1000) (hln : ds.length ≤ 20) {P : Rs → List (List PyData) → Prop} (h : P (.v (.bool (isF l a ds))) []) : wpF D_law_is_fact [.v (.tuple (TS l)), .v (.str a), .v (.tuple ds)] P := by
  unfold D_law_is_fact
  refine wp_F rfl ?_
  unfold m_law_is_fact
  dsimp! only [true_and]
  refine law_table_any hl ha ?_
  unfold isF at h
  cases e : look l a with
  | none =>
    rw [e] at h
    simp! only [tbD, nn1]
    exact h
  | some t =>
    rw [e] at h
    obtain ⟨ht, rfl⟩ := look_some e
    have hto := hl.ok t ht
    dsimp only at h
    dsimp! only [tbD, nn2]
    rw [wpY_eq, wp_sIf]
    dsimp! only [nn2]
    split
    · rename_i hq
      rw [decide_eq_false hq, Bool.false_and] at h
      exact h
    rename_i hq
    have hq : (ds.length : Int) = t.2.1 + t.2.2 := Decidable.not_not.mp hq
    rw [decide_eq_true hq, Bool.true_and] at h
    refine lcI (fun j acc Γ => acc = (ds.take j).filter (fun d => !isV d) ∧ Γ = [Slot.im (PyData.tuple (TS l)), Slot.im (PyData.str t.fst), Slot.im (PyData.tuple ds), Slot.im (tD t), Slot.em]) ⟨rfl, rfl⟩ ?_ ?_
    · rintro j d acc Γ hj ⟨rfl, rfl⟩
      have hm := get_mem hj
      have hjl : j < ds.length := (List.getElem?_eq_some_iff.mp hj).1
      have hfl := List.length_filter_le (fun d => !isV d) (ds.take j)
      rw [List.length_take] at hfl
      rw [List.take_add_one, hj]
      obtain ⟨hv, hz⟩ := hd d hm
      rcases hv with ⟨i, rfl⟩ | ⟨z, rfl, hzo⟩
      · have i1 : isi1 (tyN (PyData.int i)) "str" = false := rfl
        have k1 : okTy "str" = true := rfl
        have ev : isV (PyData.int i) = true := rfl
        simp! only [i1, k1]
        refine ⟨?_, rfl⟩
        simp only [Option.toList_some, List.filter_append, List.filter_cons, ev, Bool.not_true, Bool.false_eq_true, if_false, List.filter_nil, List.append_nil]
      · have i1 : isi1 (tyN (PyData.str z)) "str" = true := rfl
        have k1 : okTy "str" = true := rfl
        have ev : isV (PyData.str z) = isW z := rfl
        simp! only [i1, k1]
        refine law_is_word_spec hzo (hz z rfl) ?_
        simp! only [true_and]
        split
        · rename_i hw
          refine ⟨by omega, ?_, rfl⟩
          simp only [Option.toList_some, List.filter_append, List.filter_cons, ev, hw, Bool.not_false, if_true, List.filter_nil]
        · rename_i hw
          have hw : isW z = true := by simpa using hw
          refine ⟨?_, rfl⟩
          simp only [Option.toList_some, List.filter_append, List.filter_cons, ev, hw, Bool.not_true, Bool.false_eq_true, if_false, List.filter_nil, List.append_nil]
    rintro acc Γ ⟨rfl, rfl⟩
    rw [List.take_length]
    simp! only [true_and]
    have e2 : (((List.filter (fun d => !isV d) ds).length : Int) == 0) = ds.all isV := by
      rw [Bool.eq_iff_iff, List.all_eq_true, beq_iff_eq]
      constructor
      · intro h0 c hc
        have h1 : List.filter (fun d => !isV d) ds = [] := List.eq_nil_of_length_eq_zero (by omega)
        have := List.filter_eq_nil_iff.mp h1 c hc
        simpa using this
      · intro h0
        rw [List.filter_eq_nil_iff.mpr fun c hc => by simp [h0 c hc]]
        rfl
    rw [e2]
    exact h
/-- a value of a row that may be strange -/
structure VX (d : PyData) : Prop where
  vl : VL d
  ln : ∀ z, d = .str z → z.length ≤ 1000
theorem popM_in {ds : List PyData} {u : Int} (h0 : 0 ≤ u) (h1 : u < ds.length) (hl : ds.length ≤ 1000) : ∃ d, popM ds [.int u] = some (ds.eraseIdx u.toNat, d) := by
  have hu : u.toNat < ds.length := by omega
  refine ⟨ds[u.toNat], ?_⟩
  show (if _ then _ else _) = _
  rw [if_pos (by omega), ixN_at h0 h1]
  dsimp only
  rw [List.getElem?_eq_getElem hu]
theorem mem_set {ds : List PyData} {i : Nat} {d x : PyData} {p : PyData → Prop} (hd : ∀ x ∈ ds, p x) (h : p d) (hx : x ∈ ds.set i d) : p x := by
  rcases List.mem_or_eq_of_mem_set hx with hx | hx
  · exact hd x hx
  · rw [hx]; exact h
theorem changed_row_spec {ns sc : List Int} {ws : List Str} (hw : WL 60 ws) (hl : 1 ≤ ws.length ∧ ws.length ≤ 40) {ds : List PyData} (hd : ∀ d ∈ ds, VX d) (hln : ds.length ≤ 8) {P : Rs → List (List PyData) → Prop} (h : ∀ ds' ns', (∀ d ∈ ds', VX d) → ds'.length ≤ 9 → P (.v (.tuple ds')) [DI ns']) : wpF D_law_changed_row [.m (DI ns), .l (DI sc), .v (.tuple ds), .l (DS ws)] P := by
  unfold D_law_changed_row
  refine wp_F rfl ?_
  unfold m_law_changed_row
  have hi : immAll ds = true := immAll_of fun d hm => (hd d hm).vl.imm
  dsimp! only [hi]
  refine take_spec (by omega) fun kind ns1 v0 v1 => ?_
  dsimp! only [true_and]
  refine wp_mono (P := fun o Γ => IV (o = .next ∧ ∃ ns ds, (∀ d ∈ ds, VX d) ∧ ds.length ≤ 8 ∧ Γ = [Slot.io (DI ns), Slot.bo (DI sc), Slot.ow ds, Slot.bo (DS ws), Slot.im (.int kind), Slot.em])) ?_ ?_
  · simp! only [true_and]
    split
    · split
      · rename_i hp
        refine take_spec (by omega) fun u ns3 u0 u1 => ?_
        obtain ⟨d, ep⟩ := popM_in (ds := ds) u0 u1 (by omega)
        simp! only [ep]
        exact ⟨rfl, ns3, _, fun x hx => hd x (List.mem_of_mem_eraseIdx hx), by have := List.length_eraseIdx_le ds u.toNat; omega, rfl⟩
      · exact ⟨rfl, ns1, ds, hd, hln, rfl⟩
    · exact ⟨rfl, ns1, ds, hd, hln, rfl⟩
  clear hd hln hi
  rintro o Γ ⟨rfl, ns2, ds, hd, hln, rfl⟩
  dsimp! only [true_and]
  refine wp_mono (P := fun o Γ => IV (o = .next ∧ ∃ ns ds, (∀ d ∈ ds, VX d) ∧ ds.length ≤ 9 ∧ Γ = [Slot.io (DI ns), Slot.bo (DI sc), Slot.ow ds, Slot.bo (DS ws), Slot.im (.int kind), Slot.em])) ?_ ?_
  · simp! only [true_and]
    split
    · refine take_spec (by omega) fun u ns3 u0 u1 => ?_
      simp! only [true_and]
      refine any_value_specL hw hl fun d ns4 hdv => ?_
      have hins : insertM ds [.int u, d] = some (ds.take u.toNat ++ [d] ++ ds.drop u.toNat, .none) := by
        show (if _ then _ else _) = _
        rw [if_pos]
        simp only [Bool.and_eq_true, decide_eq_true_eq]
        exact ⟨⟨⟨hdv.vl.imm, by omega⟩, u0⟩, by omega⟩
      simp! only [hins]
      refine ⟨rfl, ns4, _, ?_, ?_, rfl⟩
      · intro x hx
        rcases List.mem_append.mp hx with hx | hx
        · rcases List.mem_append.mp hx with hx | hx
          · exact hd x (List.mem_of_mem_take hx)
          · rw [List.mem_singleton.mp hx]; exact ⟨hdv.vl, hdv.ln⟩
        · exact hd x (List.mem_of_mem_drop hx)
      · simp only [List.length_append, List.length_take, List.length_drop, List.length_cons, List.length_nil]; omega
    · exact ⟨rfl, ns2, ds, hd, by omega, rfl⟩
  clear hd hln
  rintro o Γ ⟨rfl, ns3, ds, hd, hln, rfl⟩
  dsimp! only [true_and]
  refine wp_mono (P := fun o Γ => IV (o = .next ∧ ∃ ns ds s5, fre s5 ∧ (∀ d ∈ ds, VX d) ∧ ds.length ≤ 9 ∧ Γ = [Slot.io (DI ns), Slot.bo (DI sc), Slot.ow ds, Slot.bo (DS ws), Slot.im (.int kind), s5])) ?_ ?_
  · simp! only [true_and]
    split
    · split
      · rename_i hp
        refine take_spec (by omega) fun u ns4 u0 u1 => ?_
        dsimp! only [true_and]
        refine any_value_specL hw hl fun d ns5 hdv => ?_
        have hx1 : ixN ds.length u = some u.toNat := ixN_at u0 u1
        have hx2 : ixN (ds.set u.toNat d).length u = some u.toNat := by rw [List.length_set]; exact ixN_at u0 u1
        have hvx : ∀ x ∈ ds.set u.toNat d, VX x := fun x hx => mem_set hd ⟨hdv.vl, hdv.ln⟩ hx
        dsimp! only [hx1, hdv.vl.imm]
        obtain ⟨a, rest, rfl⟩ : ∃ a rest, ws = a :: rest := by
          cases ws with
          | nil => simp at hl
          | cons a rest => exact ⟨_, _, rfl⟩
        have ha := hw.ok a (by simp)
        rw [wpY_eq, wp_sIf]
        simp! only [true_and]
        split
        · refine strange_spec ha.2.2.ok (by omega) fun z ns6 hz hzl => ?_
          simp! only [hx2]
          refine ⟨rfl, ns6, _, _, fre_im.mpr trivial, fun x hx => mem_set hvx ⟨.inr ⟨z, rfl, hz⟩, fun y e => by cases e; omega⟩ hx, ?_, rfl⟩
          rw [List.length_set, List.length_set]; exact hln
        · refine ⟨rfl, ns5, _, _, fre_im.mpr trivial, hvx, ?_, rfl⟩
          rw [List.length_set]; exact hln
      · exact ⟨rfl, ns3, ds, .em, by simp! only [true_and], hd, hln, rfl⟩
    · exact ⟨rfl, ns3, ds, .em, by simp! only [true_and], hd, hln, rfl⟩
  clear hd hln
  rintro o Γ ⟨rfl, ns4, ds, s5, h5, hd, hln, rfl⟩
  simp! only [true_and]
  exact h _ _ hd hln
def sgd (o : Option Tb) (hl : ∀ t, o = some t → PyData.strOk t.1 = true) : o = none ∨ gd 1 (tbD o) := by
  cases o with
  | none => exact .inl rfl
  | some t => exact .inr (gd_tup (by simp) fun x hx => by
      simp only [List.mem_cons, List.not_mem_nil, or_false] at hx
      rcases hx with rfl | rfl | rfl
      · exact .inr ⟨_, rfl, hl t rfl⟩
      · exact .inl ⟨_, rfl⟩
      · exact .inl ⟨_, rfl⟩)
theorem arOf_tb {Γ : Gm} {o : Option Tb} : arOf Γ false (.im (tbD o)) = some (.v (tbD o)) := by cases o <;> rfl
theorem same_tb {l : List Tb} (hl : SOk l) {a : Str} {P : Rs → List (List PyData) → Prop} (h : P (.v (.bool true)) []) : wpF D_law_same [.v (tbD (look l a)), .v (tbD (look l a))] P := by
  rcases sgd (look l a) fun t e => (hl.ok t (look_some e).1).1 with e | e
  · rw [e]; exact same_none h
  · exact same_ok (gd_le e (by omega)) h
theorem RK.sok {l k : List Tb} (hl : SOk l) (h : RK l k) : SOk k := ⟨by rw [h.nm]; exact hl.nd, fun t ht => by
  obtain ⟨a, b, s, hs, e, e2⟩ := h.ok t ht
  have := hl.ok s hs
  exact ⟨by rw [← e]; exact this.1, a, b, by omega⟩⟩
structure NOk (b : List Str) : Prop where
  ln : 1 ≤ b.length ∧ b.length ≤ 24
  ok : ∀ a ∈ b, PyData.strOk a = true
theorem DS_get {l : List Str} {j : Nat} {d : PyData} (h : (DS l)[j]? = some d) : ∃ a, a ∈ l ∧ d = .str a := by
  rw [List.getElem?_map, Option.map_eq_some_iff] at h
  obtain ⟨t, h, rfl⟩ := h
  exact ⟨t, List.mem_of_getElem? h, rfl⟩
theorem look_of {l : List Tb} (hl : SOk l) {t : Tb} (ht : t ∈ l) : look l t.1 = some t := by
  cases e : look l t.1 with
  | none => exact absurd rfl (look_none e t ht)
  | some s =>
    obtain ⟨hs, e2⟩ := look_some e
    rw [uniq hl.nd hs ht e2]
def fr9 (s : Slot) : Prop := s = .em ∨ ∃ d, s = .im d
theorem isF_true {l : List Tb} (hl : SOk l) {t : Tb} (ht : t ∈ l) {row : List PyData} (hrl : (row.length : Int) = t.2.1 + t.2.2) (hv : ∀ d ∈ row, VW d) : isF l t.1 row = true := by
  unfold isF
  rw [look_of hl ht]
  dsimp only
  rw [decide_eq_true hrl, Bool.true_and]
  exact List.all_eq_true.mpr fun d hd => (hv d hd).w
theorem law_spec {sc : List Int} (hsc : sc.length ≤ 63) : wpF D_law [.l (DI sc)] fun r outs => r = .v (.bool true) ∧ outs = [] := by
  unfold D_law
  refine wp_F rfl ?_
  unfold m_law
  dsimp! only [true_and]
  refine draws_spec hsc (by omega) fun ns => ?_
  dsimp! only [true_and]
  refine words_specL (by omega) fun ws ns2 hw hwl => ?_
  have hwl : ws.length = 24 := hwl
  dsimp! only [true_and]
  have hsl : slD (.list (DS ws)) none (some 21) = some (.list (DS (ws.take 21))) := by
    show some (PyData.list (cutL _ _ _)) = _
    rw [cut_to (by omega)]; simp only [DS, List.map_take] <;> rfl
  dsimp! only [hsl]
  have hw21 : WOk 60 (ws.take 21) := ⟨hw.nd.sublist (List.take_sublist _ _), fun a ha => hw.wok.ok a (List.mem_of_mem_take ha)⟩
  refine any_schema_spec hw21 (by rw [List.length_take]; omega) fun l ns3 hl hll => ?_
  have g21 : ∃ a, a ∈ ws ∧ atI (DS ws) 21 = some (.str a) := ⟨ws[21], List.getElem_mem _, atI_of (i := 21) (by simp [hwl])⟩
  have g22 : ∃ a, a ∈ ws ∧ atI (DS ws) 22 = some (.str a) := ⟨ws[22], List.getElem_mem _, atI_of (i := 22) (by simp [hwl])⟩
  have g23 : ∃ a, a ∈ ws ∧ atI (DS ws) 23 = some (.str a) := ⟨ws[23], List.getElem_mem _, atI_of (i := 23) (by simp [hwl])⟩
  obtain ⟨a21, m21, e21⟩ := g21
  obtain ⟨a22, m22, e22⟩ := g22
  obtain ⟨a23, m23, e23⟩ := g23
  have q21 := hw.ok a21 m21
  have q22 := hw.ok a22 m22
  have q23 := hw.ok a23 m23
  dsimp! only [true_and]
  refine lcI (fun j acc Γ => acc = DS ((l.take j).map (·.1)) ∧ Γ = [Slot.bo (DI sc), Slot.ow (DI ns3), Slot.ow (DS ws), Slot.im (PyData.tuple (TS l)), Slot.em, Slot.em, Slot.em, Slot.em, Slot.em, Slot.em, Slot.em]) ⟨rfl, rfl⟩ ?_ ?_
  · rintro j d acc Γ hj ⟨rfl, rfl⟩
    have hjl : j < (TS l).length := (List.getElem?_eq_some_iff.mp hj).1
    rw [List.length_map] at hjl
    obtain ⟨t, ht, rfl, hj2⟩ := TS_get hj
    simp! only [true_and]
    refine ⟨by simp; omega, ?_, rfl⟩
    rw [List.take_add_one, hj2]
    simp only [Option.toList_some, List.map_append, List.map_cons, List.map_nil]
  rintro acc Γ ⟨rfl, rfl⟩
  rw [show (TS l).length = l.length from List.length_map .., List.take_length]
  have h1 : ("q" : Str).length = 1 := rfl
  dsimp! only [e21, e22, e23]
  rw [addD_str (a := a22) (b := "q") (by rw [h1]; omega)]
  dsimp! only [e23]
  refine strange_spec q23.2.2.ok (by omega) fun z ns4 hz hzl => ?_
  obtain ⟨nms, hN, hadd⟩ : ∃ nms : List Str, NOk nms ∧ addD (.list (DS (l.map (·.1)))) (.list [.str a21, .str (a22 ++ "q"), .str z]) = some (.list (DS nms)) := by
    refine ⟨l.map (·.1) ++ [a21, a22 ++ "q", z], ⟨by simp; omega, fun a ha => ?_⟩, ?_⟩
    · rcases List.mem_append.mp ha with ha | ha
      · obtain ⟨t, ht, rfl⟩ := List.mem_map.mp ha
        exact (hl.ok t ht).1
      · simp only [List.mem_cons, List.not_mem_nil, or_false] at ha
        rcases ha with rfl | rfl | rfl
        · exact q21.2.2.ok
        · rw [strOk_app, q22.2.2.ok, strOk_of]; rfl
        · exact hz
    · rw [addD_list (by simp; omega)]
      simp only [DS, List.map_append, List.map_cons, List.map_nil]
  have hnl := hN.ln
  dsimp! only [hadd]
  refine ⟨by omega, ?_⟩
  refine loopI (fun i Γ => ∃ s5, fre s5 ∧ Γ = [Slot.bo (DI sc), Slot.ow (DI ns4), Slot.ow (DS ws), Slot.im (PyData.tuple (TS l)), Slot.bo (DS nms), s5, Slot.em, Slot.em, Slot.em, Slot.em, Slot.em]) ⟨.em, by simp! only [true_and], rfl⟩ ?_ ?_
  · rintro i d Γ hi ⟨s5, h5, rfl⟩
    obtain ⟨a, ha, rfl⟩ := DS_get hi
    dsimp! only [h5]
    rw [wpY_eq, wp_sIf]
    dsimp! only [true_and]
    refine table_of_any hl (hN.ok a ha) ?_
    dsimp! only [true_and]
    refine law_table_any hl (hN.ok a ha) ?_
    dsimp! only [arOf_tb]
    refine same_tb hl ?_
    dsimp! only [true_and]
    exact ⟨_, fre_im.mpr trivial, rfl⟩
  rintro Γ ⟨s5, h5, rfl⟩
  dsimp! only [true_and]
  refine rekeyed_spec hl hll fun o ns5 ho => ?_
  have hol := ho.sok hl
  dsimp! only [true_and]
  refine loopI (fun i Γ => ∃ s5, fre s5 ∧ Γ = [Slot.bo (DI sc), Slot.ow (DI ns5), Slot.ow (DS ws), Slot.im (PyData.tuple (TS l)), Slot.bo (DS nms), s5, Slot.im (PyData.tuple (TS o)), Slot.em, Slot.em, Slot.em, Slot.em]) ⟨s5, h5, rfl⟩ ?_ ?_
  · rintro i d Γ hi ⟨s5, h5, rfl⟩
    obtain ⟨a, ha, rfl⟩ := DS_get hi
    dsimp! only [h5]
    rw [wpY_eq, wp_sIf]
    dsimp! only [true_and]
    refine table_of_any hol (hN.ok a ha) ?_
    dsimp! only [true_and]
    refine law_table_any hol (hN.ok a ha) ?_
    dsimp! only [arOf_tb]
    refine same_tb hol ?_
    dsimp! only [true_and]
    rw [wpY_eq, wp_sIf]
    dsimp! only [true_and]
    refine table_of_any hl (hN.ok a ha) ?_
    dsimp! only [true_and]
    refine law_table_any hl (hN.ok a ha) ?_
    dsimp! only [arOf_tb]
    refine same_tb hl ?_
    dsimp! only [true_and]
    exact ⟨_, fre_im.mpr trivial, rfl⟩
  rintro Γ ⟨s5, h5, rfl⟩
  dsimp! only [true_and]
  refine take_spec (by omega) fun n9 ns6 n0 n1 => ?_
  dsimp! only [true_and]
  refine ⟨by omega, ?_⟩
  refine lcI (fun j acc Γ => ∃ ns, acc.length = j ∧ (∀ d ∈ acc, VW d) ∧ Γ = [Slot.bo (DI sc), Slot.ow (DI ns), Slot.ow (DS ws), Slot.im (PyData.tuple (TS l)), Slot.ow (DS nms), s5, Slot.im (PyData.tuple (TS o)), Slot.em, Slot.em, Slot.em, Slot.em]) ⟨ns6, rfl, by simp, rfl⟩ ?_ ?_
  · rintro j d acc Γ hj ⟨ns, ha, hv, rfl⟩
    obtain ⟨rfl, hj⟩ := rng1_get hj
    simp! only [true_and]
    refine any_value_specL hw (by omega) fun d ns5 hd => ?_
    simp! only [true_and]
    refine ⟨by omega, ns5, by simp [ha], ?_, rfl⟩
    intro x hx
    rcases List.mem_append.mp hx with hx | hx
    · exact hv x hx
    · rw [List.mem_singleton.mp hx]; exact hd
  rintro row Γ ⟨ns7, hrl, hrv, rfl⟩
  rw [rng1_len] at hrl
  have hri : immAll row = true := immAll_of fun d hd => (hrv d hd).vl.imm
  dsimp! only [hri]
  have hs6 : slD (.tuple (TS l)) none (some 6) = some (.tuple (TS (l.take 6))) := by
    rw [slT_to (by omega)]; simp only [TS, List.map_take] <;> rfl
  dsimp! only [hs6]
  have hrl : row.length ≤ 20 := by omega
  refine loopI (fun i Γ => ∃ ns row s5 s8 s9 s10, fre s5 ∧ fre s8 ∧ fr9 s9 ∧ fre s10 ∧ row.length ≤ 8 ∧ (∀ d ∈ row, VW d) ∧ Γ = [Slot.bo (DI sc), Slot.ow (DI ns), Slot.ow (DS ws), Slot.im (PyData.tuple (TS l)), Slot.ow (DS nms), s5, Slot.im (PyData.tuple (TS o)), Slot.im (.tuple row), s8, s9, s10]) ⟨ns7, row, s5, .em, .em, .em, h5, by simp! only [true_and], .inl rfl, by simp! only [true_and], by omega, hrv, rfl⟩ ?_ ?_
  · clear hrv hri hrl
    rintro i d Γ hi ⟨ns8, row, s5, s8, s9, s10, h5, h8, h9, h10, hrl, hrv, rfl⟩
    obtain ⟨t, ht, rfl, _⟩ := TS_get hi
    have ht : t ∈ l := List.mem_of_mem_take ht
    have hto := hl.ok t ht
    rcases h9 with rfl | ⟨d9, rfl⟩
    all_goals
      dsimp! only [h8]
      refine ⟨by omega, ?_⟩
      refine lcI (fun j acc Γ => ∃ ns, acc.length = j ∧ (∀ d ∈ acc, VW d) ∧ Γ = [Slot.bo (DI sc), Slot.ow (DI ns), Slot.ow (DS ws), Slot.im (PyData.tuple (TS l)), Slot.ow (DS nms), s5, Slot.im (PyData.tuple (TS o)), Slot.im (.tuple row), Slot.im (tD t), Slot.em, s10]) ⟨ns8, rfl, by simp, rfl⟩ ?_ ?_
      · rintro j d acc Γ hj ⟨ns, ha, hv, rfl⟩
        obtain ⟨rfl, hj⟩ := rng1_get hj
        simp! only [true_and]
        refine any_value_specL hw (by omega) fun d ns5 hd => ?_
        simp! only [true_and]
        refine ⟨by omega, ns5, by simp [ha], ?_, rfl⟩
        intro x hx
        rcases List.mem_append.mp hx with hx | hx
        · exact hv x hx
        · rw [List.mem_singleton.mp hx]; exact hd
      clear hrl hrv
      rintro row2 Γ ⟨ns9, hrl, hrv, rfl⟩
      rw [rng1_len] at hrl
      have hri : immAll row2 = true := immAll_of fun d hd => (hrv d hd).vl.imm
      have hrl8 : row2.length ≤ 8 := by omega
      dsimp! only [hri]
      rw [wpY_eq, wp_sIf]
      dsimp! only [true_and]
      refine is_fact_spec hl hto.1 (fun d hd => (hrv d hd).vl) (by omega) ?_
      rw [isF_true hl ht (by omega) hrv]
      dsimp! only [true_and]
      refine same_bool ?_
      dsimp! only [true_and]
      rw [if_neg (by decide)]
      refine ⟨by omega, ?_⟩
      refine loopI (fun i Γ => ∃ ns s5 s9 s10, fre s5 ∧ fr9 s9 ∧ fre s10 ∧ Γ = [Slot.bo (DI sc), Slot.ow (DI ns), Slot.ow (DS ws), Slot.im (PyData.tuple (TS l)), Slot.ow (DS nms), s5, Slot.im (PyData.tuple (TS o)), Slot.im (.tuple row2), Slot.im (tD t), s9, s10]) ⟨ns9, s5, _, s10, h5, (by first | exact .inl rfl | exact .inr ⟨_, rfl⟩), h10, rfl⟩ ?_ ?_
      · rintro j d Γ hj ⟨ns10, s5, s9, s10, h5, h9, h10, rfl⟩
        obtain ⟨rfl, hj⟩ := rng1_get hj
        have h9' : fre s9 := by
          rcases h9 with rfl | ⟨d, rfl⟩
          · simp! only [true_and]
          · exact fre_im.mpr trivial
        dsimp! only [h9']
        refine changed_row_spec hw (by omega) (fun d hd => ⟨(hrv d hd).vl, (hrv d hd).ln⟩) hrl8 fun near ns11 hn hnl => ?_
        dsimp! only [h10, h5]
        refine wp_mono (P := fun o1 Γ => IV (o1 = .next ∧ ∃ ns a, PyData.strOk a = true ∧ Γ = [Slot.bo (DI sc), Slot.ow (DI ns), Slot.ow (DS ws), Slot.im (PyData.tuple (TS l)), Slot.ow (DS nms), Slot.im (.str a), Slot.im (PyData.tuple (TS o)), Slot.im (.tuple row2), Slot.im (tD t), Slot.im (.int j), Slot.im (.tuple near)])) ?_ ?_
        · simp! only [true_and]
          refine take_spec (by omega) fun u ns12 u0 u1 => ?_
          simp! only [true_and]
          split
          · refine pick_spec (ds := DS nms) (by simp; omega) immAll_strs fun d ns13 hd => ?_
            obtain ⟨b, hb, rfl⟩ := List.mem_map.mp hd
            simp! only [true_and]
            exact ⟨rfl, ns13, b, hN.ok b hb, rfl⟩
          · exact ⟨rfl, ns12, t.1, hto.1, rfl⟩
        rintro o1 Γ ⟨rfl, ns14, a, ha, rfl⟩
        dsimp! only [true_and]
        rw [wpY_eq, wp_sIf]
        dsimp! only [true_and]
        refine is_fact_spec hl ha (fun d hd => (hn d hd).vl) (by omega) ?_
        dsimp! only [true_and]
        refine law_is_fact_spec hl ha (fun d hd => ⟨(hn d hd).vl, (hn d hd).ln⟩) (by omega) ?_
        dsimp! only [true_and]
        refine same_bool ?_
        dsimp! only [true_and]
        exact ⟨ns14, _, _, _, fre_im.mpr trivial, .inr ⟨_, rfl⟩, fre_im.mpr trivial, rfl⟩
      rintro Γ ⟨ns10, s5, s9, s10, h5, h9, h10, rfl⟩
      simp! only [true_and]
      exact ⟨ns10, row2, s5, _, s9, s10, h5, fre_im.mpr trivial, h9, h10, hrl8, hrv, rfl⟩
  clear hrv hri hrl
  rintro Γ ⟨ns8, row, s5, s8, s9, s10, h5, h8, h9, h10, hrl, hrv, rfl⟩
  dsimp! only [true_and]
  refine loopI (fun i Γ => ∃ s5, fre s5 ∧ Γ = [Slot.bo (DI sc), Slot.ow (DI ns8), Slot.ow (DS ws), Slot.im (PyData.tuple (TS l)), Slot.bo (DS nms), s5, Slot.im (PyData.tuple (TS o)), Slot.im (.tuple row), s8, s9, s10]) ⟨s5, h5, rfl⟩ ?_ ?_
  · rintro i d Γ hi ⟨s5, h5, rfl⟩
    obtain ⟨a, ha, rfl⟩ := DS_get hi
    dsimp! only [h5]
    rw [wpY_eq, wp_sIf]
    dsimp! only [true_and]
    refine is_fact_spec hl (hN.ok a ha) (fun d hd => (hrv d hd).vl) (by omega) ?_
    dsimp! only [true_and]
    refine law_is_fact_spec hl (hN.ok a ha) (fun d hd => ⟨(hrv d hd).vl, (hrv d hd).ln⟩) (by omega) ?_
    dsimp! only [true_and]
    refine same_bool ?_
    dsimp! only [true_and]
    exact ⟨_, fre_im.mpr trivial, rfl⟩
  rintro Γ ⟨s5, h5, rfl⟩
  simp! only [true_and]
end Lw
end

section
set_option Elab.async false
set_option linter.all false
set_option maxRecDepth 100000
set_option maxHeartbeats 4000000
namespace Lw
open PySem PySem.Spec PyProof.Rows L2 Vf
def topS (i : Nat) : Stmt := PySem.Challenge.pw_everymending_k04_tables_and_facts.main.body.getD i (.Pass ⟨0, 0, 0, 0⟩)
variable [Tabs]
theorem hu64 {k : Nat} {A : Around} (hr : Room k A) : A.units + 64 < cLine := by have := hr.un; omega
theorem hu65 {k : Nat} {A : Around} (hr : Room k A) : A.units + 65 < cLine := by have := hr.un; omega
abbrev XR0 : XRT := fun _ _ _ _ => False
abbrev S_is_word : Stmt := topS 1
abbrev S_is_row : Stmt := topS 2
abbrev S_table_of : Stmt := topS 4
abbrev S_is_fact : Stmt := topS 5
abbrev S_law_draws : Stmt := topS 7
abbrev S_law_take : Stmt := topS 8
abbrev S_law_pick : Stmt := topS 9
abbrev S_law_size : Stmt := topS 10
abbrev S_law_same : Stmt := topS 11
abbrev S_law_table : Stmt := topS 12
abbrev S_law_is_word : Stmt := topS 13
abbrev S_law_words : Stmt := topS 14
abbrev S_law_strange : Stmt := topS 15
abbrev S_law_any_value : Stmt := topS 16
abbrev S_law_any_schema : Stmt := topS 17
abbrev S_law_is_fact : Stmt := topS 18
abbrev S_law_rekeyed : Stmt := topS 19
abbrev S_law_changed_row : Stmt := topS 20
abbrev S_law : Stmt := topS 21
/-! ### what the top has written -/
structure Tx (K : PySem.W.Frag) (mg : Str → Option Value) (base : Heap) (a_is_word a_is_row a_table_of a_is_fact a_law_draws a_law_take a_law_pick a_law_size a_law_same a_law_table a_law_is_word a_law_words a_law_strange a_law_any_value a_law_any_schema a_law_is_fact a_law_rekeyed a_law_changed_row a_law cc_is_word tt_is_word cc_is_row tt_is_row : Addr) (d_is_word d_is_row d_table_of d_is_fact d_law_draws d_law_take d_law_pick d_law_size d_law_same d_law_table d_law_is_word d_law_words d_law_strange d_law_any_value d_law_any_schema d_law_is_fact d_law_rekeyed d_law_changed_row d_law : FuncData) : Prop where
  F_is_word : Fun K "is_word" "is_word" S_is_word a_is_word d_is_word
  g_is_word : mg "is_word" = some (.ref a_is_word)
  FC_is_word : FunC K "is_word" "is_word" S_is_word a_is_word d_is_word cc_is_word
  T_is_word : GxR.TabB base mg cc_is_word tt_is_word
  tp_is_word : tt_is_word ∈ Tabs.ps
  B_is_word : Binds K d_is_word ["text"] []
  F_is_row : Fun K "is_row" "is_row" S_is_row a_is_row d_is_row
  g_is_row : mg "is_row" = some (.ref a_is_row)
  FC_is_row : FunC K "is_row" "is_row" S_is_row a_is_row d_is_row cc_is_row
  T_is_row : GxR.TabB base mg cc_is_row tt_is_row
  tp_is_row : tt_is_row ∈ Tabs.ps
  B_is_row : Binds K d_is_row ["row"] []
  F_table_of : Fun K "table_of" "table_of" S_table_of a_table_of d_table_of
  g_table_of : mg "table_of" = some (.ref a_table_of)
  B_table_of : Binds K d_table_of ["schema", "name"] []
  F_is_fact : Fun K "is_fact" "is_fact" S_is_fact a_is_fact d_is_fact
  g_is_fact : mg "is_fact" = some (.ref a_is_fact)
  B_is_fact : Binds K d_is_fact ["schema", "name", "row"] []
  F_law_draws : Fun K "_law_draws" "_law_draws" S_law_draws a_law_draws d_law_draws
  g_law_draws : mg "_law_draws" = some (.ref a_law_draws)
  B_law_draws : Binds K d_law_draws ["script", "many"] []
  F_law_take : Fun K "_law_take" "_law_take" S_law_take a_law_take d_law_take
  g_law_take : mg "_law_take" = some (.ref a_law_take)
  B_law_take : Binds K d_law_take ["draws", "many"] []
  F_law_pick : Fun K "_law_pick" "_law_pick" S_law_pick a_law_pick d_law_pick
  g_law_pick : mg "_law_pick" = some (.ref a_law_pick)
  B_law_pick : Binds K d_law_pick ["draws", "row"] []
  F_law_size : Fun K "_law_size" "_law_size" S_law_size a_law_size d_law_size
  g_law_size : mg "_law_size" = some (.ref a_law_size)
  B_law_size : Binds K d_law_size ["draws", "script"] []
  F_law_same : Fun K "_law_same" "_law_same" S_law_same a_law_same d_law_same
  g_law_same : mg "_law_same" = some (.ref a_law_same)
  B_law_same : Binds K d_law_same ["actual", "due"] []
  F_law_table : Fun K "_law_table" "_law_table" S_law_table a_law_table d_law_table
  g_law_table : mg "_law_table" = some (.ref a_law_table)
  B_law_table : Binds K d_law_table ["schema", "name"] []
  F_law_is_word : Fun K "_law_is_word" "_law_is_word" S_law_is_word a_law_is_word d_law_is_word
  g_law_is_word : mg "_law_is_word" = some (.ref a_law_is_word)
  B_law_is_word : Binds K d_law_is_word ["text"] []
  F_law_words : Fun K "_law_words" "_law_words" S_law_words a_law_words d_law_words
  g_law_words : mg "_law_words" = some (.ref a_law_words)
  B_law_words : Binds K d_law_words ["draws", "many"] []
  F_law_strange : Fun K "_law_strange" "_law_strange" S_law_strange a_law_strange d_law_strange
  g_law_strange : mg "_law_strange" = some (.ref a_law_strange)
  B_law_strange : Binds K d_law_strange ["draws", "word"] []
  F_law_any_value : Fun K "_law_any_value" "_law_any_value" S_law_any_value a_law_any_value d_law_any_value
  g_law_any_value : mg "_law_any_value" = some (.ref a_law_any_value)
  B_law_any_value : Binds K d_law_any_value ["draws", "script", "words"] []
  F_law_any_schema : Fun K "_law_any_schema" "_law_any_schema" S_law_any_schema a_law_any_schema d_law_any_schema
  g_law_any_schema : mg "_law_any_schema" = some (.ref a_law_any_schema)
  B_law_any_schema : Binds K d_law_any_schema ["draws", "words"] []
  F_law_is_fact : Fun K "_law_is_fact" "_law_is_fact" S_law_is_fact a_law_is_fact d_law_is_fact
  g_law_is_fact : mg "_law_is_fact" = some (.ref a_law_is_fact)
  B_law_is_fact : Binds K d_law_is_fact ["schema", "name", "row"] []
  F_law_rekeyed : Fun K "_law_rekeyed" "_law_rekeyed" S_law_rekeyed a_law_rekeyed d_law_rekeyed
  g_law_rekeyed : mg "_law_rekeyed" = some (.ref a_law_rekeyed)
  B_law_rekeyed : Binds K d_law_rekeyed ["draws", "schema"] []
  F_law_changed_row : Fun K "_law_changed_row" "_law_changed_row" S_law_changed_row a_law_changed_row d_law_changed_row
  g_law_changed_row : mg "_law_changed_row" = some (.ref a_law_changed_row)
  B_law_changed_row : Binds K d_law_changed_row ["draws", "script", "row", "words"] []
  F_law : Fun K "law" "law" S_law a_law d_law
  g_law : mg "law" = some (.ref a_law)
  B_law : Binds K d_law ["script"] []
  m_abs : mg "abs" = none
  m_all : mg "all" = none
  m_bool : mg "bool" = none
  m_int : mg "int" = none
  m_isinstance : mg "isinstance" = none
  m_len : mg "len" = none
  m_list : mg "list" = none
  m_max : mg "max" = none
  m_range : mg "range" = none
  m_sorted : mg "sorted" = none
  m_str : mg "str" = none
  m_tuple : mg "tuple" = none
section
variable {P : Program} {w : World} {K : PySem.W.Frag} {mg : Str → Option Value} {base : Heap} {a_is_word a_is_row a_table_of a_is_fact a_law_draws a_law_take a_law_pick a_law_size a_law_same a_law_table a_law_is_word a_law_words a_law_strange a_law_any_value a_law_any_schema a_law_is_fact a_law_rekeyed a_law_changed_row a_law cc_is_word tt_is_word cc_is_row tt_is_row : Addr} {d_is_word d_is_row d_table_of d_is_fact d_law_draws d_law_take d_law_pick d_law_size d_law_same d_law_table d_law_is_word d_law_words d_law_strange d_law_any_value d_law_any_schema d_law_is_fact d_law_rekeyed d_law_changed_row d_law : FuncData}
theorem sc_is_word : FnScope NN_is_word PP_is_word (defScope S_is_word) := ⟨rfl, rfl, rfl, by decide +kernel, rfl, by decide +kernel, by decide +kernel⟩
theorem OK_is_word (X : Tx K mg base a_is_word a_is_row a_table_of a_is_fact a_law_draws a_law_take a_law_pick a_law_size a_law_same a_law_table a_law_is_word a_law_words a_law_strange a_law_any_value a_law_any_schema a_law_is_fact a_law_rekeyed a_law_changed_row a_law cc_is_word tt_is_word cc_is_row tt_is_row d_is_word d_is_row d_table_of d_is_fact d_law_draws d_law_take d_law_pick d_law_size d_law_same d_law_table d_law_is_word d_law_words d_law_strange d_law_any_value d_law_any_schema d_law_is_fact d_law_rekeyed d_law_changed_row d_law) : FnOk P w K mg base CX0 1 a_is_word d_is_word PP_is_word (spD K XR0 (List.length PP_is_word) D_is_word) := by
  have nd := sc_is_word.nd
  refine fn_okC (N := NN_is_word) (ps := PP_is_word) (XR := XR0) (k := 0) (b := m_is_word) X.FC_is_word sc_is_word fun A outer s H E hr => ?_
  exact ⟨_, (pss_one (ps_ret (pe_and (pe_cmpR (op_neD (hu64 hr)) (pv 0) pe_str (nomark _)) (pe_one (GxR.pe_allS hr (by rfl) X.m_all (by decide +kernel) X.T_is_word rfl (genS_by (by decide +kernel)) (pv 0) (elt_chain rfl rfl) (fun _ => rfl)))))), (rs_ret (rt_andV (rt_op2 os_ne (rt_var 0) rt_str) (rt_allS X.tp_is_word (rt_var 0))))⟩
theorem sc_is_row : FnScope NN_is_row PP_is_row (defScope S_is_row) := ⟨rfl, rfl, rfl, by decide +kernel, rfl, by decide +kernel, by decide +kernel⟩
theorem OK_is_row (X : Tx K mg base a_is_word a_is_row a_table_of a_is_fact a_law_draws a_law_take a_law_pick a_law_size a_law_same a_law_table a_law_is_word a_law_words a_law_strange a_law_any_value a_law_any_schema a_law_is_fact a_law_rekeyed a_law_changed_row a_law cc_is_word tt_is_word cc_is_row tt_is_row d_is_word d_is_row d_table_of d_is_fact d_law_draws d_law_take d_law_pick d_law_size d_law_same d_law_table d_law_is_word d_law_words d_law_strange d_law_any_value d_law_any_schema d_law_is_fact d_law_rekeyed d_law_changed_row d_law) : FnOk P w K mg base CX0 5 a_is_row d_is_row PP_is_row (spD K XR0 (List.length PP_is_row) D_is_row) := by
  have OKg_is_word := (OK_is_word (P := P) (w := w) (base := base) X).mono (show 1 ≤ 1 by decide)
  have OK_is_word := (OK_is_word (P := P) (w := w) (base := base) X).mono (show 1 ≤ 4 by decide)
  have nd := sc_is_row.nd
  refine fn_okC (N := NN_is_row) (ps := PP_is_row) (XR := XR0) (k := 4) (b := m_is_row) X.FC_is_row sc_is_row fun A outer s H E hr => ?_
  exact ⟨_, (pss_one (ps_ret (pe_allG (k := 1) hr (by rfl) X.m_all (by decide +kernel) X.T_is_row rfl (by decide +kernel) (pi_seq (pv 0)) (fun A9 s9 H9 ce fp hrg hsc => by obtain ⟨sc9⟩ := ce; obtain rfl := hsc; exact (pe_or (pe_callB call_isi (by rfl) X.m_isinstance (by decide +kernel) (pa_cons (pv 0) (pa_cons (pe_bltn (v := .ty "int") (by rfl) X.m_int (by decide +kernel) rfl) pa_nil))) (pe_one (pe_call OKg_is_word hrg (by rfl) X.g_is_word X.F_is_word.kp X.B_is_word .nil pass0 (pa_cons (pv 0) pa_nil))))) (fun _ => rfl)))), (rs_ret (rt_allG X.tp_is_row (ri_seq (rt_var 0)) (rt_orV (rt_isi (rt_var 0)) (rt_call [false] rfl (ra_cons (rt_var 0) ra_nil)))))⟩
theorem sc_table_of : FnScope NN_table_of PP_table_of (defScope S_table_of) := ⟨rfl, rfl, rfl, by decide +kernel, rfl, by decide +kernel, by decide +kernel⟩
theorem OK_table_of (X : Tx K mg base a_is_word a_is_row a_table_of a_is_fact a_law_draws a_law_take a_law_pick a_law_size a_law_same a_law_table a_law_is_word a_law_words a_law_strange a_law_any_value a_law_any_schema a_law_is_fact a_law_rekeyed a_law_changed_row a_law cc_is_word tt_is_word cc_is_row tt_is_row d_is_word d_is_row d_table_of d_is_fact d_law_draws d_law_take d_law_pick d_law_size d_law_same d_law_table d_law_is_word d_law_words d_law_strange d_law_any_value d_law_any_schema d_law_is_fact d_law_rekeyed d_law_changed_row d_law) : FnOk P w K mg base CX0 1 a_table_of d_table_of PP_table_of (spD K XR0 (List.length PP_table_of) D_table_of) := by
  have nd := sc_table_of.nd
  refine fn_ok (N := NN_table_of) (ps := PP_table_of) (XR := XR0) (k := 0) (b := m_table_of) X.F_table_of sc_table_of fun cdv A outer s H E hr => ?_
  exact ⟨_, (pss_cons (ps_for PassesOwn.never rfl (pi_seq (pv 0)) (pg_name (i := 2) nd rfl (by first | exact Or.inl rfl | exact Or.inr rfl)) (pss_one (ps_if (pt_cmpR (op_eqD (hu64 hr)) (pe_ix ix_seq (pv 2) pe_int (fun _ _ => rfl)) (pv 1) (nomark _)) (pss_one (ps_ret (pv 2))) pss_nil))) (pss_one (ps_ret pe_non))), (rs_seq (rs_for (ri_seq (rt_var 0)) (rg_name 2) (rs_if (rb_test (rt_op2 os_eq (rt_op2 os_ix (rt_var 2) rt_int) (rt_var 1))) (rs_ret (rt_var 2)) rs_next)) (rs_ret rt_non))⟩
theorem sc_is_fact : FnScope NN_is_fact PP_is_fact (defScope S_is_fact) := ⟨rfl, rfl, rfl, by decide +kernel, rfl, by decide +kernel, by decide +kernel⟩
theorem OK_is_fact (X : Tx K mg base a_is_word a_is_row a_table_of a_is_fact a_law_draws a_law_take a_law_pick a_law_size a_law_same a_law_table a_law_is_word a_law_words a_law_strange a_law_any_value a_law_any_schema a_law_is_fact a_law_rekeyed a_law_changed_row a_law cc_is_word tt_is_word cc_is_row tt_is_row d_is_word d_is_row d_table_of d_is_fact d_law_draws d_law_take d_law_pick d_law_size d_law_same d_law_table d_law_is_word d_law_words d_law_strange d_law_any_value d_law_any_schema d_law_is_fact d_law_rekeyed d_law_changed_row d_law) : FnOk P w K mg base CX0 6 a_is_fact d_is_fact PP_is_fact (spD K XR0 (List.length PP_is_fact) D_is_fact) := by
  have OK_is_row := (OK_is_row (P := P) (w := w) (base := base) X).mono (show 5 ≤ 5 by decide)
  have OK_table_of := (OK_table_of (P := P) (w := w) (base := base) X).mono (show 1 ≤ 5 by decide)
  have nd := sc_is_fact.nd
  refine fn_ok (N := NN_is_fact) (ps := PP_is_fact) (XR := XR0) (k := 5) (b := m_is_fact) X.F_is_fact sc_is_fact fun cdv A outer s H E hr => ?_
  exact ⟨_, (pss_cons (ps_set (i := 3) nd rfl (by first | exact Or.inl rfl | exact Or.inr rfl) (pe_call OK_table_of hr (by rfl) X.g_table_of X.F_table_of.kp X.B_table_of .nil pass0 (pa_cons (pv 0) (pa_cons (pv 1) pa_nil)))) (pss_cons (ps_if (pt_cmpR op_isN (pv 3) pe_non (nomark _)) (pss_one (ps_ret pe_bl)) pss_nil) (pss_one (ps_ret (pe_and (pe_cmpR (op_eqD (hu64 hr)) (pe_callB call_lenX (by rfl) X.m_len (by decide +kernel) (pa_cons (pv 2) pa_nil)) (pe_op op_addD (pe_ix ix_seq (pv 3) pe_int (fun _ _ => rfl)) (pe_ix ix_seq (pv 3) pe_int (fun _ _ => rfl))) (nomark _)) (pe_one (pe_call OK_is_row hr (by rfl) X.g_is_row X.F_is_row.kp X.B_is_row .nil pass0 (pa_cons (pv 2) pa_nil)))))))), (rs_seq (rs_set 3 (rt_call [false, false] rfl (ra_cons (rt_var 0) (ra_cons (rt_var 1) ra_nil)))) (rs_seq (rs_if (rb_test (rt_op2 os_isN (rt_var 3) rt_non)) (rs_ret rt_bl) rs_next) (rs_ret (rt_andV (rt_op2 os_eq (rt_cb cs_len (ra_cons (rt_var 2) ra_nil)) (rt_op2 os_add (rt_op2 os_ix (rt_var 3) rt_int) (rt_op2 os_ix (rt_var 3) rt_int))) (rt_call [false] rfl (ra_cons (rt_var 2) ra_nil))))))⟩
theorem sc_law_draws : FnScope NN_law_draws PP_law_draws (defScope S_law_draws) := ⟨rfl, rfl, rfl, by decide +kernel, rfl, by decide +kernel, by decide +kernel⟩
theorem OK_law_draws (X : Tx K mg base a_is_word a_is_row a_table_of a_is_fact a_law_draws a_law_take a_law_pick a_law_size a_law_same a_law_table a_law_is_word a_law_words a_law_strange a_law_any_value a_law_any_schema a_law_is_fact a_law_rekeyed a_law_changed_row a_law cc_is_word tt_is_word cc_is_row tt_is_row d_is_word d_is_row d_table_of d_is_fact d_law_draws d_law_take d_law_pick d_law_size d_law_same d_law_table d_law_is_word d_law_words d_law_strange d_law_any_value d_law_any_schema d_law_is_fact d_law_rekeyed d_law_changed_row d_law) : FnOk P w K mg base CX0 1 a_law_draws d_law_draws PP_law_draws (spD K XR0 (List.length PP_law_draws) D_law_draws) := by
  have nd := sc_law_draws.nd
  refine fn_ok (N := NN_law_draws) (ps := PP_law_draws) (XR := XR0) (k := 0) (b := m_law_draws) X.F_law_draws sc_law_draws fun cdv A outer s H E hr => ?_
  exact ⟨_, (pss_cons (by first | exact ps_setLc (i := 2) (own := [("cell", 7)]) rfl nd rfl rfl (sw_true rfl rfl rfl (by decide +kernel)) (pi_seq (pv 0)) (blkOk_by (N := NN_law_draws) (sc := defScope S_law_draws) (by decide +kernel)) (fun _ _ _ _ _ => (pg_name (i := 7) nd rfl (by first | exact Or.inl rfl | exact Or.inr rfl))) (fun _ _ _ _ _ => pts_nil) (fun _ _ _ _ _ => (pe_callTy call_intX (by rfl) X.m_int (by decide +kernel) (pa_cons (pv 7) pa_nil))) | exact ps_set (i := 2) nd rfl (by first | exact Or.inl rfl | exact Or.inr rfl) (pe_lc (own := [("cell", 7)]) rfl nd (pi_seq (pv 0)) (blkOk_by (N := NN_law_draws) (sc := defScope S_law_draws) (by decide +kernel)) (fun _ _ _ _ _ => (pg_name (i := 7) nd rfl (by first | exact Or.inl rfl | exact Or.inr rfl))) (fun _ _ _ _ _ => pts_nil) (fun _ _ _ _ _ => (pe_callTy call_intX (by rfl) X.m_int (by decide +kernel) (pa_cons (pv 7) pa_nil))))) (pss_cons (ps_if (pt_cmpR (op_eqD (hu64 hr)) (pe_callB call_lenX (by rfl) X.m_len (by decide +kernel) (pa_cons (pv 2) pa_nil)) pe_int (nomark _)) (pss_one (ps_expr (pe_bm PySem.F.plainAttrs_list PySem.F.slot_list_append PySem.F.type_list_append mt_append (pv 2) (pa_cons pe_int pa_nil)))) pss_nil) (pss_cons (ps_set (i := 3) nd rfl (by first | exact Or.inl rfl | exact Or.inr rfl) (pe_callTy call_listX (by rfl) X.m_list (by decide +kernel) (pa_cons (pv 2) pa_nil))) (pss_cons (ps_set (i := 4) nd rfl (by first | exact Or.inl rfl | exact Or.inr rfl) (pe_lst pa_nil)) (pss_cons (ps_for PassesOwn.never rfl (pi_range1 (by rfl) X.m_range (pa_cons (pv 1) pa_nil)) (pg_name (i := 5) nd rfl (by first | exact Or.inl rfl | exact Or.inr rfl)) (pss_cons (ps_set (i := 6) nd rfl (by first | exact Or.inl rfl | exact Or.inr rfl) (pe_op op_mod (pv 5) (pe_callB call_lenX (by rfl) X.m_len (by decide +kernel) (pa_cons (pv 2) pa_nil)))) (pss_one (ps_if (pt_cmpR op_geI (pe_ix ix_seq (pv 2) (pv 6) (fun _ _ => rfl)) (pe_op op_pow pe_int pe_int) (nomark _)) (pss_cons (ps_expr (pe_bm PySem.F.plainAttrs_list PySem.F.slot_list_append PySem.F.type_list_append mt_append (pv 4) (pa_cons (pe_op op_mod (pe_callTy call_intX (by rfl) X.m_int (by decide +kernel) (pa_cons (pe_ix ix_seq (pv 3) (pv 6) (fun _ _ => rfl)) pa_nil)) pe_int) pa_nil))) (pss_one (ps_asg (pe_op op_fdiv (pe_ix ix_seq (pv 3) (pv 6) (fun _ _ => rfl)) pe_int) (pg_sub (pv 3) (pv 6) set_list)))) (pss_cons (ps_set (i := 8) nd rfl (by first | exact Or.inl rfl | exact Or.inr rfl) (pe_op op_mod (pe_callTy call_intX (by rfl) X.m_int (by decide +kernel) (pa_cons (pe_op op_addD (pe_op op_addD (pe_op op_mulD (pe_ix ix_seq (pv 2) (pv 6) (fun _ _ => rfl)) pe_int) (pe_op op_mulD (pv 5) pe_int)) pe_int) pa_nil)) pe_int)) (pss_one (ps_expr (pe_bm PySem.F.plainAttrs_list PySem.F.slot_list_append PySem.F.type_list_append mt_append (pv 4) (pa_cons (pe_op op_mod (pe_callTy call_intX (by rfl) X.m_int (by decide +kernel) (pa_cons (pe_op op_addD (pe_op op_addD (pe_op op_mulD (pv 8) (pv 8)) (pe_op op_mulD pe_int (pv 8))) (pv 5)) pa_nil)) pe_int) pa_nil))))))))) (pss_cons (ps_expr (pe_bm0 PySem.F.plainAttrs_list PySem.F.slot_list_reverse PySem.F.type_list_reverse mt_reverse (pv 4))) (pss_one (ps_ret (pv 4))))))))), (rs_seq (rs_set 2 (rt_lc (vs := [7]) (ri_seq (rt_var 0)) (rg_name 7) (by decide) rb_yes (rt_cb cs_int (ra_cons (rt_var 7) ra_nil)))) (rs_seq (rs_if (rb_test (rt_op2 os_eq (rt_cb cs_len (ra_cons (rt_var 2) ra_nil)) rt_int)) (rs_drop (rt_mut 2 ms_append (ra_cons rt_int ra_nil))) rs_next) (rs_seq (rs_set 3 (rt_cb cs_list (ra_cons (rt_var 2) ra_nil))) (rs_seq (rs_set 4 (rt_lst ra_nil)) (rs_seq (rs_for (ri_range1 (ra_cons (rt_var 1) ra_nil)) (rg_name 5) (rs_seq (rs_set 6 (rt_op2 os_mod (rt_var 5) (rt_cb cs_len (ra_cons (rt_var 2) ra_nil)))) (rs_if (rb_test (rt_op2 os_cmpI (rt_op2 os_ix (rt_var 2) (rt_var 6)) (rt_op2 os_pow rt_int rt_int))) (rs_seq (rs_drop (rt_mut 4 ms_append (ra_cons (rt_op2 os_mod (rt_cb cs_int (ra_cons (rt_op2 os_ix (rt_var 3) (rt_var 6)) ra_nil)) rt_int) ra_nil))) (rs_setIx 3 (rt_var 6) (rt_op2 os_fdiv (rt_op2 os_ix (rt_var 3) (rt_var 6)) rt_int))) (rs_seq (rs_set 8 (rt_op2 os_mod (rt_cb cs_int (ra_cons (rt_op2 os_add (rt_op2 os_add (rt_op2 os_mul (rt_op2 os_ix (rt_var 2) (rt_var 6)) rt_int) (rt_op2 os_mul (rt_var 5) rt_int)) rt_int) ra_nil)) rt_int)) (rs_drop (rt_mut 4 ms_append (ra_cons (rt_op2 os_mod (rt_cb cs_int (ra_cons (rt_op2 os_add (rt_op2 os_add (rt_op2 os_mul (rt_var 8) (rt_var 8)) (rt_op2 os_mul rt_int (rt_var 8))) (rt_var 5)) ra_nil)) rt_int) ra_nil))))))) (rs_seq (rs_drop (rt_mut0 4 ms_reverse)) (rs_ret (rt_var 4))))))))⟩
theorem sc_law_take : FnScope NN_law_take PP_law_take (defScope S_law_take) := ⟨rfl, rfl, rfl, by decide +kernel, rfl, by decide +kernel, by decide +kernel⟩
theorem OK_law_take (X : Tx K mg base a_is_word a_is_row a_table_of a_is_fact a_law_draws a_law_take a_law_pick a_law_size a_law_same a_law_table a_law_is_word a_law_words a_law_strange a_law_any_value a_law_any_schema a_law_is_fact a_law_rekeyed a_law_changed_row a_law cc_is_word tt_is_word cc_is_row tt_is_row d_is_word d_is_row d_table_of d_is_fact d_law_draws d_law_take d_law_pick d_law_size d_law_same d_law_table d_law_is_word d_law_words d_law_strange d_law_any_value d_law_any_schema d_law_is_fact d_law_rekeyed d_law_changed_row d_law) : FnOk P w K mg base CX0 1 a_law_take d_law_take PP_law_take (spD K XR0 (List.length PP_law_take) D_law_take) := by
  have nd := sc_law_take.nd
  refine fn_ok (N := NN_law_take) (ps := PP_law_take) (XR := XR0) (k := 0) (b := m_law_take) X.F_law_take sc_law_take fun cdv A outer s H E hr => ?_
  exact ⟨_, (pss_cons (ps_if (pt_cmpR (op_eqD (hu64 hr)) (pe_callB call_lenX (by rfl) X.m_len (by decide +kernel) (pa_cons (pv 0) pa_nil)) pe_int (nomark _)) (pss_one (ps_ret pe_int)) pss_nil) (pss_one (ps_ret (pe_op op_mod (pe_callTy call_intX (by rfl) X.m_int (by decide +kernel) (pa_cons (pe_bm0 PySem.F.plainAttrs_list PySem.F.slot_list_pop PySem.F.type_list_pop mt_popX (pv 0)) pa_nil)) (pv 1))))), (rs_seq (rs_if (rb_test (rt_op2 os_eq (rt_cb cs_len (ra_cons (rt_var 0) ra_nil)) rt_int)) (rs_ret rt_int) rs_next) (rs_ret (rt_op2 os_mod (rt_cb cs_int (ra_cons (rt_mut0 0 ms_pop) ra_nil)) (rt_var 1))))⟩
theorem sc_law_pick : FnScope NN_law_pick PP_law_pick (defScope S_law_pick) := ⟨rfl, rfl, rfl, by decide +kernel, rfl, by decide +kernel, by decide +kernel⟩
theorem OK_law_pick (X : Tx K mg base a_is_word a_is_row a_table_of a_is_fact a_law_draws a_law_take a_law_pick a_law_size a_law_same a_law_table a_law_is_word a_law_words a_law_strange a_law_any_value a_law_any_schema a_law_is_fact a_law_rekeyed a_law_changed_row a_law cc_is_word tt_is_word cc_is_row tt_is_row d_is_word d_is_row d_table_of d_is_fact d_law_draws d_law_take d_law_pick d_law_size d_law_same d_law_table d_law_is_word d_law_words d_law_strange d_law_any_value d_law_any_schema d_law_is_fact d_law_rekeyed d_law_changed_row d_law) : FnOk P w K mg base CX0 2 a_law_pick d_law_pick PP_law_pick (spD K XR0 (List.length PP_law_pick) D_law_pick) := by
  have OK_law_take := (OK_law_take (P := P) (w := w) (base := base) X).mono (show 1 ≤ 1 by decide)
  have nd := sc_law_pick.nd
  refine fn_ok (N := NN_law_pick) (ps := PP_law_pick) (XR := XR0) (k := 1) (b := m_law_pick) X.F_law_pick sc_law_pick fun cdv A outer s H E hr => ?_
  exact ⟨_, (pss_one (ps_ret (pe_ix ix_seq (pv 1) (pe_call OK_law_take hr (by rfl) X.g_law_take X.F_law_take.kp X.B_law_take .nil pass0 (pa_cons (pv 0) (pa_cons (pe_callB call_lenX (by rfl) X.m_len (by decide +kernel) (pa_cons (pv 1) pa_nil)) pa_nil))) (fun _ _ => rfl)))), (rs_ret (rt_op2 os_ix (rt_var 1) (rt_call [true, false] rfl (ra_cons (rt_var 0) (ra_cons (rt_cb cs_len (ra_cons (rt_var 1) ra_nil)) ra_nil)))))⟩
theorem sc_law_size : FnScope NN_law_size PP_law_size (defScope S_law_size) := ⟨rfl, rfl, rfl, by decide +kernel, rfl, by decide +kernel, by decide +kernel⟩
theorem OK_law_size (X : Tx K mg base a_is_word a_is_row a_table_of a_is_fact a_law_draws a_law_take a_law_pick a_law_size a_law_same a_law_table a_law_is_word a_law_words a_law_strange a_law_any_value a_law_any_schema a_law_is_fact a_law_rekeyed a_law_changed_row a_law cc_is_word tt_is_word cc_is_row tt_is_row d_is_word d_is_row d_table_of d_is_fact d_law_draws d_law_take d_law_pick d_law_size d_law_same d_law_table d_law_is_word d_law_words d_law_strange d_law_any_value d_law_any_schema d_law_is_fact d_law_rekeyed d_law_changed_row d_law) : FnOk P w K mg base CX0 2 a_law_size d_law_size PP_law_size (spD K XR0 (List.length PP_law_size) D_law_size) := by
  have OK_law_take := (OK_law_take (P := P) (w := w) (base := base) X).mono (show 1 ≤ 1 by decide)
  have nd := sc_law_size.nd
  refine fn_ok (N := NN_law_size) (ps := PP_law_size) (XR := XR0) (k := 1) (b := m_law_size) X.F_law_size sc_law_size fun cdv A outer s H E hr => ?_
  exact ⟨_, (pss_cons (ps_set (i := 2) nd rfl (by first | exact Or.inl rfl | exact Or.inr rfl) (pe_call OK_law_take hr (by rfl) X.g_law_take X.F_law_take.kp X.B_law_take .nil pass0 (pa_cons (pv 0) (pa_cons pe_int pa_nil)))) (pss_cons (ps_if (pt_cmpR op_ltD (pv 2) pe_int (nomark _)) (pss_one (ps_ret (pe_call OK_law_take hr (by rfl) X.g_law_take X.F_law_take.kp X.B_law_take .nil pass0 (pa_cons (pv 0) (pa_cons pe_int pa_nil))))) pss_nil) (pss_cons (ps_if (pt_cmpR (op_eqD (hu64 hr)) (pv 2) pe_int (nomark _)) (pss_one (ps_ret (pe_call OK_law_take hr (by rfl) X.g_law_take X.F_law_take.kp X.B_law_take .nil pass0 (pa_cons (pv 0) (pa_cons pe_int pa_nil))))) pss_nil) (pss_cons (ps_if (PW.pt (pw_or (pt_cmpR (op_eqD (hu64 hr)) (pv 2) pe_int (nomark _)) (pw_or1 (pt_cmpR (op_eqD (hu64 hr)) (pe_callB call_lenX (by rfl) X.m_len (by decide +kernel) (pa_cons (pv 1) pa_nil)) pe_int (nomark _))))) (pss_cons (ps_set (i := 3) nd rfl (by first | exact Or.inl rfl | exact Or.inr rfl) pe_int) (pss_cons (ps_for PassesOwn.never rfl (pi_range1 (by rfl) X.m_range (pa_cons pe_int pa_nil)) (pg_name (i := 4) nd rfl (by first | exact Or.inl rfl | exact Or.inr rfl)) (pss_one (ps_set (i := 3) nd rfl (by first | exact Or.inl rfl | exact Or.inr rfl) (pe_op op_addD (pe_op op_mulD (pv 3) pe_int) (pe_call OK_law_take hr (by rfl) X.g_law_take X.F_law_take.kp X.B_law_take .nil pass0 (pa_cons (pv 0) (pa_cons pe_int pa_nil))))))) (pss_one (ps_ret (pv 3))))) pss_nil) (pss_one (ps_ret (pe_callB call_absX (by rfl) X.m_abs (by decide +kernel) (pa_cons (pe_callTy call_intX (by rfl) X.m_int (by decide +kernel) (pa_cons (pe_ix ix_seq (pv 1) (pe_call OK_law_take hr (by rfl) X.g_law_take X.F_law_take.kp X.B_law_take .nil pass0 (pa_cons (pv 0) (pa_cons (pe_callB call_lenX (by rfl) X.m_len (by decide +kernel) (pa_cons (pv 1) pa_nil)) pa_nil))) (fun _ _ => rfl)) pa_nil)) pa_nil)))))))), (rs_seq (rs_set 2 (rt_call [true, false] rfl (ra_cons (rt_var 0) (ra_cons rt_int ra_nil)))) (rs_seq (rs_if (rb_test (rt_op2 os_lt (rt_var 2) rt_int)) (rs_ret (rt_call [true, false] rfl (ra_cons (rt_var 0) (ra_cons rt_int ra_nil)))) rs_next) (rs_seq (rs_if (rb_test (rt_op2 os_eq (rt_var 2) rt_int)) (rs_ret (rt_call [true, false] rfl (ra_cons (rt_var 0) (ra_cons rt_int ra_nil)))) rs_next) (rs_seq (rs_if (rb_or (rb_test (rt_op2 os_eq (rt_var 2) rt_int)) (rb_test (rt_op2 os_eq (rt_cb cs_len (ra_cons (rt_var 1) ra_nil)) rt_int))) (rs_seq (rs_set 3 rt_int) (rs_seq (rs_for (ri_range1 (ra_cons rt_int ra_nil)) (rg_name 4) (rs_set 3 (rt_op2 os_add (rt_op2 os_mul (rt_var 3) rt_int) (rt_call [true, false] rfl (ra_cons (rt_var 0) (ra_cons rt_int ra_nil)))))) (rs_ret (rt_var 3)))) rs_next) (rs_ret (rt_cb cs_abs (ra_cons (rt_cb cs_int (ra_cons (rt_op2 os_ix (rt_var 1) (rt_call [true, false] rfl (ra_cons (rt_var 0) (ra_cons (rt_cb cs_len (ra_cons (rt_var 1) ra_nil)) ra_nil)))) ra_nil)) ra_nil)))))))⟩
theorem sc_law_same : FnScope NN_law_same PP_law_same (defScope S_law_same) := ⟨rfl, rfl, rfl, by decide +kernel, rfl, by decide +kernel, by decide +kernel⟩
theorem OK_law_same_n (X : Tx K mg base a_is_word a_is_row a_table_of a_is_fact a_law_draws a_law_take a_law_pick a_law_size a_law_same a_law_table a_law_is_word a_law_words a_law_strange a_law_any_value a_law_any_schema a_law_is_fact a_law_rekeyed a_law_changed_row a_law cc_is_word tt_is_word cc_is_row tt_is_row d_is_word d_is_row d_table_of d_is_fact d_law_draws d_law_take d_law_pick d_law_size d_law_same d_law_table d_law_is_word d_law_words d_law_strange d_law_any_value d_law_any_schema d_law_is_fact d_law_rekeyed d_law_changed_row d_law) : ∀ n : Nat, FnOk P w K mg base CX0 (0 + n) a_law_same d_law_same PP_law_same (spD K XR0 (List.length PP_law_same) (D_law_same_n n))
  | 0 => ⟨(fun vs H Q E h => by obtain ⟨_, _, _, _, z, _⟩ := h; cases z), (fun A outer s H args us vs Q E hr he hb hv h => by obtain ⟨_, _, _, _, z, _⟩ := h; cases z)⟩
  | n + 1 => by
    have OK_self := OK_law_same_n X n
    have nd := sc_law_same.nd
    refine fn_ok (N := NN_law_same) (ps := PP_law_same) (XR := XR0) (b := m_law_same (D_law_same_n n)) X.F_law_same sc_law_same fun cdv A outer s H E hr => ?_
    exact ⟨_, (pss_cons (ps_if (pt_truth (pe_callB call_isiT (by rfl) X.m_isinstance (by decide +kernel) (pa_cons (pv 1) (pa_cons (pe_tup (pa_cons (pe_bltn (v := .ty "tuple") (by rfl) X.m_tuple (by decide +kernel) rfl) (pa_cons (pe_bltn (v := .ty "list") (by rfl) X.m_list (by decide +kernel) rfl) pa_nil))) pa_nil))) (by intro _; rfl)) (pss_cons (ps_if (PW.pt (pw_or (pt_cmpR (op_neD (hu64 hr)) (pe_callB call_isi (by rfl) X.m_isinstance (by decide +kernel) (pa_cons (pv 0) (pa_cons (pe_bltn (v := .ty "tuple") (by rfl) X.m_tuple (by decide +kernel) rfl) pa_nil))) (pe_callB call_isi (by rfl) X.m_isinstance (by decide +kernel) (pa_cons (pv 1) (pa_cons (pe_bltn (v := .ty "tuple") (by rfl) X.m_tuple (by decide +kernel) rfl) pa_nil))) (nomark _)) (pw_or1 (pt_cmpR (op_neD (hu64 hr)) (pe_callB call_isi (by rfl) X.m_isinstance (by decide +kernel) (pa_cons (pv 0) (pa_cons (pe_bltn (v := .ty "list") (by rfl) X.m_list (by decide +kernel) rfl) pa_nil))) (pe_callB call_isi (by rfl) X.m_isinstance (by decide +kernel) (pa_cons (pv 1) (pa_cons (pe_bltn (v := .ty "list") (by rfl) X.m_list (by decide +kernel) rfl) pa_nil))) (nomark _))))) (pss_one (ps_ret pe_bl)) pss_nil) (pss_cons (ps_if (pt_cmpR (op_neD (hu64 hr)) (pe_callB call_lenX (by rfl) X.m_len (by decide +kernel) (pa_cons (pv 0) pa_nil)) (pe_callB call_lenX (by rfl) X.m_len (by decide +kernel) (pa_cons (pv 1) pa_nil)) (nomark _)) (pss_one (ps_ret pe_bl)) pss_nil) (pss_one (ps_ret (pe_cmpR (op_niX (hu65 hr)) pe_bl (pe_lc (own := [("k", 2)]) rfl nd (pi_range1 (by rfl) X.m_range (pa_cons (pe_callB call_lenX (by rfl) X.m_len (by decide +kernel) (pa_cons (pv 1) pa_nil)) pa_nil)) (blkOk_by (N := NN_law_same) (sc := defScope S_law_same) (by decide +kernel)) (fun _ _ _ _ _ => (pg_name (i := 2) nd rfl (by first | exact Or.inl rfl | exact Or.inr rfl))) (fun _ _ _ _ _ => pts_nil) (fun _ _ _ _ _ => (pe_call OK_self hr (by rfl) X.g_law_same X.F_law_same.kp X.B_law_same .nil pass0 (pa_cons (pe_ix ix_seq (pv 0) (pv 2) (fun _ _ => rfl)) (pa_cons (pe_ix ix_seq (pv 1) (pv 2) (fun _ _ => rfl)) pa_nil))))) (by rfl)))))) pss_nil) (pss_cons (ps_if (PW.pt (pw_or (pt_cmpR (op_neD (hu64 hr)) (pe_callB call_isi (by rfl) X.m_isinstance (by decide +kernel) (pa_cons (pv 0) (pa_cons (pe_bltn (v := .ty "bool") (by rfl) X.m_bool (by decide +kernel) rfl) pa_nil))) (pe_callB call_isi (by rfl) X.m_isinstance (by decide +kernel) (pa_cons (pv 1) (pa_cons (pe_bltn (v := .ty "bool") (by rfl) X.m_bool (by decide +kernel) rfl) pa_nil))) (nomark _)) (pw_or1 (pt_cmpR (op_neD (hu64 hr)) (pe_callB call_isi (by rfl) X.m_isinstance (by decide +kernel) (pa_cons (pv 0) (pa_cons (pe_bltn (v := .ty "int") (by rfl) X.m_int (by decide +kernel) rfl) pa_nil))) (pe_callB call_isi (by rfl) X.m_isinstance (by decide +kernel) (pa_cons (pv 1) (pa_cons (pe_bltn (v := .ty "int") (by rfl) X.m_int (by decide +kernel) rfl) pa_nil))) (nomark _))))) (pss_one (ps_ret pe_bl)) pss_nil) (pss_cons (ps_if (PW.pt (pw_or (pt_cmpR (op_neD (hu64 hr)) (pe_callB call_isi (by rfl) X.m_isinstance (by decide +kernel) (pa_cons (pv 0) (pa_cons (pe_bltn (v := .ty "str") (by rfl) X.m_str (by decide +kernel) rfl) pa_nil))) (pe_callB call_isi (by rfl) X.m_isinstance (by decide +kernel) (pa_cons (pv 1) (pa_cons (pe_bltn (v := .ty "str") (by rfl) X.m_str (by decide +kernel) rfl) pa_nil))) (nomark _)) (pw_or1 (pt_cmpR (op_neD (hu64 hr)) (pe_cmpR op_isN (pv 0) pe_non (nomark _)) (pe_cmpR op_isN (pv 1) pe_non (nomark _)) (nomark _))))) (pss_one (ps_ret pe_bl)) pss_nil) (pss_one (ps_ret (pe_cmpR (op_eqD (hu64 hr)) (pv 0) (pv 1) (nomark _))))))), (rs_seq (rs_if (rb_tru (rt_isi2 (rt_var 1))) (rs_seq (rs_if (rb_or (rb_test (rt_op2 os_ne (rt_isi (rt_var 0)) (rt_isi (rt_var 1)))) (rb_test (rt_op2 os_ne (rt_isi (rt_var 0)) (rt_isi (rt_var 1))))) (rs_ret rt_bl) rs_next) (rs_seq (rs_if (rb_test (rt_op2 os_ne (rt_cb cs_len (ra_cons (rt_var 0) ra_nil)) (rt_cb cs_len (ra_cons (rt_var 1) ra_nil)))) (rs_ret rt_bl) rs_next) (rs_ret (rt_op2 os_ni rt_bl (rt_lc (vs := [2]) (ri_range1 (ra_cons (rt_cb cs_len (ra_cons (rt_var 1) ra_nil)) ra_nil)) (rg_name 2) (by decide) rb_yes (rt_call [false, false] rfl (ra_cons (rt_op2 os_ix (rt_var 0) (rt_var 2)) (ra_cons (rt_op2 os_ix (rt_var 1) (rt_var 2)) ra_nil)))))))) rs_next) (rs_seq (rs_if (rb_or (rb_test (rt_op2 os_ne (rt_isi (rt_var 0)) (rt_isi (rt_var 1)))) (rb_test (rt_op2 os_ne (rt_isi (rt_var 0)) (rt_isi (rt_var 1))))) (rs_ret rt_bl) rs_next) (rs_seq (rs_if (rb_or (rb_test (rt_op2 os_ne (rt_isi (rt_var 0)) (rt_isi (rt_var 1)))) (rb_test (rt_op2 os_ne (rt_op2 os_isN (rt_var 0) rt_non) (rt_op2 os_isN (rt_var 1) rt_non)))) (rs_ret rt_bl) rs_next) (rs_ret (rt_op2 os_eq (rt_var 0) (rt_var 1))))))⟩
theorem OK_law_same (X : Tx K mg base a_is_word a_is_row a_table_of a_is_fact a_law_draws a_law_take a_law_pick a_law_size a_law_same a_law_table a_law_is_word a_law_words a_law_strange a_law_any_value a_law_any_schema a_law_is_fact a_law_rekeyed a_law_changed_row a_law cc_is_word tt_is_word cc_is_row tt_is_row d_is_word d_is_row d_table_of d_is_fact d_law_draws d_law_take d_law_pick d_law_size d_law_same d_law_table d_law_is_word d_law_words d_law_strange d_law_any_value d_law_any_schema d_law_is_fact d_law_rekeyed d_law_changed_row d_law) : FnOk P w K mg base CX0 13 a_law_same d_law_same PP_law_same (spD K XR0 (List.length PP_law_same) D_law_same) := (OK_law_same_n X 12).mono (by decide)
theorem sc_law_table : FnScope NN_law_table PP_law_table (defScope S_law_table) := ⟨rfl, rfl, rfl, by decide +kernel, rfl, by decide +kernel, by decide +kernel⟩
theorem OK_law_table (X : Tx K mg base a_is_word a_is_row a_table_of a_is_fact a_law_draws a_law_take a_law_pick a_law_size a_law_same a_law_table a_law_is_word a_law_words a_law_strange a_law_any_value a_law_any_schema a_law_is_fact a_law_rekeyed a_law_changed_row a_law cc_is_word tt_is_word cc_is_row tt_is_row d_is_word d_is_row d_table_of d_is_fact d_law_draws d_law_take d_law_pick d_law_size d_law_same d_law_table d_law_is_word d_law_words d_law_strange d_law_any_value d_law_any_schema d_law_is_fact d_law_rekeyed d_law_changed_row d_law) : FnOk P w K mg base CX0 1 a_law_table d_law_table PP_law_table (spD K XR0 (List.length PP_law_table) D_law_table) := by
  have nd := sc_law_table.nd
  refine fn_ok (N := NN_law_table) (ps := PP_law_table) (XR := XR0) (k := 0) (b := m_law_table) X.F_law_table sc_law_table fun cdv A outer s H E hr => ?_
  exact ⟨_, (pss_cons (ps_for PassesOwn.never rfl (pi_seq (pv 0)) (pg_name (i := 2) nd rfl (by first | exact Or.inl rfl | exact Or.inr rfl)) (pss_one (ps_if (pt_cmpR (op_eqD (hu64 hr)) (pe_ix ix_seq (pv 2) pe_int (fun _ _ => rfl)) (pv 1) (nomark _)) (pss_one (ps_ret (pv 2))) pss_nil))) (pss_one (ps_ret pe_non))), (rs_seq (rs_for (ri_seq (rt_var 0)) (rg_name 2) (rs_if (rb_test (rt_op2 os_eq (rt_op2 os_ix (rt_var 2) rt_int) (rt_var 1))) (rs_ret (rt_var 2)) rs_next)) (rs_ret rt_non))⟩
theorem sc_law_is_word : FnScope NN_law_is_word PP_law_is_word (defScope S_law_is_word) := ⟨rfl, rfl, rfl, by decide +kernel, rfl, by decide +kernel, by decide +kernel⟩
theorem OK_law_is_word (X : Tx K mg base a_is_word a_is_row a_table_of a_is_fact a_law_draws a_law_take a_law_pick a_law_size a_law_same a_law_table a_law_is_word a_law_words a_law_strange a_law_any_value a_law_any_schema a_law_is_fact a_law_rekeyed a_law_changed_row a_law cc_is_word tt_is_word cc_is_row tt_is_row d_is_word d_is_row d_table_of d_is_fact d_law_draws d_law_take d_law_pick d_law_size d_law_same d_law_table d_law_is_word d_law_words d_law_strange d_law_any_value d_law_any_schema d_law_is_fact d_law_rekeyed d_law_changed_row d_law) : FnOk P w K mg base CX0 1 a_law_is_word d_law_is_word PP_law_is_word (spD K XR0 (List.length PP_law_is_word) D_law_is_word) := by
  have nd := sc_law_is_word.nd
  refine fn_ok (N := NN_law_is_word) (ps := PP_law_is_word) (XR := XR0) (k := 0) (b := m_law_is_word) X.F_law_is_word sc_law_is_word fun cdv A outer s H E hr => ?_
  exact ⟨_, (pss_one (ps_ret (pe_and (pe_cmpR (op_neD (hu64 hr)) (pv 0) pe_str (nomark _)) (pe_one (pe_cmpR (op_eqD (hu64 hr)) (pe_callB call_lenX (by rfl) X.m_len (by decide +kernel) (pa_cons (pe_lc (own := [("char", 1)]) rfl nd (pi_seq (pv 0)) (blkOk_by (N := NN_law_is_word) (sc := defScope S_law_is_word) (by decide +kernel)) (fun _ _ _ _ _ => (pg_name (i := 1) nd rfl (by first | exact Or.inl rfl | exact Or.inr rfl))) (fun _ _ _ _ _ => (pts_one (pt_cmpR (op_niX (hu65 hr)) (pv 1) pe_str (by rfl)))) (fun _ _ _ _ _ => (pv 1))) pa_nil)) pe_int (nomark _)))))), (rs_ret (rt_andV (rt_op2 os_ne (rt_var 0) rt_str) (rt_op2 os_eq (rt_cb cs_len (ra_cons (rt_lc (vs := [1]) (ri_seq (rt_var 0)) (rg_name 1) (by decide) (rb_test (rt_op2 os_ni (rt_var 1) rt_str)) (rt_var 1)) ra_nil)) rt_int)))⟩
theorem sc_law_words : FnScope NN_law_words PP_law_words (defScope S_law_words) := ⟨rfl, rfl, rfl, by decide +kernel, rfl, by decide +kernel, by decide +kernel⟩
theorem OK_law_words (X : Tx K mg base a_is_word a_is_row a_table_of a_is_fact a_law_draws a_law_take a_law_pick a_law_size a_law_same a_law_table a_law_is_word a_law_words a_law_strange a_law_any_value a_law_any_schema a_law_is_fact a_law_rekeyed a_law_changed_row a_law cc_is_word tt_is_word cc_is_row tt_is_row d_is_word d_is_row d_table_of d_is_fact d_law_draws d_law_take d_law_pick d_law_size d_law_same d_law_table d_law_is_word d_law_words d_law_strange d_law_any_value d_law_any_schema d_law_is_fact d_law_rekeyed d_law_changed_row d_law) : FnOk P w K mg base CX0 3 a_law_words d_law_words PP_law_words (spD K XR0 (List.length PP_law_words) D_law_words) := by
  have OK_law_take := (OK_law_take (P := P) (w := w) (base := base) X).mono (show 1 ≤ 2 by decide)
  have OK_law_pick := (OK_law_pick (P := P) (w := w) (base := base) X).mono (show 2 ≤ 2 by decide)
  have nd := sc_law_words.nd
  refine fn_ok (N := NN_law_words) (ps := PP_law_words) (XR := XR0) (k := 2) (b := m_law_words) X.F_law_words sc_law_words fun cdv A outer s H E hr => ?_
  exact ⟨_, (pss_cons (ps_set (i := 2) nd rfl (by first | exact Or.inl rfl | exact Or.inr rfl) (pe_lst pa_nil)) (pss_cons (ps_for PassesOwn.never rfl (pi_range1 (by rfl) X.m_range (pa_cons (pv 1) pa_nil)) (pg_name (i := 3) nd rfl (by first | exact Or.inl rfl | exact Or.inr rfl)) (pss_cons (ps_set (i := 4) nd rfl (by first | exact Or.inl rfl | exact Or.inr rfl) (pe_op op_addD pe_int (pe_call OK_law_take hr (by rfl) X.g_law_take X.F_law_take.kp X.B_law_take .nil pass0 (pa_cons (pv 0) (pa_cons pe_int pa_nil))))) (pss_cons (ps_if (pt_cmpR (op_eqD (hu64 hr)) (pe_call OK_law_take hr (by rfl) X.g_law_take X.F_law_take.kp X.B_law_take .nil pass0 (pa_cons (pv 0) (pa_cons pe_int pa_nil))) pe_int (nomark _)) (pss_one (ps_set (i := 4) nd rfl (by first | exact Or.inl rfl | exact Or.inr rfl) (pe_op op_addD (pe_op op_addD (pv 4) pe_int) (pe_call OK_law_take hr (by rfl) X.g_law_take X.F_law_take.kp X.B_law_take .nil pass0 (pa_cons (pv 0) (pa_cons pe_int pa_nil)))))) pss_nil) (pss_cons (ps_set (i := 5) nd rfl (by first | exact Or.inl rfl | exact Or.inr rfl) (pe_bm PySem.F.plainAttrs_str PySem.F.slot_str_join PySem.F.type_str_join mt_joinX pe_str (pa_cons (pe_lc (own := [("j", 6)]) rfl nd (pi_range1 (by rfl) X.m_range (pa_cons (pv 4) pa_nil)) (blkOk_by (N := NN_law_words) (sc := defScope S_law_words) (by decide +kernel)) (fun _ _ _ _ _ => (pg_name (i := 6) nd rfl (by first | exact Or.inl rfl | exact Or.inr rfl))) (fun _ _ _ _ _ => pts_nil) (fun _ _ _ _ _ => (pe_ix ix_seq pe_str (pe_call OK_law_take hr (by rfl) X.g_law_take X.F_law_take.kp X.B_law_take .nil pass0 (pa_cons (pv 0) (pa_cons pe_int pa_nil))) (fun _ _ => rfl)))) pa_nil))) (pss_cons (ps_if (PW.pt (pw_and (pt_cmpR op_gtI (pe_callB call_lenX (by rfl) X.m_len (by decide +kernel) (pa_cons (pv 2) pa_nil)) pe_int (nomark _)) (pw_and1 (pt_cmpR (op_eqD (hu64 hr)) (pe_call OK_law_take hr (by rfl) X.g_law_take X.F_law_take.kp X.B_law_take .nil pass0 (pa_cons (pv 0) (pa_cons pe_int pa_nil))) pe_int (nomark _))))) (pss_one (ps_set (i := 5) nd rfl (by first | exact Or.inl rfl | exact Or.inr rfl) (pe_op op_addD (pe_call OK_law_pick hr (by rfl) X.g_law_pick X.F_law_pick.kp X.B_law_pick .nil pass0 (pa_cons (pv 0) (pa_cons (pv 2) pa_nil))) (pe_ix ix_seq pe_str (pe_call OK_law_take hr (by rfl) X.g_law_take X.F_law_take.kp X.B_law_take .nil pass0 (pa_cons (pv 0) (pa_cons pe_int pa_nil))) (fun _ _ => rfl))))) pss_nil) (pss_cons (ps_if (pt_cmpR (op_inX (hu65 hr)) (pv 5) (pv 2) (by rfl)) (pss_one (ps_set (i := 5) nd rfl (by first | exact Or.inl rfl | exact Or.inr rfl) (pe_op op_mulD pe_str (pe_op op_addD pe_int (pe_callB (call_maxX rfl) (by rfl) X.m_max (by decide +kernel) (pa_cons (pe_lc (own := [("other", 7)]) rfl nd (pi_seq (pv 2)) (blkOk_by (N := NN_law_words) (sc := defScope S_law_words) (by decide +kernel)) (fun _ _ _ _ _ => (pg_name (i := 7) nd rfl (by first | exact Or.inl rfl | exact Or.inr rfl))) (fun _ _ _ _ _ => pts_nil) (fun _ _ _ _ _ => (pe_callB call_lenX (by rfl) X.m_len (by decide +kernel) (pa_cons (pv 7) pa_nil)))) pa_nil)))))) pss_nil) (pss_one (ps_expr (pe_bm PySem.F.plainAttrs_list PySem.F.slot_list_append PySem.F.type_list_append mt_append (pv 2) (pa_cons (pv 5) pa_nil)))))))))) (pss_one (ps_ret (pv 2))))), (rs_seq (rs_set 2 (rt_lst ra_nil)) (rs_seq (rs_for (ri_range1 (ra_cons (rt_var 1) ra_nil)) (rg_name 3) (rs_seq (rs_set 4 (rt_op2 os_add rt_int (rt_call [true, false] rfl (ra_cons (rt_var 0) (ra_cons rt_int ra_nil))))) (rs_seq (rs_if (rb_test (rt_op2 os_eq (rt_call [true, false] rfl (ra_cons (rt_var 0) (ra_cons rt_int ra_nil))) rt_int)) (rs_set 4 (rt_op2 os_add (rt_op2 os_add (rt_var 4) rt_int) (rt_call [true, false] rfl (ra_cons (rt_var 0) (ra_cons rt_int ra_nil))))) rs_next) (rs_seq (rs_set 5 (rt_mth me_join rt_str (ra_cons (rt_lc (vs := [6]) (ri_range1 (ra_cons (rt_var 4) ra_nil)) (rg_name 6) (by decide) rb_yes (rt_op2 os_ix rt_str (rt_call [true, false] rfl (ra_cons (rt_var 0) (ra_cons rt_int ra_nil))))) ra_nil))) (rs_seq (rs_if (rb_and (rb_test (rt_op2 os_cmpI (rt_cb cs_len (ra_cons (rt_var 2) ra_nil)) rt_int)) (rb_test (rt_op2 os_eq (rt_call [true, false] rfl (ra_cons (rt_var 0) (ra_cons rt_int ra_nil))) rt_int))) (rs_set 5 (rt_op2 os_add (rt_call [true, false] rfl (ra_cons (rt_var 0) (ra_cons (rt_var 2) ra_nil))) (rt_op2 os_ix rt_str (rt_call [true, false] rfl (ra_cons (rt_var 0) (ra_cons rt_int ra_nil)))))) rs_next) (rs_seq (rs_if (rb_test (rt_op2 os_in (rt_var 5) (rt_var 2))) (rs_set 5 (rt_op2 os_mul rt_str (rt_op2 os_add rt_int (rt_cb cs_max (ra_cons (rt_lc (vs := [7]) (ri_seq (rt_var 2)) (rg_name 7) (by decide) rb_yes (rt_cb cs_len (ra_cons (rt_var 7) ra_nil))) ra_nil))))) rs_next) (rs_drop (rt_mut 2 ms_append (ra_cons (rt_var 5) ra_nil))))))))) (rs_ret (rt_var 2))))⟩
theorem sc_law_strange : FnScope NN_law_strange PP_law_strange (defScope S_law_strange) := ⟨rfl, rfl, rfl, by decide +kernel, rfl, by decide +kernel, by decide +kernel⟩
theorem OK_law_strange (X : Tx K mg base a_is_word a_is_row a_table_of a_is_fact a_law_draws a_law_take a_law_pick a_law_size a_law_same a_law_table a_law_is_word a_law_words a_law_strange a_law_any_value a_law_any_schema a_law_is_fact a_law_rekeyed a_law_changed_row a_law cc_is_word tt_is_word cc_is_row tt_is_row d_is_word d_is_row d_table_of d_is_fact d_law_draws d_law_take d_law_pick d_law_size d_law_same d_law_table d_law_is_word d_law_words d_law_strange d_law_any_value d_law_any_schema d_law_is_fact d_law_rekeyed d_law_changed_row d_law) : FnOk P w K mg base CX0 3 a_law_strange d_law_strange PP_law_strange (spD K XR0 (List.length PP_law_strange) D_law_strange) := by
  have OK_law_take := (OK_law_take (P := P) (w := w) (base := base) X).mono (show 1 ≤ 2 by decide)
  have OK_law_pick := (OK_law_pick (P := P) (w := w) (base := base) X).mono (show 2 ≤ 2 by decide)
  have nd := sc_law_strange.nd
  refine fn_ok (N := NN_law_strange) (ps := PP_law_strange) (XR := XR0) (k := 2) (b := m_law_strange) X.F_law_strange sc_law_strange fun cdv A outer s H E hr => ?_
  exact ⟨_, (pss_cons (ps_set (i := 2) nd rfl (by first | exact Or.inl rfl | exact Or.inr rfl) (pe_call OK_law_pick hr (by rfl) X.g_law_pick X.F_law_pick.kp X.B_law_pick .nil pass0 (pa_cons (pv 0) (pa_cons (pe_lst (pa_cons pe_str (pa_cons pe_str (pa_cons pe_str (pa_cons pe_str (pa_cons pe_str (pa_cons pe_str (pa_cons pe_str (pa_cons pe_str (pa_cons pe_str (pa_cons pe_str (pa_cons pe_str (pa_cons pe_str (pa_cons pe_str (pa_cons pe_str (pa_cons pe_str pa_nil)))))))))))))))) pa_nil)))) (pss_cons (ps_set (i := 3) nd rfl (by first | exact Or.inl rfl | exact Or.inr rfl) (pe_call OK_law_take hr (by rfl) X.g_law_take X.F_law_take.kp X.B_law_take .nil pass0 (pa_cons (pv 0) (pa_cons (pe_op op_addD (pe_callB call_lenX (by rfl) X.m_len (by decide +kernel) (pa_cons (pv 1) pa_nil)) pe_int) pa_nil)))) (pss_one (ps_ret (pe_ix ix_seq (pe_lst (pa_cons pe_str (pa_cons (pe_op op_addD (pe_op op_addD (pe_slice sl_X (pv 1) po_none (po_some (pv 3))) (pv 2)) (pe_slice sl_X (pv 1) (po_some (pv 3)) po_none)) pa_nil))) (pe_callTy call_intX (by rfl) X.m_int (by decide +kernel) (pa_cons (pe_cmpR op_gtI (pe_call OK_law_take hr (by rfl) X.g_law_take X.F_law_take.kp X.B_law_take .nil pass0 (pa_cons (pv 0) (pa_cons pe_int pa_nil))) pe_int (nomark _)) pa_nil)) (fun _ _ => rfl)))))), (rs_seq (rs_set 2 (rt_call [true, false] rfl (ra_cons (rt_var 0) (ra_cons (rt_lst (ra_cons rt_str (ra_cons rt_str (ra_cons rt_str (ra_cons rt_str (ra_cons rt_str (ra_cons rt_str (ra_cons rt_str (ra_cons rt_str (ra_cons rt_str (ra_cons rt_str (ra_cons rt_str (ra_cons rt_str (ra_cons rt_str (ra_cons rt_str (ra_cons rt_str ra_nil)))))))))))))))) ra_nil)))) (rs_seq (rs_set 3 (rt_call [true, false] rfl (ra_cons (rt_var 0) (ra_cons (rt_op2 os_add (rt_cb cs_len (ra_cons (rt_var 1) ra_nil)) rt_int) ra_nil)))) (rs_ret (rt_op2 os_ix (rt_lst (ra_cons rt_str (ra_cons (rt_op2 os_add (rt_op2 os_add (rt_sl (rt_var 1) ro_none (ro_some (rt_var 3))) (rt_var 2)) (rt_sl (rt_var 1) (ro_some (rt_var 3)) ro_none)) ra_nil))) (rt_cb cs_int (ra_cons (rt_op2 os_cmpI (rt_call [true, false] rfl (ra_cons (rt_var 0) (ra_cons rt_int ra_nil))) rt_int) ra_nil))))))⟩
theorem sc_law_any_value : FnScope NN_law_any_value PP_law_any_value (defScope S_law_any_value) := ⟨rfl, rfl, rfl, by decide +kernel, rfl, by decide +kernel, by decide +kernel⟩
theorem OK_law_any_value (X : Tx K mg base a_is_word a_is_row a_table_of a_is_fact a_law_draws a_law_take a_law_pick a_law_size a_law_same a_law_table a_law_is_word a_law_words a_law_strange a_law_any_value a_law_any_schema a_law_is_fact a_law_rekeyed a_law_changed_row a_law cc_is_word tt_is_word cc_is_row tt_is_row d_is_word d_is_row d_table_of d_is_fact d_law_draws d_law_take d_law_pick d_law_size d_law_same d_law_table d_law_is_word d_law_words d_law_strange d_law_any_value d_law_any_schema d_law_is_fact d_law_rekeyed d_law_changed_row d_law) : FnOk P w K mg base CX0 3 a_law_any_value d_law_any_value PP_law_any_value (spD K XR0 (List.length PP_law_any_value) D_law_any_value) := by
  have OK_law_take := (OK_law_take (P := P) (w := w) (base := base) X).mono (show 1 ≤ 2 by decide)
  have OK_law_pick := (OK_law_pick (P := P) (w := w) (base := base) X).mono (show 2 ≤ 2 by decide)
  have OK_law_size := (OK_law_size (P := P) (w := w) (base := base) X).mono (show 2 ≤ 2 by decide)
  have nd := sc_law_any_value.nd
  refine fn_ok (N := NN_law_any_value) (ps := PP_law_any_value) (XR := XR0) (k := 2) (b := m_law_any_value) X.F_law_any_value sc_law_any_value fun cdv A outer s H E hr => ?_
  exact ⟨_, (pss_cons (ps_if (pt_cmpR (op_eqD (hu64 hr)) (pe_call OK_law_take hr (by rfl) X.g_law_take X.F_law_take.kp X.B_law_take .nil pass0 (pa_cons (pv 0) (pa_cons pe_int pa_nil))) pe_int (nomark _)) (pss_one (ps_ret (pe_call OK_law_pick hr (by rfl) X.g_law_pick X.F_law_pick.kp X.B_law_pick .nil pass0 (pa_cons (pv 0) (pa_cons (pv 2) pa_nil))))) pss_nil) (pss_one (ps_ret (pe_op op_mulD (pe_call OK_law_size hr (by rfl) X.g_law_size X.F_law_size.kp X.B_law_size .nil pass0 (pa_cons (pv 0) (pa_cons (pv 1) pa_nil))) (pe_op op_sub pe_int (pe_op op_mulD pe_int (pe_call OK_law_take hr (by rfl) X.g_law_take X.F_law_take.kp X.B_law_take .nil pass0 (pa_cons (pv 0) (pa_cons pe_int pa_nil))))))))), (rs_seq (rs_if (rb_test (rt_op2 os_eq (rt_call [true, false] rfl (ra_cons (rt_var 0) (ra_cons rt_int ra_nil))) rt_int)) (rs_ret (rt_call [true, false] rfl (ra_cons (rt_var 0) (ra_cons (rt_var 2) ra_nil)))) rs_next) (rs_ret (rt_op2 os_mul (rt_call [true, false] rfl (ra_cons (rt_var 0) (ra_cons (rt_var 1) ra_nil))) (rt_op2 os_sub rt_int (rt_op2 os_mul rt_int (rt_call [true, false] rfl (ra_cons (rt_var 0) (ra_cons rt_int ra_nil))))))))⟩
theorem sc_law_any_schema : FnScope NN_law_any_schema PP_law_any_schema (defScope S_law_any_schema) := ⟨rfl, rfl, rfl, by decide +kernel, rfl, by decide +kernel, by decide +kernel⟩
theorem OK_law_any_schema (X : Tx K mg base a_is_word a_is_row a_table_of a_is_fact a_law_draws a_law_take a_law_pick a_law_size a_law_same a_law_table a_law_is_word a_law_words a_law_strange a_law_any_value a_law_any_schema a_law_is_fact a_law_rekeyed a_law_changed_row a_law cc_is_word tt_is_word cc_is_row tt_is_row d_is_word d_is_row d_table_of d_is_fact d_law_draws d_law_take d_law_pick d_law_size d_law_same d_law_table d_law_is_word d_law_words d_law_strange d_law_any_value d_law_any_schema d_law_is_fact d_law_rekeyed d_law_changed_row d_law) : FnOk P w K mg base CX0 2 a_law_any_schema d_law_any_schema PP_law_any_schema (spD K XR0 (List.length PP_law_any_schema) D_law_any_schema) := by
  have OK_law_take := (OK_law_take (P := P) (w := w) (base := base) X).mono (show 1 ≤ 1 by decide)
  have nd := sc_law_any_schema.nd
  refine fn_ok (N := NN_law_any_schema) (ps := PP_law_any_schema) (XR := XR0) (k := 1) (b := m_law_any_schema) X.F_law_any_schema sc_law_any_schema fun cdv A outer s H E hr => ?_
  exact ⟨_, (pss_cons (ps_set (i := 2) nd rfl (by first | exact Or.inl rfl | exact Or.inr rfl) (pe_op op_addD pe_int (pe_call OK_law_take hr (by rfl) X.g_law_take X.F_law_take.kp X.B_law_take .nil pass0 (pa_cons (pv 0) (pa_cons pe_int pa_nil))))) (pss_cons (ps_if (pt_cmpR (op_eqD (hu64 hr)) (pe_call OK_law_take hr (by rfl) X.g_law_take X.F_law_take.kp X.B_law_take .nil pass0 (pa_cons (pv 0) (pa_cons pe_int pa_nil))) pe_int (nomark _)) (pss_one (ps_set (i := 2) nd rfl (by first | exact Or.inl rfl | exact Or.inr rfl) (pe_call OK_law_take hr (by rfl) X.g_law_take X.F_law_take.kp X.B_law_take .nil pass0 (pa_cons (pv 0) (pa_cons pe_int pa_nil))))) pss_nil) (pss_cons (ps_set (i := 3) nd rfl (by first | exact Or.inl rfl | exact Or.inr rfl) (pe_lst pa_nil)) (pss_cons (ps_for PassesOwn.never rfl (pi_seq (pe_callB cr_sortedS (by rfl) X.m_sorted (by decide +kernel) (pa_cons (pe_slice sl_X (pv 1) po_none (po_some (pv 2))) pa_nil))) (pg_name (i := 4) nd rfl (by first | exact Or.inl rfl | exact Or.inr rfl)) (pss_cons (ps_set (i := 5) nd rfl (by first | exact Or.inl rfl | exact Or.inr rfl) (pe_call OK_law_take hr (by rfl) X.g_law_take X.F_law_take.kp X.B_law_take .nil pass0 (pa_cons (pv 0) (pa_cons pe_int pa_nil)))) (pss_cons (ps_set (i := 6) nd rfl (by first | exact Or.inl rfl | exact Or.inr rfl) (pe_call OK_law_take hr (by rfl) X.g_law_take X.F_law_take.kp X.B_law_take .nil pass0 (pa_cons (pv 0) (pa_cons pe_int pa_nil)))) (pss_cons (ps_if (pt_cmpR (op_eqD (hu64 hr)) (pe_call OK_law_take hr (by rfl) X.g_law_take X.F_law_take.kp X.B_law_take .nil pass0 (pa_cons (pv 0) (pa_cons pe_int pa_nil))) pe_int (nomark _)) (pss_cons (ps_set (i := 5) nd rfl (by first | exact Or.inl rfl | exact Or.inr rfl) (pe_call OK_law_take hr (by rfl) X.g_law_take X.F_law_take.kp X.B_law_take .nil pass0 (pa_cons (pv 0) (pa_cons pe_int pa_nil)))) (pss_one (ps_set (i := 6) nd rfl (by first | exact Or.inl rfl | exact Or.inr rfl) (pe_op op_sub pe_int (pv 5))))) pss_nil) (pss_one (ps_expr (pe_bm PySem.F.plainAttrs_list PySem.F.slot_list_append PySem.F.type_list_append mt_append (pv 3) (pa_cons (pe_tupN (pa_cons (pv 4) (pa_cons (pv 5) (pa_cons (pv 6) pa_nil)))) pa_nil)))))))) (pss_one (ps_ret (pe_callTy call_tupX (by rfl) X.m_tuple (by decide +kernel) (pa_cons (pv 3) pa_nil)))))))), (rs_seq (rs_set 2 (rt_op2 os_add rt_int (rt_call [true, false] rfl (ra_cons (rt_var 0) (ra_cons rt_int ra_nil))))) (rs_seq (rs_if (rb_test (rt_op2 os_eq (rt_call [true, false] rfl (ra_cons (rt_var 0) (ra_cons rt_int ra_nil))) rt_int)) (rs_set 2 (rt_call [true, false] rfl (ra_cons (rt_var 0) (ra_cons rt_int ra_nil)))) rs_next) (rs_seq (rs_set 3 (rt_lst ra_nil)) (rs_seq (rs_for (ri_seq (rt_cb cs_sortS (ra_cons (rt_sl (rt_var 1) ro_none (ro_some (rt_var 2))) ra_nil))) (rg_name 4) (rs_seq (rs_set 5 (rt_call [true, false] rfl (ra_cons (rt_var 0) (ra_cons rt_int ra_nil)))) (rs_seq (rs_set 6 (rt_call [true, false] rfl (ra_cons (rt_var 0) (ra_cons rt_int ra_nil)))) (rs_seq (rs_if (rb_test (rt_op2 os_eq (rt_call [true, false] rfl (ra_cons (rt_var 0) (ra_cons rt_int ra_nil))) rt_int)) (rs_seq (rs_set 5 (rt_call [true, false] rfl (ra_cons (rt_var 0) (ra_cons rt_int ra_nil)))) (rs_set 6 (rt_op2 os_sub rt_int (rt_var 5)))) rs_next) (rs_drop (rt_mut 3 ms_append (ra_cons (rt_tup (ra_cons (rt_var 4) (ra_cons (rt_var 5) (ra_cons (rt_var 6) ra_nil)))) ra_nil))))))) (rs_ret (rt_cb cs_tuple (ra_cons (rt_var 3) ra_nil)))))))⟩
theorem sc_law_is_fact : FnScope NN_law_is_fact PP_law_is_fact (defScope S_law_is_fact) := ⟨rfl, rfl, rfl, by decide +kernel, rfl, by decide +kernel, by decide +kernel⟩
theorem OK_law_is_fact (X : Tx K mg base a_is_word a_is_row a_table_of a_is_fact a_law_draws a_law_take a_law_pick a_law_size a_law_same a_law_table a_law_is_word a_law_words a_law_strange a_law_any_value a_law_any_schema a_law_is_fact a_law_rekeyed a_law_changed_row a_law cc_is_word tt_is_word cc_is_row tt_is_row d_is_word d_is_row d_table_of d_is_fact d_law_draws d_law_take d_law_pick d_law_size d_law_same d_law_table d_law_is_word d_law_words d_law_strange d_law_any_value d_law_any_schema d_law_is_fact d_law_rekeyed d_law_changed_row d_law) : FnOk P w K mg base CX0 2 a_law_is_fact d_law_is_fact PP_law_is_fact (spD K XR0 (List.length PP_law_is_fact) D_law_is_fact) := by
  have OK_law_table := (OK_law_table (P := P) (w := w) (base := base) X).mono (show 1 ≤ 1 by decide)
  have OK_law_is_word := (OK_law_is_word (P := P) (w := w) (base := base) X).mono (show 1 ≤ 1 by decide)
  have nd := sc_law_is_fact.nd
  refine fn_ok (N := NN_law_is_fact) (ps := PP_law_is_fact) (XR := XR0) (k := 1) (b := m_law_is_fact) X.F_law_is_fact sc_law_is_fact fun cdv A outer s H E hr => ?_
  exact ⟨_, (pss_cons (ps_set (i := 3) nd rfl (by first | exact Or.inl rfl | exact Or.inr rfl) (pe_call OK_law_table hr (by rfl) X.g_law_table X.F_law_table.kp X.B_law_table .nil pass0 (pa_cons (pv 0) (pa_cons (pv 1) pa_nil)))) (pss_cons (ps_if (PW.pt (pw_or (pt_cmpR op_isN (pv 3) pe_non (nomark _)) (pw_or1 (pt_cmpR (op_neD (hu64 hr)) (pe_callB call_lenX (by rfl) X.m_len (by decide +kernel) (pa_cons (pv 2) pa_nil)) (pe_op op_addD (pe_ix ix_seq (pv 3) pe_int (fun _ _ => rfl)) (pe_ix ix_seq (pv 3) pe_int (fun _ _ => rfl))) (nomark _))))) (pss_one (ps_ret pe_bl)) pss_nil) (pss_one (ps_ret (pe_cmpR (op_eqD (hu64 hr)) (pe_callB call_lenX (by rfl) X.m_len (by decide +kernel) (pa_cons (pe_lc (own := [("value", 4)]) rfl nd (pi_seq (pv 2)) (blkOk_by (N := NN_law_is_fact) (sc := defScope S_law_is_fact) (by decide +kernel)) (fun _ _ _ _ _ => (pg_name (i := 4) nd rfl (by first | exact Or.inl rfl | exact Or.inr rfl))) (fun _ _ _ _ _ => (pts_one (PW.pt (pw_and (pt_truth (pe_callB call_isi (by rfl) X.m_isinstance (by decide +kernel) (pa_cons (pv 4) (pa_cons (pe_bltn (v := .ty "str") (by rfl) X.m_str (by decide +kernel) rfl) pa_nil))) (by intro _; rfl)) (pw_and1 (pt_not (pt_truth (pe_call OK_law_is_word hr (by rfl) X.g_law_is_word X.F_law_is_word.kp X.B_law_is_word .nil pass0 (pa_cons (pv 4) pa_nil)) (by intro _; rfl)))))))) (fun _ _ _ _ _ => (pv 4))) pa_nil)) pe_int (nomark _)))))), (rs_seq (rs_set 3 (rt_call [false, false] rfl (ra_cons (rt_var 0) (ra_cons (rt_var 1) ra_nil)))) (rs_seq (rs_if (rb_or (rb_test (rt_op2 os_isN (rt_var 3) rt_non)) (rb_test (rt_op2 os_ne (rt_cb cs_len (ra_cons (rt_var 2) ra_nil)) (rt_op2 os_add (rt_op2 os_ix (rt_var 3) rt_int) (rt_op2 os_ix (rt_var 3) rt_int))))) (rs_ret rt_bl) rs_next) (rs_ret (rt_op2 os_eq (rt_cb cs_len (ra_cons (rt_lc (vs := [4]) (ri_seq (rt_var 2)) (rg_name 4) (by decide) (rb_and (rb_tru (rt_isi (rt_var 4))) (rb_not (rb_tru (rt_call [false] rfl (ra_cons (rt_var 4) ra_nil))))) (rt_var 4)) ra_nil)) rt_int))))⟩
theorem sc_law_rekeyed : FnScope NN_law_rekeyed PP_law_rekeyed (defScope S_law_rekeyed) := ⟨rfl, rfl, rfl, by decide +kernel, rfl, by decide +kernel, by decide +kernel⟩
theorem OK_law_rekeyed (X : Tx K mg base a_is_word a_is_row a_table_of a_is_fact a_law_draws a_law_take a_law_pick a_law_size a_law_same a_law_table a_law_is_word a_law_words a_law_strange a_law_any_value a_law_any_schema a_law_is_fact a_law_rekeyed a_law_changed_row a_law cc_is_word tt_is_word cc_is_row tt_is_row d_is_word d_is_row d_table_of d_is_fact d_law_draws d_law_take d_law_pick d_law_size d_law_same d_law_table d_law_is_word d_law_words d_law_strange d_law_any_value d_law_any_schema d_law_is_fact d_law_rekeyed d_law_changed_row d_law) : FnOk P w K mg base CX0 2 a_law_rekeyed d_law_rekeyed PP_law_rekeyed (spD K XR0 (List.length PP_law_rekeyed) D_law_rekeyed) := by
  have OK_law_take := (OK_law_take (P := P) (w := w) (base := base) X).mono (show 1 ≤ 1 by decide)
  have nd := sc_law_rekeyed.nd
  refine fn_ok (N := NN_law_rekeyed) (ps := PP_law_rekeyed) (XR := XR0) (k := 1) (b := m_law_rekeyed) X.F_law_rekeyed sc_law_rekeyed fun cdv A outer s H E hr => ?_
  exact ⟨_, (pss_cons (ps_set (i := 2) nd rfl (by first | exact Or.inl rfl | exact Or.inr rfl) (pe_lst pa_nil)) (pss_cons (ps_for PassesOwn.never rfl (pi_seq (pv 1)) (pg_name (i := 3) nd rfl (by first | exact Or.inl rfl | exact Or.inr rfl)) (pss_cons (ps_set (i := 4) nd rfl (by first | exact Or.inl rfl | exact Or.inr rfl) (pe_op op_sub (pe_call OK_law_take hr (by rfl) X.g_law_take X.F_law_take.kp X.B_law_take .nil pass0 (pa_cons (pv 0) (pa_cons pe_int pa_nil))) pe_int)) (pss_cons (ps_if (PW.pt (pw_or (pt_cmpR op_ltD (pe_op op_addD (pe_ix ix_seq (pv 3) pe_int (fun _ _ => rfl)) (pv 4)) pe_int (nomark _)) (pw_or1 (pt_cmpR op_ltD (pe_op op_sub (pe_ix ix_seq (pv 3) pe_int (fun _ _ => rfl)) (pv 4)) pe_int (nomark _))))) (pss_one (ps_set (i := 4) nd rfl (by first | exact Or.inl rfl | exact Or.inr rfl) pe_int)) pss_nil) (pss_one (ps_expr (pe_bm PySem.F.plainAttrs_list PySem.F.slot_list_append PySem.F.type_list_append mt_append (pv 2) (pa_cons (pe_tupN (pa_cons (pe_ix ix_seq (pv 3) pe_int (fun _ _ => rfl)) (pa_cons (pe_op op_addD (pe_ix ix_seq (pv 3) pe_int (fun _ _ => rfl)) (pv 4)) (pa_cons (pe_op op_sub (pe_ix ix_seq (pv 3) pe_int (fun _ _ => rfl)) (pv 4)) pa_nil)))) pa_nil))))))) (pss_one (ps_ret (pe_callTy call_tupX (by rfl) X.m_tuple (by decide +kernel) (pa_cons (pv 2) pa_nil)))))), (rs_seq (rs_set 2 (rt_lst ra_nil)) (rs_seq (rs_for (ri_seq (rt_var 1)) (rg_name 3) (rs_seq (rs_set 4 (rt_op2 os_sub (rt_call [true, false] rfl (ra_cons (rt_var 0) (ra_cons rt_int ra_nil))) rt_int)) (rs_seq (rs_if (rb_or (rb_test (rt_op2 os_lt (rt_op2 os_add (rt_op2 os_ix (rt_var 3) rt_int) (rt_var 4)) rt_int)) (rb_test (rt_op2 os_lt (rt_op2 os_sub (rt_op2 os_ix (rt_var 3) rt_int) (rt_var 4)) rt_int))) (rs_set 4 rt_int) rs_next) (rs_drop (rt_mut 2 ms_append (ra_cons (rt_tup (ra_cons (rt_op2 os_ix (rt_var 3) rt_int) (ra_cons (rt_op2 os_add (rt_op2 os_ix (rt_var 3) rt_int) (rt_var 4)) (ra_cons (rt_op2 os_sub (rt_op2 os_ix (rt_var 3) rt_int) (rt_var 4)) ra_nil)))) ra_nil)))))) (rs_ret (rt_cb cs_tuple (ra_cons (rt_var 2) ra_nil)))))⟩
theorem sc_law_changed_row : FnScope NN_law_changed_row PP_law_changed_row (defScope S_law_changed_row) := ⟨rfl, rfl, rfl, by decide +kernel, rfl, by decide +kernel, by decide +kernel⟩
theorem OK_law_changed_row (X : Tx K mg base a_is_word a_is_row a_table_of a_is_fact a_law_draws a_law_take a_law_pick a_law_size a_law_same a_law_table a_law_is_word a_law_words a_law_strange a_law_any_value a_law_any_schema a_law_is_fact a_law_rekeyed a_law_changed_row a_law cc_is_word tt_is_word cc_is_row tt_is_row d_is_word d_is_row d_table_of d_is_fact d_law_draws d_law_take d_law_pick d_law_size d_law_same d_law_table d_law_is_word d_law_words d_law_strange d_law_any_value d_law_any_schema d_law_is_fact d_law_rekeyed d_law_changed_row d_law) : FnOk P w K mg base CX0 4 a_law_changed_row d_law_changed_row PP_law_changed_row (spD K XR0 (List.length PP_law_changed_row) D_law_changed_row) := by
  have OK_law_take := (OK_law_take (P := P) (w := w) (base := base) X).mono (show 1 ≤ 3 by decide)
  have OK_law_strange := (OK_law_strange (P := P) (w := w) (base := base) X).mono (show 3 ≤ 3 by decide)
  have OK_law_any_value := (OK_law_any_value (P := P) (w := w) (base := base) X).mono (show 3 ≤ 3 by decide)
  have nd := sc_law_changed_row.nd
  refine fn_ok (N := NN_law_changed_row) (ps := PP_law_changed_row) (XR := XR0) (k := 3) (b := m_law_changed_row) X.F_law_changed_row sc_law_changed_row fun cdv A outer s H E hr => ?_
  exact ⟨_, (pss_cons (ps_set (i := 2) nd rfl (by first | exact Or.inl rfl | exact Or.inr rfl) (pe_callTy call_listX (by rfl) X.m_list (by decide +kernel) (pa_cons (pv 2) pa_nil))) (pss_cons (ps_set (i := 4) nd rfl (by first | exact Or.inl rfl | exact Or.inr rfl) (pe_call OK_law_take hr (by rfl) X.g_law_take X.F_law_take.kp X.B_law_take .nil pass0 (pa_cons (pv 0) (pa_cons pe_int pa_nil)))) (pss_cons (ps_if (PW.pt (pw_and (pt_cmpR (op_eqD (hu64 hr)) (pv 4) pe_int (nomark _)) (pw_and1 (pt_cmpR op_gtI (pe_callB call_lenX (by rfl) X.m_len (by decide +kernel) (pa_cons (pv 2) pa_nil)) pe_int (nomark _))))) (pss_one (ps_expr (pe_bm PySem.F.plainAttrs_list PySem.F.slot_list_pop PySem.F.type_list_pop mt_popX (pv 2) (pa_cons (pe_call OK_law_take hr (by rfl) X.g_law_take X.F_law_take.kp X.B_law_take .nil pass0 (pa_cons (pv 0) (pa_cons (pe_callB call_lenX (by rfl) X.m_len (by decide +kernel) (pa_cons (pv 2) pa_nil)) pa_nil))) pa_nil)))) pss_nil) (pss_cons (ps_if (pt_cmpR (op_eqD (hu64 hr)) (pv 4) pe_int (nomark _)) (pss_one (ps_expr (pe_bm PySem.F.plainAttrs_list PySem.F.slot_list_insert PySem.F.type_list_insert mt_insertX (pv 2) (pa_cons (pe_call OK_law_take hr (by rfl) X.g_law_take X.F_law_take.kp X.B_law_take .nil pass0 (pa_cons (pv 0) (pa_cons (pe_op op_addD (pe_callB call_lenX (by rfl) X.m_len (by decide +kernel) (pa_cons (pv 2) pa_nil)) pe_int) pa_nil))) (pa_cons (pe_call OK_law_any_value hr (by rfl) X.g_law_any_value X.F_law_any_value.kp X.B_law_any_value .nil pass0 (pa_cons (pv 0) (pa_cons (pv 1) (pa_cons (pv 3) pa_nil)))) pa_nil))))) pss_nil) (pss_cons (ps_if (PW.pt (pw_and (pt_cmpR op_gtI (pv 4) pe_int (nomark _)) (pw_and1 (pt_cmpR op_gtI (pe_callB call_lenX (by rfl) X.m_len (by decide +kernel) (pa_cons (pv 2) pa_nil)) pe_int (nomark _))))) (pss_cons (ps_set (i := 5) nd rfl (by first | exact Or.inl rfl | exact Or.inr rfl) (pe_call OK_law_take hr (by rfl) X.g_law_take X.F_law_take.kp X.B_law_take .nil pass0 (pa_cons (pv 0) (pa_cons (pe_callB call_lenX (by rfl) X.m_len (by decide +kernel) (pa_cons (pv 2) pa_nil)) pa_nil)))) (pss_cons (ps_asg (pe_call OK_law_any_value hr (by rfl) X.g_law_any_value X.F_law_any_value.kp X.B_law_any_value .nil pass0 (pa_cons (pv 0) (pa_cons (pv 1) (pa_cons (pv 3) pa_nil)))) (pg_sub (pv 2) (pv 5) set_list)) (pss_one (ps_if (pt_cmpR (op_eqD (hu64 hr)) (pv 4) pe_int (nomark _)) (pss_one (ps_asg (pe_call OK_law_strange hr (by rfl) X.g_law_strange X.F_law_strange.kp X.B_law_strange .nil pass0 (pa_cons (pv 0) (pa_cons (pe_ix ix_seq (pv 3) pe_int (fun _ _ => rfl)) pa_nil))) (pg_sub (pv 2) (pv 5) set_list))) pss_nil)))) pss_nil) (pss_one (ps_ret (pe_callTy call_tupX (by rfl) X.m_tuple (by decide +kernel) (pa_cons (pv 2) pa_nil))))))))), (rs_seq (rs_set 2 (rt_cb cs_list (ra_cons (rt_var 2) ra_nil))) (rs_seq (rs_set 4 (rt_call [true, false] rfl (ra_cons (rt_var 0) (ra_cons rt_int ra_nil)))) (rs_seq (rs_if (rb_and (rb_test (rt_op2 os_eq (rt_var 4) rt_int)) (rb_test (rt_op2 os_cmpI (rt_cb cs_len (ra_cons (rt_var 2) ra_nil)) rt_int))) (rs_drop (rt_mut 2 ms_pop (ra_cons (rt_call [true, false] rfl (ra_cons (rt_var 0) (ra_cons (rt_cb cs_len (ra_cons (rt_var 2) ra_nil)) ra_nil))) ra_nil))) rs_next) (rs_seq (rs_if (rb_test (rt_op2 os_eq (rt_var 4) rt_int)) (rs_drop (rt_mut 2 ms_insert (ra_cons (rt_call [true, false] rfl (ra_cons (rt_var 0) (ra_cons (rt_op2 os_add (rt_cb cs_len (ra_cons (rt_var 2) ra_nil)) rt_int) ra_nil))) (ra_cons (rt_call [true, false, false] rfl (ra_cons (rt_var 0) (ra_cons (rt_var 1) (ra_cons (rt_var 3) ra_nil)))) ra_nil)))) rs_next) (rs_seq (rs_if (rb_and (rb_test (rt_op2 os_cmpI (rt_var 4) rt_int)) (rb_test (rt_op2 os_cmpI (rt_cb cs_len (ra_cons (rt_var 2) ra_nil)) rt_int))) (rs_seq (rs_set 5 (rt_call [true, false] rfl (ra_cons (rt_var 0) (ra_cons (rt_cb cs_len (ra_cons (rt_var 2) ra_nil)) ra_nil)))) (rs_seq (rs_setIx 2 (rt_var 5) (rt_call [true, false, false] rfl (ra_cons (rt_var 0) (ra_cons (rt_var 1) (ra_cons (rt_var 3) ra_nil))))) (rs_if (rb_test (rt_op2 os_eq (rt_var 4) rt_int)) (rs_setIx 2 (rt_var 5) (rt_call [true, false] rfl (ra_cons (rt_var 0) (ra_cons (rt_op2 os_ix (rt_var 3) rt_int) ra_nil)))) rs_next))) rs_next) (rs_ret (rt_cb cs_tuple (ra_cons (rt_var 2) ra_nil))))))))⟩
theorem sc_law : FnScope NN_law PP_law (defScope S_law) := ⟨rfl, rfl, rfl, by decide +kernel, rfl, by decide +kernel, by decide +kernel⟩
theorem OK_law (X : Tx K mg base a_is_word a_is_row a_table_of a_is_fact a_law_draws a_law_take a_law_pick a_law_size a_law_same a_law_table a_law_is_word a_law_words a_law_strange a_law_any_value a_law_any_schema a_law_is_fact a_law_rekeyed a_law_changed_row a_law cc_is_word tt_is_word cc_is_row tt_is_row d_is_word d_is_row d_table_of d_is_fact d_law_draws d_law_take d_law_pick d_law_size d_law_same d_law_table d_law_is_word d_law_words d_law_strange d_law_any_value d_law_any_schema d_law_is_fact d_law_rekeyed d_law_changed_row d_law) : FnOk P w K mg base CX0 14 a_law d_law PP_law (spD K XR0 (List.length PP_law) D_law) := by
  have OK_table_of := (OK_table_of (P := P) (w := w) (base := base) X).mono (show 1 ≤ 13 by decide)
  have OK_is_fact := (OK_is_fact (P := P) (w := w) (base := base) X).mono (show 6 ≤ 13 by decide)
  have OK_law_draws := (OK_law_draws (P := P) (w := w) (base := base) X).mono (show 1 ≤ 13 by decide)
  have OK_law_take := (OK_law_take (P := P) (w := w) (base := base) X).mono (show 1 ≤ 13 by decide)
  have OK_law_pick := (OK_law_pick (P := P) (w := w) (base := base) X).mono (show 2 ≤ 13 by decide)
  have OK_law_same := (OK_law_same (P := P) (w := w) (base := base) X).mono (show 13 ≤ 13 by decide)
  have OK_law_table := (OK_law_table (P := P) (w := w) (base := base) X).mono (show 1 ≤ 13 by decide)
  have OK_law_words := (OK_law_words (P := P) (w := w) (base := base) X).mono (show 3 ≤ 13 by decide)
  have OK_law_strange := (OK_law_strange (P := P) (w := w) (base := base) X).mono (show 3 ≤ 13 by decide)
  have OK_law_any_value := (OK_law_any_value (P := P) (w := w) (base := base) X).mono (show 3 ≤ 13 by decide)
  have OK_law_any_schema := (OK_law_any_schema (P := P) (w := w) (base := base) X).mono (show 2 ≤ 13 by decide)
  have OK_law_is_fact := (OK_law_is_fact (P := P) (w := w) (base := base) X).mono (show 2 ≤ 13 by decide)
  have OK_law_rekeyed := (OK_law_rekeyed (P := P) (w := w) (base := base) X).mono (show 2 ≤ 13 by decide)
  have OK_law_changed_row := (OK_law_changed_row (P := P) (w := w) (base := base) X).mono (show 4 ≤ 13 by decide)
  have nd := sc_law.nd
  refine fn_ok (N := NN_law) (ps := PP_law) (XR := XR0) (k := 13) (b := m_law) X.F_law sc_law fun cdv A outer s H E hr => ?_
  exact ⟨_, (pss_cons (ps_set (i := 1) nd rfl (by first | exact Or.inl rfl | exact Or.inr rfl) (pe_call OK_law_draws hr (by rfl) X.g_law_draws X.F_law_draws.kp X.B_law_draws .nil pass0 (pa_cons (pv 0) (pa_cons pe_int pa_nil)))) (pss_cons (ps_set (i := 2) nd rfl (by first | exact Or.inl rfl | exact Or.inr rfl) (pe_call OK_law_words hr (by rfl) X.g_law_words X.F_law_words.kp X.B_law_words .nil pass0 (pa_cons (pv 1) (pa_cons pe_int pa_nil)))) (pss_cons (ps_set (i := 3) nd rfl (by first | exact Or.inl rfl | exact Or.inr rfl) (pe_call OK_law_any_schema hr (by rfl) X.g_law_any_schema X.F_law_any_schema.kp X.B_law_any_schema .nil pass0 (pa_cons (pv 1) (pa_cons (pe_slice sl_X (pv 2) po_none (po_some pe_int)) pa_nil)))) (pss_cons (ps_set (i := 4) nd rfl (by first | exact Or.inl rfl | exact Or.inr rfl) (pe_op op_addD (pe_lc (own := [("table", 8)]) rfl nd (pi_seq (pv 3)) (blkOk_by (N := NN_law) (sc := defScope S_law) (by decide +kernel)) (fun _ _ _ _ _ => (pg_name (i := 8) nd rfl (by first | exact Or.inl rfl | exact Or.inr rfl))) (fun _ _ _ _ _ => pts_nil) (fun _ _ _ _ _ => (pe_ix ix_seq (pv 8) pe_int (fun _ _ => rfl)))) (pe_lst (pa_cons (pe_ix ix_seq (pv 2) pe_int (fun _ _ => rfl)) (pa_cons (pe_op op_addD (pe_ix ix_seq (pv 2) pe_int (fun _ _ => rfl)) pe_str) (pa_cons (pe_call OK_law_strange hr (by rfl) X.g_law_strange X.F_law_strange.kp X.B_law_strange .nil pass0 (pa_cons (pv 1) (pa_cons (pe_ix ix_seq (pv 2) pe_int (fun _ _ => rfl)) pa_nil))) pa_nil)))))) (pss_cons (ps_for PassesOwn.never rfl (pi_seq (pv 4)) (pg_name (i := 5) nd rfl (by first | exact Or.inl rfl | exact Or.inr rfl)) (pss_one (ps_if (pt_not (pt_truth (pe_call OK_law_same hr (by rfl) X.g_law_same X.F_law_same.kp X.B_law_same .nil pass0 (pa_cons (pe_call OK_table_of hr (by rfl) X.g_table_of X.F_table_of.kp X.B_table_of .nil pass0 (pa_cons (pv 3) (pa_cons (pv 5) pa_nil))) (pa_cons (pe_call OK_law_table hr (by rfl) X.g_law_table X.F_law_table.kp X.B_law_table .nil pass0 (pa_cons (pv 3) (pa_cons (pv 5) pa_nil))) pa_nil))) (by intro _; rfl))) (pss_one (ps_ret pe_bl)) pss_nil))) (pss_cons (ps_set (i := 6) nd rfl (by first | exact Or.inl rfl | exact Or.inr rfl) (pe_call OK_law_rekeyed hr (by rfl) X.g_law_rekeyed X.F_law_rekeyed.kp X.B_law_rekeyed .nil pass0 (pa_cons (pv 1) (pa_cons (pv 3) pa_nil)))) (pss_cons (ps_for PassesOwn.never rfl (pi_seq (pv 4)) (pg_name (i := 5) nd rfl (by first | exact Or.inl rfl | exact Or.inr rfl)) (pss_cons (ps_if (pt_not (pt_truth (pe_call OK_law_same hr (by rfl) X.g_law_same X.F_law_same.kp X.B_law_same .nil pass0 (pa_cons (pe_call OK_table_of hr (by rfl) X.g_table_of X.F_table_of.kp X.B_table_of .nil pass0 (pa_cons (pv 6) (pa_cons (pv 5) pa_nil))) (pa_cons (pe_call OK_law_table hr (by rfl) X.g_law_table X.F_law_table.kp X.B_law_table .nil pass0 (pa_cons (pv 6) (pa_cons (pv 5) pa_nil))) pa_nil))) (by intro _; rfl))) (pss_one (ps_ret pe_bl)) pss_nil) (pss_one (ps_if (pt_not (pt_truth (pe_call OK_law_same hr (by rfl) X.g_law_same X.F_law_same.kp X.B_law_same .nil pass0 (pa_cons (pe_call OK_table_of hr (by rfl) X.g_table_of X.F_table_of.kp X.B_table_of .nil pass0 (pa_cons (pv 3) (pa_cons (pv 5) pa_nil))) (pa_cons (pe_call OK_law_table hr (by rfl) X.g_law_table X.F_law_table.kp X.B_law_table .nil pass0 (pa_cons (pv 3) (pa_cons (pv 5) pa_nil))) pa_nil))) (by intro _; rfl))) (pss_one (ps_ret pe_bl)) pss_nil)))) (pss_cons (ps_set (i := 7) nd rfl (by first | exact Or.inl rfl | exact Or.inr rfl) (pe_callTy call_tupX (by rfl) X.m_tuple (by decide +kernel) (pa_cons (pe_lc (own := [("k", 9)]) rfl nd (pi_range1 (by rfl) X.m_range (pa_cons (pe_call OK_law_take hr (by rfl) X.g_law_take X.F_law_take.kp X.B_law_take .nil pass0 (pa_cons (pv 1) (pa_cons pe_int pa_nil))) pa_nil)) (blkOk_by (N := NN_law) (sc := defScope S_law) (by decide +kernel)) (fun _ _ _ _ _ => (pg_name (i := 9) nd rfl (by first | exact Or.inl rfl | exact Or.inr rfl))) (fun _ _ _ _ _ => pts_nil) (fun _ _ _ _ _ => (pe_call OK_law_any_value hr (by rfl) X.g_law_any_value X.F_law_any_value.kp X.B_law_any_value .nil pass0 (pa_cons (pv 1) (pa_cons (pv 0) (pa_cons (pv 2) pa_nil)))))) pa_nil))) (pss_cons (ps_for PassesOwn.never rfl (pi_seq (pe_slice sl_X (pv 3) po_none (po_some pe_int))) (pg_name (i := 8) nd rfl (by first | exact Or.inl rfl | exact Or.inr rfl)) (pss_cons (ps_set (i := 7) nd rfl (by first | exact Or.inl rfl | exact Or.inr rfl) (pe_callTy call_tupX (by rfl) X.m_tuple (by decide +kernel) (pa_cons (pe_lc (own := [("k", 9)]) rfl nd (pi_range1 (by rfl) X.m_range (pa_cons (pe_op op_addD (pe_ix ix_seq (pv 8) pe_int (fun _ _ => rfl)) (pe_ix ix_seq (pv 8) pe_int (fun _ _ => rfl))) pa_nil)) (blkOk_by (N := NN_law) (sc := defScope S_law) (by decide +kernel)) (fun _ _ _ _ _ => (pg_name (i := 9) nd rfl (by first | exact Or.inl rfl | exact Or.inr rfl))) (fun _ _ _ _ _ => pts_nil) (fun _ _ _ _ _ => (pe_call OK_law_any_value hr (by rfl) X.g_law_any_value X.F_law_any_value.kp X.B_law_any_value .nil pass0 (pa_cons (pv 1) (pa_cons (pv 0) (pa_cons (pv 2) pa_nil)))))) pa_nil))) (pss_cons (ps_if (pt_not (pt_truth (pe_call OK_law_same hr (by rfl) X.g_law_same X.F_law_same.kp X.B_law_same .nil pass0 (pa_cons (pe_call OK_is_fact hr (by rfl) X.g_is_fact X.F_is_fact.kp X.B_is_fact .nil pass0 (pa_cons (pv 3) (pa_cons (pe_ix ix_seq (pv 8) pe_int (fun _ _ => rfl)) (pa_cons (pv 7) pa_nil)))) (pa_cons pe_bl pa_nil))) (by intro _; rfl))) (pss_one (ps_ret pe_bl)) pss_nil) (pss_one (ps_for PassesOwn.never rfl (pi_range1 (by rfl) X.m_range (pa_cons pe_int pa_nil)) (pg_name (i := 9) nd rfl (by first | exact Or.inl rfl | exact Or.inr rfl)) (pss_cons (ps_set (i := 10) nd rfl (by first | exact Or.inl rfl | exact Or.inr rfl) (pe_call OK_law_changed_row hr (by rfl) X.g_law_changed_row X.F_law_changed_row.kp X.B_law_changed_row .nil pass0 (pa_cons (pv 1) (pa_cons (pv 0) (pa_cons (pv 7) (pa_cons (pv 2) pa_nil)))))) (pss_cons (ps_set (i := 5) nd rfl (by first | exact Or.inl rfl | exact Or.inr rfl) (pe_ix ix_seq (pv 8) pe_int (fun _ _ => rfl))) (pss_cons (ps_if (pt_cmpR (op_eqD (hu64 hr)) (pe_call OK_law_take hr (by rfl) X.g_law_take X.F_law_take.kp X.B_law_take .nil pass0 (pa_cons (pv 1) (pa_cons pe_int pa_nil))) pe_int (nomark _)) (pss_one (ps_set (i := 5) nd rfl (by first | exact Or.inl rfl | exact Or.inr rfl) (pe_call OK_law_pick hr (by rfl) X.g_law_pick X.F_law_pick.kp X.B_law_pick .nil pass0 (pa_cons (pv 1) (pa_cons (pv 4) pa_nil))))) pss_nil) (pss_one (ps_if (pt_not (pt_truth (pe_call OK_law_same hr (by rfl) X.g_law_same X.F_law_same.kp X.B_law_same .nil pass0 (pa_cons (pe_call OK_is_fact hr (by rfl) X.g_is_fact X.F_is_fact.kp X.B_is_fact .nil pass0 (pa_cons (pv 3) (pa_cons (pv 5) (pa_cons (pv 10) pa_nil)))) (pa_cons (pe_call OK_law_is_fact hr (by rfl) X.g_law_is_fact X.F_law_is_fact.kp X.B_law_is_fact .nil pass0 (pa_cons (pv 3) (pa_cons (pv 5) (pa_cons (pv 10) pa_nil)))) pa_nil))) (by intro _; rfl))) (pss_one (ps_ret pe_bl)) pss_nil)))))))))) (pss_cons (ps_for PassesOwn.never rfl (pi_seq (pv 4)) (pg_name (i := 5) nd rfl (by first | exact Or.inl rfl | exact Or.inr rfl)) (pss_one (ps_if (pt_not (pt_truth (pe_call OK_law_same hr (by rfl) X.g_law_same X.F_law_same.kp X.B_law_same .nil pass0 (pa_cons (pe_call OK_is_fact hr (by rfl) X.g_is_fact X.F_is_fact.kp X.B_is_fact .nil pass0 (pa_cons (pv 3) (pa_cons (pv 5) (pa_cons (pv 7) pa_nil)))) (pa_cons (pe_call OK_law_is_fact hr (by rfl) X.g_law_is_fact X.F_law_is_fact.kp X.B_law_is_fact .nil pass0 (pa_cons (pv 3) (pa_cons (pv 5) (pa_cons (pv 7) pa_nil)))) pa_nil))) (by intro _; rfl))) (pss_one (ps_ret pe_bl)) pss_nil))) (pss_one (ps_ret pe_bl)))))))))))), (rs_seq (rs_set 1 (rt_call [false, false] rfl (ra_cons (rt_var 0) (ra_cons rt_int ra_nil)))) (rs_seq (rs_set 2 (rt_call [true, false] rfl (ra_cons (rt_var 1) (ra_cons rt_int ra_nil)))) (rs_seq (rs_set 3 (rt_call [true, false] rfl (ra_cons (rt_var 1) (ra_cons (rt_sl (rt_var 2) ro_none (ro_some rt_int)) ra_nil)))) (rs_seq (rs_set 4 (rt_op2 os_add (rt_lc (vs := [8]) (ri_seq (rt_var 3)) (rg_name 8) (by decide) rb_yes (rt_op2 os_ix (rt_var 8) rt_int)) (rt_lst (ra_cons (rt_op2 os_ix (rt_var 2) rt_int) (ra_cons (rt_op2 os_add (rt_op2 os_ix (rt_var 2) rt_int) rt_str) (ra_cons (rt_call [true, false] rfl (ra_cons (rt_var 1) (ra_cons (rt_op2 os_ix (rt_var 2) rt_int) ra_nil))) ra_nil)))))) (rs_seq (rs_for (ri_seq (rt_var 4)) (rg_name 5) (rs_if (rb_not (rb_tru (rt_call [false, false] rfl (ra_cons (rt_call [false, false] rfl (ra_cons (rt_var 3) (ra_cons (rt_var 5) ra_nil))) (ra_cons (rt_call [false, false] rfl (ra_cons (rt_var 3) (ra_cons (rt_var 5) ra_nil))) ra_nil))))) (rs_ret rt_bl) rs_next)) (rs_seq (rs_set 6 (rt_call [true, false] rfl (ra_cons (rt_var 1) (ra_cons (rt_var 3) ra_nil)))) (rs_seq (rs_for (ri_seq (rt_var 4)) (rg_name 5) (rs_seq (rs_if (rb_not (rb_tru (rt_call [false, false] rfl (ra_cons (rt_call [false, false] rfl (ra_cons (rt_var 6) (ra_cons (rt_var 5) ra_nil))) (ra_cons (rt_call [false, false] rfl (ra_cons (rt_var 6) (ra_cons (rt_var 5) ra_nil))) ra_nil))))) (rs_ret rt_bl) rs_next) (rs_if (rb_not (rb_tru (rt_call [false, false] rfl (ra_cons (rt_call [false, false] rfl (ra_cons (rt_var 3) (ra_cons (rt_var 5) ra_nil))) (ra_cons (rt_call [false, false] rfl (ra_cons (rt_var 3) (ra_cons (rt_var 5) ra_nil))) ra_nil))))) (rs_ret rt_bl) rs_next))) (rs_seq (rs_set 7 (rt_cb cs_tuple (ra_cons (rt_lc (vs := [9]) (ri_range1 (ra_cons (rt_call [true, false] rfl (ra_cons (rt_var 1) (ra_cons rt_int ra_nil))) ra_nil)) (rg_name 9) (by decide) rb_yes (rt_call [true, false, false] rfl (ra_cons (rt_var 1) (ra_cons (rt_var 0) (ra_cons (rt_var 2) ra_nil))))) ra_nil))) (rs_seq (rs_for (ri_seq (rt_sl (rt_var 3) ro_none (ro_some rt_int))) (rg_name 8) (rs_seq (rs_set 7 (rt_cb cs_tuple (ra_cons (rt_lc (vs := [9]) (ri_range1 (ra_cons (rt_op2 os_add (rt_op2 os_ix (rt_var 8) rt_int) (rt_op2 os_ix (rt_var 8) rt_int)) ra_nil)) (rg_name 9) (by decide) rb_yes (rt_call [true, false, false] rfl (ra_cons (rt_var 1) (ra_cons (rt_var 0) (ra_cons (rt_var 2) ra_nil))))) ra_nil))) (rs_seq (rs_if (rb_not (rb_tru (rt_call [false, false] rfl (ra_cons (rt_call [false, false, false] rfl (ra_cons (rt_var 3) (ra_cons (rt_op2 os_ix (rt_var 8) rt_int) (ra_cons (rt_var 7) ra_nil)))) (ra_cons rt_bl ra_nil))))) (rs_ret rt_bl) rs_next) (rs_for (ri_range1 (ra_cons rt_int ra_nil)) (rg_name 9) (rs_seq (rs_set 10 (rt_call [true, false, false, false] rfl (ra_cons (rt_var 1) (ra_cons (rt_var 0) (ra_cons (rt_var 7) (ra_cons (rt_var 2) ra_nil)))))) (rs_seq (rs_set 5 (rt_op2 os_ix (rt_var 8) rt_int)) (rs_seq (rs_if (rb_test (rt_op2 os_eq (rt_call [true, false] rfl (ra_cons (rt_var 1) (ra_cons rt_int ra_nil))) rt_int)) (rs_set 5 (rt_call [true, false] rfl (ra_cons (rt_var 1) (ra_cons (rt_var 4) ra_nil)))) rs_next) (rs_if (rb_not (rb_tru (rt_call [false, false] rfl (ra_cons (rt_call [false, false, false] rfl (ra_cons (rt_var 3) (ra_cons (rt_var 5) (ra_cons (rt_var 10) ra_nil)))) (ra_cons (rt_call [false, false, false] rfl (ra_cons (rt_var 3) (ra_cons (rt_var 5) (ra_cons (rt_var 10) ra_nil)))) ra_nil))))) (rs_ret rt_bl) rs_next)))))))) (rs_seq (rs_for (ri_seq (rt_var 4)) (rg_name 5) (rs_if (rb_not (rb_tru (rt_call [false, false] rfl (ra_cons (rt_call [false, false, false] rfl (ra_cons (rt_var 3) (ra_cons (rt_var 5) (ra_cons (rt_var 7) ra_nil)))) (ra_cons (rt_call [false, false, false] rfl (ra_cons (rt_var 3) (ra_cons (rt_var 5) (ra_cons (rt_var 7) ra_nil)))) ra_nil))))) (rs_ret rt_bl) rs_next)) (rs_ret rt_bl)))))))))))⟩
end
end Lw
end

section
set_option Elab.async false
set_option linter.all false
set_option maxRecDepth 100000
set_option maxHeartbeats 4000000
namespace Lw
open PySem PySem.Spec PyProof.Rows L2 Vf
theorem imAll_ints [Tabs] {K : PySem.W.Frag} {H : Hp} : ∀ ns : List Int, ImAll K H (ns.map V.int) (ns.map PyData.int)
  | [] => .nil
  | n :: ns => .cons ⟨imm_int, .int n⟩ (imAll_ints ns)
def lstC : Value → Bool
  | .type n => n == "list"
  | _ => false
theorem lstC_of {v : Value} (h : lstC v = false) : v ≠ .type "list" := fun e => by
  rw [e] at h
  exact absurd h (by decide)
theorem look_mem {K : PySem.W.Frag} {a : Addr} {o : Obj} (h : K.lookup a = some o) (hK : (K.all fun x => !lstC x.2.cls) = true) : o.cls ≠ .type "list" := by
  induction K with
  | nil => cases h
  | cons x K ih =>
    obtain ⟨b, p⟩ := x
    rw [List.all_cons, Bool.and_eq_true] at hK
    rw [List.lookup_cons] at h
    split at h
    · cases h
      exact lstC_of (by simpa using hK.1)
    · exact ih h hK.2
theorem sp_of [Tabs] {K : PySem.W.Frag} {H : Hp} (hT : ∀ P ∈ Tabs.ps, GxR.TabG H P) {a : Addr} {ns : List Int} {F : FD} (hl : ns.length ≤ 63) (hK : (K.all fun x => !lstC x.2.cls) = true) (hS : SqL K H a (ns.map V.int)) (h : wpF F [.l (ns.map PyData.int)] fun r outs => r = .v (.bool true) ∧ outs = []) :
    spD K XR0 1 F [V.ref a] H (fun v x => v = V.bl true) fun x x_1 x_2 => False := by
  have hR : Rd H a (.lst (ns.map V.int)) := by
    rcases hS with h | ⟨o, _, _, e, c, _⟩
    · exact h
    · exact absurd c (look_mem e hK)
  obtain ⟨r, outs, e, rfl, rfl⟩ := wpF_ex.mp h
  have hi : iosOf [V.ref a] [Ar.l (ns.map PyData.int)] = [] := rfl
  refine ⟨[.l (ns.map PyData.int)], .ok (.v (.bool true)), [], rfl, e, ⟨.cons ⟨a, _, rfl, hR, imAll_ints ns⟩ .nil, ?_, ?_⟩, ?_, ?_⟩
  · rw [hi]; exact .nil
  · intro _ _ _ _ _
    rw [hi]; exact List.not_mem_nil
  · intro P hP; exact hT P hP
  · intro H' _ _ x hx
    exact im_bl hx
theorem tabs_H {cs : List (Addr × Addr)} {H : Hp} (h : ∀ p ∈ cs, H p.2 = some (.tbl #[])) : ∀ P ∈ cs.map (·.2), GxR.TabG H P := by
  intro P hP
  obtain ⟨p, hp, rfl⟩ := List.mem_map.mp hP
  exact ⟨#[], h p hp, by simp [TriplesOk]⟩
theorem tab_conv {base : Heap} {mg : Str → Option Value} {c P : Addr} (t : LamX.TabB base mg c P) : GxR.TabB base mg c P := ⟨t.code, t.bm, t.gP⟩
theorem walk_T {l : PySem.W.OpenLaw} {n k : Nat} {q : Program} {loose : List Str} {XP : (Str → Option Value) → Heap → Prop} {YP : World → Heap → Prop} {d : DefRec} {K : Params → PySem.W.Frag} {CX : World → CXT} {x : Str} (names : List Str)
    (hn : l.most = some n) (hn2 : n ≤ sizeLine) (hdf : d.params.defaults = []) (hr : Room k callerA) (hrec : ∀ y ∈ names, ((recsOf q).any fun e => e.name == y) = true) (hY : ∀ (w : World) (h : Heap), YP w h → (K w.params).In h)
    (F : ∀ (w : World) (mg : Str → Option Value) (fa : Addr) (h : Heap), YP w h → (K w.params).In h → h.Ns mainGlobals mg → mg d.name = some (.ref fa) → (∀ y ∈ names, ∀ fy : Addr, mg y = some (.ref fy) → LamX.OwnTab (K w.params) fy h) → LamX.LawAtS l w (K w.params) (CX w) k n x mg fa h)
    (hCX : ∀ (w : World) (H : Hp) (s : Shared) (e : Value) (s' : Shared), CX w [] H s (fun _ _ _ => False) e s' → False) :
    PySem.W.WalkO q loose XP YP l.row.toRowW d [] (fun f vs => PySem.call f vs) := by
  refine Att.attach_callB hn hdf fun w s₀ s₁ mg mb fa o pm cd doc a vs ns G Y ho hd hcd hmg hobj hints hlen hbits hg => ?_
  have KX := hY w _ Y
  have own : ∀ y ∈ names, ∀ fy : Addr, mg y = some (.ref fy) → LamX.OwnTab (K w.params) fy s₁.heap := fun y hy fy hmy c P o1 fd1 e dd vs1 sl k1 k2 k3 k4 k5 => by
    obtain ⟨dL, hm, hn1⟩ := List.any_eq_true.mp (hrec y hy)
    have hn2 : dL.name = y := beq_iff_eq.mp hn1
    obtain ⟨a', o', fd', c', P', h1, h2, h3, h4, h5, h6⟩ := G.T.tab dL hm
    rw [hn2, hmy] at h1
    cases h1
    have g1 := KX _ _ k1
    rw [g1] at h2
    cases h2
    rw [k2] at h3
    cases h3
    rw [k3] at h4
    cases h4
    obtain ⟨⟨oc, vc, e1, _, e3, e4⟩, hP⟩ := h6
    have g2 := KX _ _ k4
    rw [g2] at e1
    cases e1
    cases e3
    rw [k5] at e4
    cases e4
    exact hP
  obtain ⟨fd, cs, sp, hT, nT, C, hb, hsp, hF⟩ := F w mg fa _ Y KX G.T.g hmg own
  exact LamX.law_callTs KX G.T.g G.T.b G.T.builtins G.T.nolimit hg hT nT C G.T.bmain hobj hints (Nat.le_trans hlen hn2) hr hF hb (fun H hH hS => hsp H a ns hlen hbits hH hS) fun H e s' => hCX w H s₁ e s'
abbrev gnames : List Str := ["is_word", "is_row"]
theorem all_mk {l : PySem.W.OpenLaw} {w : World} {K : PySem.W.Frag} {h : Heap} {mg : Str → Option Value} {fa f0 f1 f2 f3 f4 f5 f6 f7 f8 f9 f10 f11 f12 f13 f14 f15 f16 f17 f18 : Addr} (X : K.In h) (G : h.Ns mainGlobals mg) (hfa : mg "law" = some (.ref fa))
    (own : ∀ y ∈ gnames, ∀ fy : Addr, mg y = some (.ref fy) → LamX.OwnTab K fy h) (hK : (K.all fun x => !lstC x.2.cls) = true)
    {od0 an0 od1 an1 od2 an2 od3 an3 od4 an4 od5 an5 od6 an6 od7 an7 od8 an8 od9 an9 od10 an10 od11 an11 od12 an12 od13 an13 od14 an14 od15 an15 od16 an16 od17 an17 od18 an18 : Option Addr} {sl0 sl1 sl2 sl3 sl4 sl5 sl6 sl7 sl8 sl9 sl10 sl11 sl12 sl13 sl14 sl15 sl16 sl17 sl18 : Array (Option Value)} {oc0 kV0 dc0 pm0 ct0 oc1 kV1 dc1 pm1 ct1 oc2 kV2 dc2 pm2 cd2 ct2 oc3 kV3 dc3 pm3 cd3 ct3 oc4 kV4 dc4 pm4 cd4 ct4 oc5 kV5 dc5 pm5 cd5 ct5 oc6 kV6 dc6 pm6 cd6 ct6 oc7 kV7 dc7 pm7 cd7 ct7 oc8 kV8 dc8 pm8 cd8 ct8 oc9 kV9 dc9 pm9 cd9 ct9 oc10 kV10 dc10 pm10 cd10 ct10 oc11 kV11 dc11 pm11 cd11 ct11 oc12 kV12 dc12 pm12 cd12 ct12 oc13 kV13 dc13 pm13 cd13 ct13 oc14 kV14 dc14 pm14 cd14 ct14 oc15 kV15 dc15 pm15 cd15 ct15 oc16 kV16 dc16 pm16 cd16 ct16 oc17 kV17 dc17 pm17 cd17 ct17 oc18 kV18 dc18 pm18 cd18 ct18 : Value} {cc0 tt0 cc1 tt1 : Addr}
    {ge0 ge1 : Value} {gd0 gd1 : Option Addr} {gv0 gv1 : Array Value} {gs0 gs1 : Array (Option Value)}
    (a0 : PySem.W.nsIn K mainGlobals "is_word" = some (some (.ref f0))) (l0 : K.lookup f0 = some ⟨oc0, od0, .func (PySem.W.fnOf "is_word" "is_word" (defArgs S_is_word) (defBody S_is_word) (defScope S_is_word) .none kV0 dc0 pm0 an0 (.ref cc0) ct0), sl0⟩) (c0 : PySem.W.codeIn K (.ref cc0) "is_word" = true) (k0 : PySem.W.keepIn K (.ref f0) = true)
    (a1 : PySem.W.nsIn K mainGlobals "is_row" = some (some (.ref f1))) (l1 : K.lookup f1 = some ⟨oc1, od1, .func (PySem.W.fnOf "is_row" "is_row" (defArgs S_is_row) (defBody S_is_row) (defScope S_is_row) .none kV1 dc1 pm1 an1 (.ref cc1) ct1), sl1⟩) (c1 : PySem.W.codeIn K (.ref cc1) "is_row" = true) (k1 : PySem.W.keepIn K (.ref f1) = true)
    (a2 : PySem.W.nsIn K mainGlobals "table_of" = some (some (.ref f2))) (l2 : K.lookup f2 = some ⟨oc2, od2, .func (PySem.W.fnOf "table_of" "table_of" (defArgs S_table_of) (defBody S_table_of) (defScope S_table_of) .none kV2 dc2 pm2 an2 cd2 ct2), sl2⟩) (c2 : PySem.W.codeIn K cd2 "table_of" = true) (k2 : PySem.W.keepIn K (.ref f2) = true)
    (a3 : PySem.W.nsIn K mainGlobals "is_fact" = some (some (.ref f3))) (l3 : K.lookup f3 = some ⟨oc3, od3, .func (PySem.W.fnOf "is_fact" "is_fact" (defArgs S_is_fact) (defBody S_is_fact) (defScope S_is_fact) .none kV3 dc3 pm3 an3 cd3 ct3), sl3⟩) (c3 : PySem.W.codeIn K cd3 "is_fact" = true) (k3 : PySem.W.keepIn K (.ref f3) = true)
    (a4 : PySem.W.nsIn K mainGlobals "_law_draws" = some (some (.ref f4))) (l4 : K.lookup f4 = some ⟨oc4, od4, .func (PySem.W.fnOf "_law_draws" "_law_draws" (defArgs S_law_draws) (defBody S_law_draws) (defScope S_law_draws) .none kV4 dc4 pm4 an4 cd4 ct4), sl4⟩) (c4 : PySem.W.codeIn K cd4 "_law_draws" = true) (k4 : PySem.W.keepIn K (.ref f4) = true)
    (a5 : PySem.W.nsIn K mainGlobals "_law_take" = some (some (.ref f5))) (l5 : K.lookup f5 = some ⟨oc5, od5, .func (PySem.W.fnOf "_law_take" "_law_take" (defArgs S_law_take) (defBody S_law_take) (defScope S_law_take) .none kV5 dc5 pm5 an5 cd5 ct5), sl5⟩) (c5 : PySem.W.codeIn K cd5 "_law_take" = true) (k5 : PySem.W.keepIn K (.ref f5) = true)
    (a6 : PySem.W.nsIn K mainGlobals "_law_pick" = some (some (.ref f6))) (l6 : K.lookup f6 = some ⟨oc6, od6, .func (PySem.W.fnOf "_law_pick" "_law_pick" (defArgs S_law_pick) (defBody S_law_pick) (defScope S_law_pick) .none kV6 dc6 pm6 an6 cd6 ct6), sl6⟩) (c6 : PySem.W.codeIn K cd6 "_law_pick" = true) (k6 : PySem.W.keepIn K (.ref f6) = true)
    (a7 : PySem.W.nsIn K mainGlobals "_law_size" = some (some (.ref f7))) (l7 : K.lookup f7 = some ⟨oc7, od7, .func (PySem.W.fnOf "_law_size" "_law_size" (defArgs S_law_size) (defBody S_law_size) (defScope S_law_size) .none kV7 dc7 pm7 an7 cd7 ct7), sl7⟩) (c7 : PySem.W.codeIn K cd7 "_law_size" = true) (k7 : PySem.W.keepIn K (.ref f7) = true)
    (a8 : PySem.W.nsIn K mainGlobals "_law_same" = some (some (.ref f8))) (l8 : K.lookup f8 = some ⟨oc8, od8, .func (PySem.W.fnOf "_law_same" "_law_same" (defArgs S_law_same) (defBody S_law_same) (defScope S_law_same) .none kV8 dc8 pm8 an8 cd8 ct8), sl8⟩) (c8 : PySem.W.codeIn K cd8 "_law_same" = true) (k8 : PySem.W.keepIn K (.ref f8) = true)
    (a9 : PySem.W.nsIn K mainGlobals "_law_table" = some (some (.ref f9))) (l9 : K.lookup f9 = some ⟨oc9, od9, .func (PySem.W.fnOf "_law_table" "_law_table" (defArgs S_law_table) (defBody S_law_table) (defScope S_law_table) .none kV9 dc9 pm9 an9 cd9 ct9), sl9⟩) (c9 : PySem.W.codeIn K cd9 "_law_table" = true) (k9 : PySem.W.keepIn K (.ref f9) = true)
    (a10 : PySem.W.nsIn K mainGlobals "_law_is_word" = some (some (.ref f10))) (l10 : K.lookup f10 = some ⟨oc10, od10, .func (PySem.W.fnOf "_law_is_word" "_law_is_word" (defArgs S_law_is_word) (defBody S_law_is_word) (defScope S_law_is_word) .none kV10 dc10 pm10 an10 cd10 ct10), sl10⟩) (c10 : PySem.W.codeIn K cd10 "_law_is_word" = true) (k10 : PySem.W.keepIn K (.ref f10) = true)
    (a11 : PySem.W.nsIn K mainGlobals "_law_words" = some (some (.ref f11))) (l11 : K.lookup f11 = some ⟨oc11, od11, .func (PySem.W.fnOf "_law_words" "_law_words" (defArgs S_law_words) (defBody S_law_words) (defScope S_law_words) .none kV11 dc11 pm11 an11 cd11 ct11), sl11⟩) (c11 : PySem.W.codeIn K cd11 "_law_words" = true) (k11 : PySem.W.keepIn K (.ref f11) = true)
    (a12 : PySem.W.nsIn K mainGlobals "_law_strange" = some (some (.ref f12))) (l12 : K.lookup f12 = some ⟨oc12, od12, .func (PySem.W.fnOf "_law_strange" "_law_strange" (defArgs S_law_strange) (defBody S_law_strange) (defScope S_law_strange) .none kV12 dc12 pm12 an12 cd12 ct12), sl12⟩) (c12 : PySem.W.codeIn K cd12 "_law_strange" = true) (k12 : PySem.W.keepIn K (.ref f12) = true)
    (a13 : PySem.W.nsIn K mainGlobals "_law_any_value" = some (some (.ref f13))) (l13 : K.lookup f13 = some ⟨oc13, od13, .func (PySem.W.fnOf "_law_any_value" "_law_any_value" (defArgs S_law_any_value) (defBody S_law_any_value) (defScope S_law_any_value) .none kV13 dc13 pm13 an13 cd13 ct13), sl13⟩) (c13 : PySem.W.codeIn K cd13 "_law_any_value" = true) (k13 : PySem.W.keepIn K (.ref f13) = true)
    (a14 : PySem.W.nsIn K mainGlobals "_law_any_schema" = some (some (.ref f14))) (l14 : K.lookup f14 = some ⟨oc14, od14, .func (PySem.W.fnOf "_law_any_schema" "_law_any_schema" (defArgs S_law_any_schema) (defBody S_law_any_schema) (defScope S_law_any_schema) .none kV14 dc14 pm14 an14 cd14 ct14), sl14⟩) (c14 : PySem.W.codeIn K cd14 "_law_any_schema" = true) (k14 : PySem.W.keepIn K (.ref f14) = true)
    (a15 : PySem.W.nsIn K mainGlobals "_law_is_fact" = some (some (.ref f15))) (l15 : K.lookup f15 = some ⟨oc15, od15, .func (PySem.W.fnOf "_law_is_fact" "_law_is_fact" (defArgs S_law_is_fact) (defBody S_law_is_fact) (defScope S_law_is_fact) .none kV15 dc15 pm15 an15 cd15 ct15), sl15⟩) (c15 : PySem.W.codeIn K cd15 "_law_is_fact" = true) (k15 : PySem.W.keepIn K (.ref f15) = true)
    (a16 : PySem.W.nsIn K mainGlobals "_law_rekeyed" = some (some (.ref f16))) (l16 : K.lookup f16 = some ⟨oc16, od16, .func (PySem.W.fnOf "_law_rekeyed" "_law_rekeyed" (defArgs S_law_rekeyed) (defBody S_law_rekeyed) (defScope S_law_rekeyed) .none kV16 dc16 pm16 an16 cd16 ct16), sl16⟩) (c16 : PySem.W.codeIn K cd16 "_law_rekeyed" = true) (k16 : PySem.W.keepIn K (.ref f16) = true)
    (a17 : PySem.W.nsIn K mainGlobals "_law_changed_row" = some (some (.ref f17))) (l17 : K.lookup f17 = some ⟨oc17, od17, .func (PySem.W.fnOf "_law_changed_row" "_law_changed_row" (defArgs S_law_changed_row) (defBody S_law_changed_row) (defScope S_law_changed_row) .none kV17 dc17 pm17 an17 cd17 ct17), sl17⟩) (c17 : PySem.W.codeIn K cd17 "_law_changed_row" = true) (k17 : PySem.W.keepIn K (.ref f17) = true)
    (a18 : PySem.W.nsIn K mainGlobals "law" = some (some (.ref f18))) (l18 : K.lookup f18 = some ⟨oc18, od18, .func (PySem.W.fnOf "law" "law" (defArgs S_law) (defBody S_law) (defScope S_law) .none kV18 dc18 pm18 an18 cd18 ct18), sl18⟩) (c18 : PySem.W.codeIn K cd18 "law" = true) (k18 : PySem.W.keepIn K (.ref f18) = true)
    (t0 : K.lookup cc0 = some ⟨ge0, gd0, .fields gv0, gs0⟩) (u0 : gv0[11]? = some (.ref tt0)) (q0 : PySem.W.codeHdIn K cc0 tt0 = true) (n0 : K.lookup tt0 = none)
    (t1 : K.lookup cc1 = some ⟨ge1, gd1, .fields gv1, gs1⟩) (u1 : gv1[11]? = some (.ref tt1)) (q1 : PySem.W.codeHdIn K cc1 tt1 = true) (n1 : K.lookup tt1 = none)
    (z0 : PySem.W.nsIn K mainGlobals "abs" = some none) (z1 : PySem.W.nsIn K mainGlobals "all" = some none) (z2 : PySem.W.nsIn K mainGlobals "bool" = some none) (z3 : PySem.W.nsIn K mainGlobals "int" = some none) (z4 : PySem.W.nsIn K mainGlobals "isinstance" = some none) (z5 : PySem.W.nsIn K mainGlobals "len" = some none) (z6 : PySem.W.nsIn K mainGlobals "list" = some none) (z7 : PySem.W.nsIn K mainGlobals "max" = some none) (z8 : PySem.W.nsIn K mainGlobals "range" = some none) (z9 : PySem.W.nsIn K mainGlobals "sorted" = some none) (z10 : PySem.W.nsIn K mainGlobals "str" = some none) (z11 : PySem.W.nsIn K mainGlobals "tuple" = some none) :
    LamX.LawAtS l w K CX0 14 63 "script" mg fa h := by
  have e := hfa.symm.trans (PySem.W.mg_of X G a18)
  cases e
  letI : Tabs := ⟨[tt0, tt1]⟩
  have FC0 := funC_mk (st := S_is_word) l0 c0 k0
  have F0 := FC0.fn
  have FC1 := funC_mk (st := S_is_row) l1 c1 k1
  have F1 := FC1.fn
  have F2 := fun_mk (st := S_table_of) l2 c2 k2
  have F3 := fun_mk (st := S_is_fact) l3 c3 k3
  have F4 := fun_mk (st := S_law_draws) l4 c4 k4
  have F5 := fun_mk (st := S_law_take) l5 c5 k5
  have F6 := fun_mk (st := S_law_pick) l6 c6 k6
  have F7 := fun_mk (st := S_law_size) l7 c7 k7
  have F8 := fun_mk (st := S_law_same) l8 c8 k8
  have F9 := fun_mk (st := S_law_table) l9 c9 k9
  have F10 := fun_mk (st := S_law_is_word) l10 c10 k10
  have F11 := fun_mk (st := S_law_words) l11 c11 k11
  have F12 := fun_mk (st := S_law_strange) l12 c12 k12
  have F13 := fun_mk (st := S_law_any_value) l13 c13 k13
  have F14 := fun_mk (st := S_law_any_schema) l14 c14 k14
  have F15 := fun_mk (st := S_law_is_fact) l15 c15 k15
  have F16 := fun_mk (st := S_law_rekeyed) l16 c16 k16
  have F17 := fun_mk (st := S_law_changed_row) l17 c17 k17
  have F18 := fun_mk (st := S_law) l18 c18 k18
  have b0 := F0.binds (ps := ["text"]) fun _ _ _ _ _ _ us hl => match us, hl with | [_], _ => rfl
  have b1 := F1.binds (ps := ["row"]) fun _ _ _ _ _ _ us hl => match us, hl with | [_], _ => rfl
  have b2 := F2.binds (ps := ["schema", "name"]) fun _ _ _ _ _ _ us hl => match us, hl with | [_, _], _ => rfl
  have b3 := F3.binds (ps := ["schema", "name", "row"]) fun _ _ _ _ _ _ us hl => match us, hl with | [_, _, _], _ => rfl
  have b4 := F4.binds (ps := ["script", "many"]) fun _ _ _ _ _ _ us hl => match us, hl with | [_, _], _ => rfl
  have b5 := F5.binds (ps := ["draws", "many"]) fun _ _ _ _ _ _ us hl => match us, hl with | [_, _], _ => rfl
  have b6 := F6.binds (ps := ["draws", "row"]) fun _ _ _ _ _ _ us hl => match us, hl with | [_, _], _ => rfl
  have b7 := F7.binds (ps := ["draws", "script"]) fun _ _ _ _ _ _ us hl => match us, hl with | [_, _], _ => rfl
  have b8 := F8.binds (ps := ["actual", "due"]) fun _ _ _ _ _ _ us hl => match us, hl with | [_, _], _ => rfl
  have b9 := F9.binds (ps := ["schema", "name"]) fun _ _ _ _ _ _ us hl => match us, hl with | [_, _], _ => rfl
  have b10 := F10.binds (ps := ["text"]) fun _ _ _ _ _ _ us hl => match us, hl with | [_], _ => rfl
  have b11 := F11.binds (ps := ["draws", "many"]) fun _ _ _ _ _ _ us hl => match us, hl with | [_, _], _ => rfl
  have b12 := F12.binds (ps := ["draws", "word"]) fun _ _ _ _ _ _ us hl => match us, hl with | [_, _], _ => rfl
  have b13 := F13.binds (ps := ["draws", "script", "words"]) fun _ _ _ _ _ _ us hl => match us, hl with | [_, _, _], _ => rfl
  have b14 := F14.binds (ps := ["draws", "words"]) fun _ _ _ _ _ _ us hl => match us, hl with | [_, _], _ => rfl
  have b15 := F15.binds (ps := ["schema", "name", "row"]) fun _ _ _ _ _ _ us hl => match us, hl with | [_, _, _], _ => rfl
  have b16 := F16.binds (ps := ["draws", "schema"]) fun _ _ _ _ _ _ us hl => match us, hl with | [_, _], _ => rfl
  have b17 := F17.binds (ps := ["draws", "script", "row", "words"]) fun _ _ _ _ _ _ us hl => match us, hl with | [_, _, _, _], _ => rfl
  have b18 := F18.binds (ps := ["script"]) fun _ _ _ _ _ _ us hl => match us, hl with | [_], _ => rfl
  have o0 := own _ (show ("is_word" : Str) ∈ gnames from List.mem_cons_self) f0 (PySem.W.mg_of X G a0) _ _ _ _ _ _ _ _ l0 rfl rfl t0 u0
  have o1 := own _ (show ("is_row" : Str) ∈ gnames from (List.mem_cons_of_mem _ List.mem_cons_self)) f1 (PySem.W.mg_of X G a1) _ _ _ _ _ _ _ _ l1 rfl rfl t1 u1
  refine ⟨PySem.W.fnOf "law" "law" (defArgs S_law) (defBody S_law) (defScope S_law) .none kV18 dc18 pm18 an18 cd18 ct18, [(cc0, tt0), (cc1, tt1)], @spD ⟨[tt0, tt1]⟩ K XR0 1 D_law, (List.forall_mem_cons.mpr ⟨o0, (List.forall_mem_cons.mpr ⟨o1, (fun _ h9 => nomatch h9)⟩)⟩), (List.forall_mem_cons.mpr ⟨n0, (List.forall_mem_cons.mpr ⟨n1, (fun _ h9 => nomatch h9)⟩)⟩), (List.forall_mem_cons.mpr ⟨PySem.W.codeHd_of_K X q0, (List.forall_mem_cons.mpr ⟨PySem.W.codeHd_of_K X q1, (fun _ h9 => nomatch h9)⟩)⟩), fun s v => .of_eq rfl, fun H a ns hl _ hT hS => @sp_of ⟨[tt0, tt1]⟩ K H (tabs_H hT) _ _ _ hl hK hS (@law_spec ⟨[tt0, tt1]⟩ _ hl), fun base _ _ TB => ?_⟩
  exact OK_law (P := l.prog) (w := w) (base := base) { F_is_word := F0, g_is_word := PySem.W.mg_of X G a0, B_is_word := b0, F_is_row := F1, g_is_row := PySem.W.mg_of X G a1, B_is_row := b1, F_table_of := F2, g_table_of := PySem.W.mg_of X G a2, B_table_of := b2, F_is_fact := F3, g_is_fact := PySem.W.mg_of X G a3, B_is_fact := b3, F_law_draws := F4, g_law_draws := PySem.W.mg_of X G a4, B_law_draws := b4, F_law_take := F5, g_law_take := PySem.W.mg_of X G a5, B_law_take := b5, F_law_pick := F6, g_law_pick := PySem.W.mg_of X G a6, B_law_pick := b6, F_law_size := F7, g_law_size := PySem.W.mg_of X G a7, B_law_size := b7, F_law_same := F8, g_law_same := PySem.W.mg_of X G a8, B_law_same := b8, F_law_table := F9, g_law_table := PySem.W.mg_of X G a9, B_law_table := b9, F_law_is_word := F10, g_law_is_word := PySem.W.mg_of X G a10, B_law_is_word := b10, F_law_words := F11, g_law_words := PySem.W.mg_of X G a11, B_law_words := b11, F_law_strange := F12, g_law_strange := PySem.W.mg_of X G a12, B_law_strange := b12, F_law_any_value := F13, g_law_any_value := PySem.W.mg_of X G a13, B_law_any_value := b13, F_law_any_schema := F14, g_law_any_schema := PySem.W.mg_of X G a14, B_law_any_schema := b14, F_law_is_fact := F15, g_law_is_fact := PySem.W.mg_of X G a15, B_law_is_fact := b15, F_law_rekeyed := F16, g_law_rekeyed := PySem.W.mg_of X G a16, B_law_rekeyed := b16, F_law_changed_row := F17, g_law_changed_row := PySem.W.mg_of X G a17, B_law_changed_row := b17, F_law := F18, g_law := PySem.W.mg_of X G a18, B_law := b18, FC_is_word := FC0, T_is_word := tab_conv (TB (cc0, tt0) List.mem_cons_self), tp_is_word := (show tt0 ∈ [tt0, tt1] from List.mem_cons_self), FC_is_row := FC1, T_is_row := tab_conv (TB (cc1, tt1) (List.mem_cons_of_mem _ List.mem_cons_self)), tp_is_row := (show tt1 ∈ [tt0, tt1] from (List.mem_cons_of_mem _ List.mem_cons_self)), m_abs := PySem.W.mg_none_of X G z0, m_all := PySem.W.mg_none_of X G z1, m_bool := PySem.W.mg_none_of X G z2, m_int := PySem.W.mg_none_of X G z3, m_isinstance := PySem.W.mg_none_of X G z4, m_len := PySem.W.mg_none_of X G z5, m_list := PySem.W.mg_none_of X G z6, m_max := PySem.W.mg_none_of X G z7, m_range := PySem.W.mg_none_of X G z8, m_sorted := PySem.W.mg_none_of X G z9, m_str := PySem.W.mg_none_of X G z10, m_tuple := PySem.W.mg_none_of X G z11 }
end Lw
open PySem PySem.W PyProof.Rows
set_option maxHeartbeats 0 in
theorem PySem.Challenge.cw_everymending_k04_tables_and_facts_holds : PySem.Challenge.rw_everymending_k04_tables_and_facts.Holds := by
  w_on; o_law; k_head; (case hw => w_witness2)
  k_fill
  refine Lw.walk_T (l := PySem.Challenge.rw_everymending_k04_tables_and_facts) (n := 63) (k := 14) (x := "script") (CX := fun _ => L2.CX0) Lw.gnames rfl (by decide) rfl ⟨rfl, by decide, by decide⟩ ?hrec (fun w h Y => PySem.W.kIn_of Y) ?F (fun _ _ _ _ _ h => h)
  case hrec =>
    refine (List.forall_mem_cons.mpr ⟨by kernel_rfl, (List.forall_mem_cons.mpr ⟨by kernel_rfl, fun _ h9 => nomatch h9⟩)⟩)
  case F =>
    intro w mg fa h _ KX G hmg own
    refine' Lw.all_mk KX G hmg own ?hK ?a0 ?l0 ?c0 ?k0 ?a1 ?l1 ?c1 ?k1 ?a2 ?l2 ?c2 ?k2 ?a3 ?l3 ?c3 ?k3 ?a4 ?l4 ?c4 ?k4 ?a5 ?l5 ?c5 ?k5 ?a6 ?l6 ?c6 ?k6 ?a7 ?l7 ?c7 ?k7 ?a8 ?l8 ?c8 ?k8 ?a9 ?l9 ?c9 ?k9 ?a10 ?l10 ?c10 ?k10 ?a11 ?l11 ?c11 ?k11 ?a12 ?l12 ?c12 ?k12 ?a13 ?l13 ?c13 ?k13 ?a14 ?l14 ?c14 ?k14 ?a15 ?l15 ?c15 ?k15 ?a16 ?l16 ?c16 ?k16 ?a17 ?l17 ?c17 ?k17 ?a18 ?l18 ?c18 ?k18 ?t0 ?u0 ?q0 ?n0 ?t1 ?u1 ?q1 ?n1 ?z0 ?z1 ?z2 ?z3 ?z4 ?z5 ?z6 ?z7 ?z8 ?z9 ?z10 ?z11
    case hK => first | exact rfl | k_is | (with_unfolding_all exact rfl)
    (case a0 => k_is); (case l0 => k_is); (case c0 => k_is); (case k0 => k_is); (case a1 => k_is); (case l1 => k_is); (case c1 => k_is); (case k1 => k_is); (case a2 => k_is); (case l2 => k_is); (case c2 => k_is); (case k2 => k_is); (case a3 => k_is); (case l3 => k_is); (case c3 => k_is); (case k3 => k_is); (case a4 => k_is); (case l4 => k_is); (case c4 => k_is); (case k4 => k_is); (case a5 => k_is); (case l5 => k_is); (case c5 => k_is); (case k5 => k_is); (case a6 => k_is); (case l6 => k_is); (case c6 => k_is); (case k6 => k_is); (case a7 => k_is); (case l7 => k_is); (case c7 => k_is); (case k7 => k_is); (case a8 => k_is); (case l8 => k_is); (case c8 => k_is); (case k8 => k_is); (case a9 => k_is); (case l9 => k_is); (case c9 => k_is); (case k9 => k_is); (case a10 => k_is); (case l10 => k_is); (case c10 => k_is); (case k10 => k_is); (case a11 => k_is); (case l11 => k_is); (case c11 => k_is); (case k11 => k_is); (case a12 => k_is); (case l12 => k_is); (case c12 => k_is); (case k12 => k_is); (case a13 => k_is); (case l13 => k_is); (case c13 => k_is); (case k13 => k_is); (case a14 => k_is); (case l14 => k_is); (case c14 => k_is); (case k14 => k_is); (case a15 => k_is); (case l15 => k_is); (case c15 => k_is); (case k15 => k_is); (case a16 => k_is); (case l16 => k_is); (case c16 => k_is); (case k16 => k_is); (case a17 => k_is); (case l17 => k_is); (case c17 => k_is); (case k17 => k_is); (case a18 => k_is); (case l18 => k_is); (case c18 => k_is); (case k18 => k_is)
    (case t0 => first | k_is | exact rfl | kernel_rfl); (case u0 => first | k_is | exact rfl | kernel_rfl); (case q0 => first | k_is | exact rfl | kernel_rfl); (case n0 => first | k_is | exact rfl | kernel_rfl); (case t1 => first | k_is | exact rfl | kernel_rfl); (case u1 => first | k_is | exact rfl | kernel_rfl); (case q1 => first | k_is | exact rfl | kernel_rfl); (case n1 => first | k_is | exact rfl | kernel_rfl)
    (case z0 => k_is); (case z1 => k_is); (case z2 => k_is); (case z3 => k_is); (case z4 => k_is); (case z5 => k_is); (case z6 => k_is); (case z7 => k_is); (case z8 => k_is); (case z9 => k_is); (case z10 => k_is); (case z11 => k_is)
end
