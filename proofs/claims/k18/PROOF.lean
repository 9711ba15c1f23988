import PyProof.Rows.All
import Wide.All
import OpenK.AllK
import Wide.FinOn
import HandS.Base
import HandS.Call
import HandS.List
import HandS.Comp
import HandS.Ends
import HandS.Words
import HandS.Wide
import HandS.WideBits
import HandS.More
import HandS.IsInst
import HandS.CallLocal
import HandS.Text
import HandS.Iter
import HandS.Dict
import HandS.Defaults
import HandS.DeepEq
import HandS.Codes
import HandS.Zip
import HandS.Walk
import HandS.TupAny
import KE.GoesEnum
import KE.GoesMore
import HandS.NoneIn
import PySem.Challenge.RW_beatfabric_k18_widths
set_option Elab.async false
set_option linter.all false
set_option maxRecDepth 100000
set_option maxHeartbeats 4000000
namespace Bf
open PySem PySem.Spec PyProof.Rows L2

/-! ### rules that the layer lacks -/
section
variable {X : Cx}
def rGetL : V → V → Hp → VK → Prop := fun o i H Q => ∃ p xs k v, o = .ref p ∧ i = .int k ∧ H p = some (.lst xs) ∧ atI xs k = some v ∧ Q v H
theorem get_list : PGet X rGetL := by
  intro pins s σ H o i ov iv Q I ro ri h
  obtain ⟨p, xs, k, z, rfl, rfl, hp, he, q⟩ := h
  cases ro
  obtain ⟨t, rfl⟩ := ri
  obtain ⟨its, r, pl, hz⟩ := I.list (SqL.of hp)
  obtain ⟨j, h1, h2, h3, h4, h5⟩ := atI_get he
  obtain ⟨w, ew, rw'⟩ := r.get h2
  have hl := r.length
  have hn := line63
  have fin : EP X pins σ Q w s := ⟨z, H, I, rw', q⟩
  by_cases h0 : 0 ≤ k
  · have hj : k.toNat = j := by
      rw [seqIndex_of h0 h5] at h1
      exact Option.some.inj h1
    refine PySem.wpAny_getItem_list pl.isList h0 (by omega) (by rw [hj]; simpa using ew) fin
  · have hj : (k + (its.toArray.size : Int)).toNat = j := by
      rw [seqIndex_neg (by omega) h4] at h1
      rw [List.size_toArray, ← hl]
      exact Option.some.inj h1
    exact wpAny_getItem_list_neg pl.isList (by omega) (by rw [List.size_toArray] <;> omega) (by omega) (by rw [hj]; simpa using ew) fin

/-- max, min of two numbers that are not negative -/
theorem cr_maxN (hc : X.calm = true) : CallR X (.builtin "max") (fun xs H Q => ∃ i j : Nat, xs = [V.int i, V.int j] ∧ Q (V.int ((max i j : Nat) : Int)) H) := by
  intro pins s σ H vs us Q I r h
  obtain ⟨i, j, rfl, q⟩ := h
  refine call_max2 hc pins s σ H _ us Q I r ⟨i, j, rfl, ?_⟩
  have e : (if (j : Int) > (i : Int) then (j : Int) else (i : Int)) = ((max i j : Nat) : Int) := by
    by_cases h : (j : Int) > i
    · rw [if_pos h, Nat.max_eq_right (by omega)]
    · rw [if_neg h, Nat.max_eq_left (by omega)]
  rw [e]
  exact q
theorem cr_minN (hc : X.calm = true) : CallR X (.builtin "min") (fun xs H Q => ∃ i j : Nat, xs = [V.int i, V.int j] ∧ Q (V.int ((min i j : Nat) : Int)) H) := by
  intro pins s σ H vs us Q I r h
  obtain ⟨i, j, rfl, q⟩ := h
  refine call_min2 hc pins s σ H _ us Q I r ⟨i, j, rfl, ?_⟩
  have e : (if (j : Int) < (i : Int) then (j : Int) else (i : Int)) = ((min i j : Nat) : Int) := by
    by_cases h : (j : Int) < i
    · rw [if_pos h, Nat.min_eq_right (by omega)]
    · rw [if_neg h, Nat.min_eq_left (by omega)]
  rw [e]
  exact q
/-- sum of a tuple of ints -/
def rSumT (K : PySem.W.Frag) : List V → Hp → VK → Prop := fun vs H Q => ∃ (a : Addr) (ns : List Int), vs = [V.ref a] ∧ SqT K H a (ns.map V.int) ∧ Q (.int ns.sum) H
theorem cr_sumT (hc : X.calm = true) : CallR X (.builtin "sum") (rSumT X.K) := by
  intro pins s σ H vs us Q I r h
  obtain ⟨a, ns, rfl, hs, q⟩ := h
  obtain ⟨its, rv, hl, _⟩ := I.tuple hs
  rw [Vals.ref1 r]
  obtain ⟨xs, e⟩ := rv.ints.allInts.items
  have hn : numsOf (intItems xs).toList = ns := by rw [← e]; exact rv.ints.numsOf
  rw [nums_intItems] at hn
  have hl' : s.heap.IsTuple a (intItems xs) := by
    rw [← e]
    exact hl
  refine PySem.W.ktm_sumG (I.ok.hd hc) hl' fun h' tk t' hk => ?_
  rw [preSum_eq, List.take_of_length_le (by simp), hn]
  exact ⟨.int _, H, I.kept hk, ⟨_, rfl⟩, q⟩
end

/-- a def that stands, with its promise -/
def vI (n : Nat) : V := .int (n : Int)
structure Dn (P : Program) (w : World) (K : PySem.W.Frag) (mg : Str → Option Value) (base : Heap) (x : Str) (ps : List Str) (k : Nat) (sp : Sp) : Prop where
  ex : ∃ (f : Addr) (fd : FuncData), FnOk P w K mg base CX0 k f fd ps sp ∧ mg x = some (.ref f) ∧ PySem.W.keepIn K (.ref f) = true ∧ Binds K fd ps []
def tCallD (sp : Sp) (t : TA) : TE := fun σ H Q => t σ H fun vs H1 => sp vs H1 Q E0
section
variable {X : Cx} {x : Str} {ps : List Str} {k : Nat} {sp : Sp} {e : Expr} {es : List Expr} {t : TA} {p pos : Pos}
theorem pe_dn (D : Dn X.prog X.w X.K X.mg X.base x ps k sp) (hr : Room k X.A) (hg : Gl X x) (ha : PA X (e :: es) t) (hdb : (x == ("__debug__" : Str)) = false := by decide)
    (he : starEach (e :: es) X.env = (false, eval e X.env) :: starEach es X.env := by rfl) (hpl : (backTo pos (starEach es X.env)).any (·.1) = false := by rfl) :
    PE X (.Call (.Name x p) (e :: es) [] pos) (tCallD sp t) := by
  obtain ⟨f, fd, F, hm, hk, hb⟩ := D.ex
  refine ⟨fun pins s σ H Q I h => (pe_call (E := E0) F hr hg hm hk hb .nil pass0 ha hdb he hpl).run pins s σ H Q I ?_⟩
  have e0 : (fun (vs : List V) (H1 : Hp) => sp (vs ++ []) H1 Q E0) = fun vs H1 => sp vs H1 Q E0 := by
    funext vs H1
    rw [List.append_nil]
  show t σ H (fun vs H1 => sp (vs ++ []) H1 Q E0)
  rw [e0]
  exact h
theorem pe_dn0 (D : Dn X.prog X.w X.K X.mg X.base x ps k sp) (hr : Room k X.A) (hg : Gl X x) (hdb : (x == ("__debug__" : Str)) = false := by decide) :
    PE X (.Call (.Name x p) [] [] pos) (tCallD sp tNil) := by
  obtain ⟨f, fd, F, hm, hk, hb⟩ := D.ex
  exact ⟨fun pins s σ H Q I h => (pe_call0 (E := E0) F hr hg hm hk hb .nil pass0 hdb).run pins s σ H Q I h⟩
end
/-- the same where the last arguments are defaults -/
structure DnD (P : Program) (w : World) (K : PySem.W.Frag) (mg : Str → Option Value) (base : Heap) (x : Str) (ps : List Str) (dvs : List V) (k : Nat) (sp : Sp) : Prop where
  ex : ∃ (f : Addr) (fd : FuncData) (ds : List Value), FnOk P w K mg base CX0 k f fd ps sp ∧ mg x = some (.ref f) ∧ PySem.W.keepIn K (.ref f) = true ∧ Binds K fd ps ds ∧ Vals dvs ds
theorem pe_dnD {X : Cx} {x : Str} {ps : List Str} {dvs : List V} {k : Nat} {sp : Sp} {e : Expr} {es : List Expr} {t : TA} {p pos : Pos} (D : DnD X.prog X.w X.K X.mg X.base x ps dvs k sp) (hr : Room k X.A) (hg : Gl X x) (ha : PA X (e :: es) t) (hdb : (x == ("__debug__" : Str)) = false := by decide)
    (he : starEach (e :: es) X.env = (false, eval e X.env) :: starEach es X.env := by rfl) (hpl : (backTo pos (starEach es X.env)).any (·.1) = false := by rfl) :
    PE X (.Call (.Name x p) (e :: es) [] pos) (tCall sp dvs E0 t) := by
  obtain ⟨f, fd, ds, F, hm, hk, hb, hv⟩ := D.ex
  exact pe_call (E := E0) F hr hg hm hk hb hv pass0 ha hdb he hpl
/-- a def of the text, its promise: the level a letter -/
theorem Dn.mk' {P : Program} {w : World} {K : PySem.W.Frag} {mg : Str → Option Value} {base : Heap} {x : Str} {st : Stmt} {ps : List Str} {k : Nat} {sp : Sp} {f : Addr} {fd : FuncData}
    (F : Fun K x x st f fd) (hm : mg x = some (.ref f)) (hb : Binds K fd ps []) (ok : FnOk P w K mg base CX0 k f fd ps sp) : Dn P w K mg base x ps k sp :=
  ⟨f, fd, ok, hm, F.kp, hb⟩
end Bf
namespace Bf
open PySem PySem.Spec PyProof.Rows L2
section
variable {X : Cx} {d : Addr} {es : Array DictEntry} {n : Nat}
/-- d[k], d a dict of the module with text keys -/
theorem ix_kd (D : KDict X.K X.w d es n) : IxR X (fun x y H Q => ∃ (z : Str) (u0 : Value) (v0 : V), x = .ref d ∧ y = .str z ∧ PySem.W.nsIn X.K d z = some (some u0) ∧ RelV v0 u0 ∧ Q v0 H) := by
  intro value slice pins s σ H x y v u Q I rx ry h hs
  have h0 := h
  obtain ⟨z, u0, v0, rfl, rfl, e, r, q⟩ := h
  cases rx
  exact tail_any (kd_type D I) PySem.slot_dict_getitem.lookup (op_item_kd D pins s σ H (V.ref d) (V.str z) _ u Q I (show RelV (V.ref d) (Value.ref d) from rfl) ry h0) hs
/-- of several defs that the slot may hold: the def and its promise are told in the reading -/
def tCallH (P : Program) (w : World) (K : PySem.W.Frag) (mg : Str → Option Value) (base : Heap) (k i : Nat) (t : TA) : TE := fun σ H Q => ∃ f sp fd ps, σ[i]? = some (some (.ref f)) ∧ FnOk P w K mg base CX0 k f fd ps sp ∧ PySem.W.keepIn K (.ref f) = true ∧ Binds K fd ps [] ∧ t σ H fun vs H1 => sp vs H1 Q E0
theorem pe_held {i k : Nat} {x : Str} {p pos : Pos} {e : Expr} {es : List Expr} {t : TA} (hr : Room k X.A) (hN : X.N[i]? = some x) (hv : Vis X.env.scope x) (ha : PA X (e :: es) t)
    (hdb : (x == ("__debug__" : Str)) = false := by decide) (hcd : (x == ("__classdict__" : Str)) = false := by decide)
    (he : starEach (e :: es) X.env = (false, eval e X.env) :: starEach es X.env := by rfl) (hpl : (backTo pos (starEach es X.env)).any (·.1) = false := by rfl) : PE X (.Call (.Name x p) (e :: es) [] pos) (tCallH X.prog X.w X.K X.mg X.base k i t) := by
  refine ⟨fun pins s σ H Q I h => ?_⟩
  obtain ⟨f, sp, fd, ps, hs, F, hk, hb, ht⟩ := h
  refine (pe_callL (i := i) (f := f) (sp := sp) (dvs := []) (E := E0) F hr hN hv hk hb .nil pass0 ha hdb hcd he hpl).run pins s σ H Q I ⟨hs, ?_⟩
  have e0 : (fun (vs : List V) (H1 : Hp) => sp (vs ++ []) H1 Q E0) = fun vs H1 => sp vs H1 Q E0 := by
    funext vs H1
    rw [List.append_nil]
  show t σ H (fun vs H1 => sp (vs ++ []) H1 Q E0)
  rw [e0]
  exact ht
end
end Bf

set_option Elab.async false
set_option linter.all false
set_option maxRecDepth 100000
set_option maxHeartbeats 4000000
namespace Bf
open PySem PySem.Spec PyProof.Rows L2
/-! ### small steps of a reading -/
theorem ifY {c : Bool} {A B : Prop} (e : c = true) (h : A) : if c = true then A else B := by
  rw [if_pos e]
  exact h
theorem ifN {c : Bool} {A B : Prop} (e : c = false) (h : B) : if c = true then A else B := by
  rw [e]
  exact iteF h
theorem rdL {K : PySem.W.Frag} {H : Hp} {a : Addr} {xs : List V} {i : Int} {v : V} {Q : VK} (h : SqL K H a xs) (e : atI xs i = some v) (k : Q v H) : rIxL K (.ref a) (.int i) H Q := ⟨a, xs, _, v, rfl, rfl, h, e, k⟩
theorem rdC {v : V} {σ : L2.St} {H : Hp} {Q : VK} (k : Q v H) : tC v σ H Q := k
theorem seqNew {K : PySem.W.Frag} {H : Hp} {a p : Addr} {o : HO} {xs : List V} (hp : H p = none) (h : SqL K H a xs) : SqL K (upd H p o) a xs := by
  rcases h with (h | ⟨u, h⟩) | h
  · exact .inl (.inl (by rw [upd_ne (ne_of_none h hp)]; exact h))
  · exact .inl (.inr ⟨u, by rw [upd_ne (ne_of_none h hp)]; exact h⟩)
  · exact .inr h
theorem le1000 {n : Nat} (h : n ≤ 1000) : n ≤ sizeLine := Nat.le_of_lt (small1000 h)
end Bf

set_option Elab.async false
set_option linter.all false
set_option maxRecDepth 100000
set_option maxHeartbeats 4000000
namespace Bf
open PySem PySem.Spec PyProof.Rows L2
/-! ### d.get(k, x), d a dict of the module with text keys -/
def tKGet2 (K : PySem.W.Frag) (d : Addr) (td ty tx : TE) : TE := fun σ H Q => td σ H fun x H1 => x = .ref d ∧ ty σ H1 fun y H2 => tx σ H2 fun z H3 => ∃ (k : Str) (r : Option Value) (v : V), y = .str k ∧ PySem.W.nsIn K d k = some r ∧ (∀ u, r = some u → RelV v u) ∧ (r = none → v = z) ∧ Q v H3
theorem pe_kget2 {X : Cx} {d : Addr} {es : Array DictEntry} {n : Nat} {o e f : Expr} {apos cpos : Pos} {td ty tx : TE} (D : KDict X.K X.w d es n) (ho : PE X o td) (he : PE X e ty) (hf : PE X f tx) (m : M2 X o "get" apos e f cpos) :
    PE X (.Call (.Attribute o "get" apos) [e, f] [] cpos) (tKGet2 X.K d td ty tx) := by
  refine ⟨fun pins s σ H Q I h => ?_⟩
  refine wpAny_Call_method m.base m.few m.line PySem.F.plainAttrs_dict PySem.F.slot_dict_get PySem.F.type_dict_get (thn (ho.run pins s σ H _ I h) fun u s1 ⟨x, H1, I1, rx, ex, q1⟩ => ?_)
  subst ex
  obtain rfl : u = Value.ref d := rx
  have hm := PySem.W.mapOf_K (prog := X.prog) (w := X.w) I1.kIn D.at_ D.lit
  refine ⟨hm.typeIs, hm.noDict, ?_⟩
  rw [m.trees]
  refine Calls.callWith_builtin rfl (Calls.evalArgs_plain (Calls.spliced_cons (thn (he.run pins s1 σ H1 _ I1 q1) fun iv s2 ⟨y, H2, I2, ry, q2⟩ =>
    Calls.spliced_cons (thn (hf.run pins s2 σ H2 _ I2 q2) fun fv s3 ⟨z, H3, I3, rz, k, r, v, ey, ek, e1, e2, q3⟩ => Calls.spliced_nil ?_))))
  subst ey
  obtain ⟨t, rfl⟩ := ry
  have hm3 := PySem.W.mapOf_K (prog := X.prog) (w := X.w) I3.kIn D.at_ D.lit
  refine call_meetsIn PySem.F.slot_dict_get hm3.typeIs PySem.F.entry_dict_get (PySem.F.args_dict_get_3 _ _ _) (meets_dict_get_default (strKind X.prog X.w) d (PySem.strKind_is X.prog X.w k t) D.low fv) ⟨_, hm3, ?_⟩
  rw [PySem.W.find_K D.at_ ek]
  refine ⟨v, H3, I3.tok _, ?_, q3⟩
  cases r with
  | none =>
    rw [e2 rfl]
    exact rz
  | some u => exact e1 u rfl
/-! ### a < b < c < d as a test -/
def tChain3 (r r' r'' : R2) (ta tb tc td : TE) : TT := fun σ H Q => ta σ H fun x H1 => tb σ H1 fun y H2 => r x y H2 fun z H3 => ∃ k, z = .bl k ∧
  if k = true then (tc σ H3 fun w H4 => r' y w H4 fun z' H5 => ∃ k', z' = .bl k' ∧ if k' = true then (td σ H5 fun u H6 => r'' w u H6 fun z'' H7 => ∃ k'', z'' = .bl k'' ∧ Q k'' H7) else Q false H5) else Q false H3
theorem pt_chain3 {X : Cx} {op op' op'' : CmpOp} {r r' r'' : R2} {a b c d : Expr} {pos : Pos} {ta tb tc td : TE} (ho : OpR X (compareOp op) r) (ho' : OpR X (compareOp op') r') (ho'' : OpR X (compareOp op'') r'') (ha : PE X a ta) (hb : PE X b tb) (hc : PE X c tc) (hd : PE X d td)
    (hm : lastMarks [op, op', op''] [b, c, d] = false := by with_unfolding_all rfl) : PT X (.Compare a [op, op', op''] [b, c, d] pos) (tChain3 r r' r'' ta tb tc td) := by
  refine ⟨fun pins s σ H Q I h => ?_⟩
  refine isTrue_chain (thn (ha.run pins s σ H _ I h) fun v s1 ⟨x, H1, I1, r1, q1⟩ => test_link (thn (hb.run pins s1 σ H1 _ I1 q1) fun u s2 ⟨y, H2, I2, r2, q2⟩ =>
    thn (ho pins s2 σ H2 x y v u _ I2 r1 r2 q2) fun d s3 ⟨z, H3, I3, r3, k, e, q3⟩ => ?_)) hm
  subst e
  cases r3
  refine wpAny_truthy_bool ?_
  cases k with
  | false => exact ite_ff ⟨H3, I3, q3⟩
  | true =>
    refine ite_tt (test_link (thn (hc.run pins s3 σ H3 _ I3 q3) fun w s4 ⟨z', H4, I4, r4, q4⟩ => thn (ho' pins s4 σ H4 y z' u w _ I4 r2 r4 q4) fun d' s5 ⟨z2, H5, I5, r5, k', e', q5⟩ => ?_))
    subst e'
    cases r5
    refine wpAny_truthy_bool ?_
    cases k' with
    | false => exact ite_ff ⟨H5, I5, q5⟩
    | true =>
      refine ite_tt (test_last (thn (hd.run pins s5 σ H5 _ I5 q5) fun w2 s6 ⟨z3, H6, I6, r6, q6⟩ => thn (ho'' pins s6 σ H6 z' z3 w w2 _ I6 r4 r6 q6) fun d2 s7 ⟨z4, H7, I7, r7, k2, e2, q7⟩ => ?_))
      subst e2
      cases r7
      exact wpAny_truthy_bool ⟨H7, I7, q7⟩
end Bf

set_option Elab.async false
set_option linter.all false
set_option maxRecDepth 100000
set_option maxHeartbeats 4000000
namespace Bf
open PySem PySem.Spec PyProof.Rows L2

/-! ### what enumerate and zip walk: a list or a tuple -/
structure Src where
  sq : PySem.W.Frag → Hp → Addr → List V → Prop
  itr : Heap → Addr → Addr → Nat → Prop
  isS : Heap → Addr → Array Value → Prop
  ob : Addr → Obj
  inv : ∀ {X : Cx} {pins : List (Addr × Obj)} {σ : L2.St} {H : Hp} {s : Shared} {a : Addr} {xs : List V}, Inv X pins σ H s → sq X.K H a xs → ∃ its : List Value, Vals xs its ∧ isS s.heap a its.toArray
  inj : ∀ {X : Cx} {pins : List (Addr × Obj)} {σ : L2.St} {H : Hp} {s : Shared} {a : Addr} {xs ys : List V}, Inv X pins σ H s → sq X.K H a xs → sq X.K H a ys → xs = ys
  draws : ∀ {prog : Program} {w : World} {A : Around}, A.handled = none → ∀ (it l : Addr), l ≠ it → ∀ (items : Array Value), Draws prog w A it [it, l] items.size (fun i v => items[i]? = some v) (fun i h => itr h it l i ∧ isS h l items)
  obj : ∀ {h : Heap} {it a : Addr} {i : Nat}, itr h it a i → ∃ o, h.get? it = some o ∧ ∀ v, o.data ≠ .cell v
  at_ : ∀ {h h' : Heap} {it a : Addr} {i : Nat}, itr h it a i → (∀ o, h.get? it = some o → h'.get? it = some o) → itr h' it a i
  beg : ∀ (a : Addr) (items : Array Value), Begins (.ref a) (ob a) (fun h => isS h a items)
  start : ∀ {h : Heap} {it a : Addr}, h.get? it = some (ob a) → itr h it a 0
  lt : ∀ {h : Heap} {a : Addr} {items : Array Value}, isS h a items → a < h.objs.size
  keep : ∀ {K : PySem.W.Frag} {H H' : Hp} {a : Addr} {xs : List V}, Same H H' → sq K H a xs → sq K H' a xs
theorem seqT_same {K : PySem.W.Frag} {H H' : Hp} {a : Addr} {xs : List V} (k : Same H H') (h : SqT K H a xs) : SqT K H' a xs := by
  rcases h with (h | ⟨u, h⟩) | h
  · exact .inl (.inl (k _ _ h))
  · exact .inl (.inr ⟨u, k _ _ h⟩)
  · exact .inr h

def srcL : Src where
  sq := fun K H a xs => SqL K H a xs
  itr := fun h it a i => h.IsListIter it a i
  isS := fun h a items => h.IsList a items
  ob := fun a => { cls := .type "list_iterator", data := .fields #[.ref a, .int 0 0] }
  inv := fun I h => let ⟨its, r, p, _⟩ := I.list h; ⟨its, r, p.isList⟩
  inj := fun I h h' => I.list_inj h h'
  draws := fun hh it l hne items => Draws.list hh it l hne items
  obj := fun ⟨o, e, c, d⟩ => ⟨o, e, fun v z => by rw [d] at z; cases z⟩
  at_ := fun x k => x.at k
  beg := fun a items => begins_list a items
  start := fun e => ⟨_, e, rfl, rfl⟩
  lt := fun ⟨o, e, _⟩ => Heap.lt_size e
  keep := fun k h => k.seq h

def srcT : Src where
  sq := fun K H a xs => SqT K H a xs
  itr := fun h it a i => h.IsTupleIter it a i
  isS := fun h a items => h.IsTuple a items
  ob := fun a => { cls := .type "tuple_iterator", data := .fields #[.ref a, .int 0 0] }
  inv := fun I h => let ⟨its, r, p, _⟩ := I.tuple h; ⟨its, r, p⟩
  inj := fun I h h' => I.tuple_inj h h'
  draws := fun hh it l hne items => Draws.tuple hh it l hne items
  obj := fun ⟨o, e, c, d⟩ => ⟨o, e, fun v z => by rw [d] at z; cases z⟩
  at_ := fun x k => x.at k
  beg := fun a items => begins_tuple a items
  start := fun e => ⟨_, e, rfl, rfl⟩
  lt := fun ⟨o, e, _⟩ => Heap.lt_size e
  keep := fun k h => seqT_same k h

/-! ### enumerate -/
def ItE (S : Src) (K : PySem.W.Frag) (a : Addr) : It :=
  ⟨fun i H => ∃ (xs : List V) (x : V), S.sq K H a xs ∧ xs[i]? = some x, fun i H v H' => ∃ T x, v = .ref T ∧ H T = none ∧ H' = upd H T (.tup [.int (i : Nat), x]) ∧ ∀ xs, S.sq K H a xs → xs[i]? = some x, fun i H => ∃ xs : List V, S.sq K H a xs ∧ xs.length = i⟩

theorem turn_enumG (S : Src) {P : Program} {w : World} {K : PySem.W.Frag} {elts : List Expr} {kk : Nat} {tpos : Pos} (a e it : Addr) :
    Turn P w K (.Tuple elts kk tpos) (ItE S K a) [e, it] e (fun i h => (∃ old, IsEnum h e it ((i : Nat) : Int) old) ∧ S.itr h it a i ∧ e ≠ it ∧ e ≠ a ∧ a ≠ it) where
  mem := by simp
  obj := fun i h st b hb => by
    obtain ⟨⟨old, he⟩, hi, _⟩ := st
    have e' : b = e ∨ b = it := by simpa using hb
    rcases e' with z | z
    · rw [z]; exact ⟨_, he, fun v q => nomatch q⟩
    · rw [z]; exact S.obj hi
  keep := fun i h h' st k => let ⟨⟨old, he⟩, hi, r⟩ := st; ⟨⟨old, k e (by simp) _ he⟩, S.at_ hi fun o q => k it (by simp) o q, r⟩
  item := by
    intro X hP hw hK hc i pins s σ H E I hf st hg
    subst hP hw hK
    obtain ⟨⟨old, he⟩, hit, hne, hea, hai⟩ := st
    obtain ⟨xs, x, hq, hx⟩ := hg
    obtain ⟨its, rv, p⟩ := S.inv I hq
    obtain ⟨u, hu, ru⟩ := rv.get hx
    have hel : e < s.heap.objs.size := Heap.lt_size he
    have hil : it < s.heap.objs.size := by obtain ⟨_, q, _⟩ := S.obj hit; exact Heap.lt_size q
    have hlt : i < its.toArray.size := by
      have q := (List.getElem?_eq_some_iff.mp hu).1
      simpa using q
    refine wpAny_pyNext_enum_itemD (S.draws (show X.A.in1.handled = none from I.ok.hd hc) it a hai its.toArray) he ⟨hit, p⟩ hlt hne (by simp [hne, hea]) fun v h' tk hv ho hst hT hsz hk => ?_
    have ev : u = v := by
      have q : its[i]? = some v := by simpa using hv
      rw [hu] at q; cases q; rfl
    subst ev
    refine ⟨_, rfl, wpAny_letOwnedTupleGo_enum (s := { s with heap := h', toks := tk + 1 }) ho fun h'' he' sb => ?_⟩
    have hT2 : h''.get? s.heap.objs.size = some { cls := .type "tuple", data := .seq #[.int i tk, u] } := (sb.2 _ (Nat.ne_of_gt hel)).trans hT
    have new : ObjOk X.prog X.w (upd H s.heap.objs.size (.tup [.int (i : Nat), x])) h'' s.heap.objs.size (.tup [.int (i : Nat), x]) :=
      ⟨by show 2 ≤ sizeLine; decide, [.int i tk, u], .cons ⟨_, rfl⟩ (.cons ru .nil), ⟨_, hT2, rfl, _, rfl⟩⟩
    have I1 : Inv X pins σ (upd H s.heap.objs.size (.tup [.int (i : Nat), x])) { s with heap := h'', toks := tk + 1 } :=
      I.turnedNew (ch := [e, it]) (fun b ob hb q => (sb.2 b (fun z => hb (by simp [z]))).trans (hk b ob (fun z => hb (by simp [z])) (fun z => hb (by simp [z])) q)) hf (Nat.le_refl _) new
    refine ⟨.ref s.heap.objs.size, _, I1, rfl, ⟨_, x, rfl, I.hok.fresh (Nat.le_refl _), rfl, fun ys hy => by rw [S.inj I hy hq]; exact hx⟩, ⟨⟨u, ?_⟩, S.at_ hst.1 fun o q => (sb.2 it (Ne.symm hne)).trans q, hne, hea, hai⟩, fun b hb => ?_⟩
    · have e1 : ((i + 1 : Nat) : Int) = (i : Int) + 1 := by omega
      rw [e1]; exact he'
    · have hb' : b < s.heap.objs.size := by
        have e' : b = e ∨ b = it := by simpa using hb
        rcases e' with z | z
        · rw [z]; exact hel
        · rw [z]; exact hil
      rw [upd_ne (Nat.ne_of_lt hb')]
      exact (hf b hb).1
  done := by
    intro X hP hw hK hc i pins s σ H E I hf st hg
    subst hP hw hK
    obtain ⟨⟨old, he⟩, hit, hne, hea, hai⟩ := st
    obtain ⟨xs, hq, hx⟩ := hg
    obtain ⟨its, rv, p⟩ := S.inv I hq
    obtain ⟨f0, f1, f2, f3, f4, f5⟩ := hf it (by simp)
    have hl := rv.length
    have hn : its.toArray.size = i := by rw [List.size_toArray]; omega
    subst hn
    exact wpAny_pyNext_enum_endD (S.draws (show X.A.in1.handled = none from I.ok.hd hc) it a hai its.toArray) he ⟨hit, p⟩ fun h' eb => ⟨rfl, I.turned (t' := s.toks) (fun b o hb q => eb b o hb q) f0 f1 f3 f4 f5⟩
  self := fun A i s Q E st h => let ⟨⟨_, he⟩, _⟩ := st; wpAny_pyIter_enum he h

theorem meets_enum_new0 {v : Value} {o : Obj} {H : Heap → Prop} (B : Begins v o H) :
    Meets (Builtin.«enumerate.__new__» ⟨[.type "enumerate", v], []⟩) (fun _ R s => H s.heap ∧
      R (.ok (.ret (.ref (s.heap.push o).objs.size))) { s with heap := (s.heap.push o).push { cls := .type "enumerate", data := .fields #[.none, .bool false, .ref s.heap.objs.size, rawInt 0, .none, .none] } }) :=
  .of_wp fun prog w A R s h => by
    obtain ⟨hp, g, d, tk, os⟩ := s; obtain ⟨h1, h⟩ := h
    have hsub := sub_enumerate
    have q1 : ∀ {A' : Around} {E : Value → Shared → Prop} {Q : Value → Shared → Prop}, Q (.ref hp.objs.size) ⟨hp.push o, g, d, tk, os⟩ → wpAny (model prog w) A' (pyIter v) Q E ⟨hp, g, d, tk, os⟩ :=
      fun q => B.iter prog w _ _ ⟨hp, g, d, tk, os⟩ _ h1 q
    wp_walk using q1
    refine wpAny_stack_any fun st => wpAny_pure ?_
    split
    · rename_i c _ _ _ _ _
      cases (c == Value.type "enumerate")
      · wp_walk using q1
        exact ⟨_, rfl, h⟩
      · wp_walk using q1
        exact ⟨_, rfl, h⟩
    · wp_walk using q1
      exact ⟨_, rfl, h⟩
section
variable {prog : Program} {w : World} {A : Around} {E : Value → Shared → Prop} {s : Shared}
theorem enum_begins0 {v : Value} {o : Obj} {H : Heap → Prop} {Q : Value → Shared → Prop} (B : Begins v o H) (h1 : H s.heap)
    (h : ∀ h', IsEnum h' (s.heap.objs.size + 1) s.heap.objs.size 0 .none → h'.get? s.heap.objs.size = some o → h'.objs.size = s.heap.objs.size + 2 →
      (∀ b o, s.heap.get? b = some o → h'.get? b = some o) → Q (.ref (s.heap.objs.size + 1)) { s with heap := h' }) :
    wpAny (model prog w) A (call (.type "enumerate") [v]) Q E s := by
  refine callType_new F.called_enumerate (by decide) (F.typeCall_enumerate_1 _) (F.newCall_enumerate_1 _) (fun obj => F.args_object_init_2 obj _) F.entry_enumerate_new
    (meets_enum_new0 B) ⟨h1, ?_⟩
  have hz : (s.heap.push o).objs.size = s.heap.objs.size + 1 := Heap.size_push ..
  show _ ∧ _
  rw [hz]
  have he : IsEnum ((s.heap.push o).push { cls := .type "enumerate", data := .fields #[.none, .bool false, .ref s.heap.objs.size, rawInt 0, .none, .none] }) (s.heap.objs.size + 1) s.heap.objs.size 0 .none := by
    have := Heap.get?_push_size (s.heap.push o) (o := { cls := .type "enumerate", data := .fields #[.none, .bool false, .ref s.heap.objs.size, rawInt 0, .none, .none] }) rfl
    rw [hz] at this; exact this
  exact ⟨⟨_, he, rfl⟩, h _ he (Heap.get?_push_of_some _ (Heap.get?_push_size _ B.free)) (by rw [Heap.size_push, hz]) fun b o x => Heap.get?_push_of_some _ (Heap.get?_push_of_some _ x)⟩
end
def iEnG (S : Src) (K : PySem.W.Frag) (ta : TA) : TI := fun σ H R => ta σ H fun vs H1 => ∃ a xs, vs = [.ref a] ∧ S.sq K H1 a xs ∧ R (ItE S K a) H1
theorem enumG_run (S : Src) {X : Cx} {pins : List (Addr × Obj)} {σ : L2.St} {H1 : Hp} {s1 : Shared} {us : List Value} {vs : List V} {elts : List Expr} {kk : Nat} {tpos : Pos} {R : It → Hp → Prop} (I1 : Inv X pins σ H1 s1) (r1 : Vals vs us)
    (q1 : ∃ (a : Addr) (xs : List V), vs = [.ref a] ∧ S.sq X.K H1 a xs ∧ R (ItE S X.K a) H1) :
    wpAny (model X.prog X.w) X.A (call (.type "enumerate") us) (fun v s1 => wpAny (model X.prog X.w) X.A (pyIter v) (PIE X pins σ (.Tuple elts kk tpos) R) X.xe s1) X.xe s1 := by
  obtain ⟨a, xs, ex, hq, q⟩ := q1
  subst ex
  cases r1 with
  | cons r rr =>
    cases rr
    cases r
    obtain ⟨its, rv, p'⟩ := S.inv I1 hq
    have la := S.lt p'
    refine enum_begins0 (S.beg a its.toArray) p' fun h' he hit hsz hk => wpAny_pyIter_enum he ?_
    have I2 : Inv X pins σ H1 { s1 with heap := h' } := I1.kept (t' := s1.toks) hk
    refine ⟨s1.heap.objs.size + 1, [s1.heap.objs.size + 1, s1.heap.objs.size], _, _, H1, rfl, I2, turn_enumG S a (s1.heap.objs.size + 1) s1.heap.objs.size, ⟨⟨.none, he⟩, S.start hit, Nat.succ_ne_self _, Nat.ne_of_gt (Nat.lt_succ_of_lt la), Nat.ne_of_lt la⟩, fun b hb => ?_, q⟩
    have e' : b = s1.heap.objs.size + 1 ∨ b = s1.heap.objs.size := by simpa using hb
    have hle : s1.heap.objs.size ≤ b := by
      rcases e' with z | z
      · rw [z]; exact Nat.le_add_right _ _
      · rw [z]; exact Nat.le_refl _
    exact I1.fpOk hle (I1.hok.fresh hle)

/-! ### zip of two -/
def ItZ (S1 S2 : Src) (K : PySem.W.Frag) (a b : Addr) : It :=
  ⟨fun i H => ∃ (xs ys : List V) (x y : V), S1.sq K H a xs ∧ S2.sq K H b ys ∧ xs[i]? = some x ∧ ys[i]? = some y,
    fun i H v H' => ∃ T x y, v = .ref T ∧ H T = none ∧ H' = upd H T (.tup [x, y]) ∧ (∀ xs, S1.sq K H a xs → xs[i]? = some x) ∧ ∀ ys, S2.sq K H b ys → ys[i]? = some y,
    fun i H => ∃ xs ys : List V, S1.sq K H a xs ∧ S2.sq K H b ys ∧ i ≤ xs.length ∧ i ≤ ys.length ∧ (i = xs.length ∨ i = ys.length)⟩
theorem turn_zipG (S1 S2 : Src) {P : Program} {w : World} {K : PySem.W.Frag} {elts : List Expr} {kk : Nat} {tpos : Pos} {a b z TI TO i1 i2 : Addr} (D : ZipSep2 z TI TO i1 i2 [i1, a] [i2, b]) (ha1 : a ≠ i1) (hb2 : b ≠ i2) :
    Turn P w K (.Tuple elts kk tpos) (ItZ S1 S2 K a b) [z, TI, TO, i1, i2] z (fun i h => IsZip h z TI TO .none ∧ IsTupOf2 h TI (.ref i1) (.ref i2) ∧ (∃ x y, IsTupOf2 h TO x y) ∧ S1.itr h i1 a i ∧ S2.itr h i2 b i) where
  mem := by simp
  obj := fun i h st c hc => by
    obtain ⟨hz, hTI, ⟨x, y, hTO⟩, h1, h2⟩ := st
    have e' : c = z ∨ c = TI ∨ c = TO ∨ c = i1 ∨ c = i2 := by simpa using hc
    rcases e' with q | q | q | q | q
    · rw [q]; exact ⟨_, hz, fun v q => nomatch q⟩
    · rw [q]; exact ⟨_, hTI, fun v q => nomatch q⟩
    · rw [q]; exact ⟨_, hTO, fun v q => nomatch q⟩
    · rw [q]; exact S1.obj h1
    · rw [q]; exact S2.obj h2
  keep := fun i h h' st k => by
    obtain ⟨hz, hTI, ⟨x, y, hTO⟩, h1, h2⟩ := st
    exact ⟨k z (by simp) _ hz, k TI (by simp) _ hTI, ⟨x, y, k TO (by simp) _ hTO⟩, S1.at_ h1 fun o q => k i1 (by simp) o q, S2.at_ h2 fun o q => k i2 (by simp) o q⟩
  item := by
    intro X hP hw hK hc i pins s σ H E I hf st hg
    subst hP hw hK
    obtain ⟨hz, hTI, ⟨x0, y0, hTO⟩, h1, h2⟩ := st
    obtain ⟨xs, ys, x, y, hqx, hqy, hx, hy⟩ := hg
    obtain ⟨its, rv, p⟩ := S1.inv I hqx
    obtain ⟨its2, rv2, p2⟩ := S2.inv I hqy
    obtain ⟨u, hu, ru⟩ := rv.get hx
    obtain ⟨u2, hu2, ru2⟩ := rv2.get hy
    have hzl : z < s.heap.objs.size := Heap.lt_size hz
    have hlt : i < its.toArray.size := by
      have q := (List.getElem?_eq_some_iff.mp hu).1
      simpa using q
    have hlt2 : i < its2.toArray.size := by
      have q := (List.getElem?_eq_some_iff.mp hu2).1
      simpa using q
    have hh : X.A.in1.handled = none := I.ok.hd hc
    refine wpAny_pyNext_zipD2_item D (S1.draws hh i1 a ha1 its.toArray) (S2.draws hh i2 b hb2 its2.toArray) hz hTI hTO ⟨h1, p⟩ ⟨h2, p2⟩ hlt hlt2 fun v v2 h' tk hv hv2 z' TO' st1 st2 hT hsz hk => ?_
    have ev : u = v := by
      have q : its[i]? = some v := by simpa using hv
      rw [hu] at q; cases q; rfl
    have ev2 : u2 = v2 := by
      have q : its2[i]? = some v2 := by simpa using hv2
      rw [hu2] at q; cases q; rfl
    subst ev ev2
    refine ⟨_, rfl, wpAny_letOwnedTupleGo_zip (s := { s with heap := h', toks := tk }) z' fun h'' z'' sb => ?_⟩
    have hT2 : h''.get? s.heap.objs.size = some { cls := .type "tuple", data := .seq #[u, u2] } := (sb.2 _ (Nat.ne_of_gt hzl)).trans hT
    have new : ObjOk X.prog X.w (upd H s.heap.objs.size (.tup [x, y])) h'' s.heap.objs.size (.tup [x, y]) :=
      ⟨by show 2 ≤ sizeLine; decide, [u, u2], .cons ru (.cons ru2 .nil), ⟨_, hT2, rfl, _, rfl⟩⟩
    have I1 : Inv X pins σ (upd H s.heap.objs.size (.tup [x, y])) { s with heap := h'', toks := tk } :=
      I.turnedNew (ch := [z, TI, TO, i1, i2]) (fun c o hb q => (sb.2 c (fun q' => hb (by simp [q']))).trans (hk c o (fun q' => hb (by simp [q'])) (fun q' => hb (by simp [q'])) (fun q' => hb (by simp [q'])) (fun q' => hb (by simp [q'])) q)) hf (Nat.le_refl _) new
    have zi1 : i1 ≠ z := fun q => D.zf1 (by simp [q])
    have zi2 : i2 ≠ z := fun q => D.zf2 (by simp [q])
    refine ⟨.ref s.heap.objs.size, _, I1, rfl, ⟨_, x, y, rfl, I.hok.fresh (Nat.le_refl _), rfl, fun l hl => by rw [S1.inj I hl hqx]; exact hx, fun l hl => by rw [S2.inj I hl hqy]; exact hy⟩, ⟨z'', ?_, ⟨u, u2, ?_⟩, ?_, ?_⟩, fun c hcm => ?_⟩
    · exact (sb.2 _ D.TIz).trans (hk _ _ D.TIz D.TITO D.TIi1 D.TIi2 hTI)
    · exact (sb.2 _ D.TOz).trans TO'
    · exact S1.at_ st1.1 fun o q => (sb.2 _ zi1).trans q
    · exact S2.at_ st2.1 fun o q => (sb.2 _ zi2).trans q
    · have hlt : c < s.heap.objs.size := by
        have e' : c = z ∨ c = TI ∨ c = TO ∨ c = i1 ∨ c = i2 := by simpa using hcm
        rcases e' with q | q | q | q | q
        · rw [q]; exact hzl
        · rw [q]; exact Heap.lt_size hTI
        · rw [q]; exact Heap.lt_size hTO
        · rw [q]; obtain ⟨_, e1, _⟩ := S1.obj h1; exact Heap.lt_size e1
        · rw [q]; obtain ⟨_, e2, _⟩ := S2.obj h2; exact Heap.lt_size e2
      rw [upd_ne (Nat.ne_of_lt hlt)]
      exact (hf c hcm).1
  done := by
    intro X hP hw hK hc i pins s σ H E I hf st hg
    subst hP hw hK
    obtain ⟨hz, hTI, ⟨x0, y0, hTO⟩, h1, h2⟩ := st
    obtain ⟨xs, ys, hqx, hqy, le1, le2, hend⟩ := hg
    obtain ⟨its, rv, p⟩ := S1.inv I hqx
    obtain ⟨its2, rv2, p2⟩ := S2.inv I hqy
    have l1 := rv.length
    have l2 := rv2.length
    have hh : X.A.in1.handled = none := I.ok.hd hc
    exact wpAny_pyNext_zipD2_end D (S1.draws hh i1 a ha1 its.toArray) (S2.draws hh i2 b hb2 its2.toArray) hz hTI hTO ⟨h1, p⟩ ⟨h2, p2⟩ (by rw [List.size_toArray]; omega) (by rw [List.size_toArray]; omega)
      (by rw [List.size_toArray, List.size_toArray]; omega) fun h' tk hk => ⟨rfl, I.turnedL (t' := tk) (ch := [z, TI, TO, i1, i2]) (fun c o hb q =>
      hk c o (fun q' => hb (by simp [q'])) (fun q' => hb (by simp [q'])) (fun q' => hb (by simp [q'])) (fun q' => hb (by simp [q'])) q) hf⟩
  self := fun A i s Q E st h => wpAny_pyIter_zip st.1 h
def iZpG (S1 S2 : Src) (K : PySem.W.Frag) (ta : TA) : TI := fun σ H R => ta σ H fun vs H1 => ∃ a b xs ys, vs = [.ref a, .ref b] ∧ S1.sq K H1 a xs ∧ S2.sq K H1 b ys ∧ R (ItZ S1 S2 K a b) H1
theorem zipG_run (S1 S2 : Src) {X : Cx} {pins : List (Addr × Obj)} {σ : L2.St} {H1 : Hp} {s1 : Shared} {us : List Value} {vs : List V} {elts : List Expr} {kk : Nat} {tpos : Pos} {R : It → Hp → Prop} (I1 : Inv X pins σ H1 s1) (r1 : Vals vs us)
    (q1 : ∃ (a b : Addr) (xs ys : List V), vs = [.ref a, .ref b] ∧ S1.sq X.K H1 a xs ∧ S2.sq X.K H1 b ys ∧ R (ItZ S1 S2 X.K a b) H1) :
    wpAny (model X.prog X.w) X.A (call (.type "zip") us) (fun v s1 => wpAny (model X.prog X.w) X.A (pyIter v) (PIE X pins σ (.Tuple elts kk tpos) R) X.xe s1) X.xe s1 := by
  obtain ⟨a, b, xs, ys, ex, hqx, hqy, q⟩ := q1
  subst ex
  cases r1 with
  | cons r rr =>
    cases rr with
    | cons r' rr =>
      cases rr
      cases r
      cases r'
      obtain ⟨its, rv, p1⟩ := S1.inv I1 hqx
      obtain ⟨its2, rv2, p2⟩ := S2.inv I1 hqy
      have la := S1.lt p1
      have lb := S2.lt p2
      refine zip_begins2 (S1.beg a its.toArray) (S2.beg b its2.toArray) p1 p2 fun h' hz hTI hTO h1 h2 hsz hk => wpAny_pyIter_zip hz ?_
      have I2 : Inv X pins σ H1 { s1 with heap := h' } := I1.kept (t' := s1.toks) hk
      refine ⟨s1.heap.objs.size + 4, [s1.heap.objs.size + 4, s1.heap.objs.size + 2, s1.heap.objs.size + 3, s1.heap.objs.size, s1.heap.objs.size + 1], _, _, H1, rfl, I2,
        turn_zipG S1 S2 (zip_sep2 (fp1 := [a]) (fp2 := [b]) (by intro c hc; rw [List.mem_singleton.mp hc]; exact la) (by intro c hc; rw [List.mem_singleton.mp hc]; exact lb)) (Nat.ne_of_lt la) (Nat.ne_of_lt (Nat.lt_succ_of_lt lb)),
        ⟨hz, hTI, ⟨_, _, hTO⟩, S1.start h1, S2.start h2⟩, fun c hcm => ?_, q⟩
      have e' : c = s1.heap.objs.size + 4 ∨ c = s1.heap.objs.size + 2 ∨ c = s1.heap.objs.size + 3 ∨ c = s1.heap.objs.size ∨ c = s1.heap.objs.size + 1 := by simpa using hcm
      have hle : s1.heap.objs.size ≤ c := by
        rcases e' with z | z | z | z | z
        · rw [z]; exact Nat.le_add_right _ _
        · rw [z]; exact Nat.le_add_right _ _
        · rw [z]; exact Nat.le_add_right _ _
        · rw [z]; exact Nat.le_refl _
        · rw [z]; exact Nat.le_add_right _ _
      exact I1.fpOk hle (I1.hok.fresh hle)

/-! ### for over them -/
theorem for_enumG (S : Src) {K : PySem.W.Frag} {a : Addr} {xs : List V} {g : TG} {tb : TS} {D : Ends} {σ : L2.St} {H : Hp} (Pv : Nat → L2.St → Hp → Prop) (h0 : Pv 0 σ H) (hq : ∀ i σ H, Pv i σ H → S.sq K H a xs)
    (hs : ∀ (i : Nat) (x : V) (T : Addr) (σ : L2.St) (H : Hp), xs[i]? = some x → Pv i σ H → H T = none → g (.ref T) σ (upd H T (.tup [.int (i : Nat), x])) fun σ2 H2 => tb { D with nx := Pv (i + 1), ct := Pv (i + 1), bk := D.nx } σ2 H2) (hd : ∀ σ H, Pv xs.length σ H → D.nx σ H) :
    ∃ W : Nat → Nat → L2.St → Hp → Prop, (∃ m, W 0 m σ H) ∧ ∀ i m σ H, W i m σ H →
      ((ItE S K a).stop i H ∧ D.nx σ H) ∨ ((ItE S K a).go i H ∧ ∃ N : L2.St → Hp → Prop, (∀ σ' H', N σ' H' → ∃ m', m' < m ∧ W (i + 1) m' σ' H') ∧ ∀ v H', (ItE S K a).yld i H v H' → g v σ H' fun σ2 H2 => tb { D with nx := N, ct := N, bk := D.nx } σ2 H2) := by
  refine ⟨fun i m σ H => m = xs.length - i ∧ i ≤ xs.length ∧ Pv i σ H, ⟨xs.length, rfl, Nat.zero_le _, h0⟩, ?_⟩
  rintro i m σ H ⟨rfl, hi, p⟩
  have qx := hq i σ H p
  by_cases hlt : i < xs.length
  · have hx : xs[i]? = some xs[i] := List.getElem?_eq_getElem hlt
    refine .inr ⟨⟨xs, _, qx, hx⟩, Pv (i + 1), fun σ' H' p' => ⟨xs.length - (i + 1), by omega, rfl, hlt, p'⟩, fun v H' y => ?_⟩
    obtain ⟨T, x', rfl, hT, rfl, f1⟩ := y
    exact hs i x' T σ H (f1 xs qx) p hT
  · have e : i = xs.length := by omega
    subst e
    exact .inl ⟨⟨xs, qx, rfl⟩, hd σ H p⟩
theorem for_zipG (S1 S2 : Src) {K : PySem.W.Frag} {a b : Addr} {xs ys : List V} {g : TG} {tb : TS} {D : Ends} {σ : L2.St} {H : Hp} (hl : xs.length = ys.length) (Pv : Nat → L2.St → Hp → Prop) (h0 : Pv 0 σ H) (hq : ∀ i σ H, Pv i σ H → S1.sq K H a xs ∧ S2.sq K H b ys)
    (hs : ∀ (i : Nat) (x y : V) (T : Addr) (σ : L2.St) (H : Hp), xs[i]? = some x → ys[i]? = some y → Pv i σ H → H T = none → g (.ref T) σ (upd H T (.tup [x, y])) fun σ2 H2 => tb { D with nx := Pv (i + 1), ct := Pv (i + 1), bk := D.nx } σ2 H2) (hd : ∀ σ H, Pv xs.length σ H → D.nx σ H) :
    ∃ W : Nat → Nat → L2.St → Hp → Prop, (∃ m, W 0 m σ H) ∧ ∀ i m σ H, W i m σ H →
      ((ItZ S1 S2 K a b).stop i H ∧ D.nx σ H) ∨ ((ItZ S1 S2 K a b).go i H ∧ ∃ N : L2.St → Hp → Prop, (∀ σ' H', N σ' H' → ∃ m', m' < m ∧ W (i + 1) m' σ' H') ∧ ∀ v H', (ItZ S1 S2 K a b).yld i H v H' → g v σ H' fun σ2 H2 => tb { D with nx := N, ct := N, bk := D.nx } σ2 H2) := by
  refine ⟨fun i m σ H => m = xs.length - i ∧ i ≤ xs.length ∧ Pv i σ H, ⟨xs.length, rfl, Nat.zero_le _, h0⟩, ?_⟩
  rintro i m σ H ⟨rfl, hi, p⟩
  obtain ⟨qx, qy⟩ := hq i σ H p
  by_cases hlt : i < xs.length
  · have hx : xs[i]? = some xs[i] := List.getElem?_eq_getElem hlt
    have hlt2 : i < ys.length := by omega
    have hy : ys[i]? = some ys[i] := List.getElem?_eq_getElem hlt2
    refine .inr ⟨⟨xs, ys, _, _, qx, qy, hx, hy⟩, Pv (i + 1), fun σ' H' p' => ⟨xs.length - (i + 1), by omega, rfl, hlt, p'⟩, fun v H' y => ?_⟩
    obtain ⟨T, x', y', rfl, hT, rfl, f1, f2⟩ := y
    exact hs i x' y' T σ H (f1 xs qx) (f2 ys qy) p hT
  · have e : i = xs.length := by omega
    subst e
    exact .inl ⟨⟨xs, ys, qx, qy, Nat.le_refl _, by omega, .inl rfl⟩, hd σ H p⟩

/-! ### two tuples of the same numbers -/
theorem canLay_ints : ∀ ns : List Nat, PyData.canLayAll0 (ns.map fun n : Nat => PyData.int (n : Int)) = true
  | [] => by simp [PyData.canLayAll0]
  | n :: r => by
    rw [List.map_cons, PyData.canLayAll0, canLay_ints r]
    simp [PyData.canLay0]
theorem depth_ints : ∀ ns : List Nat, PyData.depthAll (ns.map fun n : Nat => PyData.int (n : Int)) ≤ 1
  | [] => by simp [PyData.depthAll]
  | n :: r => by
    have := depth_ints r
    rw [List.map_cons, PyData.depthAll]
    simp [PyData.depth] <;> omega
theorem dp_ints {K : PySem.W.Frag} {H : Hp} : ∀ ns : List Nat, DpAll K H (ns.map vI) (ns.map fun n : Nat => PyData.int (n : Int))
  | [] => .nil
  | n :: r => .cons (.int _) (dp_ints r)
theorem shaped_ints (ns : List Nat) : SeqAt.shaped (.tuple (ns.map fun n : Nat => PyData.int (n : Int))) = true := by
  have h := depth_ints ns
  unfold SeqAt.shaped
  rw [PyData.canLay0, canLay_ints, Bool.true_and]
  refine decide_eq_true ?_
  rw [PyData.depth]
  omega
def rNeI (K : PySem.W.Frag) : R2 := fun x y H Q => ∃ (a b : Addr) (ns : List Nat), x = .ref a ∧ y = .ref b ∧ SqT K H a (ns.map vI) ∧ SqT K H b (ns.map vI) ∧ Q (.bl false) H
theorem op_neI {X : Cx} (hu : X.A.units + 64 < cLine) : OpR X (compareOp .NotEq) (rNeI X.K) := by
  intro pins s σ H x y v u Q I rx ry h
  obtain ⟨a, b, ns, rfl, rfl, ha, hb, q⟩ := h
  refine op_neD hu pins s σ H _ _ v u Q I rx ry ⟨_, _, .tup ha (dp_ints ns), .tup hb (dp_ints ns), shaped_ints ns, shaped_ints ns, ?_⟩
  rw [SeqAt.eqv_refl _ (SeqAt.canLay_of_shaped (shaped_ints ns))]
  exact q
def rEqI (K : PySem.W.Frag) : R2 := fun x y H Q => ∃ (a b : Addr) (ns : List Nat), x = .ref a ∧ y = .ref b ∧ SqT K H a (ns.map vI) ∧ SqT K H b (ns.map vI) ∧ Q (.bl true) H
theorem op_eqI {X : Cx} (hu : X.A.units + 64 < cLine) : OpR X (compareOp .Eq) (rEqI X.K) := by
  intro pins s σ H x y v u Q I rx ry h
  obtain ⟨a, b, ns, rfl, rfl, ha, hb, q⟩ := h
  refine op_eqD hu pins s σ H _ _ v u Q I rx ry ⟨_, _, .tup ha (dp_ints ns), .tup hb (dp_ints ns), shaped_ints ns, shaped_ints ns, ?_⟩
  rw [SeqAt.eqv_refl _ (SeqAt.canLay_of_shaped (shaped_ints ns))]
  exact q

/-! ### list.extend(tuple) -/
theorem ext_tupA (l : Addr) (items : Array Value) (n : Nat) (b : Addr) (items2 : Array Value) (n2 : Nat) (dd : Option Addr) (sl : Array (Option Value)) (hs0 : ¬(!items.isEmpty && Builtin.List.listTooLong (items.size + items2.size)) = true) (hs1 : items.size ≤ sizeLine) (hs2 : items.size + items2.size ≤ sizeLine + 1) :
    Meets (Builtin.«list.extend» ⟨[.ref l, .ref b], []⟩) (fun _ R s => s.heap.get? l = some { cls := .type "list", dict := none, data := .seq items n, slots := #[] } ∧ s.heap.get? b = some { cls := .type "tuple", dict := dd, data := .seq items2 n2, slots := sl } ∧ R (.ok (.ret Value.none)) { s with heap := s.heap.update l (Obj.mapSeq fun x => x ++ items2), toks := s.toks }) :=
  .of_wp fun prog w A R s h => by
    obtain ⟨hp, g, d, tk, os⟩ := s; obtain ⟨hl, hb, h⟩ := h; have f2 := sub_tuple_tuple; have f3 := sub_list_list; have f4 := sub_tuple_list; have f5 := sub_list_tuple
    have hz' : (items ++ items2).size ≤ sizeLine + 1 := by rw [Array.size_append]; exact hs2
    wp_walk using (wpAny_updateSeq hl rfl (hz := hs1) (_hz' := hz')), wpAny_loadPart' hl, wpAny_loadPart' hb
    exact ⟨_, rfl, h⟩
def rExtT (K : PySem.W.Frag) : V → List V → Hp → VK → Prop := fun x vs H Q => ∃ l b xs zs, x = .ref l ∧ vs = [.ref b] ∧ H l = some (.lst xs) ∧ SqT K H b zs ∧ xs.length + zs.length ≤ sizeLine ∧ Q .non (upd H l (.lst (xs ++ zs)))
theorem mt_extT {X : Cx} : MtM X "list.extend" (rExtT X.K) := by
  intro pins s σ H x vs v us Q I rx rv h
  obtain ⟨l, b, xs, zs, rfl, rfl, hH, hB, hz, q⟩ := h
  cases rx
  obtain ⟨u, rfl, ru⟩ := rv.one
  cases ru
  obtain ⟨z, its, n, r, hl, e⟩ := I.lstM hH
  obtain ⟨its2, r2, p2, hl2⟩ := I.tuple hB
  obtain ⟨⟨cls, dd, data, sl⟩, ho, hc, n2, hd⟩ := id p2
  simp only at hc hd
  subst hc hd
  have len2 := r2.length
  have hsz : its.toArray.size + its2.toArray.size ≤ sizeLine := by rw [List.size_toArray, List.size_toArray]; omega
  have hlong : ¬ (!its.toArray.isEmpty && Builtin.List.listTooLong (its.toArray.size + its2.toArray.size)) = true := by
    rw [notLongL hsz, Bool.and_false]
    exact Bool.false_ne_true
  refine call_meets F.slot_list_extend ⟨_, e, rfl⟩ F.entry_list_extend (F.args_list_extend_2 _ _)
    (ext_tupA l its.toArray n b its2.toArray n2 dd sl hlong (by rw [List.size_toArray]; omega) (by omega)) ⟨e, ho, ?_⟩
  refine ⟨.non, _, I.lset (its' := its ++ its2) hH e (by simp) (r.append r2) ?_, rfl, q⟩
  rw [List.length_append]
  omega

/-! ### the source as it comes -/
def iEnX (K : PySem.W.Frag) (ta : TA) : TI := fun σ H R => ta σ H fun vs H1 => ∃ (S : Src) (a : Addr) (xs : List V), vs = [.ref a] ∧ S.sq K H1 a xs ∧ R (ItE S K a) H1
theorem pi_enumX {X : Cx} {e : Expr} {ta : TA} {p pos tpos : Pos} {elts : List Expr} {kk : Nat} (hg : Gl X "enumerate") (hm : X.mg "enumerate" = none) (ha : PA X [e] ta) (hs : starEach [e] X.env = [(false, eval e X.env)] := by rfl) :
    PI X (.Tuple elts kk tpos) (.Call (.Name "enumerate" p) [e] [] pos) (iEnX X.K ta) := by
  refine ⟨fun pins s σ H R I h => ?_⟩
  have h' : ta σ H fun vs H1 => ∃ S : Src, ∃ (a : Addr) (xs : List V), vs = [.ref a] ∧ S.sq X.K H1 a xs ∧ R (ItE S X.K a) H1 := h
  refine Call_ (ld_blt I hg hm boot_enumerate (PyProof.Rows.callWith_type1 (thn (ha.run pos pins s σ H _ I h') fun us s1 ⟨vs, H1, I1, r1, q1⟩ => ?_) hs rfl))
  obtain ⟨S, a, xs, ex, hq, q⟩ := q1
  exact enumG_run S I1 r1 ⟨a, xs, ex, hq, q⟩
def iZpX (K : PySem.W.Frag) (ta : TA) : TI := fun σ H R => ta σ H fun vs H1 => ∃ (S1 S2 : Src) (a b : Addr) (xs ys : List V), vs = [.ref a, .ref b] ∧ S1.sq K H1 a xs ∧ S2.sq K H1 b ys ∧ R (ItZ S1 S2 K a b) H1
theorem pi_zipX {X : Cx} {e e2 : Expr} {ta : TA} {p pos tpos : Pos} {elts : List Expr} {kk : Nat} (hg : Gl X "zip") (hm : X.mg "zip" = none) (ha : PA X [e, e2] ta)
    (hs : starEach [e, e2] X.env = (false, eval e X.env) :: starEach [e2] X.env := by rfl) (hpl : (backTo pos (starEach [e2] X.env)).any (·.1) = false := by rfl) :
    PI X (.Tuple elts kk tpos) (.Call (.Name "zip" p) [e, e2] [] pos) (iZpX X.K ta) := by
  refine ⟨fun pins s σ H R I h => ?_⟩
  have h' : ta σ H fun vs H1 => ∃ S1 S2 : Src, ∃ (a b : Addr) (xs ys : List V), vs = [.ref a, .ref b] ∧ S1.sq X.K H1 a xs ∧ S2.sq X.K H1 b ys ∧ R (ItZ S1 S2 X.K a b) H1 := h
  refine Call_ (ld_blt I hg hm PyProof.Rows.boot_zip (PyProof.Rows.callWith_type1 (thn (ha.run pos pins s σ H _ I h') fun us s1 ⟨vs, H1, I1, r1, q1⟩ => ?_) hs hpl))
  obtain ⟨S1, S2, a, b, xs, ys, ex, hqx, hqy, q⟩ := q1
  exact zipG_run S1 S2 I1 r1 ⟨a, b, xs, ys, ex, hqx, hqy, q⟩
end Bf

set_option Elab.async false
set_option linter.all false
set_option maxRecDepth 100000
set_option maxHeartbeats 4000000
namespace Bf
open PySem PySem.Spec PyProof.Rows L2
/-! ### exprs and their widths -/
inductive Ex
  | word (v w : Nat)
  | name (z : Str)
  | read (z : Str) (a : Ex)
  | bits (a : Ex) (h l : Int)
  | ext (o : Str) (a : Ex) (w : Int)
  | op1 (o : Str) (a : Ex)
  | op2 (o : Str) (a b : Ex)
  | op3 (a b c : Ex)
def alikeL : List Str := ["or", "xor", "and", "add", "sub", "mul"]
def comparL : List Str := ["eq", "ne", "lt", "le"]
def tbl (o : Str) : Str :=
  if o = "|" then "or" else if o = "^" then "xor" else if o = "&" then "and" else if o = "==" then "eq" else if o = "!=" then "ne" else if o = "<" then "lt" else if o = "<=" then "le" else if o = "<<" then "shl" else if o = ">>" then "shr" else if o = "+" then "add" else if o = "-" then "sub" else if o = "*" then "mul" else o
def opw (o : Str) (ws : List Int) (told low : Int) : Option Int :=
  if decide (o ∈ alikeL) = true then (if ws.getD 0 0 = ws.getD 1 0 then some (ws.getD 0 0) else none)
  else if decide (o ∈ comparL) = true then (if ws.getD 0 0 = ws.getD 1 0 then some 1 else none)
  else if decide (o ∈ (["not", "neg", "shl", "shr"] : List Str)) = true then some (ws.getD 0 0)
  else if decide (o ∈ (["any", "all", "odd"] : List Str)) = true then some 1
  else if decide (o = "pick") = true then (if ws.getD 0 0 = 1 ∧ ws.getD 1 0 = ws.getD 2 0 then some (ws.getD 1 0) else none)
  else if decide (o = "join") = true then (if ws.sum ≤ 8 then some ws.sum else none)
  else if o = "sign" ∧ told < ws.getD 0 0 then none
  else if o = "bits" ∧ (told < 1 ∨ low < 0 ∨ ws.getD 0 0 < low + told) then none
  else some told
def wid (ρ : Str → Int) : Ex → Option Int
  | .word _ w => some w
  | .name z => some (ρ z)
  | .read z a => (wid ρ a).bind fun _ => some (ρ z)
  | .bits a h l => (wid ρ a).bind fun x => opw "bits" [x] (h - l + 1) l
  | .ext o a w => (wid ρ a).bind fun x => opw o [x] w 0
  | .op1 o a => (wid ρ a).bind fun x => opw o [x] 0 0
  | .op2 o a b => (wid ρ a).bind fun x => (wid ρ b).bind fun y => opw (tbl o) [x, y] 0 0
  | .op3 a b c => (wid ρ a).bind fun x => (wid ρ b).bind fun y => (wid ρ c).bind fun z => opw "pick" [x, y, z] 0 0
def dep : Ex → Nat
  | .word _ _ => 0
  | .name _ => 0
  | .read _ a => dep a + 1
  | .bits a _ _ => dep a + 1
  | .ext _ a _ => dep a + 1
  | .op1 _ a => dep a + 1
  | .op2 _ a b => max (dep a) (dep b) + 1
  | .op3 a b c => max (dep a) (max (dep b) (dep c)) + 1
def signs : List Str := ["|", "^", "&", "==", "!=", "<", "<=", "<<", ">>", "+", "-", "*", "join"]
/-- the shape of a right expr; its names are among those at which N stands -/
def Right (N : Str → Prop) : Ex → Prop
  | .word _ _ => True
  | .name z => N z
  | .read z a => N z ∧ Right N a
  | .bits a _ _ => Right N a
  | .ext o a _ => (o = "wide" ∨ o = "sign") ∧ Right N a
  | .op1 o a => o ∈ (["not", "neg", "any", "all", "odd"] : List Str) ∧ Right N a
  | .op2 o a b => o ∈ signs ∧ Right N a ∧ Right N b
  | .op3 a b c => Right N a ∧ Right N b ∧ Right N c
/-- the expr e lies at v -/
def EV (H : Hp) : Ex → V → Prop
  | .word v w, x => ∃ p, x = .ref p ∧ H p = some (.tup [.str "word", vI v, vI w])
  | .name z, x => ∃ p, x = .ref p ∧ H p = some (.tup [.str "name", .str z])
  | .read z a, x => ∃ p y, x = .ref p ∧ H p = some (.tup [.str "read", .str z, y]) ∧ EV H a y
  | .bits a h l, x => ∃ p y, x = .ref p ∧ H p = some (.tup [.str "bits", y, .int h, .int l]) ∧ EV H a y
  | .ext o a w, x => ∃ p y, x = .ref p ∧ H p = some (.tup [.str o, y, .int w]) ∧ EV H a y
  | .op1 o a, x => ∃ p y, x = .ref p ∧ H p = some (.tup [.str o, y]) ∧ EV H a y
  | .op2 o a b, x => ∃ p y z, x = .ref p ∧ H p = some (.tup [.str o, y, z]) ∧ EV H a y ∧ EV H b z
  | .op3 a b c, x => ∃ p y z u, x = .ref p ∧ H p = some (.tup [.str "pick", y, z, u]) ∧ EV H a y ∧ EV H b z ∧ EV H c u
/-- what is tracked as a tuple in H is so in H' -/
def KeepT (H H' : Hp) : Prop := ∀ b xs, H b = some (.tup xs) → H' b = some (.tup xs)
theorem EV.keepT {H H' : Hp} (k : KeepT H H') : ∀ (e : Ex) (x : V), EV H e x → EV H' e x
  | .word v w, x, ⟨p, e, h⟩ => ⟨p, e, k _ _ h⟩
  | .name z, x, ⟨p, e, h⟩ => ⟨p, e, k _ _ h⟩
  | .read z a, x, ⟨p, y, e, h, ha⟩ => ⟨p, y, e, k _ _ h, EV.keepT k a y ha⟩
  | .bits a h l, x, ⟨p, y, e, hh, ha⟩ => ⟨p, y, e, k _ _ hh, EV.keepT k a y ha⟩
  | .ext o a w, x, ⟨p, y, e, h, ha⟩ => ⟨p, y, e, k _ _ h, EV.keepT k a y ha⟩
  | .op1 o a, x, ⟨p, y, e, h, ha⟩ => ⟨p, y, e, k _ _ h, EV.keepT k a y ha⟩
  | .op2 o a b, x, ⟨p, y, z, e, h, ha, hb⟩ => ⟨p, y, z, e, k _ _ h, EV.keepT k a y ha, EV.keepT k b z hb⟩
  | .op3 a b c, x, ⟨p, y, z, u, e, h, ha, hb, hc⟩ => ⟨p, y, z, u, e, k _ _ h, EV.keepT k a y ha, EV.keepT k b z hb, EV.keepT k c u hc⟩
theorem KeepT.same {H H' : Hp} (k : Same H H') : KeepT H H' := fun b xs h => k _ _ h
def optV : Option Int → V
  | none => .non
  | some w => .int w
/-! ### an operation: its parts -/
def parts : Ex → List Ex
  | .bits a _ _ => [a]
  | .ext _ a _ => [a]
  | .op1 _ a => [a]
  | .op2 _ a b => [a, b]
  | .op3 a b c => [a, b, c]
  | _ => []
def opx : Ex → Str
  | .bits _ _ _ => "bits"
  | .ext o _ _ => o
  | .op1 o _ => o
  | .op2 o _ _ => tbl o
  | _ => "pick"
def toldE : Ex → Int
  | .bits _ h l => h - l + 1
  | .ext _ _ w => w
  | _ => 0
def lowE : Ex → Int
  | .bits _ _ l => l
  | _ => 0
def isOp : Ex → Bool
  | .word _ _ => false
  | .name _ => false
  | .read _ _ => false
  | _ => true
def wids (ρ : Str → Int) : List Ex → Option (List Int)
  | [] => some []
  | e :: r => (wid ρ e).bind fun x => (wids ρ r).bind fun xs => some (x :: xs)
theorem wid_op (ρ : Str → Int) (e : Ex) (h : isOp e = true) : wid ρ e = (wids ρ (parts e)).bind fun ws => opw (opx e) ws (toldE e) (lowE e) := by
  cases e with
  | word v w => cases h
  | name z => cases h
  | read z a => cases h
  | bits a k l => simp only [wid, parts, wids, opx, toldE, lowE]; cases wid ρ a <;> rfl
  | ext o a w => simp only [wid, parts, wids, opx, toldE, lowE]; cases wid ρ a <;> rfl
  | op1 o a => simp only [wid, parts, wids, opx, toldE, lowE]; cases wid ρ a <;> rfl
  | op2 o a b => simp only [wid, parts, wids, opx, toldE, lowE]; cases wid ρ a <;> cases wid ρ b <;> rfl
  | op3 a b c => simp only [wid, parts, wids, opx, toldE, lowE]; cases wid ρ a <;> cases wid ρ b <;> cases wid ρ c <;> rfl
theorem wids_none {ρ : Str → Int} : ∀ {es : List Ex} {e : Ex}, e ∈ es → wid ρ e = none → wids ρ es = none
  | a :: r, e, hm, h => by
    rw [wids]
    rcases List.mem_cons.mp hm with q | q
    · rw [← q, h]
      rfl
    · rw [wids_none q h]
      cases wid ρ a <;> rfl
theorem wids_some {ρ : Str → Int} : ∀ {es : List Ex} {ws : List Int}, es.length = ws.length → (∀ (i : Nat) (e : Ex) (x : Int), es[i]? = some e → ws[i]? = some x → wid ρ e = some x) → wids ρ es = some ws
  | [], [], _, _ => rfl
  | [], _ :: _, h, _ => by cases h
  | _ :: _, [], h, _ => by cases h
  | e :: es, x :: ws, h, k => by
    rw [wids, k 0 e x rfl rfl, wids_some (by simpa using h) fun i e x a b => k (i + 1) e x (by simpa using a) (by simpa using b)]
    rfl
theorem dep_part {e a : Ex} (h : a ∈ parts e) : dep a < dep e := by
  cases e <;> simp only [parts, List.mem_cons, List.not_mem_nil, or_false] at h <;> (try rcases h with h | h | h) <;> (try rcases h with h | h) <;> subst_vars <;> simp only [dep] <;> omega
theorem right_part {N : Str → Prop} {e a : Ex} (r : Right N e) (h : a ∈ parts e) : Right N a := by
  cases e <;> simp only [parts, List.mem_cons, List.not_mem_nil, or_false] at h <;> (try rcases h with h | h | h) <;> (try rcases h with h | h) <;> subst_vars <;> simp only [Right] at r <;> simp [r]
def EVs (H : Hp) (es : List Ex) (ys : List V) : Prop := es.length = ys.length ∧ ∀ (i : Nat) (e : Ex) (y : V), es[i]? = some e → ys[i]? = some y → EV H e y
theorem EVs.keepT {H H' : Hp} {es : List Ex} {ys : List V} (h : EVs H es ys) (k : KeepT H H') : EVs H' es ys := ⟨h.1, fun i e y a b => EV.keepT k e y (h.2 i e y a b)⟩
theorem EVs.one {H : Hp} {e : Ex} {y : V} (h : EV H e y) : EVs H [e] [y] := ⟨rfl, fun i a b p q => by
  cases i with
  | zero => cases p; cases q; exact h
  | succ i => simp at p⟩
theorem EVs.cons {H : Hp} {e : Ex} {y : V} {es : List Ex} {ys : List V} (h : EV H e y) (hs : EVs H es ys) : EVs H (e :: es) (y :: ys) := ⟨congrArg (· + 1) hs.1, fun i a b p q => by
  cases i with
  | zero => cases p; cases q; exact h
  | succ i => exact hs.2 i a b (by simpa using p) (by simpa using q)⟩
theorem tbl_op1 : ∀ o ∈ (["not", "neg", "any", "all", "odd"] : List Str), tbl o = o := by decide +kernel
theorem tbl_pick : tbl "pick" = "pick" := by decide +kernel
/-- the operations that the table serves: how they lie -/
theorem plain_op {H : Hp} {N : Str → Prop} {e : Ex} {x : V} (h : EV H e x) (r : Right N e) (i : isOp e = true) (nb : ∀ a k l, e ≠ .bits a k l) (ne : ∀ o a w, e ≠ .ext o a w) :
    ∃ (p : Addr) (o : Str) (ys : List V), x = .ref p ∧ H p = some (.tup (.str o :: ys)) ∧ EVs H (parts e) ys ∧ o ∈ signs ++ (["not", "neg", "any", "all", "odd", "pick"] : List Str) ∧ opx e = tbl o ∧ toldE e = 0 ∧ lowE e = 0 ∧ 1 ≤ ys.length ∧ ys.length ≤ 3 := by
  cases e with
  | word v w => cases i
  | name z => cases i
  | read z a => cases i
  | bits a k l => exact absurd rfl (nb a k l)
  | ext o a w => exact absurd rfl (ne o a w)
  | op1 o a =>
    obtain ⟨p, y, e, hp, ha⟩ := h
    have m : o ∈ (["not", "neg", "any", "all", "odd"] : List Str) := r.1
    have sub : ∀ z ∈ (["not", "neg", "any", "all", "odd"] : List Str), z ∈ signs ++ (["not", "neg", "any", "all", "odd", "pick"] : List Str) := by decide +kernel
    exact ⟨p, o, [y], e, hp, .one ha, sub o m, (tbl_op1 o m).symm, rfl, rfl, by simp, by simp⟩
  | op2 o a b =>
    obtain ⟨p, y, z, e, hp, ha, hb⟩ := h
    exact ⟨p, o, [y, z], e, hp, .cons ha (.one hb), List.mem_append_left _ r.1, rfl, rfl, rfl, by simp, by simp⟩
  | op3 a b c =>
    obtain ⟨p, y, z, u, e, hp, ha, hb, hc⟩ := h
    exact ⟨p, "pick", [y, z, u], e, hp, .cons ha (.cons hb (.one hc)), by decide +kernel, tbl_pick.symm, rfl, rfl, by simp, by simp⟩
theorem op_head {H : Hp} {N : Str → Prop} {e : Ex} {x : V} (h : EV H e x) (r : Right N e) (i : isOp e = true) :
    ∃ (p : Addr) (o : Str) (ys : List V), x = .ref p ∧ H p = some (.tup (.str o :: ys)) ∧ decide (V.str o = V.str "word") = false ∧ decide (V.str o = V.str "name") = false ∧ decide (V.str o = V.str "read") = false := by
  have n : ∀ z ∈ signs ++ (["not", "neg", "any", "all", "odd", "pick", "bits", "wide", "sign"] : List Str), z ≠ "word" ∧ z ≠ "name" ∧ z ≠ "read" := by decide +kernel
  have fin : ∀ o : Str, o ∈ signs ++ (["not", "neg", "any", "all", "odd", "pick", "bits", "wide", "sign"] : List Str) → decide (V.str o = V.str "word") = false ∧ decide (V.str o = V.str "name") = false ∧ decide (V.str o = V.str "read") = false := fun o m =>
    ⟨decide_eq_false fun q => (n o m).1 (V.str.inj q), decide_eq_false fun q => (n o m).2.1 (V.str.inj q), decide_eq_false fun q => (n o m).2.2 (V.str.inj q)⟩
  cases e with
  | word v w => cases i
  | name z => cases i
  | read z a => cases i
  | bits a k l =>
    obtain ⟨p, y, e, hp, _⟩ := h
    exact ⟨p, _, _, e, hp, fin _ (by decide +kernel)⟩
  | ext o a w =>
    obtain ⟨p, y, e, hp, _⟩ := h
    refine ⟨p, o, _, e, hp, fin _ ?_⟩
    rcases r.1 with rfl | rfl <;> decide +kernel
  | op1 o a =>
    obtain ⟨p, y, e, hp, _⟩ := h
    have sub : ∀ z ∈ (["not", "neg", "any", "all", "odd"] : List Str), z ∈ signs ++ (["not", "neg", "any", "all", "odd", "pick", "bits", "wide", "sign"] : List Str) := by decide +kernel
    exact ⟨p, o, _, e, hp, fin _ (sub o r.1)⟩
  | op2 o a b =>
    obtain ⟨p, y, z, e, hp, _⟩ := h
    exact ⟨p, o, _, e, hp, fin _ (List.mem_append_left _ r.1)⟩
  | op3 a b c =>
    obtain ⟨p, y, z, u, e, hp, _⟩ := h
    exact ⟨p, _, _, e, hp, fin _ (by decide +kernel)⟩
theorem parts_len {e : Ex} (i : isOp e = true) : 1 ≤ (parts e).length ∧ (parts e).length ≤ 3 := by
  cases e <;> simp [isOp, parts] at *
theorem two_parts {N : Str → Prop} {e : Ex} (r : Right N e) (i : isOp e = true) (h : opx e ∈ alikeL ∨ opx e ∈ comparL) : 2 ≤ (parts e).length := by
  have n : ∀ z ∈ (["not", "neg", "any", "all", "odd", "bits", "wide", "sign"] : List Str), ¬ (z ∈ alikeL ∨ z ∈ comparL) := by decide +kernel
  cases e with
  | word v w => cases i
  | name z => cases i
  | read z a => cases i
  | bits a k l => exact absurd h (n "bits" (by decide +kernel))
  | ext o a w => exact absurd h (n o (by rcases r.1 with rfl | rfl <;> decide +kernel))
  | op1 o a =>
    have sub : ∀ z ∈ (["not", "neg", "any", "all", "odd"] : List Str), z ∈ (["not", "neg", "any", "all", "odd", "bits", "wide", "sign"] : List Str) := by decide +kernel
    exact absurd h (n o (sub o r.1))
  | op2 o a b => simp [parts]
  | op3 a b c => simp [parts]
theorem three_parts {N : Str → Prop} {e : Ex} (r : Right N e) (i : isOp e = true) (h : opx e = "pick") : (parts e).length = 3 := by
  have n : ∀ z ∈ (["not", "neg", "any", "all", "odd", "bits", "wide", "sign"] : List Str), z ≠ "pick" := by decide +kernel
  have n2 : ∀ z ∈ signs, tbl z ≠ "pick" := by decide +kernel
  cases e with
  | word v w => cases i
  | name z => cases i
  | read z a => cases i
  | bits a k l => exact absurd h (n "bits" (by decide +kernel))
  | ext o a w => exact absurd h (n o (by rcases r.1 with rfl | rfl <;> decide +kernel))
  | op1 o a =>
    have sub : ∀ z ∈ (["not", "neg", "any", "all", "odd"] : List Str), z ∈ (["not", "neg", "any", "all", "odd", "bits", "wide", "sign"] : List Str) := by decide +kernel
    exact absurd h (n o (sub o r.1))
  | op2 o a b => exact absurd h (n2 o r.1)
  | op3 a b c => rfl
end Bf

set_option Elab.async false
set_option linter.all false
set_option maxRecDepth 100000
set_option maxHeartbeats 4000000
namespace Bf
open PySem PySem.Spec PyProof.Rows L2
def topS (i : Nat) : Stmt := PySem.Challenge.pw_beatfabric_k18_widths.main.body.getD i (.Pass ⟨0, 0, 0, 0⟩)
abbrev s_joined_width : Stmt := topS 5
abbrev s_picked_width : Stmt := topS 6
abbrev s_cut_width : Stmt := topS 7
abbrev s_op_width : Stmt := topS 8
abbrev s_operation_of : Stmt := topS 9
abbrev s_sized : Stmt := topS 10
abbrev s_name_widths : Stmt := topS 11
abbrev s_width_of : Stmt := topS 13
abbrev s_law_begin : Stmt := topS 15
abbrev s_law_draw : Stmt := topS 16
abbrev s_law_pick : Stmt := topS 17
abbrev s_law_pop : Stmt := topS 18
abbrev s_law_rare : Stmt := topS 19
abbrev s_law_pool : Stmt := topS 20
abbrev s_law_is_int : Stmt := topS 21
abbrev s_law_expr : Stmt := topS 22
abbrev s_law_other_expr : Stmt := topS 23
abbrev s_law_const_of : Stmt := topS 24
abbrev s_law_world : Stmt := topS 25
abbrev s_law_wides : Stmt := topS 26
abbrev s_law_wide : Stmt := topS 27
abbrev s_law_sign : Stmt := topS 28
abbrev s_law_near : Stmt := topS 29
abbrev s_law_over_one : Stmt := topS 30
abbrev s_law_any : Stmt := topS 31
abbrev s_law_exchanged : Stmt := topS 32
abbrev s_law_drawn : Stmt := topS 33
abbrev s_law : Stmt := topS 34
theorem sc_joined_width : FnScope ["widths", "total"] ["widths"] (defScope s_joined_width) := ⟨rfl, rfl, rfl, by decide +kernel, rfl, by decide +kernel, by decide +kernel⟩
theorem sc_picked_width : FnScope ["widths", "condition", "left", "right"] ["widths"] (defScope s_picked_width) := ⟨rfl, rfl, rfl, by decide +kernel, rfl, by decide +kernel, by decide +kernel⟩
theorem sc_cut_width : FnScope ["op", "width", "told", "low"] ["op", "width", "told", "low"] (defScope s_cut_width) := ⟨rfl, rfl, rfl, by decide +kernel, rfl, by decide +kernel, by decide +kernel⟩
theorem sc_op_width : FnScope ["op", "widths", "told", "low"] ["op", "widths", "told", "low"] (defScope s_op_width) := ⟨rfl, rfl, rfl, by decide +kernel, rfl, by decide +kernel, by decide +kernel⟩
theorem sc_operation_of : FnScope ["expr", "_", "inner", "high", "low"] ["expr"] (defScope s_operation_of) := ⟨rfl, rfl, rfl, by decide +kernel, rfl, by decide +kernel, by decide +kernel⟩
theorem sc_sized : FnScope ["widths", "expr", "address", "op", "told", "low", "inner", "operands", "part", "operand", "width"] ["widths", "expr"] (defScope s_sized) := ⟨rfl, rfl, rfl, by decide +kernel, rfl, by decide +kernel, by decide +kernel⟩
theorem sc_name_widths : FnScope ["flat", "_", "inputs", "wires", "regs", "mems", "widths", "row"] ["flat"] (defScope s_name_widths) := ⟨rfl, rfl, rfl, by decide +kernel, rfl, by decide +kernel, by decide +kernel⟩
theorem sc_width_of : FnScope ["flat", "expr", "whole"] ["flat", "expr"] (defScope s_width_of) := ⟨rfl, rfl, rfl, by decide +kernel, rfl, by decide +kernel, by decide +kernel⟩
theorem sc_law_begin : FnScope ["_law_script", "_law_cell"] ["_law_script"] (defScope s_law_begin) := ⟨rfl, rfl, rfl, by decide +kernel, rfl, by decide +kernel, by decide +kernel⟩
theorem sc_law_draw : FnScope ["_law_d", "_law_many", "_law_found", "_law_size", "_law_cell"] ["_law_d", "_law_many"] (defScope s_law_draw) := ⟨rfl, rfl, rfl, by decide +kernel, rfl, by decide +kernel, by decide +kernel⟩
theorem sc_law_pick : FnScope ["_law_d", "_law_row"] ["_law_d", "_law_row"] (defScope s_law_pick) := ⟨rfl, rfl, rfl, by decide +kernel, rfl, by decide +kernel, by decide +kernel⟩
theorem sc_law_pop : FnScope ["_law_d", "_law_row"] ["_law_d", "_law_row"] (defScope s_law_pop) := ⟨rfl, rfl, rfl, by decide +kernel, rfl, by decide +kernel, by decide +kernel⟩
theorem sc_law_rare : FnScope ["_law_d", "_law_many"] ["_law_d", "_law_many"] (defScope s_law_rare) := ⟨rfl, rfl, rfl, by decide +kernel, rfl, by decide +kernel, by decide +kernel⟩
theorem sc_law_pool : FnScope ["_law_text"] [] (defScope s_law_pool) := ⟨rfl, rfl, rfl, by decide +kernel, rfl, by decide +kernel, by decide +kernel⟩
theorem sc_law_is_int : FnScope ["_law_thing"] ["_law_thing"] (defScope s_law_is_int) := ⟨rfl, rfl, rfl, by decide +kernel, rfl, by decide +kernel, by decide +kernel⟩
theorem sc_law_expr : FnScope ["_law_d", "_law_env", "_law_stores", "_law_width", "_law_depth", "_law_rows", "_law_turn", "_law_less", "_law_one", "_law_op", "_law_row"] ["_law_d", "_law_env", "_law_stores", "_law_width", "_law_depth"] (defScope s_law_expr) := ⟨rfl, rfl, rfl, by decide +kernel, rfl, by decide +kernel, by decide +kernel⟩
theorem sc_law_other_expr : FnScope ["_law_d", "_law_env", "_law_stores", "_law_width", "_law_less", "_law_turn", "_law_wide_here", "_law_one", "_law_cells", "_law_high", "_law_top", "_law_row"] ["_law_d", "_law_env", "_law_stores", "_law_width", "_law_less", "_law_turn"] (defScope s_law_other_expr) := ⟨rfl, rfl, rfl, by decide +kernel, rfl, by decide +kernel, by decide +kernel⟩
theorem sc_law_const_of : FnScope ["_law_d", "_law_wide_here"] ["_law_d", "_law_wide_here"] (defScope s_law_const_of) := ⟨rfl, rfl, rfl, by decide +kernel, rfl, by decide +kernel, by decide +kernel⟩
theorem sc_law_world : FnScope ["_law_d", "_law_kinds", "_law_most", "_law_told", "_law_inputs", "_law_wires", "_law_regs", "_law_mems", "_law_body", "_law_kind", "_law_name", "_law_wide_here"] ["_law_d", "_law_kinds", "_law_most"] (defScope s_law_world) := ⟨rfl, rfl, rfl, by decide +kernel, rfl, by decide +kernel, by decide +kernel⟩
theorem sc_law_wides : FnScope ["_law_flat", "_law_found", "_law_row"] ["_law_flat"] (defScope s_law_wides) := ⟨rfl, rfl, rfl, by decide +kernel, rfl, by decide +kernel, by decide +kernel⟩
theorem sc_law_wide : FnScope ["_law_wides_here", "_law_expr_here", "_law_op", "_law_told", "_law_part"] ["_law_wides_here", "_law_expr_here"] (defScope s_law_wide) := ⟨rfl, rfl, rfl, by decide +kernel, rfl, by decide +kernel, by decide +kernel⟩
theorem sc_law_sign : FnScope ["_law_d"] ["_law_d"] (defScope s_law_sign) := ⟨rfl, rfl, rfl, by decide +kernel, rfl, by decide +kernel, by decide +kernel⟩
theorem sc_law_near : FnScope ["_law_d", "_law_stores", "_law_wide_here", "_law_other", "_law_one", "_law_two", "_law_turn", "_law_high"] ["_law_d", "_law_stores"] (defScope s_law_near) := ⟨rfl, rfl, rfl, by decide +kernel, rfl, by decide +kernel, by decide +kernel⟩
theorem sc_law_over_one : FnScope ["_law_d", "_law_stores", "_law_one", "_law_turn"] ["_law_d", "_law_stores", "_law_one"] (defScope s_law_over_one) := ⟨rfl, rfl, rfl, by decide +kernel, rfl, by decide +kernel, by decide +kernel⟩
theorem sc_law_any : FnScope ["_law_d", "_law_env", "_law_stores", "_law_depth", "_law_turn", "_law_one", "_law_two"] ["_law_d", "_law_env", "_law_stores", "_law_depth"] (defScope s_law_any) := ⟨rfl, rfl, rfl, by decide +kernel, rfl, by decide +kernel, by decide +kernel⟩
theorem sc_law_exchanged : FnScope ["_law_d", "_law_expr_here", "_law_env", "_law_stores", "_law_places", "_law_at", "_law_k"] ["_law_d", "_law_expr_here", "_law_env", "_law_stores"] (defScope s_law_exchanged) := ⟨rfl, rfl, rfl, by decide +kernel, rfl, by decide +kernel, by decide +kernel⟩
theorem sc_law_drawn : FnScope ["_law_d", "_law_env", "_law_stores", "_law_turn", "_law_expr_here", "_law_k"] ["_law_d", "_law_env", "_law_stores"] (defScope s_law_drawn) := ⟨rfl, rfl, rfl, by decide +kernel, rfl, by decide +kernel, by decide +kernel⟩
theorem sc_law : FnScope ["_law_script", "_law_d", "_law_names", "_law_kinds", "_law_k", "_law_most", "_law_first", "_law_second", "_law_env", "_law_expr_here", "_law_flat", "_law_due", "_law_told", "_law_row"] ["_law_script"] (defScope s_law) := ⟨rfl, rfl, rfl, by decide +kernel, rfl, by decide +kernel, by decide +kernel⟩
structure Txt (mg : Str → Option Value) : Prop where
  n_int : mg "int" = none
  n_len : mg "len" = none
  n_abs : mg "abs" = none
  n_isinstance : mg "isinstance" = none
  n_range : mg "range" = none
  n_tuple : mg "tuple" = none
  n_sum : mg "sum" = none
  n_bool : mg "bool" = none
  n_min : mg "min" = none
  n_max : mg "max" = none
/-- the program's own constants -/
structure TxtP (K : PySem.W.Frag) (w : World) (mg : Str → Option Value) (tM : Tok) (pA pC pO : Addr) (es : Array DictEntry) (n : Nat) : Prop extends Txt mg where
  g_MOST_WIDTH : mg "MOST_WIDTH" = some (.int 8 tM)
  g_ALIKE : mg "ALIKE" = some (.ref pA)
  g_COMPARING : mg "COMPARING" = some (.ref pC)
  g_OPERATIONS : mg "OPERATIONS" = some (.ref pO)
  qA : ∀ H, SqT K H pA (alikeL.map V.str)
  qC : ∀ H, SqT K H pC (comparL.map V.str)
  kd : KDict K w pO es n
  ops : ∀ o : Str, o ∈ signs ++ (["not", "neg", "any", "all", "odd", "pick"] : List Str) → (tbl o = o ∧ PySem.W.nsIn K pO o = some none) ∨ ∃ t, PySem.W.nsIn K pO o = some (some (.str (tbl o) t))
/-! ### the draws -/
/-- what stood elsewhere stands -/
def Keep (S : List Addr) (H H' : Hp) : Prop := ∀ b o, b ∉ S → H b = some o → H' b = some o
theorem Keep.refl (S : List Addr) (H : Hp) : Keep S H H := fun _ _ _ h => h
theorem Keep.trans {S : List Addr} {H H1 H2 : Hp} (a : Keep S H H1) (b : Keep S H1 H2) : Keep S H H2 := fun c o n h => b c o n (a c o n h)
theorem Keep.of_same {S : List Addr} {H H1 : Hp} (a : Same H H1) : Keep S H H1 := fun c o _ h => a c o h
theorem Keep.wide {S S' : List Addr} {H H1 : Hp} (a : Keep S H H1) (h : ∀ b, b ∈ S → b ∈ S') : Keep S' H H1 := fun c o n e => a c o (fun q => n (h c q)) e
theorem Keep.upd {S : List Addr} {H : Hp} {a : Addr} {o : HO} (h : a ∈ S) : Keep S H (upd H a o) := fun b u n e => by
  rw [upd_ne (fun q => n (by rw [q]; exact h))]
  exact e
theorem Keep.new {S : List Addr} {H : Hp} {a : Addr} {o : HO} (h : H a = none) : Keep S H (L2.upd H a o) := fun b u n e => by
  rw [upd_ne (ne_of_none e h)]
  exact e
/-- the state of the draws -/
def DS (H : Hp) (a c : Addr) : Prop := ∃ (at_ left st : Int) (cells : List Int), H a = some (.lst [.ref c, .int at_, .int left, .int st, .int 3]) ∧ 0 ≤ at_ ∧ H c = some (.lst (cells.map V.int))
theorem DS.ne {H : Hp} {a c : Addr} {x : V} {xs : List V} {cells : List Int} (h : H a = some (.lst (.ref c :: xs))) (hc : H c = some (.lst (cells.map V.int))) : c ≠ a := by
  intro e
  rw [e, h] at hc
  have q := HO.lst.inj (Option.some.inj hc)
  cases cells with
  | nil => cases q
  | cons x r => cases (List.cons.inj q).1
theorem DS.keep {S : List Addr} {H H' : Hp} {a c : Addr} (h : DS H a c) (k : Keep S H H') (ha : a ∉ S) (hc : c ∉ S) : DS H' a c := by
  obtain ⟨at_, left, st, cells, h1, h2, h3⟩ := h
  exact ⟨at_, left, st, cells, k _ _ ha h1, h2, k _ _ hc h3⟩
theorem DS.same {H H' : Hp} {a c : Addr} (h : DS H a c) (k : Same H H') : DS H' a c := h.keep (S := []) (Keep.of_same k) (by simp) (by simp)
theorem DS.new {H : Hp} {a c l : Addr} (h : DS H a c) (hl : H l = none) : l ≠ a ∧ l ≠ c := by
  obtain ⟨at_, left, st, cells, h1, h2, h3⟩ := h
  exact ⟨(ne_of_none h1 hl).symm, (ne_of_none h3 hl).symm⟩
theorem pow6000 : (0 : Int) < 1 * 2 ^ (6000 : Int).toNat := by
  rw [Int.one_mul]
  exact Int.pow_pos (by decide)
def spDraw : Sp := fun vs H Q _ => ∃ (a c : Addr) (m : Int), vs = [.ref a, .int m] ∧ DS H a c ∧ 1 ≤ m ∧ m < 1073741824 ∧ ∀ (r : Int) (H' : Hp), 0 ≤ r → r < m → DS H' a c → Keep [a] H H' → Q (.int r) H'
section
variable {P : Program} {w : World} {K : PySem.W.Frag} {mg : Str → Option Value} {base : Heap}
theorem ok_draw {f : Addr} {fd : FuncData} (F : Fun K "_law_draw" "_law_draw" s_law_draw f fd) (T : Txt mg) : FnOk P w K mg base CX0 1 f fd ["_law_d", "_law_many"] spDraw := by
  refine F.ok sc_law_draw (fun vs H Q E h => ?_) (fun cdv A outer s H vs Q E hr h => ?_)
  · obtain ⟨a, c, m, rfl, _⟩ := h
    rfl
  obtain ⟨a, c, m, rfl, ⟨at_, left, st, cells, ha, h0, hc⟩, m1, m2, q⟩ := h
  have hca : c ≠ a := DS.ne (x := .non) ha hc
  refine ⟨_, (pss_cons (ps_if (pt_cmpR op_gt (pe_ix ix_list (pv 0) pe_int (fun _ _ => rfl)) pe_int (nomark _)) (pss_cons (ps_set (i := 2) sc_law_draw.nd rfl (Or.inl rfl) (pe_ix ix_list (pv 0) pe_int (fun _ _ => rfl)))
      (pss_cons (ps_asg (pe_op op_fdiv (pv 2) (pv 1)) (pg_sub (pv 0) pe_int set_list))
      (pss_one (ps_ret (pe_op op_mod (pe_callTy call_int1 (by rfl) T.n_int (by decide +kernel) (pa_cons (pv 2) pa_nil)) (pv 1)))))) pss_nil)
      (pss_cons (ps_set (i := 3) sc_law_draw.nd rfl (Or.inl rfl) pe_int)
      (C8.pss_cut (ps_if (pt_cmpR op_lt (pe_ix ix_list (pv 0) pe_int (fun _ _ => rfl)) (pe_callB call_len_seq (by rfl) T.n_len (by decide +kernel) (pa_cons (pe_ix ix_list (pv 0) pe_int (fun _ _ => rfl)) pa_nil)) (nomark _)) (pss_cons (ps_set (i := 4) sc_law_draw.nd rfl (Or.inl rfl) (pe_ix ix_list (pe_ix ix_list (pv 0) pe_int (fun _ _ => rfl)) (pe_ix ix_list (pv 0) pe_int (fun _ _ => rfl)) (fun _ _ => rfl)))
      (pss_one (ps_set (i := 3) sc_law_draw.nd rfl (Or.inl rfl) (pe_op op_add (pe_op op_mul pe_int (pe_callB call_abs (by rfl) T.n_abs (by decide +kernel) (pa_cons (pv 4) pa_nil))) (pe_callTy call_int1 (by rfl) T.n_int (by decide +kernel) (pa_cons (pe_cmpR op_lt (pv 4) pe_int (nomark _)) pa_nil)))))) pss_nil)
      (C8.pss_cut (ps_augS (pv 0) pe_int get_list pe_int ip_add set_list)
      (pss_cons (ps_if (pt_cmpR op_ge (pv 3) (pe_op op_mul pe_int (pe_op op_pow pe_int pe_int)) (nomark _)) (pss_cons (ps_set (i := 2) sc_law_draw.nd rfl (Or.inl rfl) (pe_op op_mod (pe_callTy call_int1 (by rfl) T.n_int (by decide +kernel) (pa_cons (pe_op op_fdiv (pv 3) pe_int) pa_nil)) (pe_op op_shl pe_int pe_int)))
      (pss_cons (ps_asg (pe_op op_fdiv (pv 2) (pv 1)) (pg_sub (pv 0) pe_int set_list))
      (pss_one (ps_ret (pe_op op_mod (pe_callTy call_int1 (by rfl) T.n_int (by decide +kernel) (pa_cons (pv 2) pa_nil)) (pv 1)))))) pss_nil)
      (pss_cons (ps_asg (pe_op op_mod (pe_callTy call_int1 (by rfl) T.n_int (by decide +kernel) (pa_cons (pe_op op_add (pe_op op_add (pe_op op_add (pe_op op_mul (pe_ix ix_list (pv 0) pe_int (fun _ _ => rfl)) pe_int) (pe_op op_mul (pe_op op_mod (pe_callTy call_int1 (by rfl) T.n_int (by decide +kernel) (pa_cons (pv 3) pa_nil)) pe_int) pe_int)) (pe_op op_mul (pe_ix ix_list (pv 0) pe_int (fun _ _ => rfl)) pe_int)) pe_int) pa_nil)) pe_int) (pg_sub (pv 0) pe_int set_list))
      (pss_one (ps_ret (pe_op op_mod (pe_callTy call_int1 (by rfl) T.n_int (by decide +kernel) (pa_cons (pe_op op_fdiv (pe_ix ix_list (pv 0) pe_int (fun _ _ => rfl)) pe_int) pa_nil)) (pv 1)))))))))), ?_⟩
  refine ⟨_, rfl, a, _, _, _, rfl, rfl, SqL.of ha, atI_nat (j := 2) rfl, _, _, rfl, rfl, _, rfl, ?_⟩
  refine ite2 (fun e => ?_) (fun e => ?_)
  · refine ⟨_, rfl, a, _, _, _, rfl, rfl, SqL.of ha, atI_nat (j := 2) rfl, ?_⟩
    refine ⟨_, rfl, _, rfl, left, m, rfl, rfl, ⟨by omega, by omega⟩, _, rfl, a, _, 2, 2, rfl, rfl, ha, rfl, ?_⟩
    refine ⟨_, rfl, .inl ⟨_, rfl, _, rfl, _, _, rfl, rfl, (by omega), ?_⟩⟩
    exact q _ _ (Int.emod_nonneg _ (by omega)) (Int.emod_lt_of_pos _ (by omega)) ⟨at_, left / m, st, cells, upd_same, h0, by rw [upd_ne hca]; exact hc⟩ (Keep.upd (by simp))
  · refine ⟨fun σ' H' => ∃ (z : Int) (v4 : Option V), σ' = [some (.ref a), some (.int m), none, some (.int z), v4] ∧ H' = H, ?_, ?_⟩
    · refine ⟨_, rfl, a, _, _, _, rfl, rfl, SqL.of ha, atI_nat (j := 1) rfl, _, rfl, a, _, _, _, rfl, rfl, SqL.of ha, atI_nat (j := 0) rfl, c, _, rfl, .inl (SqL.of hc), _, _, rfl, rfl, _, rfl, ?_⟩
      refine ite2 (fun e1 => ?_) (fun e1 => ?_)
      · have e2 : at_ < ((cells.map V.int).length : Nat) := of_decide_eq_true e1
        rw [List.length_map] at e2
        have hk : at_.toNat < cells.length := by omega
        have ek : ((at_.toNat : Nat) : Int) = at_ := by omega
        have q1 : atI (cells.map V.int) ((at_.toNat : Nat) : Int) = some (.int cells[at_.toNat]) := atI_nat (by rw [List.getElem?_map, List.getElem?_eq_getElem hk] <;> rfl)
        rw [ek] at q1
        refine ⟨_, rfl, a, _, _, _, rfl, rfl, SqL.of ha, atI_nat (j := 0) rfl, _, rfl, a, _, _, _, rfl, rfl, SqL.of ha, atI_nat (j := 1) rfl, c, _, _, _, rfl, rfl, SqL.of hc, q1, ?_⟩
        refine ⟨_, rfl, _, rfl, _, _, rfl, rfl, .inl ⟨by decide, by decide⟩, _, rfl, _, _, rfl, rfl, .inr ⟨_, rfl, _, _, rfl, rfl, ?_⟩⟩
        exact ⟨_, _, rfl, rfl⟩
      · exact ⟨_, _, rfl, rfl⟩
    · rintro σ' H' ⟨z, v4, rfl, rfl⟩
      refine ⟨fun σ' H1 => σ' = [some (.ref a), some (.int m), none, some (.int z), v4] ∧ H1 a = some (.lst [.ref c, .int (at_ + 1), .int left, .int st, .int 3]) ∧ H1 c = some (.lst (cells.map V.int)) ∧ Keep [a] H' H1, ?_, ?_⟩
      · exact ⟨_, rfl, a, _, 1, .int at_, rfl, rfl, ha, atI_nat (j := 1) rfl, at_, 1, rfl, rfl, a, _, 1, 1, rfl, rfl, ha, rfl, rfl, upd_same, by rw [upd_ne hca]; exact hc, Keep.upd (by simp)⟩
      rintro σ' H1 ⟨rfl, h1, h2, k1⟩
      refine ⟨_, rfl, _, _, rfl, rfl, ⟨by decide, by decide, by decide⟩, _, _, rfl, rfl, .inl ⟨by decide, by decide⟩, _, _, rfl, rfl, _, rfl, ?_⟩
      refine ite2 (fun e3 => ?_) (fun e3 => ?_)
      · refine ⟨_, rfl, z, 2, rfl, rfl, ⟨by decide, by decide⟩, .inl ⟨_, rfl, 1, 6000, rfl, rfl, ⟨by decide, by decide, by decide⟩, _, _, rfl, rfl, pow6000, ?_⟩⟩
        refine ⟨_, rfl, _, rfl, _, m, rfl, rfl, ⟨by omega, by omega⟩, _, rfl, a, _, 2, 2, rfl, rfl, h1, rfl, ?_⟩
        refine ⟨_, rfl, .inl ⟨_, rfl, _, rfl, _, _, rfl, rfl, (by omega), ?_⟩⟩
        refine q _ _ (Int.emod_nonneg _ (by omega)) (Int.emod_lt_of_pos _ (by omega)) ⟨at_ + 1, _, st, cells, upd_same, by omega, by rw [upd_ne hca]; exact h2⟩ (k1.trans (Keep.upd (by simp)))
      · refine ⟨_, rfl, a, _, _, _, rfl, rfl, SqL.of h1, atI_nat (j := 3) rfl, _, _, rfl, rfl, .inr ⟨by decide, by decide⟩, ?_⟩
        refine ⟨_, rfl, .inl ⟨_, rfl, _, _, rfl, rfl, (by show (0 : Int) < 2147483629; decide), _, _, rfl, rfl, .inr ⟨by decide, by decide⟩, _, _, rfl, rfl, ?_⟩⟩
        refine ⟨_, rfl, a, _, _, _, rfl, rfl, SqL.of h1, atI_nat (j := 1) rfl, _, _, rfl, rfl, .inr ⟨by decide, by decide⟩, _, _, rfl, rfl, _, _, rfl, rfl, .inl ⟨_, rfl, _, _, rfl, rfl, (by show (0 : Int) < 2147483647; decide), ?_⟩⟩
        refine ⟨_, rfl, a, _, 3, 3, rfl, rfl, h1, rfl, ?_⟩
        refine ⟨_, rfl, a, _, _, _, rfl, rfl, SqL.of upd_same, atI_nat (j := 3) rfl, _, _, rfl, rfl, ⟨by decide, by decide⟩, .inl ⟨_, rfl, _, rfl, _, _, rfl, rfl, (by omega), ?_⟩⟩
        exact q _ _ (Int.emod_nonneg _ (by omega)) (Int.emod_lt_of_pos _ (by omega)) ⟨at_ + 1, left, _, cells, upd_same, by omega, by rw [upd_ne hca]; exact h2⟩ (k1.trans (Keep.upd (by simp)))
end

/-! ### the beginning of the draws; a draw out of a list; is it an int -/
theorem same_new {H : Hp} {p : Addr} (h : H p = none) (o : HO) : Same H (upd H p o) := fun b u q => by rw [upd_ne (ne_of_none q h)]; exact q
theorem intAt {xs : List Int} {i : Nat} {x : V} (h : (xs.map V.int)[i]? = some x) : ∃ k, xs[i]? = some k ∧ x = V.int k := by
  rw [List.getElem?_map] at h
  cases e : xs[i]? with
  | none => rw [e] at h; cases h
  | some k => rw [e] at h; exact ⟨k, rfl, (Option.some.inj h).symm⟩
def spBegin (K : PySem.W.Frag) : Sp := fun vs H Q _ => ∃ (a : Addr) (ns : List Int), vs = [.ref a] ∧ SqL K H a (ns.map V.int) ∧ ns.length ≤ 63 ∧ ∀ (d c : Addr) (H' : Hp), H d = none → H c = none → DS H' d c → Same H H' → Q (.ref d) H'
section
variable {P : Program} {w : World} {K : PySem.W.Frag} {mg : Str → Option Value} {base : Heap}
theorem ok_begin {f : Addr} {fd : FuncData} (F : Fun K "_law_begin" "_law_begin" s_law_begin f fd) (T : Txt mg) : FnOk P w K mg base CX0 1 f fd ["_law_script"] (spBegin K) := by
  refine F.ok sc_law_begin (fun vs H Q E h => ?_) (fun cdv A outer s H vs Q E hr h => ?_)
  · obtain ⟨a, ns, rfl, _⟩ := h
    rfl
  obtain ⟨a, ns, rfl, hS, h63, q⟩ := h
  refine ⟨_, (pss_one (ps_ret (pe_lst (pa_cons (pe_lc (own := [("_law_cell", 1)]) (g := gName 1) (tt := tYes) rfl sc_law_begin.nd (pi_list (pv 0)) (blkOk_by (N := ["_law_script", "_law_cell"]) (sc := defScope s_law_begin) (by decide +kernel)) (fun _ _ _ _ _ => (pg_name (i := 1) sc_law_begin.nd rfl (Or.inl rfl))) (fun _ _ _ _ _ => pts_nil) (fun _ _ _ _ _ => (pe_callTy call_int1 (by rfl) T.n_int (by decide +kernel) (pa_cons (pv 1) pa_nil)))) (pa_cons pe_int (pa_cons pe_int (pa_cons pe_int (pa_cons pe_int pa_nil)))))))), ?_⟩
  refine ⟨_, rfl, a, rfl, ⟨_, hS⟩, fun D hD => lc_list (K := K) (a := a) (xs := ns.map V.int) (fun i H' => Same H H' ∧ H' D = some (.lst ((ns.take i).map V.int)))
    ⟨same_new hD _, upd_same⟩ (fun i H' _ p => p.1.seq hS) (fun i x H' hx p => ?_) (fun H' p => ?_)⟩
  · obtain ⟨k, hk, rfl⟩ := intAt hx
    refine ⟨rfl, _, rfl, .inl ⟨_, rfl, _, p.2, ?_, ?_, ?_⟩⟩
    · rw [List.length_map, List.length_take]
      exact small1000 (by omega)
    · intro b o e
      rw [upd_ne (ne_of_none e hD)]
      exact p.1 b o e
    · rw [upd_same, List.take_add_one, hk, List.map_append]
      rfl
  · rw [List.length_map, List.take_length] at p
    refine ⟨(by show 5 ≤ sizeLine; decide), fun l hl => ?_⟩
    have nDl : D ≠ l := ne_of_none p.2 hl
    refine q l D _ (p.1.free hl) hD ⟨0, 0, 7, ns, upd_same, Int.le_refl 0, by rw [upd_ne nDl]; exact p.2⟩ (p.1.trans (same_new hl _))
end

def spIsInt : Sp := fun vs H Q _ => ∃ i : Int, vs = [.int i] ∧ Q (.bl true) H
section
variable {P : Program} {w : World} {K : PySem.W.Frag} {mg : Str → Option Value} {base : Heap}
theorem ok_isInt {f : Addr} {fd : FuncData} (F : Fun K "_law_is_int" "_law_is_int" s_law_is_int f fd) (T : Txt mg) : FnOk P w K mg base CX0 1 f fd ["_law_thing"] spIsInt := by
  refine F.ok sc_law_is_int (fun vs H Q E h => ?_) (fun cdv A outer s H vs Q E hr h => ?_)
  · obtain ⟨i, rfl, _⟩ := h
    rfl
  obtain ⟨i, rfl, q⟩ := h
  refine ⟨_, (pss_one (ps_ret (pe_and (pe_callB (call_isi : CallR _ _ (rIsi K)) (by rfl) T.n_isinstance (by decide +kernel) (pa_cons (pv 0) (pa_cons (pe_bltn rfl T.n_int (by decide +kernel) (v := .ty "int") rfl) pa_nil))) (pe_one (pe_not (pe_callB (call_isi : CallR _ _ (rIsi K)) (by rfl) T.n_isinstance (by decide +kernel) (pa_cons (pv 0) (pa_cons (pe_bltn rfl T.n_bool (by decide +kernel) (v := .ty "bool") rfl) pa_nil)))))))), ?_⟩
  refine ⟨_, rfl, _, _, .type "int", .type "int", true, rfl, .ty "int", .base (.int i), kit_ty (by decide +kernel), true, rfl, ?_⟩
  refine iteT ?_
  refine ⟨_, rfl, _, _, .type "int", .type "bool", false, rfl, .ty "bool", .base (.int i), kit_ty (by decide +kernel), false, rfl, ?_⟩
  exact q
end

/-- a draw of an item of a list, which is taken out -/
def spPop : Sp := fun vs H Q _ => ∃ (d c l : Addr) (xs : List V), vs = [.ref d, .ref l] ∧ DS H d c ∧ H l = some (.lst xs) ∧ l ≠ d ∧ l ≠ c ∧ 1 ≤ xs.length ∧ xs.length ≤ 1000 ∧
  ∀ (k : Nat) (y : V) (H' : Hp), xs[k]? = some y → DS H' d c → H' l = some (.lst (xs.eraseIdx k)) → Keep [d, l] H H' → Q y H'
section
variable {P : Program} {w : World} {K : PySem.W.Frag} {mg : Str → Option Value} {base : Heap}
theorem ok_pop {f : Addr} {fd : FuncData} (F : Fun K "_law_pop" "_law_pop" s_law_pop f fd) (T : Txt mg) (D_law_draw : Dn P w K mg base "_law_draw" ["_law_d", "_law_many"] 1 spDraw) :
    FnOk P w K mg base CX0 2 f fd ["_law_d", "_law_row"] spPop := by
  refine F.ok sc_law_pop (fun vs H Q E h => ?_) (fun cdv A outer s H vs Q E hr h => ?_)
  · obtain ⟨d, c, l, xs, rfl, _⟩ := h
    rfl
  obtain ⟨d, c, l, xs, rfl, hd, hl, nld, nlc, h1, h2, q⟩ := h
  refine ⟨_, (pss_one (ps_ret (pe_bm PySem.F.plainAttrs_list PySem.F.slot_list_pop PySem.F.type_list_pop mt_popAt (pv 1) (pa_cons (pe_dn D_law_draw (hr.mono (by omega)) (by rfl) (pa_cons (pv 0) (pa_cons (pe_callB call_len_seq (by rfl) T.n_len (by decide +kernel) (pa_cons (pv 1) pa_nil)) pa_nil))) pa_nil)))), ?_⟩
  refine ⟨_, rfl, .inl ⟨rfl, _, SqL.of hl⟩, _, rfl, _, rfl, l, _, rfl, .inl (SqL.of hl), d, c, _, rfl, hd, (by omega), (by omega), fun r H' r0 r1 hd' k1 => ?_⟩
  have hl' : H' l = some (.lst xs) := k1 _ _ (by simp [nld]) hl
  have hk : r.toNat < xs.length := by omega
  refine ⟨l, xs, r, r.toNat, xs[r.toNat], rfl, rfl, hl', by omega, by omega, seqIndex_of r0 (by omega), List.getElem?_eq_getElem hk, ?_⟩
  refine q _ _ _ (List.getElem?_eq_getElem hk) (hd'.keep (S := [l]) (Keep.upd (by simp)) (by simp [nld.symm]) (by simp [nlc.symm])) upd_same ((k1.wide (by simp)).trans (Keep.upd (by simp)))
end

end Bf

set_option Elab.async false
set_option linter.all false
set_option maxRecDepth 100000
set_option maxHeartbeats 4000000
namespace Bf
open PySem PySem.Spec PyProof.Rows L2
/-! ### the program's defs -/
theorem strB (o z : Str) : decide (V.str o = V.str z) = decide (o = z) := by
  by_cases h : o = z
  · rw [h]
    simp
  · rw [decide_eq_false h, decide_eq_false (fun q => h (V.str.inj q))]
def arity (o : Str) (ws : List Int) : Prop := 1 ≤ ws.length ∧ ((o ∈ alikeL ∨ o ∈ comparL) → 2 ≤ ws.length) ∧ (o = "pick" → ws.length = 3) ∧ ws.length ≤ 3
def spJoined (K : PySem.W.Frag) : Sp := fun vs H Q _ => ∃ (a : Addr) (ws : List Int), vs = [.ref a] ∧ SqL K H a (ws.map V.int) ∧ Q (optV (if ws.sum ≤ 8 then some ws.sum else none)) H
def spPicked (K : PySem.W.Frag) : Sp := fun vs H Q _ => ∃ (a : Addr) (x y z : Int), vs = [.ref a] ∧ SqL K H a [.int x, .int y, .int z] ∧ Q (optV (if x = 1 ∧ y = z then some y else none)) H
def spCut : Sp := fun vs H Q _ => ∃ (o : Str) (x told low : Int), vs = [.str o, .int x, .int told, .int low] ∧ Q (optV (if o = "sign" ∧ told < x then none else if o = "bits" ∧ (told < 1 ∨ low < 0 ∨ x < low + told) then none else some told)) H
def spOpW (K : PySem.W.Frag) : Sp := fun vs H Q _ => ∃ (o : Str) (a : Addr) (ws : List Int) (told low : Int), vs = [.str o, .ref a, .int told, .int low] ∧ SqL K H a (ws.map V.int) ∧ arity o ws ∧ ∀ H', Same H H' → Q (optV (opw o ws told low)) H'
section
variable {P : Program} {w : World} {K : PySem.W.Frag} {mg : Str → Option Value} {base : Heap} {f : Addr} {fd : FuncData} {tM : Tok} {pA pC pO : Addr} {es : Array DictEntry} {n : Nat}
theorem ok_joined (F : Fun K "joined_width" "joined_width" s_joined_width f fd) (T : TxtP K w mg tM pA pC pO es n) : FnOk P w K mg base CX0 1 f fd ["widths"] (spJoined K) := by
  refine F.ok sc_joined_width (fun vs H Q E h => ?_) (fun cdv A outer s H vs Q E hr h => ?_)
  · obtain ⟨a, ws, rfl, _⟩ := h
    rfl
  obtain ⟨a, ws, rfl, ha, q⟩ := h
  refine ⟨_, (pss_cons (ps_set (i := 1) sc_joined_width.nd rfl (Or.inl rfl) (pe_callB (cr_sum rfl) (by rfl) T.n_sum (by decide +kernel) (pa_cons (pv 0) pa_nil)))
      (pss_one (ps_ret (pe_ifExp (pt_cmpR op_le (pv 1) (pe_glob (v := .int 8) rfl T.g_MOST_WIDTH ⟨_, rfl⟩) (nomark _)) (pv 1) pe_non)))), ?_⟩
  refine ⟨_, rfl, a, ws, rfl, ha, _, rfl, _, _, rfl, rfl, _, rfl, ite2 (fun e => ?_) (fun e => ?_)⟩
  · rw [if_pos (of_decide_eq_true e)] at q
    exact ⟨_, rfl, q⟩
  · rw [if_neg (fun h => e (decide_eq_true h))] at q
    exact q
theorem ok_picked (F : Fun K "picked_width" "picked_width" s_picked_width f fd) (T : TxtP K w mg tM pA pC pO es n) : FnOk P w K mg base CX0 1 f fd ["widths"] (spPicked K) := by
  refine F.ok sc_picked_width (fun vs H Q E h => ?_) (fun cdv A outer s H vs Q E hr h => ?_)
  · obtain ⟨a, x, y, z, rfl, _⟩ := h
    rfl
  obtain ⟨a, x, y, z, rfl, ha, q⟩ := h
  refine ⟨_, (pss_cons (ps_asg (pv 0) (pg_unl rfl (pgs_cons (pg_name (i := 1) sc_picked_width.nd rfl (Or.inl rfl)) (pgs_cons (pg_name (i := 2) sc_picked_width.nd rfl (Or.inl rfl)) (pgs_cons (pg_name (i := 3) sc_picked_width.nd rfl (Or.inl rfl)) pgs_nil)))))
      (pss_one (ps_ret (pe_ifExp (PW.pt (pw_and (pt_cmpR op_eq (pv 1) pe_int (nomark _)) (pw_and1 (pt_cmpR op_eq (pv 2) (pv 3) (nomark _))))) (pv 2) pe_non)))), ?_⟩
  refine ⟨_, rfl, a, _, rfl, ha, rfl, _, _, rfl, _, _, rfl, _, _, rfl, rfl, _, rfl, rfl, _, rfl, ite2 (fun e => ?_) (fun e => ?_)⟩
  · have e1 : x = 1 := V.int.inj (of_decide_eq_true e)
    refine ⟨_, rfl, _, rfl, rfl, _, rfl, ite2 (fun e2 => ?_) (fun e2 => ?_)⟩
    · rw [if_pos ⟨e1, V.int.inj (of_decide_eq_true e2)⟩] at q
      exact ⟨_, rfl, q⟩
    · rw [if_neg (fun h => e2 (decide_eq_true (congrArg V.int h.2)))] at q
      exact q
  · rw [if_neg (fun h => e (decide_eq_true (congrArg V.int h.1)))] at q
    exact iteF q
theorem ok_cut (F : Fun K "cut_width" "cut_width" s_cut_width f fd) (T : TxtP K w mg tM pA pC pO es n) : FnOk P w K mg base CX0 1 f fd ["op", "width", "told", "low"] spCut := by
  refine F.ok sc_cut_width (fun vs H Q E h => ?_) (fun cdv A outer s H vs Q E hr h => ?_)
  · obtain ⟨o, x, told, low, rfl, _⟩ := h
    rfl
  obtain ⟨o, x, told, low, rfl, q⟩ := h
  refine ⟨_, (pss_cons (ps_if (PW.pt (pw_and (pt_cmpR op_eq (pv 0) pe_str (nomark _)) (pw_and1 (pt_cmpR op_lt (pv 2) (pv 1) (nomark _))))) (pss_one (ps_ret pe_non)) pss_nil)
      (pss_cons (ps_if (PW.pt (pw_and (pt_cmpR op_eq (pv 0) pe_str (nomark _)) (pw_and1 (PW.pt (pw_or (pt_cmpR op_lt (pv 2) pe_int (nomark _)) (pw_or (pt_cmpR op_lt (pv 3) pe_int (nomark _)) (pw_or1 (pt_cmpR op_gt (pe_op op_add (pv 3) (pv 2)) (pv 1) (nomark _))))))))) (pss_one (ps_ret pe_non)) pss_nil)
      (pss_one (ps_ret (pv 2))))), ?_⟩
  refine ⟨_, rfl, rfl, _, rfl, ite2 (fun e => ?_) (fun e => ?_)⟩
  · have e1 : o = "sign" := V.str.inj (of_decide_eq_true e)
    subst e1
    refine ⟨_, rfl, _, rfl, _, _, rfl, rfl, _, rfl, ite2 (fun e2 => ?_) (fun e2 => ?_)⟩
    · rw [if_pos ⟨rfl, of_decide_eq_true e2⟩] at q
      exact q
    · rw [if_neg (fun h => e2 (decide_eq_true h.2)), if_neg (fun h => absurd h.1 (by decide +kernel))] at q
      exact ⟨_, rfl, rfl, _, rfl, ifN (by decide +kernel) (iteF ⟨_, rfl, q⟩)⟩
  · have n1 : ¬ o = "sign" := fun h => e (decide_eq_true (congrArg V.str h))
    rw [if_neg (fun h => n1 h.1)] at q
    refine iteF ?_
    refine ⟨_, rfl, rfl, _, rfl, ite2 (fun e2 => ?_) (fun e2 => ?_)⟩
    · have e3 : o = "bits" := V.str.inj (of_decide_eq_true e2)
      subst e3
      refine ⟨_, rfl, _, _, rfl, rfl, _, rfl, ite2 (fun h1 => ?_) (fun h1 => ?_)⟩
      · rw [if_pos ⟨rfl, .inl (of_decide_eq_true h1)⟩] at q
        exact q
      refine ⟨_, rfl, _, _, rfl, rfl, _, rfl, ite2 (fun h2 => ?_) (fun h2 => ?_)⟩
      · rw [if_pos ⟨rfl, .inr (.inl (of_decide_eq_true h2))⟩] at q
        exact q
      refine ⟨_, rfl, _, rfl, _, _, rfl, rfl, _, rfl, _, _, rfl, rfl, _, rfl, ite2 (fun h3 => ?_) (fun h3 => ?_)⟩
      · rw [if_pos ⟨rfl, .inr (.inr (of_decide_eq_true h3))⟩] at q
        exact q
      · rw [if_neg (fun h => h.2.elim (fun a => h1 (decide_eq_true a)) fun b => b.elim (fun a => h2 (decide_eq_true a)) fun c => h3 (decide_eq_true c))] at q
        exact ⟨_, rfl, q⟩
    · rw [if_neg (fun h => e2 (decide_eq_true (congrArg V.str h.1)))] at q
      exact iteF ⟨_, rfl, q⟩
theorem inV_str (o : Str) (ls : List Str) : inV (V.str o) (ls.map V.str) = decide (o ∈ ls) := by
  induction ls with
  | nil => rfl
  | cons a r ih =>
    show (eqV (V.str a) (V.str o) || inV (V.str o) (r.map V.str)) = decide (o ∈ a :: r)
    rw [ih]
    have e : eqV (V.str a) (V.str o) = decide (a = o) := by
      show (a == o) = decide (a = o)
      by_cases h : a = o
      · rw [h]
        simp
      · rw [decide_eq_false h]
        exact beq_eq_false_iff_ne.mpr h
    rw [e]
    by_cases h : a = o
    · subst h
      simp
    · have h' : ¬ o = a := fun q => h q.symm
      simp [h, h']
theorem flat_str (ls : List Str) : (ls.map V.str).all flatV = true := by
  induction ls with
  | nil => rfl
  | cons a r ih => exact ih
theorem ok_opw (F : Fun K "op_width" "op_width" s_op_width f fd) (T : TxtP K w mg tM pA pC pO es n) (D_picked_width : Dn P w K mg base "picked_width" ["widths"] 1 (spPicked K)) (D_joined_width : Dn P w K mg base "joined_width" ["widths"] 1 (spJoined K))
    (D_cut_width : Dn P w K mg base "cut_width" ["op", "width", "told", "low"] 1 spCut) : FnOk P w K mg base CX0 2 f fd ["op", "widths", "told", "low"] (spOpW K) := by
  refine F.ok sc_op_width (fun vs H Q E h => ?_) (fun cdv A outer s H vs Q E hr h => ?_)
  · obtain ⟨o, a, ws, told, low, rfl, _⟩ := h
    rfl
  obtain ⟨o, a, ws, told, low, rfl, ha, ⟨r1, r2, r3, r4⟩, q⟩ := h
  refine ⟨_, (pss_cons (ps_if (pt_cmpR op_in_seq (pv 0) (pe_glob (v := .ref _) rfl T.g_ALIKE rfl) (by rfl)) (pss_one (ps_ret (pe_ifExp (pt_cmpR op_eq (pe_ix ix_list (pv 1) pe_int (fun _ _ => rfl)) (pe_ix ix_list (pv 1) pe_int (fun _ _ => rfl)) (nomark _)) (pe_ix ix_list (pv 1) pe_int (fun _ _ => rfl)) pe_non))) pss_nil)
      (pss_cons (ps_if (pt_cmpR op_in_seq (pv 0) (pe_glob (v := .ref _) rfl T.g_COMPARING rfl) (by rfl)) (pss_one (ps_ret (pe_ifExp (pt_cmpR op_eq (pe_ix ix_list (pv 1) pe_int (fun _ _ => rfl)) (pe_ix ix_list (pv 1) pe_int (fun _ _ => rfl)) (nomark _)) pe_int pe_non))) pss_nil)
      (pss_cons (ps_if (pt_cmpR op_in_seq (pv 0) (pe_tup (pa_cons pe_str (pa_cons pe_str (pa_cons pe_str (pa_cons pe_str pa_nil))))) (by rfl)) (pss_one (ps_ret (pe_ix ix_list (pv 1) pe_int (fun _ _ => rfl)))) pss_nil)
      (pss_cons (ps_if (pt_cmpR op_in_seq (pv 0) (pe_tup (pa_cons pe_str (pa_cons pe_str (pa_cons pe_str pa_nil)))) (by rfl)) (pss_one (ps_ret pe_int)) pss_nil)
      (pss_cons (ps_if (pt_cmpR op_eq (pv 0) pe_str (nomark _)) (pss_one (ps_ret (pe_dn D_picked_width (hr.mono (by omega)) (by rfl) (pa_cons (pv 1) pa_nil)))) pss_nil)
      (pss_cons (ps_if (pt_cmpR op_eq (pv 0) pe_str (nomark _)) (pss_one (ps_ret (pe_dn D_joined_width (hr.mono (by omega)) (by rfl) (pa_cons (pv 1) pa_nil)))) pss_nil)
      (pss_one (ps_ret (pe_dn D_cut_width (hr.mono (by omega)) (by rfl) (pa_cons (pv 0) (pa_cons (pe_ix ix_list (pv 1) pe_int (fun _ _ => rfl)) (pa_cons (pv 2) (pa_cons (pv 3) pa_nil))))))))))))), ?_⟩
  obtain ⟨x, ws, rfl⟩ : ∃ x r, ws = x :: r := by
    cases ws with
    | nil => simp at r1
    | cons x r => exact ⟨x, r, rfl⟩
  have eA := inV_str o alikeL
  have eC := inV_str o comparL
  have eN := inV_str o ["not", "neg", "shl", "shr"]
  have eY := inV_str o ["any", "all", "odd"]
  unfold opw at q
  refine ⟨_, rfl, pA, _, rfl, .inr (T.qA _), rfl, flat_str _, _, rfl, ?_⟩
  cases hA : decide (o ∈ alikeL) with
  | true =>
    rw [if_pos hA] at q
    refine ifY (eA.trans hA) ?_
    obtain ⟨y, ws, rfl⟩ : ∃ y r, ws = y :: r := by
      have := r2 (.inl (of_decide_eq_true hA))
      cases ws with
      | nil => simp at this
      | cons x r => exact ⟨x, r, rfl⟩
    refine ⟨_, rfl, a, _, _, _, rfl, rfl, ha, atI_nat (j := 0) rfl, _, rfl, a, _, _, _, rfl, rfl, ha, atI_nat (j := 1) rfl, rfl, _, rfl, ite2 (fun e => ?_) (fun e => ?_)⟩
    · have e' : x = y := V.int.inj (of_decide_eq_true e)
      have q' := q H (Same.refl _)
      rw [if_pos (show (x :: y :: ws).getD 0 0 = (x :: y :: ws).getD 1 0 from e')] at q'
      exact ⟨_, rfl, a, _, _, _, rfl, rfl, ha, atI_nat (j := 0) rfl, q'⟩
    · have q' := q H (Same.refl _)
      rw [if_neg (fun h : (x :: y :: ws).getD 0 0 = (x :: y :: ws).getD 1 0 => e (decide_eq_true (congrArg V.int h)))] at q'
      exact q'
  | false =>
  rw [if_neg (ne_true_of_eq_false hA)] at q
  refine ifN (eA.trans hA) ?_
  refine ⟨_, rfl, pC, _, rfl, .inr (T.qC _), rfl, flat_str _, _, rfl, ?_⟩
  cases hC : decide (o ∈ comparL) with
  | true =>
    rw [if_pos hC] at q
    refine ifY (eC.trans hC) ?_
    obtain ⟨y, ws, rfl⟩ : ∃ y r, ws = y :: r := by
      have := r2 (.inr (of_decide_eq_true hC))
      cases ws with
      | nil => simp at this
      | cons x r => exact ⟨x, r, rfl⟩
    refine ⟨_, rfl, a, _, _, _, rfl, rfl, ha, atI_nat (j := 0) rfl, _, rfl, a, _, _, _, rfl, rfl, ha, atI_nat (j := 1) rfl, rfl, _, rfl, ite2 (fun e => ?_) (fun e => ?_)⟩
    · have e' : x = y := V.int.inj (of_decide_eq_true e)
      have q' := q H (Same.refl _)
      rw [if_pos (show (x :: y :: ws).getD 0 0 = (x :: y :: ws).getD 1 0 from e')] at q'
      exact q'
    · have q' := q H (Same.refl _)
      rw [if_neg (fun h : (x :: y :: ws).getD 0 0 = (x :: y :: ws).getD 1 0 => e (decide_eq_true (congrArg V.int h)))] at q'
      exact q'
  | false =>
  rw [if_neg (ne_true_of_eq_false hC)] at q
  refine ifN (eC.trans hC) ?_
  refine ⟨_, rfl, (by show 4 ≤ sizeLine; decide), fun p1 hp1 => ⟨p1, _, rfl, .inr (SqT.of upd_same), rfl, rfl, _, rfl, ?_⟩⟩
  have s1 := same_new hp1 (.tup ((["not", "neg", "shl", "shr"] : List Str).map V.str))
  cases hN : decide (o ∈ (["not", "neg", "shl", "shr"] : List Str)) with
  | true =>
    rw [if_pos hN] at q
    refine ifY (eN.trans hN) ?_
    exact ⟨_, rfl, a, _, _, _, rfl, rfl, s1.seq ha, atI_nat (j := 0) rfl, q _ s1⟩
  | false =>
  rw [if_neg (ne_true_of_eq_false hN)] at q
  refine ifN (eN.trans hN) ?_
  refine ⟨_, rfl, (by show 3 ≤ sizeLine; decide), fun p2 hp2 => ⟨p2, _, rfl, .inr (SqT.of upd_same), rfl, rfl, _, rfl, ?_⟩⟩
  have s2 := s1.trans (same_new hp2 (.tup ((["any", "all", "odd"] : List Str).map V.str)))
  cases hY : decide (o ∈ (["any", "all", "odd"] : List Str)) with
  | true =>
    rw [if_pos hY] at q
    exact ifY (eY.trans hY) (q _ s2)
  | false =>
  rw [if_neg (ne_true_of_eq_false hY)] at q
  refine ifN (eY.trans hY) ?_
  refine ⟨_, rfl, rfl, _, rfl, ?_⟩
  cases hP : decide (o = "pick") with
  | true =>
    rw [if_pos hP] at q
    refine ifY ((strB _ _).trans hP) ?_
    obtain ⟨y, z, rfl⟩ : ∃ y z, ws = [y, z] := by
      have := r3 (of_decide_eq_true hP)
      match ws, this with
      | [y, z], _ => exact ⟨y, z, rfl⟩
    exact ⟨_, rfl, a, x, y, z, rfl, s2.seq ha, q _ s2⟩
  | false =>
  rw [if_neg (ne_true_of_eq_false hP)] at q
  refine ifN ((strB _ _).trans hP) ?_
  refine ⟨_, rfl, rfl, _, rfl, ?_⟩
  cases hJ : decide (o = "join") with
  | true =>
    rw [if_pos hJ] at q
    exact ifY ((strB _ _).trans hJ) ⟨_, rfl, a, x :: ws, rfl, s2.seq ha, q _ s2⟩
  | false =>
  rw [if_neg (ne_true_of_eq_false hJ)] at q
  refine ifN ((strB _ _).trans hJ) ?_
  exact ⟨_, rfl, _, rfl, a, _, _, _, rfl, rfl, s2.seq ha, atI_nat (j := 0) rfl, _, rfl, _, rfl, o, x, told, low, rfl, q _ s2⟩
end
end Bf

set_option Elab.async false
set_option linter.all false
set_option maxRecDepth 100000
set_option maxHeartbeats 4000000
namespace Bf
open PySem PySem.Spec PyProof.Rows L2
/-! ### operation_of, sized -/
def spOper (N : Str → Prop) : Sp := fun vs H Q _ => ∃ (e : Ex) (v : V), vs = [v] ∧ EV H e v ∧ Right N e ∧ isOp e = true ∧
  ∀ (p t : Addr) (ys : List V) (H' : Hp), Same H H' → H' p = some (.tup [.str (opx e), .int (toldE e), .int (lowE e), .ref t]) → H' t = some (.tup ys) → EVs H' (parts e) ys → Q (.ref p) H'
theorem notSp {o : Str} (h : o ∈ signs ++ (["not", "neg", "any", "all", "odd", "pick"] : List Str)) : decide (V.str o = V.str "bits") = false ∧ decide (o ∈ (["wide", "sign"] : List Str)) = false := by
  have n : ∀ z ∈ signs ++ (["not", "neg", "any", "all", "odd", "pick"] : List Str), decide (z = "bits") = false ∧ decide (z ∈ (["wide", "sign"] : List Str)) = false := by decide +kernel
  exact ⟨(strB o _).trans (n o h).1, (n o h).2⟩
section
variable {P : Program} {w : World} {K : PySem.W.Frag} {mg : Str → Option Value} {base : Heap} {f : Addr} {fd : FuncData} {tM : Tok} {pA pC pO : Addr} {es : Array DictEntry} {n : Nat}
theorem ok_oper {N : Str → Prop} (F : Fun K "operation_of" "operation_of" s_operation_of f fd) (T : TxtP K w mg tM pA pC pO es n) : FnOk P w K mg base CX0 1 f fd ["expr"] (spOper N) := by
  refine F.ok sc_operation_of (fun vs H Q E h => ?_) (fun cdv A outer s H vs Q E hr h => ?_)
  · obtain ⟨e, v, rfl, _⟩ := h
    rfl
  obtain ⟨e, v, rfl, hv, hR, hi, q⟩ := h
  refine ⟨_, (pss_cons (ps_if (pt_cmpR op_eq (pe_ix ix_tup (pv 0) pe_int (fun _ _ => rfl)) pe_str (nomark _)) (pss_cons (ps_asg (pv 0) (pg_tup rfl (pgs_cons (pg_name (i := 1) sc_operation_of.nd rfl (Or.inl rfl)) (pgs_cons (pg_name (i := 2) sc_operation_of.nd rfl (Or.inl rfl)) (pgs_cons (pg_name (i := 3) sc_operation_of.nd rfl (Or.inl rfl)) (pgs_cons (pg_name (i := 4) sc_operation_of.nd rfl (Or.inl rfl)) pgs_nil))))))
      (pss_one (ps_ret (pe_tup (pa_cons pe_str (pa_cons (pe_op op_add (pe_op op_sub (pv 3) (pv 4)) pe_int) (pa_cons (pv 4) (pa_cons (pe_tup (pa_cons (pv 2) pa_nil)) pa_nil)))))))) pss_nil)
      (pss_cons (ps_if (pt_cmpR op_in_seq (pe_ix ix_tup (pv 0) pe_int (fun _ _ => rfl)) (pe_tup (pa_cons pe_str (pa_cons pe_str pa_nil))) (by rfl)) (pss_one (ps_ret (pe_tup (pa_cons (pe_ix ix_tup (pv 0) pe_int (fun _ _ => rfl)) (pa_cons (pe_ix ix_tup (pv 0) pe_int (fun _ _ => rfl)) (pa_cons pe_int (pa_cons (pe_tup (pa_cons (pe_ix ix_tup (pv 0) pe_int (fun _ _ => rfl)) pa_nil)) pa_nil))))))) pss_nil)
      (pss_one (ps_ret (pe_tup (pa_cons (pe_kget2 T.kd (pe_glob (v := .ref _) rfl T.g_OPERATIONS rfl) (pe_ix ix_tup (pv 0) pe_int (fun _ _ => rfl)) (pe_ix ix_tup (pv 0) pe_int (fun _ _ => rfl)) ⟨by rfl, by rfl, by rfl, by rfl⟩) (pa_cons pe_int (pa_cons pe_int (pa_cons (pe_slice sl_tupA (pv 0) (po_some pe_int) po_none) pa_nil))))))))), ?_⟩
  by_cases hb : ∃ a k l, e = .bits a k l
  · obtain ⟨a, k, l, rfl⟩ := hb
    obtain ⟨p0, y, rfl, h0, hy⟩ := hv
    refine ⟨_, rfl, p0, _, _, _, rfl, rfl, SqT.of h0, atI_nat (j := 0) rfl, rfl, _, rfl, ifY (by decide +kernel) ?_⟩
    refine ⟨_, rfl, p0, _, rfl, SqT.of h0, rfl, _, _, rfl, _, _, rfl, _, _, rfl, _, _, rfl, rfl, ?_⟩
    refine ⟨_, rfl, _, rfl, _, _, rfl, rfl, _, _, rfl, rfl, _, rfl, _, rfl, (by show 1 ≤ sizeLine; decide), fun t ht => ⟨(by show 4 ≤ sizeLine; decide), fun p hp => ?_⟩⟩
    have s1 := same_new ht (.tup [y])
    have s2 := same_new hp (.tup [.str "bits", .int (k - l + 1), .int l, .ref t])
    exact q p t [y] _ (s1.trans s2) upd_same (s2 _ _ upd_same) (EVs.one (EV.keepT (KeepT.same (s1.trans s2)) _ _ hy))
  by_cases he : ∃ o a u, e = .ext o a u
  · obtain ⟨o, a, u, rfl⟩ := he
    obtain ⟨p0, y, rfl, h0, hy⟩ := hv
    have ho : decide (V.str o = V.str "bits") = false ∧ decide (o ∈ (["wide", "sign"] : List Str)) = true := by
      rcases hR.1 with rfl | rfl <;> exact ⟨by decide +kernel, by decide +kernel⟩
    refine ⟨_, rfl, p0, _, _, _, rfl, rfl, SqT.of h0, atI_nat (j := 0) rfl, rfl, _, rfl, ifN ho.1 ?_⟩
    refine ⟨_, rfl, p0, _, _, _, rfl, rfl, SqT.of h0, atI_nat (j := 0) rfl, (by show 2 ≤ sizeLine; decide), fun p1 hp1 => ⟨p1, _, rfl, .inr (SqT.of upd_same), rfl, rfl, _, rfl, ifY ((inV_str o ["wide", "sign"]).trans ho.2) ?_⟩⟩
    have s1 := same_new hp1 (.tup ((["wide", "sign"] : List Str).map V.str))
    have h1 := s1 _ _ h0
    refine ⟨_, rfl, p0, _, _, _, rfl, rfl, SqT.of h1, atI_nat (j := 0) rfl, _, rfl, p0, _, _, _, rfl, rfl, SqT.of h1, atI_nat (j := 2) rfl, _, rfl, p0, _, _, _, rfl, rfl, SqT.of h1, atI_nat (j := 1) rfl, (by show 1 ≤ sizeLine; decide), fun t ht => ⟨(by show 4 ≤ sizeLine; decide), fun p hp => ?_⟩⟩
    have s2 := same_new ht (.tup [y])
    have s3 := same_new hp (.tup [.str o, .int u, .int 0, .ref t])
    exact q p t [y] _ ((s1.trans s2).trans s3) upd_same (s3 _ _ upd_same) (EVs.one (EV.keepT (KeepT.same ((s1.trans s2).trans s3)) _ _ hy))
  obtain ⟨p0, o, ys, rfl, h0, hy, ho, eo, et, el, l1, l3⟩ := plain_op hv hR hi (fun a k l z => hb ⟨a, k, l, z⟩) (fun o a u z => he ⟨o, a, u, z⟩)
  obtain ⟨n1, n2⟩ := notSp ho
  refine ⟨_, rfl, p0, _, _, _, rfl, rfl, SqT.of h0, atI_nat (j := 0) rfl, rfl, _, rfl, ifN n1 ?_⟩
  refine ⟨_, rfl, p0, _, _, _, rfl, rfl, SqT.of h0, atI_nat (j := 0) rfl, (by show 2 ≤ sizeLine; decide), fun p1 hp1 => ⟨p1, _, rfl, .inr (SqT.of upd_same), rfl, rfl, _, rfl, ifN ((inV_str o ["wide", "sign"]).trans n2) ?_⟩⟩
  have s1 := same_new hp1 (.tup ((["wide", "sign"] : List Str).map V.str))
  have h1 := s1 _ _ h0
  refine ⟨rfl, _, rfl, p0, _, _, _, rfl, rfl, SqT.of h1, atI_nat (j := 0) rfl, _, rfl, p0, _, _, _, rfl, rfl, SqT.of h1, atI_nat (j := 0) rfl, ?_⟩
  have ho2 : ∃ r : Option Value, PySem.W.nsIn K pO o = some r ∧ (∀ u, r = some u → RelV (V.str (tbl o)) u) ∧ (r = none → V.str (tbl o) = V.str o) := by
    rcases T.ops o ho with ⟨e1, e2⟩ | ⟨t, e2⟩
    · exact ⟨none, e2, fun u z => (by cases z), fun _ => by rw [e1]⟩
    · exact ⟨_, e2, fun u z => (by cases z; exact ⟨t, rfl⟩), fun z => (by cases z)⟩
  obtain ⟨r, r1, r2, r3⟩ := ho2
  refine ⟨o, r, .str (tbl o), rfl, r1, r2, r3, _, rfl, 1, rfl, p0, _, rfl, SqT.of h1, fun hw => ?_, fun hw t ht => ⟨(by show 4 ≤ sizeLine; decide), fun p hp => ?_⟩⟩
  · exact absurd hw.1 (by rw [show (some (1 : Int)) = some ((1 : Nat) : Int) from rfl, HT.sIx_nat, List.length_cons]; omega)
  have e : cutV (V.str o :: ys) (some 1) none = ys := by
    unfold cutV
    rw [show (some (1 : Int)) = some ((1 : Nat) : Int) from rfl, HT.sIx_nat, HT.sIx_none, List.length_cons, Nat.min_eq_left (by omega), List.drop_one, List.tail_cons, List.take_of_length_le (by omega)]
  rw [e] at hp ⊢
  have s2 := same_new ht (.tup ys)
  have s3 := same_new hp (.tup [.str (tbl o), .int 0, .int 0, .ref t])
  refine q p t ys _ ((s1.trans s2).trans s3) ?_ (s3 _ _ upd_same) (hy.keepT (KeepT.same ((s1.trans s2).trans s3)))
  rw [eo, et, el]
  exact upd_same
theorem refAt {ts : List Addr} {i : Nat} {x : V} (h : (ts.map V.ref)[i]? = some x) : ∃ t, ts[i]? = some t ∧ x = .ref t := by
  rw [List.getElem?_map] at h
  cases e : ts[i]? with
  | none => rw [e] at h; cases h
  | some k => rw [e] at h; exact ⟨k, rfl, (Option.some.inj h).symm⟩
theorem take_snoc {α : Type} {l : List α} {i : Nat} {x : α} (h : l[i]? = some x) : l.take (i + 1) = l.take i ++ [x] := by
  rw [List.take_add_one, h]
  rfl
theorem same_two {H H' : Hp} {p : Addr} {o : HO} (k : Same H H') (hp : H p = none) : Same H (upd H' p o) := fun b u q => by
  rw [upd_ne (ne_of_none q hp)]
  exact k _ _ q
/-- the dict d: the widths ρ of the names at which N stands -/
def WD (N : Str → Prop) (ρ : Str → Int) (H : Hp) (d : Addr) : Prop := ∃ kvs, H d = some (.dK kvs) ∧ ∀ z, N z → valV kvs (Sum.inr z : Key) = some (.int (ρ z))
theorem WD.same {N : Str → Prop} {ρ : Str → Int} {H H' : Hp} {d : Addr} (h : WD N ρ H d) (k : Same H H') : WD N ρ H' d := let ⟨kvs, a, b⟩ := h; ⟨kvs, k _ _ a, b⟩
theorem WD.get {N : Str → Prop} {ρ : Str → Int} {H : Hp} {d : Addr} (h : WD N ρ H d) {z : Str} (hz : N z) : DGet H d (.str z) (some (.int (ρ z))) := by
  obtain ⟨kvs, a, b⟩ := h
  have g := DGet.k (H := H) (k := (Sum.inr z : Key)) a
  rw [b z hz] at g
  exact g
/-- what sized hands back -/
def SzR (H' : Hp) (r : V) : Option Int → Prop
  | none => r = .non
  | some w => ∃ (p : Addr) (x : V) (rest : List V), r = .ref p ∧ H' p = some (.tup (x :: .int w :: rest))
def spSized (N : Str → Prop) (ρ : Str → Int) (n : Nat) : Sp := fun vs H Q _ => ∃ (d : Addr) (e : Ex) (v : V), vs = [.ref d, v] ∧ WD N ρ H d ∧ EV H e v ∧ Right N e ∧ dep e < n ∧ ∀ (r : V) (H' : Hp), Same H H' → SzR H' r (wid ρ e) → Q r H'
def OpsAt (H : Hp) (rs : List Addr) (ws : List Int) : Prop := rs.length = ws.length ∧ ∀ (i : Nat) (r : Addr) (w : Int), rs[i]? = some r → ws[i]? = some w → ∃ (x : V) (rest : List V), H r = some (.tup (x :: .int w :: rest))
theorem OpsAt.same {H H' : Hp} {rs : List Addr} {ws : List Int} (h : OpsAt H rs ws) (k : Same H H') : OpsAt H' rs ws := ⟨h.1, fun i r w a b => let ⟨x, rest, e⟩ := h.2 i r w a b; ⟨x, rest, k _ _ e⟩⟩
theorem OpsAt.snoc {H : Hp} {rs : List Addr} {ws : List Int} {r : Addr} {w : Int} {x : V} {rest : List V} (h : OpsAt H rs ws) (e : H r = some (.tup (x :: .int w :: rest))) : OpsAt H (rs ++ [r]) (ws ++ [w]) :=
  ⟨by rw [List.length_append, List.length_append, h.1]; rfl, fun i r' w' a b => by
    by_cases hi : i < rs.length
    · rw [List.getElem?_append_left hi] at a
      rw [List.getElem?_append_left (by rw [← h.1]; exact hi)] at b
      exact h.2 i r' w' a b
    · rw [List.getElem?_append_right (by omega)] at a
      rw [List.getElem?_append_right (by rw [← h.1]; omega)] at b
      obtain ⟨h1, rfl⟩ : i - rs.length = 0 ∧ r = r' := by
        cases q : i - rs.length with
        | zero => rw [q] at a; exact ⟨rfl, Option.some.inj a⟩
        | succ m => rw [q] at a; simp at a
      rw [← h.1, h1] at b
      obtain rfl : w = w' := Option.some.inj b
      exact ⟨x, rest, e⟩⟩
theorem step_sized {N : Str → Prop} {ρ : Str → Int} {m : Nat} (F : Fun K "sized" "sized" s_sized f fd) (T : TxtP K w mg tM pA pC pO es n) (D_operation_of : Dn P w K mg base "operation_of" ["expr"] 1 (spOper N))
    (D_op_width : Dn P w K mg base "op_width" ["op", "widths", "told", "low"] 2 (spOpW K)) (D_sized : Dn P w K mg base "sized" ["widths", "expr"] (m + 3) (spSized N ρ m)) : FnOk P w K mg base CX0 (m + 4) f fd ["widths", "expr"] (spSized N ρ (m + 1)) := by
  refine F.ok sc_sized (fun vs H Q E h => ?_) (fun cdv A outer s H vs Q E hr h => ?_)
  · obtain ⟨d, e, v, rfl, _⟩ := h
    rfl
  obtain ⟨d, e, v, rfl, hd, hv, hR, hn, q⟩ := h
  refine ⟨_, (pss_cons (ps_if (pt_cmpR op_eq (pe_ix ix_tup (pv 1) pe_int (fun _ _ => rfl)) pe_str (nomark _)) (pss_one (ps_ret (pe_tup (pa_cons pe_str (pa_cons (pe_ix ix_tup (pv 1) pe_int (fun _ _ => rfl)) (pa_cons (pe_ix ix_tup (pv 1) pe_int (fun _ _ => rfl)) pa_nil)))))) pss_nil)
      (pss_cons (ps_if (pt_cmpR op_eq (pe_ix ix_tup (pv 1) pe_int (fun _ _ => rfl)) pe_str (nomark _)) (pss_one (ps_ret (pe_tup (pa_cons pe_str (pa_cons (pe_dget (hu_of hr) (pv 0) (pe_ix ix_tup (pv 1) pe_int (fun _ _ => rfl)) (fun _ _ => rfl)) (pa_cons (pe_ix ix_tup (pv 1) pe_int (fun _ _ => rfl)) pa_nil)))))) pss_nil)
      (pss_cons (ps_if (pt_cmpR op_eq (pe_ix ix_tup (pv 1) pe_int (fun _ _ => rfl)) pe_str (nomark _)) (pss_cons (ps_set (i := 2) sc_sized.nd rfl (Or.inl rfl) (pe_dn D_sized (hr.mono (by omega)) (by rfl) (pa_cons (pv 0) (pa_cons (pe_ix ix_tup (pv 1) pe_int (fun _ _ => rfl)) pa_nil))))
      (pss_one (ps_ret (pe_ifExp (pt_cmpR op_isN (pv 2) pe_non (nomark _)) pe_non (pe_tup (pa_cons pe_str (pa_cons (pe_dget (hu_of hr) (pv 0) (pe_ix ix_tup (pv 1) pe_int (fun _ _ => rfl)) (fun _ _ => rfl)) (pa_cons (pe_ix ix_tup (pv 1) pe_int (fun _ _ => rfl)) (pa_cons (pv 2) pa_nil))))))))) pss_nil)
      (pss_cons (ps_asg (pe_dn D_operation_of (hr.mono (by omega)) (by rfl) (pa_cons (pv 1) pa_nil)) (pg_tup rfl (pgs_cons (pg_name (i := 3) sc_sized.nd rfl (Or.inl rfl)) (pgs_cons (pg_name (i := 4) sc_sized.nd rfl (Or.inl rfl)) (pgs_cons (pg_name (i := 5) sc_sized.nd rfl (Or.inl rfl)) (pgs_cons (pg_name (i := 6) sc_sized.nd rfl (Or.inl rfl)) pgs_nil))))))
      (pss_cons (ps_set (i := 7) sc_sized.nd rfl (Or.inl rfl) (pe_lst pa_nil))
      (pss_cons (ps_for PassesOwn.never rfl (pi_tup (pv 6)) (pg_name (i := 8) sc_sized.nd rfl (Or.inl rfl)) (pss_cons (ps_set (i := 9) sc_sized.nd rfl (Or.inl rfl) (pe_dn D_sized (hr.mono (by omega)) (by rfl) (pa_cons (pv 0) (pa_cons (pv 8) pa_nil))))
      (pss_cons (ps_if (pt_cmpR op_isN (pv 9) pe_non (nomark _)) (pss_one (ps_ret pe_non)) pss_nil)
      (pss_one (ps_expr (pe_bm PySem.F.plainAttrs_list PySem.F.slot_list_append PySem.F.type_list_append mt_append (pv 7) (pa_cons (pv 9) pa_nil)))))))
      (pss_cons (ps_set (i := 10) sc_sized.nd rfl (Or.inl rfl) (pe_dn D_op_width (hr.mono (by omega)) (by rfl) (pa_cons (pv 3) (pa_cons (pe_lc (own := [("operand", 9)]) (g := gName 9) (tt := tYes) rfl sc_sized.nd (pi_list (pv 7)) (blkOk_by (N := ["widths", "expr", "address", "op", "told", "low", "inner", "operands", "part", "operand", "width"]) (sc := defScope s_sized) (by decide +kernel)) (fun _ _ _ _ _ => (pg_name (i := 9) sc_sized.nd rfl (Or.inl rfl))) (fun _ _ _ _ _ => pts_nil) (fun _ _ _ _ _ => (pe_ix (ix_tup : IxR _ (rIxT K)) (pv 9) pe_int (fun _ _ => rfl)))) (pa_cons (pv 4) (pa_cons (pv 5) pa_nil))))))
      (pss_one (ps_ret (pe_ifExp (pt_cmpR op_isN (pv 10) pe_non (nomark _)) pe_non (pe_tup (pa_cons (pv 3) (pa_cons (pv 10) (pa_cons (pv 5) (pa_cons (pe_callTy call_tuple_of (by rfl) T.n_tuple (by decide +kernel) (pa_cons (pv 7) pa_nil)) pa_nil))))))))))))))), ?_⟩
  have kinds : (∃ x u, e = .word x u) ∨ (∃ z, e = .name z) ∨ (∃ z a, e = .read z a) ∨ isOp e = true := by
    cases e with
    | word x u => exact .inl ⟨x, u, rfl⟩
    | name z => exact .inr (.inl ⟨z, rfl⟩)
    | read z a => exact .inr (.inr (.inl ⟨z, a, rfl⟩))
    | _ => exact .inr (.inr (.inr rfl))
  rcases kinds with ⟨x, u, rfl⟩ | ⟨z, rfl⟩ | ⟨z, a, rfl⟩ | hi
  · obtain ⟨p0, rfl, h0⟩ := hv
    refine ⟨_, rfl, p0, _, _, _, rfl, rfl, SqT.of h0, atI_nat (j := 0) rfl, rfl, _, rfl, ifY (by decide +kernel) ?_⟩
    refine ⟨_, rfl, p0, _, _, _, rfl, rfl, SqT.of h0, atI_nat (j := 2) rfl, _, rfl, p0, _, _, _, rfl, rfl, SqT.of h0, atI_nat (j := 1) rfl, (by show 3 ≤ sizeLine; decide), fun p hp => ?_⟩
    exact q _ _ (same_new hp _) ⟨p, _, _, rfl, upd_same⟩
  · obtain ⟨p0, rfl, h0⟩ := hv
    refine ⟨_, rfl, p0, _, _, _, rfl, rfl, SqT.of h0, atI_nat (j := 0) rfl, rfl, _, rfl, ifN (by decide +kernel) ?_⟩
    refine ⟨_, rfl, p0, _, _, _, rfl, rfl, SqT.of h0, atI_nat (j := 0) rfl, rfl, _, rfl, ifY (by decide +kernel) ?_⟩
    refine ⟨_, rfl, _, rfl, p0, _, _, _, rfl, rfl, SqT.of h0, atI_nat (j := 1) rfl, d, _, rfl, hd.get hR, _, rfl, p0, _, _, _, rfl, rfl, SqT.of h0, atI_nat (j := 1) rfl, (by show 3 ≤ sizeLine; decide), fun p hp => ?_⟩
    exact q _ _ (same_new hp _) ⟨p, _, _, rfl, upd_same⟩
  · obtain ⟨p0, y, rfl, h0, ha⟩ := hv
    refine ⟨_, rfl, p0, _, _, _, rfl, rfl, SqT.of h0, atI_nat (j := 0) rfl, rfl, _, rfl, ifN (by decide +kernel) ?_⟩
    refine ⟨_, rfl, p0, _, _, _, rfl, rfl, SqT.of h0, atI_nat (j := 0) rfl, rfl, _, rfl, ifN (by decide +kernel) ?_⟩
    refine ⟨_, rfl, p0, _, _, _, rfl, rfl, SqT.of h0, atI_nat (j := 0) rfl, rfl, _, rfl, ifY (by decide +kernel) ?_⟩
    refine ⟨_, rfl, _, rfl, p0, _, _, _, rfl, rfl, SqT.of h0, atI_nat (j := 2) rfl, d, a, y, rfl, hd, ha, hR.2, by simp only [dep] at hn; omega, fun r H1 s1 hr1 => ?_⟩
    refine ⟨_, rfl, rfl, _, rfl, ?_⟩
    cases hw : wid ρ a with
    | none =>
      rw [hw] at hr1
      refine ifY (decide_eq_true hr1) (q _ _ s1 ?_)
      rw [wid, hw]
      rfl
    | some u =>
      rw [hw] at hr1
      obtain ⟨p, x, rest, rfl, hp⟩ := hr1
      refine ifN (decide_eq_false fun h => nomatch h) ?_
      have h1 := s1 _ _ h0
      refine ⟨_, rfl, _, rfl, p0, _, _, _, rfl, rfl, SqT.of h1, atI_nat (j := 1) rfl, d, _, rfl, (hd.same s1).get hR.1, _, rfl, p0, _, _, _, rfl, rfl, SqT.of h1, atI_nat (j := 1) rfl, _, rfl, (by show 4 ≤ sizeLine; decide), fun p' hp' => q _ _ (s1.trans (same_new hp' _)) ?_⟩
      rw [wid, hw]
      exact ⟨p', _, _, rfl, upd_same⟩
  · obtain ⟨p0, o, ys0, rfl, h0, n1, n2, n3⟩ := op_head hv hR hi
    have pl3 := parts_len hi
    refine ⟨_, rfl, p0, _, _, _, rfl, rfl, SqT.of h0, atI_nat (j := 0) rfl, rfl, _, rfl, ifN n1 ?_⟩
    refine ⟨_, rfl, p0, _, _, _, rfl, rfl, SqT.of h0, atI_nat (j := 0) rfl, rfl, _, rfl, ifN n2 ?_⟩
    refine ⟨_, rfl, p0, _, _, _, rfl, rfl, SqT.of h0, atI_nat (j := 0) rfl, rfl, _, rfl, ifN n3 ?_⟩
    refine ⟨_, rfl, e, _, rfl, hv, hR, hi, fun p t ys H1 s1 hp ht hys => ?_⟩
    refine ⟨p, _, rfl, SqT.of hp, rfl, _, _, rfl, _, _, rfl, _, _, rfl, _, _, rfl, rfl, ?_⟩
    refine ⟨Nat.zero_le _, fun pl hpl => ?_⟩
    have ly := hys.1
    refine ⟨_, rfl, t, rfl, ⟨_, SqT.of (same_new hpl _ _ _ ht)⟩, for_it (walk_tup (xs := ys)) (fun i σ' H' => ∃ (s8 s9 : Option V) (rs : List Addr) (ws : List Int), σ' = [some (.ref d), some (.ref p0), none, some (.str (opx e)), some (.int (toldE e)), some (.int (lowE e)), some (.ref t), some (.ref pl), s8, s9, none] ∧
        Same H1 H' ∧ H' pl = some (.lst (rs.map V.ref)) ∧ rs.length = i ∧ OpsAt H' rs ws ∧ ∀ (j : Nat) (e' : Ex) (x : Int), (parts e)[j]? = some e' → ws[j]? = some x → wid ρ e' = some x)
      ⟨none, none, [], [], rfl, same_new hpl _, upd_same, rfl, ⟨rfl, fun i r w a => by simp at a⟩, fun j e' x _ h => by simp at h⟩ (fun i σ' H' hi pv => ?_) (fun i x σ' H' H2 hil pv y => ?_) (fun σ' H' pv => ?_)⟩
    · obtain ⟨_, _, _, _, _, sm, _⟩ := pv
      exact SqT.of (sm _ _ ht)
    · obtain ⟨s8, s9, rs, ws, rfl, sm, hl, hr', ho, hw⟩ := pv
      obtain ⟨rfl, hx⟩ := y
      have hil2 : i < (parts e).length := by omega
      have he' : (parts e)[i]? = some (parts e)[i] := List.getElem?_eq_getElem hil2
      have hmem : (parts e)[i] ∈ parts e := List.getElem_mem hil2
      have hdp := dep_part hmem
      refine ⟨_, rfl, _, rfl, d, (parts e)[i], x, rfl, hd.same (s1.trans sm), EV.keepT (KeepT.same sm) _ _ (hys.2 i _ x he' hx), right_part hR hmem, by omega, fun r H3 s3 hr3 => ?_⟩
      refine ⟨_, rfl, rfl, _, rfl, ?_⟩
      cases hwi : wid ρ (parts e)[i] with
      | none =>
        rw [hwi] at hr3
        refine ifY (decide_eq_true hr3) (q _ _ ((s1.trans sm).trans s3) ?_)
        rw [wid_op ρ e hi, wids_none hmem hwi]
        rfl
      | some u =>
        rw [hwi] at hr3
        obtain ⟨p3, x3, rest, rfl, hp3⟩ := hr3
        refine ifN (decide_eq_false fun h => nomatch h) ?_
        have hl3 := s3 _ _ hl
        have hlen : ws.length = i := by rw [← ho.1]; exact hr'
        have neq : p3 ≠ pl := fun z => by
          rw [z, hl3] at hp3
          cases hp3
        refine ⟨_, rfl, .inl ⟨rfl, _, SqL.of hl3⟩, _, rfl, pl, _, _, rfl, rfl, hl3, ?_, some x, some (.ref p3), rs ++ [p3], ws ++ [u], rfl, same_two (sm.trans s3) hpl, ?_, ?_, ?_, ?_⟩
        · rw [List.length_map]
          exact small1000 (by omega)
        · rw [upd_same, List.map_append]
          rfl
        · rw [List.length_append, hr']
          rfl
        · have o3 := (ho.same s3).snoc hp3
          refine ⟨o3.1, fun j r' w' a b => ?_⟩
          obtain ⟨x4, rest4, e4⟩ := o3.2 j r' w' a b
          refine ⟨x4, rest4, ?_⟩
          rw [upd_ne (fun z => by rw [z, hl3] at e4; cases e4)]
          exact e4
        · intro j e' x' h1 h2
          by_cases hj : j < ws.length
          · rw [List.getElem?_append_left hj] at h2
            exact hw j e' x' h1 h2
          · rw [List.getElem?_append_right (by omega)] at h2
            have z0 : j - ws.length = 0 := by
              cases z : j - ws.length with
              | zero => rfl
              | succ k => rw [z] at h2; simp at h2
            rw [z0] at h2
            obtain rfl : u = x' := Option.some.inj h2
            rw [show j = i by omega, he'] at h1
            obtain rfl := Option.some.inj h1
            exact hwi
    · obtain ⟨s8, s9, rs, ws, rfl, sm, hl, hr', ho, hw⟩ := pv
      have lws : ws.length = ys.length := by rw [← ho.1, hr']
      have hwids : wids ρ (parts e) = some ws := wids_some (by omega) hw
      have hwe : wid ρ e = opw (opx e) ws (toldE e) (lowE e) := by
        rw [wid_op ρ e hi, hwids]
        rfl
      refine ⟨_, rfl, _, rfl, pl, rfl, ⟨_, SqL.of hl⟩, fun D hD => lc_list (K := K) (a := pl) (xs := rs.map V.ref) (fun i H2 => Same H' H2 ∧ H2 D = some (.lst ((ws.take i).map V.int)))
        ⟨same_new hD _, upd_same⟩ (fun i H2 _ p => p.1.seq (SqL.of hl)) (fun i x H2 hx p => ?_) (fun H2 p => ?_)⟩
      · obtain ⟨r, hr2, rfl⟩ := refAt hx
        have hi2 := (List.getElem?_eq_some_iff.mp hr2).1
        have hi3 : i < ws.length := by rw [← ho.1]; exact hi2
        have hwi : ws[i]? = some ws[i] := List.getElem?_eq_getElem hi3
        obtain ⟨x3, rest, e3⟩ := ho.2 i r _ hr2 hwi
        refine ⟨rfl, _, rfl, r, _, _, _, rfl, rfl, SqT.of (p.1 _ _ e3), atI_nat (j := 1) rfl, _, p.2, ?_, same_two p.1 hD, ?_⟩
        · rw [List.length_map, List.length_take]
          exact small1000 (by omega)
        · rw [upd_same, take_snoc hwi, List.map_append]
          rfl
      rw [List.length_map, ho.1, List.take_length] at p
      refine ⟨_, rfl, _, rfl, opx e, D, ws, toldE e, lowE e, rfl, SqL.of p.2, ⟨by omega, fun h => ?_, fun h => ?_, by omega⟩, fun H4 s4 => ?_⟩
      · have := two_parts hR hi h
        omega
      · have := three_parts hR hi h
        omega
      have sall := ((s1.trans sm).trans p.1).trans s4
      refine ⟨_, rfl, rfl, _, rfl, ?_⟩
      cases hov : opw (opx e) ws (toldE e) (lowE e) with
      | none =>
        refine ifY (decide_eq_true rfl) (q _ _ sall ?_)
        rw [hwe, hov]
        rfl
      | some u =>
        refine ifN (decide_eq_false fun h => nomatch h) ?_
        have hl4 := s4 _ _ (p.1 _ _ hl)
        refine ⟨_, rfl, _, rfl, _, rfl, _, rfl, pl, _, rfl, .inl ⟨SqL.of hl4, fun t2 ht2 => ⟨(by show 4 ≤ sizeLine; decide), fun p5 hp5 => q _ _ ((sall.trans (same_new ht2 _)).trans (same_new hp5 _)) ?_⟩⟩⟩
        rw [hwe, hov]
        exact ⟨p5, _, _, rfl, upd_same⟩
end
end Bf

set_option Elab.async false
set_option linter.all false
set_option maxRecDepth 100000
set_option maxHeartbeats 4000000
namespace Bf
open PySem PySem.Spec PyProof.Rows L2
/-! ### the rows of a flat design, name_widths, width_of; the law's wides -/
theorem rdCat {K : PySem.W.Frag} {H : Hp} {a b : Addr} {xs ys : List V} {Q : VK} (ha : SqT K H a xs) (hb : SqT K H b ys) (hl : xs.length + ys.length ≤ 1000)
    (k : ∀ (t : Addr) (H' : Hp), Same H H' → SqT K H' t (xs ++ ys) → Q (.ref t) H') : rCatA K (.ref a) (.ref b) H Q := by
  refine ⟨a, b, xs, ys, rfl, rfl, ha, hb, le1000 hl, fun e => ?_, fun _ e => ?_, fun _ _ p hp => k p _ (same_new hp _) (SqT.of upd_same)⟩
  · subst e
    exact k b H (Same.refl _) hb
  · subst e
    refine k a H (Same.refl _) ?_
    rw [List.append_nil]
    exact ha
abbrev Row := Str × Int
def RowsAt (H : Hp) (ts : List Addr) (rs : List Row) : Prop := ts.length = rs.length ∧ ∀ (i : Nat) (t : Addr) (r : Row), ts[i]? = some t → rs[i]? = some r → ∃ rest : List V, H t = some (.tup (.str r.1 :: .int r.2 :: rest))
theorem RowsAt.same {H H' : Hp} {ts : List Addr} {rs : List Row} (h : RowsAt H ts rs) (k : Same H H') : RowsAt H' ts rs := ⟨h.1, fun i t r a b => let ⟨x, e⟩ := h.2 i t r a b; ⟨x, k _ _ e⟩⟩
theorem RowsAt.app {H : Hp} {ts us : List Addr} {rs ss : List Row} (h : RowsAt H ts rs) (h2 : RowsAt H us ss) : RowsAt H (ts ++ us) (rs ++ ss) :=
  ⟨by rw [List.length_append, List.length_append, h.1, h2.1], fun i t r a b => by
    by_cases hi : i < ts.length
    · rw [List.getElem?_append_left hi] at a
      rw [List.getElem?_append_left (by rw [← h.1]; exact hi)] at b
      exact h.2 i t r a b
    · rw [List.getElem?_append_right (by omega)] at a
      rw [List.getElem?_append_right (by rw [← h.1]; omega), ← h.1] at b
      exact h2.2 _ t r a b⟩
/-- a tuple of such rows at a -/
def Rws (H : Hp) (a : Addr) (rs : List Row) : Prop := ∃ ts : List Addr, H a = some (.tup (ts.map V.ref)) ∧ RowsAt H ts rs
theorem Rws.same {H H' : Hp} {a : Addr} {rs : List Row} (h : Rws H a rs) (k : Same H H') : Rws H' a rs := let ⟨ts, e, r⟩ := h; ⟨ts, k _ _ e, r.same k⟩
structure Flt (H : Hp) (a : Addr) (ins ws rs ms : List Row) : Prop where
  ex : ∃ (i o w r m b c : Addr), H a = some (.tup [.str "flat", .ref i, .ref o, .ref w, .ref r, .ref m, .ref b, .ref c]) ∧ Rws H i ins ∧ Rws H w ws ∧ Rws H r rs ∧ Rws H m ms
  le : ins.length + ws.length + rs.length + ms.length ≤ 900
theorem Flt.same {H H' : Hp} {a : Addr} {ins ws rs ms : List Row} (h : Flt H a ins ws rs ms) (k : Same H H') : Flt H' a ins ws rs ms :=
  ⟨let ⟨i, o, w, r, m, b, c, e, h1, h2, h3, h4⟩ := h.ex; ⟨i, o, w, r, m, b, c, k _ _ e, h1.same k, h2.same k, h3.same k, h4.same k⟩, h.le⟩
def foldK (kvs : List (Key × V)) (rs : List Row) : List (Key × V) := rs.foldl (fun kvs r => putK kvs (Sum.inr r.1 : Key) (.int r.2)) kvs
theorem foldK_snoc (kvs : List (Key × V)) (rs : List Row) (r : Row) : foldK kvs (rs ++ [r]) = putK (foldK kvs rs) (Sum.inr r.1 : Key) (.int r.2) := by
  unfold foldK
  rw [List.foldl_append]
  rfl
theorem foldK_len (kvs : List (Key × V)) : ∀ rs : List Row, (foldK kvs rs).length ≤ kvs.length + rs.length := by
  intro rs
  induction rs generalizing kvs with
  | nil => exact Nat.le_refl _
  | cons r rs ih =>
    have h1 := ih (putK kvs (Sum.inr r.1 : Key) (.int r.2))
    have h2 := length_putK kvs (Sum.inr r.1 : Key) (.int r.2)
    have e : foldK kvs (r :: rs) = foldK (putK kvs (Sum.inr r.1 : Key) (.int r.2)) rs := rfl
    rw [e, List.length_cons]
    omega
/-- a later row's width is told -/
theorem foldK_has (z : Str) : ∀ (rs : List Row) (kvs : List (Key × V)), ((∃ x : Int, valV kvs (Sum.inr z : Key) = some (.int x)) ∨ z ∈ rs.map Prod.fst) → ∃ x : Int, valV (foldK kvs rs) (Sum.inr z : Key) = some (.int x)
  | [], kvs, h => by
    rcases h with h | h
    · exact h
    · simp at h
  | r :: rs, kvs, h => by
    refine foldK_has z rs (putK kvs (Sum.inr r.1 : Key) (.int r.2)) ?_
    by_cases e : z = r.1
    · refine .inl ⟨r.2, ?_⟩
      rw [valV_put, if_pos (by rw [e])]
    · rcases h with ⟨x, h⟩ | h
      · refine .inl ⟨x, ?_⟩
        rw [valV_put, if_neg (fun q => e (Sum.inr.inj q))]
        exact h
      · rw [List.map_cons] at h
        rcases List.mem_cons.mp h with q | q
        · exact absurd q e
        · exact .inr q
def rhoOf (rs : List Row) (z : Str) : Int := match valV (foldK [] rs) (Sum.inr z : Key) with
  | some (.int x) => x
  | _ => 0
theorem wd_fold {H : Hp} {d : Addr} {rs : List Row} (h : H d = some (.dK (foldK [] rs))) : WD (fun z => z ∈ rs.map Prod.fst) (rhoOf rs) H d := by
  refine ⟨_, h, fun z hz => ?_⟩
  obtain ⟨x, e⟩ := foldK_has z rs [] (.inr hz)
  have e2 : rhoOf rs z = x := by
    unfold rhoOf
    rw [e]
  rw [e2, e]
def spNameW : Sp := fun vs H Q _ => ∃ (a : Addr) (ins ws rs ms : List Row), vs = [.ref a] ∧ Flt H a ins ws rs ms ∧ ∀ (p : Addr) (H' : Hp), Same H H' → H p = none → H' p = some (.dK (foldK [] (ins ++ ws ++ rs ++ ms))) → Q (.ref p) H'
section
variable {P : Program} {w : World} {K : PySem.W.Frag} {mg : Str → Option Value} {base : Heap} {f : Addr} {fd : FuncData} {tM : Tok} {pA pC pO : Addr} {es : Array DictEntry} {n : Nat}
theorem rowAt {H : Hp} {ts : List Addr} {rs : List Row} {i : Nat} {x : V} (h : RowsAt H ts rs) (hx : (ts.map V.ref)[i]? = some x) : ∃ (t : Addr) (r : Row) (rest : List V), x = .ref t ∧ rs[i]? = some r ∧ H t = some (.tup (.str r.1 :: .int r.2 :: rest)) := by
  obtain ⟨t, ht, rfl⟩ := refAt hx
  have hi := (List.getElem?_eq_some_iff.mp ht).1
  have hi2 : i < rs.length := by rw [← h.1]; exact hi
  obtain ⟨rest, e⟩ := h.2 i t _ ht (List.getElem?_eq_getElem hi2)
  exact ⟨t, _, rest, rfl, List.getElem?_eq_getElem hi2, e⟩
theorem ok_nameW (F : Fun K "name_widths" "name_widths" s_name_widths f fd) : FnOk P w K mg base CX0 1 f fd ["flat"] spNameW := by
  refine F.ok sc_name_widths (fun vs H Q E h => ?_) (fun cdv A outer s H vs Q E hr h => ?_)
  · obtain ⟨a, _, _, _, _, rfl, _⟩ := h
    rfl
  obtain ⟨a, ins, ws, rs, ms, rfl, ⟨⟨i, o, w', r, m, b, c, h0, h1, h2, h3, h4⟩, hle⟩, q⟩ := h
  refine ⟨_, (pss_cons (ps_asg (pv 0) (pg_tup rfl (pgs_cons (pg_name (i := 1) sc_name_widths.nd rfl (Or.inl rfl)) (pgs_cons (pg_name (i := 2) sc_name_widths.nd rfl (Or.inl rfl)) (pgs_cons (pg_name (i := 1) sc_name_widths.nd rfl (Or.inl rfl)) (pgs_cons (pg_name (i := 3) sc_name_widths.nd rfl (Or.inl rfl)) (pgs_cons (pg_name (i := 4) sc_name_widths.nd rfl (Or.inl rfl)) (pgs_cons (pg_name (i := 5) sc_name_widths.nd rfl (Or.inl rfl)) (pgs_cons (pg_name (i := 1) sc_name_widths.nd rfl (Or.inl rfl)) (pgs_cons (pg_name (i := 1) sc_name_widths.nd rfl (Or.inl rfl)) pgs_nil))))))))))
      (pss_cons (ps_set (i := 6) sc_name_widths.nd rfl (Or.inl rfl) pe_dnewK)
      (pss_cons (ps_for PassesOwn.never rfl (pi_tup (pe_op op_catA (pe_op op_catA (pe_op op_catA (pv 2) (pv 3)) (pv 4)) (pv 5))) (pg_name (i := 7) sc_name_widths.nd rfl (Or.inl rfl)) (pss_one (ps_dput (hu_of hr) (pv 6) (pe_ix ix_tup (pv 7) pe_int (fun _ _ => rfl)) (pe_ix ix_tup (pv 7) pe_int (fun _ _ => rfl)) rfl)))
      (pss_one (ps_ret (pv 6)))))), ?_⟩
  obtain ⟨t1, e1, r1⟩ := h1
  obtain ⟨t2, e2, r2⟩ := h2
  obtain ⟨t3, e3, r3⟩ := h3
  obtain ⟨t4, e4, r4⟩ := h4
  have l1 := r1.1
  have l2 := r2.1
  have l3 := r3.1
  have l4 := r4.1
  refine ⟨_, rfl, a, _, rfl, SqT.of h0, rfl, _, _, rfl, _, _, rfl, _, _, rfl, _, _, rfl, _, _, rfl, _, _, rfl, _, _, rfl, _, _, rfl, rfl, fun p hp => ?_⟩
  have s1 := same_new hp (.dK [])
  refine ⟨_, rfl, _, rfl, rdCat (SqT.of (s1 _ _ e1)) (SqT.of (s1 _ _ e2)) (by rw [List.length_map, List.length_map]; omega) fun c1 H1 k1 hc1 => ?_⟩
  have s2 := s1.trans k1
  refine ⟨_, rfl, rdCat hc1 (SqT.of (s2 _ _ e3)) (by rw [List.length_append, List.length_map, List.length_map, List.length_map]; omega) fun c2 H2 k2 hc2 => ?_⟩
  have s3 := s2.trans k2
  refine ⟨_, rfl, rdCat hc2 (SqT.of (s3 _ _ e4)) (by rw [List.length_append, List.length_append, List.length_map, List.length_map, List.length_map, List.length_map]; omega) fun c3 H3 k3 hc3 => ?_⟩
  have s4 := s3.trans k3
  rw [← List.map_append, ← List.map_append, ← List.map_append] at hc3
  have rall := ((r1.app r2).app r3).app r4
  have hp3 := k3 _ _ (k2 _ _ (k1 _ _ (upd_same (H := H) (a := p) (o := .dK []))))
  refine ⟨c3, rfl, ⟨_, hc3⟩, for_it (walk_tup (xs := (t1 ++ t2 ++ t3 ++ t4).map V.ref)) (fun j σ' H' => ∃ s7 : Option V, σ' = [some (.ref a), some (.ref c), some (.ref i), some (.ref w'), some (.ref r), some (.ref m), some (.ref p), s7] ∧ Same H H' ∧ SqT K H' c3 ((t1 ++ t2 ++ t3 ++ t4).map V.ref) ∧ H' p = some (.dK (foldK [] ((ins ++ ws ++ rs ++ ms).take j))))
    ⟨none, rfl, s4, hc3, hp3⟩ (fun j σ' H' hj pv => ?_) (fun j x σ' H' H5 hj pv y => ?_) (fun σ' H' pv => ?_)⟩
  · obtain ⟨_, _, _, h, _⟩ := pv
    exact h
  · obtain ⟨s7, rfl, sm, hq, hd⟩ := pv
    obtain ⟨rfl, hx⟩ := y
    obtain ⟨t, rw', rest, rfl, hrw, et⟩ := rowAt (rall.same sm) hx
    have hj2 := (List.getElem?_eq_some_iff.mp hrw).1
    rw [List.length_append, List.length_append, List.length_append] at hj2
    have hk := foldK_len [] ((ins ++ ws ++ rs ++ ms).take j)
    rw [List.length_take] at hk
    have hk0 : ([] : List (Key × V)).length = 0 := rfl
    refine ⟨_, rfl, t, _, _, _, rfl, rfl, SqT.of et, atI_nat (j := 1) rfl, _, rfl, _, rfl, t, _, _, _, rfl, rfl, SqT.of et, atI_nat (j := 0) rfl, p, _, rfl, DPut.k (k := (Sum.inr rw'.1 : Key)) hd (small1000 (by omega)), some (.ref t), rfl, same_two sm hp, ?_, ?_⟩
    · rcases hq with (h | ⟨u, h⟩) | h
      · exact .inl (.inl (by rw [upd_ne (fun z => by rw [z, hd] at h; cases h)]; exact h))
      · exact .inl (.inr ⟨u, by rw [upd_ne (fun z => by rw [z, hd] at h; cases h)]; exact h⟩)
      · exact .inr h
    · rw [upd_same, take_snoc hrw, foldK_snoc]
  · obtain ⟨s7, rfl, sm, hq, hd⟩ := pv
    rw [List.length_map, rall.1, List.take_length] at hd
    exact ⟨_, rfl, q p _ sm hp hd⟩
theorem ok_wides (F : Fun K "_law_wides" "_law_wides" s_law_wides f fd) : FnOk P w K mg base CX0 1 f fd ["_law_flat"] spNameW := by
  refine F.ok sc_law_wides (fun vs H Q E h => ?_) (fun cdv A outer s H vs Q E hr h => ?_)
  · obtain ⟨a, _, _, _, _, rfl, _⟩ := h
    rfl
  obtain ⟨a, ins, ws, rs, ms, rfl, ⟨⟨i, o, w', r, m, b, c, h0, h1, h2, h3, h4⟩, hle⟩, q⟩ := h
  refine ⟨_, (pss_cons (ps_set (i := 1) sc_law_wides.nd rfl (Or.inl rfl) pe_dnewK)
      (pss_cons (ps_for PassesOwn.never rfl (pi_tup (pe_op op_catA (pe_op op_catA (pe_op op_catA (pe_ix ix_tup (pv 0) pe_int (fun _ _ => rfl)) (pe_ix ix_tup (pv 0) pe_int (fun _ _ => rfl))) (pe_ix ix_tup (pv 0) pe_int (fun _ _ => rfl))) (pe_ix ix_tup (pv 0) pe_int (fun _ _ => rfl)))) (pg_name (i := 2) sc_law_wides.nd rfl (Or.inl rfl)) (pss_one (ps_dput (hu_of hr) (pv 1) (pe_ix ix_tup (pv 2) pe_int (fun _ _ => rfl)) (pe_ix ix_tup (pv 2) pe_int (fun _ _ => rfl)) rfl)))
      (pss_one (ps_ret (pv 1))))), ?_⟩
  obtain ⟨t1, e1, r1⟩ := h1
  obtain ⟨t2, e2, r2⟩ := h2
  obtain ⟨t3, e3, r3⟩ := h3
  obtain ⟨t4, e4, r4⟩ := h4
  have l1 := r1.1
  have l2 := r2.1
  have l3 := r3.1
  have l4 := r4.1
  refine fun p hp => ?_
  have s1 := same_new hp (.dK [])
  have h01 := s1 _ _ h0
  refine ⟨_, rfl, a, _, _, _, rfl, rfl, SqT.of h01, atI_nat (j := 1) rfl, _, rfl, a, _, _, _, rfl, rfl, SqT.of h01, atI_nat (j := 3) rfl, rdCat (SqT.of (s1 _ _ e1)) (SqT.of (s1 _ _ e2)) (by rw [List.length_map, List.length_map]; omega) fun c1 H1 k1 hc1 => ?_⟩
  have s2 := s1.trans k1
  refine ⟨_, rfl, a, _, _, _, rfl, rfl, SqT.of (s2 _ _ h0), atI_nat (j := 4) rfl, rdCat hc1 (SqT.of (s2 _ _ e3)) (by rw [List.length_append, List.length_map, List.length_map, List.length_map]; omega) fun c2 H2 k2 hc2 => ?_⟩
  have s3 := s2.trans k2
  refine ⟨_, rfl, a, _, _, _, rfl, rfl, SqT.of (s3 _ _ h0), atI_nat (j := 5) rfl, rdCat hc2 (SqT.of (s3 _ _ e4)) (by rw [List.length_append, List.length_append, List.length_map, List.length_map, List.length_map, List.length_map]; omega) fun c3 H3 k3 hc3 => ?_⟩
  have s4 := s3.trans k3
  rw [← List.map_append, ← List.map_append, ← List.map_append] at hc3
  have rall := ((r1.app r2).app r3).app r4
  have hp3 := k3 _ _ (k2 _ _ (k1 _ _ (upd_same (H := H) (a := p) (o := .dK []))))
  refine ⟨c3, rfl, ⟨_, hc3⟩, for_it (walk_tup (xs := (t1 ++ t2 ++ t3 ++ t4).map V.ref)) (fun j σ' H' => ∃ s7 : Option V, σ' = [some (.ref a), some (.ref p), s7] ∧ Same H H' ∧ SqT K H' c3 ((t1 ++ t2 ++ t3 ++ t4).map V.ref) ∧ H' p = some (.dK (foldK [] ((ins ++ ws ++ rs ++ ms).take j))))
    ⟨none, rfl, s4, hc3, hp3⟩ (fun j σ' H' hj pv => ?_) (fun j x σ' H' H5 hj pv y => ?_) (fun σ' H' pv => ?_)⟩
  · obtain ⟨_, _, _, h, _⟩ := pv
    exact h
  · obtain ⟨s7, rfl, sm, hq, hd⟩ := pv
    obtain ⟨rfl, hx⟩ := y
    obtain ⟨t, rw', rest, rfl, hrw, et⟩ := rowAt (rall.same sm) hx
    have hj2 := (List.getElem?_eq_some_iff.mp hrw).1
    rw [List.length_append, List.length_append, List.length_append] at hj2
    have hk := foldK_len [] ((ins ++ ws ++ rs ++ ms).take j)
    rw [List.length_take] at hk
    have hk0 : ([] : List (Key × V)).length = 0 := rfl
    refine ⟨_, rfl, t, _, _, _, rfl, rfl, SqT.of et, atI_nat (j := 1) rfl, _, rfl, _, rfl, t, _, _, _, rfl, rfl, SqT.of et, atI_nat (j := 0) rfl, p, _, rfl, DPut.k (k := (Sum.inr rw'.1 : Key)) hd (small1000 (by omega)), some (.ref t), rfl, same_two sm hp, ?_, ?_⟩
    · rcases hq with (h | ⟨u, h⟩) | h
      · exact .inl (.inl (by rw [upd_ne (fun z => by rw [z, hd] at h; cases h)]; exact h))
      · exact .inl (.inr ⟨u, by rw [upd_ne (fun z => by rw [z, hd] at h; cases h)]; exact h⟩)
      · exact .inr h
    · rw [upd_same, take_snoc hrw, foldK_snoc]
  · obtain ⟨s7, rfl, sm, hq, hd⟩ := pv
    rw [List.length_map, rall.1, List.take_length] at hd
    exact ⟨_, rfl, q p _ sm hp hd⟩
theorem ok_sized {N : Str → Prop} {ρ : Str → Int} (F : Fun K "sized" "sized" s_sized f fd) (T : TxtP K w mg tM pA pC pO es n) (D_operation_of : Dn P w K mg base "operation_of" ["expr"] 1 (spOper N))
    (D_op_width : Dn P w K mg base "op_width" ["op", "widths", "told", "low"] 2 (spOpW K)) (hm : mg "sized" = some (.ref f)) (kp : PySem.W.keepIn K (.ref f) = true) (hb : Binds K fd ["widths", "expr"] []) :
    ∀ m : Nat, FnOk P w K mg base CX0 (m + 3) f fd ["widths", "expr"] (spSized N ρ m)
  | 0 => by
    refine F.ok sc_sized (fun vs H Q E h => ?_) (fun cdv A outer s H vs Q E hr h => ?_)
    · obtain ⟨d, e, v, rfl, _⟩ := h
      rfl
    · obtain ⟨_, _, _, _, _, _, _, hn, _⟩ := h
      exact absurd hn (Nat.not_lt_zero _)
  | m + 1 => step_sized F T D_operation_of D_op_width ⟨f, fd, ok_sized F T D_operation_of D_op_width hm kp hb m, hm, kp, hb⟩
def spWidth (m : Nat) : Sp := fun vs H Q _ => ∃ (a : Addr) (ins ws rs ms : List Row) (e : Ex) (v : V), vs = [.ref a, v] ∧ Flt H a ins ws rs ms ∧ EV H e v ∧ Right (fun z => z ∈ (ins ++ ws ++ rs ++ ms).map Prod.fst) e ∧ dep e < m ∧
  ∀ H' : Hp, Same H H' → Q (optV (wid (rhoOf (ins ++ ws ++ rs ++ ms)) e)) H'
theorem ok_width {m : Nat} (F : Fun K "width_of" "width_of" s_width_of f fd) (D_name_widths : Dn P w K mg base "name_widths" ["flat"] 1 spNameW)
    (D_sizedAll : ∀ (N : Str → Prop) (ρ : Str → Int), Dn P w K mg base "sized" ["widths", "expr"] (m + 3) (spSized N ρ m)) : FnOk P w K mg base CX0 (m + 4) f fd ["flat", "expr"] (spWidth m) := by
  refine F.ok sc_width_of (fun vs H Q E h => ?_) (fun cdv A outer s H vs Q E hr h => ?_)
  · obtain ⟨a, _, _, _, _, _, _, rfl, _⟩ := h
    rfl
  obtain ⟨a, ins, ws, rs, ms, e, v, rfl, hf, hv, hR, hn, q⟩ := h
  have D_sized := D_sizedAll (fun z => z ∈ (ins ++ ws ++ rs ++ ms).map Prod.fst) (rhoOf (ins ++ ws ++ rs ++ ms))
  refine ⟨_, (pss_cons (ps_set (i := 2) sc_width_of.nd rfl (Or.inl rfl) (pe_dn D_sized (hr.mono (by omega)) (by rfl) (pa_cons (pe_dn D_name_widths (hr.mono (by omega)) (by rfl) (pa_cons (pv 0) pa_nil)) (pa_cons (pv 1) pa_nil))))
      (pss_one (ps_ret (pe_ifExp (pt_cmpR op_isN (pv 2) pe_non (nomark _)) pe_non (pe_ix ix_tup (pv 2) pe_int (fun _ _ => rfl)))))), ?_⟩
  refine ⟨_, rfl, a, ins, ws, rs, ms, rfl, hf, fun p H1 s1 _ hp => ?_⟩
  refine ⟨_, rfl, p, e, v, rfl, wd_fold hp, EV.keepT (KeepT.same s1) _ _ hv, hR, hn, fun r H2 s2 hr2 => ?_⟩
  refine ⟨_, rfl, rfl, _, rfl, ?_⟩
  cases hw : wid (rhoOf (ins ++ ws ++ rs ++ ms)) e with
  | none =>
    rw [hw] at hr2 q
    exact ifY (decide_eq_true hr2) (q _ (s1.trans s2))
  | some u =>
    rw [hw] at hr2 q
    obtain ⟨p2, x, rest, rfl, hp2⟩ := hr2
    exact ifN (decide_eq_false fun h => nomatch h) ⟨_, rfl, p2, _, _, _, rfl, rfl, SqT.of hp2, atI_nat (j := 1) rfl, q _ (s1.trans s2)⟩
end
end Bf

set_option Elab.async false
set_option linter.all false
set_option maxRecDepth 100000
set_option maxHeartbeats 4000000
namespace Bf
open PySem PySem.Spec PyProof.Rows L2
/-! ### the law's own wide -/
def marks : Ex → List (Option Ex)
  | .read _ a => [none, some a]
  | .bits a _ _ => [some a, none, none]
  | .ext _ a _ => [some a, none]
  | .op1 _ a => [some a]
  | .op2 _ a b => [some a, some b]
  | .op3 a b c => [some a, some b, some c]
  | _ => []
def kids (e : Ex) : List Ex := (marks e).filterMap id
def lop : Ex → Str
  | .word _ _ => "word"
  | .name _ => "name"
  | .read _ _ => "read"
  | .bits _ _ _ => "bits"
  | .ext o _ _ => o
  | .op1 o _ => o
  | .op2 o _ _ => o
  | .op3 _ _ _ => "pick"
def MAt (H : Hp) (ms : List (Option Ex)) (ys : List V) : Prop := ms.length = ys.length ∧ ∀ (i : Nat) (y : V), ys[i]? = some y → (∃ e, ms[i]? = some (some e) ∧ EV H e y) ∨ (ms[i]? = some none ∧ ((∃ z, y = .str z) ∨ ∃ k, y = .int k))
theorem MAt.nil {H : Hp} : MAt H [] [] := ⟨rfl, fun i y h => by simp at h⟩
theorem MAt.part {H : Hp} {e : Ex} {y : V} {ms : List (Option Ex)} {ys : List V} (h : EV H e y) (r : MAt H ms ys) : MAt H (some e :: ms) (y :: ys) := ⟨congrArg (· + 1) r.1, fun i z q => by
  cases i with
  | zero => cases q; exact .inl ⟨e, rfl, h⟩
  | succ i => exact r.2 i z (by simpa using q)⟩
theorem MAt.scal {H : Hp} {y : V} {ms : List (Option Ex)} {ys : List V} (h : (∃ z, y = .str z) ∨ ∃ k, y = .int k) (r : MAt H ms ys) : MAt H (none :: ms) (y :: ys) := ⟨congrArg (· + 1) r.1, fun i z q => by
  cases i with
  | zero => cases q; exact .inr ⟨rfl, h⟩
  | succ i => exact r.2 i z (by simpa using q)⟩
theorem MAt.keepT {H H' : Hp} {ms : List (Option Ex)} {ys : List V} (h : MAt H ms ys) (k : KeepT H H') : MAt H' ms ys := ⟨h.1, fun i y q => by
  rcases h.2 i y q with ⟨e, a, b⟩ | h
  · exact .inl ⟨e, a, EV.keepT k e y b⟩
  · exact .inr h⟩
/-- what stands behind the sign -/
theorem ev_marks {H : Hp} {e : Ex} {v : V} (h : EV H e v) (nw : ∀ x u, e ≠ .word x u) (nn : ∀ z, e ≠ .name z) : ∃ (p : Addr) (ys : List V), v = .ref p ∧ H p = some (.tup (.str (lop e) :: ys)) ∧ MAt H (marks e) ys ∧ 1 ≤ ys.length ∧ ys.length ≤ 3 := by
  cases e with
  | word x u => exact absurd rfl (nw x u)
  | name z => exact absurd rfl (nn z)
  | read z a =>
    obtain ⟨p, y, e, hp, ha⟩ := h
    exact ⟨p, _, e, hp, .scal (.inl ⟨z, rfl⟩) (.part ha .nil), by simp, by simp⟩
  | bits a k l =>
    obtain ⟨p, y, e, hp, ha⟩ := h
    exact ⟨p, _, e, hp, .part ha (.scal (.inr ⟨k, rfl⟩) (.scal (.inr ⟨l, rfl⟩) .nil)), by simp, by simp⟩
  | ext o a u =>
    obtain ⟨p, y, e, hp, ha⟩ := h
    exact ⟨p, _, e, hp, .part ha (.scal (.inr ⟨u, rfl⟩) .nil), by simp, by simp⟩
  | op1 o a =>
    obtain ⟨p, y, e, hp, ha⟩ := h
    exact ⟨p, _, e, hp, .part ha .nil, by simp, by simp⟩
  | op2 o a b =>
    obtain ⟨p, y, z, e, hp, ha, hb⟩ := h
    exact ⟨p, _, e, hp, .part ha (.part hb .nil), by simp, by simp⟩
  | op3 a b c =>
    obtain ⟨p, y, z, u, e, hp, ha, hb, hc⟩ := h
    exact ⟨p, _, e, hp, .part ha (.part hb (.part hc .nil)), by simp, by simp⟩
theorem kid_dep {e a : Ex} (h : some a ∈ marks e) : dep a < dep e := by
  cases e <;> simp only [marks, List.mem_cons, List.not_mem_nil, or_false, Option.some.injEq, reduceCtorEq, false_or] at h <;> (try rcases h with h | h | h) <;> (try rcases h with h | h) <;> subst_vars <;> simp only [dep] <;> omega
theorem kid_right {N : Str → Prop} {e a : Ex} (r : Right N e) (h : some a ∈ marks e) : Right N a := by
  cases e <;> simp only [marks, List.mem_cons, List.not_mem_nil, or_false, Option.some.injEq, reduceCtorEq, false_or] at h <;> (try rcases h with h | h | h) <;> (try rcases h with h | h) <;> subst_vars <;> simp only [Right] at r <;> simp [r]
def spLWide (N : Str → Prop) (ρ : Str → Int) (n : Nat) : Sp := fun vs H Q _ => ∃ (d : Addr) (e : Ex) (v : V), vs = [.ref d, v] ∧ WD N ρ H d ∧ EV H e v ∧ Right N e ∧ dep e < n ∧ ∀ H' : Hp, Same H H' → Q (optV (wid ρ e)) H'
def optL (ρ : Str → Int) (es : List Ex) : List V := es.map fun e => optV (wid ρ e)
theorem flat_opt (ρ : Str → Int) : ∀ es : List Ex, (optL ρ es).all flatV = true
  | [] => rfl
  | e :: r => by
    show (flatV (optV (wid ρ e)) && (optL ρ r).all flatV) = true
    rw [flat_opt ρ r]
    cases wid ρ e <;> rfl
/-- None in told -/
theorem inV_none (ρ : Str → Int) : ∀ es : List Ex, inV .non (optL ρ es) = (wids ρ es).isNone
  | [] => rfl
  | e :: r => by
    show (eqV (optV (wid ρ e)) .non || inV .non (optL ρ r)) = _
    rw [inV_none ρ r, wids]
    cases wid ρ e with
    | none => rfl
    | some x => cases wids ρ r <;> rfl
theorem optL_some {ρ : Str → Int} : ∀ {es : List Ex} {ws : List Int}, wids ρ es = some ws → optL ρ es = ws.map V.int
  | [], ws, h => by
    cases h
    rfl
  | e :: r, ws, h => by
    rw [wids] at h
    cases h1 : wid ρ e with
    | none => rw [h1] at h; cases h
    | some x =>
      cases h2 : wids ρ r with
      | none => rw [h1, h2] at h; cases h
      | some xs =>
        rw [h1, h2] at h
        cases h
        show optV (wid ρ e) :: optL ρ r = _
        rw [h1, optL_some h2]
        rfl
def shS : List Str := ["not", "neg", "<<", ">>"]
def cmS : List Str := ["==", "!=", "<", "<="]
def yS : List Str := ["any", "all", "odd"]
theorem opw2 {o : Str} (h : o ∈ signs) (x y : Int) : opw (tbl o) [x, y] 0 0 =
    if decide (o = "join") = true then (if x + y ≤ 8 then some (x + y) else none) else if decide (o ∈ shS) = true then some x else if x = y then (if decide (o ∈ cmS) = true then some 1 else some x) else none := by
  have k : ∀ o ∈ signs, decide (tbl o ∈ alikeL) = (!decide (o = "join") && (!decide (o ∈ shS) && !decide (o ∈ cmS))) ∧ decide (tbl o ∈ comparL) = decide (o ∈ cmS) ∧ decide (tbl o ∈ (["not", "neg", "shl", "shr"] : List Str)) = decide (o ∈ shS) ∧ decide (tbl o ∈ (["any", "all", "odd"] : List Str)) = false ∧
      decide (tbl o = "pick") = false ∧ decide (tbl o = "join") = decide (o = "join") ∧ (decide (o ∈ shS) && decide (o ∈ cmS)) = false ∧ (decide (o = "join") && (decide (o ∈ cmS) || decide (o ∈ shS))) = false := by decide +kernel
  obtain ⟨k1, k2, k3, k4, k5, k6, k7, k8⟩ := k o h
  unfold opw
  rw [k1, k2, k3, k4, k5, k6]
  have es : ([x, y] : List Int).sum = x + y := by simp
  have e0 : ([x, y] : List Int).getD 0 0 = x := rfl
  have e1 : ([x, y] : List Int).getD 1 0 = y := rfl
  rw [es, e0, e1]
  cases hj : decide (o = "join") <;> cases hs : decide (o ∈ shS) <;> cases hc : decide (o ∈ cmS) <;> rw [hs, hc] at k7 <;> rw [hj, hs, hc] at k8 <;> simp at k7 k8 ⊢
theorem opw1 {o : Str} (h : o ∈ (["not", "neg", "any", "all", "odd"] : List Str)) (x : Int) : opw o [x] 0 0 = if decide (o ∈ yS) = true then some 1 else some x := by
  have k : ∀ o ∈ (["not", "neg", "any", "all", "odd"] : List Str), decide (o ∈ alikeL) = false ∧ decide (o ∈ comparL) = false ∧ decide (o ∈ (["not", "neg", "shl", "shr"] : List Str)) = (!decide (o ∈ yS)) ∧ decide (o ∈ (["any", "all", "odd"] : List Str)) = decide (o ∈ yS) := by decide +kernel
  obtain ⟨k1, k2, k3, k4⟩ := k o h
  unfold opw
  rw [k1, k2, k3, k4]
  cases hc : decide (o ∈ yS) <;> simp
theorem opw3 (x y z : Int) : opw "pick" [x, y, z] 0 0 = if x = 1 ∧ y = z then some y else none := by
  unfold opw
  rw [if_neg (by decide +kernel), if_neg (by decide +kernel), if_neg (by decide +kernel), if_neg (by decide +kernel), if_pos (by decide +kernel)]
  rfl
theorem opwW (x u : Int) : opw "wide" [x] u 0 = some u := by
  unfold opw
  rw [if_neg (by decide +kernel), if_neg (by decide +kernel), if_neg (by decide +kernel), if_neg (by decide +kernel), if_neg (by decide +kernel), if_neg (by decide +kernel), if_neg (fun h => absurd h.1 (by decide +kernel)), if_neg (fun h => absurd h.1 (by decide +kernel))]
theorem opwS (x u : Int) : opw "sign" [x] u 0 = if x ≤ u then some u else none := by
  unfold opw
  rw [if_neg (by decide +kernel), if_neg (by decide +kernel), if_neg (by decide +kernel), if_neg (by decide +kernel), if_neg (by decide +kernel), if_neg (by decide +kernel)]
  have e0 : ([x] : List Int).getD 0 0 = x := rfl
  rw [e0]
  by_cases h : x ≤ u
  · rw [if_neg (fun q => by have := q.2; omega), if_neg (fun q => absurd q.1 (by decide +kernel)), if_pos h]
  · rw [if_pos ⟨rfl, by omega⟩, if_neg h]
theorem opwB (x k l : Int) : opw "bits" [x] (k - l + 1) l = if 0 ≤ l ∧ l ≤ k ∧ k < x then some (k + 1 - l) else none := by
  unfold opw
  rw [if_neg (by decide +kernel), if_neg (by decide +kernel), if_neg (by decide +kernel), if_neg (by decide +kernel), if_neg (by decide +kernel), if_neg (by decide +kernel), if_neg (fun h => absurd h.1 (by decide +kernel))]
  have e0 : ([x] : List Int).getD 0 0 = x := rfl
  rw [e0]
  by_cases h : 0 ≤ l ∧ l ≤ k ∧ k < x
  · rw [if_neg (fun q => by have := q.2; omega), if_pos h]
    congr 1
    omega
  · rw [if_pos ⟨rfl, by omega⟩, if_neg h]
theorem kids_none {ρ : Str → Int} {e : Ex} (nw : ∀ x u, e ≠ .word x u) (nn : ∀ z, e ≠ .name z) (h : wids ρ (kids e) = none) : wid ρ e = none := by
  cases e with
  | word x u => exact absurd rfl (nw x u)
  | name z => exact absurd rfl (nn z)
  | read z a =>
    have h' : wids ρ [a] = none := h
    rw [wid]
    cases hw : wid ρ a with
    | none => rfl
    | some x =>
      rw [wids, hw] at h'
      cases h'
  | bits a k l =>
    have g : wids ρ (parts (.bits a k l)) = none := h
    rw [wid_op ρ _ rfl, g]
    rfl
  | ext o a u =>
    have g : wids ρ (parts (.ext o a u)) = none := h
    rw [wid_op ρ _ rfl, g]
    rfl
  | op1 o a =>
    have g : wids ρ (parts (.op1 o a)) = none := h
    rw [wid_op ρ _ rfl, g]
    rfl
  | op2 o a b =>
    have g : wids ρ (parts (.op2 o a b)) = none := h
    rw [wid_op ρ _ rfl, g]
    rfl
  | op3 a b c =>
    have g : wids ρ (parts (.op3 a b c)) = none := h
    rw [wid_op ρ _ rfl, g]
    rfl
theorem wids1 {ρ : Str → Int} {a : Ex} {ws : List Int} (h : wids ρ [a] = some ws) : ∃ x, ws = [x] ∧ wid ρ a = some x := by
  rw [wids] at h
  cases hw : wid ρ a with
  | none => rw [hw] at h; cases h
  | some x =>
    rw [hw] at h
    cases h
    exact ⟨x, rfl, rfl⟩
theorem wids2 {ρ : Str → Int} {a b : Ex} {ws : List Int} (h : wids ρ [a, b] = some ws) : ∃ x y, ws = [x, y] ∧ wid ρ a = some x ∧ wid ρ b = some y := by
  rw [wids] at h
  cases hw : wid ρ a with
  | none => rw [hw] at h; cases h
  | some x =>
    rw [hw] at h
    cases h2 : wids ρ [b] with
    | none => rw [h2] at h; cases h
    | some r =>
      obtain ⟨y, rfl, hy⟩ := wids1 h2
      rw [h2] at h
      cases h
      exact ⟨x, y, rfl, rfl, hy⟩
theorem wids3 {ρ : Str → Int} {a b c : Ex} {ws : List Int} (h : wids ρ [a, b, c] = some ws) : ∃ x y z, ws = [x, y, z] ∧ wid ρ a = some x ∧ wid ρ b = some y ∧ wid ρ c = some z := by
  rw [wids] at h
  cases hw : wid ρ a with
  | none => rw [hw] at h; cases h
  | some x =>
    rw [hw] at h
    cases h2 : wids ρ [b, c] with
    | none => rw [h2] at h; cases h
    | some r =>
      obtain ⟨y, z, rfl, hy, hz⟩ := wids2 h2
      rw [h2] at h
      cases h
      exact ⟨x, y, z, rfl, rfl, hy, hz⟩
section
variable {P : Program} {w : World} {K : PySem.W.Frag} {mg : Str → Option Value} {base : Heap} {f : Addr} {fd : FuncData} {tM : Tok} {pA pC pO : Addr} {es : Array DictEntry} {n : Nat}
theorem step_wide {N : Str → Prop} {ρ : Str → Int} {m : Nat} (F : Fun K "_law_wide" "_law_wide" s_law_wide f fd) (T : Txt mg) (D_law_wide : Dn P w K mg base "_law_wide" ["_law_wides_here", "_law_expr_here"] (m + 1) (spLWide N ρ m)) :
    FnOk P w K mg base CX0 (m + 2) f fd ["_law_wides_here", "_law_expr_here"] (spLWide N ρ (m + 1)) := by
  refine F.ok sc_law_wide (fun vs H Q E h => ?_) (fun cdv A outer s H vs Q E hr h => ?_)
  · obtain ⟨d, e, v, rfl, _⟩ := h
    rfl
  obtain ⟨d, e, v, rfl, hd, hv, hR, hn, q⟩ := h
  refine ⟨_, (pss_cons (ps_set (i := 2) sc_law_wide.nd rfl (Or.inl rfl) (pe_ix ix_tup (pv 1) pe_int (fun _ _ => rfl)))
      (pss_cons (ps_if (pt_cmpR op_eq (pv 2) pe_str (nomark _)) (pss_one (ps_ret (pe_ix ix_tup (pv 1) pe_int (fun _ _ => rfl)))) pss_nil)
      (pss_cons (ps_if (pt_cmpR op_eq (pv 2) pe_str (nomark _)) (pss_one (ps_ret (pe_dget (hu_of hr) (pv 0) (pe_ix ix_tup (pv 1) pe_int (fun _ _ => rfl)) (fun _ _ => rfl)))) pss_nil)
      (pss_cons (ps_setLc (i := 3) (own := [("_law_part", 4)]) (g := gName 4) rfl sc_law_wide.nd rfl rfl (sw_true rfl rfl rfl (by decide +kernel)) (pi_tup (pe_slice sl_tupA (pv 1) (po_some pe_int) po_none)) (blkOk_by (N := ["_law_wides_here", "_law_expr_here", "_law_op", "_law_told", "_law_part"]) (sc := defScope s_law_wide) (by decide +kernel)) (fun _ _ _ _ _ => (pg_name (i := 4) sc_law_wide.nd rfl (Or.inl rfl))) (fun _ _ _ _ _ => (pts_one (pt_val (pe_callB (call_isi : CallR _ _ (rIsi K)) (by rfl) T.n_isinstance (by decide +kernel) (pa_cons (pv 4) (pa_cons (pe_bltn rfl T.n_tuple (by decide +kernel) (v := .ty "tuple") rfl) pa_nil)))))) (fun _ _ _ _ _ => (pe_dn D_law_wide (hr.mono (by omega)) (by rfl) (pa_cons (pv 0) (pa_cons (pv 4) pa_nil)))))
      (pss_cons (ps_if (pt_cmpR op_in_seq pe_non (pv 3) (by rfl)) (pss_one (ps_ret pe_non)) pss_nil)
      (pss_cons (ps_if (pt_cmpR op_eq (pv 2) pe_str (nomark _)) (pss_one (ps_ret (pe_dget (hu_of hr) (pv 0) (pe_ix ix_tup (pv 1) pe_int (fun _ _ => rfl)) (fun _ _ => rfl)))) pss_nil)
      (pss_cons (ps_if (pt_cmpR op_eq (pv 2) pe_str (nomark _)) (pss_one (ps_ret (pe_ifExp (pt_chain3 op_le op_le op_lt pe_int (pe_ix ix_tup (pv 1) pe_int (fun _ _ => rfl)) (pe_ix ix_tup (pv 1) pe_int (fun _ _ => rfl)) (pe_ix ix_list (pv 3) pe_int (fun _ _ => rfl))) (pe_op op_sub (pe_op op_add (pe_ix ix_tup (pv 1) pe_int (fun _ _ => rfl)) pe_int) (pe_ix ix_tup (pv 1) pe_int (fun _ _ => rfl))) pe_non))) pss_nil)
      (pss_cons (ps_if (pt_cmpR op_in_seq (pv 2) (pe_tup (pa_cons pe_str (pa_cons pe_str pa_nil))) (by rfl)) (pss_one (ps_ret (pe_ifExp (PW.pt (pw_or (pt_cmpR op_eq (pv 2) pe_str (nomark _)) (pw_or1 (pt_cmpR op_ge (pe_ix ix_tup (pv 1) pe_int (fun _ _ => rfl)) (pe_ix ix_list (pv 3) pe_int (fun _ _ => rfl)) (nomark _))))) (pe_ix ix_tup (pv 1) pe_int (fun _ _ => rfl)) pe_non))) pss_nil)
      (pss_cons (ps_if (pt_cmpR op_eq (pv 2) pe_str (nomark _)) (pss_one (ps_ret (pe_ifExp (pt_cmpR op_lt (pe_callB (cr_sum rfl) (by rfl) T.n_sum (by decide +kernel) (pa_cons (pv 3) pa_nil)) pe_int (nomark _)) (pe_callB (cr_sum rfl) (by rfl) T.n_sum (by decide +kernel) (pa_cons (pv 3) pa_nil)) pe_non))) pss_nil)
      (pss_cons (ps_if (pt_cmpR op_in_seq (pv 2) (pe_tup (pa_cons pe_str (pa_cons pe_str (pa_cons pe_str pa_nil)))) (by rfl)) (pss_one (ps_ret pe_int)) pss_nil)
      (pss_cons (ps_if (pt_cmpR op_in_seq (pv 2) (pe_tup (pa_cons pe_str (pa_cons pe_str (pa_cons pe_str (pa_cons pe_str pa_nil))))) (by rfl)) (pss_one (ps_ret (pe_ix ix_list (pv 3) pe_int (fun _ _ => rfl)))) pss_nil)
      (pss_cons (ps_if (pt_cmpR op_eq (pv 2) pe_str (nomark _)) (pss_one (ps_ret (pe_ifExp (PW.pt (pw_and (pt_cmpR op_eq (pe_ix ix_list (pv 3) pe_int (fun _ _ => rfl)) pe_int (nomark _)) (pw_and1 (pt_cmpR op_eq (pe_ix ix_list (pv 3) pe_int (fun _ _ => rfl)) (pe_ix ix_list (pv 3) pe_int (fun _ _ => rfl)) (nomark _))))) (pe_ix ix_list (pv 3) pe_int (fun _ _ => rfl)) pe_non))) pss_nil)
      (pss_cons (ps_if (pt_cmpR op_ne (pe_ix ix_list (pv 3) pe_int (fun _ _ => rfl)) (pe_ix ix_list (pv 3) pe_int (fun _ _ => rfl)) (nomark _)) (pss_one (ps_ret pe_non)) pss_nil)
      (pss_one (ps_ret (pe_ifExp (pt_cmpR op_in_seq (pv 2) (pe_tup (pa_cons pe_str (pa_cons pe_str (pa_cons pe_str (pa_cons pe_str pa_nil))))) (by rfl)) pe_int (pe_ix ix_list (pv 3) pe_int (fun _ _ => rfl)))))))))))))))))), ?_⟩
  by_cases hw : ∃ x u, e = .word x u
  · obtain ⟨x, u, rfl⟩ := hw
    obtain ⟨p0, rfl, h0⟩ := hv
    refine ⟨_, rfl, p0, _, _, _, rfl, rfl, SqT.of h0, atI_nat (j := 0) rfl, ?_⟩
    exact ⟨_, rfl, rfl, _, rfl, ifY (by decide +kernel) ⟨_, rfl, p0, _, _, _, rfl, rfl, SqT.of h0, atI_nat (j := 2) rfl, q H (Same.refl _)⟩⟩
  by_cases hz : ∃ z, e = .name z
  · obtain ⟨z, rfl⟩ := hz
    obtain ⟨p0, rfl, h0⟩ := hv
    refine ⟨_, rfl, p0, _, _, _, rfl, rfl, SqT.of h0, atI_nat (j := 0) rfl, ?_⟩
    refine ⟨_, rfl, rfl, _, rfl, ifN (by decide +kernel) ?_⟩
    refine ⟨_, rfl, rfl, _, rfl, ifY (by decide +kernel) ?_⟩
    exact ⟨_, rfl, _, rfl, p0, _, _, _, rfl, rfl, SqT.of h0, atI_nat (j := 1) rfl, d, _, rfl, hd.get hR, q H (Same.refl _)⟩
  obtain ⟨p0, ys, rfl, h0, hm, l1, l3⟩ := ev_marks hv (fun x u z => hw ⟨x, u, z⟩) (fun z y => hz ⟨z, y⟩)
  have nop : decide (V.str (lop e) = V.str "word") = false ∧ decide (V.str (lop e) = V.str "name") = false := by
    have n : ∀ z ∈ signs ++ (["not", "neg", "any", "all", "odd", "pick", "bits", "wide", "sign", "read"] : List Str), z ≠ "word" ∧ z ≠ "name" := by decide +kernel
    have g : lop e ∈ signs ++ (["not", "neg", "any", "all", "odd", "pick", "bits", "wide", "sign", "read"] : List Str) := by
      cases e with
      | word x u => exact absurd ⟨x, u, rfl⟩ hw
      | name z => exact absurd ⟨z, rfl⟩ hz
      | read z a => show ("read" : Str) ∈ _; decide +kernel
      | bits a k l => show ("bits" : Str) ∈ _; decide +kernel
      | ext o a u =>
        show o ∈ _
        rcases hR.1 with rfl | rfl <;> decide +kernel
      | op1 o a =>
        have sub : ∀ z ∈ (["not", "neg", "any", "all", "odd"] : List Str), z ∈ signs ++ (["not", "neg", "any", "all", "odd", "pick", "bits", "wide", "sign", "read"] : List Str) := by decide +kernel
        exact sub o hR.1
      | op2 o a b => exact List.mem_append_left _ hR.1
      | op3 a b c => show ("pick" : Str) ∈ _; decide +kernel
    exact ⟨(strB _ _).trans (decide_eq_false (n _ g).1), (strB _ _).trans (decide_eq_false (n _ g).2)⟩
  refine ⟨_, rfl, p0, _, _, _, rfl, rfl, SqT.of h0, atI_nat (j := 0) rfl, ?_⟩
  refine ⟨_, rfl, rfl, _, rfl, ifN nop.1 ?_⟩
  refine ⟨_, rfl, rfl, _, rfl, ifN nop.2 ?_⟩
  refine ⟨_, rfl, 1, rfl, p0, _, rfl, SqT.of h0, fun hcut => ?_, fun hcut t ht => ?_⟩
  · exact absurd hcut.1 (by rw [show (some (1 : Int)) = some ((1 : Nat) : Int) from rfl, HT.sIx_nat, List.length_cons]; omega)
  have ec : cutV (V.str (lop e) :: ys) (some 1) none = ys := by
    unfold cutV
    rw [show (some (1 : Int)) = some ((1 : Nat) : Int) from rfl, HT.sIx_nat, HT.sIx_none, List.length_cons, Nat.min_eq_left (by omega), List.drop_one, List.tail_cons, List.take_of_length_le (by omega)]
  rw [ec]
  have s1 := same_new ht (.tup ys)
  have hm1 := hm.keepT (KeepT.same s1)
  have hd1 := hd.same s1
  have lm : (marks e).length = ys.length := hm.1
  refine ⟨t, rfl, ⟨_, SqT.of upd_same⟩, fun D hD => lc_tup (K := K) (a := t) (xs := ys) (fun i H' => Same (upd H t (.tup ys)) H' ∧ H' D = some (.lst (optL ρ (((marks e).take i).filterMap id))))
    ⟨same_new hD _, upd_same⟩ (fun i H' _ p => SqT.of (p.1 _ _ upd_same)) (fun i y H' hy p => ?_) (fun H2 p => ?_)⟩
  · have hi := (List.getElem?_eq_some_iff.mp hy).1
    rcases hm1.2 i y hy with ⟨e', hme, hev⟩ | ⟨hme, hsc⟩
    · have hmem : some e' ∈ marks e := List.mem_of_getElem? hme
      have hdp := kid_dep hmem
      have hevp := EV.keepT (KeepT.same p.1) _ _ hev
      obtain ⟨pe, te, rfl, hte⟩ : ∃ (pe : Addr) (te : List V), y = .ref pe ∧ H' pe = some (.tup te) := by
        cases e' with
        | word x u => obtain ⟨p, a, b⟩ := hevp; exact ⟨p, _, a, b⟩
        | name z => obtain ⟨p, a, b⟩ := hevp; exact ⟨p, _, a, b⟩
        | read z a => obtain ⟨p, _, a, b, _⟩ := hevp; exact ⟨p, _, a, b⟩
        | bits a k l => obtain ⟨p, _, a, b, _⟩ := hevp; exact ⟨p, _, a, b⟩
        | ext o a u => obtain ⟨p, _, a, b, _⟩ := hevp; exact ⟨p, _, a, b⟩
        | op1 o a => obtain ⟨p, _, a, b, _⟩ := hevp; exact ⟨p, _, a, b⟩
        | op2 o a b => obtain ⟨p, _, _, a, b, _⟩ := hevp; exact ⟨p, _, a, b⟩
        | op3 a b c => obtain ⟨p, _, _, _, a, b, _⟩ := hevp; exact ⟨p, _, a, b⟩
      refine ⟨rfl, _, rfl, _, _, .type "tuple", .type "tuple", true, rfl, .ty "tuple", .base (.tup hte), kit_ty (by decide +kernel), true, rfl, iteT ?_⟩
      refine ⟨_, rfl, _, rfl, d, e', _, rfl, hd1.same p.1, hevp, kid_right hR hmem, by omega, fun H3 s3 => ⟨_, s3 _ _ p.2, ?_, same_two (p.1.trans s3) hD, ?_⟩⟩
      · unfold optL
        rw [List.length_map]
        refine small1000 (Nat.le_trans (List.length_filterMap_le _ _) ?_)
        rw [List.length_take]
        omega
      · rw [upd_same, take_snoc hme, List.filterMap_append]
        unfold optL
        rw [List.map_append]
        rfl
    · have key : ∀ b : Bool, (if b = true then False else True) → True := fun _ _ => trivial
      have nx : Same (upd H t (.tup ys)) H' ∧ H' D = some (.lst (optL ρ (((marks e).take (i + 1)).filterMap id))) := by
        refine ⟨p.1, ?_⟩
        rw [take_snoc hme, List.filterMap_append, p.2]
        simp
      rcases hsc with ⟨z, rfl⟩ | ⟨k, rfl⟩
      · exact ⟨rfl, _, rfl, _, _, .type "str", .type "tuple", false, rfl, .ty "tuple", .base (.str _), kit_ty (by decide +kernel), false, rfl, iteF nx⟩
      · exact ⟨rfl, _, rfl, _, _, .type "int", .type "tuple", false, rfl, .ty "tuple", .base (.int _), kit_ty (by decide +kernel), false, rfl, iteF nx⟩
  obtain ⟨s2, hD2⟩ := p
  rw [← lm, List.take_length] at hD2
  have hDk : H2 D = some (.lst (optL ρ (kids e))) := hD2
  have sH := s1.trans s2
  have h02 := sH _ _ h0
  refine ⟨_, rfl, D, _, rfl, .inl (SqL.of hDk), rfl, flat_opt ρ _, _, rfl, ?_⟩
  cases hws : wids ρ (kids e) with
  | none =>
    refine ifY ((inV_none ρ _).trans (by rw [hws]; rfl)) ?_
    have := q _ sH
    rw [kids_none (fun x u z => hw ⟨x, u, z⟩) (fun z y => hz ⟨z, y⟩) hws] at this
    exact this
  | some ws =>
  refine ifN ((inV_none ρ _).trans (by rw [hws]; rfl)) ?_
  rw [optL_some hws] at hDk
  have hL := SqL.of (K := K) hDk
  cases e with
  | word x u => exact absurd ⟨x, u, rfl⟩ hw
  | name z => exact absurd ⟨z, rfl⟩ hz
  | read z a =>
    obtain ⟨x, rfl, hx⟩ := wids1 (show wids ρ [a] = some ws from hws)
    obtain ⟨p1, y, e1, h1, ha⟩ := hv
    cases e1
    have h12 := sH _ _ h1
    refine ⟨_, rfl, rfl, _, rfl, ifY (show decide (V.str ("read" : Str) = V.str "read") = true by decide +kernel) ?_⟩
    have q' := q _ sH
    rw [wid, hx] at q'
    exact ⟨_, rfl, _, rfl, p0, _, _, _, rfl, rfl, SqT.of h12, atI_nat (j := 1) rfl, d, _, rfl, (hd.same sH).get hR.1, q'⟩
  | bits a k l =>
    obtain ⟨x, rfl, hx⟩ := wids1 (show wids ρ [a] = some ws from hws)
    obtain ⟨p1, y, e1, h1, ha⟩ := hv
    cases e1
    have h12 := sH _ _ h1
    have q' := q _ sH
    rw [wid, hx] at q'
    have q'' : Q (optV (opw "bits" [x] (k - l + 1) l)) H2 := q'
    rw [opwB] at q''
    refine ⟨_, rfl, rfl, _, rfl, ifN (show decide (V.str ("bits" : Str) = V.str "read") = false by decide +kernel) ?_⟩
    refine ⟨_, rfl, rfl, _, rfl, ifY (show decide (V.str ("bits" : Str) = V.str "bits") = true by decide +kernel) ?_⟩
    refine ⟨_, rfl, p0, _, _, _, rfl, rfl, SqT.of h12, atI_nat (j := 3) rfl, _, _, rfl, rfl, _, rfl, ite2 (fun c1 => ?_) (fun c1 => ?_)⟩
    · refine ⟨_, rfl, p0, _, _, _, rfl, rfl, SqT.of h12, atI_nat (j := 2) rfl, _, _, rfl, rfl, _, rfl, ite2 (fun c2 => ?_) (fun c2 => ?_)⟩
      · refine ⟨_, rfl, D, _, _, _, rfl, rfl, hL, atI_nat (j := 0) rfl, _, _, rfl, rfl, _, rfl, ite2 (fun c3 => ?_) (fun c3 => ?_)⟩
        · rw [if_pos ⟨of_decide_eq_true c1, of_decide_eq_true c2, of_decide_eq_true c3⟩] at q''
          exact ⟨_, rfl, p0, _, _, _, rfl, rfl, SqT.of h12, atI_nat (j := 2) rfl, _, _, rfl, rfl, _, rfl, p0, _, _, _, rfl, rfl, SqT.of h12, atI_nat (j := 3) rfl, _, _, rfl, rfl, q''⟩
        · rw [if_neg (fun h => c3 (decide_eq_true h.2.2))] at q''
          exact q''
      · rw [if_neg (fun h => c2 (decide_eq_true h.2.1))] at q''
        exact iteF q''
    · rw [if_neg (fun h => c1 (decide_eq_true h.1))] at q''
      exact iteF q''
  | ext o a u =>
    obtain ⟨x, rfl, hx⟩ := wids1 (show wids ρ [a] = some ws from hws)
    obtain ⟨p1, y, e1, h1, ha⟩ := hv
    cases e1
    have h12 := sH _ _ h1
    have q1 : ∀ H' : Hp, Same H H' → Q (optV (opw o [x] u 0)) H' := fun H' k => by
      have := q H' k
      rw [wid, hx] at this
      exact this
    rcases hR.1 with rfl | rfl
    · refine ⟨_, rfl, rfl, _, rfl, ifN (show decide (V.str ("wide" : Str) = V.str "read") = false by decide +kernel) ?_⟩
      refine ⟨_, rfl, rfl, _, rfl, ifN (show decide (V.str ("wide" : Str) = V.str "bits") = false by decide +kernel) ?_⟩
      refine ⟨_, rfl, (by show 2 ≤ sizeLine; decide), fun p3 hp3 => ⟨p3, _, rfl, .inr (SqT.of upd_same), rfl, rfl, _, rfl, ifY ((inV_str "wide" ["wide", "sign"]).trans (by decide +kernel)) ?_⟩⟩
      have s3 := same_new hp3 (.tup ((["wide", "sign"] : List Str).map V.str))
      have q2 := q1 _ (sH.trans s3)
      rw [opwW] at q2
      refine ⟨_, rfl, rfl, _, rfl, ifY (show decide (V.str ("wide" : Str) = V.str "wide") = true by decide +kernel) (iteT ?_)⟩
      exact ⟨_, rfl, p0, _, _, _, rfl, rfl, SqT.of (s3 _ _ h12), atI_nat (j := 2) rfl, q2⟩
    · refine ⟨_, rfl, rfl, _, rfl, ifN (show decide (V.str ("sign" : Str) = V.str "read") = false by decide +kernel) ?_⟩
      refine ⟨_, rfl, rfl, _, rfl, ifN (show decide (V.str ("sign" : Str) = V.str "bits") = false by decide +kernel) ?_⟩
      refine ⟨_, rfl, (by show 2 ≤ sizeLine; decide), fun p3 hp3 => ⟨p3, _, rfl, .inr (SqT.of upd_same), rfl, rfl, _, rfl, ifY ((inV_str "sign" ["wide", "sign"]).trans (by decide +kernel)) ?_⟩⟩
      have s3 := same_new hp3 (.tup ((["wide", "sign"] : List Str).map V.str))
      have q2 := q1 _ (sH.trans s3)
      rw [opwS] at q2
      refine ⟨_, rfl, rfl, _, rfl, ifN (show decide (V.str ("sign" : Str) = V.str "wide") = false by decide +kernel) ?_⟩
      refine ⟨_, rfl, p0, _, _, _, rfl, rfl, SqT.of (s3 _ _ h12), atI_nat (j := 2) rfl, _, rfl, D, _, _, _, rfl, rfl, s3.seq hL, atI_nat (j := 0) rfl, _, _, rfl, rfl, _, rfl, ite2 (fun c => ?_) (fun c => ?_)⟩
      · rw [if_pos (of_decide_eq_true c)] at q2
        exact ⟨_, rfl, p0, _, _, _, rfl, rfl, SqT.of (s3 _ _ h12), atI_nat (j := 2) rfl, q2⟩
      · rw [if_neg (fun h => c (decide_eq_true h))] at q2
        exact q2
  | op1 o a =>
    obtain ⟨x, rfl, hx⟩ := wids1 (show wids ρ [a] = some ws from hws)
    have q1 : ∀ H' : Hp, Same H H' → Q (optV (opw o [x] 0 0)) H' := fun H' k => by
      have := q H' k
      rw [wid, hx] at this
      exact this
    rw [opw1 hR.1] at q1
    have fk : ∀ z ∈ (["not", "neg", "any", "all", "odd"] : List Str), decide (z = "read") = false ∧ decide (z = "bits") = false ∧ decide (z ∈ (["wide", "sign"] : List Str)) = false ∧ decide (z = "join") = false ∧ decide (z ∈ shS) = (!decide (z ∈ yS)) := by decide +kernel
    obtain ⟨f1, f2, f3, f4, f5⟩ := fk o hR.1
    refine ⟨_, rfl, rfl, _, rfl, ifN ((strB o _).trans f1) ?_⟩
    refine ⟨_, rfl, rfl, _, rfl, ifN ((strB o _).trans f2) ?_⟩
    refine ⟨_, rfl, (by show 2 ≤ sizeLine; decide), fun p3 hp3 => ⟨p3, _, rfl, .inr (SqT.of upd_same), rfl, rfl, _, rfl, ifN ((inV_str o ["wide", "sign"]).trans f3) ?_⟩⟩
    have s3 := same_new hp3 (.tup ((["wide", "sign"] : List Str).map V.str))
    refine ⟨_, rfl, rfl, _, rfl, ifN ((strB o _).trans f4) ?_⟩
    refine ⟨_, rfl, (by show 3 ≤ sizeLine; decide), fun p4 hp4 => ⟨p4, _, rfl, .inr (SqT.of upd_same), rfl, rfl, _, rfl, ?_⟩⟩
    have s4 := s3.trans (same_new hp4 (.tup ((["any", "all", "odd"] : List Str).map V.str)))
    cases hy : decide (o ∈ yS) with
    | true =>
      refine ifY ((inV_str o ["any", "all", "odd"]).trans hy) ?_
      have q2 := q1 _ (sH.trans s4)
      rw [if_pos hy] at q2
      exact q2
    | false =>
      refine ifN ((inV_str o ["any", "all", "odd"]).trans hy) ?_
      rw [hy] at f5
      refine ⟨_, rfl, (by show 4 ≤ sizeLine; decide), fun p5 hp5 => ⟨p5, _, rfl, .inr (SqT.of upd_same), rfl, rfl, _, rfl, ifY ((inV_str o ["not", "neg", "<<", ">>"]).trans f5) ?_⟩⟩
      have s5 := s4.trans (same_new hp5 (.tup ((["not", "neg", "<<", ">>"] : List Str).map V.str)))
      have q2 := q1 _ (sH.trans s5)
      rw [if_neg (ne_true_of_eq_false hy)] at q2
      exact ⟨_, rfl, D, _, _, _, rfl, rfl, s5.seq hL, atI_nat (j := 0) rfl, q2⟩
  | op2 o a b =>
    obtain ⟨x, y, rfl, hx, hy⟩ := wids2 (show wids ρ [a, b] = some ws from hws)
    have q1 : ∀ H' : Hp, Same H H' → Q (optV (opw (tbl o) [x, y] 0 0)) H' := fun H' k => by
      have := q H' k
      rw [wid, hx, hy] at this
      exact this
    rw [opw2 hR.1] at q1
    have fk : ∀ z ∈ signs, decide (z = "read") = false ∧ decide (z = "bits") = false ∧ decide (z ∈ (["wide", "sign"] : List Str)) = false ∧ decide (z ∈ yS) = false ∧ decide (z = "pick") = false := by decide +kernel
    obtain ⟨f1, f2, f3, f4, f5⟩ := fk o hR.1
    refine ⟨_, rfl, rfl, _, rfl, ifN ((strB o _).trans f1) ?_⟩
    refine ⟨_, rfl, rfl, _, rfl, ifN ((strB o _).trans f2) ?_⟩
    refine ⟨_, rfl, (by show 2 ≤ sizeLine; decide), fun p3 hp3 => ⟨p3, _, rfl, .inr (SqT.of upd_same), rfl, rfl, _, rfl, ifN ((inV_str o ["wide", "sign"]).trans f3) ?_⟩⟩
    have s3 := same_new hp3 (.tup ((["wide", "sign"] : List Str).map V.str))
    refine ⟨_, rfl, rfl, _, rfl, ?_⟩
    cases hj : decide (o = "join") with
    | true =>
      refine ifY ((strB o _).trans hj) ?_
      have q2 := q1 _ (sH.trans s3)
      rw [if_pos hj] at q2
      have es : ([x, y] : List Int).sum = x + y := by simp
      refine ⟨_, rfl, D, [x, y], rfl, s3.seq hL, _, _, rfl, rfl, _, rfl, ite2 (fun c => ?_) (fun c => ?_)⟩
      · have c' := of_decide_eq_true c
        rw [es] at c'
        rw [if_pos (by omega)] at q2
        refine ⟨_, rfl, D, [x, y], rfl, s3.seq hL, ?_⟩
        rw [es]
        exact q2
      · have c' : ¬ ([x, y] : List Int).sum < 9 := fun h => c (decide_eq_true h)
        rw [es] at c'
        rw [if_neg (by omega)] at q2
        exact q2
    | false =>
    refine ifN ((strB o _).trans hj) ?_
    refine ⟨_, rfl, (by show 3 ≤ sizeLine; decide), fun p4 hp4 => ⟨p4, _, rfl, .inr (SqT.of upd_same), rfl, rfl, _, rfl, ifN ((inV_str o ["any", "all", "odd"]).trans f4) ?_⟩⟩
    have s4 := s3.trans (same_new hp4 (.tup ((["any", "all", "odd"] : List Str).map V.str)))
    refine ⟨_, rfl, (by show 4 ≤ sizeLine; decide), fun p5 hp5 => ⟨p5, _, rfl, .inr (SqT.of upd_same), rfl, rfl, _, rfl, ?_⟩⟩
    have s5 := s4.trans (same_new hp5 (.tup ((["not", "neg", "<<", ">>"] : List Str).map V.str)))
    cases hs : decide (o ∈ shS) with
    | true =>
      refine ifY ((inV_str o ["not", "neg", "<<", ">>"]).trans hs) ?_
      have q2 := q1 _ (sH.trans s5)
      rw [if_neg (ne_true_of_eq_false hj), if_pos hs] at q2
      exact ⟨_, rfl, D, _, _, _, rfl, rfl, s5.seq hL, atI_nat (j := 0) rfl, q2⟩
    | false =>
    refine ifN ((inV_str o ["not", "neg", "<<", ">>"]).trans hs) ?_
    refine ⟨_, rfl, rfl, _, rfl, ifN ((strB o _).trans f5) ?_⟩
    refine ⟨_, rfl, D, _, _, _, rfl, rfl, s5.seq hL, atI_nat (j := 0) rfl, _, rfl, D, _, _, _, rfl, rfl, s5.seq hL, atI_nat (j := 1) rfl, rfl, _, rfl, ?_⟩
    by_cases hxy : x = y
    · subst hxy
      refine ifN (by simp) ?_
      refine ⟨_, rfl, (by show 4 ≤ sizeLine; decide), fun p6 hp6 => ⟨p6, _, rfl, .inr (SqT.of upd_same), rfl, rfl, _, rfl, ?_⟩⟩
      have s6 := s5.trans (same_new hp6 (.tup ((["==", "!=", "<", "<="] : List Str).map V.str)))
      have q2 := q1 _ (sH.trans s6)
      rw [if_neg (ne_true_of_eq_false hj), if_neg (ne_true_of_eq_false hs), if_pos rfl] at q2
      cases hc : decide (o ∈ cmS) with
      | true =>
        rw [if_pos hc] at q2
        exact ifY ((inV_str o ["==", "!=", "<", "<="]).trans hc) q2
      | false =>
        rw [if_neg (ne_true_of_eq_false hc)] at q2
        exact ifN ((inV_str o ["==", "!=", "<", "<="]).trans hc) ⟨_, rfl, D, _, _, _, rfl, rfl, s6.seq hL, atI_nat (j := 0) rfl, q2⟩
    · refine ifY (by simp [hxy]) ?_
      have q2 := q1 _ (sH.trans s5)
      rw [if_neg (ne_true_of_eq_false hj), if_neg (ne_true_of_eq_false hs), if_neg hxy] at q2
      exact q2
  | op3 a b c =>
    obtain ⟨x, y, z, rfl, hx, hy, hz3⟩ := wids3 (show wids ρ [a, b, c] = some ws from hws)
    have q1 : ∀ H' : Hp, Same H H' → Q (optV (opw "pick" [x, y, z] 0 0)) H' := fun H' k => by
      have := q H' k
      rw [wid, hx, hy, hz3] at this
      exact this
    rw [opw3] at q1
    refine ⟨_, rfl, rfl, _, rfl, ifN (show decide (V.str ("pick" : Str) = V.str "read") = false by decide +kernel) ?_⟩
    refine ⟨_, rfl, rfl, _, rfl, ifN (show decide (V.str ("pick" : Str) = V.str "bits") = false by decide +kernel) ?_⟩
    refine ⟨_, rfl, (by show 2 ≤ sizeLine; decide), fun p3 hp3 => ⟨p3, _, rfl, .inr (SqT.of upd_same), rfl, rfl, _, rfl, ifN ((inV_str "pick" ["wide", "sign"]).trans (by decide +kernel)) ?_⟩⟩
    have s3 := same_new hp3 (.tup ((["wide", "sign"] : List Str).map V.str))
    refine ⟨_, rfl, rfl, _, rfl, ifN (show decide (V.str ("pick" : Str) = V.str "join") = false by decide +kernel) ?_⟩
    refine ⟨_, rfl, (by show 3 ≤ sizeLine; decide), fun p4 hp4 => ⟨p4, _, rfl, .inr (SqT.of upd_same), rfl, rfl, _, rfl, ifN ((inV_str "pick" ["any", "all", "odd"]).trans (by decide +kernel)) ?_⟩⟩
    have s4 := s3.trans (same_new hp4 (.tup ((["any", "all", "odd"] : List Str).map V.str)))
    refine ⟨_, rfl, (by show 4 ≤ sizeLine; decide), fun p5 hp5 => ⟨p5, _, rfl, .inr (SqT.of upd_same), rfl, rfl, _, rfl, ifN ((inV_str "pick" ["not", "neg", "<<", ">>"]).trans (by decide +kernel)) ?_⟩⟩
    have s5 := s4.trans (same_new hp5 (.tup ((["not", "neg", "<<", ">>"] : List Str).map V.str)))
    have q2 := q1 _ (sH.trans s5)
    have hL5 := s5.seq hL
    refine ⟨_, rfl, rfl, _, rfl, ifY (show decide (V.str ("pick" : Str) = V.str "pick") = true by decide +kernel) ?_⟩
    refine ⟨_, rfl, D, _, _, _, rfl, rfl, hL5, atI_nat (j := 0) rfl, rfl, _, rfl, ite2 (fun c1 => ?_) (fun c1 => ?_)⟩
    · have c1' : x = 1 := V.int.inj (of_decide_eq_true c1)
      refine ⟨_, rfl, D, _, _, _, rfl, rfl, hL5, atI_nat (j := 1) rfl, _, rfl, D, _, _, _, rfl, rfl, hL5, atI_nat (j := 2) rfl, rfl, _, rfl, ite2 (fun c2 => ?_) (fun c2 => ?_)⟩
      · rw [if_pos ⟨c1', V.int.inj (of_decide_eq_true c2)⟩] at q2
        exact ⟨_, rfl, D, _, _, _, rfl, rfl, hL5, atI_nat (j := 1) rfl, q2⟩
      · rw [if_neg (fun h => c2 (decide_eq_true (congrArg V.int h.2)))] at q2
        exact q2
    · rw [if_neg (fun h => c1 (decide_eq_true (congrArg V.int h.1)))] at q2
      exact iteF q2
theorem ok_wide {N : Str → Prop} {ρ : Str → Int} (F : Fun K "_law_wide" "_law_wide" s_law_wide f fd) (T : Txt mg) (hm : mg "_law_wide" = some (.ref f)) (kp : PySem.W.keepIn K (.ref f) = true) (hb : Binds K fd ["_law_wides_here", "_law_expr_here"] []) :
    ∀ m : Nat, FnOk P w K mg base CX0 (m + 1) f fd ["_law_wides_here", "_law_expr_here"] (spLWide N ρ m)
  | 0 => by
    refine F.ok sc_law_wide (fun vs H Q E h => ?_) (fun cdv A outer s H vs Q E hr h => ?_)
    · obtain ⟨d, e, v, rfl, _⟩ := h
      rfl
    · obtain ⟨_, _, _, _, _, _, _, hn, _⟩ := h
      exact absurd hn (Nat.not_lt_zero _)
  | m + 1 => step_wide F T ⟨f, fd, ok_wide F T hm kp hb m, hm, kp, hb⟩
end
end Bf

set_option Elab.async false
set_option linter.all false
set_option maxRecDepth 100000
set_option maxHeartbeats 4000000
namespace Bf
open PySem PySem.Spec PyProof.Rows L2
/-! ### drawing: picks, rare, pool, consts, signs -/
def Any (d : Addr) (H : Hp) (l : Addr) (xs : List V) : Prop := (l ≠ d ∧ H l = some (.lst xs)) ∨ H l = some (.tup xs)
theorem DS.at_ {H : Hp} {d c : Addr} (h : DS H d c) : ∃ l, H d = some (.lst l) := let ⟨_, _, _, _, e, _⟩ := h; ⟨_, e⟩
theorem keepT_of {H H' : Hp} {d c : Addr} (h : DS H d c) (k : Keep [d] H H') : KeepT H H' := fun b xs e => k _ _ (fun m => by
  obtain ⟨l, q⟩ := h.at_
  rw [List.mem_singleton.mp m, q] at e
  cases e) e
theorem Any.keep {d c : Addr} {H H' : Hp} {l : Addr} {xs : List V} (h : Any d H l xs) (hd : DS H d c) (k : Keep [d] H H') : Any d H' l xs := by
  rcases h with ⟨n, h⟩ | h
  · exact .inl ⟨n, k _ _ (by simp [n]) h⟩
  · exact .inr (keepT_of hd k _ _ h)
def spPickV : Sp := fun vs H Q _ => ∃ (d c l : Addr) (xs : List V), vs = [.ref d, .ref l] ∧ DS H d c ∧ Any d H l xs ∧ 1 ≤ xs.length ∧ xs.length ≤ 1000 ∧
  ∀ (y : V) (k : Nat) (H' : Hp), xs[k]? = some y → DS H' d c → Keep [d] H H' → Q y H'
def spRare : Sp := fun vs H Q _ => ∃ (d c : Addr) (m : Int), vs = [.ref d, .int m] ∧ DS H d c ∧ 1 ≤ m ∧ m < 1000 ∧ ∀ (b : Bool) (H' : Hp), DS H' d c → Keep [d] H H' → Q (.bl b) H'
def spPool : Sp := fun vs H Q _ => vs = [] ∧ ∀ (p : Addr) (xs : List Str), H p = none → xs.length = 61 → Q (.ref p) (upd H p (.lst (xs.map V.str)))
/-- what a drawing def hands back: an expr -/
def Gv (d c : Addr) (N : Str → Prop) (k : Nat) (H : Hp) (Q : VK) : Prop := ∀ (e : Ex) (v : V) (H' : Hp), EV H' e v → Right N e → dep e ≤ k → DS H' d c → Keep [d] H H' → Q v H'
def spConst (N : Str → Prop) : Sp := fun vs H Q _ => ∃ (d c : Addr) (u : Nat), vs = [.ref d, vI u] ∧ DS H d c ∧ u ≤ 9 ∧ Gv d c N 0 H Q
def arith : List Str := ["+", "<", "-", "|", "==", "&", "<=", "^", "*", "!="]
def spSign : Sp := fun vs H Q _ => ∃ (d c : Addr), vs = [.ref d] ∧ DS H d c ∧ ∀ (z : Str) (H' : Hp), z ∈ arith → DS H' d c → Keep [d] H H' → Q (.str z) H'
theorem pow9 {k : Nat} (h : k ≤ 9) : (1 : Int) ≤ 2 ^ k ∧ (2 : Int) ^ k < 1073741824 := by
  have a : (2 : Nat) ^ k ≤ 2 ^ 9 := Nat.pow_le_pow_right (by decide) h
  have b : ((2 ^ k : Nat) : Int) = (2 : Int) ^ k := by simp
  have c : (0 : Nat) < 2 ^ k := Nat.pow_pos (by decide)
  rw [← b]
  constructor
  · omega
  · have : (2 : Nat) ^ k < 1073741824 := Nat.lt_of_le_of_lt a (by decide)
    omega
theorem strIn {ls : List Str} {k : Nat} {y : V} (h : (ls.map V.str)[k]? = some y) : ∃ z, z ∈ ls ∧ y = .str z := by
  rw [List.getElem?_map] at h
  cases e : ls[k]? with
  | none => rw [e] at h; cases h
  | some z => rw [e] at h; exact ⟨z, List.mem_of_getElem? e, (Option.some.inj h).symm⟩
section
variable {P : Program} {w : World} {K : PySem.W.Frag} {mg : Str → Option Value} {base : Heap} {f : Addr} {fd : FuncData}
theorem ok_pick (F : Fun K "_law_pick" "_law_pick" s_law_pick f fd) (T : Txt mg) (D_law_draw : Dn P w K mg base "_law_draw" ["_law_d", "_law_many"] 1 spDraw) :
    FnOk P w K mg base CX0 2 f fd ["_law_d", "_law_row"] spPickV := by
  refine F.ok sc_law_pick (fun vs H Q E h => ?_) (fun cdv A outer s H vs Q E hr h => ?_)
  · obtain ⟨d, c, l, xs, rfl, _⟩ := h
    rfl
  obtain ⟨d, c, l, xs, rfl, hd, hl, l1, l2, q⟩ := h
  refine ⟨_, (pss_one (ps_ret (pe_ix ix_seq (pv 1) (pe_dn D_law_draw (hr.mono (by omega)) (by rfl) (pa_cons (pv 0) (pa_cons (pe_callB call_len (by rfl) T.n_len (by decide +kernel) (pa_cons (pv 1) pa_nil)) pa_nil))) (fun _ _ => rfl)))), ?_⟩
  have len : ∀ Q' : VK, Q' (.int (xs.length : Nat)) H → True := fun _ _ => trivial
  rcases id hl with ⟨n, h0⟩ | h0
  · refine ⟨_, rfl, _, rfl, _, rfl, .ref l, xs.length, rfl, .inl ⟨_, SqL.of h0, rfl⟩, d, c, _, rfl, hd, (by omega), (by omega), fun r H' r0 r1 hd' k1 => ?_⟩
    obtain ⟨k, rfl⟩ := Int.eq_ofNat_of_zero_le r0
    have hk : k < xs.length := by omega
    exact .inl ⟨l, _, _, xs[k], rfl, rfl, SqL.of (k1 _ _ (by simp [n]) h0), atI_nat (List.getElem?_eq_getElem hk), q xs[k] k _ (List.getElem?_eq_getElem hk) hd' k1⟩
  · refine ⟨_, rfl, _, rfl, _, rfl, .ref l, xs.length, rfl, .inr ⟨_, SqT.of h0, rfl⟩, d, c, _, rfl, hd, (by omega), (by omega), fun r H' r0 r1 hd' k1 => ?_⟩
    obtain ⟨k, rfl⟩ := Int.eq_ofNat_of_zero_le r0
    have hk : k < xs.length := by omega
    exact .inr (.inl ⟨l, _, _, xs[k], rfl, rfl, SqT.of (keepT_of hd k1 _ _ h0), atI_nat (List.getElem?_eq_getElem hk), q xs[k] k _ (List.getElem?_eq_getElem hk) hd' k1⟩)
theorem ok_rare (F : Fun K "_law_rare" "_law_rare" s_law_rare f fd) (D_law_draw : Dn P w K mg base "_law_draw" ["_law_d", "_law_many"] 1 spDraw) : FnOk P w K mg base CX0 2 f fd ["_law_d", "_law_many"] spRare := by
  refine F.ok sc_law_rare (fun vs H Q E h => ?_) (fun cdv A outer s H vs Q E hr h => ?_)
  · obtain ⟨d, c, m, rfl, _⟩ := h
    rfl
  obtain ⟨d, c, m, rfl, hd, m1, m2, q⟩ := h
  refine ⟨_, (pss_one (ps_ret (pe_cmpR op_eq (pe_dn D_law_draw (hr.mono (by omega)) (by rfl) (pa_cons (pv 0) (pa_cons (pv 1) pa_nil))) (pe_op op_fdiv (pv 1) pe_int) (nomark _)))), ?_⟩
  exact ⟨_, rfl, _, rfl, d, c, m, rfl, hd, m1, by omega, fun r H' r0 r1 hd' k1 => ⟨_, rfl, _, _, rfl, rfl, ⟨by decide, by decide⟩, rfl, q _ _ hd' k1⟩⟩
theorem ok_pool (F : Fun K "_law_pool" "_law_pool" s_law_pool f fd) : FnOk P w K mg base CX0 1 f fd [] spPool := by
  refine F.ok sc_law_pool (fun vs H Q E h => ?_) (fun cdv A outer s H vs Q E hr h => ?_)
  · rw [h.1]
    rfl
  obtain ⟨rfl, q⟩ := h
  refine ⟨_, (pss_cons (ps_set (i := 0) sc_law_pool.nd rfl (Or.inl rfl) pe_str)
      (pss_cons (ps_set (i := 0) sc_law_pool.nd rfl (Or.inl rfl) (pe_op op_add_str (pv 0) pe_str))
      (pss_one (ps_ret (pe_split (pe_op op_add_str (pv 0) pe_str) pe_str))))), ?_⟩
  refine ⟨_, rfl, _, _, rfl, rfl, (by decide +kernel), _, rfl, _, _, rfl, rfl, (by decide +kernel), ?_⟩
  exact ⟨⟨_, rfl⟩, _, _, rfl, rfl, (by decide +kernel), (by decide +kernel), fun p hp => q p _ hp (by decide +kernel)⟩
theorem ok_const {N : Str → Prop} (F : Fun K "_law_const_of" "_law_const_of" s_law_const_of f fd) (D_law_draw : Dn P w K mg base "_law_draw" ["_law_d", "_law_many"] 1 spDraw) : FnOk P w K mg base CX0 2 f fd ["_law_d", "_law_wide_here"] (spConst N) := by
  refine F.ok sc_law_const_of (fun vs H Q E h => ?_) (fun cdv A outer s H vs Q E hr h => ?_)
  · obtain ⟨d, c, u, rfl, _⟩ := h
    rfl
  obtain ⟨d, c, u, rfl, hd, u9, q⟩ := h
  refine ⟨_, (pss_one (ps_ret (pe_tup (pa_cons pe_str (pa_cons (pe_dn D_law_draw (hr.mono (by omega)) (by rfl) (pa_cons (pv 0) (pa_cons (pe_op op_oneShl pe_int (pv 1)) pa_nil))) (pa_cons (pv 1) pa_nil)))))), ?_⟩
  refine ⟨_, rfl, _, rfl, u, rfl, rfl, by omega, d, c, _, rfl, hd, (pow9 u9).1, (pow9 u9).2, fun r H' r0 r1 hd' k1 => ⟨_, rfl, (by show 3 ≤ sizeLine; decide), fun p hp => ?_⟩⟩
  obtain ⟨x, rfl⟩ := Int.eq_ofNat_of_zero_le r0
  have s1 := same_new hp (.tup [.str "word", .int (x : Int), vI u])
  exact q (.word x u) _ _ ⟨p, rfl, upd_same⟩ trivial (Nat.le_refl _) (hd'.same s1) (k1.trans (Keep.of_same s1))
theorem ok_sgn (F : Fun K "_law_sign" "_law_sign" s_law_sign f fd) (D_law_pick : Dn P w K mg base "_law_pick" ["_law_d", "_law_row"] 2 spPickV) : FnOk P w K mg base CX0 3 f fd ["_law_d"] spSign := by
  refine F.ok sc_law_sign (fun vs H Q E h => ?_) (fun cdv A outer s H vs Q E hr h => ?_)
  · obtain ⟨d, c, rfl, _⟩ := h
    rfl
  obtain ⟨d, c, rfl, hd, q⟩ := h
  refine ⟨_, (pss_one (ps_ret (pe_dn D_law_pick (hr.mono (by omega)) (by rfl) (pa_cons (pv 0) (pa_cons (pe_lst (pa_cons pe_str (pa_cons pe_str (pa_cons pe_str (pa_cons pe_str (pa_cons pe_str (pa_cons pe_str (pa_cons pe_str (pa_cons pe_str (pa_cons pe_str (pa_cons pe_str pa_nil))))))))))) pa_nil))))), ?_⟩
  refine ⟨_, rfl, (by show 10 ≤ sizeLine; decide), fun l hl => ?_⟩
  have s1 := same_new hl (.lst (arith.map V.str))
  refine ⟨d, c, l, arith.map V.str, rfl, hd.same s1, .inl ⟨(hd.new hl).1, upd_same⟩, by decide, by decide, fun y k H' hy hd' k1 => ?_⟩
  obtain ⟨z, hz, rfl⟩ := strIn hy
  exact q z _ hz hd' ((Keep.of_same s1).trans k1)
end
end Bf

set_option Elab.async false
set_option linter.all false
set_option maxRecDepth 100000
set_option maxHeartbeats 4000000
namespace Bf
open PySem PySem.Spec PyProof.Rows L2
/-! ### drawing: near, over_one -/
theorem Rws.keepT {H H' : Hp} {a : Addr} {rs : List Row} (h : Rws H a rs) (k : KeepT H H') : Rws H' a rs :=
  let ⟨ts, e, r⟩ := h
  ⟨ts, k _ _ e, r.1, fun i t x a b => let ⟨y, z⟩ := r.2 i t x a b; ⟨y, k _ _ z⟩⟩
def spNear (N : Str → Prop) : Sp := fun vs H Q _ => ∃ (d c st : Addr) (ms : List Row), vs = [.ref d, .ref st] ∧ DS H d c ∧ Rws H st ms ∧ ms.length ≤ 100 ∧ (∀ r ∈ ms, N r.1) ∧ Gv d c N 2 H Q
def spOver (N : Str → Prop) (k : Nat) : Sp := fun vs H Q _ => ∃ (d c st : Addr) (ms : List Row) (e : Ex) (v : V), vs = [.ref d, .ref st, v] ∧ DS H d c ∧ Rws H st ms ∧ ms.length ≤ 100 ∧ (∀ r ∈ ms, N r.1) ∧ EV H e v ∧ Right N e ∧ dep e ≤ k ∧ Gv d c N (k + 1) H Q
theorem arith_signs : ∀ z ∈ arith, z ∈ signs := by decide +kernel
section
variable {P : Program} {w : World} {K : PySem.W.Frag} {mg : Str → Option Value} {base : Heap} {f : Addr} {fd : FuncData}
theorem ok_over {N : Str → Prop} {k : Nat} (F : Fun K "_law_over_one" "_law_over_one" s_law_over_one f fd) (T : Txt mg) (D_law_draw : Dn P w K mg base "_law_draw" ["_law_d", "_law_many"] 1 spDraw) (D_law_pick : Dn P w K mg base "_law_pick" ["_law_d", "_law_row"] 2 spPickV) :
    FnOk P w K mg base CX0 3 f fd ["_law_d", "_law_stores", "_law_one"] (spOver N k) := by
  refine F.ok sc_law_over_one (fun vs H Q E h => ?_) (fun cdv A outer s H vs Q E hr h => ?_)
  · obtain ⟨d, c, st, ms, e, v, rfl, _⟩ := h
    rfl
  obtain ⟨d, c, st, ms, e, v, rfl, hd, hst, lm, hN, hv, hR, hk, q⟩ := h
  refine ⟨_, (pss_cons (ps_set (i := 3) sc_law_over_one.nd rfl (Or.inl rfl) (pe_dn D_law_draw (hr.mono (by omega)) (by rfl) (pa_cons (pv 0) (pa_cons pe_int pa_nil))))
      (pss_cons (ps_if (pt_cmpR op_lt (pv 3) pe_int (nomark _)) (pss_one (ps_ret (pe_tup (pa_cons (pe_ix ix_list (pe_lst (pa_cons pe_str (pa_cons pe_str (pa_cons pe_str (pa_cons pe_str (pa_cons pe_str pa_nil)))))) (pv 3) (fun _ _ => rfl)) (pa_cons (pv 2) pa_nil))))) pss_nil)
      (pss_cons (ps_if (pt_cmpR op_eq (pv 3) pe_int (nomark _)) (pss_one (ps_ret (pe_tup (pa_cons pe_str (pa_cons (pv 2) (pa_cons (pe_op op_add pe_int (pe_dn D_law_draw (hr.mono (by omega)) (by rfl) (pa_cons (pv 0) (pa_cons pe_int pa_nil)))) pa_nil)))))) pss_nil)
      (pss_cons (ps_if (pt_cmpR op_eq (pv 3) pe_int (nomark _)) (pss_one (ps_ret (pe_tup (pa_cons pe_str (pa_cons (pv 2) (pa_cons (pe_op op_add pe_int (pe_dn D_law_draw (hr.mono (by omega)) (by rfl) (pa_cons (pv 0) (pa_cons pe_int pa_nil)))) pa_nil)))))) pss_nil)
      (pss_cons (ps_if (PW.pt (pw_and (pt_cmpR op_eq (pv 3) pe_int (nomark _)) (pw_and1 (pt_cmpR op_gt (pe_callB call_len_seq (by rfl) T.n_len (by decide +kernel) (pa_cons (pv 1) pa_nil)) pe_int (nomark _))))) (pss_one (ps_ret (pe_tup (pa_cons pe_str (pa_cons (pe_ix ix_tup (pe_dn D_law_pick (hr.mono (by omega)) (by rfl) (pa_cons (pv 0) (pa_cons (pv 1) pa_nil))) pe_int (fun _ _ => rfl)) (pa_cons (pv 2) pa_nil)))))) pss_nil)
      (pss_one (ps_ret (pe_tup (pa_cons pe_str (pa_cons (pv 2) (pa_cons (pe_dn D_law_draw (hr.mono (by omega)) (by rfl) (pa_cons (pv 0) (pa_cons pe_int pa_nil))) (pa_cons (pe_dn D_law_draw (hr.mono (by omega)) (by rfl) (pa_cons (pv 0) (pa_cons pe_int pa_nil))) pa_nil)))))))))))), ?_⟩
  refine ⟨_, rfl, d, c, 9, rfl, hd, by decide, by decide, fun r H1 r0 r1 hd1 k1 => ?_⟩
  obtain ⟨t, rfl⟩ := Int.eq_ofNat_of_zero_le r0
  have hv1 := EV.keepT (keepT_of hd k1) _ _ hv
  refine ⟨_, rfl, _, _, rfl, rfl, _, rfl, ite2 (fun c1 => ?_) (fun c1 => ?_)⟩
  · have t5 : t < 5 := by
      have := of_decide_eq_true c1
      omega
    refine ⟨(by show 5 ≤ sizeLine; decide), fun l hl => ⟨_, rfl, ?_⟩⟩
    have s1 := same_new hl (.lst ((["not", "any", "neg", "all", "odd"] : List Str).map V.str))
    have hat : ((["not", "any", "neg", "all", "odd"] : List Str).map V.str)[t]? = some (.str ((["not", "any", "neg", "all", "odd"] : List Str)[t])) := by
      rw [List.getElem?_map, List.getElem?_eq_getElem (by simpa using t5)]
      rfl
    have hmem : (["not", "any", "neg", "all", "odd"] : List Str)[t] ∈ (["not", "neg", "any", "all", "odd"] : List Str) := by
      have g : ∀ z ∈ (["not", "any", "neg", "all", "odd"] : List Str), z ∈ (["not", "neg", "any", "all", "odd"] : List Str) := by decide +kernel
      exact g _ (List.getElem_mem _)
    refine ⟨l, _, _, _, rfl, rfl, SqL.of upd_same, atI_nat hat, _, rfl, (by show 2 ≤ sizeLine; decide), fun p hp => ?_⟩
    have s2 := same_new hp (.tup [.str ((["not", "any", "neg", "all", "odd"] : List Str)[t]), v])
    exact q (.op1 _ e) _ _ ⟨p, v, rfl, upd_same, EV.keepT (KeepT.same (s1.trans s2)) _ _ hv1⟩ ⟨hmem, hR⟩ (by simp only [dep]; omega) (hd1.same (s1.trans s2)) (k1.trans (Keep.of_same (s1.trans s2)))
  refine ⟨_, rfl, rfl, _, rfl, ite2 (fun c2 => ?_) (fun c2 => ?_)⟩
  · refine ⟨_, rfl, _, rfl, d, c, 8, rfl, hd1, by decide, by decide, fun r H2 r0 r1 hd2 k2 => ⟨_, _, rfl, rfl, (by show 3 ≤ sizeLine; decide), fun p hp => ?_⟩⟩
    have s2 := same_new hp (.tup [.str "wide", v, .int (1 + r)])
    exact q (.ext "wide" e (1 + r)) _ _ ⟨p, v, rfl, upd_same, EV.keepT (KeepT.same s2) _ _ (EV.keepT (keepT_of hd1 k2) _ _ hv1)⟩ ⟨.inl rfl, hR⟩ (by simp only [dep]; omega) (hd2.same s2) ((k1.trans k2).trans (Keep.of_same s2))
  refine ⟨_, rfl, rfl, _, rfl, ite2 (fun c3 => ?_) (fun c3 => ?_)⟩
  · refine ⟨_, rfl, _, rfl, d, c, 8, rfl, hd1, by decide, by decide, fun r H2 r0 r1 hd2 k2 => ⟨_, _, rfl, rfl, (by show 3 ≤ sizeLine; decide), fun p hp => ?_⟩⟩
    have s2 := same_new hp (.tup [.str "sign", v, .int (1 + r)])
    exact q (.ext "sign" e (1 + r)) _ _ ⟨p, v, rfl, upd_same, EV.keepT (KeepT.same s2) _ _ (EV.keepT (keepT_of hd1 k2) _ _ hv1)⟩ ⟨.inr rfl, hR⟩ (by simp only [dep]; omega) (hd2.same s2) ((k1.trans k2).trans (Keep.of_same s2))
  have last : ∀ (r : Int) (H2 : Hp), DS H2 d c → Keep [d] H1 H2 → ∀ (u : Int) (H3 : Hp), DS H3 d c → Keep [d] H2 H3 → ∀ p, H3 p = none → Q (.ref p) (upd H3 p (.tup [.str "bits", v, .int r, .int u])) := by
    intro r H2 hd2 k2 u H3 hd3 k3 p hp
    have s2 := same_new hp (.tup [.str "bits", v, .int r, .int u])
    exact q (.bits e r u) _ _ ⟨p, v, rfl, upd_same, EV.keepT (KeepT.same s2) _ _ (EV.keepT (keepT_of hd2 k3) _ _ (EV.keepT (keepT_of hd1 k2) _ _ hv1))⟩ hR (by simp only [dep]; omega) (hd3.same s2) (((k1.trans k2).trans k3).trans (Keep.of_same s2))
  refine ⟨_, rfl, rfl, _, rfl, ite2 (fun c4 => ?_) (fun c4 => ?_)⟩
  · obtain ⟨ts, hts, hrows⟩ := hst
    have hts1 := keepT_of hd k1 _ _ hts
    have lts := hrows.1
    refine ⟨_, rfl, st, _, rfl, .inr (SqT.of hts1), _, _, rfl, rfl, _, rfl, ite2 (fun c5 => ?_) (fun c5 => ?_)⟩
    · have c5' : (0 : Int) < ((ts.map V.ref).length : Nat) := of_decide_eq_true c5
      refine ⟨_, rfl, _, rfl, d, c, st, ts.map V.ref, rfl, hd1, .inr hts1, by omega, by rw [List.length_map]; omega, fun y j H2 hy hd2 k2 => ?_⟩
      obtain ⟨tr, row, rest, rfl, hrow, etr⟩ := rowAt hrows hy
      have etr2 := keepT_of hd1 k2 _ _ (keepT_of hd k1 _ _ etr)
      refine ⟨tr, _, _, _, rfl, rfl, SqT.of etr2, atI_nat (j := 0) rfl, _, rfl, (by show 3 ≤ sizeLine; decide), fun p hp => ?_⟩
      have s2 := same_new hp (.tup [.str "read", .str row.1, v])
      exact q (.read row.1 e) _ _ ⟨p, v, rfl, upd_same, EV.keepT (KeepT.same s2) _ _ (EV.keepT (keepT_of hd1 k2) _ _ hv1)⟩ ⟨hN row (List.mem_of_getElem? hrow), hR⟩ (by simp only [dep]; omega) (hd2.same s2) ((k1.trans k2).trans (Keep.of_same s2))
    · exact ⟨_, rfl, _, rfl, d, c, 9, rfl, hd1, by decide, by decide, fun r H2 r0 r1 hd2 k2 => ⟨_, rfl, d, c, 4, rfl, hd2, by decide, by decide, fun u H3 u0 u1 hd3 k3 => ⟨(by show 4 ≤ sizeLine; decide), fun p hp => last r H2 hd2 k2 u H3 hd3 k3 p hp⟩⟩⟩
  · refine iteF ?_
    exact ⟨_, rfl, _, rfl, d, c, 9, rfl, hd1, by decide, by decide, fun r H2 r0 r1 hd2 k2 => ⟨_, rfl, d, c, 4, rfl, hd2, by decide, by decide, fun u H3 u0 u1 hd3 k3 => ⟨(by show 4 ≤ sizeLine; decide), fun p hp => last r H2 hd2 k2 u H3 hd3 k3 p hp⟩⟩⟩
theorem two2 {a b : V} {d : Addr} (h : a = b) : [V.ref d, a] = [V.ref d, b] := by rw [h]
theorem ok_near {N : Str → Prop} (F : Fun K "_law_near" "_law_near" s_law_near f fd) (T : Txt mg) (D_law_draw : Dn P w K mg base "_law_draw" ["_law_d", "_law_many"] 1 spDraw) (D_law_pick : Dn P w K mg base "_law_pick" ["_law_d", "_law_row"] 2 spPickV)
    (D_law_const_of : Dn P w K mg base "_law_const_of" ["_law_d", "_law_wide_here"] 2 (spConst N)) (D_law_sign : Dn P w K mg base "_law_sign" ["_law_d"] 3 spSign) :
    FnOk P w K mg base CX0 4 f fd ["_law_d", "_law_stores"] (spNear N) := by
  refine F.ok sc_law_near (fun vs H Q E h => ?_) (fun cdv A outer s H vs Q E hr h => ?_)
  · obtain ⟨d, c, st, ms, rfl, _⟩ := h
    rfl
  obtain ⟨d, c, st, ms, rfl, hd, hst, lm, hN, q⟩ := h
  refine ⟨_, (pss_cons (ps_set (i := 2) sc_law_near.nd rfl (Or.inl rfl) (pe_op op_add pe_int (pe_dn D_law_draw (hr.mono (by omega)) (by rfl) (pa_cons (pv 0) (pa_cons pe_int pa_nil)))))
      (pss_cons (ps_set (i := 3) sc_law_near.nd rfl (Or.inl rfl) (pe_callB (cr_minN rfl) (by rfl) T.n_min (by decide +kernel) (pa_cons pe_int (pa_cons (pe_callB (cr_maxN rfl) (by rfl) T.n_max (by decide +kernel) (pa_cons pe_int (pa_cons (pe_op op_add (pv 2) (pe_dn D_law_pick (hr.mono (by omega)) (by rfl) (pa_cons (pv 0) (pa_cons (pe_lst (pa_cons pe_int (pa_cons pe_int (pa_cons pe_int (pa_cons (pe_un un_neg pe_int) pa_nil))))) pa_nil)))) pa_nil))) pa_nil))))
      (pss_cons (ps_par (i := 4) (j := 5) (by rfl) sc_law_near.nd rfl rfl (by decide) rfl rfl (pa_cons (pe_dn D_law_const_of (hr.mono (by omega)) (by rfl) (pa_cons (pv 0) (pa_cons (pv 2) pa_nil))) (pa_cons (pe_dn D_law_const_of (hr.mono (by omega)) (by rfl) (pa_cons (pv 0) (pa_cons (pv 3) pa_nil))) pa_nil)) (by rfl))
      (pss_cons (ps_set (i := 6) sc_law_near.nd rfl (Or.inl rfl) (pe_dn D_law_draw (hr.mono (by omega)) (by rfl) (pa_cons (pv 0) (pa_cons pe_int pa_nil))))
      (pss_cons (ps_if (pt_cmpR op_eq (pv 6) pe_int (nomark _)) (pss_one (ps_ret (pe_tup (pa_cons pe_str (pa_cons (pv 4) (pa_cons (pe_dn D_law_const_of (hr.mono (by omega)) (by rfl) (pa_cons (pv 0) (pa_cons (pe_callB (cr_maxN rfl) (by rfl) T.n_max (by decide +kernel) (pa_cons pe_int (pa_cons (pe_op op_add (pe_op op_sub pe_int (pv 2)) (pe_dn D_law_draw (hr.mono (by omega)) (by rfl) (pa_cons (pv 0) (pa_cons pe_int pa_nil)))) pa_nil))) pa_nil))) pa_nil)))))) pss_nil)
      (pss_cons (ps_if (pt_cmpR op_eq (pv 6) pe_int (nomark _)) (pss_one (ps_ret (pe_tup (pa_cons pe_str (pa_cons (pv 4) (pa_cons (pv 3) pa_nil)))))) pss_nil)
      (pss_cons (ps_if (pt_cmpR op_eq (pv 6) pe_int (nomark _)) (pss_cons (ps_set (i := 7) sc_law_near.nd rfl (Or.inl rfl) (pe_op op_add (pe_op op_sub (pv 2) pe_int) (pe_dn D_law_draw (hr.mono (by omega)) (by rfl) (pa_cons (pv 0) (pa_cons pe_int pa_nil)))))
      (pss_one (ps_ret (pe_tup (pa_cons pe_str (pa_cons (pv 4) (pa_cons (pv 7) (pa_cons (pe_dn D_law_pick (hr.mono (by omega)) (by rfl) (pa_cons (pv 0) (pa_cons (pe_lst (pa_cons pe_int (pa_cons (pv 7) (pa_cons (pe_op op_add (pv 7) pe_int) (pa_cons pe_int pa_nil))))) pa_nil))) pa_nil)))))))) pss_nil)
      (pss_cons (ps_if (pt_cmpR op_eq (pv 6) pe_int (nomark _)) (pss_one (ps_ret (pe_tup (pa_cons pe_str (pa_cons (pe_dn D_law_const_of (hr.mono (by omega)) (by rfl) (pa_cons (pv 0) (pa_cons (pe_op op_add pe_int (pe_dn D_law_draw (hr.mono (by omega)) (by rfl) (pa_cons (pv 0) (pa_cons pe_int pa_nil)))) pa_nil))) (pa_cons (pv 4) (pa_cons (pv 5) pa_nil))))))) pss_nil)
      (pss_cons (ps_if (pt_cmpR op_eq (pv 6) pe_int (nomark _)) (pss_one (ps_ret (pe_tup (pa_cons (pe_dn D_law_pick (hr.mono (by omega)) (by rfl) (pa_cons (pv 0) (pa_cons (pe_lst (pa_cons pe_str (pa_cons pe_str pa_nil))) pa_nil))) (pa_cons (pv 4) (pa_cons (pv 5) pa_nil)))))) pss_nil)
      (pss_cons (ps_if (PW.pt (pw_and (pt_cmpR op_eq (pv 6) pe_int (nomark _)) (pw_and1 (pt_cmpR op_gt (pe_callB call_len_seq (by rfl) T.n_len (by decide +kernel) (pa_cons (pv 1) pa_nil)) pe_int (nomark _))))) (pss_one (ps_ret (pe_tup (pa_cons pe_str (pa_cons (pe_ix ix_tup (pe_dn D_law_pick (hr.mono (by omega)) (by rfl) (pa_cons (pv 0) (pa_cons (pv 1) pa_nil))) pe_int (fun _ _ => rfl)) (pa_cons (pe_tup (pa_cons (pe_dn D_law_sign (hr.mono (by omega)) (by rfl) (pa_cons (pv 0) pa_nil)) (pa_cons (pv 4) (pa_cons (pv 5) pa_nil)))) pa_nil)))))) pss_nil)
      (pss_one (ps_ret (pe_tup (pa_cons (pe_dn D_law_sign (hr.mono (by omega)) (by rfl) (pa_cons (pv 0) pa_nil)) (pa_cons (pv 4) (pa_cons (pv 5) pa_nil)))))))))))))))), ?_⟩
  refine ⟨_, rfl, d, c, 8, rfl, hd, by decide, by decide, fun r H1 r0 r1 hd1 k1 => ⟨_, _, rfl, rfl, ?_⟩⟩
  obtain ⟨t, rfl⟩ := Int.eq_ofNat_of_zero_le r0
  have eu : V.int (1 + (t : Int)) = vI (1 + t) := congrArg V.int (by omega)
  refine ⟨_, rfl, _, rfl, 1, rfl, (by show 4 ≤ sizeLine; decide), fun l hl => ?_⟩
  have sl := same_new hl (.lst [V.int 0, .int 1, .int 0, .int (-1)])
  refine ⟨d, c, l, _, rfl, hd1.same sl, .inl ⟨(hd1.new hl).1, upd_same⟩, by simp, by simp, fun y j H2 hy hd2 k2 => ?_⟩
  obtain ⟨g, rfl, g1, g2⟩ : ∃ g : Int, y = .int g ∧ -1 ≤ g ∧ g ≤ 1 := by
    match j, hy with
    | 0, h => exact ⟨0, (Option.some.inj h).symm, by decide, by decide⟩
    | 1, h => exact ⟨1, (Option.some.inj h).symm, by decide, by decide⟩
    | 2, h => exact ⟨0, (Option.some.inj h).symm, by decide, by decide⟩
    | 3, h => exact ⟨-1, (Option.some.inj h).symm, by decide, by decide⟩
    | j + 4, h => simp at h
  obtain ⟨o, ho⟩ : ∃ o : Nat, 1 + (t : Int) + g = (o : Int) := Int.eq_ofNat_of_zero_le (by omega)
  refine ⟨_, _, rfl, rfl, 1, o, congrArg (fun z : Int => [V.int 1, V.int z]) ho, 8, max 1 o, rfl, ?_⟩
  have k12 := (k1.trans (Keep.of_same sl)).trans k2
  refine ⟨_, rfl, _, rfl, d, c, 1 + t, two2 eu, hd2, by omega, fun e1 v1 H3 hv1 hR1 hk1 hd3 k3 => ?_⟩
  refine ⟨_, rfl, _, rfl, d, c, min 8 (max 1 o), rfl, hd3, by omega, fun e2 v2 H4 hv2 hR2 hk2 hd4 k4 => ⟨_, _, rfl, ?_⟩⟩
  have hv14 := EV.keepT (keepT_of hd3 k4) _ _ hv1
  refine ⟨_, rfl, d, c, 7, rfl, hd4, by decide, by decide, fun r H5 r0' r1' hd5 k5 => ?_⟩
  have hv15 := EV.keepT (keepT_of hd4 k5) _ _ hv14
  have hv25 := EV.keepT (keepT_of hd4 k5) _ _ hv2
  have kk := ((k12.trans k3).trans k4).trans k5
  refine ⟨_, rfl, rfl, _, rfl, ite2 (fun c1 => ?_) (fun c1 => ?_)⟩
  · refine ⟨_, rfl, _, rfl, _, rfl, _, _, rfl, rfl, _, rfl, d, c, 2, rfl, hd5, by decide, by decide, fun r H6 q0 q1 hd6 k6 => ?_⟩
    obtain ⟨o2, ho2⟩ : ∃ o : Nat, 8 - (1 + (t : Int)) + r = (o : Int) := Int.eq_ofNat_of_zero_le (by omega)
    refine ⟨_, _, rfl, rfl, 1, o2, congrArg (fun z : Int => [V.int 1, V.int z]) ho2, d, c, max 1 o2, rfl, hd6, by omega, fun e3 v3 H7 hv3 hR3 hk3 hd7 k7 => ⟨(by show 3 ≤ sizeLine; decide), fun p hp => ?_⟩⟩
    have s2 := same_new hp (.tup [.str "join", v1, v3])
    exact q (.op2 "join" e1 e3) _ _ ⟨p, v1, v3, rfl, upd_same, EV.keepT (KeepT.same s2) _ _ (EV.keepT (keepT_of hd6 k7) _ _ (EV.keepT (keepT_of hd5 k6) _ _ hv15)), EV.keepT (KeepT.same s2) _ _ hv3⟩ ⟨by decide +kernel, hR1, hR3⟩ (by simp only [dep]; omega)
      (hd7.same s2) (((kk.trans k6).trans k7).trans (Keep.of_same s2))
  refine ⟨_, rfl, rfl, _, rfl, ite2 (fun c2 => ?_) (fun c2 => ?_)⟩
  · refine ⟨_, rfl, _, rfl, (by show 3 ≤ sizeLine; decide), fun p hp => ?_⟩
    have s2 := same_new hp (.tup [.str "sign", v1, .int ((min 8 (max 1 o) : Nat) : Int)])
    exact q (.ext "sign" e1 _) _ _ ⟨p, v1, rfl, upd_same, EV.keepT (KeepT.same s2) _ _ hv15⟩ ⟨.inr rfl, hR1⟩ (by simp only [dep]; omega) (hd5.same s2) (kk.trans (Keep.of_same s2))
  refine ⟨_, rfl, rfl, _, rfl, ite2 (fun c3 => ?_) (fun c3 => ?_)⟩
  · refine ⟨_, rfl, _, _, rfl, rfl, _, rfl, d, c, 2, rfl, hd5, by decide, by decide, fun r H6 q0 q1 hd6 k6 => ⟨_, _, rfl, rfl, ?_⟩⟩
    refine ⟨_, rfl, _, rfl, _, rfl, _, rfl, _, rfl, _, _, rfl, rfl, (by show 4 ≤ sizeLine; decide), fun l2 hl2 => ?_⟩
    have sl2 := same_new hl2 (.lst [V.int 0, .int (1 + (t : Int) - 1 + r), .int (1 + (t : Int) - 1 + r + 1), .int 255])
    refine ⟨d, c, l2, _, rfl, hd6.same sl2, .inl ⟨(hd6.new hl2).1, upd_same⟩, by simp, by simp, fun y j H7 hy hd7 k7 => ?_⟩
    obtain ⟨g', rfl⟩ : ∃ g : Int, y = .int g := by
      match j, hy with
      | 0, h => exact ⟨_, (Option.some.inj h).symm⟩
      | 1, h => exact ⟨_, (Option.some.inj h).symm⟩
      | 2, h => exact ⟨_, (Option.some.inj h).symm⟩
      | 3, h => exact ⟨_, (Option.some.inj h).symm⟩
      | j + 4, h => simp at h
    refine ⟨(by show 4 ≤ sizeLine; decide), fun p hp => ?_⟩
    have s2 := same_new hp (.tup [.str "bits", v1, .int (1 + (t : Int) - 1 + r), .int g'])
    exact q (.bits e1 _ g') _ _ ⟨p, v1, rfl, upd_same, EV.keepT (KeepT.same s2) _ _ (EV.keepT (keepT_of (hd6.same sl2) k7) _ _ (EV.keepT (KeepT.same sl2) _ _ (EV.keepT (keepT_of hd5 k6) _ _ hv15)))⟩ hR1 (by simp only [dep]; omega)
      (hd7.same s2) ((((kk.trans k6).trans (Keep.of_same sl2)).trans k7).trans (Keep.of_same s2))
  refine ⟨_, rfl, rfl, _, rfl, ite2 (fun c4 => ?_) (fun c4 => ?_)⟩
  · refine ⟨_, rfl, _, rfl, d, c, 2, rfl, hd5, by decide, by decide, fun r H6 q0 q1 hd6 k6 => ⟨_, _, rfl, rfl, ?_⟩⟩
    obtain ⟨t2, rfl⟩ := Int.eq_ofNat_of_zero_le q0
    refine ⟨d, c, 1 + t2, two2 (congrArg V.int (by omega)), hd6, by omega, fun e3 v3 H7 hv3 hR3 hk3 hd7 k7 => ⟨_, rfl, _, rfl, (by show 4 ≤ sizeLine; decide), fun p hp => ?_⟩⟩
    have s2 := same_new hp (.tup [.str "pick", v3, v1, v2])
    have kT := keepT_of hd5 (k6.trans k7)
    exact q (.op3 e3 e1 e2) _ _ ⟨p, v3, v1, v2, rfl, upd_same, EV.keepT (KeepT.same s2) _ _ hv3, EV.keepT (KeepT.same s2) _ _ (EV.keepT kT _ _ hv15), EV.keepT (KeepT.same s2) _ _ (EV.keepT kT _ _ hv25)⟩ ⟨hR3, hR1, hR2⟩ (by simp only [dep]; omega)
      (hd7.same s2) (((kk.trans k6).trans k7).trans (Keep.of_same s2))
  refine ⟨_, rfl, rfl, _, rfl, ite2 (fun c5 => ?_) (fun c5 => ?_)⟩
  · refine ⟨_, rfl, (by show 2 ≤ sizeLine; decide), fun l2 hl2 => ?_⟩
    have sl2 := same_new hl2 (.lst ((["<<", ">>"] : List Str).map V.str))
    refine ⟨d, c, l2, _, rfl, hd5.same sl2, .inl ⟨(hd5.new hl2).1, upd_same⟩, by simp, by simp, fun y j H7 hy hd7 k7 => ?_⟩
    obtain ⟨z, hz, rfl⟩ := strIn (ls := ["<<", ">>"]) hy
    have hzs : z ∈ signs := by
      have g : ∀ z ∈ (["<<", ">>"] : List Str), z ∈ signs := by decide +kernel
      exact g z hz
    refine ⟨_, rfl, _, rfl, (by show 3 ≤ sizeLine; decide), fun p hp => ?_⟩
    have s2 := same_new hp (.tup [.str z, v1, v2])
    have kT := (keepT_of hd5 ((Keep.of_same sl2).trans k7))
    exact q (.op2 z e1 e2) _ _ ⟨p, v1, v2, rfl, upd_same, EV.keepT (KeepT.same s2) _ _ (EV.keepT kT _ _ hv15), EV.keepT (KeepT.same s2) _ _ (EV.keepT kT _ _ hv25)⟩ ⟨hzs, hR1, hR2⟩ (by simp only [dep]; omega)
      (hd7.same s2) (((kk.trans (Keep.of_same sl2)).trans k7).trans (Keep.of_same s2))
  have last : ∀ (z : Str) (H7 : Hp), z ∈ arith → DS H7 d c → Keep [d] H5 H7 → ∀ p, H7 p = none → ∃ e3, EV (upd H7 p (.tup [.str z, v1, v2])) e3 (.ref p) ∧ Right N e3 ∧ dep e3 ≤ 1 ∧ DS (upd H7 p (.tup [.str z, v1, v2])) d c ∧ Keep [d] H (upd H7 p (.tup [.str z, v1, v2])) := by
    intro z H7 hz hd7 k7 p hp
    have s2 := same_new hp (.tup [.str z, v1, v2])
    have kT := keepT_of hd5 k7
    exact ⟨.op2 z e1 e2, ⟨p, v1, v2, rfl, upd_same, EV.keepT (KeepT.same s2) _ _ (EV.keepT kT _ _ hv15), EV.keepT (KeepT.same s2) _ _ (EV.keepT kT _ _ hv25)⟩, ⟨arith_signs z hz, hR1, hR2⟩, by simp only [dep]; omega, hd7.same s2, (kk.trans k7).trans (Keep.of_same s2)⟩
  have tail : ∀ (z : Str) (H7 : Hp), z ∈ arith → DS H7 d c → Keep [d] H5 H7 → ∀ p, H7 p = none → Q (.ref p) (upd H7 p (.tup [.str z, v1, v2])) := fun z H7 hz hd7 k7 p hp => by
    obtain ⟨e3, a1, a2, a3, a4, a5⟩ := last z H7 hz hd7 k7 p hp
    exact q e3 _ _ a1 a2 (by omega) a4 a5
  refine ⟨_, rfl, rfl, _, rfl, ite2 (fun c6 => ?_) (fun c6 => ?_)⟩
  · obtain ⟨ts, hts, hrows⟩ := hst.keepT (keepT_of hd kk)
    have lts := hrows.1
    refine ⟨_, rfl, st, _, rfl, .inr (SqT.of hts), _, _, rfl, rfl, _, rfl, ite2 (fun c7 => ?_) (fun c7 => ?_)⟩
    · have c7' : (0 : Int) < ((ts.map V.ref).length : Nat) := of_decide_eq_true c7
      refine ⟨_, rfl, _, rfl, d, c, st, ts.map V.ref, rfl, hd5, .inr hts, by omega, by rw [List.length_map]; omega, fun y j H7 hy hd7 k7 => ?_⟩
      obtain ⟨tr, row, rest, rfl, hrow, etr⟩ := rowAt hrows hy
      have etr2 := keepT_of hd5 k7 _ _ etr
      refine ⟨tr, _, _, _, rfl, rfl, SqT.of etr2, atI_nat (j := 0) rfl, _, rfl, d, c, rfl, hd7, fun z H8 hz hd8 k8 => ⟨_, rfl, _, rfl, (by show 3 ≤ sizeLine; decide), fun p hp => ⟨(by show 3 ≤ sizeLine; decide), fun p2 hp2 => ?_⟩⟩⟩
      obtain ⟨e3, a1, a2, a3, a4, a5⟩ := last z H8 hz hd8 (k7.trans k8) p hp
      have s3 := same_new hp2 (.tup [.str "read", .str row.1, .ref p])
      exact q (.read row.1 e3) _ _ ⟨p2, .ref p, rfl, upd_same, EV.keepT (KeepT.same s3) _ _ a1⟩ ⟨hN row (List.mem_of_getElem? hrow), a2⟩ (by simp only [dep]; omega) (a4.same s3) (a5.trans (Keep.of_same s3))
    · exact ⟨_, rfl, d, c, rfl, hd5, fun z H7 hz hd7 k7 => ⟨_, rfl, _, rfl, (by show 3 ≤ sizeLine; decide), fun p hp => tail z H7 hz hd7 k7 p hp⟩⟩
  · refine iteF ?_
    exact ⟨_, rfl, d, c, rfl, hd5, fun z H7 hz hd7 k7 => ⟨_, rfl, _, rfl, (by show 3 ≤ sizeLine; decide), fun p hp => tail z H7 hz hd7 k7 p hp⟩⟩
end
end Bf

set_option Elab.async false
set_option linter.all false
set_option maxRecDepth 100000
set_option maxHeartbeats 4000000
namespace Bf
open PySem PySem.Spec PyProof.Rows L2
/-! ### drawing: any -/
theorem RowsAt.keepT {H H' : Hp} {ts : List Addr} {rs : List Row} (h : RowsAt H ts rs) (k : KeepT H H') : RowsAt H' ts rs := ⟨h.1, fun i t x a b => let ⟨y, z⟩ := h.2 i t x a b; ⟨y, k _ _ z⟩⟩
structure Gx (N : Str → Prop) (H : Hp) (d c env st : Addr) (rs ms : List Row) : Prop where
  ds : DS H d c
  ev : ∃ ts : List Addr, H env = some (.lst (ts.map V.ref)) ∧ env ≠ d ∧ RowsAt H ts rs
  sv : Rws H st ms
  l1 : 1 ≤ rs.length
  l2 : rs.length ≤ 100
  lm : ms.length ≤ 100
  n1 : ∀ r ∈ rs, N r.1
  n2 : ∀ r ∈ ms, N r.1
theorem Gx.keep {N : Str → Prop} {H H' : Hp} {d c env st : Addr} {rs ms : List Row} (g : Gx N H d c env st rs ms) (k : Keep [d] H H') (h : DS H' d c) : Gx N H' d c env st rs ms :=
  have kT := keepT_of g.ds k
  ⟨h, (let ⟨ts, a, b, r⟩ := g.ev; ⟨ts, k _ _ (by simp [b]) a, b, r.keepT kT⟩), g.sv.keepT kT, g.l1, g.l2, g.lm, g.n1, g.n2⟩
def spAny (N : Str → Prop) (n : Nat) : Sp := fun vs H Q _ => ∃ (d c env st : Addr) (rs ms : List Row) (m : Nat), vs = [.ref d, .ref env, .ref st, vI m] ∧ Gx N H d c env st rs ms ∧ m < n ∧ Gv d c N (m + 2) H Q
section
variable {P : Program} {w : World} {K : PySem.W.Frag} {mg : Str → Option Value} {base : Heap} {f : Addr} {fd : FuncData}
theorem step_any {N : Str → Prop} {n : Nat} (F : Fun K "_law_any" "_law_any" s_law_any f fd) (D_law_draw : Dn P w K mg base "_law_draw" ["_law_d", "_law_many"] 1 spDraw) (D_law_pick : Dn P w K mg base "_law_pick" ["_law_d", "_law_row"] 2 spPickV)
    (D_law_const_of : Dn P w K mg base "_law_const_of" ["_law_d", "_law_wide_here"] 2 (spConst N)) (D_law_sign : Dn P w K mg base "_law_sign" ["_law_d"] 3 spSign) (D_law_near : Dn P w K mg base "_law_near" ["_law_d", "_law_stores"] 4 (spNear N))
    (D_overAll : ∀ k : Nat, Dn P w K mg base "_law_over_one" ["_law_d", "_law_stores", "_law_one"] 3 (spOver N k)) (D_law_any : Dn P w K mg base "_law_any" ["_law_d", "_law_env", "_law_stores", "_law_depth"] (n + 4) (spAny N n)) :
    FnOk P w K mg base CX0 (n + 5) f fd ["_law_d", "_law_env", "_law_stores", "_law_depth"] (spAny N (n + 1)) := by
  refine F.ok sc_law_any (fun vs H Q E h => ?_) (fun cdv A outer s H vs Q E hr h => ?_)
  · obtain ⟨d, c, env, st, rs, ms, m, rfl, _⟩ := h
    rfl
  obtain ⟨d, c, env, st, rs, ms, m, rfl, g, hmn, q⟩ := h
  have D_law_over_one := D_overAll (m + 1)
  refine ⟨_, (pss_cons (ps_set (i := 4) sc_law_any.nd rfl (Or.inl rfl) (pe_dn D_law_draw (hr.mono (by omega)) (by rfl) (pa_cons (pv 0) (pa_cons pe_int pa_nil))))
      (pss_cons (ps_if (PW.pt (pw_or (pt_cmpR op_eq (pv 3) pe_int (nomark _)) (pw_or1 (pt_cmpR op_lt (pv 4) pe_int (nomark _))))) (pss_cons (ps_if (pt_cmpR op_eq (pe_op op_odd (pv 4) pe_int) pe_int (nomark _)) (pss_one (ps_ret (pe_dn D_law_const_of (hr.mono (by omega)) (by rfl) (pa_cons (pv 0) (pa_cons (pe_op op_add pe_int (pe_dn D_law_draw (hr.mono (by omega)) (by rfl) (pa_cons (pv 0) (pa_cons pe_int pa_nil)))) pa_nil))))) pss_nil)
      (pss_one (ps_ret (pe_tup (pa_cons pe_str (pa_cons (pe_ix ix_tup (pe_dn D_law_pick (hr.mono (by omega)) (by rfl) (pa_cons (pv 0) (pa_cons (pv 1) pa_nil))) pe_int (fun _ _ => rfl)) pa_nil)))))) pss_nil)
      (pss_cons (ps_if (pt_cmpR op_lt (pv 4) pe_int (nomark _)) (pss_one (ps_ret (pe_dn D_law_near (hr.mono (by omega)) (by rfl) (pa_cons (pv 0) (pa_cons (pv 2) pa_nil))))) pss_nil)
      (pss_cons (ps_set (i := 5) sc_law_any.nd rfl (Or.inl rfl) (pe_dn D_law_any (hr.mono (by omega)) (by rfl) (pa_cons (pv 0) (pa_cons (pv 1) (pa_cons (pv 2) (pa_cons (pe_op op_sub (pv 3) pe_int) pa_nil))))))
      (pss_cons (ps_if (pt_cmpR op_lt (pv 4) pe_int (nomark _)) (pss_one (ps_ret (pe_dn D_law_over_one (hr.mono (by omega)) (by rfl) (pa_cons (pv 0) (pa_cons (pv 2) (pa_cons (pv 5) pa_nil)))))) pss_nil)
      (pss_cons (ps_set (i := 6) sc_law_any.nd rfl (Or.inl rfl) (pe_dn D_law_any (hr.mono (by omega)) (by rfl) (pa_cons (pv 0) (pa_cons (pv 1) (pa_cons (pv 2) (pa_cons (pe_op op_sub (pv 3) pe_int) pa_nil))))))
      (pss_cons (ps_if (pt_cmpR op_eq (pv 4) pe_int (nomark _)) (pss_one (ps_ret (pe_tup (pa_cons pe_str (pa_cons (pe_dn D_law_any (hr.mono (by omega)) (by rfl) (pa_cons (pv 0) (pa_cons (pv 1) (pa_cons (pv 2) (pa_cons pe_int pa_nil))))) (pa_cons (pv 5) (pa_cons (pv 6) pa_nil))))))) pss_nil)
      (pss_cons (ps_if (pt_cmpR op_eq (pv 4) pe_int (nomark _)) (pss_one (ps_ret (pe_tup (pa_cons pe_str (pa_cons (pv 5) (pa_cons (pv 6) pa_nil)))))) pss_nil)
      (pss_cons (ps_if (pt_cmpR op_eq (pv 4) pe_int (nomark _)) (pss_one (ps_ret (pe_tup (pa_cons (pe_dn D_law_pick (hr.mono (by omega)) (by rfl) (pa_cons (pv 0) (pa_cons (pe_lst (pa_cons pe_str (pa_cons pe_str pa_nil))) pa_nil))) (pa_cons (pv 5) (pa_cons (pv 6) pa_nil)))))) pss_nil)
      (pss_one (ps_ret (pe_tup (pa_cons (pe_dn D_law_sign (hr.mono (by omega)) (by rfl) (pa_cons (pv 0) pa_nil)) (pa_cons (pv 5) (pa_cons (pv 6) pa_nil))))))))))))))), ?_⟩
  refine ⟨_, rfl, d, c, 17, rfl, g.ds, by decide, by decide, fun r H1 r0 r1 hd1 k1 => ?_⟩
  obtain ⟨t, rfl⟩ := Int.eq_ofNat_of_zero_le r0
  have g1 := g.keep k1 hd1
  refine ⟨_, rfl, rfl, _, rfl, ite2 (fun c0 => iteT ?_) (fun c0 => ?_)⟩
  · refine ⟨_, rfl, t, rfl, rfl, rfl, _, rfl, ite2 (fun b1 => ?_) (fun b1 => ?_)⟩
    · refine ⟨_, rfl, _, rfl, d, c, 3, rfl, g1.ds, by decide, by decide, fun r H2 q0 q1 hd2 k2 => ⟨_, _, rfl, rfl, ?_⟩⟩
      obtain ⟨t2, rfl⟩ := Int.eq_ofNat_of_zero_le q0
      exact ⟨d, c, 1 + t2, two2 (congrArg V.int (by omega)), hd2, by omega, fun e v H3 hv hR hk hd3 k3 => q e v H3 hv hR (by omega) hd3 ((k1.trans k2).trans k3)⟩
    · obtain ⟨ts, hts, nd, hrows⟩ := g1.ev
      have lts := hrows.1
      have l1 := g1.l1
      have l2 := g1.l2
      refine ⟨_, rfl, _, rfl, d, c, env, ts.map V.ref, rfl, g1.ds, .inl ⟨nd, hts⟩, by rw [List.length_map]; omega, by rw [List.length_map]; omega, fun y j H2 hy hd2 k2 => ?_⟩
      obtain ⟨tr, row, rest, rfl, hrow, etr⟩ := rowAt hrows hy
      have etr2 := keepT_of g1.ds k2 _ _ etr
      refine ⟨tr, _, _, _, rfl, rfl, SqT.of etr2, atI_nat (j := 0) rfl, (by show 2 ≤ sizeLine; decide), fun p hp => ?_⟩
      have s2 := same_new hp (.tup [.str "name", .str row.1])
      exact q (.name row.1) _ _ ⟨p, rfl, upd_same⟩ (g1.n1 row (List.mem_of_getElem? hrow)) (Nat.zero_le _) (hd2.same s2) ((k1.trans k2).trans (Keep.of_same s2))
  have m1 : 1 ≤ m := by
    refine Nat.pos_of_ne_zero fun z => c0 (decide_eq_true ?_)
    rw [z]
    rfl
  refine ⟨_, rfl, _, _, rfl, rfl, _, rfl, ite2 (fun c1 => ?_) (fun c1 => ?_)⟩
  · refine ⟨_, rfl, t, rfl, rfl, rfl, _, rfl, ite2 (fun b1 => ?_) (fun b1 => ?_)⟩
    · refine ⟨_, rfl, _, rfl, d, c, 3, rfl, g1.ds, by decide, by decide, fun r H2 q0 q1 hd2 k2 => ⟨_, _, rfl, rfl, ?_⟩⟩
      obtain ⟨t2, rfl⟩ := Int.eq_ofNat_of_zero_le q0
      exact ⟨d, c, 1 + t2, two2 (congrArg V.int (by omega)), hd2, by omega, fun e v H3 hv hR hk hd3 k3 => q e v H3 hv hR (by omega) hd3 ((k1.trans k2).trans k3)⟩
    · obtain ⟨ts, hts, nd, hrows⟩ := g1.ev
      have lts := hrows.1
      have l1 := g1.l1
      have l2 := g1.l2
      refine ⟨_, rfl, _, rfl, d, c, env, ts.map V.ref, rfl, g1.ds, .inl ⟨nd, hts⟩, by rw [List.length_map]; omega, by rw [List.length_map]; omega, fun y j H2 hy hd2 k2 => ?_⟩
      obtain ⟨tr, row, rest, rfl, hrow, etr⟩ := rowAt hrows hy
      have etr2 := keepT_of g1.ds k2 _ _ etr
      refine ⟨tr, _, _, _, rfl, rfl, SqT.of etr2, atI_nat (j := 0) rfl, (by show 2 ≤ sizeLine; decide), fun p hp => ?_⟩
      have s2 := same_new hp (.tup [.str "name", .str row.1])
      exact q (.name row.1) _ _ ⟨p, rfl, upd_same⟩ (g1.n1 row (List.mem_of_getElem? hrow)) (Nat.zero_le _) (hd2.same s2) ((k1.trans k2).trans (Keep.of_same s2))
  refine ⟨_, rfl, _, _, rfl, rfl, _, rfl, ite2 (fun c2 => ?_) (fun c2 => ?_)⟩
  · exact ⟨_, rfl, _, rfl, d, c, st, ms, rfl, g1.ds, g1.sv, g1.lm, g1.n2, fun e v H2 hv hR hk hd2 k2 => q e v H2 hv hR (by omega) hd2 (k1.trans k2)⟩
  have em : V.int ((m : Int) - 1) = vI (m - 1) := congrArg V.int (by omega)
  refine ⟨_, rfl, _, rfl, _, rfl, _, rfl, _, _, rfl, rfl, d, c, env, st, rs, ms, m - 1, congrArg (fun z => [V.ref d, V.ref env, V.ref st, z]) em, g1, by omega, fun e1 v1 H2 hv1 hR1 hk1 hd2 k2 => ?_⟩
  have g2 := g1.keep k2 hd2
  refine ⟨_, rfl, _, _, rfl, rfl, _, rfl, ite2 (fun c3 => ?_) (fun c3 => ?_)⟩
  · exact ⟨_, rfl, _, rfl, _, rfl, d, c, st, ms, e1, v1, rfl, g2.ds, g2.sv, g2.lm, g2.n2, hv1, hR1, by omega, fun e v H3 hv hR hk hd3 k3 => q e v H3 hv hR (by omega) hd3 ((k1.trans k2).trans k3)⟩
  refine ⟨_, rfl, _, rfl, _, rfl, _, rfl, _, _, rfl, rfl, d, c, env, st, rs, ms, m - 1, congrArg (fun z => [V.ref d, V.ref env, V.ref st, z]) em, g2, by omega, fun e2 v2 H3 hv2 hR2 hk2 hd3 k3 => ?_⟩
  have g3 := g2.keep k3 hd3
  have hv13 := EV.keepT (keepT_of hd2 k3) _ _ hv1
  have kk := (k1.trans k2).trans k3
  refine ⟨_, rfl, rfl, _, rfl, ite2 (fun c4 => ?_) (fun c4 => ?_)⟩
  · refine ⟨_, rfl, _, rfl, _, rfl, d, c, env, st, rs, ms, 0, rfl, g3, by omega, fun e3 v3 H4 hv3 hR3 hk3 hd4 k4 => ⟨_, rfl, _, rfl, (by show 4 ≤ sizeLine; decide), fun p hp => ?_⟩⟩
    have s2 := same_new hp (.tup [.str "pick", v3, v1, v2])
    have kT := keepT_of hd3 k4
    exact q (.op3 e3 e1 e2) _ _ ⟨p, v3, v1, v2, rfl, upd_same, EV.keepT (KeepT.same s2) _ _ hv3, EV.keepT (KeepT.same s2) _ _ (EV.keepT kT _ _ hv13), EV.keepT (KeepT.same s2) _ _ (EV.keepT kT _ _ hv2)⟩ ⟨hR3, hR1, hR2⟩ (by simp only [dep]; omega)
      (hd4.same s2) ((kk.trans k4).trans (Keep.of_same s2))
  refine ⟨_, rfl, rfl, _, rfl, ite2 (fun c5 => ?_) (fun c5 => ?_)⟩
  · refine ⟨_, rfl, _, rfl, (by show 3 ≤ sizeLine; decide), fun p hp => ?_⟩
    have s2 := same_new hp (.tup [.str "join", v1, v2])
    exact q (.op2 "join" e1 e2) _ _ ⟨p, v1, v2, rfl, upd_same, EV.keepT (KeepT.same s2) _ _ hv13, EV.keepT (KeepT.same s2) _ _ hv2⟩ ⟨by decide +kernel, hR1, hR2⟩ (by simp only [dep]; omega) (hd3.same s2) (kk.trans (Keep.of_same s2))
  have last : ∀ (z : Str) (H7 : Hp), z ∈ signs → DS H7 d c → Keep [d] H3 H7 → ∀ p, H7 p = none → Q (.ref p) (upd H7 p (.tup [.str z, v1, v2])) := by
    intro z H7 hz hd7 k7 p hp
    have s2 := same_new hp (.tup [.str z, v1, v2])
    have kT := keepT_of hd3 k7
    exact q (.op2 z e1 e2) _ _ ⟨p, v1, v2, rfl, upd_same, EV.keepT (KeepT.same s2) _ _ (EV.keepT kT _ _ hv13), EV.keepT (KeepT.same s2) _ _ (EV.keepT kT _ _ hv2)⟩ ⟨hz, hR1, hR2⟩ (by simp only [dep]; omega) (hd7.same s2) ((kk.trans k7).trans (Keep.of_same s2))
  refine ⟨_, rfl, rfl, _, rfl, ite2 (fun c6 => ?_) (fun c6 => ?_)⟩
  · refine ⟨_, rfl, (by show 2 ≤ sizeLine; decide), fun l2 hl2 => ?_⟩
    have sl2 := same_new hl2 (.lst ((["<<", ">>"] : List Str).map V.str))
    refine ⟨d, c, l2, _, rfl, hd3.same sl2, .inl ⟨(hd3.new hl2).1, upd_same⟩, by simp, by simp, fun y j H7 hy hd7 k7 => ?_⟩
    obtain ⟨z, hz, rfl⟩ := strIn (ls := ["<<", ">>"]) hy
    have hzs : z ∈ signs := by
      have g : ∀ z ∈ (["<<", ">>"] : List Str), z ∈ signs := by decide +kernel
      exact g z hz
    exact ⟨_, rfl, _, rfl, (by show 3 ≤ sizeLine; decide), fun p hp => last z H7 hzs hd7 ((Keep.of_same sl2).trans k7) p hp⟩
  · exact ⟨_, rfl, d, c, rfl, hd3, fun z H7 hz hd7 k7 => ⟨_, rfl, _, rfl, (by show 3 ≤ sizeLine; decide), fun p hp => last z H7 (arith_signs z hz) hd7 k7 p hp⟩⟩
end
end Bf

set_option Elab.async false
set_option linter.all false
set_option maxRecDepth 100000
set_option maxHeartbeats 4000000
namespace Bf
open PySem PySem.Spec PyProof.Rows L2
/-! ### drawing: expr with other_expr -/
def spExpr (N : Str → Prop) (n : Nat) : Sp := fun vs H Q _ => ∃ (d c env st : Addr) (rs ms : List Row) (u m : Nat), vs = [.ref d, .ref env, .ref st, vI u, vI m] ∧ Gx N H d c env st rs ms ∧ 1 ≤ u ∧ u ≤ 8 ∧ m < n ∧ Gv d c N m H Q
def spOther (N : Str → Prop) (n : Nat) : Sp := fun vs H Q _ => ∃ (d c env st : Addr) (rs ms : List Row) (u m t : Nat), vs = [.ref d, .ref env, .ref st, vI u, vI m, vI t] ∧ Gx N H d c env st rs ms ∧ 1 ≤ u ∧ u ≤ 8 ∧ m < n ∧ 11 ≤ t ∧ t ≤ 14 ∧ Gv d c N (m + 1) H Q
theorem five {a b : V} {d e s : Addr} {m : V} (h : a = b) : [V.ref d, .ref e, .ref s, a, m] = [V.ref d, .ref e, .ref s, b, m] := by rw [h]
theorem five2 {a b x y : V} {d e s : Addr} (h : a = b) (g : x = y) : [V.ref d, .ref e, .ref s, a, x] = [V.ref d, .ref e, .ref s, b, y] := by rw [h, g]
theorem rdAnd {t u : TT} {σ : L2.St} {H : Hp} {Qf : Bool → Hp → Prop} {b c : Bool} (ht : ∀ Q' : Bool → Hp → Prop, Q' b H → t σ H Q') (hu : ∀ Q' : Bool → Hp → Prop, Q' c H → u σ H Q') (h : Qf (b && c) H) : tAnd t u σ H Qf := by
  refine ht _ ?_
  cases b with
  | true => exact iteT (hu _ h)
  | false => exact iteF h
theorem andInt {x y a b : Int} (h : (decide (V.int x = V.int a) && decide (V.int y = V.int b)) = true) : x = a ∧ y = b := by
  have := Bool.and_eq_true_iff.mp h
  exact ⟨V.int.inj (of_decide_eq_true this.1), V.int.inj (of_decide_eq_true this.2)⟩
theorem andIntN {x y a b : Int} (h : ¬ (decide (V.int x = V.int a) && decide (V.int y = V.int b)) = true) : ¬ (x = a ∧ y = b) := fun q => h (by rw [q.1, q.2]; simp)
section
variable {P : Program} {w : World} {K : PySem.W.Frag} {mg : Str → Option Value} {base : Heap} {f : Addr} {fd : FuncData}
theorem step_other {N : Str → Prop} {n : Nat} (F : Fun K "_law_other_expr" "_law_other_expr" s_law_other_expr f fd) (T : Txt mg) (D_law_draw : Dn P w K mg base "_law_draw" ["_law_d", "_law_many"] 1 spDraw) (D_law_pick : Dn P w K mg base "_law_pick" ["_law_d", "_law_row"] 2 spPickV)
    (D_law_expr : Dn P w K mg base "_law_expr" ["_law_d", "_law_env", "_law_stores", "_law_width", "_law_depth"] (2 * n + 3) (spExpr N n)) :
    FnOk P w K mg base CX0 (2 * n + 4) f fd ["_law_d", "_law_env", "_law_stores", "_law_width", "_law_less", "_law_turn"] (spOther N n) := by
  refine F.ok sc_law_other_expr (fun vs H Q E h => ?_) (fun cdv A outer s H vs Q E hr h => ?_)
  · obtain ⟨d, c, env, st, rs, ms, u, m, t, rfl, _⟩ := h
    rfl
  obtain ⟨d, c, env, st, rs, ms, u, m, t, rfl, g, u1, u8, hm, t1, t2, q⟩ := h
  refine ⟨_, (pss_cons (ps_set (i := 6) sc_law_other_expr.nd rfl (Or.inl rfl) (pe_op op_add pe_int (pe_dn D_law_draw (hr.mono (by omega)) (by rfl) (pa_cons (pv 0) (pa_cons pe_int pa_nil)))))
      (pss_cons (ps_if (PW.pt (pw_and (pt_cmpR op_eq (pv 3) pe_int (nomark _)) (pw_and1 (pt_cmpR op_eq (pv 5) pe_int (nomark _))))) (pss_one (ps_ret (pe_tup (pa_cons (pe_dn D_law_pick (hr.mono (by omega)) (by rfl) (pa_cons (pv 0) (pa_cons (pe_lst (pa_cons pe_str (pa_cons pe_str (pa_cons pe_str pa_nil)))) pa_nil))) (pa_cons (pe_dn D_law_expr (hr.mono (by omega)) (by rfl) (pa_cons (pv 0) (pa_cons (pv 1) (pa_cons (pv 2) (pa_cons (pv 6) (pa_cons (pv 4) pa_nil)))))) pa_nil))))) pss_nil)
      (pss_cons (ps_if (PW.pt (pw_and (pt_cmpR op_eq (pv 3) pe_int (nomark _)) (pw_and1 (pt_cmpR op_eq (pv 5) pe_int (nomark _))))) (pss_cons (ps_set (i := 7) sc_law_other_expr.nd rfl (Or.inl rfl) (pe_dn D_law_expr (hr.mono (by omega)) (by rfl) (pa_cons (pv 0) (pa_cons (pv 1) (pa_cons (pv 2) (pa_cons (pv 6) (pa_cons (pv 4) pa_nil)))))))
      (pss_one (ps_ret (pe_tup (pa_cons (pe_dn D_law_pick (hr.mono (by omega)) (by rfl) (pa_cons (pv 0) (pa_cons (pe_lst (pa_cons pe_str (pa_cons pe_str (pa_cons pe_str (pa_cons pe_str pa_nil))))) pa_nil))) (pa_cons (pv 7) (pa_cons (pe_dn D_law_expr (hr.mono (by omega)) (by rfl) (pa_cons (pv 0) (pa_cons (pv 1) (pa_cons (pv 2) (pa_cons (pv 6) (pa_cons (pv 4) pa_nil)))))) pa_nil))))))) pss_nil)
      (pss_cons (ps_setLc (i := 8) (own := [("_law_row", 11)]) (g := gName 11) rfl sc_law_other_expr.nd rfl rfl (sw_true rfl rfl rfl (by decide +kernel)) (pi_tup (pv 2)) (blkOk_by (N := ["_law_d", "_law_env", "_law_stores", "_law_width", "_law_less", "_law_turn", "_law_wide_here", "_law_one", "_law_cells", "_law_high", "_law_top", "_law_row"]) (sc := defScope s_law_other_expr) (by decide +kernel)) (fun _ _ _ _ _ => (pg_name (i := 11) sc_law_other_expr.nd rfl (Or.inl rfl))) (fun _ _ _ _ _ => (pts_one (pt_cmpR op_eq (pe_ix (ix_tup : IxR _ (rIxT K)) (pv 11) pe_int (fun _ _ => rfl)) (pv 3) (nomark _)))) (fun _ _ _ _ _ => (pe_ix (ix_tup : IxR _ (rIxT K)) (pv 11) pe_int (fun _ _ => rfl))))
      (pss_cons (ps_if (PW.pt (pw_and (pt_cmpR op_eq (pv 5) pe_int (nomark _)) (pw_and1 (pt_cmpR op_gt (pe_callB call_len_seq (by rfl) T.n_len (by decide +kernel) (pa_cons (pv 8) pa_nil)) pe_int (nomark _))))) (pss_one (ps_ret (pe_tup (pa_cons pe_str (pa_cons (pe_dn D_law_pick (hr.mono (by omega)) (by rfl) (pa_cons (pv 0) (pa_cons (pv 8) pa_nil))) (pa_cons (pe_dn D_law_expr (hr.mono (by omega)) (by rfl) (pa_cons (pv 0) (pa_cons (pv 1) (pa_cons (pv 2) (pa_cons (pe_op op_add pe_int (pe_dn D_law_draw (hr.mono (by omega)) (by rfl) (pa_cons (pv 0) (pa_cons pe_int pa_nil)))) (pa_cons (pv 4) pa_nil)))))) pa_nil)))))) pss_nil)
      (pss_cons (ps_if (pt_cmpR op_lt (pv 5) pe_int (nomark _)) (pss_cons (ps_set (i := 9) sc_law_other_expr.nd rfl (Or.inl rfl) (pe_op op_add pe_int (pe_dn D_law_draw (hr.mono (by omega)) (by rfl) (pa_cons (pv 0) (pa_cons (pe_op op_sub (pv 3) pe_int) pa_nil)))))
      (pss_one (ps_ret (pe_tup (pa_cons pe_str (pa_cons (pe_dn D_law_expr (hr.mono (by omega)) (by rfl) (pa_cons (pv 0) (pa_cons (pv 1) (pa_cons (pv 2) (pa_cons (pv 9) (pa_cons (pv 4) pa_nil)))))) (pa_cons (pe_dn D_law_expr (hr.mono (by omega)) (by rfl) (pa_cons (pv 0) (pa_cons (pv 1) (pa_cons (pv 2) (pa_cons (pe_op op_sub (pv 3) (pv 9)) (pa_cons (pv 4) pa_nil)))))) pa_nil))))))) pss_nil)
      (pss_cons (ps_if (pt_cmpR op_eq (pv 5) pe_int (nomark _)) (pss_cons (ps_set (i := 7) sc_law_other_expr.nd rfl (Or.inl rfl) (pe_dn D_law_expr (hr.mono (by omega)) (by rfl) (pa_cons (pv 0) (pa_cons (pv 1) (pa_cons (pv 2) (pa_cons (pv 6) (pa_cons (pv 4) pa_nil)))))))
      (pss_one (ps_ret (pe_ifExp (pt_cmpR op_le (pv 6) (pv 3) (nomark _)) (pe_tup (pa_cons pe_str (pa_cons (pv 7) (pa_cons (pv 3) pa_nil)))) (pe_tup (pa_cons pe_str (pa_cons (pv 7) (pa_cons (pv 3) pa_nil)))))))) pss_nil)
      (pss_cons (ps_set (i := 10) sc_law_other_expr.nd rfl (Or.inl rfl) (pe_callB (cr_minN rfl) (by rfl) T.n_min (by decide +kernel) (pa_cons pe_int (pa_cons (pe_op op_add (pv 3) (pe_dn D_law_draw (hr.mono (by omega)) (by rfl) (pa_cons (pv 0) (pa_cons pe_int pa_nil)))) pa_nil))))
      (pss_one (ps_ret (pe_tup (pa_cons pe_str (pa_cons (pe_dn D_law_expr (hr.mono (by omega)) (by rfl) (pa_cons (pv 0) (pa_cons (pv 1) (pa_cons (pv 2) (pa_cons (pe_callB (cr_minN rfl) (by rfl) T.n_min (by decide +kernel) (pa_cons pe_int (pa_cons (pe_op op_add (pv 10) pe_int) pa_nil))) (pa_cons (pv 4) pa_nil)))))) (pa_cons (pe_op op_sub (pv 10) pe_int) (pa_cons (pe_op op_sub (pv 10) (pv 3)) pa_nil))))))))))))))), ?_⟩
  refine ⟨_, rfl, d, c, 4, rfl, g.ds, by decide, by decide, fun r H1 r0 r1 hd1 k1 => ⟨_, _, rfl, rfl, ?_⟩⟩
  obtain ⟨x, rfl⟩ := Int.eq_ofNat_of_zero_le r0
  have g1 := g.keep k1 hd1
  have ex : V.int (1 + (x : Int)) = vI (1 + x) := congrArg V.int (by omega)
  try dsimp only [gName, tSeq, tIfS, tNext]
  refine rdAnd (b := decide (V.int (u : Int) = V.int 1)) (c := decide (V.int (t : Int) = V.int 11)) (fun Q' k => ?_) (fun Q' k => ?_) ?_
  · exact ⟨_, rfl, rfl, _, rfl, k⟩
  · exact ⟨_, rfl, rfl, _, rfl, k⟩
  refine ite2 (fun a1 => ?_) (fun a1 => ?_)
  · refine ⟨_, rfl, (by show 3 ≤ sizeLine; decide), fun l hl => ?_⟩
    have sl := same_new hl (.lst ((["any", "all", "odd"] : List Str).map V.str))
    refine ⟨d, c, l, _, rfl, hd1.same sl, .inl ⟨(hd1.new hl).1, upd_same⟩, by simp, by simp, fun y j H2 hy hd2 k2 => ?_⟩
    obtain ⟨z, hz, rfl⟩ := strIn (ls := ["any", "all", "odd"]) hy
    have hzs : z ∈ (["not", "neg", "any", "all", "odd"] : List Str) := by
      have g : ∀ z ∈ (["any", "all", "odd"] : List Str), z ∈ (["not", "neg", "any", "all", "odd"] : List Str) := by decide +kernel
      exact g z hz
    have g2 := (g1.keep (Keep.of_same sl) (hd1.same sl)).keep k2 hd2
    refine ⟨_, rfl, _, rfl, _, rfl, _, rfl, _, rfl, d, c, env, st, rs, ms, 1 + x, m, five ex, g2, by omega, by omega, hm, fun e v H3 hv hR hk hd3 k3 => ⟨(by show 2 ≤ sizeLine; decide), fun p hp => ?_⟩⟩
    have s2 := same_new hp (.tup [.str z, v])
    exact q (.op1 z e) _ _ ⟨p, v, rfl, upd_same, EV.keepT (KeepT.same s2) _ _ hv⟩ ⟨hzs, hR⟩ (by simp only [dep]; omega) (hd3.same s2) ((((k1.trans (Keep.of_same sl)).trans k2).trans k3).trans (Keep.of_same s2))
  have b1 := andIntN a1
  try dsimp only [gName, tSeq, tIfS, tNext]
  refine rdAnd (b := decide (V.int (u : Int) = V.int 1)) (c := decide (V.int (t : Int) = V.int 12)) (fun Q' k => ?_) (fun Q' k => ?_) ?_
  · exact ⟨_, rfl, rfl, _, rfl, k⟩
  · exact ⟨_, rfl, rfl, _, rfl, k⟩
  refine ite2 (fun a2 => ?_) (fun a2 => ?_)
  · refine ⟨_, rfl, _, rfl, _, rfl, _, rfl, _, rfl, d, c, env, st, rs, ms, 1 + x, m, five ex, g1, by omega, by omega, hm, fun e1 v1 H2 hv1 hR1 hk1 hd2 k2 => ?_⟩
    have g2 := g1.keep k2 hd2
    refine ⟨_, rfl, (by show 4 ≤ sizeLine; decide), fun l hl => ?_⟩
    have sl := same_new hl (.lst ((["==", "<", "!=", "<="] : List Str).map V.str))
    refine ⟨d, c, l, _, rfl, hd2.same sl, .inl ⟨(hd2.new hl).1, upd_same⟩, by simp, by simp, fun y j H3 hy hd3 k3 => ?_⟩
    obtain ⟨z, hz, rfl⟩ := strIn (ls := ["==", "<", "!=", "<="]) hy
    have hzs : z ∈ signs := by
      have g : ∀ z ∈ (["==", "<", "!=", "<="] : List Str), z ∈ signs := by decide +kernel
      exact g z hz
    have g3 := (g2.keep (Keep.of_same sl) (hd2.same sl)).keep k3 hd3
    refine ⟨_, rfl, _, rfl, _, rfl, _, rfl, _, rfl, _, rfl, d, c, env, st, rs, ms, 1 + x, m, five ex, g3, by omega, by omega, hm, fun e2 v2 H4 hv2 hR2 hk2 hd4 k4 => ⟨(by show 3 ≤ sizeLine; decide), fun p hp => ?_⟩⟩
    have s2 := same_new hp (.tup [.str z, v1, v2])
    have kT := keepT_of hd2 (((Keep.of_same sl).trans k3).trans k4)
    exact q (.op2 z e1 e2) _ _ ⟨p, v1, v2, rfl, upd_same, EV.keepT (KeepT.same s2) _ _ (EV.keepT kT _ _ hv1), EV.keepT (KeepT.same s2) _ _ hv2⟩ ⟨hzs, hR1, hR2⟩ (by simp only [dep]; omega) (hd4.same s2)
      (((k1.trans k2).trans (((Keep.of_same sl).trans k3).trans k4)).trans (Keep.of_same s2))
  have b2 := andIntN a2
  obtain ⟨ts, hts, hrows⟩ := g1.sv
  have lts := hrows.1
  have lm := g1.lm
  refine ⟨_, rfl, st, rfl, ⟨_, SqT.of hts⟩, fun D hD => lc_tup (K := K) (a := st) (xs := ts.map V.ref) (fun i H' => Same H1 H' ∧ ∃ zs : List Str, H' D = some (.lst (zs.map V.str)) ∧ (∀ z ∈ zs, N z) ∧ zs.length ≤ i)
    ⟨same_new hD _, [], upd_same, (fun z h => (by cases h)), Nat.le_refl _⟩ (fun i H' _ p => SqT.of (p.1 _ _ hts)) (fun i y H' hy p => ?_) (fun H2 p => ?_)⟩
  · obtain ⟨s1, zs, hz, hN, hl⟩ := p
    obtain ⟨tr, row, rest, rfl, hrow, etr⟩ := rowAt hrows hy
    have hi := (List.getElem?_eq_some_iff.mp hy).1
    rw [List.length_map] at hi
    refine ⟨rfl, _, rfl, tr, _, _, _, rfl, rfl, SqT.of (s1 _ _ etr), atI_nat (j := 1) rfl, _, rfl, rfl, _, rfl, ite2 (fun a3 => ?_) (fun a3 => ?_)⟩
    · refine ⟨_, rfl, tr, _, _, _, rfl, rfl, SqT.of (s1 _ _ etr), atI_nat (j := 0) rfl, _, hz, ?_, same_two s1 hD, zs ++ [row.1], ?_, ?_, ?_⟩
      · rw [List.length_map]
        exact small1000 (by omega)
      · rw [upd_same, List.map_append]
        rfl
      · intro z hz'
        rcases List.mem_append.mp hz' with h | h
        · exact hN z h
        · rw [List.mem_singleton.mp h]
          exact g1.n2 row (List.mem_of_getElem? hrow)
      · rw [List.length_append, List.length_singleton]
        omega
    · exact ⟨s1, zs, hz, hN, by omega⟩
  obtain ⟨s1, zs, hz, hN, hl⟩ := p
  rw [List.length_map] at hl
  have hd2 := hd1.same s1
  have g2 := g1.keep (Keep.of_same s1) hd2
  have k2 := k1.trans (Keep.of_same s1)
  have nDd := (hd1.new hD).1
  try dsimp only [gName, tSeq, tIfS, tNext]
  refine rdAnd (b := decide (V.int (t : Int) = V.int 11)) (c := decide ((0 : Int) < ((zs.map V.str).length : Nat))) (fun Q' k => ?_) (fun Q' k => ?_) ?_
  · exact ⟨_, rfl, rfl, _, rfl, k⟩
  · exact ⟨_, rfl, D, _, rfl, .inl (SqL.of hz), _, _, rfl, rfl, _, rfl, k⟩
  refine ite2 (fun a3 => ?_) (fun a3 => ?_)
  · have z1 := of_decide_eq_true (Bool.and_eq_true_iff.mp a3).2
    refine ⟨_, rfl, _, rfl, d, c, D, _, rfl, hd2, .inl ⟨nDd, hz⟩, by omega, by rw [List.length_map]; omega, fun y j H3 hy hd3 k3 => ?_⟩
    obtain ⟨z, hzm, rfl⟩ := strIn hy
    have g3 := g2.keep k3 hd3
    refine ⟨_, rfl, _, rfl, _, rfl, _, rfl, d, c, 3, rfl, hd3, by decide, by decide, fun r H4 q0 q1 hd4 k4 => ⟨_, _, rfl, rfl, ?_⟩⟩
    obtain ⟨x2, rfl⟩ := Int.eq_ofNat_of_zero_le q0
    have g4 := g3.keep k4 hd4
    refine ⟨_, rfl, d, c, env, st, rs, ms, 1 + x2, m, five (congrArg V.int (by omega)), g4, by omega, by omega, hm, fun e v H5 hv hR hk hd5 k5 => ⟨(by show 3 ≤ sizeLine; decide), fun p hp => ?_⟩⟩
    have s2 := same_new hp (.tup [.str "read", .str z, v])
    exact q (.read z e) _ _ ⟨p, v, rfl, upd_same, EV.keepT (KeepT.same s2) _ _ hv⟩ ⟨hN z hzm, hR⟩ (by simp only [dep]; omega) (hd5.same s2) ((((k2.trans k3).trans k4).trans k5).trans (Keep.of_same s2))
  refine ⟨_, rfl, _, _, rfl, rfl, _, rfl, ite2 (fun a4 => ?_) (fun a4 => ?_)⟩
  · have t13 := of_decide_eq_true a4
    have u2 : 2 ≤ u := by
      refine Nat.le_of_not_lt fun h => ?_
      have e1 : u = 1 := by omega
      have e2 : t = 11 ∨ t = 12 := by omega
      rcases e2 with e2 | e2
      · exact b1 ⟨by omega, by omega⟩
      · exact b2 ⟨by omega, by omega⟩
    refine ⟨_, rfl, _, rfl, _, _, rfl, rfl, d, c, _, rfl, hd2, by omega, by omega, fun r H3 q0 q1 hd3 k3 => ⟨_, _, rfl, rfl, ?_⟩⟩
    obtain ⟨x2, rfl⟩ := Int.eq_ofNat_of_zero_le q0
    have g3 := g2.keep k3 hd3
    have eh : V.int (1 + (x2 : Int)) = vI (1 + x2) := congrArg V.int (by omega)
    refine ⟨_, rfl, _, rfl, _, rfl, _, rfl, _, rfl, d, c, env, st, rs, ms, 1 + x2, m, five eh, g3, by omega, by omega, hm, fun e1 v1 H4 hv1 hR1 hk1 hd4 k4 => ?_⟩
    have g4 := g3.keep k4 hd4
    refine ⟨_, rfl, _, rfl, _, rfl, _, rfl, _, rfl, _, _, rfl, rfl, _, rfl, d, c, env, st, rs, ms, u - (1 + x2), m, five (congrArg V.int (by omega)), g4, by omega, by omega, hm, fun e2 v2 H5 hv2 hR2 hk2 hd5 k5 => ⟨(by show 3 ≤ sizeLine; decide), fun p hp => ?_⟩⟩
    have s2 := same_new hp (.tup [.str "join", v1, v2])
    have kT := keepT_of hd4 k5
    exact q (.op2 "join" e1 e2) _ _ ⟨p, v1, v2, rfl, upd_same, EV.keepT (KeepT.same s2) _ _ (EV.keepT kT _ _ hv1), EV.keepT (KeepT.same s2) _ _ hv2⟩ ⟨by decide +kernel, hR1, hR2⟩ (by simp only [dep]; omega) (hd5.same s2)
      ((((k2.trans k3).trans k4).trans k5).trans (Keep.of_same s2))
  refine ⟨_, rfl, rfl, _, rfl, ite2 (fun a5 => ?_) (fun a5 => ?_)⟩
  · refine ⟨_, rfl, _, rfl, _, rfl, _, rfl, _, rfl, d, c, env, st, rs, ms, 1 + x, m, five ex, g2, by omega, by omega, hm, fun e1 v1 H3 hv1 hR1 hk1 hd3 k3 => ?_⟩
    refine ⟨_, rfl, _, rfl, _, _, rfl, rfl, _, rfl, ite2 (fun a6 => ?_) (fun a6 => ?_)⟩
    · refine ⟨_, rfl, _, rfl, (by show 3 ≤ sizeLine; decide), fun p hp => ?_⟩
      have s2 := same_new hp (.tup [.str "sign", v1, vI u])
      exact q (.ext "sign" e1 u) _ _ ⟨p, v1, rfl, upd_same, EV.keepT (KeepT.same s2) _ _ hv1⟩ ⟨.inr rfl, hR1⟩ (by simp only [dep]; omega) (hd3.same s2) ((k2.trans k3).trans (Keep.of_same s2))
    · refine ⟨_, rfl, _, rfl, (by show 3 ≤ sizeLine; decide), fun p hp => ?_⟩
      have s2 := same_new hp (.tup [.str "wide", v1, vI u])
      exact q (.ext "wide" e1 u) _ _ ⟨p, v1, rfl, upd_same, EV.keepT (KeepT.same s2) _ _ hv1⟩ ⟨.inl rfl, hR1⟩ (by simp only [dep]; omega) (hd3.same s2) ((k2.trans k3).trans (Keep.of_same s2))
  refine ⟨_, rfl, _, rfl, d, c, 3, rfl, hd2, by decide, by decide, fun r H3 q0 q1 hd3 k3 => ⟨_, _, rfl, rfl, ?_⟩⟩
  obtain ⟨x2, rfl⟩ := Int.eq_ofNat_of_zero_le q0
  have g3 := g2.keep k3 hd3
  refine ⟨8, u + x2, congrArg (fun z : Int => [V.int 8, V.int z]) (by omega), ?_⟩
  refine ⟨_, rfl, _, rfl, _, rfl, _, rfl, _, _, rfl, rfl, 8, min 8 (u + x2) + 1, congrArg (fun z : Int => [V.int 8, V.int z]) (by omega), _, rfl, d, c, env, st, rs, ms, min 8 (min 8 (u + x2) + 1), m, rfl, g3, by omega, by omega, hm, fun e1 v1 H4 hv1 hR1 hk1 hd4 k4 => ?_⟩
  refine ⟨_, rfl, _, _, rfl, rfl, _, rfl, _, rfl, _, _, rfl, rfl, (by show 4 ≤ sizeLine; decide), fun p hp => ?_⟩
  have s2 := same_new hp (.tup [.str "bits", v1, .int (((min 8 (u + x2) : Nat) : Int) - 1), .int (((min 8 (u + x2) : Nat) : Int) - u)])
  exact q (.bits e1 _ _) _ _ ⟨p, v1, rfl, upd_same, EV.keepT (KeepT.same s2) _ _ hv1⟩ hR1 (by simp only [dep]; omega) (hd4.same s2) (((k2.trans k3).trans k4).trans (Keep.of_same s2))
theorem DS.four {H : Hp} {d c : Addr} (h : DS H d c) : ∃ l, H d = some (.lst l) ∧ atI l 4 = some (.int 3) := let ⟨_, _, _, _, e, _⟩ := h; ⟨_, e, atI_nat (j := 4) rfl⟩
theorem step_expr {N : Str → Prop} {n : Nat} (F : Fun K "_law_expr" "_law_expr" s_law_expr f fd) (T : Txt mg) (D_law_draw : Dn P w K mg base "_law_draw" ["_law_d", "_law_many"] 1 spDraw) (D_law_pick : Dn P w K mg base "_law_pick" ["_law_d", "_law_row"] 2 spPickV)
    (D_law_expr : Dn P w K mg base "_law_expr" ["_law_d", "_law_env", "_law_stores", "_law_width", "_law_depth"] (2 * n + 3) (spExpr N n)) (D_law_other_expr : Dn P w K mg base "_law_other_expr" ["_law_d", "_law_env", "_law_stores", "_law_width", "_law_less", "_law_turn"] (2 * n + 4) (spOther N n)) :
    FnOk P w K mg base CX0 (2 * n + 5) f fd ["_law_d", "_law_env", "_law_stores", "_law_width", "_law_depth"] (spExpr N (n + 1)) := by
  refine F.ok sc_law_expr (fun vs H Q E h => ?_) (fun cdv A outer s H vs Q E hr h => ?_)
  · obtain ⟨d, c, env, st, rs, ms, u, m, rfl, _⟩ := h
    rfl
  obtain ⟨d, c, env, st, rs, ms, u, m0, rfl, g, u1, u8, hm0, q⟩ := h
  refine ⟨_, (pss_cons (ps_set (i := 4) sc_law_expr.nd rfl (Or.inl rfl) (pe_callB (cr_minN rfl) (by rfl) T.n_min (by decide +kernel) (pa_cons (pv 4) (pa_cons (pe_ix ix_list (pv 0) pe_int (fun _ _ => rfl)) pa_nil))))
      (pss_cons (ps_setLc (i := 5) (own := [("_law_row", 10)]) (g := gName 10) rfl sc_law_expr.nd rfl rfl (sw_true rfl rfl rfl (by decide +kernel)) (pi_list (pv 1)) (blkOk_by (N := ["_law_d", "_law_env", "_law_stores", "_law_width", "_law_depth", "_law_rows", "_law_turn", "_law_less", "_law_one", "_law_op", "_law_row"]) (sc := defScope s_law_expr) (by decide +kernel)) (fun _ _ _ _ _ => (pg_name (i := 10) sc_law_expr.nd rfl (Or.inl rfl))) (fun _ _ _ _ _ => (pts_one (pt_cmpR op_eq (pe_ix (ix_tup : IxR _ (rIxT K)) (pv 10) pe_int (fun _ _ => rfl)) (pv 3) (nomark _)))) (fun _ _ _ _ _ => (pe_ix (ix_tup : IxR _ (rIxT K)) (pv 10) pe_int (fun _ _ => rfl))))
      (pss_cons (ps_set (i := 6) sc_law_expr.nd rfl (Or.inl rfl) (pe_dn D_law_draw (hr.mono (by omega)) (by rfl) (pa_cons (pv 0) (pa_cons pe_int pa_nil))))
      (C8.pss_cut (ps_if (PW.pt (pw_or (pt_cmpR op_eq (pv 4) pe_int (nomark _)) (pw_or1 (pt_cmpR op_lt (pv 6) pe_int (nomark _))))) (pss_cons (ps_if (PW.pt (pw_and (pt_cmpR op_gt (pe_callB call_len_seq (by rfl) T.n_len (by decide +kernel) (pa_cons (pv 5) pa_nil)) pe_int (nomark _)) (pw_and1 (pt_cmpR op_ne (pv 6) pe_int (nomark _))))) (pss_one (ps_ret (pe_tup (pa_cons pe_str (pa_cons (pe_dn D_law_pick (hr.mono (by omega)) (by rfl) (pa_cons (pv 0) (pa_cons (pv 5) pa_nil))) pa_nil))))) pss_nil)
      (pss_one (ps_ret (pe_tup (pa_cons pe_str (pa_cons (pe_dn D_law_draw (hr.mono (by omega)) (by rfl) (pa_cons (pv 0) (pa_cons (pe_op op_oneShl pe_int (pv 3)) pa_nil))) (pa_cons (pv 3) pa_nil))))))) pss_nil)
      (pss_cons (ps_set (i := 7) sc_law_expr.nd rfl (Or.inl rfl) (pe_op op_sub (pv 4) pe_int))
      (pss_cons (ps_set (i := 8) sc_law_expr.nd rfl (Or.inl rfl) (pe_ifExp (pt_cmpR op_lt (pv 6) pe_int (nomark _)) (pe_dn D_law_expr (hr.mono (by omega)) (by rfl) (pa_cons (pv 0) (pa_cons (pv 1) (pa_cons (pv 2) (pa_cons (pv 3) (pa_cons (pv 7) pa_nil)))))) pe_non))
      (pss_cons (ps_if (pt_cmpR op_lt (pv 6) pe_int (nomark _)) (pss_cons (ps_set (i := 9) sc_law_expr.nd rfl (Or.inl rfl) (pe_dn D_law_pick (hr.mono (by omega)) (by rfl) (pa_cons (pv 0) (pa_cons (pe_lst (pa_cons pe_str (pa_cons pe_str (pa_cons pe_str (pa_cons pe_str (pa_cons pe_str (pa_cons pe_str pa_nil))))))) pa_nil))))
      (pss_one (ps_ret (pe_tup (pa_cons (pv 9) (pa_cons (pv 8) (pa_cons (pe_dn D_law_expr (hr.mono (by omega)) (by rfl) (pa_cons (pv 0) (pa_cons (pv 1) (pa_cons (pv 2) (pa_cons (pv 3) (pa_cons (pv 7) pa_nil)))))) pa_nil))))))) pss_nil)
      (pss_cons (ps_if (pt_cmpR op_eq (pv 6) pe_int (nomark _)) (pss_one (ps_ret (pe_tup (pa_cons (pe_dn D_law_pick (hr.mono (by omega)) (by rfl) (pa_cons (pv 0) (pa_cons (pe_lst (pa_cons pe_str (pa_cons pe_str pa_nil))) pa_nil))) (pa_cons (pv 8) pa_nil))))) pss_nil)
      (pss_cons (ps_if (pt_cmpR op_eq (pv 6) pe_int (nomark _)) (pss_one (ps_ret (pe_tup (pa_cons pe_str (pa_cons (pe_dn D_law_expr (hr.mono (by omega)) (by rfl) (pa_cons (pv 0) (pa_cons (pv 1) (pa_cons (pv 2) (pa_cons pe_int (pa_cons (pv 7) pa_nil)))))) (pa_cons (pv 8) (pa_cons (pe_dn D_law_expr (hr.mono (by omega)) (by rfl) (pa_cons (pv 0) (pa_cons (pv 1) (pa_cons (pv 2) (pa_cons (pv 3) (pa_cons (pv 7) pa_nil)))))) pa_nil))))))) pss_nil)
      (pss_cons (ps_if (pt_cmpR op_eq (pv 6) pe_int (nomark _)) (pss_one (ps_ret (pe_tup (pa_cons (pe_dn D_law_pick (hr.mono (by omega)) (by rfl) (pa_cons (pv 0) (pa_cons (pe_lst (pa_cons pe_str (pa_cons pe_str pa_nil))) pa_nil))) (pa_cons (pv 8) (pa_cons (pe_dn D_law_expr (hr.mono (by omega)) (by rfl) (pa_cons (pv 0) (pa_cons (pv 1) (pa_cons (pv 2) (pa_cons (pe_op op_add pe_int (pe_dn D_law_draw (hr.mono (by omega)) (by rfl) (pa_cons (pv 0) (pa_cons pe_int pa_nil)))) (pa_cons (pv 7) pa_nil)))))) pa_nil)))))) pss_nil)
      (pss_one (ps_ret (pe_dn D_law_other_expr (hr.mono (by omega)) (by rfl) (pa_cons (pv 0) (pa_cons (pv 1) (pa_cons (pv 2) (pa_cons (pv 3) (pa_cons (pv 7) (pa_cons (pv 6) pa_nil))))))))))))))))))), ?_⟩
  obtain ⟨l4, hl4, h4⟩ := g.ds.four
  refine ⟨_, rfl, _, rfl, d, _, _, _, rfl, rfl, SqL.of hl4, h4, m0, 3, rfl, ?_⟩
  obtain ⟨m, em⟩ : ∃ m, m = min m0 3 := ⟨_, rfl⟩
  rw [← em]
  have hm : m < n + 1 := by omega
  have q' : Gv d c N m H Q := fun e v H' a1 a2 a3 a4 a5 => q e v H' a1 a2 (by omega) a4 a5
  obtain ⟨ts, hts, nd, hrows⟩ := g.ev
  have lts := hrows.1
  have l2 := g.l2
  refine ⟨_, rfl, env, rfl, ⟨_, SqL.of hts⟩, fun D hD => lc_list (K := K) (a := env) (xs := ts.map V.ref) (fun i H' => Same H H' ∧ ∃ zs : List Str, H' D = some (.lst (zs.map V.str)) ∧ (∀ z ∈ zs, N z) ∧ zs.length ≤ i)
    ⟨same_new hD _, [], upd_same, (fun z h => (by cases h)), Nat.le_refl _⟩ (fun i H' _ p => p.1.seq (SqL.of hts)) (fun i y H' hy p => ?_) (fun H2 p => ?_)⟩
  · obtain ⟨s1, zs, hz, hN, hl⟩ := p
    obtain ⟨tr, row, rest, rfl, hrow, etr⟩ := rowAt hrows hy
    have hi := (List.getElem?_eq_some_iff.mp hy).1
    rw [List.length_map] at hi
    refine ⟨rfl, _, rfl, tr, _, _, _, rfl, rfl, SqT.of (s1 _ _ etr), atI_nat (j := 1) rfl, _, rfl, rfl, _, rfl, ite2 (fun a3 => ?_) (fun a3 => ?_)⟩
    · refine ⟨_, rfl, tr, _, _, _, rfl, rfl, SqT.of (s1 _ _ etr), atI_nat (j := 0) rfl, _, hz, ?_, same_two s1 hD, zs ++ [row.1], ?_, ?_, ?_⟩
      · rw [List.length_map]
        exact small1000 (by omega)
      · rw [upd_same, List.map_append]
        rfl
      · intro z hz'
        rcases List.mem_append.mp hz' with h | h
        · exact hN z h
        · rw [List.mem_singleton.mp h]
          exact g.n1 row (List.mem_of_getElem? hrow)
      · rw [List.length_append, List.length_singleton]
        omega
    · exact ⟨s1, zs, hz, hN, by omega⟩
  obtain ⟨s1, zs, hz, hN, hl⟩ := p
  rw [List.length_map] at hl
  have hd2 := g.ds.same s1
  have nDd := (g.ds.new hD).1
  have g2 := g.keep (Keep.of_same s1) hd2
  refine ⟨_, rfl, d, c, 15, rfl, hd2, by decide, by decide, fun r H3 r0 r1 hd3 k3 => ?_⟩
  obtain ⟨t, rfl⟩ := Int.eq_ofNat_of_zero_le r0
  have g3 := g2.keep k3 hd3
  have kk := (Keep.of_same (S := [d]) s1).trans k3
  have hz3 := k3 _ _ (by simp [nDd]) hz
  have base0 : ∀ H4 : Hp, DS H4 d c → Keep [d] H H4 → ∀ (x : Int), 0 ≤ x → ∀ p, H4 p = none → Q (.ref p) (upd H4 p (.tup [.str "word", .int x, vI u])) := by
    intro H4 hd4 k4 x hx p hp
    obtain ⟨y, rfl⟩ := Int.eq_ofNat_of_zero_le hx
    have s2 := same_new hp (.tup [.str "word", .int (y : Int), vI u])
    exact q' (.word y u) _ _ ⟨p, rfl, upd_same⟩ trivial (Nat.zero_le _) (hd4.same s2) (k4.trans (Keep.of_same s2))
  have nameQ : ∀ (z : Str) (H4 : Hp), z ∈ zs → DS H4 d c → Keep [d] H H4 → ∀ p, H4 p = none → Q (.ref p) (upd H4 p (.tup [.str "name", .str z])) := by
    intro z H4 hzm hd4 k4 p hp
    have s2 := same_new hp (.tup [.str "name", .str z])
    exact q' (.name z) _ _ ⟨p, rfl, upd_same⟩ (hN z hzm) (Nat.zero_le _) (hd4.same s2) (k4.trans (Keep.of_same s2))
  have op2Q : ∀ (z : Str) (e1 e2 : Ex) (v1 v2 : V) (H4 : Hp), z ∈ signs → EV H4 e1 v1 → EV H4 e2 v2 → Right N e1 → Right N e2 → dep e1 < m → dep e2 < m → DS H4 d c → Keep [d] H H4 → ∀ p, H4 p = none → Q (.ref p) (upd H4 p (.tup [.str z, v1, v2])) := by
    intro z e1 e2 v1 v2 H4 hzs h1 h2 R1 R2 d1 d2 hd4 k4 p hp
    have s2 := same_new hp (.tup [.str z, v1, v2])
    exact q' (.op2 z e1 e2) _ _ ⟨p, v1, v2, rfl, upd_same, EV.keepT (KeepT.same s2) _ _ h1, EV.keepT (KeepT.same s2) _ _ h2⟩ ⟨hzs, R1, R2⟩ (by simp only [dep]; omega) (hd4.same s2) (k4.trans (Keep.of_same s2))
  have s64 : (1 : Int) ≤ 2 ^ u ∧ (2 : Int) ^ u < 1073741824 := pow9 (by omega)
  refine ⟨fun σ' H' => H' = H3 ∧ 1 ≤ m ∧ ∃ s7 s8 s9 s10 : Option V, σ' = [some (.ref d), some (.ref env), some (.ref st), some (vI u), some (vI m), some (.ref D), some (.int (t : Int)), s7, s8, s9, s10], ?_, ?_⟩
  · refine ⟨_, rfl, rfl, _, rfl, ite2 (fun c0 => iteT ?_) (fun c0 => ?_)⟩
    · refine ⟨_, rfl, D, _, rfl, .inl (SqL.of hz3), _, _, rfl, rfl, _, rfl, ite2 (fun a1 => ?_) (fun a1 => iteF ?_)⟩
      · have z1 := of_decide_eq_true a1
        refine ⟨_, rfl, rfl, _, rfl, ite2 (fun a2 => ?_) (fun a2 => ?_)⟩
        · refine ⟨_, rfl, _, rfl, d, c, D, _, rfl, hd3, .inl ⟨nDd, hz3⟩, by omega, by rw [List.length_map]; omega, fun y j H4 hy hd4 k4 => ⟨(by show 2 ≤ sizeLine; decide), fun p hp => ?_⟩⟩
          obtain ⟨z, hzm, rfl⟩ := strIn hy
          exact nameQ z H4 hzm hd4 (kk.trans k4) p hp
        · exact ⟨_, rfl, _, rfl, u, rfl, rfl, by omega, d, c, _, rfl, hd3, s64.1, s64.2, fun r H4 q0 q1 hd4 k4 => ⟨_, rfl, (by show 3 ≤ sizeLine; decide), fun p hp => base0 H4 hd4 (kk.trans k4) r q0 p hp⟩⟩
      · exact ⟨_, rfl, _, rfl, u, rfl, rfl, by omega, d, c, _, rfl, hd3, s64.1, s64.2, fun r H4 q0 q1 hd4 k4 => ⟨_, rfl, (by show 3 ≤ sizeLine; decide), fun p hp => base0 H4 hd4 (kk.trans k4) r q0 p hp⟩⟩
    have m1 : 1 ≤ m := by
      refine Nat.pos_of_ne_zero fun z => c0 (decide_eq_true ?_)
      rw [z]
      rfl
    refine ⟨_, rfl, _, _, rfl, rfl, _, rfl, ite2 (fun c1 => ?_) (fun c1 => ?_)⟩
    · refine ⟨_, rfl, D, _, rfl, .inl (SqL.of hz3), _, _, rfl, rfl, _, rfl, ite2 (fun a1 => ?_) (fun a1 => iteF ?_)⟩
      · have z1 := of_decide_eq_true a1
        refine ⟨_, rfl, rfl, _, rfl, ite2 (fun a2 => ?_) (fun a2 => ?_)⟩
        · refine ⟨_, rfl, _, rfl, d, c, D, _, rfl, hd3, .inl ⟨nDd, hz3⟩, by omega, by rw [List.length_map]; omega, fun y j H4 hy hd4 k4 => ⟨(by show 2 ≤ sizeLine; decide), fun p hp => ?_⟩⟩
          obtain ⟨z, hzm, rfl⟩ := strIn hy
          exact nameQ z H4 hzm hd4 (kk.trans k4) p hp
        · exact ⟨_, rfl, _, rfl, u, rfl, rfl, by omega, d, c, _, rfl, hd3, s64.1, s64.2, fun r H4 q0 q1 hd4 k4 => ⟨_, rfl, (by show 3 ≤ sizeLine; decide), fun p hp => base0 H4 hd4 (kk.trans k4) r q0 p hp⟩⟩
      · exact ⟨_, rfl, _, rfl, u, rfl, rfl, by omega, d, c, _, rfl, hd3, s64.1, s64.2, fun r H4 q0 q1 hd4 k4 => ⟨_, rfl, (by show 3 ≤ sizeLine; decide), fun p hp => base0 H4 hd4 (kk.trans k4) r q0 p hp⟩⟩
    exact ⟨rfl, m1, _, _, _, _, rfl⟩
  rintro σ' H' ⟨rfl, m1, s7, s8, s9, s10, rfl⟩
  have eless : V.int ((m : Int) - 1) = vI (m - 1) := congrArg V.int (by omega)
  refine ⟨_, rfl, _, _, rfl, rfl, ?_⟩
  refine ⟨_, rfl, _, _, rfl, rfl, _, rfl, ite2 (fun c2 => ?_) (fun c2 => ?_)⟩
  · have t11 := of_decide_eq_true c2
    refine ⟨_, rfl, _, rfl, _, rfl, _, rfl, _, rfl, d, c, env, st, rs, ms, u, m - 1, five2 rfl eless, g3, u1, u8, by omega, fun e1 v1 H4 hv1 hR1 hk1 hd4 k4 => ?_⟩
    have g4 := g3.keep k4 hd4
    have k04 := kk.trans k4
    refine ⟨_, rfl, _, _, rfl, rfl, _, rfl, ite2 (fun c3 => ?_) (fun c3 => ?_)⟩
    · refine ⟨_, rfl, (by show 6 ≤ sizeLine; decide), fun l hl => ?_⟩
      have sl := same_new hl (.lst ((["+", "-", "&", "*", "|", "^"] : List Str).map V.str))
      refine ⟨d, c, l, _, rfl, hd4.same sl, .inl ⟨(hd4.new hl).1, upd_same⟩, by simp, by simp, fun y j H5 hy hd5 k5 => ?_⟩
      obtain ⟨z, hz, rfl⟩ := strIn (ls := ["+", "-", "&", "*", "|", "^"]) hy
      have hzs : z ∈ signs := by
        have g : ∀ z ∈ (["+", "-", "&", "*", "|", "^"] : List Str), z ∈ signs := by decide +kernel
        exact g z hz
      have k45 := (Keep.of_same (S := [d]) sl).trans k5
      have g5 := g4.keep k45 hd5
      refine ⟨_, rfl, _, rfl, _, rfl, _, rfl, _, rfl, _, rfl, _, rfl, d, c, env, st, rs, ms, u, m - 1, five2 rfl eless, g5, u1, u8, by omega, fun e2 v2 H6 hv2 hR2 hk2 hd6 k6 => ⟨(by show 3 ≤ sizeLine; decide), fun p hp => ?_⟩⟩
      exact op2Q z e1 e2 v1 v2 H6 hzs (EV.keepT (keepT_of hd4 (k45.trans k6)) _ _ hv1) hv2 hR1 hR2 (by omega) (by omega) hd6 (k04.trans (k45.trans k6)) p hp
    refine ⟨_, rfl, rfl, _, rfl, ite2 (fun c4 => ?_) (fun c4 => ?_)⟩
    · refine ⟨_, rfl, (by show 2 ≤ sizeLine; decide), fun l hl => ?_⟩
      have sl := same_new hl (.lst ((["not", "neg"] : List Str).map V.str))
      refine ⟨d, c, l, _, rfl, hd4.same sl, .inl ⟨(hd4.new hl).1, upd_same⟩, by simp, by simp, fun y j H5 hy hd5 k5 => ?_⟩
      obtain ⟨z, hz, rfl⟩ := strIn (ls := ["not", "neg"]) hy
      have hzs : z ∈ (["not", "neg", "any", "all", "odd"] : List Str) := by
        have g : ∀ z ∈ (["not", "neg"] : List Str), z ∈ (["not", "neg", "any", "all", "odd"] : List Str) := by decide +kernel
        exact g z hz
      have k45 := (Keep.of_same (S := [d]) sl).trans k5
      refine ⟨_, rfl, (by show 2 ≤ sizeLine; decide), fun p hp => ?_⟩
      have s2 := same_new hp (.tup [.str z, v1])
      exact q' (.op1 z e1) _ _ ⟨p, v1, rfl, upd_same, EV.keepT (KeepT.same s2) _ _ (EV.keepT (keepT_of hd4 k45) _ _ hv1)⟩ ⟨hzs, hR1⟩ (by simp only [dep]; omega) (hd5.same s2) ((k04.trans k45).trans (Keep.of_same s2))
    refine ⟨_, rfl, rfl, _, rfl, ite2 (fun c5 => ?_) (fun c5 => ?_)⟩
    · refine ⟨_, rfl, _, rfl, _, rfl, _, rfl, d, c, env, st, rs, ms, 1, m - 1, five2 rfl eless, g4, by omega, by omega, by omega, fun e2 v2 H5 hv2 hR2 hk2 hd5 k5 => ?_⟩
      have g5 := g4.keep k5 hd5
      refine ⟨_, rfl, _, rfl, _, rfl, _, rfl, _, rfl, _, rfl, d, c, env, st, rs, ms, u, m - 1, five2 rfl eless, g5, u1, u8, by omega, fun e3 v3 H6 hv3 hR3 hk3 hd6 k6 => ⟨(by show 4 ≤ sizeLine; decide), fun p hp => ?_⟩⟩
      have s2 := same_new hp (.tup [.str "pick", v2, v1, v3])
      exact q' (.op3 e2 e1 e3) _ _ ⟨p, v2, v1, v3, rfl, upd_same, EV.keepT (KeepT.same s2) _ _ (EV.keepT (keepT_of hd5 k6) _ _ hv2), EV.keepT (KeepT.same s2) _ _ (EV.keepT (keepT_of hd4 (k5.trans k6)) _ _ hv1), EV.keepT (KeepT.same s2) _ _ hv3⟩ ⟨hR2, hR1, hR3⟩
        (by simp only [dep]; omega) (hd6.same s2) ((k04.trans (k5.trans k6)).trans (Keep.of_same s2))
    refine ⟨_, rfl, rfl, _, rfl, ite2 (fun c6 => ?_) (fun c6 => ?_)⟩
    · refine ⟨_, rfl, (by show 2 ≤ sizeLine; decide), fun l hl => ?_⟩
      have sl := same_new hl (.lst ((["<<", ">>"] : List Str).map V.str))
      refine ⟨d, c, l, _, rfl, hd4.same sl, .inl ⟨(hd4.new hl).1, upd_same⟩, by simp, by simp, fun y j H5 hy hd5 k5 => ?_⟩
      obtain ⟨z, hz, rfl⟩ := strIn (ls := ["<<", ">>"]) hy
      have hzs : z ∈ signs := by
        have g : ∀ z ∈ (["<<", ">>"] : List Str), z ∈ signs := by decide +kernel
        exact g z hz
      have k45 := (Keep.of_same (S := [d]) sl).trans k5
      have g5 := g4.keep k45 hd5
      refine ⟨_, rfl, _, rfl, _, rfl, _, rfl, _, rfl, d, c, 3, rfl, hd5, by decide, by decide, fun r H6 q0 q1 hd6 k6 => ⟨_, _, rfl, rfl, ?_⟩⟩
      obtain ⟨x2, rfl⟩ := Int.eq_ofNat_of_zero_le q0
      have g6 := g5.keep k6 hd6
      refine ⟨_, rfl, d, c, env, st, rs, ms, 1 + x2, m - 1, five2 (congrArg V.int (by omega)) eless, g6, by omega, by omega, by omega, fun e2 v2 H7 hv2 hR2 hk2 hd7 k7 => ⟨(by show 3 ≤ sizeLine; decide), fun p hp => ?_⟩⟩
      exact op2Q z e1 e2 v1 v2 H7 hzs (EV.keepT (keepT_of hd4 ((k45.trans k6).trans k7)) _ _ hv1) hv2 hR1 hR2 (by omega) (by omega) hd7 (k04.trans ((k45.trans k6).trans k7)) p hp
    · have n3 : ¬ (t : Int) < 8 := fun h => c3 (decide_eq_true h)
      have n4 : ¬ (t : Int) = 8 := fun h => c4 (decide_eq_true (congrArg V.int h))
      have n5 : ¬ (t : Int) = 9 := fun h => c5 (decide_eq_true (congrArg V.int h))
      have n6 : ¬ (t : Int) = 10 := fun h => c6 (decide_eq_true (congrArg V.int h))
      omega
  · have n2 : ¬ (t : Int) < 11 := fun h => c2 (decide_eq_true h)
    refine ⟨_, rfl, _, _, rfl, rfl, _, rfl, ifN (decide_eq_false (by omega)) ?_⟩
    refine ⟨_, rfl, rfl, _, rfl, ifN (decide_eq_false (fun h => by have := V.int.inj h; omega)) ?_⟩
    refine ⟨_, rfl, rfl, _, rfl, ifN (decide_eq_false (fun h => by have := V.int.inj h; omega)) ?_⟩
    refine ⟨_, rfl, rfl, _, rfl, ifN (decide_eq_false (fun h => by have := V.int.inj h; omega)) ?_⟩
    refine ⟨_, rfl, _, rfl, _, rfl, _, rfl, _, rfl, _, rfl, d, c, env, st, rs, ms, u, m - 1, t, congrArg (fun z => [V.ref d, .ref env, .ref st, vI u, z, vI t]) eless, g3, u1, u8, by omega, by omega, by omega, fun e v H4 hv hR hk hd4 k4 => q' e v H4 hv hR (by omega) hd4 (kk.trans k4)⟩
end
end Bf

set_option Elab.async false
set_option linter.all false
set_option maxRecDepth 100000
set_option maxHeartbeats 4000000
namespace Bf
open PySem PySem.Spec PyProof.Rows L2
/-! ### drawing: one part exchanged -/
theorem rdCatT {K : PySem.W.Frag} {H : Hp} {a b : Addr} {xs ys : List V} {Q : VK} (ha : H a = some (.tup xs)) (hb : H b = some (.tup ys)) (hl : xs.length + ys.length ≤ 1000)
    (k : ∀ (t : Addr) (H' : Hp), Same H H' → H' t = some (.tup (xs ++ ys)) → Q (.ref t) H') : rCatA K (.ref a) (.ref b) H Q := by
  refine ⟨a, b, xs, ys, rfl, rfl, SqT.of ha, SqT.of hb, le1000 hl, fun e => ?_, fun _ e => ?_, fun _ _ p hp => k p _ (same_new hp _) upd_same⟩
  · subst e
    exact k b H (Same.refl _) hb
  · subst e
    refine k a H (Same.refl _) ?_
    rw [List.append_nil]
    exact ha
def marksA : Ex → List (Option Ex)
  | .word _ _ => [none, none]
  | .name _ => [none]
  | e => marks e
theorem ev_marksA {H : Hp} {e : Ex} {v : V} (h : EV H e v) : ∃ (p : Addr) (ys : List V), v = .ref p ∧ H p = some (.tup (.str (lop e) :: ys)) ∧ MAt H (marksA e) ys ∧ ys.length ≤ 3 := by
  by_cases hw : ∃ x u, e = .word x u
  · obtain ⟨x, u, rfl⟩ := hw
    obtain ⟨p, e, hp⟩ := h
    exact ⟨p, _, e, hp, .scal (.inr ⟨_, rfl⟩) (.scal (.inr ⟨_, rfl⟩) .nil), by simp⟩
  by_cases hz : ∃ z, e = .name z
  · obtain ⟨z, rfl⟩ := hz
    obtain ⟨p, e, hp⟩ := h
    exact ⟨p, _, e, hp, .scal (.inl ⟨_, rfl⟩) .nil, by simp⟩
  obtain ⟨p, ys, a, b, c, d, f⟩ := ev_marks h (fun x u z => hw ⟨x, u, z⟩) (fun z y => hz ⟨z, y⟩)
  have : marksA e = marks e := by
    cases e with
    | word x u => exact absurd ⟨x, u, rfl⟩ hw
    | name z => exact absurd ⟨z, rfl⟩ hz
    | _ => rfl
  exact ⟨p, ys, a, b, by rw [this]; exact c, f⟩
theorem kidA {N : Str → Prop} {e a : Ex} (r : Right N e) (h : some a ∈ marksA e) : dep a < dep e ∧ Right N a := by
  cases e with
  | word x u => simp [marksA] at h
  | name z => simp [marksA] at h
  | read z b => exact ⟨kid_dep h, kid_right r h⟩
  | bits b k l => exact ⟨kid_dep h, kid_right r h⟩
  | ext o b u => exact ⟨kid_dep h, kid_right r h⟩
  | op1 o b => exact ⟨kid_dep h, kid_right r h⟩
  | op2 o b c => exact ⟨kid_dep h, kid_right r h⟩
  | op3 b c d => exact ⟨kid_dep h, kid_right r h⟩
theorem tup_inj {H : Hp} {p : Addr} {xs ys : List V} (h : H p = some (.tup xs)) (g : H p = some (.tup ys)) : xs = ys := by
  rw [h] at g
  exact HO.tup.inj (Option.some.inj g)
theorem ev_repl {N : Str → Prop} {H H' : Hp} {e a x : Ex} {y' : V} {i : Nat} {p0 p' : Addr} {ys : List V} (h : EV H e (.ref p0)) (hp : H p0 = some (.tup (.str (lop e) :: ys))) (hm : (marksA e)[i]? = some (some a)) (k : KeepT H H') (hy : EV H' x y')
    (hp' : H' p' = some (.tup (.str (lop e) :: ys.set i y'))) (hR : Right N e) (hx : Right N x) : ∃ e', EV H' e' (.ref p') ∧ Right N e' ∧ dep e' ≤ max (dep e) (dep x + 1) := by
  cases e with
  | word u w =>
    match i, hm with
    | 0, hm => simp [marksA] at hm
    | 1, hm => simp [marksA] at hm
    | i + 2, hm => simp [marksA] at hm
  | name z =>
    match i, hm with
    | 0, hm => simp [marksA] at hm
    | i + 1, hm => simp [marksA] at hm
  | read z b =>
    obtain ⟨p, y, e, h1, hb⟩ := h
    cases e
    have eys := (List.cons.inj (tup_inj hp h1)).2
    subst eys
    match i, hm with
    | 0, hm => simp [marksA, marks] at hm
    | 1, hm => exact ⟨.read z x, ⟨p', y', rfl, hp', hy⟩, ⟨hR.1, hx⟩, by simp only [dep]; omega⟩
    | i + 2, hm => simp [marksA, marks] at hm
  | bits b u l =>
    obtain ⟨p, y, e, h1, hb⟩ := h
    cases e
    have eys := (List.cons.inj (tup_inj hp h1)).2
    subst eys
    match i, hm with
    | 0, hm => exact ⟨.bits x u l, ⟨p', y', rfl, hp', hy⟩, hx, by simp only [dep]; omega⟩
    | 1, hm => simp [marksA, marks] at hm
    | 2, hm => simp [marksA, marks] at hm
    | i + 3, hm => simp [marksA, marks] at hm
  | ext o b u =>
    obtain ⟨p, y, e, h1, hb⟩ := h
    cases e
    have eys := (List.cons.inj (tup_inj hp h1)).2
    subst eys
    match i, hm with
    | 0, hm => exact ⟨.ext o x u, ⟨p', y', rfl, hp', hy⟩, ⟨hR.1, hx⟩, by simp only [dep]; omega⟩
    | 1, hm => simp [marksA, marks] at hm
    | i + 2, hm => simp [marksA, marks] at hm
  | op1 o b =>
    obtain ⟨p, y, e, h1, hb⟩ := h
    cases e
    have eys := (List.cons.inj (tup_inj hp h1)).2
    subst eys
    match i, hm with
    | 0, hm => exact ⟨.op1 o x, ⟨p', y', rfl, hp', hy⟩, ⟨hR.1, hx⟩, by simp only [dep]; omega⟩
    | i + 1, hm => simp [marksA, marks] at hm
  | op2 o b c =>
    obtain ⟨p, y, z, e, h1, hb, hc⟩ := h
    cases e
    have eys := (List.cons.inj (tup_inj hp h1)).2
    subst eys
    match i, hm with
    | 0, hm => exact ⟨.op2 o x c, ⟨p', y', z, rfl, hp', hy, EV.keepT k _ _ hc⟩, ⟨hR.1, hx, hR.2.2⟩, by simp only [dep]; omega⟩
    | 1, hm => exact ⟨.op2 o b x, ⟨p', y, y', rfl, hp', EV.keepT k _ _ hb, hy⟩, ⟨hR.1, hR.2.1, hx⟩, by simp only [dep]; omega⟩
    | i + 2, hm => simp [marksA, marks] at hm
  | op3 b c d =>
    obtain ⟨p, y, z, u, e, h1, hb, hc, hd⟩ := h
    cases e
    have eys := (List.cons.inj (tup_inj hp h1)).2
    subst eys
    match i, hm with
    | 0, hm => exact ⟨.op3 x c d, ⟨p', y', z, u, rfl, hp', hy, EV.keepT k _ _ hc, EV.keepT k _ _ hd⟩, ⟨hx, hR.2.1, hR.2.2⟩, by simp only [dep]; omega⟩
    | 1, hm => exact ⟨.op3 b x d, ⟨p', y, y', u, rfl, hp', EV.keepT k _ _ hb, hy, EV.keepT k _ _ hd⟩, ⟨hR.1, hx, hR.2.2⟩, by simp only [dep]; omega⟩
    | 2, hm => exact ⟨.op3 b c x, ⟨p', y, z, y', rfl, hp', EV.keepT k _ _ hb, EV.keepT k _ _ hc, hy⟩, ⟨hR.1, hR.2.1, hx⟩, by simp only [dep]; omega⟩
    | i + 3, hm => simp [marksA, marks] at hm
theorem i62' {n : Nat} (h : n ≤ 1000) : -(2 ^ 62) ≤ (n : Int) ∧ (n : Int) < 2 ^ 62 := by
  have a : (-(2 ^ 62) : Int) ≤ 0 := by decide
  have b : (1001 : Int) ≤ 2 ^ 62 := by decide
  exact ⟨Int.le_trans a (Int.natCast_nonneg _), Int.lt_of_lt_of_le (by omega) b⟩
def spExch (N : Str → Prop) (n : Nat) : Sp := fun vs H Q _ => ∃ (d c env st : Addr) (rs ms : List Row) (e : Ex) (v : V), vs = [.ref d, v, .ref env, .ref st] ∧ Gx N H d c env st rs ms ∧ EV H e v ∧ Right N e ∧ dep e < n ∧ Gv d c N (dep e + 3) H Q
section
variable {P : Program} {w : World} {K : PySem.W.Frag} {mg : Str → Option Value} {base : Heap} {f : Addr} {fd : FuncData}
theorem step_exch {N : Str → Prop} {n : Nat} (F : Fun K "_law_exchanged" "_law_exchanged" s_law_exchanged f fd) (T : Txt mg) (D_law_draw : Dn P w K mg base "_law_draw" ["_law_d", "_law_many"] 1 spDraw) (D_law_pick : Dn P w K mg base "_law_pick" ["_law_d", "_law_row"] 2 spPickV)
    (D_law_any : Dn P w K mg base "_law_any" ["_law_d", "_law_env", "_law_stores", "_law_depth"] 6 (spAny N 2)) (D_law_exchanged : Dn P w K mg base "_law_exchanged" ["_law_d", "_law_expr_here", "_law_env", "_law_stores"] (n + 7) (spExch N n)) :
    FnOk P w K mg base CX0 (n + 8) f fd ["_law_d", "_law_expr_here", "_law_env", "_law_stores"] (spExch N (n + 1)) := by
  refine F.ok sc_law_exchanged (fun vs H Q E h => ?_) (fun cdv A outer s H vs Q E hr h => ?_)
  · obtain ⟨d, c, env, st, rs, ms, e, v, rfl, _⟩ := h
    rfl
  obtain ⟨d, c, env, st, rs, ms, e, v, rfl, g, hv, hR, hn, q⟩ := h
  refine ⟨_, (pss_cons (ps_setLc (i := 4) (own := [("_law_k", 6)]) (g := gName 6) rfl sc_law_exchanged.nd rfl rfl (sw_true rfl rfl rfl (by decide +kernel)) (pi_range2 rfl T.n_range (pa_cons pe_int (pa_cons (pe_callB call_len_seq (by rfl) T.n_len (by decide +kernel) (pa_cons (pv 1) pa_nil)) pa_nil))) (blkOk_by (N := ["_law_d", "_law_expr_here", "_law_env", "_law_stores", "_law_places", "_law_at", "_law_k"]) (sc := defScope s_law_exchanged) (by decide +kernel)) (fun _ _ _ _ _ => (pg_name (i := 6) sc_law_exchanged.nd rfl (Or.inl rfl))) (fun _ _ _ _ _ => (pts_one (pt_val (pe_callB (call_isi : CallR _ _ (rIsi K)) (by rfl) T.n_isinstance (by decide +kernel) (pa_cons (pe_ix (ix_tup : IxR _ (rIxT K)) (pv 1) (pv 6) (fun _ _ => rfl)) (pa_cons (pe_bltn rfl T.n_tuple (by decide +kernel) (v := .ty "tuple") rfl) pa_nil)))))) (fun _ _ _ _ _ => (pv 6)))
      (pss_cons (ps_if (PW.pt (pw_or (pt_cmpR op_eq (pe_callB call_len_seq (by rfl) T.n_len (by decide +kernel) (pa_cons (pv 4) pa_nil)) pe_int (nomark _)) (pw_or1 (pt_cmpR op_eq (pe_dn D_law_draw (hr.mono (by omega)) (by rfl) (pa_cons (pv 0) (pa_cons pe_int pa_nil))) pe_int (nomark _))))) (pss_one (ps_ret (pe_dn D_law_any (hr.mono (by omega)) (by rfl) (pa_cons (pv 0) (pa_cons (pv 2) (pa_cons (pv 3) (pa_cons pe_int pa_nil))))))) pss_nil)
      (pss_cons (ps_set (i := 5) sc_law_exchanged.nd rfl (Or.inl rfl) (pe_dn D_law_pick (hr.mono (by omega)) (by rfl) (pa_cons (pv 0) (pa_cons (pv 4) pa_nil))))
      (pss_one (ps_ret (pe_op op_catA (pe_op op_catA (pe_slice sl_tupA (pv 1) po_none (po_some (pv 5))) (pe_tup (pa_cons (pe_dn D_law_exchanged (hr.mono (by omega)) (by rfl) (pa_cons (pv 0) (pa_cons (pe_ix ix_tup (pv 1) (pv 5) (fun _ _ => rfl)) (pa_cons (pv 2) (pa_cons (pv 3) pa_nil))))) pa_nil))) (pe_slice sl_tupA (pv 1) (po_some (pe_op op_add (pv 5) pe_int)) po_none))))))), ?_⟩
  obtain ⟨p0, ys, rfl, h0, hm, l3⟩ := ev_marksA hv
  have lm := hm.1
  refine ⟨_, rfl, p0, _, rfl, .inr (SqT.of h0), 1, (((.str (lop e) :: ys : List V).length : Nat) : Int), rfl, ⟨by decide, by decide, (i62' (by rw [List.length_cons]; omega)).1, (i62' (by rw [List.length_cons]; omega)).2⟩, fun D hD => ?_⟩
  refine lc_range (lo := 1) (n := ((((.str (lop e) :: ys : List V).length : Nat) : Int) - 1).toNat) (fun i H' => Same H H' ∧ ∃ ks : List Nat, H' D = some (.lst (ks.map fun k : Nat => V.int ((k : Nat) : Int))) ∧ (∀ k ∈ ks, ∃ j a, k = j + 1 ∧ (marksA e)[j]? = some (some a)) ∧ ks.length ≤ i)
    ⟨same_new hD _, [], upd_same, (fun z h => (by cases h)), Nat.le_refl _⟩ (fun i H' hi p => ?_) (fun H2 p => ?_)
  · obtain ⟨s1, ks, hz, hk, hl⟩ := p
    have hi' : i < ys.length := by
      rw [List.length_cons] at hi
      omega
    have hy : ys[i]? = some ys[i] := List.getElem?_eq_getElem hi'
    have hat : atI (.str (lop e) :: ys) (1 + (i : Int)) = some ys[i] := by
      have e1 : (1 + (i : Int)) = ((i + 1 : Nat) : Int) := by omega
      rw [e1]
      exact atI_nat (by rw [List.getElem?_cons_succ]; exact hy)
    rcases hm.2 i _ hy with ⟨e', hme, hev⟩ | ⟨hme, hsc⟩
    · have hevp := EV.keepT (KeepT.same s1) _ _ hev
      obtain ⟨pe, te, epe, hte, _⟩ := ev_marksA hevp
      rw [epe] at hat
      refine ⟨rfl, _, rfl, _, rfl, p0, _, _, _, rfl, rfl, SqT.of (s1 _ _ h0), hat, _, _, .type "tuple", .type "tuple", true, rfl, .ty "tuple", .base (.tup hte), kit_ty (by decide +kernel), true, rfl, iteT ?_⟩
      refine ⟨_, rfl, _, hz, ?_, same_two s1 hD, ks ++ [1 + i], ?_, ?_, ?_⟩
      · rw [List.length_map]
        exact small1000 (by omega)
      · rw [upd_same, List.map_append]
        exact congrArg (fun z : Int => some (HO.lst (_ ++ [V.int z]))) (by omega)
      · intro k hk'
        rcases List.mem_append.mp hk' with h | h
        · exact hk k h
        · rw [List.mem_singleton.mp h]
          exact ⟨i, e', by omega, hme⟩
      · rw [List.length_append, List.length_singleton]
        omega
    · rcases hsc with ⟨z, ez⟩ | ⟨z, ez⟩
      · rw [ez] at hat
        exact ⟨rfl, _, rfl, _, rfl, p0, _, _, _, rfl, rfl, SqT.of (s1 _ _ h0), hat, _, _, .type "str", .type "tuple", false, rfl, .ty "tuple", .base (.str _), kit_ty (by decide +kernel), false, rfl, iteF ⟨s1, ks, hz, hk, by omega⟩⟩
      · rw [ez] at hat
        exact ⟨rfl, _, rfl, _, rfl, p0, _, _, _, rfl, rfl, SqT.of (s1 _ _ h0), hat, _, _, .type "int", .type "tuple", false, rfl, .ty "tuple", .base (.int _), kit_ty (by decide +kernel), false, rfl, iteF ⟨s1, ks, hz, hk, by omega⟩⟩
  obtain ⟨s1, ks, hz, hk, hl⟩ := p
  have hl3 : ks.length ≤ 3 := by
    rw [List.length_cons] at hl
    omega
  have hd2 := g.ds.same s1
  have nDd := (g.ds.new hD).1
  have ks1 := Keep.of_same (S := [d]) s1
  have g2 := g.keep ks1 hd2
  refine ⟨_, rfl, D, _, rfl, .inl (SqL.of hz), rfl, _, rfl, ite2 (fun a1 => iteT ?_) (fun a1 => ?_)⟩
  · exact ⟨_, rfl, _, rfl, _, rfl, d, c, env, st, rs, ms, 1, rfl, g2, by omega, fun e1 v1 H4 hv1 hR1 hk1 hd4 k4 => q e1 v1 H4 hv1 hR1 (by omega) hd4 (ks1.trans k4)⟩
  refine ⟨_, rfl, d, c, 3, rfl, hd2, by decide, by decide, fun r H3 r0 r1 hd3 k3 => ?_⟩
  have g3 := g2.keep k3 hd3
  have kk := ks1.trans k3
  refine ⟨rfl, _, rfl, ite2 (fun a2 => ?_) (fun a2 => ?_)⟩
  · exact ⟨_, rfl, _, rfl, _, rfl, d, c, env, st, rs, ms, 1, rfl, g3, by omega, fun e1 v1 H4 hv1 hR1 hk1 hd4 k4 => q e1 v1 H4 hv1 hR1 (by omega) hd4 (kk.trans k4)⟩
  have hz3 := k3 _ _ (by simp [nDd]) hz
  have hne : 1 ≤ ks.length := by
    refine Nat.pos_of_ne_zero fun z => a1 (decide_eq_true ?_)
    rw [List.length_map, z]
    rfl
  refine ⟨_, rfl, _, rfl, d, c, D, _, rfl, hd3, .inl ⟨nDd, hz3⟩, by rw [List.length_map]; exact hne, by rw [List.length_map]; omega, fun y j H4 hy hd4 k4 => ?_⟩
  obtain ⟨k, hkm, rfl⟩ : ∃ k : Nat, k ∈ ks ∧ y = V.int ((k : Nat) : Int) := by
    rw [List.getElem?_map] at hy
    cases hj : ks[j]? with
    | none => rw [hj] at hy; cases hy
    | some k => rw [hj] at hy; exact ⟨k, List.mem_of_getElem? hj, (Option.some.inj hy).symm⟩
  obtain ⟨i, a, rfl, hma⟩ := hk k hkm
  have hil : i < ys.length := by
    have := (List.getElem?_eq_some_iff.mp hma).1
    omega
  have g4 := g3.keep k4 hd4
  have k04 := kk.trans k4
  have kT4 := keepT_of g.ds k04
  have h04 := kT4 _ _ h0
  have hy : ys[i]? = some ys[i] := List.getElem?_eq_getElem hil
  have hat : atI (.str (lop e) :: ys) ((i + 1 : Nat) : Int) = some ys[i] := atI_nat (by rw [List.getElem?_cons_succ]; exact hy)
  obtain ⟨hda, hRa⟩ := kidA hR (List.mem_of_getElem? hma)
  have hev : EV H a ys[i] := by
    rcases hm.2 i _ hy with ⟨e', hme, hev⟩ | ⟨hme, _⟩
    · rw [hma] at hme
      cases hme
      exact hev
    · rw [hma] at hme
      cases hme
  have len1 : (V.str (lop e) :: ys).length = ys.length + 1 := List.length_cons
  refine ⟨_, rfl, _, rfl, _, rfl, p0, _, rfl, SqT.of h04, fun hw => ?_, fun hw t1 ht1 => ?_⟩
  · exact absurd hw.2 (by rw [HT.sIx_nat, len1]; omega)
  have c1 : cutV (V.str (lop e) :: ys) none (some ((i + 1 : Nat) : Int)) = (V.str (lop e) :: ys).take (i + 1) := by
    unfold cutV
    rw [HT.sIx_nat, HT.sIx_none, len1, Nat.min_eq_left (by omega), List.drop_zero, Nat.sub_zero]
  rw [c1]
  have st1 := same_new ht1 (.tup ((V.str (lop e) :: ys).take (i + 1)))
  have g5 := g4.keep (Keep.of_same st1) (hd4.same st1)
  refine ⟨_, rfl, _, rfl, _, rfl, p0, _, _, _, rfl, rfl, SqT.of (st1 _ _ h04), hat, _, rfl, _, rfl, d, c, env, st, rs, ms, a, _, rfl, g5, EV.keepT (KeepT.same st1) _ _ (EV.keepT kT4 _ _ hev), hRa, by omega, fun e' v' H5 hv' hR' hk' hd5 k5 => ⟨(by show 1 ≤ sizeLine; decide), fun t2 ht2 => ?_⟩⟩
  have st2 := same_new ht2 (.tup [v'])
  have kT5 := keepT_of (hd4.same st1) k5
  refine rdCatT (st2 _ _ (kT5 _ _ upd_same)) upd_same (by rw [List.length_take, List.length_singleton, len1]; omega) fun t3 H6 s6 h3 => ?_
  have k06 := ((k04.trans (Keep.of_same st1)).trans k5).trans (Keep.of_same (st2.trans s6))
  have h06 := keepT_of g.ds k06 _ _ h0
  refine ⟨_, rfl, _, rfl, _, _, rfl, rfl, ((i + 1 + 1 : Nat) : Int), congrArg V.int (by omega), p0, _, rfl, SqT.of h06, fun hw => ?_, fun hw t4 ht4 => ?_⟩
  · exact absurd hw.1 (by rw [HT.sIx_nat, len1]; omega)
  have c2 : cutV (V.str (lop e) :: ys) (some ((i + 1 + 1 : Nat) : Int)) none = (V.str (lop e) :: ys).drop (i + 1 + 1) := by
    unfold cutV
    rw [HT.sIx_nat, HT.sIx_none, len1, Nat.min_eq_left (by omega), List.take_of_length_le (by rw [List.length_drop, len1]; omega)]
  rw [c2]
  have st4 := same_new ht4 (.tup ((V.str (lop e) :: ys).drop (i + 1 + 1)))
  refine rdCatT (st4 _ _ h3) upd_same (by rw [List.length_append, List.length_take, List.length_singleton, List.length_drop, len1]; omega) fun t5 H7 s7 h7 => ?_
  have eall : (V.str (lop e) :: ys).take (i + 1) ++ [v'] ++ (V.str (lop e) :: ys).drop (i + 1 + 1) = V.str (lop e) :: ys.set i v' := by
    rw [List.take_succ_cons, List.drop_succ_cons, List.set_eq_take_append_cons_drop, if_pos hil, List.cons_append, List.cons_append, List.append_assoc]
    rfl
  rw [eall] at h7
  have k07 := k06.trans (Keep.of_same (st4.trans s7))
  obtain ⟨e3, x1, x2, x3⟩ := ev_repl hv h0 hma (keepT_of g.ds k07) (EV.keepT (KeepT.same ((st2.trans s6).trans (st4.trans s7))) _ _ hv') h7 hR hR'
  exact q e3 _ _ x1 x2 (by omega) (hd5.same ((st2.trans s6).trans (st4.trans s7))) k07
end
end Bf

set_option Elab.async false
set_option linter.all false
set_option maxRecDepth 100000
set_option maxHeartbeats 4000000
namespace Bf
open PySem PySem.Spec PyProof.Rows L2
/-! ### drawing: by fuel; drawn -/
def spDrawn (N : Str → Prop) : Sp := fun vs H Q _ => ∃ (d c env st : Addr) (rs ms : List Row), vs = [.ref d, .ref env, .ref st] ∧ Gx N H d c env st rs ms ∧ Gv d c N 50 H Q
section
variable {P : Program} {w : World} {K : PySem.W.Frag} {mg : Str → Option Value} {base : Heap} {f : Addr} {fd : FuncData}
theorem ok_any {N : Str → Prop} (F : Fun K "_law_any" "_law_any" s_law_any f fd) (D_law_draw : Dn P w K mg base "_law_draw" ["_law_d", "_law_many"] 1 spDraw) (D_law_pick : Dn P w K mg base "_law_pick" ["_law_d", "_law_row"] 2 spPickV)
    (D_law_const_of : Dn P w K mg base "_law_const_of" ["_law_d", "_law_wide_here"] 2 (spConst N)) (D_law_sign : Dn P w K mg base "_law_sign" ["_law_d"] 3 spSign) (D_law_near : Dn P w K mg base "_law_near" ["_law_d", "_law_stores"] 4 (spNear N))
    (D_overAll : ∀ k : Nat, Dn P w K mg base "_law_over_one" ["_law_d", "_law_stores", "_law_one"] 3 (spOver N k)) (hm : mg "_law_any" = some (.ref f)) (kp : PySem.W.keepIn K (.ref f) = true) (hb : Binds K fd ["_law_d", "_law_env", "_law_stores", "_law_depth"] []) :
    ∀ n : Nat, FnOk P w K mg base CX0 (n + 4) f fd ["_law_d", "_law_env", "_law_stores", "_law_depth"] (spAny N n)
  | 0 => by
    refine F.ok sc_law_any (fun vs H Q E h => ?_) (fun cdv A outer s H vs Q E hr h => ?_)
    · obtain ⟨_, _, _, _, _, _, _, rfl, _⟩ := h
      rfl
    · obtain ⟨_, _, _, _, _, _, _, _, _, hn, _⟩ := h
      exact absurd hn (Nat.not_lt_zero _)
  | n + 1 => step_any F D_law_draw D_law_pick D_law_const_of D_law_sign D_law_near D_overAll ⟨f, fd, ok_any F D_law_draw D_law_pick D_law_const_of D_law_sign D_law_near D_overAll hm kp hb n, hm, kp, hb⟩
theorem ok_exch {N : Str → Prop} (F : Fun K "_law_exchanged" "_law_exchanged" s_law_exchanged f fd) (T : Txt mg) (D_law_draw : Dn P w K mg base "_law_draw" ["_law_d", "_law_many"] 1 spDraw) (D_law_pick : Dn P w K mg base "_law_pick" ["_law_d", "_law_row"] 2 spPickV)
    (D_law_any : Dn P w K mg base "_law_any" ["_law_d", "_law_env", "_law_stores", "_law_depth"] 6 (spAny N 2)) (hm : mg "_law_exchanged" = some (.ref f)) (kp : PySem.W.keepIn K (.ref f) = true) (hb : Binds K fd ["_law_d", "_law_expr_here", "_law_env", "_law_stores"] []) :
    ∀ n : Nat, FnOk P w K mg base CX0 (n + 7) f fd ["_law_d", "_law_expr_here", "_law_env", "_law_stores"] (spExch N n)
  | 0 => by
    refine F.ok sc_law_exchanged (fun vs H Q E h => ?_) (fun cdv A outer s H vs Q E hr h => ?_)
    · obtain ⟨_, _, _, _, _, _, _, _, rfl, _⟩ := h
      rfl
    · obtain ⟨_, _, _, _, _, _, _, _, _, _, _, _, hn, _⟩ := h
      exact absurd hn (Nat.not_lt_zero _)
  | n + 1 => step_exch F T D_law_draw D_law_pick D_law_any ⟨f, fd, ok_exch F T D_law_draw D_law_pick D_law_any hm kp hb n, hm, kp, hb⟩
theorem ok_expr {N : Str → Prop} {fO : Addr} {fdO : FuncData} (F : Fun K "_law_expr" "_law_expr" s_law_expr f fd) (FO : Fun K "_law_other_expr" "_law_other_expr" s_law_other_expr fO fdO) (T : Txt mg) (D_law_draw : Dn P w K mg base "_law_draw" ["_law_d", "_law_many"] 1 spDraw) (D_law_pick : Dn P w K mg base "_law_pick" ["_law_d", "_law_row"] 2 spPickV)
    (hm : mg "_law_expr" = some (.ref f)) (kp : PySem.W.keepIn K (.ref f) = true) (hb : Binds K fd ["_law_d", "_law_env", "_law_stores", "_law_width", "_law_depth"] [])
    (hmO : mg "_law_other_expr" = some (.ref fO)) (kpO : PySem.W.keepIn K (.ref fO) = true) (hbO : Binds K fdO ["_law_d", "_law_env", "_law_stores", "_law_width", "_law_less", "_law_turn"] []) :
    ∀ n : Nat, FnOk P w K mg base CX0 (2 * n + 3) f fd ["_law_d", "_law_env", "_law_stores", "_law_width", "_law_depth"] (spExpr N n)
  | 0 => by
    refine F.ok sc_law_expr (fun vs H Q E h => ?_) (fun cdv A outer s H vs Q E hr h => ?_)
    · obtain ⟨_, _, _, _, _, _, _, _, rfl, _⟩ := h
      rfl
    · obtain ⟨_, _, _, _, _, _, _, _, _, _, _, _, hn, _⟩ := h
      exact absurd hn (Nat.not_lt_zero _)
  | n + 1 => by
    have ih := ok_expr (N := N) F FO T D_law_draw D_law_pick hm kp hb hmO kpO hbO n
    have r := step_expr (N := N) (n := n) F T D_law_draw D_law_pick ⟨f, fd, ih, hm, kp, hb⟩ ⟨fO, fdO, step_other FO T D_law_draw D_law_pick ⟨f, fd, ih, hm, kp, hb⟩, hmO, kpO, hbO⟩
    have e : 2 * (n + 1) + 3 = 2 * n + 5 := by omega
    rw [e]
    exact r
theorem ok_drawn {N : Str → Prop} (F : Fun K "_law_drawn" "_law_drawn" s_law_drawn f fd) (T : Txt mg) (D_law_draw : Dn P w K mg base "_law_draw" ["_law_d", "_law_many"] 1 spDraw) (D_law_pick : Dn P w K mg base "_law_pick" ["_law_d", "_law_row"] 2 spPickV)
    (D_law_rare : Dn P w K mg base "_law_rare" ["_law_d", "_law_many"] 2 spRare) (D_law_near : Dn P w K mg base "_law_near" ["_law_d", "_law_stores"] 4 (spNear N)) (D_law_any : Dn P w K mg base "_law_any" ["_law_d", "_law_env", "_law_stores", "_law_depth"] 8 (spAny N 4))
    (D_law_expr : Dn P w K mg base "_law_expr" ["_law_d", "_law_env", "_law_stores", "_law_width", "_law_depth"] 11 (spExpr N 4)) (D_law_exchanged : Dn P w K mg base "_law_exchanged" ["_law_d", "_law_expr_here", "_law_env", "_law_stores"] 11 (spExch N 4)) :
    FnOk P w K mg base CX0 12 f fd ["_law_d", "_law_env", "_law_stores"] (spDrawn N) := by
  refine F.ok sc_law_drawn (fun vs H Q E h => ?_) (fun cdv A outer s H vs Q E hr h => ?_)
  · obtain ⟨d, c, env, st, rs, ms, rfl, _⟩ := h
    rfl
  obtain ⟨d, c, env, st, rs, ms, rfl, g, q⟩ := h
  refine ⟨_, (pss_cons (ps_set (i := 3) sc_law_drawn.nd rfl (Or.inl rfl) (pe_dn D_law_draw (hr.mono (by omega)) (by rfl) (pa_cons (pv 0) (pa_cons pe_int pa_nil))))
      (pss_cons (ps_if (pt_cmpR op_lt (pv 3) pe_int (nomark _)) (pss_cons (ps_set (i := 4) sc_law_drawn.nd rfl (Or.inl rfl) (pe_dn D_law_expr (hr.mono (by omega)) (by rfl) (pa_cons (pv 0) (pa_cons (pv 1) (pa_cons (pv 2) (pa_cons (pe_op op_add pe_int (pe_dn D_law_draw (hr.mono (by omega)) (by rfl) (pa_cons (pv 0) (pa_cons pe_int pa_nil)))) (pa_cons pe_int pa_nil)))))))
      (pss_one (ps_ret (pe_ifExp (pt_cmpR op_eq (pv 3) pe_int (nomark _)) (pv 4) (pe_dn D_law_exchanged (hr.mono (by omega)) (by rfl) (pa_cons (pv 0) (pa_cons (pv 4) (pa_cons (pv 1) (pa_cons (pv 2) pa_nil))))))))) pss_nil)
      (C8.pss_cut (ps_set (i := 4) sc_law_drawn.nd rfl (Or.inl rfl) (pe_ifExp (pt_cmpR op_eq (pv 3) pe_int (nomark _)) (pe_dn D_law_near (hr.mono (by omega)) (by rfl) (pa_cons (pv 0) (pa_cons (pv 2) pa_nil))) (pe_dn D_law_any (hr.mono (by omega)) (by rfl) (pa_cons (pv 0) (pa_cons (pv 1) (pa_cons (pv 2) (pa_cons pe_int pa_nil)))))))
      (pss_cons (ps_if (pt_val (pe_dn D_law_rare (hr.mono (by omega)) (by rfl) (pa_cons (pv 0) (pa_cons pe_int pa_nil)))) (pss_one (ps_for PassesOwn.never rfl (pi_range1 rfl T.n_range (pa_cons (pe_dn D_law_draw (hr.mono (by omega)) (by rfl) (pa_cons (pv 0) (pa_cons pe_int pa_nil))) pa_nil)) (pg_name (i := 5) sc_law_drawn.nd rfl (Or.inl rfl)) (pss_one (ps_if (pt_cmpR op_eq (pe_dn D_law_draw (hr.mono (by omega)) (by rfl) (pa_cons (pv 0) (pa_cons pe_int pa_nil))) pe_int (nomark _)) (pss_one (ps_set (i := 4) sc_law_drawn.nd rfl (Or.inl rfl) (pe_tup (pa_cons pe_str (pa_cons (pv 4) (pa_cons (pe_op op_add pe_int (pe_dn D_law_draw (hr.mono (by omega)) (by rfl) (pa_cons (pv 0) (pa_cons pe_int pa_nil)))) pa_nil)))))) (pss_one (ps_set (i := 4) sc_law_drawn.nd rfl (Or.inl rfl) (pe_tup (pa_cons (pe_dn D_law_pick (hr.mono (by omega)) (by rfl) (pa_cons (pv 0) (pa_cons (pe_lst (pa_cons pe_str (pa_cons pe_str pa_nil))) pa_nil))) (pa_cons (pv 4) pa_nil))))))))) pss_nil)
      (pss_one (ps_ret (pv 4))))))), ?_⟩
  refine ⟨_, rfl, d, c, 5, rfl, g.ds, by decide, by decide, fun r H1 r0 r1 hd1 k1 => ?_⟩
  have g1 := g.keep k1 hd1
  refine ⟨_, rfl, _, _, rfl, rfl, _, rfl, ite2 (fun c1 => ?_) (fun c1 => ?_)⟩
  · refine ⟨_, rfl, _, rfl, _, rfl, _, rfl, d, c, 8, rfl, hd1, by decide, by decide, fun r' H2 q0 q1 hd2 k2 => ⟨_, _, rfl, rfl, ?_⟩⟩
    obtain ⟨x, rfl⟩ := Int.eq_ofNat_of_zero_le q0
    have g2 := g1.keep k2 hd2
    refine ⟨d, c, env, st, rs, ms, 1 + x, 3, five2 (congrArg V.int (by omega)) rfl, g2, by omega, by omega, by omega, fun e1 v1 H3 hv1 hR1 hk1 hd3 k3 => ?_⟩
    have g3 := g2.keep k3 hd3
    have kk := (k1.trans k2).trans k3
    refine ⟨_, rfl, rfl, _, rfl, ite2 (fun c2 => ?_) (fun c2 => ?_)⟩
    · exact ⟨_, rfl, q e1 v1 _ hv1 hR1 (by omega) hd3 kk⟩
    · exact ⟨_, rfl, _, rfl, _, rfl, _, rfl, d, c, env, st, rs, ms, e1, v1, rfl, g3, hv1, hR1, by omega, fun e2 v2 H4 hv2 hR2 hk2 hd4 k4 => q e2 v2 H4 hv2 hR2 (by omega) hd4 (kk.trans k4)⟩
  refine ⟨fun σ' H' => ∃ (e : Ex) (v : V) (s5 : Option V), σ' = [some (.ref d), some (.ref env), some (.ref st), some (.int r), some v, s5] ∧ EV H' e v ∧ Right N e ∧ dep e ≤ 6 ∧ DS H' d c ∧ Keep [d] H H', ?_, ?_⟩
  · refine ⟨_, rfl, rfl, _, rfl, ite2 (fun c2 => ?_) (fun c2 => ?_)⟩
    · exact ⟨_, rfl, _, rfl, d, c, st, ms, rfl, g1.ds, g1.sv, g1.lm, g1.n2, fun e v H2 hv hR hk hd2 k2 => ⟨e, v, _, rfl, hv, hR, by omega, hd2, k1.trans k2⟩⟩
    · exact ⟨_, rfl, _, rfl, _, rfl, d, c, env, st, rs, ms, 3, rfl, g1, by omega, fun e v H2 hv hR hk hd2 k2 => ⟨e, v, _, rfl, hv, hR, by omega, hd2, k1.trans k2⟩⟩
  rintro σ' H' ⟨e, v, s5, rfl, hv, hR, hk, hd', k'⟩
  refine ⟨_, rfl, d, c, 7, rfl, hd', by decide, by decide, fun b H2 hd2 k2 => ⟨b, rfl, ?_⟩⟩
  have hv2 := EV.keepT (keepT_of hd' k2) _ _ hv
  cases b with
  | false => exact iteF ⟨_, rfl, q e v _ hv2 hR (by omega) hd2 (k'.trans k2)⟩
  | true =>
    refine iteT ?_
    refine ⟨_, rfl, d, c, 40, rfl, hd2, by decide, by decide, fun r' H3 q0 q1 hd3 k3 => ?_⟩
    obtain ⟨x, rfl⟩ := Int.eq_ofNat_of_zero_le q0
    refine ⟨(x : Int), rfl, (i62' (by omega)).1, (i62' (by omega)).2, for_it walk_range (fun i σ' H' => ∃ (e : Ex) (v : V) (s5 : Option V), σ' = [some (.ref d), some (.ref env), some (.ref st), some (.int r), some v, s5] ∧ EV H' e v ∧ Right N e ∧ dep e ≤ 6 + i ∧ DS H' d c ∧ Keep [d] H H')
      ⟨e, v, s5, rfl, EV.keepT (keepT_of hd2 k3) _ _ hv2, hR, by omega, hd3, (k'.trans k2).trans k3⟩ (fun _ _ _ _ _ => trivial) (fun i y σ' H4 H5 hi pv hy => ?_) (fun σ' H4 pv => ?_)⟩
    · obtain ⟨e, v, s5, rfl, hv, hR, hk, hd4, k4⟩ := pv
      obtain ⟨rfl, rfl⟩ := hy
      refine ⟨_, rfl, d, c, 3, rfl, hd4, by decide, by decide, fun r2 H6 z0 z1 hd6 k6 => ?_⟩
      have hv6 := EV.keepT (keepT_of hd4 k6) _ _ hv
      refine ⟨rfl, _, rfl, ite2 (fun c3 => ?_) (fun c3 => ?_)⟩
      · refine ⟨_, rfl, _, rfl, d, c, 8, rfl, hd6, by decide, by decide, fun r3 H7 y0 y1 hd7 k7 => ⟨_, _, rfl, rfl, (by show 3 ≤ sizeLine; decide), fun p hp => ?_⟩⟩
        have s2 := same_new hp (.tup [.str "wide", v, .int (1 + r3)])
        exact ⟨.ext "wide" e _, .ref p, _, rfl, ⟨p, v, rfl, upd_same, EV.keepT (KeepT.same s2) _ _ (EV.keepT (keepT_of hd6 k7) _ _ hv6)⟩, ⟨.inl rfl, hR⟩, by simp only [dep]; omega, hd7.same s2, ((k4.trans k6).trans k7).trans (Keep.of_same s2)⟩
      · refine ⟨_, rfl, (by show 2 ≤ sizeLine; decide), fun l hl => ?_⟩
        have sl := same_new hl (.lst ((["not", "neg"] : List Str).map V.str))
        refine ⟨d, c, l, _, rfl, hd6.same sl, .inl ⟨(hd6.new hl).1, upd_same⟩, by simp, by simp, fun y j H7 hy hd7 k7 => ?_⟩
        obtain ⟨z, hz, rfl⟩ := strIn (ls := ["not", "neg"]) hy
        have hzs : z ∈ (["not", "neg", "any", "all", "odd"] : List Str) := by
          have g : ∀ z ∈ (["not", "neg"] : List Str), z ∈ (["not", "neg", "any", "all", "odd"] : List Str) := by decide +kernel
          exact g z hz
        have k67 := (Keep.of_same (S := [d]) sl).trans k7
        refine ⟨_, rfl, (by show 2 ≤ sizeLine; decide), fun p hp => ?_⟩
        have s2 := same_new hp (.tup [.str z, v])
        exact ⟨.op1 z e, .ref p, _, rfl, ⟨p, v, rfl, upd_same, EV.keepT (KeepT.same s2) _ _ (EV.keepT (keepT_of hd6 k67) _ _ hv6)⟩, ⟨hzs, hR⟩, by simp only [dep]; omega, hd7.same s2, ((k4.trans k6).trans k67).trans (Keep.of_same s2)⟩
    · obtain ⟨e, v, s5, rfl, hv, hR, hk, hd4, k4⟩ := pv
      exact ⟨_, rfl, q e v _ hv hR (by omega) hd4 k4⟩
end
end Bf

set_option Elab.async false
set_option linter.all false
set_option maxRecDepth 100000
set_option maxHeartbeats 4000000
namespace Bf
open PySem PySem.Spec PyProof.Rows L2
/-! ### drawing: the flat designs -/
abbrev Kn := Int × Str
def Kinds (H : Hp) (kl : Addr) (ks : List Kn) : Prop := ∃ ts : List Addr, H kl = some (.lst (ts.map V.ref)) ∧ ts.length = ks.length ∧ ∀ (i : Nat) (t : Addr) (k : Kn), ts[i]? = some t → ks[i]? = some k → H t = some (.tup [.int k.1, .str k.2])
def nm (ks : List Kn) (k : Int) : List Str := (ks.filter fun x => decide (x.1 = k)).map Prod.snd
theorem nm_snoc (ks : List Kn) (x : Kn) (k : Int) : nm (ks ++ [x]) k = nm ks k ++ if x.1 = k then [x.2] else [] := by
  unfold nm
  rw [List.filter_append, List.map_append]
  congr 1
  by_cases h : x.1 = k
  · simp [h]
  · simp [h]
/-- the kinds with their drawn widths -/
def ToldAt (H : Hp) (tl : Addr) (ks : List Kn) (us : List Nat) : Prop := us.length = ks.length ∧ (∀ u ∈ us, 1 ≤ u ∧ u ≤ 8) ∧ ∃ ts : List Addr, H tl = some (.lst (ts.map V.ref)) ∧ ts.length = ks.length ∧
  ∀ (i : Nat) (t : Addr) (k : Kn) (u : Nat), ts[i]? = some t → ks[i]? = some k → us[i]? = some u → H t = some (.tup [.int k.1, .str k.2, vI u])
/-- the rows of a kind -/
def OfKind (ks : List Kn) (k : Int) (rs : List Row) : Prop := rs.map Prod.fst = nm ks k ∧ ∀ r ∈ rs, 1 ≤ r.2 ∧ r.2 ≤ 8
theorem OfKind.len {ks : List Kn} {k : Int} {rs : List Row} (h : OfKind ks k rs) : rs.length ≤ ks.length := by
  have := congrArg List.length h.1
  rw [List.length_map] at this
  rw [this]
  unfold nm
  rw [List.length_map]
  exact List.length_filter_le _ _
theorem keep_upd0 {S : List Addr} {H0 H' : Hp} {a : Addr} {o : HO} (k : Keep S H0 H') (h : H0 a = none) : Keep S H0 (upd H' a o) := fun b u n e => by
  rw [upd_ne (ne_of_none e h)]
  exact k b u n e
def RInv (ex : Bool) (H0 : Hp) (d c D0 : Addr) (ks : List Kn) (k : Int) (i : Nat) (H' : Hp) : Prop := Keep [d] H0 H' ∧ DS H' d c ∧ ∃ (bs : List Addr) (rows : List Row), H' D0 = some (.lst (bs.map V.ref)) ∧ RowsAt H' bs rows ∧ rows.map Prod.fst = nm (ks.take i) k ∧ (∀ r ∈ rows, 1 ≤ r.2 ∧ r.2 ≤ 8) ∧ bs.length ≤ i ∧ (ex = true → ∀ t ∈ bs, ∃ (z : Str) (u : Nat), u ≤ 8 ∧ H' t = some (.tup [.str z, vI u]))
theorem RowsAt.snoc {H : Hp} {ts : List Addr} {rs : List Row} {t : Addr} {r : Row} {rest : List V} (h : RowsAt H ts rs) (e : H t = some (.tup (.str r.1 :: .int r.2 :: rest))) : RowsAt H (ts ++ [t]) (rs ++ [r]) :=
  h.app ⟨rfl, fun i u s a b => by
    cases i with
    | zero => cases a; cases b; exact ⟨rest, e⟩
    | succ i => simp at a⟩
theorem RInv.step {H0 H' H3 : Hp} {d c D0 p : Addr} {ks : List Kn} {k : Int} {i : Nat} {z : Str} {u : Nat} {rest : List V} {ex : Bool} (h : RInv ex H0 d c D0 ks k i H') (nd : D0 ≠ d) (nc : D0 ≠ c) (f0 : H0 D0 = none) (hk : ks[i]? = some (k, z)) (k3 : Keep [d] H' H3) (hd3 : DS H3 d c) (hp : H3 p = none) (hu : (1 : Int) ≤ (u : Int) ∧ (u : Int) ≤ 8) (hi : i ≤ 100) (hx : ex = true → rest = []) :
    ∃ acc, upd H3 p (.tup (.str z :: .int (u : Int) :: rest)) D0 = some (.lst acc) ∧ acc.length < sizeLine ∧ RInv ex H0 d c D0 ks k (i + 1) (upd (upd H3 p (.tup (.str z :: .int (u : Int) :: rest))) D0 (.lst (acc ++ [.ref p]))) := by
  obtain ⟨kp, hd', bs, rows, hD, hr, hn, hw, hl, he⟩ := h
  have hD3 := k3 _ _ (by simp [nd]) hD
  have s1 := same_new hp (.tup (.str z :: .int (u : Int) :: rest))
  have hD4 := s1 _ _ hD3
  refine ⟨_, hD4, ?_, keep_upd0 ((kp.trans k3).trans (Keep.of_same s1)) f0, (hd3.same s1).keep (S := [D0]) (Keep.upd (by simp)) (by simp [nd.symm]) (by simp [nc.symm]), bs ++ [p], rows ++ [(z, (u : Int))], ?_, ?_, ?_, ?_, ?_, ?_⟩
  · rw [List.length_map]
    exact small1000 (by omega)
  · rw [upd_same, List.map_append]
    rfl
  · have r1 := ((hr.keepT (keepT_of hd' k3)).same s1).snoc (t := p) (r := (z, (u : Int))) (rest := rest) upd_same
    refine ⟨r1.1, fun j t r a b => ?_⟩
    obtain ⟨y, e⟩ := r1.2 j t r a b
    refine ⟨y, ?_⟩
    rw [upd_ne (fun q => by rw [q, hD4] at e; cases e)]
    exact e
  · rw [List.map_append, hn, take_snoc hk, nm_snoc, if_pos rfl]
    rfl
  · intro r hr'
    rcases List.mem_append.mp hr' with h | h
    · exact hw r h
    · rw [List.mem_singleton.mp h]
      exact hu
  · rw [List.length_append, List.length_singleton]
    omega
  · intro hex t ht
    rcases List.mem_append.mp ht with h | h
    · obtain ⟨z', u', h8, e⟩ := he hex t h
      refine ⟨z', u', h8, ?_⟩
      have e2 := s1 _ _ (keepT_of hd' k3 _ _ e)
      rw [upd_ne (fun q => by rw [q, hD4] at e2; cases e2)]
      exact e2
    · rw [List.mem_singleton.mp h]
      refine ⟨z, u, by omega, ?_⟩
      rw [upd_ne (ne_of_none hD3 hp).symm, upd_same, hx hex]
      rfl
theorem RInv.skip {H0 H' : Hp} {d c D0 : Addr} {ks : List Kn} {k : Int} {i : Nat} {x : Kn} {ex : Bool} (h : RInv ex H0 d c D0 ks k i H') (hk : ks[i]? = some x) (n : ¬ x.1 = k) : RInv ex H0 d c D0 ks k (i + 1) H' := by
  obtain ⟨kp, hd', bs, rows, hD, hr, hn, hw, hl, he⟩ := h
  exact ⟨kp, hd', bs, rows, hD, hr, by rw [hn, take_snoc hk, nm_snoc, if_neg n, List.append_nil], hw, by omega, he⟩
theorem RInv.start {H0 : Hp} {d c D0 : Addr} {ks : List Kn} {k : Int} {ex : Bool} (hd : DS H0 d c) (f0 : H0 D0 = none) : RInv ex H0 d c D0 ks k 0 (upd H0 D0 (.lst [])) :=
  ⟨Keep.new f0, hd.same (same_new f0 _), [], [], upd_same, ⟨rfl, fun i t r a => by simp at a⟩, rfl, (fun r h => (by cases h)), Nat.le_refl _, fun _ t ht => (by cases ht)⟩
theorem ToldAt.keep {H H' : Hp} {d c tl : Addr} {ks : List Kn} {us : List Nat} (h : ToldAt H tl ks us) (hd : DS H d c) (n : tl ≠ d) (k : Keep [d] H H') : ToldAt H' tl ks us :=
  ⟨h.1, h.2.1, let ⟨ts, a, b, r⟩ := h.2.2; ⟨ts, k _ _ (by simp [n]) a, b, fun i t x u p q s => keepT_of hd k _ _ (r i t x u p q s)⟩⟩
def spWorld : Sp := fun vs H Q _ => ∃ (d c kl : Addr) (ks : List Kn) (m : Nat), vs = [.ref d, .ref kl, vI m] ∧ DS H d c ∧ kl ≠ d ∧ Kinds H kl ks ∧ ks.length ≤ 100 ∧ 1 ≤ m ∧ m ≤ 8 ∧
  ∀ (p : Addr) (ins ws rs ms : List Row) (H' : Hp), Flt H' p ins ws rs ms → OfKind ks 0 ins → OfKind ks 1 ws → OfKind ks 2 rs → OfKind ks 3 ms → DS H' d c → Keep [d] H H' → Q (.ref p) H'
section
variable {P : Program} {w : World} {K : PySem.W.Frag} {mg : Str → Option Value} {base : Heap} {f : Addr} {fd : FuncData}
theorem ok_world {N : Str → Prop} (F : Fun K "_law_world" "_law_world" s_law_world f fd) (T : Txt mg) (D_law_draw : Dn P w K mg base "_law_draw" ["_law_d", "_law_many"] 1 spDraw) (D_law_const_of : Dn P w K mg base "_law_const_of" ["_law_d", "_law_wide_here"] 2 (spConst N)) :
    FnOk P w K mg base CX0 3 f fd ["_law_d", "_law_kinds", "_law_most"] spWorld := by
  refine F.ok sc_law_world (fun vs H Q E h => ?_) (fun cdv A outer s H vs Q E hr h => ?_)
  · obtain ⟨d, c, kl, ks, m, rfl, _⟩ := h
    rfl
  obtain ⟨d, c, kl, ks, m, rfl, hd, nkd, ⟨ts, hts, lts, hrow⟩, lk, m1, m8, q⟩ := h
  refine ⟨_, (pss_cons (ps_setLc (i := 3) (own := [("_law_kind", 9), ("_law_name", 10)]) (g := gTup K 2 (gCons (gName 9) (gCons (gName 10) gNil))) (tt := tYes) rfl sc_law_world.nd rfl rfl (sw_true rfl rfl rfl (by decide +kernel)) (pi_list (pv 1)) (blkOk_by (N := ["_law_d", "_law_kinds", "_law_most", "_law_told", "_law_inputs", "_law_wires", "_law_regs", "_law_mems", "_law_body", "_law_kind", "_law_name", "_law_wide_here"]) (sc := defScope s_law_world) (by decide +kernel)) (fun _ _ _ _ _ => (pg_tup rfl (pgs_cons (pg_name (i := 9) sc_law_world.nd rfl (Or.inl rfl)) (pgs_cons (pg_name (i := 10) sc_law_world.nd rfl (Or.inl rfl)) pgs_nil)))) (fun _ _ _ _ _ => pts_nil) (fun _ _ _ _ _ => (pe_tup (pa_cons (pv 9) (pa_cons (pv 10) (pa_cons (pe_op op_add pe_int (pe_dn D_law_draw (hr.mono (by omega)) (by rfl) (pa_cons (pv 0) (pa_cons (pv 2) pa_nil)))) pa_nil))))))
      (pss_cons (ps_set (i := 4) sc_law_world.nd rfl (Or.inl rfl) (pe_callTy call_tuple_of (by rfl) T.n_tuple (by decide +kernel) (pa_cons (pe_lc (own := [("_law_kind", 9), ("_law_name", 10), ("_law_wide_here", 11)]) (g := gTup K 3 (gCons (gName 9) (gCons (gName 10) (gCons (gName 11) gNil)))) rfl sc_law_world.nd (pi_list (pv 3)) (blkOk_by (N := ["_law_d", "_law_kinds", "_law_most", "_law_told", "_law_inputs", "_law_wires", "_law_regs", "_law_mems", "_law_body", "_law_kind", "_law_name", "_law_wide_here"]) (sc := defScope s_law_world) (by decide +kernel)) (fun _ _ _ _ _ => (pg_tup rfl (pgs_cons (pg_name (i := 9) sc_law_world.nd rfl (Or.inl rfl)) (pgs_cons (pg_name (i := 10) sc_law_world.nd rfl (Or.inl rfl)) (pgs_cons (pg_name (i := 11) sc_law_world.nd rfl (Or.inl rfl)) pgs_nil))))) (fun _ _ _ _ _ => (pts_one (pt_cmpR op_eq (pv 9) pe_int (nomark _)))) (fun _ _ _ _ _ => (pe_tup (pa_cons (pv 10) (pa_cons (pv 11) pa_nil))))) pa_nil)))
      (pss_cons (ps_set (i := 5) sc_law_world.nd rfl (Or.inl rfl) (pe_callTy call_tuple_of (by rfl) T.n_tuple (by decide +kernel) (pa_cons (pe_lc (own := [("_law_kind", 9), ("_law_name", 10), ("_law_wide_here", 11)]) (g := gTup K 3 (gCons (gName 9) (gCons (gName 10) (gCons (gName 11) gNil)))) rfl sc_law_world.nd (pi_list (pv 3)) (blkOk_by (N := ["_law_d", "_law_kinds", "_law_most", "_law_told", "_law_inputs", "_law_wires", "_law_regs", "_law_mems", "_law_body", "_law_kind", "_law_name", "_law_wide_here"]) (sc := defScope s_law_world) (by decide +kernel)) (fun _ _ _ _ _ => (pg_tup rfl (pgs_cons (pg_name (i := 9) sc_law_world.nd rfl (Or.inl rfl)) (pgs_cons (pg_name (i := 10) sc_law_world.nd rfl (Or.inl rfl)) (pgs_cons (pg_name (i := 11) sc_law_world.nd rfl (Or.inl rfl)) pgs_nil))))) (fun _ _ _ _ _ => (pts_one (pt_cmpR op_eq (pv 9) pe_int (nomark _)))) (fun _ _ _ _ _ => (pe_tup (pa_cons (pv 10) (pa_cons (pv 11) pa_nil))))) pa_nil)))
      (pss_cons (ps_set (i := 6) sc_law_world.nd rfl (Or.inl rfl) (pe_callTy call_tuple_of (by rfl) T.n_tuple (by decide +kernel) (pa_cons (pe_lc (own := [("_law_kind", 9), ("_law_name", 10), ("_law_wide_here", 11)]) (g := gTup K 3 (gCons (gName 9) (gCons (gName 10) (gCons (gName 11) gNil)))) rfl sc_law_world.nd (pi_list (pv 3)) (blkOk_by (N := ["_law_d", "_law_kinds", "_law_most", "_law_told", "_law_inputs", "_law_wires", "_law_regs", "_law_mems", "_law_body", "_law_kind", "_law_name", "_law_wide_here"]) (sc := defScope s_law_world) (by decide +kernel)) (fun _ _ _ _ _ => (pg_tup rfl (pgs_cons (pg_name (i := 9) sc_law_world.nd rfl (Or.inl rfl)) (pgs_cons (pg_name (i := 10) sc_law_world.nd rfl (Or.inl rfl)) (pgs_cons (pg_name (i := 11) sc_law_world.nd rfl (Or.inl rfl)) pgs_nil))))) (fun _ _ _ _ _ => (pts_one (pt_cmpR op_eq (pv 9) pe_int (nomark _)))) (fun _ _ _ _ _ => (pe_tup (pa_cons (pv 10) (pa_cons (pv 11) (pa_cons (pe_dn D_law_draw (hr.mono (by omega)) (by rfl) (pa_cons (pv 0) (pa_cons (pe_op op_oneShl pe_int (pv 11)) pa_nil))) (pa_cons pe_non (pa_cons pe_non pa_nil)))))))) pa_nil)))
      (pss_cons (ps_set (i := 7) sc_law_world.nd rfl (Or.inl rfl) (pe_callTy call_tuple_of (by rfl) T.n_tuple (by decide +kernel) (pa_cons (pe_lc (own := [("_law_kind", 9), ("_law_name", 10), ("_law_wide_here", 11)]) (g := gTup K 3 (gCons (gName 9) (gCons (gName 10) (gCons (gName 11) gNil)))) rfl sc_law_world.nd (pi_list (pv 3)) (blkOk_by (N := ["_law_d", "_law_kinds", "_law_most", "_law_told", "_law_inputs", "_law_wires", "_law_regs", "_law_mems", "_law_body", "_law_kind", "_law_name", "_law_wide_here"]) (sc := defScope s_law_world) (by decide +kernel)) (fun _ _ _ _ _ => (pg_tup rfl (pgs_cons (pg_name (i := 9) sc_law_world.nd rfl (Or.inl rfl)) (pgs_cons (pg_name (i := 10) sc_law_world.nd rfl (Or.inl rfl)) (pgs_cons (pg_name (i := 11) sc_law_world.nd rfl (Or.inl rfl)) pgs_nil))))) (fun _ _ _ _ _ => (pts_one (pt_cmpR op_eq (pv 9) pe_int (nomark _)))) (fun _ _ _ _ _ => (pe_tup (pa_cons (pv 10) (pa_cons (pv 11) (pa_cons (pe_op op_add pe_int (pe_dn D_law_draw (hr.mono (by omega)) (by rfl) (pa_cons (pv 0) (pa_cons pe_int pa_nil)))) pa_nil)))))) pa_nil)))
      (pss_cons (ps_set (i := 8) sc_law_world.nd rfl (Or.inl rfl) (pe_callTy call_tuple_of (by rfl) T.n_tuple (by decide +kernel) (pa_cons (pe_lc (own := [("_law_name", 10), ("_law_wide_here", 11)]) (g := gTup K 2 (gCons (gName 10) (gCons (gName 11) gNil))) (tt := tYes) rfl sc_law_world.nd (pi_tup (pv 5)) (blkOk_by (N := ["_law_d", "_law_kinds", "_law_most", "_law_told", "_law_inputs", "_law_wires", "_law_regs", "_law_mems", "_law_body", "_law_kind", "_law_name", "_law_wide_here"]) (sc := defScope s_law_world) (by decide +kernel)) (fun _ _ _ _ _ => (pg_tup rfl (pgs_cons (pg_name (i := 10) sc_law_world.nd rfl (Or.inl rfl)) (pgs_cons (pg_name (i := 11) sc_law_world.nd rfl (Or.inl rfl)) pgs_nil)))) (fun _ _ _ _ _ => pts_nil) (fun _ _ _ _ _ => (pe_tup (pa_cons pe_str (pa_cons (pv 10) (pa_cons (pe_dn D_law_const_of (hr.mono (by omega)) (by rfl) (pa_cons (pv 0) (pa_cons (pv 11) pa_nil))) pa_nil)))))) pa_nil)))
      (pss_one (ps_ret (pe_tup (pa_cons pe_str (pa_cons (pv 4) (pa_cons (pe_slice sl_tupA (pv 5) po_none (po_some pe_int)) (pa_cons (pv 5) (pa_cons (pv 6) (pa_cons (pv 7) (pa_cons (pv 8) (pa_cons (pe_tup pa_nil) pa_nil))))))))))))))))), ?_⟩
  refine ⟨_, rfl, kl, rfl, ⟨_, SqL.of hts⟩, fun D hD => ?_⟩
  obtain ⟨nDd, nDc⟩ := hd.new hD
  have nDk : kl ≠ D := ne_of_none hts hD
  refine lc_list (K := K) (a := kl) (xs := ts.map V.ref) (fun i H' => Keep [d] H H' ∧ DS H' d c ∧ ∃ (us : List Nat) (as : List Addr), H' D = some (.lst (as.map V.ref)) ∧ us.length = i ∧ as.length = i ∧ (∀ u ∈ us, 1 ≤ u ∧ u ≤ 8) ∧
      ∀ (j : Nat) (t : Addr) (k : Kn) (u : Nat), as[j]? = some t → ks[j]? = some k → us[j]? = some u → H' t = some (.tup [.int k.1, .str k.2, vI u]))
    ⟨Keep.new hD, hd.same (same_new hD _), [], [], upd_same, rfl, rfl, (fun u h => (by cases h)), fun j t k u h => (by simp at h)⟩ (fun i H' _ p => SqL.of (p.1 _ _ (by simp [nkd]) hts)) (fun i x H' hx p => ?_) (fun H2 p => ?_)
  · obtain ⟨kp, hd', us, as, hDl, lu, la, hu, has⟩ := p
    obtain ⟨t, ht, rfl⟩ := refAt hx
    have hi := (List.getElem?_eq_some_iff.mp ht).1
    have hk : ks[i]? = some (ks[i]'(by omega)) := List.getElem?_eq_getElem (by omega)
    have et := keepT_of hd kp _ _ (hrow i t _ ht hk)
    refine ⟨t, _, rfl, SqT.of et, rfl, _, _, rfl, _, _, rfl, rfl, rfl, _, rfl, _, rfl, _, rfl, _, rfl, d, c, m, rfl, hd', by omega, by omega, fun r H3 r0 r1 hd3 k3 => ⟨_, _, rfl, rfl, (by show 3 ≤ sizeLine; decide), fun p hp => ?_⟩⟩
    obtain ⟨y, rfl⟩ := Int.eq_ofNat_of_zero_le r0
    have s2 := same_new hp (.tup [.int (ks[i]'(by omega)).1, .str (ks[i]'(by omega)).2, .int (1 + (y : Int))])
    have hD4 := s2 _ _ (k3 _ _ (by simp [nDd]) hDl)
    have npD : p ≠ D := (ne_of_none (k3 _ _ (by simp [nDd]) hDl) hp).symm
    refine ⟨_, hD4, ?_, keep_upd0 ((kp.trans k3).trans (Keep.of_same s2)) hD, (hd3.same s2).keep (S := [D]) (Keep.upd (by simp)) (by simp [nDd.symm]) (by simp [nDc.symm]), us ++ [1 + y], as ++ [p], ?_, ?_, ?_, ?_, ?_⟩
    · rw [List.length_map]
      exact small1000 (by omega)
    · rw [upd_same, List.map_append]
      rfl
    · rw [List.length_append, lu]
      rfl
    · rw [List.length_append, la]
      rfl
    · intro u hu'
      rcases List.mem_append.mp hu' with h | h
      · exact hu u h
      · rw [List.mem_singleton.mp h]
        omega
    · intro j t' k u h1 h2 h3
      by_cases hj : j < i
      · rw [List.getElem?_append_left (by omega)] at h1 h3
        have e1 := s2 _ _ (keepT_of hd' k3 _ _ (has j t' k u h1 h2 h3))
        rw [upd_ne (fun z => by rw [z, hD4] at e1; cases e1)]
        exact e1
      · rw [List.getElem?_append_right (by omega)] at h1 h3
        have ej : j = i := by
          have := (List.getElem?_eq_some_iff.mp h1).1
          simp at this
          omega
        subst ej
        rw [la, Nat.sub_self] at h1
        rw [lu, Nat.sub_self] at h3
        obtain rfl : p = t' := Option.some.inj h1
        obtain rfl : 1 + y = u := Option.some.inj h3
        rw [hk] at h2
        cases h2
        rw [upd_ne npD, upd_same]
        show some (HO.tup [_, _, V.int (1 + (y : Int))]) = _
        rw [show V.int (1 + (y : Int)) = vI (1 + y) from congrArg V.int (by omega)]
  obtain ⟨kp, hd2, us, as, hDl, lu, la, hu, has⟩ := p
  rw [List.length_map, lts] at lu la
  have tl9 : ToldAt H2 D ks us := ⟨lu, hu, as, hDl, la, has⟩
  have ds9 := hd2
  have kk9 := kp
  obtain ⟨X9, eX9⟩ : ∃ X, X = H2 := ⟨_, rfl⟩
  subst eX9
  obtain ⟨as0, hs0, la0, ha0⟩ := tl9.2.2
  refine ⟨_, rfl, D, rfl, ⟨_, SqL.of hs0⟩, fun D0 hD0 => ?_⟩
  obtain ⟨nD0d, nD0c⟩ := ds9.new hD0
  refine lc_list (K := K) (a := D) (xs := as0.map V.ref) (fun i H' => RInv false X9 d c D0 ks 0 i H') (RInv.start ds9 hD0) (fun i H' _ p => SqL.of (p.1 _ _ (by simp [nDd]) hs0)) (fun i x H' hx hI => ?_) (fun Y0 hI0 => ?_)
  · obtain ⟨t, ht, rfl⟩ := refAt hx
    have hi := (List.getElem?_eq_some_iff.mp ht).1
    obtain ⟨kz, hkz⟩ : ∃ kz, ks[i]? = some kz := ⟨_, List.getElem?_eq_getElem (by omega)⟩
    obtain ⟨u, huu⟩ : ∃ u, us[i]? = some u := ⟨_, List.getElem?_eq_getElem (by have := tl9.1; omega)⟩
    have hub := tl9.2.1 u (List.mem_of_getElem? huu)
    have hu' : (1 : Int) ≤ (u : Int) ∧ (u : Int) ≤ 8 := ⟨by omega, by omega⟩
    have et := keepT_of ds9 hI.1 _ _ (ha0 i t kz u ht hkz huu)
    refine ⟨t, _, rfl, SqT.of et, rfl, _, _, rfl, _, _, rfl, _, _, rfl, rfl, rfl, _, rfl, rfl, _, rfl, ite2 (fun a1 => ?_) (fun a1 => ?_)⟩
    · have ek : kz.1 = 0 := V.int.inj (of_decide_eq_true a1)
      have hkk : ks[i]? = some ((0 : Int), kz.2) := by
        rw [hkz, ← ek]
      exact ⟨_, rfl, _, rfl, (by show 2 ≤ sizeLine; decide), fun p hp => hI.step nD0d nD0c hD0 hkk (Keep.refl _ _) hI.2.1 hp hu' (by omega) (fun _ => rfl)⟩
    · exact hI.skip hkz (fun h => a1 (decide_eq_true (congrArg V.int h)))
  rw [List.length_map, la0] at hI0
  obtain ⟨kY0, dY0, bs0, rows0, hL0, hR0, hn0, hw0, hb0, he0⟩ := hI0
  rw [List.take_length] at hn0
  refine ⟨D0, _, rfl, .inl ⟨SqL.of hL0, fun l0 hl0 => ?_⟩⟩
  have sl0 := same_new hl0 (.tup (bs0.map V.ref))
  obtain ⟨X0, eX0⟩ : ∃ X, X = upd Y0 l0 (.tup (bs0.map V.ref)) := ⟨_, rfl⟩
  have rw0 : Rws X0 l0 rows0 := by
    rw [eX0]
    exact ⟨bs0, upd_same, hR0.same sl0⟩
  have k0X : Keep [d] X9 X0 := by
    rw [eX0]
    exact kY0.trans (Keep.of_same sl0)
  have ds0 : DS X0 d c := by
    rw [eX0]
    exact dY0.same sl0
  have tl0 := tl9.keep ds9 nDd k0X
  have kk0 := kk9.trans k0X
  rw [← eX0]
  obtain ⟨as1, hs1, la1, ha1⟩ := tl0.2.2
  refine ⟨_, rfl, D, rfl, ⟨_, SqL.of hs1⟩, fun D1 hD1 => ?_⟩
  obtain ⟨nD1d, nD1c⟩ := ds0.new hD1
  refine lc_list (K := K) (a := D) (xs := as1.map V.ref) (fun i H' => RInv true X0 d c D1 ks 1 i H') (RInv.start ds0 hD1) (fun i H' _ p => SqL.of (p.1 _ _ (by simp [nDd]) hs1)) (fun i x H' hx hI => ?_) (fun Y1 hI1 => ?_)
  · obtain ⟨t, ht, rfl⟩ := refAt hx
    have hi := (List.getElem?_eq_some_iff.mp ht).1
    obtain ⟨kz, hkz⟩ : ∃ kz, ks[i]? = some kz := ⟨_, List.getElem?_eq_getElem (by omega)⟩
    obtain ⟨u, huu⟩ : ∃ u, us[i]? = some u := ⟨_, List.getElem?_eq_getElem (by have := tl0.1; omega)⟩
    have hub := tl0.2.1 u (List.mem_of_getElem? huu)
    have hu' : (1 : Int) ≤ (u : Int) ∧ (u : Int) ≤ 8 := ⟨by omega, by omega⟩
    have et := keepT_of ds0 hI.1 _ _ (ha1 i t kz u ht hkz huu)
    refine ⟨t, _, rfl, SqT.of et, rfl, _, _, rfl, _, _, rfl, _, _, rfl, rfl, rfl, _, rfl, rfl, _, rfl, ite2 (fun a1 => ?_) (fun a1 => ?_)⟩
    · have ek : kz.1 = 1 := V.int.inj (of_decide_eq_true a1)
      have hkk : ks[i]? = some ((1 : Int), kz.2) := by
        rw [hkz, ← ek]
      exact ⟨_, rfl, _, rfl, (by show 2 ≤ sizeLine; decide), fun p hp => hI.step nD1d nD1c hD1 hkk (Keep.refl _ _) hI.2.1 hp hu' (by omega) (fun _ => rfl)⟩
    · exact hI.skip hkz (fun h => a1 (decide_eq_true (congrArg V.int h)))
  rw [List.length_map, la1] at hI1
  obtain ⟨kY1, dY1, bs1, rows1, hL1, hR1, hn1, hw1, hb1, he1⟩ := hI1
  rw [List.take_length] at hn1
  refine ⟨D1, _, rfl, .inl ⟨SqL.of hL1, fun l1 hl1 => ?_⟩⟩
  have sl1 := same_new hl1 (.tup (bs1.map V.ref))
  obtain ⟨X1, eX1⟩ : ∃ X, X = upd Y1 l1 (.tup (bs1.map V.ref)) := ⟨_, rfl⟩
  have rw1 : Rws X1 l1 rows1 := by
    rw [eX1]
    exact ⟨bs1, upd_same, hR1.same sl1⟩
  have k1X : Keep [d] X0 X1 := by
    rw [eX1]
    exact kY1.trans (Keep.of_same sl1)
  have ds1 : DS X1 d c := by
    rw [eX1]
    exact dY1.same sl1
  have tl1 := tl0.keep ds0 nDd k1X
  have kk1 := kk0.trans k1X
  rw [← eX1]
  obtain ⟨as2, hs2, la2, ha2⟩ := tl1.2.2
  refine ⟨_, rfl, D, rfl, ⟨_, SqL.of hs2⟩, fun D2 hD2 => ?_⟩
  obtain ⟨nD2d, nD2c⟩ := ds1.new hD2
  refine lc_list (K := K) (a := D) (xs := as2.map V.ref) (fun i H' => RInv false X1 d c D2 ks 2 i H') (RInv.start ds1 hD2) (fun i H' _ p => SqL.of (p.1 _ _ (by simp [nDd]) hs2)) (fun i x H' hx hI => ?_) (fun Y2 hI2 => ?_)
  · obtain ⟨t, ht, rfl⟩ := refAt hx
    have hi := (List.getElem?_eq_some_iff.mp ht).1
    obtain ⟨kz, hkz⟩ : ∃ kz, ks[i]? = some kz := ⟨_, List.getElem?_eq_getElem (by omega)⟩
    obtain ⟨u, huu⟩ : ∃ u, us[i]? = some u := ⟨_, List.getElem?_eq_getElem (by have := tl1.1; omega)⟩
    have hub := tl1.2.1 u (List.mem_of_getElem? huu)
    have hu' : (1 : Int) ≤ (u : Int) ∧ (u : Int) ≤ 8 := ⟨by omega, by omega⟩
    have et := keepT_of ds1 hI.1 _ _ (ha2 i t kz u ht hkz huu)
    refine ⟨t, _, rfl, SqT.of et, rfl, _, _, rfl, _, _, rfl, _, _, rfl, rfl, rfl, _, rfl, rfl, _, rfl, ite2 (fun a1 => ?_) (fun a1 => ?_)⟩
    · have ek : kz.1 = 2 := V.int.inj (of_decide_eq_true a1)
      have hkk : ks[i]? = some ((2 : Int), kz.2) := by
        rw [hkz, ← ek]
      exact ⟨_, rfl, _, rfl, _, rfl, _, rfl, u, rfl, rfl, by omega, d, c, _, rfl, hI.2.1, (pow9 (by omega)).1, (pow9 (by omega)).2, fun r H3 r0 r1 hd3 k3 => ⟨(by show 5 ≤ sizeLine; decide), fun p hp => hI.step nD2d nD2c hD2 hkk k3 hd3 hp hu' (by omega) (fun h => (by cases h))⟩⟩
    · exact hI.skip hkz (fun h => a1 (decide_eq_true (congrArg V.int h)))
  rw [List.length_map, la2] at hI2
  obtain ⟨kY2, dY2, bs2, rows2, hL2, hR2, hn2, hw2, hb2, he2⟩ := hI2
  rw [List.take_length] at hn2
  refine ⟨D2, _, rfl, .inl ⟨SqL.of hL2, fun l2 hl2 => ?_⟩⟩
  have sl2 := same_new hl2 (.tup (bs2.map V.ref))
  obtain ⟨X2, eX2⟩ : ∃ X, X = upd Y2 l2 (.tup (bs2.map V.ref)) := ⟨_, rfl⟩
  have rw2 : Rws X2 l2 rows2 := by
    rw [eX2]
    exact ⟨bs2, upd_same, hR2.same sl2⟩
  have k2X : Keep [d] X1 X2 := by
    rw [eX2]
    exact kY2.trans (Keep.of_same sl2)
  have ds2 : DS X2 d c := by
    rw [eX2]
    exact dY2.same sl2
  have tl2 := tl1.keep ds1 nDd k2X
  have kk2 := kk1.trans k2X
  rw [← eX2]
  obtain ⟨as3, hs3, la3, ha3⟩ := tl2.2.2
  refine ⟨_, rfl, D, rfl, ⟨_, SqL.of hs3⟩, fun D3 hD3 => ?_⟩
  obtain ⟨nD3d, nD3c⟩ := ds2.new hD3
  refine lc_list (K := K) (a := D) (xs := as3.map V.ref) (fun i H' => RInv false X2 d c D3 ks 3 i H') (RInv.start ds2 hD3) (fun i H' _ p => SqL.of (p.1 _ _ (by simp [nDd]) hs3)) (fun i x H' hx hI => ?_) (fun Y3 hI3 => ?_)
  · obtain ⟨t, ht, rfl⟩ := refAt hx
    have hi := (List.getElem?_eq_some_iff.mp ht).1
    obtain ⟨kz, hkz⟩ : ∃ kz, ks[i]? = some kz := ⟨_, List.getElem?_eq_getElem (by omega)⟩
    obtain ⟨u, huu⟩ : ∃ u, us[i]? = some u := ⟨_, List.getElem?_eq_getElem (by have := tl2.1; omega)⟩
    have hub := tl2.2.1 u (List.mem_of_getElem? huu)
    have hu' : (1 : Int) ≤ (u : Int) ∧ (u : Int) ≤ 8 := ⟨by omega, by omega⟩
    have et := keepT_of ds2 hI.1 _ _ (ha3 i t kz u ht hkz huu)
    refine ⟨t, _, rfl, SqT.of et, rfl, _, _, rfl, _, _, rfl, _, _, rfl, rfl, rfl, _, rfl, rfl, _, rfl, ite2 (fun a1 => ?_) (fun a1 => ?_)⟩
    · have ek : kz.1 = 3 := V.int.inj (of_decide_eq_true a1)
      have hkk : ks[i]? = some ((3 : Int), kz.2) := by
        rw [hkz, ← ek]
      exact ⟨_, rfl, _, rfl, _, rfl, d, c, 8, rfl, hI.2.1, by decide, by decide, fun r H3 r0 r1 hd3 k3 => ⟨_, _, rfl, rfl, (by show 3 ≤ sizeLine; decide), fun p hp => hI.step nD3d nD3c hD3 hkk k3 hd3 hp hu' (by omega) (fun h => (by cases h))⟩⟩
    · exact hI.skip hkz (fun h => a1 (decide_eq_true (congrArg V.int h)))
  rw [List.length_map, la3] at hI3
  obtain ⟨kY3, dY3, bs3, rows3, hL3, hR3, hn3, hw3, hb3, he3⟩ := hI3
  rw [List.take_length] at hn3
  refine ⟨D3, _, rfl, .inl ⟨SqL.of hL3, fun l3 hl3 => ?_⟩⟩
  have sl3 := same_new hl3 (.tup (bs3.map V.ref))
  obtain ⟨X3, eX3⟩ : ∃ X, X = upd Y3 l3 (.tup (bs3.map V.ref)) := ⟨_, rfl⟩
  have rw3 : Rws X3 l3 rows3 := by
    rw [eX3]
    exact ⟨bs3, upd_same, hR3.same sl3⟩
  have k3X : Keep [d] X2 X3 := by
    rw [eX3]
    exact kY3.trans (Keep.of_same sl3)
  have ds3 : DS X3 d c := by
    rw [eX3]
    exact dY3.same sl3
  have tl3 := tl2.keep ds2 nDd k3X
  have kk3 := kk2.trans k3X
  rw [← eX3]
  have kT1 := keepT_of ds1 (k2X.trans k3X)
  have hl1X : X1 l1 = some (.tup (bs1.map V.ref)) := by
    rw [eX1]
    exact upd_same
  have hl13 := kT1 _ _ hl1X
  have he13 : ∀ t ∈ bs1, ∃ (z : Str) (u : Nat), u ≤ 8 ∧ X3 t = some (.tup [.str z, vI u]) := fun t ht => by
    obtain ⟨z, u, h8, e⟩ := he1 rfl t ht
    refine ⟨z, u, h8, kT1 _ _ ?_⟩
    rw [eX1]
    exact sl1 _ _ e
  refine ⟨_, rfl, l1, rfl, ⟨_, SqT.of hl13⟩, fun D4 hD4 => ?_⟩
  obtain ⟨nD4d, nD4c⟩ := ds3.new hD4
  refine lc_tup (K := K) (a := l1) (xs := bs1.map V.ref) (fun i H' => Keep [d] X3 H' ∧ DS H' d c ∧ ∃ ys : List V, H' D4 = some (.lst ys) ∧ ys.length ≤ i) ⟨Keep.new hD4, ds3.same (same_new hD4 _), [], upd_same, Nat.le_refl _⟩ (fun i H' _ p => SqT.of (keepT_of ds3 p.1 _ _ hl13)) (fun i x H' hx hI => ?_) (fun Y4 hI4 => ?_)
  · obtain ⟨kI, dI, ys, hys, lys⟩ := hI
    obtain ⟨t, ht, rfl⟩ := refAt hx
    have hi := (List.getElem?_eq_some_iff.mp ht).1
    obtain ⟨z, u, h8, et⟩ := he13 t (List.mem_of_getElem? ht)
    have et2 := keepT_of ds3 kI _ _ et
    refine ⟨t, _, rfl, SqT.of et2, rfl, _, _, rfl, _, _, rfl, rfl, rfl, _, rfl, _, rfl, _, rfl, d, c, u, rfl, dI, by omega, fun e v H3 hv hR hk hd3 k3 => ⟨(by show 3 ≤ sizeLine; decide), fun p hp => ?_⟩⟩
    have s2 := same_new hp (.tup [.str "set", .str z, v])
    refine ⟨_, s2 _ _ (k3 _ _ (by simp [nD4d]) hys), small1000 (by omega), keep_upd0 ((kI.trans k3).trans (Keep.of_same s2)) hD4, (hd3.same s2).keep (S := [D4]) (Keep.upd (by simp)) (by simp [nD4d.symm]) (by simp [nD4c.symm]), _, upd_same, ?_⟩
    rw [List.length_append, List.length_singleton]
    omega
  obtain ⟨kI, dI, ys, hys, lys⟩ := hI4
  refine ⟨D4, _, rfl, .inl ⟨SqL.of hys, fun l4 hl4 => ?_⟩⟩
  have sl4 := same_new hl4 (.tup ys)
  have k34 := kI.trans (Keep.of_same sl4)
  have hl14 := keepT_of ds3 k34 _ _ hl13
  have ds4 := dI.same sl4
  have fin : ∀ (sl : Addr) (H5 : Hp), Same (upd Y4 l4 (.tup ys)) H5 → ∀ (e0 : Addr) (H6 : Hp), Same H5 H6 → ∀ p, H6 p = none → Q (.ref p) (upd H6 p (.tup [.str "flat", .ref l0, .ref sl, .ref l1, .ref l2, .ref l3, .ref l4, .ref e0])) := by
    intro sl H5 s5 e0 H6 s6 p hp
    have sp := same_new hp (.tup [.str "flat", .ref l0, .ref sl, .ref l1, .ref l2, .ref l3, .ref l4, .ref e0])
    have kall := (k34.trans (Keep.of_same s5)).trans ((Keep.of_same s6).trans (Keep.of_same sp))
    have kT3 := keepT_of ds3 kall
    have kT2 := keepT_of ds2 (k3X.trans kall)
    have kT1' := keepT_of ds1 (k2X.trans (k3X.trans kall))
    have kT0 := keepT_of ds0 (k1X.trans (k2X.trans (k3X.trans kall)))
    have o0 : OfKind ks 0 rows0 := ⟨hn0, hw0⟩
    have o1 : OfKind ks 1 rows1 := ⟨hn1, hw1⟩
    have o2 : OfKind ks 2 rows2 := ⟨hn2, hw2⟩
    have o3 : OfKind ks 3 rows3 := ⟨hn3, hw3⟩
    have n0 := o0.len
    have n1 := o1.len
    have n2 := o2.len
    have n3 := o3.len
    exact q p rows0 rows1 rows2 rows3 _ ⟨⟨l0, sl, l1, l2, l3, l4, e0, upd_same, rw0.keepT kT0, rw1.keepT kT1', rw2.keepT kT2, rw3.keepT kT3⟩, by omega⟩ o0 o1 o2 o3 (((ds4.same s5).same s6).same sp) (kk3.trans kall)
  refine ⟨_, rfl, _, rfl, 2, rfl, l1, _, rfl, SqT.of hl14, fun hw => ?_, fun hw sl hsl => ?_⟩
  · exact ⟨_, rfl, _, rfl, _, rfl, _, rfl, Nat.zero_le _, fun e0 he0 => ⟨(by show 8 ≤ sizeLine; decide), fun p hp => fin l1 _ (Same.refl _) e0 _ (same_new he0 _) p hp⟩⟩
  · exact ⟨_, rfl, _, rfl, _, rfl, _, rfl, Nat.zero_le _, fun e0 he0 => ⟨(by show 8 ≤ sizeLine; decide), fun p hp => fin sl _ (same_new hsl _) e0 _ (same_new he0 _) p hp⟩⟩
end
end Bf

set_option Elab.async false
set_option linter.all false
set_option maxRecDepth 100000
set_option maxHeartbeats 4000000
namespace Bf
open PySem PySem.Spec PyProof.Rows L2
/-! ### the law: promises whose names and widths the caller chooses -/
theorem fn_ex {ι : Type} {P : Program} {w : World} {K : PySem.W.Frag} {mg : Str → Option Value} {base : Heap} {CX : CXT} {k : Nat} {f : Addr} {fd : FuncData} {ps : List Str} {sp : ι → Sp} (h : ∀ i, FnOk P w K mg base CX k f fd ps (sp i)) :
    FnOk P w K mg base CX k f fd ps (fun vs H Q E => ∃ i, sp i vs H Q E) :=
  ⟨fun vs H Q E q => let ⟨i, q'⟩ := q; (h i).len vs H Q E q', fun A outer s H args us vs Q E hr he hb hv hs => let ⟨i, hs'⟩ := hs; (h i).run A outer s H args us vs Q E hr he hb hv hs'⟩
def spDrawnE : Sp := fun vs H Q E => ∃ N : Str → Prop, spDrawn N vs H Q E
def spLWideE : Sp := fun vs H Q E => ∃ x : (Str → Prop) × (Str → Int), spLWide x.1 x.2 60 vs H Q E
def spLaw (K : PySem.W.Frag) : Sp := fun vs H Q _ => ∃ (a : Addr) (ns : List Int), vs = [.ref a] ∧ SqL K H a (ns.map V.int) ∧ ns.length ≤ 63 ∧ ∀ H', Q (.bl true) H'
/-- a list of at least n names -/
def NamesAt (H : Hp) (l : Addr) (n : Nat) : Prop := ∃ xs : List V, H l = some (.lst xs) ∧ (∀ v ∈ xs, ∃ z : Str, v = .str z) ∧ n ≤ xs.length ∧ xs.length ≤ 100
theorem Flt.keepT {H H' : Hp} {a : Addr} {ins ws rs ms : List Row} (h : Flt H a ins ws rs ms) (k : KeepT H H') : Flt H' a ins ws rs ms :=
  ⟨let ⟨i, o, w, r, m, b, c, e, h1, h2, h3, h4⟩ := h.ex; ⟨i, o, w, r, m, b, c, k _ _ e, h1.keepT k, h2.keepT k, h3.keepT k, h4.keepT k⟩, h.le⟩
theorem Kinds.keep {H H' : Hp} {d c kl : Addr} {ks : List Kn} (h : Kinds H kl ks) (hd : DS H d c) (n : kl ≠ d) (k : Keep [d] H H') : Kinds H' kl ks :=
  let ⟨ts, a, b, r⟩ := h
  ⟨ts, k _ _ (by simp [n]) a, b, fun i t x p q => keepT_of hd k _ _ (r i t x p q)⟩
def allN (ins ws rs ms : List Row) (z : Str) : Prop := z ∈ (ins ++ ws ++ rs ++ ms).map Prod.fst
theorem allN_eq {ks : List Kn} {a0 a1 a2 a3 b0 b1 b2 b3 : List Row} (x0 : OfKind ks 0 a0) (x1 : OfKind ks 1 a1) (x2 : OfKind ks 2 a2) (x3 : OfKind ks 3 a3) (y0 : OfKind ks 0 b0) (y1 : OfKind ks 1 b1) (y2 : OfKind ks 2 b2) (y3 : OfKind ks 3 b3) :
    (fun z => z ∈ (a0 ++ a1 ++ a2 ++ a3).map Prod.fst) = (fun z => z ∈ (b0 ++ b1 ++ b2 ++ b3).map Prod.fst) := by
  funext z
  rw [List.map_append, List.map_append, List.map_append, List.map_append, List.map_append, List.map_append, x0.1, x1.1, x2.1, x3.1, y0.1, y1.1, y2.1, y3.1]
section
variable {P : Program} {w : World} {K : PySem.W.Frag} {mg : Str → Option Value} {base : Heap} {f : Addr} {fd : FuncData}
theorem ok_law (F : Fun K "law" "law" s_law f fd) (T : Txt mg) (D_law_begin : Dn P w K mg base "_law_begin" ["_law_script"] 1 (spBegin K)) (D_law_draw : Dn P w K mg base "_law_draw" ["_law_d", "_law_many"] 1 spDraw)
    (D_law_pop : Dn P w K mg base "_law_pop" ["_law_d", "_law_row"] 2 spPop) (D_law_pool : Dn P w K mg base "_law_pool" [] 1 spPool) (D_law_pick : Dn P w K mg base "_law_pick" ["_law_d", "_law_row"] 2 spPickV) (D_law_is_int : Dn P w K mg base "_law_is_int" ["_law_thing"] 1 spIsInt)
    (D_law_world : Dn P w K mg base "_law_world" ["_law_d", "_law_kinds", "_law_most"] 3 spWorld) (D_law_drawn : Dn P w K mg base "_law_drawn" ["_law_d", "_law_env", "_law_stores"] 12 spDrawnE)
    (D_law_wides : Dn P w K mg base "_law_wides" ["_law_flat"] 1 spNameW) (D_law_wide : Dn P w K mg base "_law_wide" ["_law_wides_here", "_law_expr_here"] 61 spLWideE) (D_width_of : Dn P w K mg base "width_of" ["flat", "expr"] 64 (spWidth 60)) :
    FnOk P w K mg base CX0 65 f fd ["_law_script"] (spLaw K) := by
  refine F.ok sc_law (fun vs H Q E h => ?_) (fun cdv A outer s H vs Q E hr h => ?_)
  · obtain ⟨a, ns, rfl, _⟩ := h
    rfl
  obtain ⟨a, ns, rfl, hS, h63, q⟩ := h
  refine ⟨_, (pss_cons (ps_set (i := 1) sc_law.nd rfl (Or.inr rfl) (pe_dn D_law_begin (hr.mono (by omega)) (by rfl) (pa_cons (pv 0) pa_nil)))
      (pss_cons (ps_set (i := 2) sc_law.nd rfl (Or.inr rfl) (pe_dn0 D_law_pool (hr.mono (by omega)) (by rfl)))
      (C8.pss_cut (ps_if (pt_cmpR op_eq (pe_dn D_law_draw (hr.mono (by omega)) (by rfl) (pa_cons (pv 1) (pa_cons pe_int pa_nil))) pe_int (nomark _)) (pss_one (ps_set (i := 2) sc_law.nd rfl (Or.inr rfl) (pe_split pe_str pe_str))) pss_nil)
      (pss_cons (ps_set (i := 3) sc_law.nd rfl (Or.inl rfl) (pe_lst (pa_cons (pe_tup (pa_cons pe_int (pa_cons (pe_dn D_law_pop (hr.mono (by omega)) (by rfl) (pa_cons (pv 1) (pa_cons (pv 2) pa_nil))) pa_nil))) pa_nil)))
      (pss_cons (ps_set (i := 3) sc_law.nd rfl (Or.inl rfl) (pe_op op_cat (pv 3) (pe_lc (own := [("_law_k", 4)]) (g := gName 4) (tt := tYes) rfl sc_law.nd (pi_range1 rfl T.n_range (pa_cons (pe_dn D_law_draw (hr.mono (by omega)) (by rfl) (pa_cons (pv 1) (pa_cons pe_int pa_nil))) pa_nil)) (blkOk_by (N := ["_law_script", "_law_d", "_law_names", "_law_kinds", "_law_k", "_law_most", "_law_first", "_law_second", "_law_env", "_law_expr_here", "_law_flat", "_law_due", "_law_told", "_law_row"]) (sc := defScope s_law) (by decide +kernel)) (fun _ _ _ _ _ => (pg_name (i := 4) sc_law.nd rfl (Or.inl rfl))) (fun _ _ _ _ _ => pts_nil) (fun _ _ _ _ _ => (pe_tup (pa_cons (pe_dn D_law_draw (hr.mono (by omega)) (by rfl) (pa_cons (pv 1) (pa_cons pe_int pa_nil))) (pa_cons (pe_dn D_law_pop (hr.mono (by omega)) (by rfl) (pa_cons (pv 1) (pa_cons (pv 2) pa_nil))) pa_nil)))))))
      (pss_cons (ps_set (i := 5) sc_law.nd rfl (Or.inl rfl) (pe_dn D_law_pick (hr.mono (by omega)) (by rfl) (pa_cons (pv 1) (pa_cons (pe_lst (pa_cons pe_int (pa_cons pe_int (pa_cons pe_int (pa_cons pe_int (pa_cons pe_int pa_nil)))))) pa_nil))))
      (pss_cons (ps_set (i := 6) sc_law.nd rfl (Or.inl rfl) (pe_dn D_law_world (hr.mono (by omega)) (by rfl) (pa_cons (pv 1) (pa_cons (pv 3) (pa_cons (pv 5) pa_nil)))))
      (pss_cons (ps_set (i := 7) sc_law.nd rfl (Or.inl rfl) (pe_dn D_law_world (hr.mono (by omega)) (by rfl) (pa_cons (pv 1) (pa_cons (pv 3) (pa_cons (pv 5) pa_nil)))))
      (pss_cons (ps_setLc (i := 8) (own := [("_law_row", 13)]) (g := gName 13) (tt := tYes) rfl sc_law.nd rfl rfl (sw_true rfl rfl rfl (by decide +kernel)) (pi_tup (pe_op op_catA (pe_op op_catA (pe_ix ix_tup (pv 6) pe_int (fun _ _ => rfl)) (pe_ix ix_tup (pv 6) pe_int (fun _ _ => rfl))) (pe_ix ix_tup (pv 6) pe_int (fun _ _ => rfl)))) (blkOk_by (N := ["_law_script", "_law_d", "_law_names", "_law_kinds", "_law_k", "_law_most", "_law_first", "_law_second", "_law_env", "_law_expr_here", "_law_flat", "_law_due", "_law_told", "_law_row"]) (sc := defScope s_law) (by decide +kernel)) (fun _ _ _ _ _ => (pg_name (i := 13) sc_law.nd rfl (Or.inl rfl))) (fun _ _ _ _ _ => pts_nil) (fun _ _ _ _ _ => (pe_tup (pa_cons (pe_ix (ix_tup : IxR _ (rIxT K)) (pv 13) pe_int (fun _ _ => rfl)) (pa_cons (pe_ix (ix_tup : IxR _ (rIxT K)) (pv 13) pe_int (fun _ _ => rfl)) pa_nil)))))
      (pss_cons (ps_for PassesOwn.never rfl (pi_range1 rfl T.n_range (pa_cons (pe_op op_add pe_int (pe_dn D_law_draw (hr.mono (by omega)) (by rfl) (pa_cons (pv 1) (pa_cons pe_int pa_nil)))) pa_nil)) (pg_name (i := 4) sc_law.nd rfl (Or.inl rfl)) (pss_cons (ps_set (i := 9) sc_law.nd rfl (Or.inl rfl) (pe_dn D_law_drawn (hr.mono (by omega)) (by rfl) (pa_cons (pv 1) (pa_cons (pv 8) (pa_cons (pe_ix ix_tup (pv 6) pe_int (fun _ _ => rfl)) pa_nil)))))
      (pss_one (ps_for PassesOwn.never rfl (pi_list (pe_lst (pa_cons (pv 6) (pa_cons (pv 7) (pa_cons (pv 6) pa_nil))))) (pg_name (i := 10) sc_law.nd rfl (Or.inl rfl)) (pss_cons (ps_set (i := 11) sc_law.nd rfl (Or.inl rfl) (pe_dn D_law_wide (hr.mono (by omega)) (by rfl) (pa_cons (pe_dn D_law_wides (hr.mono (by omega)) (by rfl) (pa_cons (pv 10) pa_nil)) (pa_cons (pv 9) pa_nil))))
      (pss_cons (ps_set (i := 12) sc_law.nd rfl (Or.inl rfl) (pe_dn D_width_of (hr.mono (by omega)) (by rfl) (pa_cons (pv 10) (pa_cons (pv 9) pa_nil))))
      (pss_cons (ps_if (PW.pt (pw_and (pt_cmpR op_isN (pv 11) pe_non (nomark _)) (pw_and1 (pt_cmpR op_notN (pv 12) pe_non (nomark _))))) (pss_one (ps_ret pe_bl)) pss_nil)
      (pss_one (ps_if (PW.pt (pw_and (pt_cmpR op_notN (pv 11) pe_non (nomark _)) (pw_and1 (PW.pt (pw_or (pt_not (pt_val (pe_dn D_law_is_int (hr.mono (by omega)) (by rfl) (pa_cons (pv 12) pa_nil)))) (pw_or1 (pt_cmpR op_ne (pv 12) (pv 11) (nomark _)))))))) (pss_one (ps_ret pe_bl)) pss_nil)))))))))
      (pss_one (ps_ret pe_bl)))))))))))), ?_⟩
  refine ⟨_, rfl, a, ns, rfl, hS, h63, fun d c H1 nd nc hd1 s1 => ?_⟩
  refine ⟨rfl, fun pn xs hpn hx => ?_⟩
  obtain ⟨nnd, nnc⟩ := hd1.new hpn
  have hd2 := hd1.same (same_new hpn (.lst (xs.map V.str)))
  refine ⟨fun σ' H' => ∃ pn : Addr, σ' = [some (.ref a), some (.ref d), some (.ref pn), none, none, none, none, none, none, none, none, none, none, none] ∧ DS H' d c ∧ NamesAt H' pn 7 ∧ pn ≠ d ∧ pn ≠ c, ?_, ?_⟩
  · refine ⟨_, rfl, d, c, 3, rfl, hd2, by decide, by decide, fun r H3 r0 r1 hd3 k3 => ⟨rfl, _, rfl, ite2 (fun a1 => ?_) (fun a1 => ?_)⟩⟩
    · refine ⟨⟨_, rfl⟩, _, _, rfl, rfl, (by decide +kernel), (by decide +kernel), fun p hp => ?_⟩
      obtain ⟨n1, n2⟩ := hd3.new hp
      refine ⟨p, rfl, hd3.same (same_new hp _), ⟨_, upd_same, fun v hv => ?_, by decide +kernel, by decide +kernel⟩, n1, n2⟩
      obtain ⟨z, _, e⟩ := List.mem_map.mp hv
      exact ⟨z, e.symm⟩
    · refine ⟨pn, rfl, hd3, ⟨_, k3 _ _ (by simp [nnd]) upd_same, fun v hv => ?_, by rw [List.length_map, hx]; decide, by rw [List.length_map, hx]; decide⟩, nnd, nnc⟩
      obtain ⟨z, _, e⟩ := List.mem_map.mp hv
      exact ⟨z, e.symm⟩
  rintro σ' H3 ⟨pn, rfl, hd3, ⟨xs, hxs, hzs, x7, x100⟩, nnd, nnc⟩
  refine ⟨_, rfl, _, rfl, d, c, pn, xs, rfl, hd3, hxs, nnd, nnc, by omega, by omega, fun k0 y0 H4 hy0 hd4 hn4 k4 => ⟨(by show 2 ≤ sizeLine; decide), fun t1 ht1 => ⟨(by show 1 ≤ sizeLine; decide), fun l1 hl1 => ?_⟩⟩⟩
  obtain ⟨z0, rfl⟩ := hzs y0 (List.mem_of_getElem? hy0)
  have st1 := same_new ht1 (.tup [.int 1, .str z0])
  have sl1 := same_new hl1 (.lst [.ref t1])
  have s5 := st1.trans sl1
  have hd5 := hd4.same s5
  have hn5 := s5 _ _ hn4
  have hk0 := (List.getElem?_eq_some_iff.mp hy0).1
  have len5 : (xs.eraseIdx k0).length = xs.length - 1 := by rw [List.length_eraseIdx, if_pos hk0]
  have hzs5 : ∀ v ∈ xs.eraseIdx k0, ∃ z : Str, v = .str z := fun v hv => hzs v (List.mem_of_mem_eraseIdx hv)
  obtain ⟨nl1d, nl1c⟩ := (hd4.same st1).new hl1
  refine ⟨_, rfl, _, rfl, d, c, 7, rfl, hd5, by decide, by decide, fun r H6 r0 r1 hd6 k6 => ?_⟩
  obtain ⟨m, rfl⟩ := Int.eq_ofNat_of_zero_le r0
  have hn6 := k6 _ _ (by simp [nnd]) hn5
  refine ⟨(m : Int), rfl, (i62' (by omega)).1, (i62' (by omega)).2, fun D hD => ?_⟩
  obtain ⟨nDd, nDc⟩ := hd6.new hD
  have nDn : pn ≠ D := ne_of_none hn6 hD
  have hl1a : H6 l1 = some (.lst [.ref t1]) := k6 _ _ (by simp [nl1d]) upd_same
  have ht1a : H6 t1 = some (.tup [.int 1, .str z0]) := keepT_of hd5 k6 _ _ (sl1 _ _ upd_same)
  have nl1n : l1 ≠ pn := fun z => by
    rw [z, hn6] at hl1a
    have := HO.lst.inj (Option.some.inj hl1a)
    obtain ⟨z1, e1⟩ := hzs5 (.ref t1) (by rw [this]; simp)
    cases e1
  refine lc_range (lo := 0) (n := m) (fun i H' => Keep [d, pn] H6 H' ∧ DS H' d c ∧ (∃ names : List V, H' pn = some (.lst names) ∧ (∀ v ∈ names, ∃ z : Str, v = .str z) ∧ names.length + i = xs.length - 1) ∧
      ∃ (bs : List Addr) (ks : List Kn), H' D = some (.lst (bs.map V.ref)) ∧ bs.length = i ∧ ks.length = i ∧ ∀ (j : Nat) (t : Addr) (k : Kn), bs[j]? = some t → ks[j]? = some k → H' t = some (.tup [.int k.1, .str k.2]))
    ⟨Keep.new hD, hd6.same (same_new hD _), ⟨_, same_new hD _ _ _ hn6, hzs5, by rw [len5]; omega⟩, [], [], upd_same, rfl, rfl, fun j t k h => by simp at h⟩ (fun i H' hi p => ?_) (fun H7 p => ?_)
  · obtain ⟨kp, hd', ⟨names, hnm, hzn, hln⟩, bs, ks, hDb, lb, lk, hbk⟩ := p
    have hi' : i < m := hi
    refine ⟨rfl, _, rfl, d, c, 4, rfl, hd', by decide, by decide, fun r H8 q0 q1 hd8 k8 => ?_⟩
    have hn8 := k8 _ _ (by simp [nnd]) hnm
    refine ⟨_, rfl, _, rfl, d, c, pn, names, rfl, hd8, hn8, nnd, nnc, by omega, by omega, fun k y H9 hy hd9 hn9 k9 => ⟨(by show 2 ≤ sizeLine; decide), fun p hp => ?_⟩⟩
    obtain ⟨z, rfl⟩ := hzn y (List.mem_of_getElem? hy)
    have s2 := same_new hp (.tup [.int r, .str z])
    have hD8 := k8 _ _ (by simp [nDd]) hDb
    have hD9 := k9 _ _ (by simp [nDd, nDn.symm]) hD8
    have hD10 := s2 _ _ hD9
    have npD : p ≠ D := (ne_of_none hD9 hp).symm
    have hk := (List.getElem?_eq_some_iff.mp hy).1
    refine ⟨_, hD10, ?_, keep_upd0 (((kp.trans (k8.wide (by simp))).trans k9).trans (Keep.of_same s2)) hD, (hd9.same s2).keep (S := [D]) (Keep.upd (by simp)) (by simp [nDd.symm]) (by simp [nDc.symm]),
      ⟨names.eraseIdx k, ?_, fun v hv => hzn v (List.mem_of_mem_eraseIdx hv), ?_⟩, bs ++ [p], ks ++ [(r, z)], ?_, ?_, ?_, ?_⟩
    · rw [List.length_map]
      exact small1000 (by omega)
    · rw [upd_ne nDn]
      exact s2 _ _ hn9
    · rw [List.length_eraseIdx, if_pos hk]
      omega
    · rw [upd_same, List.map_append]
      rfl
    · rw [List.length_append, lb]
      rfl
    · rw [List.length_append, lk]
      rfl
    · intro j t k' h1 h2
      by_cases hj : j < i
      · rw [List.getElem?_append_left (by omega)] at h1 h2
        have e0 := hbk j t k' h1 h2
        have e1 := keepT_of hd' k8 _ _ e0
        have e2 := k9 _ _ (by
          intro mm
          rcases List.mem_cons.mp mm with q | q
          · obtain ⟨l, q2⟩ := hd8.at_
            rw [q, q2] at e1
            cases e1
          · rw [List.mem_singleton.mp q, hn8] at e1
            cases e1) e1
        have e3 := s2 _ _ e2
        rw [upd_ne (fun z => by rw [z, hD10] at e3; cases e3)]
        exact e3
      · rw [List.getElem?_append_right (by omega)] at h1 h2
        have ej : j = i := by
          have := (List.getElem?_eq_some_iff.mp h1).1
          simp at this
          omega
        subst ej
        rw [lb, Nat.sub_self] at h1
        rw [lk, Nat.sub_self] at h2
        obtain rfl : p = t := Option.some.inj h1
        obtain rfl : (r, z) = k' := Option.some.inj h2
        rw [upd_ne npD, upd_same]
  obtain ⟨kp, hd7, _, bs, ks, hDb, lb, lk, hbk⟩ := p
  have hl17 := kp _ _ (by simp [nl1d, nl1n]) hl1a
  have ht17 := kp _ _ (by
    intro mm
    rcases List.mem_cons.mp mm with q | q
    · obtain ⟨l, q2⟩ := hd6.at_
      rw [q, q2] at ht1a
      cases ht1a
    · rw [List.mem_singleton.mp q, hn6] at ht1a
      cases ht1a) ht1a
  refine ⟨l1, D, _, _, rfl, rfl, hl17, hDb, le1000 (by rw [List.length_map, List.length_singleton]; omega), fun kl hkl => ?_⟩
  have skl := same_new hkl (.lst ([V.ref t1] ++ bs.map V.ref))
  have hd8 := hd7.same skl
  obtain ⟨nkd, nkc⟩ := hd7.new hkl
  obtain ⟨H8, eH8⟩ : ∃ X, X = upd H7 kl (.lst ([V.ref t1] ++ bs.map V.ref)) := ⟨_, rfl⟩
  have hK8 : Kinds H8 kl ((1, z0) :: ks) := by
    rw [eH8]
    refine ⟨t1 :: bs, upd_same, by rw [List.length_cons, List.length_cons, lb, lk], fun j t k h1 h2 => ?_⟩
    cases j with
    | zero =>
      cases h1
      cases h2
      exact skl _ _ ht17
    | succ j => exact skl _ _ (hbk j t k (by simpa using h1) (by simpa using h2))
  rw [← eH8] at hd8 ⊢
  refine ⟨_, rfl, (by show 5 ≤ sizeLine; decide), fun l hl => ?_⟩
  have sl := same_new hl (.lst [V.int 2, .int 3, .int 8, .int 1, .int 4])
  refine ⟨d, c, l, _, rfl, hd8.same sl, .inl ⟨(hd8.new hl).1, upd_same⟩, by simp, by simp, fun y j H9 hy hd9 k9 => ?_⟩
  obtain ⟨mm, rfl, mm1, mm8⟩ : ∃ mm : Nat, y = vI mm ∧ 1 ≤ mm ∧ mm ≤ 8 := by
    match j, hy with
    | 0, h => exact ⟨2, (Option.some.inj h).symm, by decide, by decide⟩
    | 1, h => exact ⟨3, (Option.some.inj h).symm, by decide, by decide⟩
    | 2, h => exact ⟨8, (Option.some.inj h).symm, by decide, by decide⟩
    | 3, h => exact ⟨1, (Option.some.inj h).symm, by decide, by decide⟩
    | 4, h => exact ⟨4, (Option.some.inj h).symm, by decide, by decide⟩
    | j + 5, h => simp at h
  have hK9 := hK8.keep hd8 nkd ((Keep.of_same sl).trans k9)
  have lks : ((1, z0) :: ks : List Kn).length ≤ 100 := by
    rw [List.length_cons]
    omega
  refine ⟨_, rfl, _, rfl, _, rfl, d, c, kl, _, mm, rfl, hd9, nkd, hK9, lks, mm1, mm8, fun p1 a0 a1 a2 a3 H10 f1 x0 x1 x2 x3 hd10 k10 => ?_⟩
  refine ⟨_, rfl, _, rfl, _, rfl, d, c, kl, _, mm, rfl, hd10, nkd, hK9.keep hd9 nkd k10, lks, mm1, mm8, fun p2 b0 b1 b2 b3 H11 f2 y0 y1 y2 y3 hd11 k11 => ?_⟩
  have f1' := f1.keepT (keepT_of hd10 k11)
  obtain ⟨q0, qo, q1, q2, q3, qb, qc, e1, w0, w1, w2, w3⟩ := f1'.ex
  obtain ⟨u0, g0, v0⟩ := w0
  obtain ⟨u1, g1, v1⟩ := w1
  obtain ⟨u2, g2, v2⟩ := w2
  have n0 := x0.len
  have n1 := x1.len
  have n2 := x2.len
  have n3 := x3.len
  have m0 := v0.1
  have m1' := v1.1
  have m2 := v2.1
  refine ⟨_, rfl, p1, _, _, _, rfl, rfl, SqT.of e1, atI_nat (j := 1) rfl, _, rfl, p1, _, _, _, rfl, rfl, SqT.of e1, atI_nat (j := 3) rfl, rdCat (SqT.of g0) (SqT.of g1) (by rw [List.length_map, List.length_map]; omega) fun c1 Hx kx hc1 => ?_⟩
  refine ⟨_, rfl, p1, _, _, _, rfl, rfl, SqT.of (kx _ _ e1), atI_nat (j := 4) rfl, rdCat hc1 (SqT.of (kx _ _ g2)) (by rw [List.length_append, List.length_map, List.length_map, List.length_map]; omega) fun c2 Hy ky hc2 => ?_⟩
  rw [← List.map_append, ← List.map_append] at hc2
  have kxy := kx.trans ky
  have rall := ((v0.app v1).app v2).same kxy
  have lall := rall.1
  rw [List.length_append, List.length_append, List.length_append, List.length_append] at lall
  refine ⟨c2, rfl, ⟨_, hc2⟩, fun D2 hD2 => ?_⟩
  have hd12 := hd11.same kxy
  refine lc_tup (K := K) (a := c2) (xs := (u0 ++ u1 ++ u2).map V.ref) (fun i H' => Same Hy H' ∧ ∃ es : List Addr, H' D2 = some (.lst (es.map V.ref)) ∧ RowsAt H' es ((a0 ++ a1 ++ a2).take i))
    ⟨same_new hD2 _, [], upd_same, ⟨rfl, fun i t r h => by simp at h⟩⟩ (fun i H' _ p => seqT_same p.1 hc2) (fun i x H' hx p => ?_) (fun Hz p => ?_)
  · obtain ⟨sm, es, hes, hre⟩ := p
    obtain ⟨tr, row, rest, rfl, hrow, etr⟩ := rowAt (rall.same sm) hx
    have hri := (List.getElem?_eq_some_iff.mp hrow).1
    rw [List.length_append, List.length_append] at hri
    have hle := hre.1
    rw [List.length_take] at hle
    refine ⟨rfl, _, rfl, tr, _, _, _, rfl, rfl, SqT.of etr, atI_nat (j := 0) rfl, _, rfl, tr, _, _, _, rfl, rfl, SqT.of etr, atI_nat (j := 1) rfl, (by show 2 ≤ sizeLine; decide), fun p hp => ?_⟩
    have s2 := same_new hp (.tup [.str row.1, .int row.2])
    have hes2 := s2 _ _ hes
    refine ⟨_, hes2, ?_, same_two (sm.trans s2) hD2, es ++ [p], ?_, ?_⟩
    · rw [List.length_map]
      exact small1000 (by omega)
    · rw [upd_same, List.map_append]
      rfl
    · rw [take_snoc hrow]
      have r1 := (hre.same s2).snoc (t := p) (r := row) (rest := []) upd_same
      refine ⟨r1.1, fun j t r h1 h2 => ?_⟩
      obtain ⟨y, e⟩ := r1.2 j t r h1 h2
      exact ⟨y, by rw [upd_ne (fun q => by rw [q, hes2] at e; cases e)]; exact e⟩
  obtain ⟨sm, es, hes, hre⟩ := p
  have elen : ((u0 ++ u1 ++ u2).map V.ref).length = (a0 ++ a1 ++ a2).length := by
    rw [List.length_map]
    simp only [List.length_append]
    omega
  rw [elen, List.take_length] at hre
  have szz := kxy.trans sm
  have hdz := hd11.same szz
  have nD2d := (hd12.new hD2).1
  have w3z := (w3.same szz)
  have f1z := f1'.same szz
  have f2z := f2.same szz
  have hpos : 1 ≤ (a0 ++ a1 ++ a2).length := by
    have h1 : 1 ≤ a1.length := by
      have := congrArg List.length x1.1
      rw [List.length_map] at this
      rw [this]
      simp [nm]
    simp only [List.length_append]
    omega
  have hle2 : (a0 ++ a1 ++ a2).length ≤ 100 := by
    simp only [List.length_append]
    have := lks
    have t0 := congrArg List.length x0.1
    have t1 := congrArg List.length x1.1
    have t2 := congrArg List.length x2.1
    rw [List.length_map] at t0 t1 t2
    have lkk : ((1, z0) :: ks : List Kn).length ≤ 7 := by
      rw [List.length_cons]
      omega
    omega
  have gz : Gx (allN a0 a1 a2 a3) Hz d c D2 q3 (a0 ++ a1 ++ a2) a3 := ⟨hdz, ⟨es, hes, nD2d, hre⟩, w3z, hpos, hle2, by omega, fun r hr => by
      unfold allN
      rw [List.map_append]
      exact List.mem_append_left _ (List.mem_map.mpr ⟨r, hr, rfl⟩), fun r hr => by
      unfold allN
      rw [List.map_append]
      exact List.mem_append_right _ (List.mem_map.mpr ⟨r, hr, rfl⟩)⟩
  have e1z := szz _ _ e1
  refine ⟨_, rfl, d, c, 6, rfl, hdz, by decide, by decide, fun r H12 r0 r1 hd13 k13 => ⟨_, _, rfl, rfl, ?_⟩⟩
  obtain ⟨xn, rfl⟩ := Int.eq_ofNat_of_zero_le r0
  have kT13 := keepT_of hdz k13
  refine ⟨1 + (xn : Int), rfl, by have := (i62' (n := 1 + xn) (by omega)).1; omega, by have := (i62' (n := 1 + xn) (by omega)).2; omega, for_it (n := (1 + (xn : Int)).toNat) walk_range (fun i σ' H' => ∃ s4 s9 s10 s11 s12 : Option V, σ' = [some (.ref a), some (.ref d), some (.ref pn), some (.ref kl), s4, some (vI mm), some (.ref p1), some (.ref p2), some (.ref D2), s9, s10, s11, s12, none] ∧
      Gx (allN a0 a1 a2 a3) H' d c D2 q3 (a0 ++ a1 ++ a2) a3 ∧ Flt H' p1 a0 a1 a2 a3 ∧ Flt H' p2 b0 b1 b2 b3 ∧ H' p1 = some (.tup [.str "flat", .ref q0, .ref qo, .ref q1, .ref q2, .ref q3, .ref qb, .ref qc]))
    ⟨_, none, none, none, none, rfl, gz.keep k13 hd13, f1z.keepT kT13, f2z.keepT kT13, kT13 _ _ e1z⟩ (fun _ _ _ _ _ => trivial) (fun i x σ' H' H2 hi pv y => ?_) (fun σ' H' pv => ?_)⟩
  · obtain ⟨s4, s9, s10, s11, s12, rfl, g, h1, h2, h3⟩ := pv
    obtain ⟨rfl, rfl⟩ := y
    refine ⟨_, rfl, _, rfl, _, rfl, p1, _, _, _, rfl, rfl, SqT.of h3, atI_nat (j := 5) rfl, allN a0 a1 a2 a3, d, c, D2, q3, _, a3, rfl, g, fun e v H3 hv hR hk hd3 k3 => ?_⟩
    have g3 := g.keep k3 hd3
    have kT := keepT_of g.ds k3
    have h13 := h1.keepT kT
    have h23 := h2.keepT kT
    have h33 := kT _ _ h3
    refine ⟨_, rfl, _, rfl, _, rfl, (by show 3 ≤ sizeLine; decide), fun L hL => ?_⟩
    have sL := same_new hL (.lst [V.ref p1, .ref p2, .ref p1])
    refine ⟨L, rfl, ⟨_, SqL.of upd_same⟩, for_it (walk_list (xs := [V.ref p1, .ref p2, .ref p1])) (fun j σ' H' => ∃ s10 s11 s12 : Option V, σ' = [some (.ref a), some (.ref d), some (.ref pn), some (.ref kl), some (.int (0 + (i : Int))), some (vI mm), some (.ref p1), some (.ref p2), some (.ref D2), some v, s10, s11, s12, none] ∧ Same (upd H3 L (.lst [V.ref p1, .ref p2, .ref p1])) H')
      ⟨_, _, _, rfl, Same.refl _⟩ (fun j σ' H' hj pv => ?_) (fun j x σ' H' H4 hj pv y => ?_) (fun σ' H' pv => ?_)⟩
    · obtain ⟨_, _, _, _, sm⟩ := pv
      exact SqL.of (sm _ _ upd_same)
    · obtain ⟨s10, s11, s12, rfl, sm⟩ := pv
      obtain ⟨rfl, hx⟩ := y
      have sA := sL.trans sm
      obtain ⟨pf, r0', r1', r2', r3', rfl, hf, hR'⟩ : ∃ (pf : Addr) (r0 r1 r2 r3 : List Row), x = .ref pf ∧ Flt H4 pf r0 r1 r2 r3 ∧ Right (fun z => z ∈ (r0 ++ r1 ++ r2 ++ r3).map Prod.fst) e := by
        have hA : Right (fun z => z ∈ (a0 ++ a1 ++ a2 ++ a3).map Prod.fst) e := hR
        have hB : Right (fun z => z ∈ (b0 ++ b1 ++ b2 ++ b3).map Prod.fst) e := by
          rw [← allN_eq x0 x1 x2 x3 y0 y1 y2 y3]
          exact hR
        match j, hx with
        | 0, hx => exact ⟨p1, a0, a1, a2, a3, (Option.some.inj hx).symm, h13.same sA, hA⟩
        | 1, hx => exact ⟨p2, b0, b1, b2, b3, (Option.some.inj hx).symm, h23.same sA, hB⟩
        | 2, hx => exact ⟨p1, a0, a1, a2, a3, (Option.some.inj hx).symm, h13.same sA, hA⟩
        | j + 3, hx => simp at hx
      have hv4 := EV.keepT (KeepT.same sA) _ _ hv
      refine ⟨_, rfl, pf, r0', r1', r2', r3', rfl, hf, fun wp Hw sw _ hwp => ?_⟩
      refine ⟨_, rfl, (fun z => z ∈ (r0' ++ r1' ++ r2' ++ r3').map Prod.fst, rhoOf (r0' ++ r1' ++ r2' ++ r3')), wp, e, v, rfl, wd_fold hwp, EV.keepT (KeepT.same sw) _ _ hv4, hR', by omega, fun Hq sq => ?_⟩
      refine ⟨_, rfl, _, rfl, pf, r0', r1', r2', r3', e, v, rfl, hf.same (sw.trans sq), EV.keepT (KeepT.same (sw.trans sq)) _ _ hv4, hR', by omega, fun Hr sr => ?_⟩
      have sall := sm.trans ((sw.trans sq).trans sr)
      cases ho : wid (rhoOf (r0' ++ r1' ++ r2' ++ r3')) e with
      | none =>
        refine ⟨_, rfl, rfl, _, rfl, ifY rfl ⟨_, rfl, rfl, _, rfl, ifN rfl ?_⟩⟩
        refine ⟨_, rfl, rfl, _, rfl, ifN rfl ?_⟩
        exact ⟨_, _, _, rfl, sall⟩
      | some u =>
        refine ⟨_, rfl, rfl, _, rfl, ifN rfl ?_⟩
        refine ⟨_, rfl, rfl, _, rfl, ifY rfl ⟨_, rfl, u, rfl, true, rfl, iteF ⟨_, rfl, _, rfl, rfl, _, rfl, ifN (by simp) ?_⟩⟩⟩
        exact ⟨_, _, _, rfl, sall⟩
    · obtain ⟨s10, s11, s12, rfl, sm⟩ := pv
      have sA := sL.trans sm
      exact ⟨_, _, _, _, _, rfl, g3.keep (Keep.of_same sA) (hd3.same sA), h13.same sA, h23.same sA, sA _ _ h33⟩
  · exact q _
end
end Bf

set_option Elab.async false
set_option linter.all false
set_option maxRecDepth 100000
set_option maxHeartbeats 4000000
namespace Bf
open PySem PySem.Spec PyProof.Rows L2
/-! ### what the top has written -/
theorem all_mk {l : PySem.W.OpenLaw} {w : World} {K : PySem.W.Frag} {h : Heap} {mg : Str → Option Value} {fa f__law_draw f__law_begin f__law_pop f__law_pool f__law_is_int f__law_pick f__law_rare f__law_const_of f__law_sign f__law_near f__law_over_one f__law_any f__law_exchanged f__law_expr f__law_other_expr f__law_drawn f__law_world f__law_wides f__law_wide f_joined_width f_picked_width f_cut_width f_op_width f_operation_of f_sized f_name_widths f_width_of f_law pA pC pO : Addr} (X : K.In h) (G : h.Ns mainGlobals mg) (hfa : mg "law" = some (.ref fa))
    {od2 an2 : Option Addr} {sl2 : Array (Option Value)} {oc2 kV2 dc2 pm2 cd2 ct2 : Value}
    {od4 an4 : Option Addr} {sl4 : Array (Option Value)} {oc4 kV4 dc4 pm4 cd4 ct4 : Value}
    {od6 an6 : Option Addr} {sl6 : Array (Option Value)} {oc6 kV6 dc6 pm6 cd6 ct6 : Value}
    {od8 an8 : Option Addr} {sl8 : Array (Option Value)} {oc8 kV8 dc8 pm8 cd8 ct8 : Value}
    {od10 an10 : Option Addr} {sl10 : Array (Option Value)} {oc10 kV10 dc10 pm10 cd10 ct10 : Value}
    {od12 an12 : Option Addr} {sl12 : Array (Option Value)} {oc12 kV12 dc12 pm12 cd12 ct12 : Value}
    {od14 an14 : Option Addr} {sl14 : Array (Option Value)} {oc14 kV14 dc14 pm14 cd14 ct14 : Value}
    {od16 an16 : Option Addr} {sl16 : Array (Option Value)} {oc16 kV16 dc16 pm16 cd16 ct16 : Value}
    {od18 an18 : Option Addr} {sl18 : Array (Option Value)} {oc18 kV18 dc18 pm18 cd18 ct18 : Value}
    {od20 an20 : Option Addr} {sl20 : Array (Option Value)} {oc20 kV20 dc20 pm20 cd20 ct20 : Value}
    {od22 an22 : Option Addr} {sl22 : Array (Option Value)} {oc22 kV22 dc22 pm22 cd22 ct22 : Value}
    {od24 an24 : Option Addr} {sl24 : Array (Option Value)} {oc24 kV24 dc24 pm24 cd24 ct24 : Value}
    {od26 an26 : Option Addr} {sl26 : Array (Option Value)} {oc26 kV26 dc26 pm26 cd26 ct26 : Value}
    {od28 an28 : Option Addr} {sl28 : Array (Option Value)} {oc28 kV28 dc28 pm28 cd28 ct28 : Value}
    {od30 an30 : Option Addr} {sl30 : Array (Option Value)} {oc30 kV30 dc30 pm30 cd30 ct30 : Value}
    {od32 an32 : Option Addr} {sl32 : Array (Option Value)} {oc32 kV32 dc32 pm32 cd32 ct32 : Value}
    {od34 an34 : Option Addr} {sl34 : Array (Option Value)} {oc34 kV34 dc34 pm34 cd34 ct34 : Value}
    {od36 an36 : Option Addr} {sl36 : Array (Option Value)} {oc36 kV36 dc36 pm36 cd36 ct36 : Value}
    {od38 an38 : Option Addr} {sl38 : Array (Option Value)} {oc38 kV38 dc38 pm38 cd38 ct38 : Value}
    {od40 an40 : Option Addr} {sl40 : Array (Option Value)} {oc40 kV40 dc40 pm40 cd40 ct40 : Value}
    {od42 an42 : Option Addr} {sl42 : Array (Option Value)} {oc42 kV42 dc42 pm42 cd42 ct42 : Value}
    {od44 an44 : Option Addr} {sl44 : Array (Option Value)} {oc44 kV44 dc44 pm44 cd44 ct44 : Value}
    {od46 an46 : Option Addr} {sl46 : Array (Option Value)} {oc46 kV46 dc46 pm46 cd46 ct46 : Value}
    {od48 an48 : Option Addr} {sl48 : Array (Option Value)} {oc48 kV48 dc48 pm48 cd48 ct48 : Value}
    {od50 an50 : Option Addr} {sl50 : Array (Option Value)} {oc50 kV50 dc50 pm50 cd50 ct50 : Value}
    {od52 an52 : Option Addr} {sl52 : Array (Option Value)} {oc52 kV52 dc52 pm52 cd52 ct52 : Value}
    {od54 an54 : Option Addr} {sl54 : Array (Option Value)} {oc54 kV54 dc54 pm54 cd54 ct54 : Value}
    {od56 an56 : Option Addr} {sl56 : Array (Option Value)} {oc56 kV56 dc56 pm56 cd56 ct56 : Value}
    {odA odC : Option Addr} {tM tA0 tA1 tA2 tA3 tA4 tA5 tC0 tC1 tC2 tC3 tO0 tO1 tO2 tO3 tO4 tO5 tO6 tO7 tO8 tO9 tO10 tO11 : Tok} {nA nC n : Nat} {slA slC : Array (Option Value)} {es : Array DictEntry}
    (a1 : PySem.W.nsIn K mainGlobals "_law_draw" = some (some (.ref f__law_draw)))
    (l2 : K.lookup f__law_draw = some ⟨oc2, od2, .func (PySem.W.fnOf "_law_draw" "_law_draw" (defArgs s_law_draw) (defBody s_law_draw) (defScope s_law_draw) .none kV2 dc2 pm2 an2 cd2 ct2), sl2⟩) (c2 : PySem.W.codeIn K cd2 "_law_draw" = true) (k2 : PySem.W.keepIn K (.ref f__law_draw) = true)
    (a3 : PySem.W.nsIn K mainGlobals "_law_begin" = some (some (.ref f__law_begin)))
    (l4 : K.lookup f__law_begin = some ⟨oc4, od4, .func (PySem.W.fnOf "_law_begin" "_law_begin" (defArgs s_law_begin) (defBody s_law_begin) (defScope s_law_begin) .none kV4 dc4 pm4 an4 cd4 ct4), sl4⟩) (c4 : PySem.W.codeIn K cd4 "_law_begin" = true) (k4 : PySem.W.keepIn K (.ref f__law_begin) = true)
    (a5 : PySem.W.nsIn K mainGlobals "_law_pop" = some (some (.ref f__law_pop)))
    (l6 : K.lookup f__law_pop = some ⟨oc6, od6, .func (PySem.W.fnOf "_law_pop" "_law_pop" (defArgs s_law_pop) (defBody s_law_pop) (defScope s_law_pop) .none kV6 dc6 pm6 an6 cd6 ct6), sl6⟩) (c6 : PySem.W.codeIn K cd6 "_law_pop" = true) (k6 : PySem.W.keepIn K (.ref f__law_pop) = true)
    (a7 : PySem.W.nsIn K mainGlobals "_law_pool" = some (some (.ref f__law_pool)))
    (l8 : K.lookup f__law_pool = some ⟨oc8, od8, .func (PySem.W.fnOf "_law_pool" "_law_pool" (defArgs s_law_pool) (defBody s_law_pool) (defScope s_law_pool) .none kV8 dc8 pm8 an8 cd8 ct8), sl8⟩) (c8 : PySem.W.codeIn K cd8 "_law_pool" = true) (k8 : PySem.W.keepIn K (.ref f__law_pool) = true)
    (a9 : PySem.W.nsIn K mainGlobals "_law_is_int" = some (some (.ref f__law_is_int)))
    (l10 : K.lookup f__law_is_int = some ⟨oc10, od10, .func (PySem.W.fnOf "_law_is_int" "_law_is_int" (defArgs s_law_is_int) (defBody s_law_is_int) (defScope s_law_is_int) .none kV10 dc10 pm10 an10 cd10 ct10), sl10⟩) (c10 : PySem.W.codeIn K cd10 "_law_is_int" = true) (k10 : PySem.W.keepIn K (.ref f__law_is_int) = true)
    (a11 : PySem.W.nsIn K mainGlobals "_law_pick" = some (some (.ref f__law_pick)))
    (l12 : K.lookup f__law_pick = some ⟨oc12, od12, .func (PySem.W.fnOf "_law_pick" "_law_pick" (defArgs s_law_pick) (defBody s_law_pick) (defScope s_law_pick) .none kV12 dc12 pm12 an12 cd12 ct12), sl12⟩) (c12 : PySem.W.codeIn K cd12 "_law_pick" = true) (k12 : PySem.W.keepIn K (.ref f__law_pick) = true)
    (a13 : PySem.W.nsIn K mainGlobals "_law_rare" = some (some (.ref f__law_rare)))
    (l14 : K.lookup f__law_rare = some ⟨oc14, od14, .func (PySem.W.fnOf "_law_rare" "_law_rare" (defArgs s_law_rare) (defBody s_law_rare) (defScope s_law_rare) .none kV14 dc14 pm14 an14 cd14 ct14), sl14⟩) (c14 : PySem.W.codeIn K cd14 "_law_rare" = true) (k14 : PySem.W.keepIn K (.ref f__law_rare) = true)
    (a15 : PySem.W.nsIn K mainGlobals "_law_const_of" = some (some (.ref f__law_const_of)))
    (l16 : K.lookup f__law_const_of = some ⟨oc16, od16, .func (PySem.W.fnOf "_law_const_of" "_law_const_of" (defArgs s_law_const_of) (defBody s_law_const_of) (defScope s_law_const_of) .none kV16 dc16 pm16 an16 cd16 ct16), sl16⟩) (c16 : PySem.W.codeIn K cd16 "_law_const_of" = true) (k16 : PySem.W.keepIn K (.ref f__law_const_of) = true)
    (a17 : PySem.W.nsIn K mainGlobals "_law_sign" = some (some (.ref f__law_sign)))
    (l18 : K.lookup f__law_sign = some ⟨oc18, od18, .func (PySem.W.fnOf "_law_sign" "_law_sign" (defArgs s_law_sign) (defBody s_law_sign) (defScope s_law_sign) .none kV18 dc18 pm18 an18 cd18 ct18), sl18⟩) (c18 : PySem.W.codeIn K cd18 "_law_sign" = true) (k18 : PySem.W.keepIn K (.ref f__law_sign) = true)
    (a19 : PySem.W.nsIn K mainGlobals "_law_near" = some (some (.ref f__law_near)))
    (l20 : K.lookup f__law_near = some ⟨oc20, od20, .func (PySem.W.fnOf "_law_near" "_law_near" (defArgs s_law_near) (defBody s_law_near) (defScope s_law_near) .none kV20 dc20 pm20 an20 cd20 ct20), sl20⟩) (c20 : PySem.W.codeIn K cd20 "_law_near" = true) (k20 : PySem.W.keepIn K (.ref f__law_near) = true)
    (a21 : PySem.W.nsIn K mainGlobals "_law_over_one" = some (some (.ref f__law_over_one)))
    (l22 : K.lookup f__law_over_one = some ⟨oc22, od22, .func (PySem.W.fnOf "_law_over_one" "_law_over_one" (defArgs s_law_over_one) (defBody s_law_over_one) (defScope s_law_over_one) .none kV22 dc22 pm22 an22 cd22 ct22), sl22⟩) (c22 : PySem.W.codeIn K cd22 "_law_over_one" = true) (k22 : PySem.W.keepIn K (.ref f__law_over_one) = true)
    (a23 : PySem.W.nsIn K mainGlobals "_law_any" = some (some (.ref f__law_any)))
    (l24 : K.lookup f__law_any = some ⟨oc24, od24, .func (PySem.W.fnOf "_law_any" "_law_any" (defArgs s_law_any) (defBody s_law_any) (defScope s_law_any) .none kV24 dc24 pm24 an24 cd24 ct24), sl24⟩) (c24 : PySem.W.codeIn K cd24 "_law_any" = true) (k24 : PySem.W.keepIn K (.ref f__law_any) = true)
    (a25 : PySem.W.nsIn K mainGlobals "_law_exchanged" = some (some (.ref f__law_exchanged)))
    (l26 : K.lookup f__law_exchanged = some ⟨oc26, od26, .func (PySem.W.fnOf "_law_exchanged" "_law_exchanged" (defArgs s_law_exchanged) (defBody s_law_exchanged) (defScope s_law_exchanged) .none kV26 dc26 pm26 an26 cd26 ct26), sl26⟩) (c26 : PySem.W.codeIn K cd26 "_law_exchanged" = true) (k26 : PySem.W.keepIn K (.ref f__law_exchanged) = true)
    (a27 : PySem.W.nsIn K mainGlobals "_law_expr" = some (some (.ref f__law_expr)))
    (l28 : K.lookup f__law_expr = some ⟨oc28, od28, .func (PySem.W.fnOf "_law_expr" "_law_expr" (defArgs s_law_expr) (defBody s_law_expr) (defScope s_law_expr) .none kV28 dc28 pm28 an28 cd28 ct28), sl28⟩) (c28 : PySem.W.codeIn K cd28 "_law_expr" = true) (k28 : PySem.W.keepIn K (.ref f__law_expr) = true)
    (a29 : PySem.W.nsIn K mainGlobals "_law_other_expr" = some (some (.ref f__law_other_expr)))
    (l30 : K.lookup f__law_other_expr = some ⟨oc30, od30, .func (PySem.W.fnOf "_law_other_expr" "_law_other_expr" (defArgs s_law_other_expr) (defBody s_law_other_expr) (defScope s_law_other_expr) .none kV30 dc30 pm30 an30 cd30 ct30), sl30⟩) (c30 : PySem.W.codeIn K cd30 "_law_other_expr" = true) (k30 : PySem.W.keepIn K (.ref f__law_other_expr) = true)
    (a31 : PySem.W.nsIn K mainGlobals "_law_drawn" = some (some (.ref f__law_drawn)))
    (l32 : K.lookup f__law_drawn = some ⟨oc32, od32, .func (PySem.W.fnOf "_law_drawn" "_law_drawn" (defArgs s_law_drawn) (defBody s_law_drawn) (defScope s_law_drawn) .none kV32 dc32 pm32 an32 cd32 ct32), sl32⟩) (c32 : PySem.W.codeIn K cd32 "_law_drawn" = true) (k32 : PySem.W.keepIn K (.ref f__law_drawn) = true)
    (a33 : PySem.W.nsIn K mainGlobals "_law_world" = some (some (.ref f__law_world)))
    (l34 : K.lookup f__law_world = some ⟨oc34, od34, .func (PySem.W.fnOf "_law_world" "_law_world" (defArgs s_law_world) (defBody s_law_world) (defScope s_law_world) .none kV34 dc34 pm34 an34 cd34 ct34), sl34⟩) (c34 : PySem.W.codeIn K cd34 "_law_world" = true) (k34 : PySem.W.keepIn K (.ref f__law_world) = true)
    (a35 : PySem.W.nsIn K mainGlobals "_law_wides" = some (some (.ref f__law_wides)))
    (l36 : K.lookup f__law_wides = some ⟨oc36, od36, .func (PySem.W.fnOf "_law_wides" "_law_wides" (defArgs s_law_wides) (defBody s_law_wides) (defScope s_law_wides) .none kV36 dc36 pm36 an36 cd36 ct36), sl36⟩) (c36 : PySem.W.codeIn K cd36 "_law_wides" = true) (k36 : PySem.W.keepIn K (.ref f__law_wides) = true)
    (a37 : PySem.W.nsIn K mainGlobals "_law_wide" = some (some (.ref f__law_wide)))
    (l38 : K.lookup f__law_wide = some ⟨oc38, od38, .func (PySem.W.fnOf "_law_wide" "_law_wide" (defArgs s_law_wide) (defBody s_law_wide) (defScope s_law_wide) .none kV38 dc38 pm38 an38 cd38 ct38), sl38⟩) (c38 : PySem.W.codeIn K cd38 "_law_wide" = true) (k38 : PySem.W.keepIn K (.ref f__law_wide) = true)
    (a39 : PySem.W.nsIn K mainGlobals "joined_width" = some (some (.ref f_joined_width)))
    (l40 : K.lookup f_joined_width = some ⟨oc40, od40, .func (PySem.W.fnOf "joined_width" "joined_width" (defArgs s_joined_width) (defBody s_joined_width) (defScope s_joined_width) .none kV40 dc40 pm40 an40 cd40 ct40), sl40⟩) (c40 : PySem.W.codeIn K cd40 "joined_width" = true) (k40 : PySem.W.keepIn K (.ref f_joined_width) = true)
    (a41 : PySem.W.nsIn K mainGlobals "picked_width" = some (some (.ref f_picked_width)))
    (l42 : K.lookup f_picked_width = some ⟨oc42, od42, .func (PySem.W.fnOf "picked_width" "picked_width" (defArgs s_picked_width) (defBody s_picked_width) (defScope s_picked_width) .none kV42 dc42 pm42 an42 cd42 ct42), sl42⟩) (c42 : PySem.W.codeIn K cd42 "picked_width" = true) (k42 : PySem.W.keepIn K (.ref f_picked_width) = true)
    (a43 : PySem.W.nsIn K mainGlobals "cut_width" = some (some (.ref f_cut_width)))
    (l44 : K.lookup f_cut_width = some ⟨oc44, od44, .func (PySem.W.fnOf "cut_width" "cut_width" (defArgs s_cut_width) (defBody s_cut_width) (defScope s_cut_width) .none kV44 dc44 pm44 an44 cd44 ct44), sl44⟩) (c44 : PySem.W.codeIn K cd44 "cut_width" = true) (k44 : PySem.W.keepIn K (.ref f_cut_width) = true)
    (a45 : PySem.W.nsIn K mainGlobals "op_width" = some (some (.ref f_op_width)))
    (l46 : K.lookup f_op_width = some ⟨oc46, od46, .func (PySem.W.fnOf "op_width" "op_width" (defArgs s_op_width) (defBody s_op_width) (defScope s_op_width) .none kV46 dc46 pm46 an46 cd46 ct46), sl46⟩) (c46 : PySem.W.codeIn K cd46 "op_width" = true) (k46 : PySem.W.keepIn K (.ref f_op_width) = true)
    (a47 : PySem.W.nsIn K mainGlobals "operation_of" = some (some (.ref f_operation_of)))
    (l48 : K.lookup f_operation_of = some ⟨oc48, od48, .func (PySem.W.fnOf "operation_of" "operation_of" (defArgs s_operation_of) (defBody s_operation_of) (defScope s_operation_of) .none kV48 dc48 pm48 an48 cd48 ct48), sl48⟩) (c48 : PySem.W.codeIn K cd48 "operation_of" = true) (k48 : PySem.W.keepIn K (.ref f_operation_of) = true)
    (a49 : PySem.W.nsIn K mainGlobals "sized" = some (some (.ref f_sized)))
    (l50 : K.lookup f_sized = some ⟨oc50, od50, .func (PySem.W.fnOf "sized" "sized" (defArgs s_sized) (defBody s_sized) (defScope s_sized) .none kV50 dc50 pm50 an50 cd50 ct50), sl50⟩) (c50 : PySem.W.codeIn K cd50 "sized" = true) (k50 : PySem.W.keepIn K (.ref f_sized) = true)
    (a51 : PySem.W.nsIn K mainGlobals "name_widths" = some (some (.ref f_name_widths)))
    (l52 : K.lookup f_name_widths = some ⟨oc52, od52, .func (PySem.W.fnOf "name_widths" "name_widths" (defArgs s_name_widths) (defBody s_name_widths) (defScope s_name_widths) .none kV52 dc52 pm52 an52 cd52 ct52), sl52⟩) (c52 : PySem.W.codeIn K cd52 "name_widths" = true) (k52 : PySem.W.keepIn K (.ref f_name_widths) = true)
    (a53 : PySem.W.nsIn K mainGlobals "width_of" = some (some (.ref f_width_of)))
    (l54 : K.lookup f_width_of = some ⟨oc54, od54, .func (PySem.W.fnOf "width_of" "width_of" (defArgs s_width_of) (defBody s_width_of) (defScope s_width_of) .none kV54 dc54 pm54 an54 cd54 ct54), sl54⟩) (c54 : PySem.W.codeIn K cd54 "width_of" = true) (k54 : PySem.W.keepIn K (.ref f_width_of) = true)
    (a55 : PySem.W.nsIn K mainGlobals "law" = some (some (.ref f_law)))
    (l56 : K.lookup f_law = some ⟨oc56, od56, .func (PySem.W.fnOf "law" "law" (defArgs s_law) (defBody s_law) (defScope s_law) .none kV56 dc56 pm56 an56 cd56 ct56), sl56⟩) (c56 : PySem.W.codeIn K cd56 "law" = true) (k56 : PySem.W.keepIn K (.ref f_law) = true)
    (x57 : PySem.W.nsIn K mainGlobals "MOST_WIDTH" = some (some (.int 8 tM)))
    (a58 : PySem.W.nsIn K mainGlobals "ALIKE" = some (some (.ref pA)))
    (x59 : K.lookup pA = some ⟨.type "tuple", odA, .seq #[.str "or" tA0, .str "xor" tA1, .str "and" tA2, .str "add" tA3, .str "sub" tA4, .str "mul" tA5] nA, slA⟩)
    (a60 : PySem.W.nsIn K mainGlobals "COMPARING" = some (some (.ref pC)))
    (x61 : K.lookup pC = some ⟨.type "tuple", odC, .seq #[.str "eq" tC0, .str "ne" tC1, .str "lt" tC2, .str "le" tC3] nC, slC⟩)
    (a62 : PySem.W.nsIn K mainGlobals "OPERATIONS" = some (some (.ref pO)))
    (x63 : K.lookup pO = some ⟨.type "dict", none, .dict es n, #[]⟩)
    (x64 : PySem.W.KeysLit w.params es.toList)
    (x65 : (pO == sysModules) = false)
    (x66 : PySem.W.nsIn K pO "|" = some (some (.str "or" tO0)))
    (x67 : PySem.W.nsIn K pO "^" = some (some (.str "xor" tO1)))
    (x68 : PySem.W.nsIn K pO "&" = some (some (.str "and" tO2)))
    (x69 : PySem.W.nsIn K pO "==" = some (some (.str "eq" tO3)))
    (x70 : PySem.W.nsIn K pO "!=" = some (some (.str "ne" tO4)))
    (x71 : PySem.W.nsIn K pO "<" = some (some (.str "lt" tO5)))
    (x72 : PySem.W.nsIn K pO "<=" = some (some (.str "le" tO6)))
    (x73 : PySem.W.nsIn K pO "<<" = some (some (.str "shl" tO7)))
    (x74 : PySem.W.nsIn K pO ">>" = some (some (.str "shr" tO8)))
    (x75 : PySem.W.nsIn K pO "+" = some (some (.str "add" tO9)))
    (x76 : PySem.W.nsIn K pO "-" = some (some (.str "sub" tO10)))
    (x77 : PySem.W.nsIn K pO "*" = some (some (.str "mul" tO11)))
    (x78 : PySem.W.nsIn K pO "join" = some none)
    (x79 : PySem.W.nsIn K pO "not" = some none)
    (x80 : PySem.W.nsIn K pO "neg" = some none)
    (x81 : PySem.W.nsIn K pO "any" = some none)
    (x82 : PySem.W.nsIn K pO "all" = some none)
    (x83 : PySem.W.nsIn K pO "odd" = some none)
    (x84 : PySem.W.nsIn K pO "pick" = some none)
    (z85 : PySem.W.nsIn K mainGlobals "int" = some none)
    (z86 : PySem.W.nsIn K mainGlobals "len" = some none)
    (z87 : PySem.W.nsIn K mainGlobals "abs" = some none)
    (z88 : PySem.W.nsIn K mainGlobals "isinstance" = some none)
    (z89 : PySem.W.nsIn K mainGlobals "range" = some none)
    (z90 : PySem.W.nsIn K mainGlobals "tuple" = some none)
    (z91 : PySem.W.nsIn K mainGlobals "sum" = some none)
    (z92 : PySem.W.nsIn K mainGlobals "bool" = some none)
    (z93 : PySem.W.nsIn K mainGlobals "min" = some none)
    (z94 : PySem.W.nsIn K mainGlobals "max" = some none) :
    ∃ fd : FuncData, (∀ (s : Shared) (v : Value), BindsTo s fd ⟨[v], []⟩ [("_law_script", v)]) ∧ ∀ base : Heap, K.In base → base.Ns mainGlobals mg → FnOk l.prog w K mg base CX0 65 fa fd ["_law_script"] (spLaw K) := by
  have e := hfa.symm.trans (PySem.W.mg_of X G a55)
  cases e
  have T : Txt mg := ⟨PySem.W.mg_none_of X G z85, PySem.W.mg_none_of X G z86, PySem.W.mg_none_of X G z87, PySem.W.mg_none_of X G z88, PySem.W.mg_none_of X G z89, PySem.W.mg_none_of X G z90, PySem.W.mg_none_of X G z91, PySem.W.mg_none_of X G z92, PySem.W.mg_none_of X G z93, PySem.W.mg_none_of X G z94⟩
  have opsL : ∀ o ∈ (["|", "^", "&", "==", "!=", "<", "<=", "<<", ">>", "+", "-", "*", "join", "not", "neg", "any", "all", "odd", "pick"] : List Str), (tbl o = o ∧ PySem.W.nsIn K pO o = some none) ∨ ∃ t, PySem.W.nsIn K pO o = some (some (.str (tbl o) t)) := (List.forall_mem_cons.mpr ⟨.inr ⟨tO0, show PySem.W.nsIn K pO "|" = some (some (.str (tbl "|") tO0)) by rw [show tbl "|" = "or" by decide +kernel]; exact x66⟩, (List.forall_mem_cons.mpr ⟨.inr ⟨tO1, show PySem.W.nsIn K pO "^" = some (some (.str (tbl "^") tO1)) by rw [show tbl "^" = "xor" by decide +kernel]; exact x67⟩, (List.forall_mem_cons.mpr ⟨.inr ⟨tO2, show PySem.W.nsIn K pO "&" = some (some (.str (tbl "&") tO2)) by rw [show tbl "&" = "and" by decide +kernel]; exact x68⟩, (List.forall_mem_cons.mpr ⟨.inr ⟨tO3, show PySem.W.nsIn K pO "==" = some (some (.str (tbl "==") tO3)) by rw [show tbl "==" = "eq" by decide +kernel]; exact x69⟩, (List.forall_mem_cons.mpr ⟨.inr ⟨tO4, show PySem.W.nsIn K pO "!=" = some (some (.str (tbl "!=") tO4)) by rw [show tbl "!=" = "ne" by decide +kernel]; exact x70⟩, (List.forall_mem_cons.mpr ⟨.inr ⟨tO5, show PySem.W.nsIn K pO "<" = some (some (.str (tbl "<") tO5)) by rw [show tbl "<" = "lt" by decide +kernel]; exact x71⟩, (List.forall_mem_cons.mpr ⟨.inr ⟨tO6, show PySem.W.nsIn K pO "<=" = some (some (.str (tbl "<=") tO6)) by rw [show tbl "<=" = "le" by decide +kernel]; exact x72⟩, (List.forall_mem_cons.mpr ⟨.inr ⟨tO7, show PySem.W.nsIn K pO "<<" = some (some (.str (tbl "<<") tO7)) by rw [show tbl "<<" = "shl" by decide +kernel]; exact x73⟩, (List.forall_mem_cons.mpr ⟨.inr ⟨tO8, show PySem.W.nsIn K pO ">>" = some (some (.str (tbl ">>") tO8)) by rw [show tbl ">>" = "shr" by decide +kernel]; exact x74⟩, (List.forall_mem_cons.mpr ⟨.inr ⟨tO9, show PySem.W.nsIn K pO "+" = some (some (.str (tbl "+") tO9)) by rw [show tbl "+" = "add" by decide +kernel]; exact x75⟩, (List.forall_mem_cons.mpr ⟨.inr ⟨tO10, show PySem.W.nsIn K pO "-" = some (some (.str (tbl "-") tO10)) by rw [show tbl "-" = "sub" by decide +kernel]; exact x76⟩, (List.forall_mem_cons.mpr ⟨.inr ⟨tO11, show PySem.W.nsIn K pO "*" = some (some (.str (tbl "*") tO11)) by rw [show tbl "*" = "mul" by decide +kernel]; exact x77⟩, (List.forall_mem_cons.mpr ⟨.inl ⟨by decide +kernel, x78⟩, (List.forall_mem_cons.mpr ⟨.inl ⟨by decide +kernel, x79⟩, (List.forall_mem_cons.mpr ⟨.inl ⟨by decide +kernel, x80⟩, (List.forall_mem_cons.mpr ⟨.inl ⟨by decide +kernel, x81⟩, (List.forall_mem_cons.mpr ⟨.inl ⟨by decide +kernel, x82⟩, (List.forall_mem_cons.mpr ⟨.inl ⟨by decide +kernel, x83⟩, (List.forall_mem_cons.mpr ⟨.inl ⟨by decide +kernel, x84⟩, (fun o h => (by cases h))⟩)⟩)⟩)⟩)⟩)⟩)⟩)⟩)⟩)⟩)⟩)⟩)⟩)⟩)⟩)⟩)⟩)⟩)⟩)
  have TP : TxtP K w mg tM pA pC pO es n := ⟨T, PySem.W.mg_of X G x57, PySem.W.mg_of X G a58, PySem.W.mg_of X G a60, PySem.W.mg_of X G a62, fun H => .inr ⟨_, _, _, x59, rfl, rfl, (by show _ ≤ 2 ^ 24; simp), (.cons ⟨_, rfl⟩ (.cons ⟨_, rfl⟩ (.cons ⟨_, rfl⟩ (.cons ⟨_, rfl⟩ (.cons ⟨_, rfl⟩ (.cons ⟨_, rfl⟩ .nil))))))⟩, fun H => .inr ⟨_, _, _, x61, rfl, rfl, (by show _ ≤ 2 ^ 24; simp), (.cons ⟨_, rfl⟩ (.cons ⟨_, rfl⟩ (.cons ⟨_, rfl⟩ (.cons ⟨_, rfl⟩ .nil))))⟩, ⟨x63, x64, x65⟩, fun o ho => opsL o ho⟩
  have F_law_draw := fun_mk (st := s_law_draw) l2 c2 k2
  have F_law_begin := fun_mk (st := s_law_begin) l4 c4 k4
  have F_law_pop := fun_mk (st := s_law_pop) l6 c6 k6
  have F_law_pool := fun_mk (st := s_law_pool) l8 c8 k8
  have F_law_is_int := fun_mk (st := s_law_is_int) l10 c10 k10
  have F_law_pick := fun_mk (st := s_law_pick) l12 c12 k12
  have F_law_rare := fun_mk (st := s_law_rare) l14 c14 k14
  have F_law_const_of := fun_mk (st := s_law_const_of) l16 c16 k16
  have F_law_sign := fun_mk (st := s_law_sign) l18 c18 k18
  have F_law_near := fun_mk (st := s_law_near) l20 c20 k20
  have F_law_over_one := fun_mk (st := s_law_over_one) l22 c22 k22
  have F_law_any := fun_mk (st := s_law_any) l24 c24 k24
  have F_law_exchanged := fun_mk (st := s_law_exchanged) l26 c26 k26
  have F_law_expr := fun_mk (st := s_law_expr) l28 c28 k28
  have F_law_other_expr := fun_mk (st := s_law_other_expr) l30 c30 k30
  have F_law_drawn := fun_mk (st := s_law_drawn) l32 c32 k32
  have F_law_world := fun_mk (st := s_law_world) l34 c34 k34
  have F_law_wides := fun_mk (st := s_law_wides) l36 c36 k36
  have F_law_wide := fun_mk (st := s_law_wide) l38 c38 k38
  have F_joined_width := fun_mk (st := s_joined_width) l40 c40 k40
  have F_picked_width := fun_mk (st := s_picked_width) l42 c42 k42
  have F_cut_width := fun_mk (st := s_cut_width) l44 c44 k44
  have F_op_width := fun_mk (st := s_op_width) l46 c46 k46
  have F_operation_of := fun_mk (st := s_operation_of) l48 c48 k48
  have F_sized := fun_mk (st := s_sized) l50 c50 k50
  have F_name_widths := fun_mk (st := s_name_widths) l52 c52 k52
  have F_width_of := fun_mk (st := s_width_of) l54 c54 k54
  have F_law := fun_mk (st := s_law) l56 c56 k56
  refine ⟨PySem.W.fnOf "law" "law" (defArgs s_law) (defBody s_law) (defScope s_law) .none kV56 dc56 pm56 an56 cd56 ct56, fun s v => .of_eq rfl, fun base _ _ => ?_⟩
  have Dd : Dn l.prog w K mg base "_law_draw" ["_law_d", "_law_many"] 1 spDraw := ⟨f__law_draw, _, ok_draw F_law_draw T, (PySem.W.mg_of X G a1), k2, (F_law_draw.binds (ps := ["_law_d", "_law_many"]) fun _ _ _ _ _ _ us hl => match us, hl with | [_, _], _ => rfl)⟩
  have Db : Dn l.prog w K mg base "_law_begin" ["_law_script"] 1 (spBegin K) := ⟨f__law_begin, _, ok_begin F_law_begin T, (PySem.W.mg_of X G a3), k4, (F_law_begin.binds (ps := ["_law_script"]) fun _ _ _ _ _ _ us hl => match us, hl with | [_], _ => rfl)⟩
  have Dpop : Dn l.prog w K mg base "_law_pop" ["_law_d", "_law_row"] 2 spPop := ⟨f__law_pop, _, ok_pop F_law_pop T Dd, (PySem.W.mg_of X G a5), k6, (F_law_pop.binds (ps := ["_law_d", "_law_row"]) fun _ _ _ _ _ _ us hl => match us, hl with | [_, _], _ => rfl)⟩
  have Dpool : Dn l.prog w K mg base "_law_pool" [] 1 spPool := ⟨f__law_pool, _, ok_pool F_law_pool, (PySem.W.mg_of X G a7), k8, (F_law_pool.binds (ps := []) fun _ _ _ _ _ _ us hl => match us, hl with | [], _ => rfl)⟩
  have Di : Dn l.prog w K mg base "_law_is_int" ["_law_thing"] 1 spIsInt := ⟨f__law_is_int, _, ok_isInt F_law_is_int T, (PySem.W.mg_of X G a9), k10, (F_law_is_int.binds (ps := ["_law_thing"]) fun _ _ _ _ _ _ us hl => match us, hl with | [_], _ => rfl)⟩
  have Dp : Dn l.prog w K mg base "_law_pick" ["_law_d", "_law_row"] 2 spPickV := ⟨f__law_pick, _, ok_pick F_law_pick T Dd, (PySem.W.mg_of X G a11), k12, (F_law_pick.binds (ps := ["_law_d", "_law_row"]) fun _ _ _ _ _ _ us hl => match us, hl with | [_, _], _ => rfl)⟩
  have Dr : Dn l.prog w K mg base "_law_rare" ["_law_d", "_law_many"] 2 spRare := ⟨f__law_rare, _, ok_rare F_law_rare Dd, (PySem.W.mg_of X G a13), k14, (F_law_rare.binds (ps := ["_law_d", "_law_many"]) fun _ _ _ _ _ _ us hl => match us, hl with | [_, _], _ => rfl)⟩
  have Ds : Dn l.prog w K mg base "_law_sign" ["_law_d"] 3 spSign := ⟨f__law_sign, _, ok_sgn F_law_sign Dp, (PySem.W.mg_of X G a17), k18, (F_law_sign.binds (ps := ["_law_d"]) fun _ _ _ _ _ _ us hl => match us, hl with | [_], _ => rfl)⟩
  have Dc : ∀ N : Str → Prop, Dn l.prog w K mg base "_law_const_of" ["_law_d", "_law_wide_here"] 2 (spConst N) := fun N => ⟨f__law_const_of, _, ok_const F_law_const_of Dd, (PySem.W.mg_of X G a15), k16, (F_law_const_of.binds (ps := ["_law_d", "_law_wide_here"]) fun _ _ _ _ _ _ us hl => match us, hl with | [_, _], _ => rfl)⟩
  have Dnr : ∀ N : Str → Prop, Dn l.prog w K mg base "_law_near" ["_law_d", "_law_stores"] 4 (spNear N) := fun N => ⟨f__law_near, _, ok_near F_law_near T Dd Dp (Dc N) Ds, (PySem.W.mg_of X G a19), k20, (F_law_near.binds (ps := ["_law_d", "_law_stores"]) fun _ _ _ _ _ _ us hl => match us, hl with | [_, _], _ => rfl)⟩
  have Do : ∀ (N : Str → Prop) (k : Nat), Dn l.prog w K mg base "_law_over_one" ["_law_d", "_law_stores", "_law_one"] 3 (spOver N k) := fun N k => ⟨f__law_over_one, _, ok_over F_law_over_one T Dd Dp, (PySem.W.mg_of X G a21), k22, (F_law_over_one.binds (ps := ["_law_d", "_law_stores", "_law_one"]) fun _ _ _ _ _ _ us hl => match us, hl with | [_, _, _], _ => rfl)⟩
  have Da2 : ∀ N : Str → Prop, Dn l.prog w K mg base "_law_any" ["_law_d", "_law_env", "_law_stores", "_law_depth"] 6 (spAny N 2) := fun N => ⟨f__law_any, _, ok_any F_law_any Dd Dp (Dc N) Ds (Dnr N) (Do N) (PySem.W.mg_of X G a23) k24 (F_law_any.binds (ps := ["_law_d", "_law_env", "_law_stores", "_law_depth"]) fun _ _ _ _ _ _ us hl => match us, hl with | [_, _, _, _], _ => rfl) 2, (PySem.W.mg_of X G a23), k24, (F_law_any.binds (ps := ["_law_d", "_law_env", "_law_stores", "_law_depth"]) fun _ _ _ _ _ _ us hl => match us, hl with | [_, _, _, _], _ => rfl)⟩
  have Da4 : ∀ N : Str → Prop, Dn l.prog w K mg base "_law_any" ["_law_d", "_law_env", "_law_stores", "_law_depth"] 8 (spAny N 4) := fun N => ⟨f__law_any, _, ok_any F_law_any Dd Dp (Dc N) Ds (Dnr N) (Do N) (PySem.W.mg_of X G a23) k24 (F_law_any.binds (ps := ["_law_d", "_law_env", "_law_stores", "_law_depth"]) fun _ _ _ _ _ _ us hl => match us, hl with | [_, _, _, _], _ => rfl) 4, (PySem.W.mg_of X G a23), k24, (F_law_any.binds (ps := ["_law_d", "_law_env", "_law_stores", "_law_depth"]) fun _ _ _ _ _ _ us hl => match us, hl with | [_, _, _, _], _ => rfl)⟩
  have Dx : ∀ N : Str → Prop, Dn l.prog w K mg base "_law_exchanged" ["_law_d", "_law_expr_here", "_law_env", "_law_stores"] 11 (spExch N 4) := fun N => ⟨f__law_exchanged, _, ok_exch F_law_exchanged T Dd Dp (Da2 N) (PySem.W.mg_of X G a25) k26 (F_law_exchanged.binds (ps := ["_law_d", "_law_expr_here", "_law_env", "_law_stores"]) fun _ _ _ _ _ _ us hl => match us, hl with | [_, _, _, _], _ => rfl) 4, (PySem.W.mg_of X G a25), k26, (F_law_exchanged.binds (ps := ["_law_d", "_law_expr_here", "_law_env", "_law_stores"]) fun _ _ _ _ _ _ us hl => match us, hl with | [_, _, _, _], _ => rfl)⟩
  have De : ∀ N : Str → Prop, Dn l.prog w K mg base "_law_expr" ["_law_d", "_law_env", "_law_stores", "_law_width", "_law_depth"] 11 (spExpr N 4) := fun N => ⟨f__law_expr, _, ok_expr F_law_expr F_law_other_expr T Dd Dp (PySem.W.mg_of X G a27) k28 (F_law_expr.binds (ps := ["_law_d", "_law_env", "_law_stores", "_law_width", "_law_depth"]) fun _ _ _ _ _ _ us hl => match us, hl with | [_, _, _, _, _], _ => rfl) (PySem.W.mg_of X G a29) k30 (F_law_other_expr.binds (ps := ["_law_d", "_law_env", "_law_stores", "_law_width", "_law_less", "_law_turn"]) fun _ _ _ _ _ _ us hl => match us, hl with | [_, _, _, _, _, _], _ => rfl) 4, (PySem.W.mg_of X G a27), k28, (F_law_expr.binds (ps := ["_law_d", "_law_env", "_law_stores", "_law_width", "_law_depth"]) fun _ _ _ _ _ _ us hl => match us, hl with | [_, _, _, _, _], _ => rfl)⟩
  have Ddr : Dn l.prog w K mg base "_law_drawn" ["_law_d", "_law_env", "_law_stores"] 12 spDrawnE := ⟨f__law_drawn, _, fn_ex (sp := fun N : Str → Prop => spDrawn N) (fun N => ok_drawn F_law_drawn T Dd Dp Dr (Dnr N) (Da4 N) (De N) (Dx N)), (PySem.W.mg_of X G a31), k32, (F_law_drawn.binds (ps := ["_law_d", "_law_env", "_law_stores"]) fun _ _ _ _ _ _ us hl => match us, hl with | [_, _, _], _ => rfl)⟩
  have Dw : Dn l.prog w K mg base "_law_world" ["_law_d", "_law_kinds", "_law_most"] 3 spWorld := ⟨f__law_world, _, ok_world F_law_world T Dd (Dc fun _ => True), (PySem.W.mg_of X G a33), k34, (F_law_world.binds (ps := ["_law_d", "_law_kinds", "_law_most"]) fun _ _ _ _ _ _ us hl => match us, hl with | [_, _, _], _ => rfl)⟩
  have Dws : Dn l.prog w K mg base "_law_wides" ["_law_flat"] 1 spNameW := ⟨f__law_wides, _, ok_wides F_law_wides, (PySem.W.mg_of X G a35), k36, (F_law_wides.binds (ps := ["_law_flat"]) fun _ _ _ _ _ _ us hl => match us, hl with | [_], _ => rfl)⟩
  have Dwd : Dn l.prog w K mg base "_law_wide" ["_law_wides_here", "_law_expr_here"] 61 spLWideE := ⟨f__law_wide, _, fn_ex (sp := fun x : (Str → Prop) × (Str → Int) => spLWide x.1 x.2 60) (fun x => ok_wide F_law_wide T (PySem.W.mg_of X G a37) k38 (F_law_wide.binds (ps := ["_law_wides_here", "_law_expr_here"]) fun _ _ _ _ _ _ us hl => match us, hl with | [_, _], _ => rfl) 60), (PySem.W.mg_of X G a37), k38, (F_law_wide.binds (ps := ["_law_wides_here", "_law_expr_here"]) fun _ _ _ _ _ _ us hl => match us, hl with | [_, _], _ => rfl)⟩
  have Djw : Dn l.prog w K mg base "joined_width" ["widths"] 1 (spJoined K) := ⟨f_joined_width, _, ok_joined F_joined_width TP, (PySem.W.mg_of X G a39), k40, (F_joined_width.binds (ps := ["widths"]) fun _ _ _ _ _ _ us hl => match us, hl with | [_], _ => rfl)⟩
  have Dpw : Dn l.prog w K mg base "picked_width" ["widths"] 1 (spPicked K) := ⟨f_picked_width, _, ok_picked F_picked_width TP, (PySem.W.mg_of X G a41), k42, (F_picked_width.binds (ps := ["widths"]) fun _ _ _ _ _ _ us hl => match us, hl with | [_], _ => rfl)⟩
  have Dcw : Dn l.prog w K mg base "cut_width" ["op", "width", "told", "low"] 1 spCut := ⟨f_cut_width, _, ok_cut F_cut_width TP, (PySem.W.mg_of X G a43), k44, (F_cut_width.binds (ps := ["op", "width", "told", "low"]) fun _ _ _ _ _ _ us hl => match us, hl with | [_, _, _, _], _ => rfl)⟩
  have Dow : Dn l.prog w K mg base "op_width" ["op", "widths", "told", "low"] 2 (spOpW K) := ⟨f_op_width, _, ok_opw F_op_width TP Dpw Djw Dcw, (PySem.W.mg_of X G a45), k46, (F_op_width.binds (ps := ["op", "widths", "told", "low"]) fun _ _ _ _ _ _ us hl => match us, hl with | [_, _, _, _], _ => rfl)⟩
  have Dof : ∀ N : Str → Prop, Dn l.prog w K mg base "operation_of" ["expr"] 1 (spOper N) := fun N => ⟨f_operation_of, _, ok_oper F_operation_of TP, (PySem.W.mg_of X G a47), k48, (F_operation_of.binds (ps := ["expr"]) fun _ _ _ _ _ _ us hl => match us, hl with | [_], _ => rfl)⟩
  have Dsz : ∀ (N : Str → Prop) (ρ : Str → Int), Dn l.prog w K mg base "sized" ["widths", "expr"] 63 (spSized N ρ 60) := fun N ρ => ⟨f_sized, _, ok_sized F_sized TP (Dof N) Dow (PySem.W.mg_of X G a49) k50 (F_sized.binds (ps := ["widths", "expr"]) fun _ _ _ _ _ _ us hl => match us, hl with | [_, _], _ => rfl) 60, (PySem.W.mg_of X G a49), k50, (F_sized.binds (ps := ["widths", "expr"]) fun _ _ _ _ _ _ us hl => match us, hl with | [_, _], _ => rfl)⟩
  have Dnw : Dn l.prog w K mg base "name_widths" ["flat"] 1 spNameW := ⟨f_name_widths, _, ok_nameW F_name_widths, (PySem.W.mg_of X G a51), k52, (F_name_widths.binds (ps := ["flat"]) fun _ _ _ _ _ _ us hl => match us, hl with | [_], _ => rfl)⟩
  have Dwo : Dn l.prog w K mg base "width_of" ["flat", "expr"] 64 (spWidth 60) := ⟨f_width_of, _, ok_width F_width_of Dnw Dsz, (PySem.W.mg_of X G a53), k54, (F_width_of.binds (ps := ["flat", "expr"]) fun _ _ _ _ _ _ us hl => match us, hl with | [_, _], _ => rfl)⟩
  exact ok_law F_law T Db Dd Dpop Dpool Dp Di Dw Ddr Dws Dwd Dwo
end Bf
open PySem PySem.W PyProof.Rows
set_option maxRecDepth 100000 in
set_option maxHeartbeats 0 in
theorem PySem.Challenge.cw_beatfabric_k18_widths_holds : PySem.Challenge.rw_beatfabric_k18_widths.Holds := by
  w_on; o_law; k_head; (case hw => w_witness2)
  k_fill
  refine L2.walk_of (l := PySem.Challenge.rw_beatfabric_k18_widths) (n := 63) (k := 65) (x := "_law_script") (CX := fun _ => L2.CX0) (sp := fun w => Bf.spLaw _) rfl (by decide) rfl ⟨rfl, by decide, by decide⟩ (fun w h Y => PySem.W.kIn_of Y) ?F (fun _ _ a ns hl _ hS => ⟨a, ns, rfl, hS, hl, fun _ => rfl⟩) (fun _ _ _ _ _ h => h)
  case F =>
    intro w mg fa h KX G hmg
    refine' Bf.all_mk KX G hmg ?a1 ?l2 ?c2 ?k2 ?a3 ?l4 ?c4 ?k4 ?a5 ?l6 ?c6 ?k6 ?a7 ?l8 ?c8 ?k8 ?a9 ?l10 ?c10 ?k10 ?a11 ?l12 ?c12 ?k12 ?a13 ?l14 ?c14 ?k14 ?a15 ?l16 ?c16 ?k16 ?a17 ?l18 ?c18 ?k18 ?a19 ?l20 ?c20 ?k20 ?a21 ?l22 ?c22 ?k22 ?a23 ?l24 ?c24 ?k24 ?a25 ?l26 ?c26 ?k26 ?a27 ?l28 ?c28 ?k28 ?a29 ?l30 ?c30 ?k30 ?a31 ?l32 ?c32 ?k32 ?a33 ?l34 ?c34 ?k34 ?a35 ?l36 ?c36 ?k36 ?a37 ?l38 ?c38 ?k38 ?a39 ?l40 ?c40 ?k40 ?a41 ?l42 ?c42 ?k42 ?a43 ?l44 ?c44 ?k44 ?a45 ?l46 ?c46 ?k46 ?a47 ?l48 ?c48 ?k48 ?a49 ?l50 ?c50 ?k50 ?a51 ?l52 ?c52 ?k52 ?a53 ?l54 ?c54 ?k54 ?a55 ?l56 ?c56 ?k56 ?x57 ?a58 ?x59 ?a60 ?x61 ?a62 ?x63 ?x64 ?x65 ?x66 ?x67 ?x68 ?x69 ?x70 ?x71 ?x72 ?x73 ?x74 ?x75 ?x76 ?x77 ?x78 ?x79 ?x80 ?x81 ?x82 ?x83 ?x84 ?z85 ?z86 ?z87 ?z88 ?z89 ?z90 ?z91 ?z92 ?z93 ?z94
    (case a1 => k_is)
    (case l2 => k_is)
    (case c2 => k_is)
    (case k2 => k_is)
    (case a3 => k_is)
    (case l4 => k_is)
    (case c4 => k_is)
    (case k4 => k_is)
    (case a5 => k_is)
    (case l6 => k_is)
    (case c6 => k_is)
    (case k6 => k_is)
    (case a7 => k_is)
    (case l8 => k_is)
    (case c8 => k_is)
    (case k8 => k_is)
    (case a9 => k_is)
    (case l10 => k_is)
    (case c10 => k_is)
    (case k10 => k_is)
    (case a11 => k_is)
    (case l12 => k_is)
    (case c12 => k_is)
    (case k12 => k_is)
    (case a13 => k_is)
    (case l14 => k_is)
    (case c14 => k_is)
    (case k14 => k_is)
    (case a15 => k_is)
    (case l16 => k_is)
    (case c16 => k_is)
    (case k16 => k_is)
    (case a17 => k_is)
    (case l18 => k_is)
    (case c18 => k_is)
    (case k18 => k_is)
    (case a19 => k_is)
    (case l20 => k_is)
    (case c20 => k_is)
    (case k20 => k_is)
    (case a21 => k_is)
    (case l22 => k_is)
    (case c22 => k_is)
    (case k22 => k_is)
    (case a23 => k_is)
    (case l24 => k_is)
    (case c24 => k_is)
    (case k24 => k_is)
    (case a25 => k_is)
    (case l26 => k_is)
    (case c26 => k_is)
    (case k26 => k_is)
    (case a27 => k_is)
    (case l28 => k_is)
    (case c28 => k_is)
    (case k28 => k_is)
    (case a29 => k_is)
    (case l30 => k_is)
    (case c30 => k_is)
    (case k30 => k_is)
    (case a31 => k_is)
    (case l32 => k_is)
    (case c32 => k_is)
    (case k32 => k_is)
    (case a33 => k_is)
    (case l34 => k_is)
    (case c34 => k_is)
    (case k34 => k_is)
    (case a35 => k_is)
    (case l36 => k_is)
    (case c36 => k_is)
    (case k36 => k_is)
    (case a37 => k_is)
    (case l38 => k_is)
    (case c38 => k_is)
    (case k38 => k_is)
    (case a39 => k_is)
    (case l40 => k_is)
    (case c40 => k_is)
    (case k40 => k_is)
    (case a41 => k_is)
    (case l42 => k_is)
    (case c42 => k_is)
    (case k42 => k_is)
    (case a43 => k_is)
    (case l44 => k_is)
    (case c44 => k_is)
    (case k44 => k_is)
    (case a45 => k_is)
    (case l46 => k_is)
    (case c46 => k_is)
    (case k46 => k_is)
    (case a47 => k_is)
    (case l48 => k_is)
    (case c48 => k_is)
    (case k48 => k_is)
    (case a49 => k_is)
    (case l50 => k_is)
    (case c50 => k_is)
    (case k50 => k_is)
    (case a51 => k_is)
    (case l52 => k_is)
    (case c52 => k_is)
    (case k52 => k_is)
    (case a53 => k_is)
    (case l54 => k_is)
    (case c54 => k_is)
    (case k54 => k_is)
    (case a55 => k_is)
    (case l56 => k_is)
    (case c56 => k_is)
    (case k56 => k_is)
    (case x57 => k_is)
    (case a58 => k_is)
    (case x59 => k_is)
    (case a60 => k_is)
    (case x61 => k_is)
    (case a62 => k_is)
    (case x63 => k_is)
    (case x64 => k_keys)
    (case x65 => decide)
    (case x66 => k_is)
    (case x67 => k_is)
    (case x68 => k_is)
    (case x69 => k_is)
    (case x70 => k_is)
    (case x71 => k_is)
    (case x72 => k_is)
    (case x73 => k_is)
    (case x74 => k_is)
    (case x75 => k_is)
    (case x76 => k_is)
    (case x77 => k_is)
    (case x78 => k_is)
    (case x79 => k_is)
    (case x80 => k_is)
    (case x81 => k_is)
    (case x82 => k_is)
    (case x83 => k_is)
    (case x84 => k_is)
    (case z85 => k_is)
    (case z86 => k_is)
    (case z87 => k_is)
    (case z88 => k_is)
    (case z89 => k_is)
    (case z90 => k_is)
    (case z91 => k_is)
    (case z92 => k_is)
    (case z93 => k_is)
    (case z94 => k_is)
