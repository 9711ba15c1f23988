import PyProof.Rows.All
import Wide.All
import OpenK.AllK
import Wide.FinOn
import HandS.Base
import HandS.Call
import HandS.List
import HandS.Comp
import HandS.Ends
import HandS.Words
import HandS.Wide
import HandS.WideBits
import HandS.More
import HandS.IsInst
import HandS.CallLocal
import HandS.Text
import HandS.Iter
import HandS.Dict
import HandS.Defaults
import HandS.DeepEq
import HandS.Codes
import HandS.Zip
import HandS.Walk
import HandS.TupAny
import KE.GoesEnum
import KE.GoesMore
import HandS.Style
import HandS.Strs
import HandS.Conv
import HandS.SortKw
import KE.DataMinMax
import KE.KDictList
import PySem.PyData
import HandS.Rev
import HandS.DictComp
import PyProof.DictUpdate
import HandS.SortRule
import KE.SortData
import HandS.SortInts
import HandS.NoneIn
import KE.BitLaws
import PySem.Challenge.RW_beatfabric_k51_least_heights
set_option Elab.async false
set_option linter.all false
set_option maxRecDepth 100000
set_option maxHeartbeats 4000000
namespace Bf
open PySem PySem.Spec PyProof.Rows L2

/-! ### rules that the layer lacks -/
section
variable {X : Cx}
def rGetL : V → V → Hp → VK → Prop := fun o i H Q => ∃ p xs k v, o = .ref p ∧ i = .int k ∧ H p = some (.lst xs) ∧ atI xs k = some v ∧ Q v H
theorem get_list : PGet X rGetL := by
  intro pins s σ H o i ov iv Q I ro ri h
  obtain ⟨p, xs, k, z, rfl, rfl, hp, he, q⟩ := h
  cases ro
  obtain ⟨t, rfl⟩ := ri
  obtain ⟨its, r, pl, hz⟩ := I.list (SqL.of hp)
  obtain ⟨j, h1, h2, h3, h4, h5⟩ := atI_get he
  obtain ⟨w, ew, rw'⟩ := r.get h2
  have hl := r.length
  have hn := line63
  have fin : EP X pins σ Q w s := ⟨z, H, I, rw', q⟩
  by_cases h0 : 0 ≤ k
  · have hj : k.toNat = j := by
      rw [seqIndex_of h0 h5] at h1
      exact Option.some.inj h1
    refine PySem.wpAny_getItem_list pl.isList h0 (by omega) (by rw [hj]; simpa using ew) fin
  · have hj : (k + (its.toArray.size : Int)).toNat = j := by
      rw [seqIndex_neg (by omega) h4] at h1
      rw [List.size_toArray, ← hl]
      exact Option.some.inj h1
    exact wpAny_getItem_list_neg pl.isList (by omega) (by rw [List.size_toArray] <;> omega) (by omega) (by rw [hj]; simpa using ew) fin

/-- max, min of two numbers that are not negative -/
theorem cr_maxN (hc : X.calm = true) : CallR X (.builtin "max") (fun xs H Q => ∃ i j : Nat, xs = [V.int i, V.int j] ∧ Q (V.int ((max i j : Nat) : Int)) H) := by
  intro pins s σ H vs us Q I r h
  obtain ⟨i, j, rfl, q⟩ := h
  refine call_max2 hc pins s σ H _ us Q I r ⟨i, j, rfl, ?_⟩
  have e : (if (j : Int) > (i : Int) then (j : Int) else (i : Int)) = ((max i j : Nat) : Int) := by
    by_cases h : (j : Int) > i
    · rw [if_pos h, Nat.max_eq_right (by omega)]
    · rw [if_neg h, Nat.max_eq_left (by omega)]
  rw [e]
  exact q
theorem cr_minN (hc : X.calm = true) : CallR X (.builtin "min") (fun xs H Q => ∃ i j : Nat, xs = [V.int i, V.int j] ∧ Q (V.int ((min i j : Nat) : Int)) H) := by
  intro pins s σ H vs us Q I r h
  obtain ⟨i, j, rfl, q⟩ := h
  refine call_min2 hc pins s σ H _ us Q I r ⟨i, j, rfl, ?_⟩
  have e : (if (j : Int) < (i : Int) then (j : Int) else (i : Int)) = ((min i j : Nat) : Int) := by
    by_cases h : (j : Int) < i
    · rw [if_pos h, Nat.min_eq_right (by omega)]
    · rw [if_neg h, Nat.min_eq_left (by omega)]
  rw [e]
  exact q
/-- sum of a tuple of ints -/
def rSumT (K : PySem.W.Frag) : List V → Hp → VK → Prop := fun vs H Q => ∃ (a : Addr) (ns : List Int), vs = [V.ref a] ∧ SqT K H a (ns.map V.int) ∧ Q (.int ns.sum) H
theorem cr_sumT (hc : X.calm = true) : CallR X (.builtin "sum") (rSumT X.K) := by
  intro pins s σ H vs us Q I r h
  obtain ⟨a, ns, rfl, hs, q⟩ := h
  obtain ⟨its, rv, hl, _⟩ := I.tuple hs
  rw [Vals.ref1 r]
  obtain ⟨xs, e⟩ := rv.ints.allInts.items
  have hn : numsOf (intItems xs).toList = ns := by rw [← e]; exact rv.ints.numsOf
  rw [nums_intItems] at hn
  have hl' : s.heap.IsTuple a (intItems xs) := by
    rw [← e]
    exact hl
  refine PySem.W.ktm_sumG (I.ok.hd hc) hl' fun h' tk t' hk => ?_
  rw [preSum_eq, List.take_of_length_le (by simp), hn]
  exact ⟨.int _, H, I.kept hk, ⟨_, rfl⟩, q⟩
end

/-- a def that stands, with its promise -/
def vI (n : Nat) : V := .int (n : Int)
structure Dn (P : Program) (w : World) (K : PySem.W.Frag) (mg : Str → Option Value) (base : Heap) (x : Str) (ps : List Str) (k : Nat) (sp : Sp) : Prop where
  ex : ∃ (f : Addr) (fd : FuncData), FnOk P w K mg base CX0 k f fd ps sp ∧ mg x = some (.ref f) ∧ PySem.W.keepIn K (.ref f) = true ∧ Binds K fd ps []
def tCallD (sp : Sp) (t : TA) : TE := fun σ H Q => t σ H fun vs H1 => sp vs H1 Q E0
section
variable {X : Cx} {x : Str} {ps : List Str} {k : Nat} {sp : Sp} {e : Expr} {es : List Expr} {t : TA} {p pos : Pos}
theorem pe_dn (D : Dn X.prog X.w X.K X.mg X.base x ps k sp) (hr : Room k X.A) (hg : Gl X x) (ha : PA X (e :: es) t) (hdb : (x == ("__debug__" : Str)) = false := by decide)
    (he : starEach (e :: es) X.env = (false, eval e X.env) :: starEach es X.env := by rfl) (hpl : (backTo pos (starEach es X.env)).any (·.1) = false := by rfl) :
    PE X (.Call (.Name x p) (e :: es) [] pos) (tCallD sp t) := by
  obtain ⟨f, fd, F, hm, hk, hb⟩ := D.ex
  refine ⟨fun pins s σ H Q I h => (pe_call (E := E0) F hr hg hm hk hb .nil pass0 ha hdb he hpl).run pins s σ H Q I ?_⟩
  have e0 : (fun (vs : List V) (H1 : Hp) => sp (vs ++ []) H1 Q E0) = fun vs H1 => sp vs H1 Q E0 := by
    funext vs H1
    rw [List.append_nil]
  show t σ H (fun vs H1 => sp (vs ++ []) H1 Q E0)
  rw [e0]
  exact h
theorem pe_dn0 (D : Dn X.prog X.w X.K X.mg X.base x ps k sp) (hr : Room k X.A) (hg : Gl X x) (hdb : (x == ("__debug__" : Str)) = false := by decide) :
    PE X (.Call (.Name x p) [] [] pos) (tCallD sp tNil) := by
  obtain ⟨f, fd, F, hm, hk, hb⟩ := D.ex
  exact ⟨fun pins s σ H Q I h => (pe_call0 (E := E0) F hr hg hm hk hb .nil pass0 hdb).run pins s σ H Q I h⟩
end
/-- the same where the last arguments are defaults -/
structure DnD (P : Program) (w : World) (K : PySem.W.Frag) (mg : Str → Option Value) (base : Heap) (x : Str) (ps : List Str) (dvs : List V) (k : Nat) (sp : Sp) : Prop where
  ex : ∃ (f : Addr) (fd : FuncData) (ds : List Value), FnOk P w K mg base CX0 k f fd ps sp ∧ mg x = some (.ref f) ∧ PySem.W.keepIn K (.ref f) = true ∧ Binds K fd ps ds ∧ Vals dvs ds
theorem pe_dnD {X : Cx} {x : Str} {ps : List Str} {dvs : List V} {k : Nat} {sp : Sp} {e : Expr} {es : List Expr} {t : TA} {p pos : Pos} (D : DnD X.prog X.w X.K X.mg X.base x ps dvs k sp) (hr : Room k X.A) (hg : Gl X x) (ha : PA X (e :: es) t) (hdb : (x == ("__debug__" : Str)) = false := by decide)
    (he : starEach (e :: es) X.env = (false, eval e X.env) :: starEach es X.env := by rfl) (hpl : (backTo pos (starEach es X.env)).any (·.1) = false := by rfl) :
    PE X (.Call (.Name x p) (e :: es) [] pos) (tCall sp dvs E0 t) := by
  obtain ⟨f, fd, ds, F, hm, hk, hb, hv⟩ := D.ex
  exact pe_call (E := E0) F hr hg hm hk hb hv pass0 ha hdb he hpl
/-- a def of the text, its promise: the level a letter -/
theorem Dn.mk' {P : Program} {w : World} {K : PySem.W.Frag} {mg : Str → Option Value} {base : Heap} {x : Str} {st : Stmt} {ps : List Str} {k : Nat} {sp : Sp} {f : Addr} {fd : FuncData}
    (F : Fun K x x st f fd) (hm : mg x = some (.ref f)) (hb : Binds K fd ps []) (ok : FnOk P w K mg base CX0 k f fd ps sp) : Dn P w K mg base x ps k sp :=
  ⟨f, fd, ok, hm, F.kp, hb⟩
end Bf
namespace Bf
open PySem PySem.Spec PyProof.Rows L2
section
variable {X : Cx} {d : Addr} {es : Array DictEntry} {n : Nat}
/-- d[k], d a dict of the module with text keys -/
theorem ix_kd (D : KDict X.K X.w d es n) : IxR X (fun x y H Q => ∃ (z : Str) (u0 : Value) (v0 : V), x = .ref d ∧ y = .str z ∧ PySem.W.nsIn X.K d z = some (some u0) ∧ RelV v0 u0 ∧ Q v0 H) := by
  intro value slice pins s σ H x y v u Q I rx ry h hs
  have h0 := h
  obtain ⟨z, u0, v0, rfl, rfl, e, r, q⟩ := h
  cases rx
  exact tail_any (kd_type D I) PySem.slot_dict_getitem.lookup (op_item_kd D pins s σ H (V.ref d) (V.str z) _ u Q I (show RelV (V.ref d) (Value.ref d) from rfl) ry h0) hs
/-- of several defs that the slot may hold: the def and its promise are told in the reading -/
def tCallH (P : Program) (w : World) (K : PySem.W.Frag) (mg : Str → Option Value) (base : Heap) (k i : Nat) (t : TA) : TE := fun σ H Q => ∃ f sp fd ps, σ[i]? = some (some (.ref f)) ∧ FnOk P w K mg base CX0 k f fd ps sp ∧ PySem.W.keepIn K (.ref f) = true ∧ Binds K fd ps [] ∧ t σ H fun vs H1 => sp vs H1 Q E0
theorem pe_held {i k : Nat} {x : Str} {p pos : Pos} {e : Expr} {es : List Expr} {t : TA} (hr : Room k X.A) (hN : X.N[i]? = some x) (hv : Vis X.env.scope x) (ha : PA X (e :: es) t)
    (hdb : (x == ("__debug__" : Str)) = false := by decide) (hcd : (x == ("__classdict__" : Str)) = false := by decide)
    (he : starEach (e :: es) X.env = (false, eval e X.env) :: starEach es X.env := by rfl) (hpl : (backTo pos (starEach es X.env)).any (·.1) = false := by rfl) : PE X (.Call (.Name x p) (e :: es) [] pos) (tCallH X.prog X.w X.K X.mg X.base k i t) := by
  refine ⟨fun pins s σ H Q I h => ?_⟩
  obtain ⟨f, sp, fd, ps, hs, F, hk, hb, ht⟩ := h
  refine (pe_callL (i := i) (f := f) (sp := sp) (dvs := []) (E := E0) F hr hN hv hk hb .nil pass0 ha hdb hcd he hpl).run pins s σ H Q I ⟨hs, ?_⟩
  have e0 : (fun (vs : List V) (H1 : Hp) => sp (vs ++ []) H1 Q E0) = fun vs H1 => sp vs H1 Q E0 := by
    funext vs H1
    rw [List.append_nil]
  show t σ H (fun vs H1 => sp (vs ++ []) H1 Q E0)
  rw [e0]
  exact ht
end
end Bf

set_option Elab.async false
set_option linter.all false
set_option maxRecDepth 100000
set_option maxHeartbeats 4000000
namespace Bf
open PySem PySem.Spec PyProof.Rows L2
/-! ### small steps of a reading -/
theorem ifY {c : Bool} {A B : Prop} (e : c = true) (h : A) : if c = true then A else B := by
  rw [if_pos e]
  exact h
theorem ifN {c : Bool} {A B : Prop} (e : c = false) (h : B) : if c = true then A else B := by
  rw [e]
  exact iteF h
theorem rdL {K : PySem.W.Frag} {H : Hp} {a : Addr} {xs : List V} {i : Int} {v : V} {Q : VK} (h : SqL K H a xs) (e : atI xs i = some v) (k : Q v H) : rIxL K (.ref a) (.int i) H Q := ⟨a, xs, _, v, rfl, rfl, h, e, k⟩
theorem rdC {v : V} {σ : L2.St} {H : Hp} {Q : VK} (k : Q v H) : tC v σ H Q := k
theorem seqNew {K : PySem.W.Frag} {H : Hp} {a p : Addr} {o : HO} {xs : List V} (hp : H p = none) (h : SqL K H a xs) : SqL K (upd H p o) a xs := by
  rcases h with (h | ⟨u, h⟩) | h
  · exact .inl (.inl (by rw [upd_ne (ne_of_none h hp)]; exact h))
  · exact .inl (.inr ⟨u, by rw [upd_ne (ne_of_none h hp)]; exact h⟩)
  · exact .inr h
theorem le1000 {n : Nat} (h : n ≤ 1000) : n ≤ sizeLine := Nat.le_of_lt (small1000 h)
end Bf

set_option Elab.async false
set_option linter.all false
set_option maxRecDepth 100000
set_option maxHeartbeats 4000000
namespace Bf
open PySem PySem.Spec PyProof.Rows L2

/-! ### what enumerate and zip walk: a list or a tuple -/
structure Src where
  sq : PySem.W.Frag → Hp → Addr → List V → Prop
  itr : Heap → Addr → Addr → Nat → Prop
  isS : Heap → Addr → Array Value → Prop
  ob : Addr → Obj
  inv : ∀ {X : Cx} {pins : List (Addr × Obj)} {σ : L2.St} {H : Hp} {s : Shared} {a : Addr} {xs : List V}, Inv X pins σ H s → sq X.K H a xs → ∃ its : List Value, Vals xs its ∧ isS s.heap a its.toArray
  inj : ∀ {X : Cx} {pins : List (Addr × Obj)} {σ : L2.St} {H : Hp} {s : Shared} {a : Addr} {xs ys : List V}, Inv X pins σ H s → sq X.K H a xs → sq X.K H a ys → xs = ys
  draws : ∀ {prog : Program} {w : World} {A : Around}, A.handled = none → ∀ (it l : Addr), l ≠ it → ∀ (items : Array Value), Draws prog w A it [it, l] items.size (fun i v => items[i]? = some v) (fun i h => itr h it l i ∧ isS h l items)
  obj : ∀ {h : Heap} {it a : Addr} {i : Nat}, itr h it a i → ∃ o, h.get? it = some o ∧ ∀ v, o.data ≠ .cell v
  at_ : ∀ {h h' : Heap} {it a : Addr} {i : Nat}, itr h it a i → (∀ o, h.get? it = some o → h'.get? it = some o) → itr h' it a i
  beg : ∀ (a : Addr) (items : Array Value), Begins (.ref a) (ob a) (fun h => isS h a items)
  start : ∀ {h : Heap} {it a : Addr}, h.get? it = some (ob a) → itr h it a 0
  lt : ∀ {h : Heap} {a : Addr} {items : Array Value}, isS h a items → a < h.objs.size
  keep : ∀ {K : PySem.W.Frag} {H H' : Hp} {a : Addr} {xs : List V}, Same H H' → sq K H a xs → sq K H' a xs
theorem seqT_same {K : PySem.W.Frag} {H H' : Hp} {a : Addr} {xs : List V} (k : Same H H') (h : SqT K H a xs) : SqT K H' a xs := by
  rcases h with (h | ⟨u, h⟩) | h
  · exact .inl (.inl (k _ _ h))
  · exact .inl (.inr ⟨u, k _ _ h⟩)
  · exact .inr h

def srcL : Src where
  sq := fun K H a xs => SqL K H a xs
  itr := fun h it a i => h.IsListIter it a i
  isS := fun h a items => h.IsList a items
  ob := fun a => { cls := .type "list_iterator", data := .fields #[.ref a, .int 0 0] }
  inv := fun I h => let ⟨its, r, p, _⟩ := I.list h; ⟨its, r, p.isList⟩
  inj := fun I h h' => I.list_inj h h'
  draws := fun hh it l hne items => Draws.list hh it l hne items
  obj := fun ⟨o, e, c, d⟩ => ⟨o, e, fun v z => by rw [d] at z; cases z⟩
  at_ := fun x k => x.at k
  beg := fun a items => begins_list a items
  start := fun e => ⟨_, e, rfl, rfl⟩
  lt := fun ⟨o, e, _⟩ => Heap.lt_size e
  keep := fun k h => k.seq h

def srcT : Src where
  sq := fun K H a xs => SqT K H a xs
  itr := fun h it a i => h.IsTupleIter it a i
  isS := fun h a items => h.IsTuple a items
  ob := fun a => { cls := .type "tuple_iterator", data := .fields #[.ref a, .int 0 0] }
  inv := fun I h => let ⟨its, r, p, _⟩ := I.tuple h; ⟨its, r, p⟩
  inj := fun I h h' => I.tuple_inj h h'
  draws := fun hh it l hne items => Draws.tuple hh it l hne items
  obj := fun ⟨o, e, c, d⟩ => ⟨o, e, fun v z => by rw [d] at z; cases z⟩
  at_ := fun x k => x.at k
  beg := fun a items => begins_tuple a items
  start := fun e => ⟨_, e, rfl, rfl⟩
  lt := fun ⟨o, e, _⟩ => Heap.lt_size e
  keep := fun k h => seqT_same k h

/-! ### enumerate -/
def ItE (S : Src) (K : PySem.W.Frag) (a : Addr) : It :=
  ⟨fun i H => ∃ (xs : List V) (x : V), S.sq K H a xs ∧ xs[i]? = some x, fun i H v H' => ∃ T x, v = .ref T ∧ H T = none ∧ H' = upd H T (.tup [.int (i : Nat), x]) ∧ ∀ xs, S.sq K H a xs → xs[i]? = some x, fun i H => ∃ xs : List V, S.sq K H a xs ∧ xs.length = i⟩

theorem turn_enumG (S : Src) {P : Program} {w : World} {K : PySem.W.Frag} {elts : List Expr} {kk : Nat} {tpos : Pos} (a e it : Addr) :
    Turn P w K (.Tuple elts kk tpos) (ItE S K a) [e, it] e (fun i h => (∃ old, IsEnum h e it ((i : Nat) : Int) old) ∧ S.itr h it a i ∧ e ≠ it ∧ e ≠ a ∧ a ≠ it) where
  mem := by simp
  obj := fun i h st b hb => by
    obtain ⟨⟨old, he⟩, hi, _⟩ := st
    have e' : b = e ∨ b = it := by simpa using hb
    rcases e' with z | z
    · rw [z]; exact ⟨_, he, fun v q => nomatch q⟩
    · rw [z]; exact S.obj hi
  keep := fun i h h' st k => let ⟨⟨old, he⟩, hi, r⟩ := st; ⟨⟨old, k e (by simp) _ he⟩, S.at_ hi fun o q => k it (by simp) o q, r⟩
  item := by
    intro X hP hw hK hc i pins s σ H E I hf st hg
    subst hP hw hK
    obtain ⟨⟨old, he⟩, hit, hne, hea, hai⟩ := st
    obtain ⟨xs, x, hq, hx⟩ := hg
    obtain ⟨its, rv, p⟩ := S.inv I hq
    obtain ⟨u, hu, ru⟩ := rv.get hx
    have hel : e < s.heap.objs.size := Heap.lt_size he
    have hil : it < s.heap.objs.size := by obtain ⟨_, q, _⟩ := S.obj hit; exact Heap.lt_size q
    have hlt : i < its.toArray.size := by
      have q := (List.getElem?_eq_some_iff.mp hu).1
      simpa using q
    refine wpAny_pyNext_enum_itemD (S.draws (show X.A.in1.handled = none from I.ok.hd hc) it a hai its.toArray) he ⟨hit, p⟩ hlt hne (by simp [hne, hea]) fun v h' tk hv ho hst hT hsz hk => ?_
    have ev : u = v := by
      have q : its[i]? = some v := by simpa using hv
      rw [hu] at q; cases q; rfl
    subst ev
    refine ⟨_, rfl, wpAny_letOwnedTupleGo_enum (s := { s with heap := h', toks := tk + 1 }) ho fun h'' he' sb => ?_⟩
    have hT2 : h''.get? s.heap.objs.size = some { cls := .type "tuple", data := .seq #[.int i tk, u] } := (sb.2 _ (Nat.ne_of_gt hel)).trans hT
    have new : ObjOk X.prog X.w (upd H s.heap.objs.size (.tup [.int (i : Nat), x])) h'' s.heap.objs.size (.tup [.int (i : Nat), x]) :=
      ⟨by show 2 ≤ sizeLine; decide, [.int i tk, u], .cons ⟨_, rfl⟩ (.cons ru .nil), ⟨_, hT2, rfl, _, rfl⟩⟩
    have I1 : Inv X pins σ (upd H s.heap.objs.size (.tup [.int (i : Nat), x])) { s with heap := h'', toks := tk + 1 } :=
      I.turnedNew (ch := [e, it]) (fun b ob hb q => (sb.2 b (fun z => hb (by simp [z]))).trans (hk b ob (fun z => hb (by simp [z])) (fun z => hb (by simp [z])) q)) hf (Nat.le_refl _) new
    refine ⟨.ref s.heap.objs.size, _, I1, rfl, ⟨_, x, rfl, I.hok.fresh (Nat.le_refl _), rfl, fun ys hy => by rw [S.inj I hy hq]; exact hx⟩, ⟨⟨u, ?_⟩, S.at_ hst.1 fun o q => (sb.2 it (Ne.symm hne)).trans q, hne, hea, hai⟩, fun b hb => ?_⟩
    · have e1 : ((i + 1 : Nat) : Int) = (i : Int) + 1 := by omega
      rw [e1]; exact he'
    · have hb' : b < s.heap.objs.size := by
        have e' : b = e ∨ b = it := by simpa using hb
        rcases e' with z | z
        · rw [z]; exact hel
        · rw [z]; exact hil
      rw [upd_ne (Nat.ne_of_lt hb')]
      exact (hf b hb).1
  done := by
    intro X hP hw hK hc i pins s σ H E I hf st hg
    subst hP hw hK
    obtain ⟨⟨old, he⟩, hit, hne, hea, hai⟩ := st
    obtain ⟨xs, hq, hx⟩ := hg
    obtain ⟨its, rv, p⟩ := S.inv I hq
    obtain ⟨f0, f1, f2, f3, f4, f5⟩ := hf it (by simp)
    have hl := rv.length
    have hn : its.toArray.size = i := by rw [List.size_toArray]; omega
    subst hn
    exact wpAny_pyNext_enum_endD (S.draws (show X.A.in1.handled = none from I.ok.hd hc) it a hai its.toArray) he ⟨hit, p⟩ fun h' eb => ⟨rfl, I.turned (t' := s.toks) (fun b o hb q => eb b o hb q) f0 f1 f3 f4 f5⟩
  self := fun A i s Q E st h => let ⟨⟨_, he⟩, _⟩ := st; wpAny_pyIter_enum he h

theorem meets_enum_new0 {v : Value} {o : Obj} {H : Heap → Prop} (B : Begins v o H) :
    Meets (Builtin.«enumerate.__new__» ⟨[.type "enumerate", v], []⟩) (fun _ R s => H s.heap ∧
      R (.ok (.ret (.ref (s.heap.push o).objs.size))) { s with heap := (s.heap.push o).push { cls := .type "enumerate", data := .fields #[.none, .bool false, .ref s.heap.objs.size, rawInt 0, .none, .none] } }) :=
  .of_wp fun prog w A R s h => by
    obtain ⟨hp, g, d, tk, os⟩ := s; obtain ⟨h1, h⟩ := h
    have hsub := sub_enumerate
    have q1 : ∀ {A' : Around} {E : Value → Shared → Prop} {Q : Value → Shared → Prop}, Q (.ref hp.objs.size) ⟨hp.push o, g, d, tk, os⟩ → wpAny (model prog w) A' (pyIter v) Q E ⟨hp, g, d, tk, os⟩ :=
      fun q => B.iter prog w _ _ ⟨hp, g, d, tk, os⟩ _ h1 q
    wp_walk using q1
    refine wpAny_stack_any fun st => wpAny_pure ?_
    split
    · rename_i c _ _ _ _ _
      cases (c == Value.type "enumerate")
      · wp_walk using q1
        exact ⟨_, rfl, h⟩
      · wp_walk using q1
        exact ⟨_, rfl, h⟩
    · wp_walk using q1
      exact ⟨_, rfl, h⟩
section
variable {prog : Program} {w : World} {A : Around} {E : Value → Shared → Prop} {s : Shared}
theorem enum_begins0 {v : Value} {o : Obj} {H : Heap → Prop} {Q : Value → Shared → Prop} (B : Begins v o H) (h1 : H s.heap)
    (h : ∀ h', IsEnum h' (s.heap.objs.size + 1) s.heap.objs.size 0 .none → h'.get? s.heap.objs.size = some o → h'.objs.size = s.heap.objs.size + 2 →
      (∀ b o, s.heap.get? b = some o → h'.get? b = some o) → Q (.ref (s.heap.objs.size + 1)) { s with heap := h' }) :
    wpAny (model prog w) A (call (.type "enumerate") [v]) Q E s := by
  refine callType_new F.called_enumerate (by decide) (F.typeCall_enumerate_1 _) (F.newCall_enumerate_1 _) (fun obj => F.args_object_init_2 obj _) F.entry_enumerate_new
    (meets_enum_new0 B) ⟨h1, ?_⟩
  have hz : (s.heap.push o).objs.size = s.heap.objs.size + 1 := Heap.size_push ..
  show _ ∧ _
  rw [hz]
  have he : IsEnum ((s.heap.push o).push { cls := .type "enumerate", data := .fields #[.none, .bool false, .ref s.heap.objs.size, rawInt 0, .none, .none] }) (s.heap.objs.size + 1) s.heap.objs.size 0 .none := by
    have := Heap.get?_push_size (s.heap.push o) (o := { cls := .type "enumerate", data := .fields #[.none, .bool false, .ref s.heap.objs.size, rawInt 0, .none, .none] }) rfl
    rw [hz] at this; exact this
  exact ⟨⟨_, he, rfl⟩, h _ he (Heap.get?_push_of_some _ (Heap.get?_push_size _ B.free)) (by rw [Heap.size_push, hz]) fun b o x => Heap.get?_push_of_some _ (Heap.get?_push_of_some _ x)⟩
end
def iEnG (S : Src) (K : PySem.W.Frag) (ta : TA) : TI := fun σ H R => ta σ H fun vs H1 => ∃ a xs, vs = [.ref a] ∧ S.sq K H1 a xs ∧ R (ItE S K a) H1
theorem enumG_run (S : Src) {X : Cx} {pins : List (Addr × Obj)} {σ : L2.St} {H1 : Hp} {s1 : Shared} {us : List Value} {vs : List V} {elts : List Expr} {kk : Nat} {tpos : Pos} {R : It → Hp → Prop} (I1 : Inv X pins σ H1 s1) (r1 : Vals vs us)
    (q1 : ∃ (a : Addr) (xs : List V), vs = [.ref a] ∧ S.sq X.K H1 a xs ∧ R (ItE S X.K a) H1) :
    wpAny (model X.prog X.w) X.A (call (.type "enumerate") us) (fun v s1 => wpAny (model X.prog X.w) X.A (pyIter v) (PIE X pins σ (.Tuple elts kk tpos) R) X.xe s1) X.xe s1 := by
  obtain ⟨a, xs, ex, hq, q⟩ := q1
  subst ex
  cases r1 with
  | cons r rr =>
    cases rr
    cases r
    obtain ⟨its, rv, p'⟩ := S.inv I1 hq
    have la := S.lt p'
    refine enum_begins0 (S.beg a its.toArray) p' fun h' he hit hsz hk => wpAny_pyIter_enum he ?_
    have I2 : Inv X pins σ H1 { s1 with heap := h' } := I1.kept (t' := s1.toks) hk
    refine ⟨s1.heap.objs.size + 1, [s1.heap.objs.size + 1, s1.heap.objs.size], _, _, H1, rfl, I2, turn_enumG S a (s1.heap.objs.size + 1) s1.heap.objs.size, ⟨⟨.none, he⟩, S.start hit, Nat.succ_ne_self _, Nat.ne_of_gt (Nat.lt_succ_of_lt la), Nat.ne_of_lt la⟩, fun b hb => ?_, q⟩
    have e' : b = s1.heap.objs.size + 1 ∨ b = s1.heap.objs.size := by simpa using hb
    have hle : s1.heap.objs.size ≤ b := by
      rcases e' with z | z
      · rw [z]; exact Nat.le_add_right _ _
      · rw [z]; exact Nat.le_refl _
    exact I1.fpOk hle (I1.hok.fresh hle)

/-! ### zip of two -/
def ItZ (S1 S2 : Src) (K : PySem.W.Frag) (a b : Addr) : It :=
  ⟨fun i H => ∃ (xs ys : List V) (x y : V), S1.sq K H a xs ∧ S2.sq K H b ys ∧ xs[i]? = some x ∧ ys[i]? = some y,
    fun i H v H' => ∃ T x y, v = .ref T ∧ H T = none ∧ H' = upd H T (.tup [x, y]) ∧ (∀ xs, S1.sq K H a xs → xs[i]? = some x) ∧ ∀ ys, S2.sq K H b ys → ys[i]? = some y,
    fun i H => ∃ xs ys : List V, S1.sq K H a xs ∧ S2.sq K H b ys ∧ i ≤ xs.length ∧ i ≤ ys.length ∧ (i = xs.length ∨ i = ys.length)⟩
theorem turn_zipG (S1 S2 : Src) {P : Program} {w : World} {K : PySem.W.Frag} {elts : List Expr} {kk : Nat} {tpos : Pos} {a b z TI TO i1 i2 : Addr} (D : ZipSep2 z TI TO i1 i2 [i1, a] [i2, b]) (ha1 : a ≠ i1) (hb2 : b ≠ i2) :
    Turn P w K (.Tuple elts kk tpos) (ItZ S1 S2 K a b) [z, TI, TO, i1, i2] z (fun i h => IsZip h z TI TO .none ∧ IsTupOf2 h TI (.ref i1) (.ref i2) ∧ (∃ x y, IsTupOf2 h TO x y) ∧ S1.itr h i1 a i ∧ S2.itr h i2 b i) where
  mem := by simp
  obj := fun i h st c hc => by
    obtain ⟨hz, hTI, ⟨x, y, hTO⟩, h1, h2⟩ := st
    have e' : c = z ∨ c = TI ∨ c = TO ∨ c = i1 ∨ c = i2 := by simpa using hc
    rcases e' with q | q | q | q | q
    · rw [q]; exact ⟨_, hz, fun v q => nomatch q⟩
    · rw [q]; exact ⟨_, hTI, fun v q => nomatch q⟩
    · rw [q]; exact ⟨_, hTO, fun v q => nomatch q⟩
    · rw [q]; exact S1.obj h1
    · rw [q]; exact S2.obj h2
  keep := fun i h h' st k => by
    obtain ⟨hz, hTI, ⟨x, y, hTO⟩, h1, h2⟩ := st
    exact ⟨k z (by simp) _ hz, k TI (by simp) _ hTI, ⟨x, y, k TO (by simp) _ hTO⟩, S1.at_ h1 fun o q => k i1 (by simp) o q, S2.at_ h2 fun o q => k i2 (by simp) o q⟩
  item := by
    intro X hP hw hK hc i pins s σ H E I hf st hg
    subst hP hw hK
    obtain ⟨hz, hTI, ⟨x0, y0, hTO⟩, h1, h2⟩ := st
    obtain ⟨xs, ys, x, y, hqx, hqy, hx, hy⟩ := hg
    obtain ⟨its, rv, p⟩ := S1.inv I hqx
    obtain ⟨its2, rv2, p2⟩ := S2.inv I hqy
    obtain ⟨u, hu, ru⟩ := rv.get hx
    obtain ⟨u2, hu2, ru2⟩ := rv2.get hy
    have hzl : z < s.heap.objs.size := Heap.lt_size hz
    have hlt : i < its.toArray.size := by
      have q := (List.getElem?_eq_some_iff.mp hu).1
      simpa using q
    have hlt2 : i < its2.toArray.size := by
      have q := (List.getElem?_eq_some_iff.mp hu2).1
      simpa using q
    have hh : X.A.in1.handled = none := I.ok.hd hc
    refine wpAny_pyNext_zipD2_item D (S1.draws hh i1 a ha1 its.toArray) (S2.draws hh i2 b hb2 its2.toArray) hz hTI hTO ⟨h1, p⟩ ⟨h2, p2⟩ hlt hlt2 fun v v2 h' tk hv hv2 z' TO' st1 st2 hT hsz hk => ?_
    have ev : u = v := by
      have q : its[i]? = some v := by simpa using hv
      rw [hu] at q; cases q; rfl
    have ev2 : u2 = v2 := by
      have q : its2[i]? = some v2 := by simpa using hv2
      rw [hu2] at q; cases q; rfl
    subst ev ev2
    refine ⟨_, rfl, wpAny_letOwnedTupleGo_zip (s := { s with heap := h', toks := tk }) z' fun h'' z'' sb => ?_⟩
    have hT2 : h''.get? s.heap.objs.size = some { cls := .type "tuple", data := .seq #[u, u2] } := (sb.2 _ (Nat.ne_of_gt hzl)).trans hT
    have new : ObjOk X.prog X.w (upd H s.heap.objs.size (.tup [x, y])) h'' s.heap.objs.size (.tup [x, y]) :=
      ⟨by show 2 ≤ sizeLine; decide, [u, u2], .cons ru (.cons ru2 .nil), ⟨_, hT2, rfl, _, rfl⟩⟩
    have I1 : Inv X pins σ (upd H s.heap.objs.size (.tup [x, y])) { s with heap := h'', toks := tk } :=
      I.turnedNew (ch := [z, TI, TO, i1, i2]) (fun c o hb q => (sb.2 c (fun q' => hb (by simp [q']))).trans (hk c o (fun q' => hb (by simp [q'])) (fun q' => hb (by simp [q'])) (fun q' => hb (by simp [q'])) (fun q' => hb (by simp [q'])) q)) hf (Nat.le_refl _) new
    have zi1 : i1 ≠ z := fun q => D.zf1 (by simp [q])
    have zi2 : i2 ≠ z := fun q => D.zf2 (by simp [q])
    refine ⟨.ref s.heap.objs.size, _, I1, rfl, ⟨_, x, y, rfl, I.hok.fresh (Nat.le_refl _), rfl, fun l hl => by rw [S1.inj I hl hqx]; exact hx, fun l hl => by rw [S2.inj I hl hqy]; exact hy⟩, ⟨z'', ?_, ⟨u, u2, ?_⟩, ?_, ?_⟩, fun c hcm => ?_⟩
    · exact (sb.2 _ D.TIz).trans (hk _ _ D.TIz D.TITO D.TIi1 D.TIi2 hTI)
    · exact (sb.2 _ D.TOz).trans TO'
    · exact S1.at_ st1.1 fun o q => (sb.2 _ zi1).trans q
    · exact S2.at_ st2.1 fun o q => (sb.2 _ zi2).trans q
    · have hlt : c < s.heap.objs.size := by
        have e' : c = z ∨ c = TI ∨ c = TO ∨ c = i1 ∨ c = i2 := by simpa using hcm
        rcases e' with q | q | q | q | q
        · rw [q]; exact hzl
        · rw [q]; exact Heap.lt_size hTI
        · rw [q]; exact Heap.lt_size hTO
        · rw [q]; obtain ⟨_, e1, _⟩ := S1.obj h1; exact Heap.lt_size e1
        · rw [q]; obtain ⟨_, e2, _⟩ := S2.obj h2; exact Heap.lt_size e2
      rw [upd_ne (Nat.ne_of_lt hlt)]
      exact (hf c hcm).1
  done := by
    intro X hP hw hK hc i pins s σ H E I hf st hg
    subst hP hw hK
    obtain ⟨hz, hTI, ⟨x0, y0, hTO⟩, h1, h2⟩ := st
    obtain ⟨xs, ys, hqx, hqy, le1, le2, hend⟩ := hg
    obtain ⟨its, rv, p⟩ := S1.inv I hqx
    obtain ⟨its2, rv2, p2⟩ := S2.inv I hqy
    have l1 := rv.length
    have l2 := rv2.length
    have hh : X.A.in1.handled = none := I.ok.hd hc
    exact wpAny_pyNext_zipD2_end D (S1.draws hh i1 a ha1 its.toArray) (S2.draws hh i2 b hb2 its2.toArray) hz hTI hTO ⟨h1, p⟩ ⟨h2, p2⟩ (by rw [List.size_toArray]; omega) (by rw [List.size_toArray]; omega)
      (by rw [List.size_toArray, List.size_toArray]; omega) fun h' tk hk => ⟨rfl, I.turnedL (t' := tk) (ch := [z, TI, TO, i1, i2]) (fun c o hb q =>
      hk c o (fun q' => hb (by simp [q'])) (fun q' => hb (by simp [q'])) (fun q' => hb (by simp [q'])) (fun q' => hb (by simp [q'])) q) hf⟩
  self := fun A i s Q E st h => wpAny_pyIter_zip st.1 h
def iZpG (S1 S2 : Src) (K : PySem.W.Frag) (ta : TA) : TI := fun σ H R => ta σ H fun vs H1 => ∃ a b xs ys, vs = [.ref a, .ref b] ∧ S1.sq K H1 a xs ∧ S2.sq K H1 b ys ∧ R (ItZ S1 S2 K a b) H1
theorem zipG_run (S1 S2 : Src) {X : Cx} {pins : List (Addr × Obj)} {σ : L2.St} {H1 : Hp} {s1 : Shared} {us : List Value} {vs : List V} {elts : List Expr} {kk : Nat} {tpos : Pos} {R : It → Hp → Prop} (I1 : Inv X pins σ H1 s1) (r1 : Vals vs us)
    (q1 : ∃ (a b : Addr) (xs ys : List V), vs = [.ref a, .ref b] ∧ S1.sq X.K H1 a xs ∧ S2.sq X.K H1 b ys ∧ R (ItZ S1 S2 X.K a b) H1) :
    wpAny (model X.prog X.w) X.A (call (.type "zip") us) (fun v s1 => wpAny (model X.prog X.w) X.A (pyIter v) (PIE X pins σ (.Tuple elts kk tpos) R) X.xe s1) X.xe s1 := by
  obtain ⟨a, b, xs, ys, ex, hqx, hqy, q⟩ := q1
  subst ex
  cases r1 with
  | cons r rr =>
    cases rr with
    | cons r' rr =>
      cases rr
      cases r
      cases r'
      obtain ⟨its, rv, p1⟩ := S1.inv I1 hqx
      obtain ⟨its2, rv2, p2⟩ := S2.inv I1 hqy
      have la := S1.lt p1
      have lb := S2.lt p2
      refine zip_begins2 (S1.beg a its.toArray) (S2.beg b its2.toArray) p1 p2 fun h' hz hTI hTO h1 h2 hsz hk => wpAny_pyIter_zip hz ?_
      have I2 : Inv X pins σ H1 { s1 with heap := h' } := I1.kept (t' := s1.toks) hk
      refine ⟨s1.heap.objs.size + 4, [s1.heap.objs.size + 4, s1.heap.objs.size + 2, s1.heap.objs.size + 3, s1.heap.objs.size, s1.heap.objs.size + 1], _, _, H1, rfl, I2,
        turn_zipG S1 S2 (zip_sep2 (fp1 := [a]) (fp2 := [b]) (by intro c hc; rw [List.mem_singleton.mp hc]; exact la) (by intro c hc; rw [List.mem_singleton.mp hc]; exact lb)) (Nat.ne_of_lt la) (Nat.ne_of_lt (Nat.lt_succ_of_lt lb)),
        ⟨hz, hTI, ⟨_, _, hTO⟩, S1.start h1, S2.start h2⟩, fun c hcm => ?_, q⟩
      have e' : c = s1.heap.objs.size + 4 ∨ c = s1.heap.objs.size + 2 ∨ c = s1.heap.objs.size + 3 ∨ c = s1.heap.objs.size ∨ c = s1.heap.objs.size + 1 := by simpa using hcm
      have hle : s1.heap.objs.size ≤ c := by
        rcases e' with z | z | z | z | z
        · rw [z]; exact Nat.le_add_right _ _
        · rw [z]; exact Nat.le_add_right _ _
        · rw [z]; exact Nat.le_add_right _ _
        · rw [z]; exact Nat.le_refl _
        · rw [z]; exact Nat.le_add_right _ _
      exact I1.fpOk hle (I1.hok.fresh hle)

/-! ### for over them -/
theorem for_enumG (S : Src) {K : PySem.W.Frag} {a : Addr} {xs : List V} {g : TG} {tb : TS} {D : Ends} {σ : L2.St} {H : Hp} (Pv : Nat → L2.St → Hp → Prop) (h0 : Pv 0 σ H) (hq : ∀ i σ H, Pv i σ H → S.sq K H a xs)
    (hs : ∀ (i : Nat) (x : V) (T : Addr) (σ : L2.St) (H : Hp), xs[i]? = some x → Pv i σ H → H T = none → g (.ref T) σ (upd H T (.tup [.int (i : Nat), x])) fun σ2 H2 => tb { D with nx := Pv (i + 1), ct := Pv (i + 1), bk := D.nx } σ2 H2) (hd : ∀ σ H, Pv xs.length σ H → D.nx σ H) :
    ∃ W : Nat → Nat → L2.St → Hp → Prop, (∃ m, W 0 m σ H) ∧ ∀ i m σ H, W i m σ H →
      ((ItE S K a).stop i H ∧ D.nx σ H) ∨ ((ItE S K a).go i H ∧ ∃ N : L2.St → Hp → Prop, (∀ σ' H', N σ' H' → ∃ m', m' < m ∧ W (i + 1) m' σ' H') ∧ ∀ v H', (ItE S K a).yld i H v H' → g v σ H' fun σ2 H2 => tb { D with nx := N, ct := N, bk := D.nx } σ2 H2) := by
  refine ⟨fun i m σ H => m = xs.length - i ∧ i ≤ xs.length ∧ Pv i σ H, ⟨xs.length, rfl, Nat.zero_le _, h0⟩, ?_⟩
  rintro i m σ H ⟨rfl, hi, p⟩
  have qx := hq i σ H p
  by_cases hlt : i < xs.length
  · have hx : xs[i]? = some xs[i] := List.getElem?_eq_getElem hlt
    refine .inr ⟨⟨xs, _, qx, hx⟩, Pv (i + 1), fun σ' H' p' => ⟨xs.length - (i + 1), by omega, rfl, hlt, p'⟩, fun v H' y => ?_⟩
    obtain ⟨T, x', rfl, hT, rfl, f1⟩ := y
    exact hs i x' T σ H (f1 xs qx) p hT
  · have e : i = xs.length := by omega
    subst e
    exact .inl ⟨⟨xs, qx, rfl⟩, hd σ H p⟩
theorem for_zipG (S1 S2 : Src) {K : PySem.W.Frag} {a b : Addr} {xs ys : List V} {g : TG} {tb : TS} {D : Ends} {σ : L2.St} {H : Hp} (hl : xs.length = ys.length) (Pv : Nat → L2.St → Hp → Prop) (h0 : Pv 0 σ H) (hq : ∀ i σ H, Pv i σ H → S1.sq K H a xs ∧ S2.sq K H b ys)
    (hs : ∀ (i : Nat) (x y : V) (T : Addr) (σ : L2.St) (H : Hp), xs[i]? = some x → ys[i]? = some y → Pv i σ H → H T = none → g (.ref T) σ (upd H T (.tup [x, y])) fun σ2 H2 => tb { D with nx := Pv (i + 1), ct := Pv (i + 1), bk := D.nx } σ2 H2) (hd : ∀ σ H, Pv xs.length σ H → D.nx σ H) :
    ∃ W : Nat → Nat → L2.St → Hp → Prop, (∃ m, W 0 m σ H) ∧ ∀ i m σ H, W i m σ H →
      ((ItZ S1 S2 K a b).stop i H ∧ D.nx σ H) ∨ ((ItZ S1 S2 K a b).go i H ∧ ∃ N : L2.St → Hp → Prop, (∀ σ' H', N σ' H' → ∃ m', m' < m ∧ W (i + 1) m' σ' H') ∧ ∀ v H', (ItZ S1 S2 K a b).yld i H v H' → g v σ H' fun σ2 H2 => tb { D with nx := N, ct := N, bk := D.nx } σ2 H2) := by
  refine ⟨fun i m σ H => m = xs.length - i ∧ i ≤ xs.length ∧ Pv i σ H, ⟨xs.length, rfl, Nat.zero_le _, h0⟩, ?_⟩
  rintro i m σ H ⟨rfl, hi, p⟩
  obtain ⟨qx, qy⟩ := hq i σ H p
  by_cases hlt : i < xs.length
  · have hx : xs[i]? = some xs[i] := List.getElem?_eq_getElem hlt
    have hlt2 : i < ys.length := by omega
    have hy : ys[i]? = some ys[i] := List.getElem?_eq_getElem hlt2
    refine .inr ⟨⟨xs, ys, _, _, qx, qy, hx, hy⟩, Pv (i + 1), fun σ' H' p' => ⟨xs.length - (i + 1), by omega, rfl, hlt, p'⟩, fun v H' y => ?_⟩
    obtain ⟨T, x', y', rfl, hT, rfl, f1, f2⟩ := y
    exact hs i x' y' T σ H (f1 xs qx) (f2 ys qy) p hT
  · have e : i = xs.length := by omega
    subst e
    exact .inl ⟨⟨xs, ys, qx, qy, Nat.le_refl _, by omega, .inl rfl⟩, hd σ H p⟩

theorem for_zipLe (S1 S2 : Src) {K : PySem.W.Frag} {a b : Addr} {xs ys : List V} {g : TG} {tb : TS} {D : Ends} {σ : L2.St} {H : Hp} (hl : xs.length ≤ ys.length) (Pv : Nat → L2.St → Hp → Prop) (h0 : Pv 0 σ H) (hq : ∀ i σ H, Pv i σ H → S1.sq K H a xs ∧ S2.sq K H b ys)
    (hs : ∀ (i : Nat) (x y : V) (T : Addr) (σ : L2.St) (H : Hp), xs[i]? = some x → ys[i]? = some y → Pv i σ H → H T = none → g (.ref T) σ (upd H T (.tup [x, y])) fun σ2 H2 => tb { D with nx := Pv (i + 1), ct := Pv (i + 1), bk := D.nx } σ2 H2) (hd : ∀ σ H, Pv xs.length σ H → D.nx σ H) :
    ∃ W : Nat → Nat → L2.St → Hp → Prop, (∃ m, W 0 m σ H) ∧ ∀ i m σ H, W i m σ H →
      ((ItZ S1 S2 K a b).stop i H ∧ D.nx σ H) ∨ ((ItZ S1 S2 K a b).go i H ∧ ∃ N : L2.St → Hp → Prop, (∀ σ' H', N σ' H' → ∃ m', m' < m ∧ W (i + 1) m' σ' H') ∧ ∀ v H', (ItZ S1 S2 K a b).yld i H v H' → g v σ H' fun σ2 H2 => tb { D with nx := N, ct := N, bk := D.nx } σ2 H2) := by
  refine ⟨fun i m σ H => m = xs.length - i ∧ i ≤ xs.length ∧ Pv i σ H, ⟨xs.length, rfl, Nat.zero_le _, h0⟩, ?_⟩
  rintro i m σ H ⟨rfl, hi, p⟩
  obtain ⟨qx, qy⟩ := hq i σ H p
  by_cases hlt : i < xs.length
  · have hx : xs[i]? = some xs[i] := List.getElem?_eq_getElem hlt
    have hlt2 : i < ys.length := by omega
    have hy : ys[i]? = some ys[i] := List.getElem?_eq_getElem hlt2
    refine .inr ⟨⟨xs, ys, _, _, qx, qy, hx, hy⟩, Pv (i + 1), fun σ' H' p' => ⟨xs.length - (i + 1), by omega, rfl, hlt, p'⟩, fun v H' y => ?_⟩
    obtain ⟨T, x', y', rfl, hT, rfl, f1, f2⟩ := y
    exact hs i x' y' T σ H (f1 xs qx) (f2 ys qy) p hT
  · have e : i = xs.length := by omega
    subst e
    exact .inl ⟨⟨xs, ys, qx, qy, Nat.le_refl _, by omega, .inl rfl⟩, hd σ H p⟩

/-! ### two tuples of the same numbers -/
theorem canLay_ints : ∀ ns : List Nat, PyData.canLayAll0 (ns.map fun n : Nat => PyData.int (n : Int)) = true
  | [] => by simp [PyData.canLayAll0]
  | n :: r => by
    rw [List.map_cons, PyData.canLayAll0, canLay_ints r]
    simp [PyData.canLay0]
theorem depth_ints : ∀ ns : List Nat, PyData.depthAll (ns.map fun n : Nat => PyData.int (n : Int)) ≤ 1
  | [] => by simp [PyData.depthAll]
  | n :: r => by
    have := depth_ints r
    rw [List.map_cons, PyData.depthAll]
    simp [PyData.depth] <;> omega
theorem dp_ints {K : PySem.W.Frag} {H : Hp} : ∀ ns : List Nat, DpAll K H (ns.map vI) (ns.map fun n : Nat => PyData.int (n : Int))
  | [] => .nil
  | n :: r => .cons (.int _) (dp_ints r)
theorem shaped_ints (ns : List Nat) : SeqAt.shaped (.tuple (ns.map fun n : Nat => PyData.int (n : Int))) = true := by
  have h := depth_ints ns
  unfold SeqAt.shaped
  rw [PyData.canLay0, canLay_ints, Bool.true_and]
  refine decide_eq_true ?_
  rw [PyData.depth]
  omega
def rNeI (K : PySem.W.Frag) : R2 := fun x y H Q => ∃ (a b : Addr) (ns : List Nat), x = .ref a ∧ y = .ref b ∧ SqT K H a (ns.map vI) ∧ SqT K H b (ns.map vI) ∧ Q (.bl false) H
theorem op_neI {X : Cx} (hu : X.A.units + 64 < cLine) : OpR X (compareOp .NotEq) (rNeI X.K) := by
  intro pins s σ H x y v u Q I rx ry h
  obtain ⟨a, b, ns, rfl, rfl, ha, hb, q⟩ := h
  refine op_neD hu pins s σ H _ _ v u Q I rx ry ⟨_, _, .tup ha (dp_ints ns), .tup hb (dp_ints ns), shaped_ints ns, shaped_ints ns, ?_⟩
  rw [SeqAt.eqv_refl _ (SeqAt.canLay_of_shaped (shaped_ints ns))]
  exact q
def rEqI (K : PySem.W.Frag) : R2 := fun x y H Q => ∃ (a b : Addr) (ns : List Nat), x = .ref a ∧ y = .ref b ∧ SqT K H a (ns.map vI) ∧ SqT K H b (ns.map vI) ∧ Q (.bl true) H
theorem op_eqI {X : Cx} (hu : X.A.units + 64 < cLine) : OpR X (compareOp .Eq) (rEqI X.K) := by
  intro pins s σ H x y v u Q I rx ry h
  obtain ⟨a, b, ns, rfl, rfl, ha, hb, q⟩ := h
  refine op_eqD hu pins s σ H _ _ v u Q I rx ry ⟨_, _, .tup ha (dp_ints ns), .tup hb (dp_ints ns), shaped_ints ns, shaped_ints ns, ?_⟩
  rw [SeqAt.eqv_refl _ (SeqAt.canLay_of_shaped (shaped_ints ns))]
  exact q

/-! ### list.extend(tuple) -/
theorem ext_tupA (l : Addr) (items : Array Value) (n : Nat) (b : Addr) (items2 : Array Value) (n2 : Nat) (dd : Option Addr) (sl : Array (Option Value)) (hs0 : ¬(!items.isEmpty && Builtin.List.listTooLong (items.size + items2.size)) = true) (hs1 : items.size ≤ sizeLine) (hs2 : items.size + items2.size ≤ sizeLine + 1) :
    Meets (Builtin.«list.extend» ⟨[.ref l, .ref b], []⟩) (fun _ R s => s.heap.get? l = some { cls := .type "list", dict := none, data := .seq items n, slots := #[] } ∧ s.heap.get? b = some { cls := .type "tuple", dict := dd, data := .seq items2 n2, slots := sl } ∧ R (.ok (.ret Value.none)) { s with heap := s.heap.update l (Obj.mapSeq fun x => x ++ items2), toks := s.toks }) :=
  .of_wp fun prog w A R s h => by
    obtain ⟨hp, g, d, tk, os⟩ := s; obtain ⟨hl, hb, h⟩ := h; have f2 := sub_tuple_tuple; have f3 := sub_list_list; have f4 := sub_tuple_list; have f5 := sub_list_tuple
    have hz' : (items ++ items2).size ≤ sizeLine + 1 := by rw [Array.size_append]; exact hs2
    wp_walk using (wpAny_updateSeq hl rfl (hz := hs1) (_hz' := hz')), wpAny_loadPart' hl, wpAny_loadPart' hb
    exact ⟨_, rfl, h⟩
def rExtT (K : PySem.W.Frag) : V → List V → Hp → VK → Prop := fun x vs H Q => ∃ l b xs zs, x = .ref l ∧ vs = [.ref b] ∧ H l = some (.lst xs) ∧ SqT K H b zs ∧ xs.length + zs.length ≤ sizeLine ∧ Q .non (upd H l (.lst (xs ++ zs)))
theorem mt_extT {X : Cx} : MtM X "list.extend" (rExtT X.K) := by
  intro pins s σ H x vs v us Q I rx rv h
  obtain ⟨l, b, xs, zs, rfl, rfl, hH, hB, hz, q⟩ := h
  cases rx
  obtain ⟨u, rfl, ru⟩ := rv.one
  cases ru
  obtain ⟨z, its, n, r, hl, e⟩ := I.lstM hH
  obtain ⟨its2, r2, p2, hl2⟩ := I.tuple hB
  obtain ⟨⟨cls, dd, data, sl⟩, ho, hc, n2, hd⟩ := id p2
  simp only at hc hd
  subst hc hd
  have len2 := r2.length
  have hsz : its.toArray.size + its2.toArray.size ≤ sizeLine := by rw [List.size_toArray, List.size_toArray]; omega
  have hlong : ¬ (!its.toArray.isEmpty && Builtin.List.listTooLong (its.toArray.size + its2.toArray.size)) = true := by
    rw [notLongL hsz, Bool.and_false]
    exact Bool.false_ne_true
  refine call_meets F.slot_list_extend ⟨_, e, rfl⟩ F.entry_list_extend (F.args_list_extend_2 _ _)
    (ext_tupA l its.toArray n b its2.toArray n2 dd sl hlong (by rw [List.size_toArray]; omega) (by omega)) ⟨e, ho, ?_⟩
  refine ⟨.non, _, I.lset (its' := its ++ its2) hH e (by simp) (r.append r2) ?_, rfl, q⟩
  rw [List.length_append]
  omega

/-! ### the source as it comes -/
def iEnX (K : PySem.W.Frag) (ta : TA) : TI := fun σ H R => ta σ H fun vs H1 => ∃ (S : Src) (a : Addr) (xs : List V), vs = [.ref a] ∧ S.sq K H1 a xs ∧ R (ItE S K a) H1
theorem pi_enumX {X : Cx} {e : Expr} {ta : TA} {p pos tpos : Pos} {elts : List Expr} {kk : Nat} (hg : Gl X "enumerate") (hm : X.mg "enumerate" = none) (ha : PA X [e] ta) (hs : starEach [e] X.env = [(false, eval e X.env)] := by rfl) :
    PI X (.Tuple elts kk tpos) (.Call (.Name "enumerate" p) [e] [] pos) (iEnX X.K ta) := by
  refine ⟨fun pins s σ H R I h => ?_⟩
  have h' : ta σ H fun vs H1 => ∃ S : Src, ∃ (a : Addr) (xs : List V), vs = [.ref a] ∧ S.sq X.K H1 a xs ∧ R (ItE S X.K a) H1 := h
  refine Call_ (ld_blt I hg hm boot_enumerate (PyProof.Rows.callWith_type1 (thn (ha.run pos pins s σ H _ I h') fun us s1 ⟨vs, H1, I1, r1, q1⟩ => ?_) hs rfl))
  obtain ⟨S, a, xs, ex, hq, q⟩ := q1
  exact enumG_run S I1 r1 ⟨a, xs, ex, hq, q⟩
def iZpX (K : PySem.W.Frag) (ta : TA) : TI := fun σ H R => ta σ H fun vs H1 => ∃ (S1 S2 : Src) (a b : Addr) (xs ys : List V), vs = [.ref a, .ref b] ∧ S1.sq K H1 a xs ∧ S2.sq K H1 b ys ∧ R (ItZ S1 S2 K a b) H1
theorem pi_zipX {X : Cx} {e e2 : Expr} {ta : TA} {p pos tpos : Pos} {elts : List Expr} {kk : Nat} (hg : Gl X "zip") (hm : X.mg "zip" = none) (ha : PA X [e, e2] ta)
    (hs : starEach [e, e2] X.env = (false, eval e X.env) :: starEach [e2] X.env := by rfl) (hpl : (backTo pos (starEach [e2] X.env)).any (·.1) = false := by rfl) :
    PI X (.Tuple elts kk tpos) (.Call (.Name "zip" p) [e, e2] [] pos) (iZpX X.K ta) := by
  refine ⟨fun pins s σ H R I h => ?_⟩
  have h' : ta σ H fun vs H1 => ∃ S1 S2 : Src, ∃ (a b : Addr) (xs ys : List V), vs = [.ref a, .ref b] ∧ S1.sq X.K H1 a xs ∧ S2.sq X.K H1 b ys ∧ R (ItZ S1 S2 X.K a b) H1 := h
  refine Call_ (ld_blt I hg hm PyProof.Rows.boot_zip (PyProof.Rows.callWith_type1 (thn (ha.run pos pins s σ H _ I h') fun us s1 ⟨vs, H1, I1, r1, q1⟩ => ?_) hs hpl))
  obtain ⟨S1, S2, a, b, xs, ys, ex, hqx, hqy, q⟩ := q1
  exact zipG_run S1 S2 I1 r1 ⟨a, b, xs, ys, ex, hqx, hqy, q⟩
end Bf

set_option Elab.async false
set_option linter.all false
set_option maxRecDepth 100000
set_option maxHeartbeats 4000000
namespace Bf
open PySem PySem.Spec PyProof.Rows L2
/-! ### data of tuples, ints and texts, as they lie -/
mutual
inductive Lay (H : Hp) : V → PyData → Prop
  | non : Lay H .non .none
  | bl (b : Bool) : Lay H (.bl b) (.bool b)
  | int (i : Int) : Lay H (.int i) (.int i)
  | str (x : Str) : Lay H (.str x) (.str x)
  | tup {a : Addr} {xs : List V} {ds : List PyData} : H a = some (.tup xs) → LayAll H xs ds → Lay H (.ref a) (.tuple ds)
inductive LayAll (H : Hp) : List V → List PyData → Prop
  | nil : LayAll H [] []
  | cons {v : V} {vs : List V} {d : PyData} {ds : List PyData} : Lay H v d → LayAll H vs ds → LayAll H (v :: vs) (d :: ds)
end
/-- what is tracked as a tuple in H is so in H' -/
def KeepT (H H' : Hp) : Prop := ∀ b xs, H b = some (.tup xs) → H' b = some (.tup xs)
theorem KeepT.refl (H : Hp) : KeepT H H := fun _ _ h => h
theorem KeepT.same {H H' : Hp} (k : Same H H') : KeepT H H' := fun b xs h => k _ _ h
theorem KeepT.trans {H H1 H2 : Hp} (a : KeepT H H1) (b : KeepT H1 H2) : KeepT H H2 := fun c o h => b c o (a c o h)
theorem KeepT.new {H : Hp} {p : Addr} {o : HO} (h : H p = none) : KeepT H (upd H p o) := fun b u q => by rw [upd_ne (ne_of_none q h)]; exact q
theorem KeepT.lst {H : Hp} {p : Addr} {o : HO} {l : List V} (h : H p = some (.lst l)) : KeepT H (upd H p o) := fun b u q => by
  rw [upd_ne (fun e => by rw [e, h] at q; cases q)]
  exact q
mutual
theorem Lay.keep {H H' : Hp} (k : KeepT H H') : ∀ (d : PyData) (v : V), Lay H v d → Lay H' v d
  | .none, _, h => by cases h; exact .non
  | .bool b, _, h => by cases h; exact .bl b
  | .int i, _, h => by cases h; exact .int i
  | .str x, _, h => by cases h; exact .str x
  | .list ds, _, h => by cases h
  | .tuple ds, _, h => by
    cases h with
    | tup e a => exact .tup (k _ _ e) (LayAll.keep k ds _ a)
  | .dict _, _, h => by cases h
theorem LayAll.keep {H H' : Hp} (k : KeepT H H') : ∀ (ds : List PyData) (vs : List V), LayAll H vs ds → LayAll H' vs ds
  | [], _, h => by cases h; exact .nil
  | d :: ds, _, h => by
    cases h with
    | cons a b => exact .cons (Lay.keep k d _ a) (LayAll.keep k ds _ b)
end
mutual
theorem Lay.dp {K : PySem.W.Frag} {H : Hp} : ∀ (d : PyData) (v : V), Lay H v d → Dp K H v d
  | .none, _, h => by cases h; exact .non
  | .bool b, _, h => by cases h; exact .bl b
  | .int i, _, h => by cases h; exact .int i
  | .str x, _, h => by cases h; exact .str x
  | .list ds, _, h => by cases h
  | .tuple ds, _, h => by
    cases h with
    | tup e a => exact .tup (SqT.of e) (LayAll.dp ds _ a)
  | .dict _, _, h => by cases h
theorem LayAll.dp {K : PySem.W.Frag} {H : Hp} : ∀ (ds : List PyData) (vs : List V), LayAll H vs ds → DpAll K H vs ds
  | [], _, h => by cases h; exact .nil
  | d :: ds, _, h => by
    cases h with
    | cons a b => exact .cons (Lay.dp d _ a) (LayAll.dp ds _ b)
end
theorem Lay.keep' {H H' : Hp} {d : PyData} {v : V} (h : Lay H v d) (k : KeepT H H') : Lay H' v d := Lay.keep k d v h
theorem LayAll.keep' {H H' : Hp} {ds : List PyData} {vs : List V} (h : LayAll H vs ds) (k : KeepT H H') : LayAll H' vs ds := LayAll.keep k ds vs h
theorem Lay.dp' {K : PySem.W.Frag} {H : Hp} {d : PyData} {v : V} (h : Lay H v d) : Dp K H v d := Lay.dp d v h
theorem LayAll.len {H : Hp} : ∀ {vs : List V} {ds : List PyData}, LayAll H vs ds → vs.length = ds.length
  | _, _, .nil => rfl
  | _, _, .cons _ h => by rw [List.length_cons, List.length_cons, h.len]
theorem LayAll.get {H : Hp} {v : V} : ∀ {vs : List V} {ds : List PyData} (i : Nat), LayAll H vs ds → vs[i]? = some v → ∃ d, ds[i]? = some d ∧ Lay H v d
  | [], _, _, _, e => by simp at e
  | _ :: _, _, 0, h, e => by
    cases h with
    | cons a b => cases e; exact ⟨_, rfl, a⟩
  | x :: vs, ds, i + 1, h, e => by
    cases h with
    | cons a b =>
      obtain ⟨d, q, l⟩ := LayAll.get (vs := vs) i b (by simpa using e)
      exact ⟨d, by simpa using q, l⟩
theorem LayAll.at_ {H : Hp} {d : PyData} : ∀ {vs : List V} {ds : List PyData} (i : Nat), LayAll H vs ds → ds[i]? = some d → ∃ v, vs[i]? = some v ∧ Lay H v d
  | _, [], _, _, e => by simp at e
  | _, _ :: _, 0, h, e => by
    cases h with
    | cons a b => cases e; exact ⟨_, rfl, a⟩
  | vs, x :: ds, i + 1, h, e => by
    cases h with
    | cons a b =>
      obtain ⟨d, q, l⟩ := LayAll.at_ (ds := ds) i b (by simpa using e)
      exact ⟨d, by simpa using q, l⟩
theorem LayAll.app {H : Hp} : ∀ {vs us : List V} {ds es : List PyData}, LayAll H vs ds → LayAll H us es → LayAll H (vs ++ us) (ds ++ es)
  | _, _, _, _, .nil, h => h
  | _, _, _, _, .cons a b, h => .cons a (b.app h)
theorem LayAll.snoc {H : Hp} {vs : List V} {ds : List PyData} {v : V} {d : PyData} (h : LayAll H vs ds) (a : Lay H v d) : LayAll H (vs ++ [v]) (ds ++ [d]) := h.app (.cons a .nil)
theorem LayAll.ints {H : Hp} : ∀ ns : List Nat, LayAll H (ns.map vI) (ns.map fun n : Nat => PyData.int (n : Int))
  | [] => .nil
  | n :: ns => .cons (.int _) (LayAll.ints ns)
theorem LayAll.ints_inv {H : Hp} : ∀ {ns : List Nat} {vs : List V}, LayAll H vs (ns.map fun n : Nat => PyData.int (n : Int)) → vs = ns.map vI
  | [], _, .nil => rfl
  | n :: ns, _, .cons (.int _) h => by rw [LayAll.ints_inv h]; rfl
theorem LayAll.strs_inv {H : Hp} : ∀ {ns : List Str} {vs : List V}, LayAll H vs (ns.map PyData.str) → vs = ns.map V.str
  | [], _, .nil => rfl
  | n :: ns, _, .cons (.str _) h => by rw [LayAll.strs_inv h]; rfl
theorem LayAll.strs {H : Hp} : ∀ ns : List Str, LayAll H (ns.map V.str) (ns.map PyData.str)
  | [] => .nil
  | n :: ns => .cons (.str _) (LayAll.strs ns)
theorem Lay.tup_inv {H : Hp} {v : V} {ds : List PyData} (h : Lay H v (.tuple ds)) : ∃ p vs, v = .ref p ∧ H p = some (.tup vs) ∧ LayAll H vs ds := by
  cases h with
  | tup e a => exact ⟨_, _, rfl, e, a⟩
theorem Lay.int_inv {H : Hp} {v : V} {i : Int} (h : Lay H v (.int i)) : v = .int i := by cases h; rfl
theorem Lay.str_inv {H : Hp} {v : V} {z : Str} (h : Lay H v (.str z)) : v = .str z := by cases h; rfl
theorem LayAll.nil_inv {H : Hp} {vs : List V} (h : LayAll H vs []) : vs = [] := by cases h; rfl
theorem LayAll.cons_inv {H : Hp} {vs : List V} {d : PyData} {ds : List PyData} (h : LayAll H vs (d :: ds)) : ∃ v us, vs = v :: us ∧ Lay H v d ∧ LayAll H us ds := by
  cases h with
  | cons a b => exact ⟨_, _, rfl, a, b⟩
/-! ### the shapes that == serves -/
def Sh (k : Nat) (d : PyData) : Prop := d.canLay0 = true ∧ d.depth ≤ k
theorem Sh.int (k : Nat) (i : Int) : Sh k (.int i) := ⟨by simp only [PyData.canLay0], by simp only [PyData.depth]; omega⟩
theorem Sh.all {k : Nat} : ∀ {ds : List PyData}, (∀ d ∈ ds, Sh k d) → PyData.canLayAll0 ds = true ∧ PyData.depthAll ds ≤ k
  | [], _ => ⟨by simp only [PyData.canLayAll0], by simp only [PyData.depthAll]; omega⟩
  | d :: ds, h => by
    have a := h d (by simp)
    have b := Sh.all (ds := ds) fun e he => h e (by simp [he])
    refine ⟨?_, ?_⟩
    · simp only [PyData.canLayAll0]
      rw [a.1, b.1]
      rfl
    · simp only [PyData.depthAll]
      have := a.2
      have := b.2
      omega
theorem Sh.tup {k : Nat} {ds : List PyData} (h : ∀ d ∈ ds, Sh k d) : Sh (k + 1) (.tuple ds) := by
  have q := Sh.all h
  exact ⟨by simp only [PyData.canLay0]; exact q.1, by simp only [PyData.depth]; omega⟩
theorem Sh.lst {k : Nat} {ds : List PyData} (h : ∀ d ∈ ds, Sh k d) : Sh (k + 1) (.list ds) := by
  have q := Sh.all h
  exact ⟨by simp only [PyData.canLay0]; exact q.1, by simp only [PyData.depth]; omega⟩
theorem Sh.shaped {k : Nat} {d : PyData} (h : Sh k d) (hk : k ≤ 64) : SeqAt.shaped d = true := by
  show (d.canLay0 && decide (d.depth ≤ 64)) = true
  rw [Bool.and_eq_true]
  exact ⟨h.1, decide_eq_true (by have := h.2; omega)⟩
mutual
theorem eqv_self : ∀ d : PyData, d.canLay0 = true → PyData.eqv d d = true
  | .none, _ => by simp [PyData.eqv]
  | .bool b, _ => by simp [PyData.eqv]
  | .int i, _ => by simp [PyData.eqv]
  | .str x, _ => by simp [PyData.eqv]
  | .list ds, h => by
    simp only [PyData.canLay0] at h
    simp only [PyData.eqv]
    exact eqvAll_self ds h
  | .tuple ds, h => by
    simp only [PyData.canLay0] at h
    simp only [PyData.eqv]
    exact eqvAll_self ds h
  | .dict _, h => by simp [PyData.canLay0] at h
theorem eqvAll_self : ∀ ds : List PyData, PyData.canLayAll0 ds = true → PyData.eqvAll ds ds = true
  | [], _ => by simp [PyData.eqvAll]
  | d :: ds, h => by
    simp only [PyData.canLayAll0, Bool.and_eq_true] at h
    simp only [PyData.eqvAll, Bool.and_eq_true]
    exact ⟨eqv_self d h.1, eqvAll_self ds h.2⟩
end
/-! ### bits of numbers that are not negative -/
section
variable {X : Cx}
theorem op_xorB : OpR X (binaryOp .BitXor) (fun x y H Q => ∃ n m : Nat, x = .int (n : Int) ∧ y = .int (m : Int) ∧ Q (vI (n ^^^ m)) H) := by
  intro pins s σ H x y v u Q I rx ry h
  obtain ⟨n, m, rfl, rfl, q⟩ := h
  refine op_xor pins s σ H _ _ v u Q I rx ry ⟨_, _, rfl, rfl, ?_⟩
  show Q (V.int (Builtin.bitXor (n : Int) (m : Int))) H
  rw [Bits.bitXor_pp (Int.natCast_nonneg _) (Int.natCast_nonneg _)]
  exact q
theorem op_andB : OpR X (binaryOp .BitAnd) (fun x y H Q => ∃ n m : Nat, x = .int (n : Int) ∧ y = .int (m : Int) ∧ Q (vI (n &&& m)) H) := by
  intro pins s σ H x y v u Q I rx ry h
  obtain ⟨n, m, rfl, rfl, q⟩ := h
  refine op_and pins s σ H _ _ v u Q I rx ry ⟨_, _, rfl, rfl, ?_⟩
  show Q (V.int (Builtin.bitAnd (n : Int) (m : Int))) H
  rw [bitAnd_pp (Int.natCast_nonneg _) (Int.natCast_nonneg _)]
  exact q
theorem op_orB : OpR X (binaryOp .BitOr) (fun x y H Q => ∃ n m : Nat, x = .int (n : Int) ∧ y = .int (m : Int) ∧ Q (vI (n ||| m)) H) := by
  intro pins s σ H x y v u Q I rx ry h
  obtain ⟨n, m, rfl, rfl, q⟩ := h
  refine op_or pins s σ H _ _ v u Q I rx ry ⟨_, _, rfl, rfl, ?_⟩
  show Q (V.int (Builtin.bitOr (n : Int) (m : Int))) H
  rw [Bits.bitOr_pp (Int.natCast_nonneg _) (Int.natCast_nonneg _)]
  exact q
end
/-! ### wide numbers that are not negative -/
theorem natAbs_cast (n : Nat) : ((n : Int)).natAbs = n := rfl
section
variable {X : Cx}
theorem op_fdivNW : OpR X (binaryOp .FloorDiv) (fun x y H Q => ∃ n m : Nat, x = .int (n : Int) ∧ y = .int (m : Int) ∧ (1 ≤ m ∧ m < 2 ^ 9000) ∧ Q (vI (n / m)) H) := by
  intro pins s σ H x y v u Q I rx ry h
  obtain ⟨n, m, rfl, rfl, ⟨h1, h2⟩, q⟩ := h
  exact op_fdivW pins s σ H _ _ v u Q I rx ry ⟨_, _, rfl, rfl, wide_div (b := 9000) (by omega) h2 (by omega) (by omega), q⟩
theorem op_mulNW : OpR X (binaryOp .Mult) (fun x y H Q => ∃ n m : Nat, x = .int (n : Int) ∧ y = .int (m : Int) ∧ (n < 2 ^ 100000 ∧ m < 2 ^ 100000) ∧ Q (vI (n * m)) H) := by
  intro pins s σ H x y v u Q I rx ry h
  obtain ⟨n, m, rfl, rfl, ⟨h1, h2⟩, q⟩ := h
  refine op_mulW pins s σ H _ _ v u Q I rx ry ⟨_, _, rfl, rfl, wide_mul (a := 100000) (b := 100000) h1 h2 (by omega) (by omega) (by omega), ?_⟩
  show Q (V.int ((n : Int) * (m : Int))) H
  rw [← Int.natCast_mul]
  exact q
theorem op_shlNN : OpR X (binaryOp .LShift) (fun x y H Q => ∃ n k : Nat, x = .int (n : Int) ∧ y = .int (k : Int) ∧ (n < 2 ^ 100000 ∧ k ≤ 100000) ∧ Q (vI (n * 2 ^ k)) H) := by
  intro pins s σ H x y v u Q I rx ry h
  obtain ⟨n, k, rfl, rfl, ⟨h1, h2⟩, q⟩ := h
  refine op_shlN pins s σ H _ _ v u Q I rx ry ⟨_, k, rfl, rfl, shl_ok (n := 100000) h1 (by omega), ?_⟩
  have e : ((n : Int) * 2 ^ k) = ((n * 2 ^ k : Nat) : Int) := by simp
  rw [e]
  exact q
theorem op_oneShlN : OpR X (binaryOp .LShift) (fun x y H Q => ∃ k : Nat, x = .int 1 ∧ y = .int (k : Int) ∧ k ≤ 134217727 ∧ Q (vI (2 ^ k)) H) := by
  intro pins s σ H x y v u Q I rx ry h
  obtain ⟨k, rfl, rfl, h1, q⟩ := h
  refine op_oneShl pins s σ H _ _ v u Q I rx ry ⟨k, rfl, rfl, h1, ?_⟩
  have e : ((2 : Int) ^ k) = ((2 ^ k : Nat) : Int) := by simp
  rw [e]
  exact q
end
/-! ### walks -/
theorem walk_enumG (S : Src) {K : PySem.W.Frag} {a : Addr} {xs : List V} : Walk (ItE S K a) xs.length (fun H => S.sq K H a xs) (YPair (fun i => some (.int (i : Nat))) (fun i => xs[i]?)) := by
  refine ⟨fun i _ hi q => ⟨xs, xs[i], q, by simp [hi]⟩, fun _ q => ⟨xs, q, rfl⟩, fun i H v H' _ q y => ?_⟩
  obtain ⟨T, x, h1, h2, h3, h4⟩ := y
  exact ⟨T, .int (i : Nat), x, h1, h2, h3, rfl, h4 xs q⟩
def rLenK (K : PySem.W.Frag) (xs : List V) (H : Hp) (Q : V → Hp → Prop) : Prop := ∃ p ys, xs = [.ref p] ∧ (SqL K H p ys ∨ SqT K H p ys) ∧ Q (.int ys.length) H
theorem call_lenK {X : Cx} : CallR X (.builtin "len") (rLenK X.K) := call_len_seq
/-! ### small facts -/
theorem refAt {ts : List Addr} {i : Nat} {x : V} (h : (ts.map V.ref)[i]? = some x) : ∃ t, ts[i]? = some t ∧ x = .ref t := by
  rw [List.getElem?_map] at h
  cases e : ts[i]? with
  | none => rw [e] at h; cases h
  | some k => rw [e] at h; exact ⟨k, rfl, (Option.some.inj h).symm⟩
theorem natAt {xs : List Nat} {i : Nat} {x : V} (h : (xs.map vI)[i]? = some x) : ∃ k, xs[i]? = some k ∧ x = vI k := by
  rw [List.getElem?_map] at h
  cases e : xs[i]? with
  | none => rw [e] at h; cases h
  | some k => rw [e] at h; exact ⟨k, rfl, (Option.some.inj h).symm⟩
theorem mapAt {α : Type} {f : α → V} {xs : List α} {i : Nat} {x : V} (h : (xs.map f)[i]? = some x) : ∃ k, xs[i]? = some k ∧ x = f k := by
  rw [List.getElem?_map] at h
  cases e : xs[i]? with
  | none => rw [e] at h; cases h
  | some k => rw [e] at h; exact ⟨k, rfl, (Option.some.inj h).symm⟩
theorem mapAtD {α : Type} {f : α → PyData} {xs : List α} {i : Nat} {x : PyData} (h : (xs.map f)[i]? = some x) : ∃ k, xs[i]? = some k ∧ x = f k := by
  rw [List.getElem?_map] at h
  cases e : xs[i]? with
  | none => rw [e] at h; cases h
  | some k => rw [e] at h; exact ⟨k, rfl, (Option.some.inj h).symm⟩
theorem take_snoc {α : Type} {l : List α} {i : Nat} {x : α} (h : l[i]? = some x) : l.take (i + 1) = l.take i ++ [x] := by
  rw [List.take_add_one, h]
  rfl
theorem same_two {H H' : Hp} {p : Addr} {o : HO} (k : Same H H') (hp : H p = none) : Same H (upd H' p o) := fun b u q => by
  rw [upd_ne (ne_of_none q hp)]
  exact k _ _ q
theorem i62 {n : Nat} (h : n ≤ 1000) : -(2 ^ 62) ≤ (n : Int) ∧ (n : Int) < 2 ^ 62 := by
  have a : (-(2 ^ 62) : Int) ≤ 0 := by decide
  have b : (1001 : Int) ≤ 2 ^ 62 := by decide
  exact ⟨Int.le_trans a (Int.natCast_nonneg _), Int.lt_of_lt_of_le (by omega) b⟩
theorem vInt {i : Int} {n : Nat} (h : i = (n : Int)) : V.int i = vI n := by rw [h]; rfl
theorem all_true : ∀ n : Nat, (List.replicate n true).all id = true
  | 0 => rfl
  | n + 1 => by
    rw [List.replicate_succ, List.all_cons, all_true n]
    rfl
theorem len1000 {n : Nat} (h : n ≤ 1000) : n < sizeLine := small1000 h
end Bf

set_option Elab.async false
set_option linter.all false
set_option maxRecDepth 100000
set_option maxHeartbeats 4000000
namespace Bf
open PySem PySem.Spec PyProof.Rows L2
/-! ### set(list of ints), so that it can be sorted: what set() has, member by member -/
theorem ints_at : ∀ {us : List Value} {xs : List Int}, IntsAre us xs → ∀ (i : Nat) (v : Value), us[i]? = some v → ∃ t, v = .int (xs.getD i 0) t
  | _, _, .nil, i, v, h => by simp at h
  | _, _, .cons n t hr, 0, v, h => by simp at h; exact ⟨t, by rw [← h] <;> rfl⟩
  | _, _, .cons n t hr, i + 1, v, h => by
    simp only [List.getElem?_cons_succ] at h
    obtain ⟨t', e⟩ := ints_at hr i v h
    exact ⟨t', by rw [e] <;> rfl⟩
section
variable {prog : Program} {w : World} {A : Around} {E : Value → Shared → Prop} {s : Shared}
theorem code_set_led1 (a : Value) {Q₁ : Value → Shared → Prop}
    (h : Q₁ (.ref s.heap.objs.size) { s with heap := s.heap.push { cls := .type "set", dict := none, data := .set #[] 0 (.fresh 0 0 (!w.params.followText "set-order")) } }) :
    codeAny (model prog w) A (.call (.builtin "set.__new__") ⟨[.type "set", a], []⟩) (wants Q₁ E) s := by
  refine codeAny_of_tree ?_
  show wpAny _ A.in1 (do checkBuiltinCall "set.__new__" ⟨[.type "set", a], []⟩; again (.builtin "set.__new__" ⟨[.type "set", a], []⟩)) _ _ s
  refine wpAny_bind (wpAny_of_eq (F.newCall_set_1 a) (wpAny_pure ⟨plainId_quiet F.plain_set_new _, codeAny_builtin F.entry_set_new ?_⟩))
  rw [Around.under_plainId F.plain_set_new _]
  unfold Builtin.«set.__new__» Builtin.Frozenset.newClass
  have hsub := sub_set_self
  obtain ⟨hp, g, d, tk, os⟩ := s
  dsimp only
  wp_walk
  refine wpAny_askSetting (wpAny_pure ?_)
  dsimp only
  simp only [newObj]
  refine wpAny_bind (wpAny_alloc (wpAny_pure ?_))
  exact wpAny_pure h
end
section
variable {prog : Program} {w : World} {A : Around} {R : Result → Shared → Prop} {I : Addr} {fp wr : List Addr} {G : Array GenState → Array GenState → Prop} {n : Nat} {P : Nat → Value → Prop} {St : Nat → Shared → Prop}
theorem loopInt (W : WalksS prog w A.in1 I fp wr G n P St) (S : Addr) (hSf : S ∉ fp) (xs : List Int) (hsz : xs.length = n) (hn : n ≤ 4000)
    (hval : ∀ i v, P i v → ∃ t, v = .int (xs.getD i 0) t) :
    ∀ (k i m : Nat) (s : Shared) (Sb : Int → Bool), n - i = k → i ≤ n → m ≤ i → St i s → SetR w s.heap S Sb m → (∀ x, Sb x = true ↔ x ∈ xs.take i) →
      (∀ s' Sb' m', Moved (S :: wr) G s s' → SetR w s'.heap S Sb' m' → m' ≤ n → (∀ x, Sb' x = true ↔ x ∈ xs) → R (.ok (.ret .none)) s') →
      codeAny (model prog w) A (.builtin "set.update.loop" ⟨[.ref S, .ref I], []⟩) R s := by
  have hSw : S ∉ wr := fun h => hSf (W.sub _ h)
  have hsub : ∀ b ∈ wr, b ∈ S :: wr := fun b hb => List.mem_cons_of_mem _ hb
  intro k
  induction k with
  | zero =>
    intro i m s Sb hk hi hm hst hS hSb hR
    have hin : i = n := by omega
    subst hin
    refine codeAny_builtin PyProof.Rows.F.entry_set_update_loop ?_
    rw [Around.under_plainId PyProof.Rows.F.plain_set_update_loop _]
    show wpAny _ A.in1 (pyNext (.ref I) >>= _) _ _ s
    refine wpAny_bind (W.done s _ _ hst fun s' hm' => ?_)
    show wpAny _ A.in1 (ret Value.none) _ _ s'
    refine wpAny_pure (hR s' Sb m (hm'.mono hsub) (hS.at fun o ho => hm'.heap S _ hSw ho) hm fun x => ?_)
    rw [hSb, List.take_of_length_le (by omega)]
  | succ k ih =>
    intro i m s Sb hk hi hm hst hS hSb hR
    have hlt : i < n := by omega
    refine codeAny_builtin PyProof.Rows.F.entry_set_update_loop ?_
    rw [Around.under_plainId PyProof.Rows.F.plain_set_update_loop _]
    show wpAny _ A.in1 (pyNext (.ref I) >>= _) _ _ s
    refine wpAny_bind (W.item i s _ _ hlt hst fun v s' hP hst' hm' => ?_)
    obtain ⟨t, rfl⟩ := hval i v hP
    have hS' : SetR w s'.heap S Sb m := hS.at fun o ho => hm'.heap S _ hSw ho
    show wpAny _ A.in1 (holding [Value.int (xs.getD i 0) t] (setAdd S (.int (xs.getD i 0) t)) >>= _) _ _ s'
    refine wpAny_bind (wpAny_holding ?_)
    unfold setAdd
    refine wpAny_holding ?_
    refine wpAny_bind ((intKind prog w).pyHash (k := xs.getD i 0) (intKind_is _ _ _ _) ?_)
    refine setR_add_hashed (P := prog) (s := { s' with toks := s'.toks + 1 }) hS' (by unfold scanBound; omega) fun h' hsb hS2 => ?_
    have hx : xs[i]? = some (xs.getD i 0) := by
      rw [List.getD_eq_getElem?_getD, List.getElem?_eq_getElem (by omega)]
      rfl
    refine wpAny_pure ⟨plainId_quiet PyProof.Rows.F.plain_set_update_loop _, ih (i + 1) _ _ _ (by omega) hlt (by split <;> omega) (W.frame _ s' _ _ hst' (Nat.le_succ _) fun b hb o e => ?_) hS2 (fun x => ?_) fun s'' Sb' m' hm'' hS'' => ?_⟩
    · rw [hsb.2 b (fun h : b = S => hSf (by rw [← h]; exact hb))]; exact e
    · rw [List.take_add_one, hx, Bool.or_eq_true, hSb, decide_eq_true_iff, List.mem_append]
      simp
    · refine hR s'' Sb' m' (Moved.trans W.gtrans ((hm'.mono hsub).then_heap (Nat.le_succ _) fun b o hb e => ?_) hm'') hS''
      rw [hsb.2 b (fun h : b = S => hb (by rw [h]; exact List.mem_cons_self))]; exact e
end
section
variable {prog : Program} {w : World} {A : Around} {E : Value → Shared → Prop} {s : Shared}
set_option maxHeartbeats 3200000 in
theorem call_set_listI {l : Addr} {items : Array Value} {xs : List Int} {Q : Value → Shared → Prop}
    (hh : A.handled = none) (hl : s.heap.IsList l items) (hi : IntsAre items.toList xs) (hn1 : xs.length ≤ 4000)
    (h : ∀ (h' : Heap) (tk : Nat) (Sb : Int → Bool) (m : Nat), SetR w h' s.heap.objs.size Sb m → m ≤ xs.length → (∀ x, Sb x = true ↔ x ∈ xs) →
      (∀ b o, b < s.heap.objs.size → s.heap.get? b = some o → h'.get? b = some o) → Q (.ref s.heap.objs.size) { s with heap := h', toks := tk }) :
    wpAny (model prog w) A (call (.type "set") [.ref l]) Q E s := by
  obtain ⟨c, tl, hmro⟩ := PySem.F.called_set.mro
  have hmade := PySem.F.called_set.made
  have hsub := PySem.F.called_set.sub
  refine wpAny_call (codeAny_of_tree ?_)
  show wpAny _ _ (callAny (.type "set") _) _ _ _
  refine wpAny_pure ⟨Code.quiet_builtin _ (by decide +kernel), codeAny_builtin PySem.F.entry_type_call ?_⟩
  rw [Around.under_plain (weight_type_call_type "set" [.ref l] []) rfl]
  have h1 := PySem.F.called_set.notType
  have h2 := PySem.F.called_set.canCreate
  have hct := PySem.F.typeCall_set_1 (.ref l)
  repeat (any_goals (first | assumption | wp_step))
  refine codeAny_mono (code_set_led1 (.ref l) (E := E) (Q₁ := fun obj s₁ => obj = .ref s.heap.objs.size ∧ s₁ = { s with heap := s.heap.push { cls := .type "set", dict := none, data := .set #[] 0 (.fresh 0 0 (!w.params.followText "set-order")) } }) ⟨rfl, rfl⟩) fun r s₁ hr => ?_
  cases r with
  | error e => exact hr
  | ok fl =>
    cases fl with
    | ret obj =>
      obtain ⟨rfl, rfl⟩ := hr
      have hF := setR_fresh (h := s.heap) w
      generalize (!w.params.followText "set-order") = led at hF ⊢
      have hS : (s.heap.push { cls := .type "set", dict := none, data := .set #[] 0 (.fresh 0 0 led) }).get? s.heap.objs.size = some { cls := .type "set", dict := none, data := .set #[] 0 (.fresh 0 0 led) } := Heap.get?_push_size _ rfl
      have hT : Shared.TypeIs { s with heap := s.heap.push { cls := .type "set", dict := none, data := .set #[] 0 (.fresh 0 0 led) } } (.ref s.heap.objs.size) "set" := ⟨_, hS, rfl⟩
      have hli := PySem.F.called_set.init.lookup
      have hbi := PySem.F.called_set.init.bind (.ref s.heap.objs.size)
      repeat (any_goals (first | assumption | wp_step))
      refine codeAny_mono (codeAny_call_builtin (R := wants (fun r s₂ => r = .none ∧ ∃ h' tk Sb m, s₂ = { s with heap := h', toks := tk } ∧
          SetR w h' s.heap.objs.size Sb m ∧ m ≤ xs.length ∧ (∀ x, Sb x = true ↔ x ∈ xs) ∧
          (∀ b o, b < s.heap.objs.size → s.heap.get? b = some o → h'.get? b = some o)) E) PySem.F.called_set.init.plain PySem.F.entry_set_init (check_set_init_1 hT ?_)) fun r₂ s₂ hr₂ => ?_
      · obtain ⟨ol, hol, hcl, nl, hdl⟩ := hl
        obtain ⟨ocls, odict, odata, oslots⟩ := ol
        simp only at hcl hdl
        subst hcl; subst hdl
        have hol' : (s.heap.push { cls := .type "set", dict := none, data := .set #[] 0 (.fresh 0 0 led) }).get? l = some { cls := .type "list", dict := odict, data := .seq items nl, slots := oslots } := Heap.get?_push_of_some _ hol
        have hsls := PySem.F.sub_list_set
        have hslf := PySem.F.sub_list_frozenset
        have hne : (Value.type "list" == Value.type "dict") = false := by decide
        have hl1 : (s.heap.push { cls := .type "set", dict := none, data := .set #[] 0 (.fresh 0 0 led) }).IsList l items := ⟨_, hol', rfl, nl, rfl⟩
        unfold Builtin.«set.__init__» noKeywords Builtin.Frozenset.updateFrom
        generalize hPI : pyIter = PI
        wp_walk
        subst hPI
        refine wpAny_pyIter_list hl1 ?_
        refine wpAny_bind (wpAny_runValue ?_)
        have hlS : l < s.heap.objs.size := Heap.lt_size hol
        have hh3 : A.in1.in1.in1.handled = none := by simp [hh]
        have hneI : l ≠ (s.heap.push { cls := .type "set", dict := none, data := .set #[] 0 (.fresh 0 0 led) }).objs.size := by
          rw [Heap.size_push]; exact Nat.ne_of_lt (Nat.lt_succ_of_lt hlS)
        have hSf : s.heap.objs.size ∉ [(s.heap.push { cls := .type "set", dict := none, data := .set #[] 0 (.fresh 0 0 led) }).objs.size, l] := by
          rw [Heap.size_push]; simp only [List.mem_cons, List.mem_singleton, List.not_mem_nil, or_false, not_or]
          exact ⟨Nat.ne_of_lt (Nat.lt_succ_self _), Nat.ne_of_gt hlS⟩
        have hsz : xs.length = items.size := by rw [← IntsAre.length hi, Array.length_toList]
        have hval : ∀ (i : Nat) (v : Value), items[i]? = some v → ∃ t, v = .int (xs.getD i 0) t := fun i v hv => ints_at hi i v (by rw [Array.getElem?_toList]; exact hv)
        refine loopInt ((Walks.list hh3 _ l hneI items).toS) s.heap.objs.size
          hSf xs hsz (by rw [← hsz]; exact hn1) hval (items.size - 0) 0 0 _ (fun _ => false) (by omega) (Nat.zero_le _) (Nat.le_refl _)
          ⟨⟨_, Heap.get?_push_size _ rfl, rfl, rfl⟩, (hl1.push _)⟩ (hF.at fun o ho => Heap.get?_push_of_some _ ho) (fun x => by simp) ?hR
        case hR =>
          intro s' Sb' m' hm hS' hm' hSb'
          obtain ⟨h', g', d', tk', os'⟩ := s'
          have eg : g' = s.gens := hm.gens
          have ed : d' = s.drawn := hm.drawn
          have eo : os' = s.os := hm.os
          subst eg; subst ed; subst eo
          show wpAny _ _ _ _ _ _
          refine wpAny_pure ?_
          show wpAny _ _ (ret Value.none) _ _ _
          refine wpAny_pure ⟨rfl, h', tk', Sb', m', rfl, hS', by omega, hSb', fun b o hb e => ?_⟩
          have hb1 : b ≠ s.heap.objs.size := Nat.ne_of_lt hb
          have hb2 : b ≠ (s.heap.push { cls := .type "set", dict := none, data := .set #[] 0 (.fresh 0 0 led) }).objs.size := by
            rw [Heap.size_push]; exact Nat.ne_of_lt (Nat.lt_succ_of_lt hb)
          exact hm.heap b o (by simp only [List.mem_cons, List.mem_singleton, List.not_mem_nil, or_false, not_or]; exact ⟨hb1, hb2⟩) (Heap.get?_push_of_some _ (Heap.get?_push_of_some _ e))
      · cases r₂ with
        | error e => exact hr₂
        | ok fl₂ =>
          cases fl₂ with
          | ret r =>
            obtain ⟨rfl, h', tk, Sb, m, rfl, hS', hm', hSb', hk'⟩ := hr₂
            repeat (any_goals (first | assumption | wp_step))
            exact h _ _ _ _ hS' hm' hSb' hk'
          | _ => exact hr₂.elim
    | _ => exact hr.elim
end
/-- set(xs), xs a list of ints -/
def rSetI (K : PySem.W.Frag) (w : World) : List V → Hp → VK → Prop := fun vs H Q => ∃ (l : Addr) (xs : List Int), vs = [.ref l] ∧ SqL K H l (xs.map V.int) ∧ xs.length ≤ 4000 ∧
  ∀ (p : Addr) (Sb : Int → Bool) (m : Nat), H p = none → m ≤ xs.length → (∀ x, Sb x = true ↔ x ∈ xs) → Q (.ref p) (upd H p (SetO w p Sb m))
section
variable {X : Cx}
theorem cr_setI (hc : X.calm = true) : CallR X (.type "set") (rSetI X.K X.w) := by
  intro pins s σ H vs us Q I r h
  obtain ⟨l, xs, rfl, hq, hz, q⟩ := h
  rw [Vals.ref1 r]
  obtain ⟨its, rv, pl, _⟩ := I.list hq
  refine call_set_listI (I.ok.hd hc) pl.isList (by simpa using L2.intsAre_of rv) hz fun h' tk Sb m R hm hS k => ?_
  exact ⟨.ref _, upd H s.heap.objs.size (SetO X.w s.heap.objs.size Sb m), I.laid (t' := tk) (fun b u e => k b u (Heap.lt_size e) e) (Nat.le_refl _) (setO_new R), rfl, q _ _ _ (I.hok.fresh (Nat.le_refl _)) hm hS⟩
end
end Bf

set_option Elab.async false
set_option linter.all false
set_option maxRecDepth 100000
set_option maxHeartbeats 4000000
namespace Bf
open PySem PySem.Spec PyProof.Rows L2 PySem.W
/-! ### max and min of a list of ints, with default= -/
def maxOr (d : Int) : List Int → Int
  | [] => d
  | n :: ns => ns.foldl max n
def minOr (d : Int) : List Int → Int
  | [] => d
  | n :: ns => ns.foldl min n
theorem alikeInts (ns : List Int) : AlikeAll (ns.map PyData.int) := by
  refine ⟨fun x hx y hy => ?_, fun x hx e => ?_⟩
  · obtain ⟨a, _, rfl⟩ := List.mem_map.mp hx
    obtain ⟨b, _, rfl⟩ := List.mem_map.mp hy
    rfl
  · obtain ⟨a, _, rfl⟩ := List.mem_map.mp hx
    cases e
theorem depthInts : ∀ ns : List Int, PyData.depthAll (ns.map PyData.int) ≤ 1
  | [] => by
    rw [List.map_nil]
    simp only [PyData.depthAll]
    omega
  | n :: ns => by
    have := depthInts ns
    rw [List.map_cons]
    simp only [PyData.depthAll, PyData.depth]
    omega
theorem dpInts {K : PySem.W.Frag} {H : Hp} : ∀ ns : List Int, DpAll K H (ns.map V.int) (ns.map PyData.int)
  | [] => .nil
  | n :: ns => .cons (.int n) (dpInts ns)
def rMaxD (K : PySem.W.Frag) : List V → List V → Hp → VK → Prop := fun vs zs H Q => ∃ (l : Addr) (ns : List Int) (d : Int), vs = [.ref l] ∧ zs = [.int d] ∧ SqL K H l (ns.map V.int) ∧ Q (.int (maxOr d ns)) H
def rMinD (K : PySem.W.Frag) : List V → List V → Hp → VK → Prop := fun vs zs H Q => ∃ (l : Addr) (ns : List Int) (d : Int), vs = [.ref l] ∧ zs = [.int d] ∧ SqL K H l (ns.map V.int) ∧ Q (.int (minOr d ns)) H
theorem reads_int {h : Heap} {v : Value} {n : Int} {bs : List Addr} (r : Reads h v (.int n) bs) : ∃ t, v = .int n t := by
  cases r
  exact ⟨_, rfl⟩
section
variable {X : Cx}
theorem cr_maxDef (hc : X.calm = true) (hu : X.A.units + 64 < cLine) : CallRK X (.builtin "max") [Str.ofString "default"] (rMaxD X.K) := by
  intro pins s σ H vs zs us ws Q I r rz h
  obtain ⟨l, ns, d, rfl, rfl, hs, q⟩ := h
  obtain rfl := Vals.ref1 r
  obtain ⟨w1, rfl, e1⟩ := vals1 rz
  obtain ⟨tk, rfl⟩ := e1
  obtain ⟨its, rv, pl, _⟩ := I.list hs
  obtain ⟨as, hr⟩ := Dp.readsAll I (ns.map PyData.int) _ _ (dpInts ns) rv
  refine max_list_default (I.ok.hd hc) pl.isList hr (alikeInts ns) (by have := depthInts ns; omega) (fun h0 h' t' k => ?_) fun y ys i v h' t' bs e hv rd k => ?_
  · have : ns = [] := by simpa using h0
    subst this
    exact ⟨.int d, H, I.kept k, ⟨tk, rfl⟩, q⟩
  · obtain ⟨n, ms, rfl⟩ : ∃ n ms, ns = n :: ms := by
      cases ns with
      | nil => cases e
      | cons n ms => exact ⟨n, ms, rfl⟩
    cases e
    rw [maxD_ints] at rd
    obtain ⟨t, rfl⟩ := reads_int rd
    exact ⟨.int (ms.foldl max n), H, I.kept k, ⟨t, rfl⟩, q⟩
theorem cr_minDef (hc : X.calm = true) (hu : X.A.units + 64 < cLine) : CallRK X (.builtin "min") [Str.ofString "default"] (rMinD X.K) := by
  intro pins s σ H vs zs us ws Q I r rz h
  obtain ⟨l, ns, d, rfl, rfl, hs, q⟩ := h
  obtain rfl := Vals.ref1 r
  obtain ⟨w1, rfl, e1⟩ := vals1 rz
  obtain ⟨tk, rfl⟩ := e1
  obtain ⟨its, rv, pl, _⟩ := I.list hs
  obtain ⟨as, hr⟩ := Dp.readsAll I (ns.map PyData.int) _ _ (dpInts ns) rv
  refine min_list_default (I.ok.hd hc) pl.isList hr (alikeInts ns) (by have := depthInts ns; omega) (fun h0 h' t' k => ?_) fun y ys i v h' t' bs e hv rd k => ?_
  · have : ns = [] := by simpa using h0
    subst this
    exact ⟨.int d, H, I.kept k, ⟨tk, rfl⟩, q⟩
  · obtain ⟨n, ms, rfl⟩ : ∃ n ms, ns = n :: ms := by
      cases ns with
      | nil => cases e
      | cons n ms => exact ⟨n, ms, rfl⟩
    cases e
    rw [minD_ints] at rd
    obtain ⟨t, rfl⟩ := reads_int rd
    exact ⟨.int (ms.foldl min n), H, I.kept k, ⟨t, rfl⟩, q⟩
end
end Bf

set_option Elab.async false
set_option linter.all false
set_option maxRecDepth 100000
set_option maxHeartbeats 4000000
namespace Bf
open PySem PySem.Spec PyProof.Rows L2
/-! ### list(d.values()) -/
def rListVals : V → Hp → VK → Prop := fun x H Q => ∃ (d : Addr) (kvs : List (Key × V)), x = .ref d ∧ H d = some (.dK kvs) ∧ ∀ p, H p = none → Q (.ref p) (upd H p (.lst (kvs.map Prod.snd)))
def tListVals (te : TE) : TE := fun σ H Q => te σ H fun x H1 => rListVals x H1 Q
theorem kv_vals {kvs : List (Key × V)} {vs : List (Key × Value)} (h : KV kvs vs) : ∀ (j : Nat) (x : V) (k : Key) (u : Value), (kvs.map Prod.snd)[j]? = some x → vs[j]? = some (k, u) → RelV x u := by
  induction h with
  | nil => intro j x k u h1 h2; simp at h1
  | cons r t ih =>
    intro j x k u h1 h2
    cases j with
    | zero =>
      simp at h1 h2
      rw [← h1]
      have := r.2
      rw [h2] at this
      exact this
    | succ j => exact ih j x k u (by simpa using h1) (by simpa using h2)
section
variable {X : Cx} {e : Expr} {te : TE} {p apos cpos pos : Pos}
theorem pe_listVals (hc : X.calm = true) (he : PE X e te) (hg : Gl X "list") (hm : X.mg "list" = none) (hv : bootBuiltins "list" = some (.type "list")) (hbase : attributeBase e "values" X.env (eval e X.env) = eval e X.env := by rfl) (hline : (apos.endLine == cpos.line) = true := by rfl)
    (hs : starEach [.Call (.Attribute e "values" apos) [] [] cpos] X.env = (false, eval (.Call (.Attribute e "values" apos) [] [] cpos) X.env) :: starEach [] X.env := by rfl) :
    PE X (.Call (.Name "list" p) [.Call (.Attribute e "values" apos) [] [] cpos] [] pos) (tListVals te) := by
  refine ⟨fun pins s σ H Q I hq => ?_⟩
  refine wpAny_Call_Name_kw (ld_blt I hg hm hv ?_)
  refine PyProof.Rows.callWith_type1 ?_ hs rfl
  rw [hs]
  show wpAny _ _ (spliced ((false, eval (.Call (.Attribute e "values" apos) [] [] cpos) X.env) :: backTo pos (starEach [] X.env))) _ _ s
  refine Calls.spliced_cons ?_
  refine wpAny_Call_method (T := "dict") (id := "dict.values") hbase rfl hline F.plainAttrs_dict F.slot_dict_values F.type_dict_values (thn (he.run pins s σ H _ I hq) fun u s1 ⟨x, H1, I1, rx, d, kvs, ex, hd, q⟩ => ?_)
  subst ex
  obtain rfl : u = Value.ref d := rx
  obtain ⟨hz, hs0, vs, kv, hdo⟩ := I1.hok d _ hd
  obtain ⟨ep, hat⟩ := hdo.dictAt
  have lk : kvs.length = vs.length := Paired.length kv
  have I2 : Inv X pins σ H1 { s1 with heap := s1.heap.push { cls := .type "dict_values", data := .fields #[.ref d] } } := I1.kept (t' := s1.toks) fun b ob q => Heap.get?_push_of_some _ q
  refine ⟨hdo.typeIs, hdo.mapOf.noDict, ?_⟩
  show wpAny _ _ (callWith cpos (.builtin "dict.values") [.ref d] [] []) _ X.xe s1
  refine method_meetsIn F.slot_dict_values F.entry_dict_values rfl (PySem.evalArgs_none ⟨rfl, hdo.typeIs, F.args_dict_values_1 _, _, meets_dict_values (mixKind X.prog X.w) d hs0, ⟨vs, hdo⟩, ?_⟩)
  refine Calls.spliced_nil ?_
  refine PySem.W.kdl_call (PySem.W.kdl_values (knd := mixKind X.prog X.w) (r := s1.heap.objs.size) (d := d) (kvs := vs) (ep := ep)) (I1.ok.hd hc) ⟨⟨_, Heap.get?_push_size _ rfl, rfl, rfl⟩, hat.push _⟩ (by rw [← lk]; exact hz) fun h' tk acc c hk hS hacc => ?_
  refine ⟨.ref _, upd H1 _ (.lst (kvs.map Prod.snd)), I2.laid hk (Nat.le_refl _) (show ObjOk X.prog X.w _ _ _ (.lst (kvs.map Prod.snd)) from ⟨?_, acc.toList, c, ?_, ?_⟩), rfl, q _ (I2.hok.fresh (Nat.le_refl _))⟩
  · rw [List.length_map]; exact hz
  · have el : acc.toList.length = acc.size := by simp
    refine vals_of_at (by rw [List.length_map, el, hacc.1, lk]) fun j x w h1 h2 => ?_
    obtain ⟨k, hky⟩ := hacc.2 j w (by rw [← Array.getElem?_toList]; exact h2)
    exact kv_vals kv j x k w h1 hky
  · rw [Array.toArray_toList]; exact hS
end
end Bf

set_option Elab.async false
set_option linter.all false
set_option maxRecDepth 100000
set_option maxHeartbeats 4000000
namespace Bf
open PySem PySem.Spec PyProof.Rows L2
/-! ### ints in sequences; slices of tuples -/
theorem eqV_int (a b : Nat) : eqV (vI a) (vI b) = decide (a = b) := by
  show (((a : Int)) == (b : Int)) = _
  by_cases h : a = b
  · subst h; simp
  · rw [decide_eq_false h]
    simp
    omega
theorem inV_int (x : Nat) (xs : List Nat) : inV (vI x) (xs.map vI) = decide (x ∈ xs) := by
  induction xs with
  | nil => rfl
  | cons a r ih =>
    show (eqV (vI a) (vI x) || inV (vI x) (r.map vI)) = decide (x ∈ a :: r)
    rw [ih, eqV_int]
    by_cases h : a = x
    · subst h; simp
    · by_cases h2 : x ∈ r
      · simp [h2]
      · have : x ≠ a := fun e => h e.symm
        simp [h, h2, this]
theorem flat_ints : ∀ xs : List Nat, (xs.map vI).all flatV = true
  | [] => rfl
  | a :: r => by
    rw [List.map_cons, List.all_cons, flat_ints r]
    rfl
theorem rdIndex {xs : List Nat} {f j : Nat} (hj : xs[j]? = some f) (hn : ∀ m, m < j → xs[m]? ≠ some f) :
    ∃ z : V, (xs.map vI)[j]? = some z ∧ eqV z (vI f) = true ∧ ∀ (m : Nat) (z' : V), m < j → (xs.map vI)[m]? = some z' → eqV z' (vI f) = false := by
  refine ⟨vI f, by rw [List.getElem?_map, hj]; rfl, by rw [eqV_int]; simp, fun m z' hm hz => ?_⟩
  obtain ⟨k, hk, rfl⟩ := natAt hz
  rw [eqV_int]
  exact decide_eq_false fun e => hn m hm (by rw [hk, e])
theorem cut_map {xs : List Nat} {lo hi : Option Int} {i j : Nat} (h1 : HT.sIx xs.length 0 lo = i) (h2 : HT.sIx xs.length xs.length hi = j) : cutV (xs.map vI) lo hi = ((xs.drop i).take (j - i)).map vI := by
  unfold cutV
  rw [List.length_map, h1, h2, ← List.map_drop, ← List.map_take]
theorem rdCut {K : PySem.W.Frag} {H : Hp} {b : Addr} {xs : List Nat} {lo hi : Option Int} {i j : Nat} {Q : VK} (hb : SqT K H b (xs.map vI)) (h1 : HT.sIx xs.length 0 lo = i) (h2 : HT.sIx xs.length xs.length hi = j)
    (k : ∀ (t : Addr) (H' : Hp), Same H H' → SqT K H' t (((xs.drop i).take (j - i)).map vI) → Q (.ref t) H') : rSlA K (.ref b) lo hi H Q := by
  refine ⟨b, xs.map vI, rfl, hb, fun hw => ?_, fun hw p hp => ?_⟩
  · rw [List.length_map, h1, h2] at hw
    obtain ⟨w1, w2⟩ := hw
    subst w1 w2
    refine k b H (Same.refl _) ?_
    rw [List.drop_zero, Nat.sub_zero, List.take_length]
    exact hb
  · refine k p _ (fun b u q => by rw [upd_ne (ne_of_none q hp)]; exact q) ?_
    rw [← cut_map h1 h2]
    exact SqT.of upd_same
theorem sIx_neg {n d k : Nat} (h : 1 ≤ k) : HT.sIx n d (some (-(k : Int))) = n - k := by
  show (if (-(k : Int)) < 0 then ((-(k : Int)) + (n : Int)).toNat else min (-(k : Int)).toNat n) = n - k
  rw [if_pos (by omega)]
  omega
theorem qI {Q : VK} {H : Hp} {i : Int} {n : Nat} (h : i = (n : Int)) (q : Q (vI n) H) : Q (V.int i) H := by
  rw [h]
  exact q
end Bf

set_option Elab.async false
set_option linter.all false
set_option maxRecDepth 100000
set_option maxHeartbeats 4000000
namespace Bf
open PySem PySem.Spec PyProof.Rows L2
/-! ### d.get(k, x), d a dict of the module with text keys -/
def tKGet2 (K : PySem.W.Frag) (d : Addr) (td ty tx : TE) : TE := fun σ H Q => td σ H fun x H1 => x = .ref d ∧ ty σ H1 fun y H2 => tx σ H2 fun z H3 => ∃ (k : Str) (r : Option Value) (v : V), y = .str k ∧ PySem.W.nsIn K d k = some r ∧ (∀ u, r = some u → RelV v u) ∧ (r = none → v = z) ∧ Q v H3
theorem pe_kget2 {X : Cx} {d : Addr} {es : Array DictEntry} {n : Nat} {o e f : Expr} {apos cpos : Pos} {td ty tx : TE} (D : KDict X.K X.w d es n) (ho : PE X o td) (he : PE X e ty) (hf : PE X f tx) (m : M2 X o "get" apos e f cpos) :
    PE X (.Call (.Attribute o "get" apos) [e, f] [] cpos) (tKGet2 X.K d td ty tx) := by
  refine ⟨fun pins s σ H Q I h => ?_⟩
  refine wpAny_Call_method m.base m.few m.line PySem.F.plainAttrs_dict PySem.F.slot_dict_get PySem.F.type_dict_get (thn (ho.run pins s σ H _ I h) fun u s1 ⟨x, H1, I1, rx, ex, q1⟩ => ?_)
  subst ex
  obtain rfl : u = Value.ref d := rx
  have hm := PySem.W.mapOf_K (prog := X.prog) (w := X.w) I1.kIn D.at_ D.lit
  refine ⟨hm.typeIs, hm.noDict, ?_⟩
  rw [m.trees]
  refine Calls.callWith_builtin rfl (Calls.evalArgs_plain (Calls.spliced_cons (thn (he.run pins s1 σ H1 _ I1 q1) fun iv s2 ⟨y, H2, I2, ry, q2⟩ =>
    Calls.spliced_cons (thn (hf.run pins s2 σ H2 _ I2 q2) fun fv s3 ⟨z, H3, I3, rz, k, r, v, ey, ek, e1, e2, q3⟩ => Calls.spliced_nil ?_))))
  subst ey
  obtain ⟨t, rfl⟩ := ry
  have hm3 := PySem.W.mapOf_K (prog := X.prog) (w := X.w) I3.kIn D.at_ D.lit
  refine call_meetsIn PySem.F.slot_dict_get hm3.typeIs PySem.F.entry_dict_get (PySem.F.args_dict_get_3 _ _ _) (meets_dict_get_default (strKind X.prog X.w) d (PySem.strKind_is X.prog X.w k t) D.low fv) ⟨_, hm3, ?_⟩
  rw [PySem.W.find_K D.at_ ek]
  refine ⟨v, H3, I3.tok _, ?_, q3⟩
  cases r with
  | none =>
    rw [e2 rfl]
    exact rz
  | some u => exact e1 u rfl
/-! ### a < b < c < d as a test -/
def tChain3 (r r' r'' : R2) (ta tb tc td : TE) : TT := fun σ H Q => ta σ H fun x H1 => tb σ H1 fun y H2 => r x y H2 fun z H3 => ∃ k, z = .bl k ∧
  if k = true then (tc σ H3 fun w H4 => r' y w H4 fun z' H5 => ∃ k', z' = .bl k' ∧ if k' = true then (td σ H5 fun u H6 => r'' w u H6 fun z'' H7 => ∃ k'', z'' = .bl k'' ∧ Q k'' H7) else Q false H5) else Q false H3
theorem pt_chain3 {X : Cx} {op op' op'' : CmpOp} {r r' r'' : R2} {a b c d : Expr} {pos : Pos} {ta tb tc td : TE} (ho : OpR X (compareOp op) r) (ho' : OpR X (compareOp op') r') (ho'' : OpR X (compareOp op'') r'') (ha : PE X a ta) (hb : PE X b tb) (hc : PE X c tc) (hd : PE X d td)
    (hm : lastMarks [op, op', op''] [b, c, d] = false := by with_unfolding_all rfl) : PT X (.Compare a [op, op', op''] [b, c, d] pos) (tChain3 r r' r'' ta tb tc td) := by
  refine ⟨fun pins s σ H Q I h => ?_⟩
  refine isTrue_chain (thn (ha.run pins s σ H _ I h) fun v s1 ⟨x, H1, I1, r1, q1⟩ => test_link (thn (hb.run pins s1 σ H1 _ I1 q1) fun u s2 ⟨y, H2, I2, r2, q2⟩ =>
    thn (ho pins s2 σ H2 x y v u _ I2 r1 r2 q2) fun d s3 ⟨z, H3, I3, r3, k, e, q3⟩ => ?_)) hm
  subst e
  cases r3
  refine wpAny_truthy_bool ?_
  cases k with
  | false => exact ite_ff ⟨H3, I3, q3⟩
  | true =>
    refine ite_tt (test_link (thn (hc.run pins s3 σ H3 _ I3 q3) fun w s4 ⟨z', H4, I4, r4, q4⟩ => thn (ho' pins s4 σ H4 y z' u w _ I4 r2 r4 q4) fun d' s5 ⟨z2, H5, I5, r5, k', e', q5⟩ => ?_))
    subst e'
    cases r5
    refine wpAny_truthy_bool ?_
    cases k' with
    | false => exact ite_ff ⟨H5, I5, q5⟩
    | true =>
      refine ite_tt (test_last (thn (hd.run pins s5 σ H5 _ I5 q5) fun w2 s6 ⟨z3, H6, I6, r6, q6⟩ => thn (ho'' pins s6 σ H6 z' z3 w w2 _ I6 r4 r6 q6) fun d2 s7 ⟨z4, H7, I7, r7, k2, e2, q7⟩ => ?_))
      subst e2
      cases r7
      exact wpAny_truthy_bool ⟨H7, I7, q7⟩
end Bf

set_option Elab.async false
set_option linter.all false
set_option maxRecDepth 100000
set_option maxHeartbeats 4000000
namespace Bf
open PySem
/-! ### nets of bits -/
structure Net where
  ins : List Str
  regs : List (Str × Nat × Nat)
  ands : List (Nat × Nat)
  outs : List (Str × Nat)
  cls : List (Str × Nat)
def Net.many (N : Net) : Nat := N.ins.length + N.regs.length
def Net.first (N : Net) : Nat := 1 + N.ins.length + N.regs.length
def Net.size (N : Net) : Nat := N.first + N.ands.length
theorem Net.first_eq (N : Net) : N.first = 1 + N.many := by
  unfold Net.first Net.many
  omega
structure Net.Right (N : Net) : Prop where
  regs : ∀ r ∈ N.regs, r.2.1 < 2 ∧ r.2.2 < 2 * N.size
  ands : ∀ (i : Nat) (p : Nat × Nat), N.ands[i]? = some p → p.1 < 2 * (N.first + i) ∧ p.2 < 2 * (N.first + i)
  outs : ∀ o ∈ N.outs, o.2 < 2 * N.size
  cls : ∀ o ∈ N.cls, o.2 < 2 * N.size
/-! ### masks: all bits of a node at once -/
def whole (m : Nat) : Nat := 2 ^ (2 ^ m) - 1
def maskN (ms : List Nat) (w l : Nat) : Nat := if l % 2 = 1 then ms.getD (l / 2) 0 ^^^ w else ms.getD (l / 2) 0
def patN (m j : Nat) : Nat := whole m / (2 ^ (2 * 2 ^ j) - 1) * ((2 ^ (2 ^ j) - 1) * 2 ^ (2 ^ j))
def patsN (m k : Nat) : List Nat := (List.range k).map (patN m)
def mstep (w : Nat) (ms : List Nat) (p : Nat × Nat) : List Nat := ms ++ [maskN ms w p.1 &&& maskN ms w p.2]
def Net.base (N : Net) : List Nat := 0 :: patsN N.many N.many
def Net.masksTo (N : Net) (i : Nat) : List Nat := (N.ands.take i).foldl (mstep (whole N.many)) N.base
def Net.masks (N : Net) : List Nat := N.masksTo N.ands.length
/-! ### the clauses -/
def andC (n : Nat) (p : Nat × Nat) : List (List Nat) := [[2 * n + 1, p.1], [2 * n + 1, p.2], [2 * n, p.1 ^^^ 1, p.2 ^^^ 1]]
def Net.clausesTo (N : Net) (i : Nat) : List (List Nat) := [1] :: ((List.range i).map fun k => andC (N.first + k) (N.ands.getD k (0, 0))).flatten
def Net.clauses (N : Net) : List (List Nat) := N.clausesTo N.ands.length
def orN (ms : List Nat) (w : Nat) (c : List Nat) : Nat := c.foldl (fun a l => a ||| maskN ms w l) 0
def allN (ms : List Nat) (w : Nat) (cs : List (List Nat)) : Nat := cs.foldl (fun a c => a &&& orN ms w c) w
theorem clausesTo_succ (N : Net) (i : Nat) : N.clausesTo (i + 1) = N.clausesTo i ++ andC (N.first + i) (N.ands.getD i (0, 0)) := by
  unfold Net.clausesTo
  rw [List.range_succ, List.map_append, List.flatten_append]
  simp
theorem masksTo_succ (N : Net) {i : Nat} {p : Nat × Nat} (h : N.ands[i]? = some p) : N.masksTo (i + 1) = N.masksTo i ++ [maskN (N.masksTo i) (whole N.many) p.1 &&& maskN (N.masksTo i) (whole N.many) p.2] := by
  unfold Net.masksTo
  rw [List.take_add_one, h, List.foldl_append]
  rfl
theorem patsN_succ (m k : Nat) : patsN m (k + 1) = patsN m k ++ [patN m k] := by
  unfold patsN
  rw [List.range_succ, List.map_append]
  rfl
theorem patsN_len (m k : Nat) : (patsN m k).length = k := by simp [patsN]
theorem base_len (N : Net) : N.base.length = N.first := by
  unfold Net.base
  rw [List.length_cons, patsN_len, Net.first_eq]
  omega
theorem masksTo_len (N : Net) : ∀ i : Nat, i ≤ N.ands.length → (N.masksTo i).length = N.first + i
  | 0, _ => by
    unfold Net.masksTo
    rw [List.take_zero, List.foldl_nil, base_len]
    rfl
  | i + 1, h => by
    have hi : i < N.ands.length := h
    rw [masksTo_succ N (List.getElem?_eq_getElem hi), List.length_append, masksTo_len N i (by omega)]
    rfl
theorem masksTo_get (N : Net) {n : Nat} : ∀ (i j : Nat), i ≤ j → j ≤ N.ands.length → n < N.first + i → (N.masksTo j)[n]? = (N.masksTo i)[n]? := by
  intro i j hij
  induction hij with
  | refl => intro _ _; rfl
  | @step j h ih =>
    intro hj hn
    have hj' : j < N.ands.length := hj
    have h2 : i ≤ j := h
    rw [masksTo_succ N (List.getElem?_eq_getElem hj'), List.getElem?_append_left (by rw [masksTo_len N j (by omega)]; omega)]
    exact ih (by omega) hn
/-! ### bit by bit -/
theorem whole_bit (m b : Nat) : (whole m).testBit b = decide (b < 2 ^ m) := by
  unfold whole
  exact Nat.testBit_two_pow_sub_one _ _
theorem pat_le (m j : Nat) : patN m j ≤ whole m := by
  unfold patN
  have h1 : (2 ^ (2 ^ j) - 1) * 2 ^ (2 ^ j) ≤ 2 ^ (2 * 2 ^ j) - 1 := by
    rw [Nat.sub_mul, Nat.one_mul, ← Nat.pow_add, show 2 ^ j + 2 ^ j = 2 * 2 ^ j by omega]
    have : 1 ≤ 2 ^ (2 ^ j) := Nat.pow_pos (by decide)
    omega
  exact Nat.le_trans (Nat.mul_le_mul_left _ h1) (Nat.div_mul_le_self _ _)
theorem whole_lt (m : Nat) : whole m < 2 ^ (2 ^ m) := Nat.sub_lt (Nat.pow_pos (by decide)) (by decide)
theorem lt_bit {x W b : Nat} (h : x < 2 ^ W) (hb : ¬ b < W) : x.testBit b = false := Nat.testBit_lt_two_pow (Nat.lt_of_lt_of_le h (Nat.pow_le_pow_right (by decide) (by omega)))
theorem getD_eq {l : List Nat} {n x : Nat} (h : l[n]? = some x) : l.getD n 0 = x := by rw [List.getD_eq_getElem?_getD, h]; rfl
/-- the bit b of a literal -/
def litB (ms : List Nat) (b l : Nat) : Bool := ((ms.getD (l / 2) 0).testBit b) ^^ decide (l % 2 = 1)
def Low (m : Nat) (ms : List Nat) : Prop := ∀ x ∈ ms, x < 2 ^ (2 ^ m)
theorem Low.getD {m : Nat} {ms : List Nat} (h : Low m ms) (n : Nat) : ms.getD n 0 < 2 ^ (2 ^ m) := by
  rw [List.getD_eq_getElem?_getD]
  cases e : ms[n]? with
  | none => exact Nat.pow_pos (by decide)
  | some x => exact h x (List.mem_of_getElem? e)
theorem mask_bit {m : Nat} {ms : List Nat} (b l : Nat) (hb : b < 2 ^ m) : (maskN ms (whole m) l).testBit b = litB ms b l := by
  unfold maskN litB
  by_cases h : l % 2 = 1
  · rw [if_pos h, Nat.testBit_xor, whole_bit, decide_eq_true hb, decide_eq_true h]
  · rw [if_neg h, decide_eq_false h, Bool.xor_false]
theorem mask_lt {m : Nat} {ms : List Nat} (h : Low m ms) (l : Nat) : maskN ms (whole m) l < 2 ^ (2 ^ m) := by
  unfold maskN
  by_cases e : l % 2 = 1
  · rw [if_pos e]
    exact Nat.xor_lt_two_pow (h.getD _) (whole_lt m)
  · rw [if_neg e]
    exact h.getD _
theorem or_bit {m : Nat} {ms : List Nat} (b : Nat) (hb : b < 2 ^ m) : ∀ (c : List Nat) (a : Nat), (c.foldl (fun a l => a ||| maskN ms (whole m) l) a).testBit b = (a.testBit b || c.any (litB ms b))
  | [], a => by simp
  | l :: c, a => by
    rw [List.foldl_cons, or_bit b hb c, Nat.testBit_or, mask_bit b l hb, List.any_cons, Bool.or_assoc]
theorem all_bit {m : Nat} {ms : List Nat} (b : Nat) (hb : b < 2 ^ m) : ∀ (cs : List (List Nat)) (a : Nat), (cs.foldl (fun a c => a &&& orN ms (whole m) c) a).testBit b = (a.testBit b && cs.all fun c => c.any (litB ms b))
  | [], a => by simp
  | c :: cs, a => by
    rw [List.foldl_cons, all_bit b hb cs, Nat.testBit_and, List.all_cons, Bool.and_assoc]
    congr 2
    unfold orN
    rw [or_bit b hb c 0, Nat.zero_testBit, Bool.false_or]
theorem all_le {m : Nat} {ms : List Nat} : ∀ (cs : List (List Nat)) (a : Nat), a < 2 ^ (2 ^ m) → cs.foldl (fun a c => a &&& orN ms (whole m) c) a < 2 ^ (2 ^ m)
  | [], a, h => h
  | c :: cs, a, h => by
    rw [List.foldl_cons]
    exact all_le cs _ (Nat.lt_of_le_of_lt Nat.and_le_left h)
theorem allN_bit {m : Nat} {ms : List Nat} (cs : List (List Nat)) (b : Nat) : (allN ms (whole m) cs).testBit b = (decide (b < 2 ^ m) && cs.all fun c => c.any (litB ms b)) := by
  by_cases hb : b < 2 ^ m
  · unfold allN
    rw [all_bit b hb, whole_bit]
  · rw [decide_eq_false hb, Bool.false_and]
    exact lt_bit (all_le cs _ (whole_lt m)) hb
theorem allN_whole {m : Nat} {ms : List Nat} {cs : List (List Nat)} (h : ∀ b, b < 2 ^ m → ∀ c ∈ cs, c.any (litB ms b) = true) : allN ms (whole m) cs = whole m := by
  apply Nat.eq_of_testBit_eq
  intro b
  rw [allN_bit, whole_bit]
  by_cases hb : b < 2 ^ m
  · rw [decide_eq_true hb, Bool.true_and]
    exact List.all_eq_true.mpr (h b hb)
  · rw [decide_eq_false hb, Bool.false_and]
theorem allN_zero {m : Nat} {ms : List Nat} {cs : List (List Nat)} (h : ∀ b, b < 2 ^ m → ∃ c ∈ cs, c.any (litB ms b) = false) : allN ms (whole m) cs = 0 := by
  apply Nat.eq_of_testBit_eq
  intro b
  rw [allN_bit, Nat.zero_testBit]
  by_cases hb : b < 2 ^ m
  · obtain ⟨c, hc, e⟩ := h b hb
    rw [decide_eq_true hb, Bool.true_and]
    exact List.all_eq_false.mpr ⟨c, hc, by rw [e]; decide⟩
  · rw [decide_eq_false hb, Bool.false_and]
theorem masksTo_low (N : Net) : ∀ i : Nat, i ≤ N.ands.length → Low N.many (N.masksTo i)
  | 0, _ => by
    intro x hx
    have hx : x ∈ N.base := hx
    rcases List.mem_cons.mp hx with e | e
    · rw [e]; exact Nat.pow_pos (by decide)
    · obtain ⟨j, _, rfl⟩ := List.mem_map.mp e
      exact Nat.lt_of_le_of_lt (pat_le _ _) (whole_lt _)
  | i + 1, h => by
    have hi : i < N.ands.length := h
    have ih := masksTo_low N i (by omega)
    rw [masksTo_succ N (List.getElem?_eq_getElem hi)]
    intro x hx
    rcases List.mem_append.mp hx with e | e
    · exact ih x e
    · rw [List.mem_singleton.mp e]
      exact Nat.lt_of_le_of_lt Nat.and_le_left (mask_lt ih _)
/-- a literal of a node ahead has the same bit further on -/
theorem lit_to (N : Net) {i b l : Nat} (hi : i ≤ N.ands.length) (hl : l < 2 * (N.first + i)) : litB (N.masksTo i) b l = litB N.masks b l := by
  unfold litB
  rw [List.getD_eq_getElem?_getD, List.getD_eq_getElem?_getD]
  unfold Net.masks
  rw [masksTo_get N i N.ands.length hi (Nat.le_refl _) (show l / 2 < N.first + i by omega)]
theorem bit_and (N : Net) (R : N.Right) {i b : Nat} {p : Nat × Nat} (h : N.ands[i]? = some p) (hb : b < 2 ^ N.many) : (N.masks.getD (N.first + i) 0).testBit b = (litB N.masks b p.1 && litB N.masks b p.2) := by
  have hi : i < N.ands.length := (List.getElem?_eq_some_iff.mp h).1
  obtain ⟨r1, r2⟩ := R.ands i p h
  have e : N.masks[N.first + i]? = some (maskN (N.masksTo i) (whole N.many) p.1 &&& maskN (N.masksTo i) (whole N.many) p.2) := by
    unfold Net.masks
    rw [masksTo_get N (i + 1) N.ands.length hi (Nat.le_refl _) (by omega), masksTo_succ N h, List.getElem?_append_right (by rw [masksTo_len N i (by omega)]; omega), masksTo_len N i (by omega), Nat.sub_self]
    rfl
  rw [getD_eq e, Nat.testBit_and, mask_bit b _ hb, mask_bit b _ hb, lit_to N (by omega) r1, lit_to N (by omega) r2]
theorem lit_inv (ms : List Nat) (b l : Nat) : litB ms b (l ^^^ 1) = !litB ms b l := by
  unfold litB
  have h1 : (l ^^^ 1) / 2 = l / 2 := by
    have := Nat.xor_div_two (a := l) (b := 1)
    simpa using this
  have h2 : (l ^^^ 1) % 2 = 1 - l % 2 := by
    have q := Nat.testBit_xor l 1 0
    rw [Nat.testBit_zero, Nat.testBit_zero, Nat.testBit_zero] at q
    rcases Nat.mod_two_eq_zero_or_one l with h | h <;> rcases Nat.mod_two_eq_zero_or_one (l ^^^ 1) with g | g <;> rw [h, g] at q <;> simp at q <;> omega
  rw [h1, h2]
  rcases Nat.mod_two_eq_zero_or_one l with h | h <;> rw [h] <;> cases (ms.getD (l / 2) 0).testBit b <;> rfl
theorem lit_even (ms : List Nat) (b n : Nat) : litB ms b (2 * n) = (ms.getD n 0).testBit b := by
  unfold litB
  rw [show 2 * n / 2 = n by omega, show 2 * n % 2 = 0 by omega]
  simp
theorem lit_odd (ms : List Nat) (b n : Nat) : litB ms b (2 * n + 1) = !(ms.getD n 0).testBit b := by
  unfold litB
  rw [show (2 * n + 1) / 2 = n by omega, show (2 * n + 1) % 2 = 1 by omega]
  simp
theorem mem_clauses {N : Net} {c : List Nat} (h : c ∈ N.clauses) : c = [1] ∨ ∃ i p, N.ands[i]? = some p ∧ c ∈ andC (N.first + i) p := by
  rcases List.mem_cons.mp h with h | h
  · exact .inl h
  · obtain ⟨x, hx, hc⟩ := List.mem_flatten.mp h
    obtain ⟨k, hk, rfl⟩ := List.mem_map.mp hx
    have hk' := List.mem_range.mp hk
    have e : N.ands[k]? = some (N.ands.getD k (0, 0)) := by rw [List.getD_eq_getElem?_getD, List.getElem?_eq_getElem hk']; rfl
    exact .inr ⟨k, _, e, hc⟩
theorem clauses_mem {N : Net} {c : List Nat} {i : Nat} {p : Nat × Nat} (h : N.ands[i]? = some p) (hc : c ∈ andC (N.first + i) p) : c ∈ N.clauses := by
  refine List.mem_cons.mpr (.inr (List.mem_flatten.mpr ⟨_, List.mem_map.mpr ⟨i, List.mem_range.mpr (List.getElem?_eq_some_iff.mp h).1, rfl⟩, ?_⟩))
  rw [List.getD_eq_getElem?_getD, h]
  exact hc
theorem and_clauses_bits {ms : List Nat} {b n : Nat} {p : Nat × Nat} : ((andC n p).all fun c => c.any (litB ms b)) = ((ms.getD n 0).testBit b == (litB ms b p.1 && litB ms b p.2)) := by
  show (([2 * n + 1, p.1].any (litB ms b)) && (([2 * n + 1, p.2].any (litB ms b)) && (([2 * n, p.1 ^^^ 1, p.2 ^^^ 1].any (litB ms b)) && true))) = _
  simp only [List.any_cons, List.any_nil, lit_even, lit_odd, lit_inv, Bool.or_false, Bool.and_true]
  cases (ms.getD n 0).testBit b <;> cases litB ms b p.1 <;> cases litB ms b p.2 <;> rfl
theorem clauses_hold (N : Net) (R : N.Right) : allN N.masks (whole N.many) N.clauses = whole N.many := by
  refine allN_whole fun b hb c hc => ?_
  rcases mem_clauses hc with rfl | ⟨i, p, h, hc⟩
  · have e : N.masks[0]? = some 0 := by
      unfold Net.masks
      rw [masksTo_get N 0 N.ands.length (Nat.zero_le _) (Nat.le_refl _) (by rw [Net.first_eq]; omega)]
      rfl
    rw [List.any_cons, List.any_nil, Bool.or_false, show (1 : Nat) = 2 * 0 + 1 from rfl, lit_odd, getD_eq e]
    simp
  · have q : ((andC (N.first + i) p).all fun c => c.any (litB N.masks b)) = true := by
      rw [and_clauses_bits, bit_and N R h hb]
      exact beq_self_eq_true _
    exact List.all_eq_true.mp q c hc
def spoil (ms : List Nat) (n w : Nat) : List Nat := ms.take n ++ [ms.getD n 0 ^^^ w] ++ ms.drop (n + 1)
theorem spoil_get {ms : List Nat} {n w k : Nat} (hn : n < ms.length) : (spoil ms n w).getD k 0 = if k = n then ms.getD n 0 ^^^ w else ms.getD k 0 := by
  unfold spoil
  have lt : (ms.take n).length = n := by rw [List.length_take]; omega
  rw [List.getD_eq_getElem?_getD, List.getD_eq_getElem?_getD]
  by_cases h : k = n
  · rw [if_pos h, List.append_assoc, List.getElem?_append_right (by omega), lt, h, Nat.sub_self, List.singleton_append, List.getElem?_cons_zero]
    rfl
  · rw [if_neg h, List.getD_eq_getElem?_getD]
    congr 1
    by_cases h2 : k < n
    · rw [List.append_assoc, List.getElem?_append_left (by omega), List.getElem?_take_of_lt h2]
    · rw [List.getElem?_append_right (by rw [List.length_append, lt]; simp; omega), List.length_append, lt, List.getElem?_drop]
      congr 1
      simp
      omega
theorem spoil_bit {ms : List Nat} {n m b l : Nat} (hn : n < ms.length) (hb : b < 2 ^ m) : litB (spoil ms n (whole m)) b l = (litB ms b l ^^ decide (l / 2 = n)) := by
  unfold litB
  rw [spoil_get hn]
  by_cases h : l / 2 = n
  · rw [if_pos h, Nat.testBit_xor, whole_bit, decide_eq_true hb, decide_eq_true h, h]
    cases (ms.getD n 0).testBit b <;> cases decide (l % 2 = 1) <;> rfl
  · rw [if_neg h, decide_eq_false h, Bool.xor_false]
theorem spoilt_zero (N : Net) : allN (spoil N.masks 0 (whole N.many)) (whole N.many) N.clauses = 0 := by
  have hl : 0 < N.masks.length := by
    unfold Net.masks
    rw [masksTo_len N _ (Nat.le_refl _), Net.first_eq]
    omega
  refine allN_zero fun b hb => ⟨[1], List.mem_cons_self, ?_⟩
  have e : N.masks[0]? = some 0 := by
    unfold Net.masks
    rw [masksTo_get N 0 N.ands.length (Nat.zero_le _) (Nat.le_refl _) (by rw [Net.first_eq]; omega)]
    rfl
  rw [List.any_cons, List.any_nil, Bool.or_false, spoil_bit hl hb, show (1 : Nat) = 2 * 0 + 1 from rfl, lit_odd, getD_eq e]
  simp
theorem spoilt_and (N : Net) (R : N.Right) {i : Nat} (hi : i < N.ands.length) : allN (spoil N.masks (N.first + i) (whole N.many)) (whole N.many) N.clauses = 0 := by
  have hl : N.first + i < N.masks.length := by
    unfold Net.masks
    rw [masksTo_len N _ (Nat.le_refl _)]
    omega
  have h : N.ands[i]? = some N.ands[i] := List.getElem?_eq_getElem hi
  obtain ⟨r1, r2⟩ := R.ands i _ h
  refine allN_zero fun b hb => ?_
  have q : ((andC (N.first + i) N.ands[i]).all fun c => c.any (litB (spoil N.masks (N.first + i) (whole N.many)) b)) = false := by
    rw [and_clauses_bits, spoil_bit hl hb, spoil_bit hl hb, decide_eq_false (show ¬ (N.ands[i]).1 / 2 = N.first + i by omega), decide_eq_false (show ¬ (N.ands[i]).2 / 2 = N.first + i by omega), Bool.xor_false, Bool.xor_false, ← lit_even, spoil_bit hl hb, lit_even, decide_eq_true (show 2 * (N.first + i) / 2 = N.first + i by omega), bit_and N R h hb]
    cases (litB N.masks b N.ands[i].1 && litB N.masks b N.ands[i].2) <;> rfl
  obtain ⟨c, hc, e⟩ := List.all_eq_false.mp q
  refine ⟨c, clauses_mem h hc, ?_⟩
  cases z : c.any (litB (spoil N.masks (N.first + i) (whole N.many)) b) with
  | false => rfl
  | true => exact absurd z e
end Bf

set_option Elab.async false
set_option linter.all false
set_option maxRecDepth 100000
set_option maxHeartbeats 4000000
namespace Bf
open PySem PySem.Spec PyProof.Rows L2
/-! ### comprehensions over rows that lie there; each row gives a datum -/
theorem lc_rows {J : It} {xs : List V} {G : Hp → Prop} (w : Walk J xs.length G (YAt xs)) {α β : Type} {rows : List α} {f : α → PyData} {g : α → β} {h : β → PyData} {tg : TG} {te : TE} {vs : List Nat} {σ : L2.St} {H1 : Hp} {D : Addr} {Qd : Hp → Prop}
    (hG : ∀ H', Same H1 H' → G H') (hD : H1 D = none) (lay : LayAll H1 xs (rows.map f)) (hl : rows.length ≤ 1000)
    (hs : ∀ (i : Nat) (x : V) (r : α) (H' : Hp) (R : V → Hp → Prop) (Z : Hp → Prop), rows[i]? = some r → Same H1 H' → Lay H' x (f r) → (∀ y H4, Same H' H4 → Lay H4 y (h (g r)) → R y H4) →
      tg x (wipe σ vs) H' fun σ2 H2 => wipe σ2 vs = wipe σ vs ∧ tYes σ2 H2 fun b H3 => if b = true then te σ2 H3 R else Z H3)
    (hd : ∀ us H', Same H1 H' → H' D = some (.lst us) → LayAll H' us ((rows.map g).map h) → Qd H') :
    ∃ W : Nat → Nat → Hp → Prop, (∃ m, W 0 m (upd H1 D (.lst []))) ∧ ∀ i m H, W i m H →
      (J.stop i H ∧ Qd H) ∨ (J.go i H ∧ ∃ Nx : Hp → Prop, (∀ H', Nx H' → ∃ m', m' < m ∧ W (i + 1) m' H') ∧ ∀ x H', J.yld i H x H' → tg x (wipe σ vs) H' fun σ2 H2 => wipe σ2 vs = wipe σ vs ∧ tYes σ2 H2 fun b H3 =>
        if b = true then te σ2 H3 fun y H4 => ∃ acc, H4 D = some (.lst acc) ∧ acc.length < sizeLine ∧ Nx (upd H4 D (.lst (acc ++ [y]))) else Nx H3) := by
  have ll := lay.len
  rw [List.length_map] at ll
  refine lc_it w (fun i H' => Same H1 H' ∧ ∃ us, H' D = some (.lst us) ∧ LayAll H' us (((rows.take i).map g).map h)) ⟨same_two (.refl _) hD, [], upd_same, .nil⟩ (fun i H' _ p => hG _ p.1) (fun i x H' H2 hi p y => ?_) (fun H' p => ?_)
  · obtain ⟨sm, us, eD, lu⟩ := p
    obtain ⟨rfl, hx⟩ := y
    obtain ⟨d, hd', ld⟩ := (lay.keep' (.same sm)).get i hx
    obtain ⟨r, hr, rfl⟩ := mapAtD hd'
    refine hs i x r H2 _ _ hr sm ld (fun y H4 s4 ly => ?_)
    have lul := lu.len
    rw [List.length_map, List.length_map, List.length_take] at lul
    refine ⟨us, s4 _ _ eD, len1000 (by omega), same_two (sm.trans s4) hD, us ++ [y], upd_same, ?_⟩
    rw [take_snoc hr, List.map_append, List.map_append]
    exact ((lu.keep' (.same s4)).snoc ly).keep' (.lst (s4 _ _ eD))
  · obtain ⟨sm, us, eD, lu⟩ := p
    rw [ll, List.take_length] at lu
    exact hd us H' sm eD lu
theorem lay_ints {H : Hp} {us : List V} {ns : List Nat} (h : LayAll H us (ns.map fun n : Nat => PyData.int (n : Int))) : us = ns.map vI := h.ints_inv
/-- range(n) gives data -/
theorem lc_rangeL {n : Nat} {β : Type} {g : Nat → β} {h : β → PyData} {tg : TG} {te : TE} {vs : List Nat} {σ : L2.St} {H1 : Hp} {D : Addr} {Qd : Hp → Prop} (hD : H1 D = none) (hl : n ≤ 1000)
    (hs : ∀ (i : Nat) (H' : Hp) (R : V → Hp → Prop) (Z : Hp → Prop), i < n → Same H1 H' → (∀ y H4, Same H' H4 → Lay H4 y (h (g i)) → R y H4) →
      tg (.int (0 + (i : Int))) (wipe σ vs) H' fun σ2 H2 => wipe σ2 vs = wipe σ vs ∧ tYes σ2 H2 fun b H3 => if b = true then te σ2 H3 R else Z H3)
    (hd : ∀ us H', Same H1 H' → H' D = some (.lst us) → LayAll H' us (((List.range n).map g).map h) → Qd H') :
    ∃ W : Nat → Nat → Hp → Prop, (∃ m, W 0 m (upd H1 D (.lst []))) ∧ ∀ i m H, W i m H →
      ((Itr 0 n).stop i H ∧ Qd H) ∨ ((Itr 0 n).go i H ∧ ∃ Nx : Hp → Prop, (∀ H', Nx H' → ∃ m', m' < m ∧ W (i + 1) m' H') ∧ ∀ x H', (Itr 0 n).yld i H x H' → tg x (wipe σ vs) H' fun σ2 H2 => wipe σ2 vs = wipe σ vs ∧ tYes σ2 H2 fun b H3 =>
        if b = true then te σ2 H3 fun y H4 => ∃ acc, H4 D = some (.lst acc) ∧ acc.length < sizeLine ∧ Nx (upd H4 D (.lst (acc ++ [y]))) else Nx H3) := by
  refine lc_it walk_range (fun i H' => Same H1 H' ∧ ∃ us, H' D = some (.lst us) ∧ LayAll H' us (((List.range i).map g).map h)) ⟨same_two (.refl _) hD, [], upd_same, .nil⟩ (fun i H' _ p => trivial) (fun i x H' H2 hi p y => ?_) (fun H' p => ?_)
  · obtain ⟨sm, us, eD, lu⟩ := p
    obtain ⟨rfl, rfl⟩ := y
    refine hs i H2 _ _ hi sm (fun y H4 s4 ly => ?_)
    have lul := lu.len
    rw [List.length_map, List.length_map, List.length_range] at lul
    refine ⟨us, s4 _ _ eD, len1000 (by omega), same_two (sm.trans s4) hD, us ++ [y], upd_same, ?_⟩
    rw [List.range_succ, List.map_append, List.map_append]
    exact ((lu.keep' (.same s4)).snoc ly).keep' (.lst (s4 _ _ eD))
  · obtain ⟨sm, us, eD, lu⟩ := p
    exact hd us H' sm eD lu
theorem flat_rep (n : Nat) : (List.replicate n [V.int 0]).flatten = (List.replicate n 0).map vI := by
  induction n with
  | zero => rfl
  | succ n ih =>
    rw [List.replicate_succ, List.flatten_cons, ih, List.replicate_succ]
    rfl
theorem set_vI (l : List Nat) (i x : Nat) : (l.map vI).set i (vI x) = (l.set i x).map vI := by rw [List.map_set]
theorem ixN_nat {n i : Nat} (h : i < n) : ixN n (i : Int) = some i := by
  have : atI (List.range n) (i : Int) = some i := atI_nat (by rw [List.getElem?_range h])
  unfold atI at this
  cases e : ixN n (i : Int) with
  | none => rw [List.length_range, e] at this; cases this
  | some j =>
    rw [List.length_range, e] at this
    have q : (List.range n)[j]? = some i := this
    have hj : j < n := by
      have := (List.getElem?_eq_some_iff.mp q).1
      simpa using this
    rw [List.getElem?_range hj] at q
    rw [Option.some.inj q]
end Bf

set_option Elab.async false
set_option linter.all false
set_option maxRecDepth 100000
set_option maxHeartbeats 4000000
namespace Bf
open PySem PySem.Spec PyProof.Rows L2
/-! ### [x for x in xs if p x]; sorted(set(xs)) -/
theorem lc_filt {J : It} {xs : List Nat} {G : Hp → Prop} (w : Walk J (xs.map vI).length G (YAt (xs.map vI))) {p : Nat → Bool} {tg : TG} {tt : TT} {te : TE} {vs : List Nat} {σ : L2.St} {H1 : Hp} {D : Addr} {Qd : Hp → Prop}
    (hG : ∀ H', Same H1 H' → G H') (hD : H1 D = none) (hl : xs.length ≤ 1000)
    (hs : ∀ (x : Nat) (H' : Hp) (R : V → Hp → Prop) (Z : Hp → Prop), x ∈ xs → Same H1 H' → (p x = true → R (vI x) H') → (p x = false → Z H') →
      tg (vI x) (wipe σ vs) H' fun σ2 H2 => wipe σ2 vs = wipe σ vs ∧ tt σ2 H2 fun b H3 => if b = true then te σ2 H3 R else Z H3)
    (hd : ∀ H', Same H1 H' → H' D = some (.lst ((xs.filter p).map vI)) → Qd H') :
    ∃ W : Nat → Nat → Hp → Prop, (∃ m, W 0 m (upd H1 D (.lst []))) ∧ ∀ i m H, W i m H →
      (J.stop i H ∧ Qd H) ∨ (J.go i H ∧ ∃ Nx : Hp → Prop, (∀ H', Nx H' → ∃ m', m' < m ∧ W (i + 1) m' H') ∧ ∀ x H', J.yld i H x H' → tg x (wipe σ vs) H' fun σ2 H2 => wipe σ2 vs = wipe σ vs ∧ tt σ2 H2 fun b H3 =>
        if b = true then te σ2 H3 fun y H4 => ∃ acc, H4 D = some (.lst acc) ∧ acc.length < sizeLine ∧ Nx (upd H4 D (.lst (acc ++ [y]))) else Nx H3) := by
  refine lc_it w (fun i H' => Same H1 H' ∧ H' D = some (.lst (((xs.take i).filter p).map vI))) ⟨same_two (.refl _) hD, by simp [upd_same]⟩ (fun i H' _ q => hG _ q.1) (fun i x H' H2 hi q y => ?_) (fun H' q => ?_)
  · obtain ⟨sm, eD⟩ := q
    obtain ⟨rfl, hx⟩ := y
    obtain ⟨k, hk, rfl⟩ := natAt hx
    have hlen : ((xs.take i).filter p).length ≤ 1000 := Nat.le_trans (List.length_filter_le _ _) (by rw [List.length_take]; omega)
    refine hs k H2 _ _ (List.mem_of_getElem? hk) sm (fun hp => ⟨_, eD, by rw [List.length_map]; exact small1000 hlen, same_two sm hD, ?_⟩) (fun hp => ⟨sm, ?_⟩)
    · rw [upd_same, take_snoc hk, List.filter_append, List.map_append]
      simp [List.filter, hp]
    · rw [take_snoc hk, List.filter_append]
      simpa [List.filter, hp] using eD
  · obtain ⟨sm, eD⟩ := q
    rw [List.length_map, List.take_length] at eD
    exact hd H' sm eD
theorem ints_nat {ns : List Int} {xs : List Nat} (h : ∀ k ∈ ns, ∃ x : Nat, k = (x : Int) ∧ x ∈ xs) : ∃ zs : List Nat, ns.map V.int = zs.map vI ∧ ns = zs.map fun n : Nat => (n : Int) := by
  induction ns with
  | nil => exact ⟨[], rfl, rfl⟩
  | cons a r ih =>
    obtain ⟨zs, e1, e2⟩ := ih fun k hk => h k (by simp [hk])
    obtain ⟨x, rfl, _⟩ := h a (by simp)
    exact ⟨x :: zs, by rw [List.map_cons, e1]; rfl, by rw [e2]; rfl⟩
def castL (xs : List Nat) : List Int := xs.map fun n : Nat => (n : Int)
theorem castL_V (xs : List Nat) : (castL xs).map V.int = xs.map vI := by
  unfold castL
  rw [List.map_map]
  rfl
theorem castL_len (xs : List Nat) : (castL xs).length = xs.length := by simp [castL]
theorem setSorted {xs : List Nat} {ns : List Int} {Sb : Int → Bool} {m : Nat} (hS : ∀ x, Sb x = true ↔ x ∈ castL xs) (pw : ns.Pairwise (· < ·)) (hk : ∀ k : Int, k ∈ ns ↔ Sb k = true) (hn : ns.length = m) (hm : m ≤ (castL xs).length) :
    ∃ zs : List Nat, ns.map V.int = zs.map vI ∧ zs.Pairwise (· < ·) ∧ (∀ x, x ∈ zs ↔ x ∈ xs) ∧ zs.length ≤ xs.length := by
  rw [castL_len] at hm
  have hx : ∀ z : Int, z ∈ ns ↔ ∃ x : Nat, z = (x : Int) ∧ x ∈ xs := fun z => by
    rw [hk z, hS z, castL, List.mem_map]
    exact ⟨fun ⟨x, a, b⟩ => ⟨x, b.symm, a⟩, fun ⟨x, a, b⟩ => ⟨x, b, a.symm⟩⟩
  obtain ⟨zs, e1, e2⟩ := ints_nat fun z hz => (hx z).mp hz
  refine ⟨zs, e1, ?_, fun x => ?_, ?_⟩
  · rw [e2] at pw
    exact (List.pairwise_map.mp pw).imp fun h => by omega
  · have := hx (x : Int)
    rw [e2] at this
    refine ⟨fun h => ?_, fun h => ?_⟩
    · obtain ⟨y, hy, hm⟩ := this.mp (List.mem_map_of_mem h)
      rwa [show x = y by omega]
    · obtain ⟨y, hy, e⟩ := List.mem_map.mp (this.mpr ⟨x, rfl, h⟩)
      have e : (y : Int) = (x : Int) := e
      rwa [show x = y by omega]
  · have : ns.length = zs.length := by rw [e2, List.length_map]
    omega
/-- [g x for x in rows if p x], rows that lie there; the test may make objects -/
theorem lc_frows {J : It} {xs : List V} {G : Hp → Prop} (w : Walk J xs.length G (YAt xs)) {α β : Type} {rows : List α} {f : α → PyData} {g : α → β} {h : β → PyData} {p : α → Bool} {tg : TG} {tt : TT} {te : TE} {vs : List Nat} {σ : L2.St} {H1 : Hp} {D : Addr} {Qd : Hp → Prop}
    (hG : ∀ H', Same H1 H' → G H') (hD : H1 D = none) (lay : LayAll H1 xs (rows.map f)) (hl : rows.length ≤ 1000)
    (hs : ∀ (x : V) (r : α) (H' : Hp) (R : V → Hp → Prop) (Z : Hp → Prop), r ∈ rows → Same H1 H' → Lay H' x (f r) → (p r = true → ∀ y H4, Same H' H4 → Lay H4 y (h (g r)) → R y H4) → (p r = false → ∀ H4, Same H' H4 → Z H4) →
      tg x (wipe σ vs) H' fun σ2 H2 => wipe σ2 vs = wipe σ vs ∧ tt σ2 H2 fun b H3 => if b = true then te σ2 H3 R else Z H3)
    (hd : ∀ us H', Same H1 H' → H' D = some (.lst us) → LayAll H' us (((rows.filter p).map g).map h) → Qd H') :
    ∃ W : Nat → Nat → Hp → Prop, (∃ m, W 0 m (upd H1 D (.lst []))) ∧ ∀ i m H, W i m H →
      (J.stop i H ∧ Qd H) ∨ (J.go i H ∧ ∃ Nx : Hp → Prop, (∀ H', Nx H' → ∃ m', m' < m ∧ W (i + 1) m' H') ∧ ∀ x H', J.yld i H x H' → tg x (wipe σ vs) H' fun σ2 H2 => wipe σ2 vs = wipe σ vs ∧ tt σ2 H2 fun b H3 =>
        if b = true then te σ2 H3 fun y H4 => ∃ acc, H4 D = some (.lst acc) ∧ acc.length < sizeLine ∧ Nx (upd H4 D (.lst (acc ++ [y]))) else Nx H3) := by
  have ll := lay.len
  rw [List.length_map] at ll
  refine lc_it w (fun i H' => Same H1 H' ∧ ∃ us, H' D = some (.lst us) ∧ LayAll H' us ((((rows.take i).filter p).map g).map h)) ⟨same_two (.refl _) hD, [], upd_same, by simp; exact .nil⟩ (fun i H' _ q => hG _ q.1) (fun i x H' H2 hi q y => ?_) (fun H' q => ?_)
  · obtain ⟨sm, us, eD, lu⟩ := q
    obtain ⟨rfl, hx⟩ := y
    obtain ⟨d, hd', ld⟩ := (lay.keep' (.same sm)).get i hx
    obtain ⟨r, hr, rfl⟩ := mapAtD hd'
    have lul := lu.len
    rw [List.length_map, List.length_map] at lul
    have hlen : ((rows.take i).filter p).length ≤ 1000 := Nat.le_trans (List.length_filter_le _ _) (by rw [List.length_take]; omega)
    refine hs x r H2 _ _ (List.mem_of_getElem? hr) sm ld (fun hp y H4 s4 ly => ?_) (fun hp H4 s4 => ⟨sm.trans s4, us, s4 _ _ eD, ?_⟩)
    · refine ⟨us, s4 _ _ eD, len1000 (by omega), same_two (sm.trans s4) hD, us ++ [y], upd_same, ?_⟩
      rw [take_snoc hr, List.filter_append, List.map_append, List.map_append, show [r].filter p = [r] by simp [List.filter, hp]]
      exact ((lu.keep' (.same s4)).snoc ly).keep' (.lst (s4 _ _ eD))
    · rw [take_snoc hr, List.filter_append, show [r].filter p = [] by simp [List.filter, hp], List.append_nil]
      exact lu.keep' (.same s4)
  · obtain ⟨sm, us, eD, lu⟩ := q
    rw [ll, List.take_length] at lu
    exact hd us H' sm eD lu
def blD (b : Bool) : PyData := .bool b
theorem lay_bls {H : Hp} : ∀ {bs : List Bool} {us : List V}, LayAll H us (bs.map blD) → us = bs.map V.bl
  | [], _, h => by cases h; rfl
  | b :: r, _, h => by
    cases h with
    | cons a t =>
      rw [lay_bls t]
      cases a
      rfl
end Bf

set_option Elab.async false
set_option linter.all false
set_option maxRecDepth 100000
set_option maxHeartbeats 4000000
namespace Bf
open PySem PySem.Spec PyProof.Rows L2
/-! ### d.update(e), both with int and text keys -/
def rUpd : V → List V → Hp → VK → Prop := fun x vs H Q => ∃ (d b : Addr) (xs zs : List (Key × V)), x = .ref d ∧ vs = [.ref b] ∧ d ≠ b ∧ H d = some (.dK xs) ∧ H b = some (.dK zs) ∧ xs.length + zs.length ≤ sizeLine ∧ Q .non (upd H d (.dK (mergeK xs zs)))
theorem mt_update {X : Cx} : MtM X "dict.update" rUpd := by
  intro pins s σ H x vs v us Q I rx rv h
  obtain ⟨d, b, xs, zs, rfl, rfl, hne, hH, hB, hz, q⟩ := h
  cases rx
  obtain ⟨u, rfl, ru⟩ := rv.one
  cases ru
  obtain ⟨z, hd, ws, rel, dd⟩ := dk_of I.hok hH
  obtain ⟨z2, hd2, ws2, rel2, dd2⟩ := dk_of I.hok hB
  refine call_meetsIn PySem.F.slot_dict_update dd.typeIs PySem.F.entry_dict_update (PySem.F.args_dict_update_2 _ _) (meets_dict_update (mixKind X.prog X.w) d b hne hd2) ⟨ws, ws2, dd, dd2, by rw [← Paired.length rel, ← Paired.length rel2]; exact hz, fun h' dd' _ hs => ?_⟩
  have hl := length_mergeK zs xs
  have he : ∃ q, h'.get? d = some q := let ⟨q, _, _, hq, _⟩ := dd'; ⟨q, hq⟩
  exact ⟨.non, _, d_write I (by rw [hH]; exact True.intro) hs he (dk_new (by omega) hd (rel2.merge rel) dd'), rfl, q⟩
/-! ### dicts as sets of numbers -/
def setZ (M : List Int) : List (Key × V) := M.map fun x => (Sum.inl x, .bl true)
def addZ (M : List Int) (x : Int) : List Int := if x ∈ M then M else M ++ [x]
theorem mem_addZ {M : List Int} {x y : Int} : y ∈ addZ M x ↔ y ∈ M ∨ y = x := by
  unfold addZ
  by_cases h : x ∈ M
  · rw [if_pos h]
    exact ⟨.inl, fun q => q.elim id fun e => e ▸ h⟩
  · rw [if_neg h]
    simp
theorem addZ_len {M : List Int} {x : Int} : (addZ M x).length ≤ M.length + 1 := by
  unfold addZ
  split
  · omega
  · rw [List.length_append]; exact Nat.le_refl _
theorem addZ_nodup {M : List Int} {x : Int} (h : M.Nodup) : (addZ M x).Nodup := by
  unfold addZ
  by_cases q : x ∈ M
  · rw [if_pos q]; exact h
  · rw [if_neg q]
    exact List.nodup_append.mpr ⟨h, by simp, fun a ha b hb e => q (by rw [← List.mem_singleton.mp hb, ← e]; exact ha)⟩
theorem setZ_len (M : List Int) : (setZ M).length = M.length := by simp [setZ]
theorem setZ_put (M : List Int) (x : Int) : putK (setZ M) (Sum.inl x) (.bl true) = setZ (addZ M x) := by
  unfold putK addZ setZ
  by_cases h : x ∈ M
  · rw [if_pos h, if_pos]
    · conv => rhs; rw [← List.map_id (M.map _)]
      refine List.map_congr_left fun kv hkv => ?_
      obtain ⟨y, _, rfl⟩ := List.mem_map.mp hkv
      by_cases e : (Sum.inl y : Key) = Sum.inl x
      · rw [if_pos e]; rfl
      · rw [if_neg e]; rfl
    · rw [List.any_eq_true]
      exact ⟨(Sum.inl x, .bl true), List.mem_map_of_mem (f := fun x => ((Sum.inl x : Key), V.bl true)) h, decide_eq_true rfl⟩
  · rw [if_neg h, if_neg, List.map_append]
    · rfl
    · rw [List.any_eq_true]
      rintro ⟨kv, hkv, q⟩
      obtain ⟨y, hy, rfl⟩ := List.mem_map.mp hkv
      exact h (Sum.inl.inj (of_decide_eq_true q) ▸ hy)
theorem setZ_val : ∀ (M : List Int) (x : Int), (valV (setZ M) (Sum.inl x)).isSome = decide (x ∈ M)
  | [], x => by unfold setZ; rw [List.map_nil, valV_nil]; simp
  | y :: M, x => by
    have ih := setZ_val M x
    unfold setZ at ih ⊢
    rw [List.map_cons]
    by_cases e : (Sum.inl y : Key) = Sum.inl x
    · rw [valV_pos e]
      have : y = x := Sum.inl.inj e
      simp [this]
    · rw [valV_neg e, ih]
      have : ¬ x = y := fun q => e (congrArg Sum.inl q.symm)
      simp [this]
theorem setZ_merge (M : List Int) : ∀ N : List Int, mergeK (setZ M) (setZ N) = setZ (N.foldl addZ M)
  | [] => rfl
  | x :: N => by
    have := setZ_merge (addZ M x) N
    show mergeK (putK (setZ M) (Sum.inl x) (.bl true)) (setZ N) = _
    rw [setZ_put, this]
    rfl
theorem mem_addsZ : ∀ (N : List Int) {M : List Int} {x : Int}, x ∈ N.foldl addZ M ↔ x ∈ M ∨ x ∈ N
  | [], M, x => by simp
  | y :: N, M, x => by
    show x ∈ N.foldl addZ (addZ M y) ↔ _
    rw [mem_addsZ N, mem_addZ, List.mem_cons]
    constructor
    · rintro ((h | h) | h)
      · exact .inl h
      · exact .inr (.inl h)
      · exact .inr (.inr h)
    · rintro (h | h | h)
      · exact .inl (.inl h)
      · exact .inl (.inr h)
      · exact .inr h
theorem addsZ_len : ∀ (N M : List Int), (N.foldl addZ M).length ≤ M.length + N.length
  | [], M => by simp
  | y :: N, M => by
    have h1 := addsZ_len N (addZ M y)
    have h2 := addZ_len (M := M) (x := y)
    show (N.foldl addZ (addZ M y)).length ≤ _
    rw [List.length_cons]
    omega
theorem setZ_get {H : Hp} {a : Addr} {M : List Int} (h : H a = some (.dK (setZ M))) (x : Int) : DGet H a (.int x) (valV (setZ M) (Sum.inl x)) := DGet.k (k := Sum.inl x) h
theorem setZ_dput {H : Hp} {a : Addr} {M : List Int} (h : H a = some (.dK (setZ M))) (x : Int) (hl : M.length ≤ 2000) : DPut H a (.int x) (.bl true) (upd H a (.dK (setZ (addZ M x)))) := by
  have := DPut.k (k := Sum.inl x) (v := .bl true) h (by rw [setZ_len]; exact Nat.lt_of_le_of_lt hl (by show 2000 < sizeLine; decide))
  rwa [setZ_put] at this
/-- {key: True for x in rows} -/
theorem dc_setZ {J : It} {xs : List V} {G : Hp → Prop} (w : Walk J xs.length G (YAt xs)) {α : Type} {rows : List α} {f : α → PyData} {k : α → Int} {g : TG} {tt : TT} {tk tv : TE} {vs : List Nat} {σ : L2.St} {H1 : Hp} {D : Addr} {Qd : Hp → Prop}
    (hG : ∀ H', Same H1 H' → G H') (hD : H1 D = none) (lay : LayAll H1 xs (rows.map f)) (hl : rows.length ≤ 1000)
    (hs : ∀ (x : V) (r : α) (H' : Hp) (R : V → V → Hp → Prop) (Z : Hp → Prop), r ∈ rows → Same H1 H' → Lay H' x (f r) → (∀ H4, Same H' H4 → R (.int (k r)) (.bl true) H4) →
      g x (wipe σ vs) H' fun σ2 H2 => wipe σ2 vs = wipe σ vs ∧ tt σ2 H2 fun b H3 => if b = true then tk σ2 H3 fun y H4 => tv σ2 H4 fun z H5 => R y z H5 else Z H3)
    (hd : ∀ (M : List Int) H', Same H1 H' → H' D = some (.dK (setZ M)) → (∀ x, x ∈ M ↔ x ∈ rows.map k) → M.length ≤ rows.length → Qd H') :
    ∃ W : Nat → Nat → Hp → Prop, (∃ m, W 0 m (upd H1 D (.dK []))) ∧ ∀ i m H, W i m H →
      (J.stop i H ∧ Qd H) ∨ (J.go i H ∧ ∃ Nx : Hp → Prop, (∀ H', Nx H' → ∃ m', m' < m ∧ W (i + 1) m' H') ∧ ∀ x H', J.yld i H x H' → g x (wipe σ vs) H' fun σ2 H2 => wipe σ2 vs = wipe σ vs ∧ tt σ2 H2 fun b H3 =>
        if b = true then tk σ2 H3 fun y H4 => tv σ2 H4 fun z H5 => ∃ kvs k, y = kV k ∧ H5 D = some (.dK kvs) ∧ kvs.length < sizeLine ∧ Nx (upd H5 D (.dK (putK kvs k z))) else Nx H3) := by
  have ll := lay.len
  rw [List.length_map] at ll
  let Pv : Nat → Hp → Prop := fun i H' => Same H1 H' ∧ ∃ M : List Int, H' D = some (.dK (setZ M)) ∧ (∀ x, x ∈ M ↔ x ∈ (rows.take i).map k) ∧ M.length ≤ i
  refine ⟨fun i m H => m = xs.length - i ∧ i ≤ xs.length ∧ Pv i H, ⟨xs.length, by simp, Nat.zero_le _, same_two (.refl _) hD, [], upd_same, by simp, Nat.le_refl _⟩, ?_⟩
  rintro i m H ⟨rfl, hi, sm, M, eD, hM, hML⟩
  have q := hG H sm
  by_cases hlt : i < xs.length
  · refine .inr ⟨w.goes i H hlt q, Pv (i + 1), fun H' p' => ⟨xs.length - (i + 1), by omega, rfl, hlt, p'⟩, fun x H' y => ?_⟩
    obtain ⟨rfl, hx⟩ := w.yields i H x H' hlt q y
    obtain ⟨d, hd', ld⟩ := (lay.keep' (.same sm)).get i hx
    obtain ⟨r, hr, rfl⟩ := mapAtD hd'
    refine hs x r H' _ _ (List.mem_of_getElem? hr) sm ld (fun H4 s4 => ?_)
    refine ⟨setZ M, Sum.inl (k r), rfl, s4 _ _ eD, by rw [setZ_len]; exact len1000 (by omega), ?_⟩
    rw [setZ_put]
    refine ⟨same_two (sm.trans s4) hD, addZ M (k r), upd_same, fun x => ?_, by have := addZ_len (M := M) (x := k r); omega⟩
    rw [mem_addZ, hM, take_snoc hr, List.map_append, List.mem_append]
    simp
  · have e : i = xs.length := by omega
    subst e
    refine .inl ⟨w.stops H q, hd M H sm eD (fun x => ?_) (by omega)⟩
    rw [hM, ll, List.take_length]
/-- [.. for x in d], d a locked set of numbers, each giving a bool -/
theorem lc_keysB {o : Obj} {d : Addr} {M : List Int} {p : Int → Bool} {tg : TG} {te : TE} {vs : List Nat} {σ : L2.St} {H1 : Hp} {D : Addr} {Qd : Hp → Prop}
    (hd : H1 d = some (.frz o (.dK (setZ M)))) (hD : H1 D = none) (hl : M.length ≤ 1000)
    (hs : ∀ (x : Int) (H' : Hp) (R : V → Hp → Prop) (Z : Hp → Prop), x ∈ M → Same H1 H' → (∀ H4, Same H' H4 → R (.bl (p x)) H4) →
      tg (.int x) (wipe σ vs) H' fun σ2 H2 => wipe σ2 vs = wipe σ vs ∧ tYes σ2 H2 fun b H3 => if b = true then te σ2 H3 R else Z H3)
    (hq : ∀ H', Same H1 H' → H' D = some (.lst ((M.map p).map V.bl)) → Qd H') :
    ∃ W : Nat → Nat → Hp → Prop, (∃ m, W 0 m (upd H1 D (.lst []))) ∧ ∀ i m H, W i m H →
      ((Itk d o (setZ M)).stop i H ∧ Qd H) ∨ ((Itk d o (setZ M)).go i H ∧ ∃ Nx : Hp → Prop, (∀ H', Nx H' → ∃ m', m' < m ∧ W (i + 1) m' H') ∧ ∀ x H', (Itk d o (setZ M)).yld i H x H' → tg x (wipe σ vs) H' fun σ2 H2 => wipe σ2 vs = wipe σ vs ∧ tYes σ2 H2 fun b H3 =>
        if b = true then te σ2 H3 fun y H4 => ∃ acc, H4 D = some (.lst acc) ∧ acc.length < sizeLine ∧ Nx (upd H4 D (.lst (acc ++ [y]))) else Nx H3) := by
  refine lc_it (walk_keys (d := d) (o := o) (kvs := setZ M)) (fun i H' => Same H1 H' ∧ H' D = some (.lst (((M.take i).map p).map V.bl))) ⟨same_two (.refl _) hD, upd_same⟩ (fun i H' _ q => q.1 _ _ hd) (fun i x H' H2 hi q y => ?_) (fun H' q => ?_)
  · obtain ⟨sm, eD⟩ := q
    obtain ⟨rfl, kk, v, hk, rfl⟩ := y
    rw [setZ_len] at hi
    have e : M[i]? = some M[i] := List.getElem?_eq_getElem hi
    have e2 : (setZ M)[i]? = some (Sum.inl M[i], .bl true) := by unfold setZ; rw [List.getElem?_map, e]; rfl
    rw [e2] at hk
    cases hk
    refine hs M[i] H2 _ _ (List.getElem_mem _) sm (fun H4 s4 => ⟨_, s4 _ _ eD, ?_, same_two (sm.trans s4) hD, ?_⟩)
    · rw [List.length_map, List.length_map, List.length_take]
      exact len1000 (by omega)
    · rw [upd_same, take_snoc e, List.map_append, List.map_append]
      rfl
  · obtain ⟨sm, eD⟩ := q
    rw [setZ_len, List.take_length] at eD
    exact hq H' sm eD
end Bf

set_option Elab.async false
set_option linter.all false
set_option maxRecDepth 100000
set_option maxHeartbeats 4000000
namespace Bf
open PySem PySem.Spec PyProof.Rows L2
/-! ### sorted of a list of data that are alike, any number of them -/
theorem each_of {H : Hp} {β : Type} {enc : β → PyData} : ∀ {vs : List V} {its : List Value} {bs : List β}, Vals vs its → LayAll H vs (bs.map enc) → PySem.W.EachIs (fun (u : Value) (b : β) => ∃ x : V, RelV x u ∧ Lay H x (enc b)) its bs
  | [], its, [], r, _ => by cases r; exact .nil
  | v :: vs, its, b :: bs, r, .cons a l => by
    cases r with
    | cons ra rl => exact .cons ⟨v, ra, a⟩ (each_of rl l)
theorem each_back {H : Hp} {β : Type} {enc : β → PyData} : ∀ {its : List Value} {bs : List β}, PySem.W.EachIs (fun (u : Value) (b : β) => ∃ x : V, RelV x u ∧ Lay H x (enc b)) its bs → ∃ vs : List V, Vals vs its ∧ LayAll H vs (bs.map enc)
  | _, _, .nil => ⟨[], .nil, .nil⟩
  | _, _, .cons ⟨x, r, l⟩ t => by
    obtain ⟨vs, r2, l2⟩ := each_back t
    exact ⟨x :: vs, .cons r r2, .cons l l2⟩
def rSortedD (K : PySem.W.Frag) : List V → Hp → VK → Prop := fun xs H Q => ∃ (β : Type) (a : Addr) (vs : List V) (bs : List β) (enc : β → PyData), xs = [V.ref a] ∧ SqL K H a vs ∧ LayAll H vs (bs.map enc) ∧ PySem.W.AllAlike (bs.map enc) ∧ PySem.W.Sortable (bs.map enc) ∧ (∀ b ∈ bs, (enc b).depth ≤ 32) ∧
  ∀ us p, LayAll H us ((bs.mergeSort (PySem.W.dataLe false enc)).map enc) → H p = none → Q (.ref p) (upd H p (.lst us))
section
variable {X : Cx}
theorem cr_sortedD (hu : X.A.units + 64 < cLine) : CallR X (.builtin "sorted") (rSortedD X.K) := by
  intro pins s σ H vs us Q I r h
  obtain ⟨β, a, xs, bs, enc, rfl, hs, hl, hal, hk, hd, q⟩ := h
  obtain ⟨its, rv, hpl, hz⟩ := I.list hs
  obtain ⟨u, rfl, ru⟩ := vals1 r
  obtain rfl : u = Value.ref a := ru
  have e := each_of rv hl
  have hlen : xs.length = bs.length := by simpa using hl.len
  refine PySem.W.sorted_data (R := fun (u : Value) (b : β) => ∃ x : V, RelV x u ∧ Lay H x (enc b)) hpl.isList e (e.mono fun u b ⟨x, rx, lx⟩ => Dp.reads I _ _ _ lx.dp' rx) hal hk (by omega) (fun b hb => by have := hd b hb; omega) fun out hol ho => ?_
  obtain ⟨ys, ry, ly⟩ := each_back ho
  obtain ⟨n, hn⟩ := sortedAll_at s.heap its (List.toArray out)
  have hyl : ys.length ≤ sizeLine := by
    have e1 : ys.length = out.length := ry.length
    omega
  refine ⟨.ref (s.heap.objs.size + 1), upd H (s.heap.objs.size + 1) (.lst ys), I.laid (t' := s.toks) (fun b o e => sortedAll_old e) (Nat.le_succ _) ⟨hyl, out, n, ry, hn⟩, rfl, q _ _ ly (I.hok.fresh (Nat.le_succ _))⟩
end
/-- what was sorted is the same, in an order -/
theorem sortD_perm {β : Type} (enc : β → PyData) (bs : List β) : (bs.mergeSort (PySem.W.dataLe false enc)).Perm bs := List.mergeSort_perm _ _
end Bf

set_option Elab.async false
set_option linter.all false
set_option maxRecDepth 100000
set_option maxHeartbeats 4000000
namespace Bf
open PySem PySem.Spec PyProof.Rows L2
section
variable {X : Cx}
/-- sorted(d), d a dict with int keys, of any length -/
theorem cr_sortedKeysI (hcalm : X.calm = true) : CallR X (.builtin "sorted") (fun xs H Q => ∃ (a : Addr) (kvs : List (Key × V)) (ks : List Int), xs = [.ref a] ∧ Rd H a (.dK kvs) ∧ kvs.map (·.1) = ks.map Sum.inl ∧
    ∀ (ys : List Int) (p : Addr), ys.Perm ks → ys.Pairwise (· ≤ ·) → H p = none → Q (.ref p) (upd H p (.lst (ys.map V.int)))) := by
  intro pins s σ H xs us Q I r q
  obtain ⟨a, kvs, ks, ex, hd, hks, q⟩ := q
  subst ex
  obtain ⟨u, eu, rx⟩ := vals1 r
  subst eu
  cases rx
  obtain ⟨z, lo, vs, rel, dd⟩ := dk_rd I.hok hd
  obtain ⟨ep, hat⟩ := dd.dictAt
  have hkeys : vs.map (·.1) = ks.map Sum.inl := rel.keys.symm.trans hks
  have hl : vs.length = ks.length := by
    have e := congrArg List.length hkeys
    rw [List.length_map, List.length_map] at e
    exact e
  have h16 : vs.length ≤ sizeLine := by
    rw [← Paired.length rel]
    exact z
  refine Calls.call_function_entry PyProof.Rows.kind_sorted PyProof.Rows.plain_sorted PyProof.Rows.entry_sorted (PyProof.Rows.args_sorted1 _) ?_
  unfold Builtin.«sorted»
  refine wpAny_bind (m := checkCount "sorted" 1 1 _) (wpAny_pure ?_)
  refine wpAny_bind (PySem.W.kdu_collect (A := X.A.in1) (PySem.W.kdl_dict (knd := mixKind X.prog X.w) (kvs := vs) (ep := ep) lo) (I.ok.hd hcalm) hat h16 fun h' tk acc hk hacc => ?_)
  have hal : acc.toList.length = ks.length := by rw [Array.length_toList, hacc.1, hl]
  have hS : IntsAre acc.toList ks := ints_each hal fun j v e => by
    obtain ⟨k, x, e1, e2⟩ := hacc.2 j v (by rw [← Array.getElem?_toList]; exact e)
    have e3 : (vs.map (·.1))[j]? = some k := by rw [List.getElem?_map, e1]; rfl
    rw [hkeys, List.getElem?_map] at e3
    cases e4 : ks[j]? with
    | none => rw [e4] at e3; cases e3
    | some y =>
      rw [e4] at e3
      have e5 : Sum.inl y = k := Option.some.inj e3
      subst e5
      rcases keyIs_shape (show keyIs (Sum.inl y) v = true from e2) with ⟨i, t, ek, ev⟩ | ⟨z, t, ek, ev⟩
      · cases ek
        exact ⟨y, t, rfl, ev⟩
      · cases ek
  have I1 : Inv X pins σ H { s with heap := h', toks := tk } := I.kept hk
  have hal2 : acc.toList.length ≤ sizeLine := by rw [hal, ← hl]; exact h16
  refine wpAny_bind (wpAny_newList ?_ (by rw [hal, ← hl]; exact h16))
  have hoL : (h'.push (seqObj "list" acc.toList.toArray 0)).get? h'.objs.size = some (seqObj "list" acc.toList.toArray 0) := Heap.get?_push_size _ rfl
  show wpAny _ _ _ _ _ { s with heap := h'.push (seqObj "list" acc.toList.toArray 0), toks := tk }
  refine wpAny_bind (wpAny_holding (wpAny_call_entry PyProof.Rows.slot_list_sort ⟨_, hoL, rfl⟩ PyProof.Rows.entry_list_sort
    (SrtO.list_sort_ord (s := { s with heap := h'.push (seqObj "list" acc.toList.toArray 0), toks := tk }) SrtO.swo_int hoL hal2 (fun h2 => SrtO.ints_sortable hS h2) fun out h1 h2 => ⟨_, rfl, ?_⟩) (PyProof.Rows.args_list_sort _)))
  obtain ⟨g1, g2, g3⟩ := SrtO.ints_out hS h1 h2
  obtain ⟨e', he'⟩ := PyProof.Rows.sortedHeap_at (vs := acc.toList) (out := out.toArray) hoL
  have hlen : ((out.map SrtO.iv).map V.int).length ≤ sizeLine := by
    rw [List.length_map, g2.length_eq, ← hl]
    exact h16
  refine wpAny_pure ⟨_, rfl, .ref h'.objs.size, upd H h'.objs.size (.lst ((out.map SrtO.iv).map V.int)), I1.laid (t' := tk) (fun b u e => ?_) (Nat.le_refl _)
    (show ObjOk X.prog X.w _ _ _ (.lst ((out.map SrtO.iv).map V.int)) from ⟨hlen, out, e', vals_of_ints g1, he'⟩), rfl, q _ _ g2 g3 (I1.hok.fresh (Nat.le_refl _))⟩
  have hb : b < h'.objs.size := Heap.lt_size e
  rw [PyProof.Rows.sortedHeap_old (Nat.ne_of_lt hb) (by rw [size_push']; exact Nat.lt_succ_of_lt hb)]
  exact Heap.get?_push_of_some _ e
end
/-- two ascending lists of the same numbers are one -/
theorem sorted_same {xs ys : List Int} (hx : xs.Pairwise (· ≤ ·)) (hy : ys.Pairwise (· ≤ ·)) (h : xs.Perm ys) : xs = ys :=
  h.eq_of_pairwise (fun a b _ _ h1 h2 => Int.le_antisymm h1 h2) hx hy
end Bf

set_option Elab.async false
set_option linter.all false
set_option maxRecDepth 100000
set_option maxHeartbeats 4000000
namespace Bf
open PySem PySem.Spec PyProof.Rows L2
def topS (i : Nat) : Stmt := PySem.Challenge.pw_beatfabric_k51_least_heights.main.body.getD i (.Pass ⟨0, 0, 0, 0⟩)
abbrev s_first_and : Stmt := topS 1
abbrev s_ends_of : Stmt := topS 2
abbrev s_inner_ands : Stmt := topS 4
abbrev s_leaves_of : Stmt := topS 5
abbrev s_leaves_of_heads : Stmt := topS 6
abbrev s_tree_height : Stmt := topS 7
abbrev s_have_inverse : Stmt := topS 8
abbrev s_head_height : Stmt := topS 9
abbrev s_least_heights : Stmt := topS 10
abbrev s_law_begin : Stmt := topS 12
abbrev s_law_draw : Stmt := topS 13
abbrev s_law_pop : Stmt := topS 14
abbrev s_law_rare : Stmt := topS 15
abbrev s_law_pool : Stmt := topS 16
abbrev s_law_is_int : Stmt := topS 17
abbrev s_law_lit : Stmt := topS 18
abbrev s_law_drawn_literal : Stmt := topS 19
abbrev s_law_net : Stmt := topS 20
abbrev s_law_tidied : Stmt := topS 21
abbrev s_law_closed_up : Stmt := topS 22
abbrev s_law_world : Stmt := topS 23
abbrev s_law_inner : Stmt := topS 24
abbrev s_law_leaves : Stmt := topS 25
abbrev s_law_least : Stmt := topS 26
abbrev s_law_lowest_tree : Stmt := topS 27
abbrev s_law_are_lowest : Stmt := topS 28
abbrev s_law_is : Stmt := topS 29
abbrev s_law : Stmt := topS 30
theorem sc_first_and : FnScope ["net"] ["net"] (defScope s_first_and) := ⟨rfl, rfl, rfl, by decide +kernel, rfl, by decide +kernel, by decide +kernel⟩
theorem sc_ends_of : FnScope ["net", "_", "regs", "outputs", "claims", "literal", "follow"] ["net"] (defScope s_ends_of) := ⟨rfl, rfl, rfl, by decide +kernel, rfl, by decide +kernel, by decide +kernel⟩
theorem sc_inner_ands : FnScope ["net", "first", "uses", "barred", "pair", "literal", "node", "many", "bar"] ["net"] (defScope s_inner_ands) := ⟨rfl, rfl, rfl, by decide +kernel, rfl, by decide +kernel, by decide +kernel⟩
theorem sc_leaves_of : FnScope ["net", "inner", "head", "first", "leaves", "todo", "literal"] ["net", "inner", "head"] (defScope s_leaves_of) := ⟨rfl, rfl, rfl, by decide +kernel, rfl, by decide +kernel, by decide +kernel⟩
theorem sc_leaves_of_heads : FnScope ["net", "first", "inner", "head"] ["net"] (defScope s_leaves_of_heads) := ⟨rfl, rfl, rfl, by decide +kernel, rfl, by decide +kernel, by decide +kernel⟩
theorem sc_tree_height : FnScope ["heights", "total", "height"] ["heights"] (defScope s_tree_height) := ⟨rfl, rfl, rfl, by decide +kernel, rfl, by decide +kernel, by decide +kernel⟩
theorem sc_have_inverse : FnScope ["literals", "low", "high"] ["literals"] (defScope s_have_inverse) := ⟨rfl, rfl, rfl, by decide +kernel, rfl, by decide +kernel, by decide +kernel⟩
theorem sc_head_height : FnScope ["least", "leaves", "literal"] ["least", "leaves"] (defScope s_head_height) := ⟨rfl, rfl, rfl, by decide +kernel, rfl, by decide +kernel, by decide +kernel⟩
theorem sc_least_heights : FnScope ["net", "leaves", "first", "least", "node"] ["net"] (defScope s_least_heights) := ⟨rfl, rfl, rfl, by decide +kernel, rfl, by decide +kernel, by decide +kernel⟩
theorem sc_law_begin : FnScope ["_law_script", "_law_cell"] ["_law_script"] (defScope s_law_begin) := ⟨rfl, rfl, rfl, by decide +kernel, rfl, by decide +kernel, by decide +kernel⟩
theorem sc_law_draw : FnScope ["_law_d", "_law_many", "_law_found", "_law_size", "_law_cell"] ["_law_d", "_law_many"] (defScope s_law_draw) := ⟨rfl, rfl, rfl, by decide +kernel, rfl, by decide +kernel, by decide +kernel⟩
theorem sc_law_pop : FnScope ["_law_d", "_law_row"] ["_law_d", "_law_row"] (defScope s_law_pop) := ⟨rfl, rfl, rfl, by decide +kernel, rfl, by decide +kernel, by decide +kernel⟩
theorem sc_law_rare : FnScope ["_law_d", "_law_many"] ["_law_d", "_law_many"] (defScope s_law_rare) := ⟨rfl, rfl, rfl, by decide +kernel, rfl, by decide +kernel, by decide +kernel⟩
theorem sc_law_pool : FnScope ["_law_text"] [] (defScope s_law_pool) := ⟨rfl, rfl, rfl, by decide +kernel, rfl, by decide +kernel, by decide +kernel⟩
theorem sc_law_is_int : FnScope ["_law_thing"] ["_law_thing"] (defScope s_law_is_int) := ⟨rfl, rfl, rfl, by decide +kernel, rfl, by decide +kernel, by decide +kernel⟩
theorem sc_law_lit : FnScope ["_law_bits", "_law_literal"] ["_law_bits", "_law_literal"] (defScope s_law_lit) := ⟨rfl, rfl, rfl, by decide +kernel, rfl, by decide +kernel, by decide +kernel⟩
theorem sc_law_drawn_literal : FnScope ["_law_d", "_law_size", "_law_node"] ["_law_d", "_law_size"] (defScope s_law_drawn_literal) := ⟨rfl, rfl, rfl, by decide +kernel, rfl, by decide +kernel, by decide +kernel⟩
theorem sc_law_net : FnScope ["_law_d", "_law_inputs", "_law_regs", "_law_ands", "_law_outputs", "_law_claims", "_law_names", "_law_first", "_law_pairs", "_law_size", "_law_given", "_law_rows", "_law_shown", "_law_asked", "_law_k"] ["_law_d", "_law_inputs", "_law_regs", "_law_ands", "_law_outputs", "_law_claims"] (defScope s_law_net) := ⟨rfl, rfl, rfl, by decide +kernel, rfl, by decide +kernel, by decide +kernel⟩
theorem sc_law_tidied : FnScope ["_law_net_here", "_law_first", "_law_news", "_law_pairs", "_law_known", "_law_left", "_law_right", "_law_low", "_law_high", "_law_rows", "_law_shown", "_law_asked", "_law_node", "_law_row"] ["_law_net_here"] (defScope s_law_tidied) := ⟨rfl, rfl, rfl, by decide +kernel, rfl, by decide +kernel, by decide +kernel⟩
theorem sc_law_closed_up : FnScope ["_law_given", "_law_rows", "_law_pairs", "_law_shown", "_law_asked", "_law_first", "_law_needed", "_law_literal", "_law_k", "_law_news", "_law_kept", "_law_node", "_law_row"] ["_law_given", "_law_rows", "_law_pairs", "_law_shown", "_law_asked"] (defScope s_law_closed_up) := ⟨rfl, rfl, rfl, by decide +kernel, rfl, by decide +kernel, by decide +kernel⟩
theorem sc_law_world : FnScope ["_law_d", "_law_inputs", "_law_regs", "_law_ands", "_law_net_here", "_law_first", "_law_pairs", "_law_k", "_law_left", "_law_right", "_law_turn", "_law_shown"] ["_law_d"] (defScope s_law_world) := ⟨rfl, rfl, rfl, by decide +kernel, rfl, by decide +kernel, by decide +kernel⟩
theorem sc_law_inner : FnScope ["_law_net_here", "_law_first", "_law_uses", "_law_plain", "_law_pair", "_law_literal", "_law_node", "_law_row"] ["_law_net_here"] (defScope s_law_inner) := ⟨rfl, rfl, rfl, by decide +kernel, rfl, by decide +kernel, by decide +kernel⟩
theorem sc_law_leaves : FnScope ["_law_net_here", "_law_head", "_law_inner_here", "_law_first", "_law_found", "_law_waiting", "_law_turn", "_law_literal"] ["_law_net_here", "_law_head", "_law_inner_here"] (defScope s_law_leaves) := ⟨rfl, rfl, rfl, by decide +kernel, rfl, by decide +kernel, by decide +kernel⟩
theorem sc_law_least : FnScope ["_law_net_here", "_law_first", "_law_inner_here", "_law_found", "_law_node", "_law_leaves_here", "_law_total", "_law_height", "_law_literal"] ["_law_net_here"] (defScope s_law_least) := ⟨rfl, rfl, rfl, by decide +kernel, rfl, by decide +kernel, by decide +kernel⟩
theorem sc_law_lowest_tree : FnScope ["_law_tall", "_law_rows", "_law_turn", "_law_fresh", "_law_row", "_law_at", "_law_other", "_law_rest", "_law_k"] ["_law_tall"] (defScope s_law_lowest_tree) := ⟨rfl, rfl, rfl, by decide +kernel, rfl, by decide +kernel, by decide +kernel⟩
theorem sc_law_are_lowest : FnScope ["_law_net_here", "_law_told", "_law_first", "_law_inner_here", "_law_node", "_law_leaves_here", "_law_opposed", "_law_literal"] ["_law_net_here", "_law_told"] (defScope s_law_are_lowest) := ⟨rfl, rfl, rfl, by decide +kernel, rfl, by decide +kernel, by decide +kernel⟩
theorem sc_law_is : FnScope ["_law_told", "_law_due", "_law_one", "_law_other"] ["_law_told", "_law_due"] (defScope s_law_is) := ⟨rfl, rfl, rfl, by decide +kernel, rfl, by decide +kernel, by decide +kernel⟩
theorem sc_law : FnScope ["_law_script", "_law_d", "_law_nets", "_law_k", "_law_told"] ["_law_script"] (defScope s_law) := ⟨rfl, rfl, rfl, by decide +kernel, rfl, by decide +kernel, by decide +kernel⟩
structure Txt (mg : Str → Option Value) : Prop where
  n_int : mg "int" = none
  n_len : mg "len" = none
  n_abs : mg "abs" = none
  n_isinstance : mg "isinstance" = none
  n_range : mg "range" = none
  n_tuple : mg "tuple" = none
  n_all : mg "all" = none
  n_list : mg "list" = none
  n_max : mg "max" = none
  n_min : mg "min" = none
  n_sorted : mg "sorted" = none
  n_set : mg "set" = none
  n_reversed : mg "reversed" = none
  n_bool : mg "bool" = none
  n_zip : mg "zip" = none
  n_sum : mg "sum" = none
  n_any : mg "any" = none
/-! ### the draws -/
/-- what stood elsewhere stands -/
def Keep (S : List Addr) (H H' : Hp) : Prop := ∀ b o, b ∉ S → H b = some o → H' b = some o
theorem Keep.refl (S : List Addr) (H : Hp) : Keep S H H := fun _ _ _ h => h
theorem Keep.trans {S : List Addr} {H H1 H2 : Hp} (a : Keep S H H1) (b : Keep S H1 H2) : Keep S H H2 := fun c o n h => b c o n (a c o n h)
theorem Keep.of_same {S : List Addr} {H H1 : Hp} (a : Same H H1) : Keep S H H1 := fun c o _ h => a c o h
theorem Keep.wide {S S' : List Addr} {H H1 : Hp} (a : Keep S H H1) (h : ∀ b, b ∈ S → b ∈ S') : Keep S' H H1 := fun c o n e => a c o (fun q => n (h c q)) e
theorem Keep.upd {S : List Addr} {H : Hp} {a : Addr} {o : HO} (h : a ∈ S) : Keep S H (upd H a o) := fun b u n e => by
  rw [upd_ne (fun q => n (by rw [q]; exact h))]
  exact e
theorem Keep.new {S : List Addr} {H : Hp} {a : Addr} {o : HO} (h : H a = none) : Keep S H (L2.upd H a o) := fun b u n e => by
  rw [upd_ne (ne_of_none e h)]
  exact e
/-- the state of the draws -/
def DS (H : Hp) (a c : Addr) : Prop := ∃ (at_ left st : Int) (cells : List Int), H a = some (.lst [.ref c, .int at_, .int left, .int st, .int 3]) ∧ 0 ≤ at_ ∧ H c = some (.lst (cells.map V.int))
theorem DS.ne {H : Hp} {a c : Addr} {x : V} {xs : List V} {cells : List Int} (h : H a = some (.lst (.ref c :: xs))) (hc : H c = some (.lst (cells.map V.int))) : c ≠ a := by
  intro e
  rw [e, h] at hc
  have q := HO.lst.inj (Option.some.inj hc)
  cases cells with
  | nil => cases q
  | cons x r => cases (List.cons.inj q).1
theorem DS.keep {S : List Addr} {H H' : Hp} {a c : Addr} (h : DS H a c) (k : Keep S H H') (ha : a ∉ S) (hc : c ∉ S) : DS H' a c := by
  obtain ⟨at_, left, st, cells, h1, h2, h3⟩ := h
  exact ⟨at_, left, st, cells, k _ _ ha h1, h2, k _ _ hc h3⟩
theorem DS.same {H H' : Hp} {a c : Addr} (h : DS H a c) (k : Same H H') : DS H' a c := h.keep (S := []) (Keep.of_same k) (by simp) (by simp)
theorem DS.new {H : Hp} {a c l : Addr} (h : DS H a c) (hl : H l = none) : l ≠ a ∧ l ≠ c := by
  obtain ⟨at_, left, st, cells, h1, h2, h3⟩ := h
  exact ⟨(ne_of_none h1 hl).symm, (ne_of_none h3 hl).symm⟩
theorem pow6000 : (0 : Int) < 1 * 2 ^ (6000 : Int).toNat := by
  rw [Int.one_mul]
  exact Int.pow_pos (by decide)
def spDraw : Sp := fun vs H Q _ => ∃ (a c : Addr) (m : Int), vs = [.ref a, .int m] ∧ DS H a c ∧ 1 ≤ m ∧ m < 1073741824 ∧ ∀ (r : Int) (H' : Hp), 0 ≤ r → r < m → DS H' a c → Keep [a] H H' → Q (.int r) H'
section
variable {P : Program} {w : World} {K : PySem.W.Frag} {mg : Str → Option Value} {base : Heap}
theorem ok_draw {f : Addr} {fd : FuncData} (F : Fun K "_law_draw" "_law_draw" s_law_draw f fd) (T : Txt mg) : FnOk P w K mg base CX0 1 f fd ["_law_d", "_law_many"] spDraw := by
  refine F.ok sc_law_draw (fun vs H Q E h => ?_) (fun cdv A outer s H vs Q E hr h => ?_)
  · obtain ⟨a, c, m, rfl, _⟩ := h
    rfl
  obtain ⟨a, c, m, rfl, ⟨at_, left, st, cells, ha, h0, hc⟩, m1, m2, q⟩ := h
  have hca : c ≠ a := DS.ne (x := .non) ha hc
  refine ⟨_, (pss_cons (ps_if (pt_cmpR op_gt (pe_ix ix_list (pv 0) pe_int (fun _ _ => rfl)) pe_int (nomark _)) (pss_cons (ps_set (i := 2) sc_law_draw.nd rfl (Or.inl rfl) (pe_ix ix_list (pv 0) pe_int (fun _ _ => rfl)))
      (pss_cons (ps_asg (pe_op op_fdiv (pv 2) (pv 1)) (pg_sub (pv 0) pe_int set_list))
      (pss_one (ps_ret (pe_op op_mod (pe_callTy call_int1 (by rfl) T.n_int (by decide +kernel) (pa_cons (pv 2) pa_nil)) (pv 1)))))) pss_nil)
      (pss_cons (ps_set (i := 3) sc_law_draw.nd rfl (Or.inl rfl) pe_int)
      (C8.pss_cut (ps_if (pt_cmpR op_lt (pe_ix ix_list (pv 0) pe_int (fun _ _ => rfl)) (pe_callB call_len_seq (by rfl) T.n_len (by decide +kernel) (pa_cons (pe_ix ix_list (pv 0) pe_int (fun _ _ => rfl)) pa_nil)) (nomark _)) (pss_cons (ps_set (i := 4) sc_law_draw.nd rfl (Or.inl rfl) (pe_ix ix_list (pe_ix ix_list (pv 0) pe_int (fun _ _ => rfl)) (pe_ix ix_list (pv 0) pe_int (fun _ _ => rfl)) (fun _ _ => rfl)))
      (pss_one (ps_set (i := 3) sc_law_draw.nd rfl (Or.inl rfl) (pe_op op_add (pe_op op_mul pe_int (pe_callB call_abs (by rfl) T.n_abs (by decide +kernel) (pa_cons (pv 4) pa_nil))) (pe_callTy call_int1 (by rfl) T.n_int (by decide +kernel) (pa_cons (pe_cmpR op_lt (pv 4) pe_int (nomark _)) pa_nil)))))) pss_nil)
      (C8.pss_cut (ps_augS (pv 0) pe_int get_list pe_int ip_add set_list)
      (pss_cons (ps_if (pt_cmpR op_ge (pv 3) (pe_op op_mul pe_int (pe_op op_pow pe_int pe_int)) (nomark _)) (pss_cons (ps_set (i := 2) sc_law_draw.nd rfl (Or.inl rfl) (pe_op op_mod (pe_callTy call_int1 (by rfl) T.n_int (by decide +kernel) (pa_cons (pe_op op_fdiv (pv 3) pe_int) pa_nil)) (pe_op op_shl pe_int pe_int)))
      (pss_cons (ps_asg (pe_op op_fdiv (pv 2) (pv 1)) (pg_sub (pv 0) pe_int set_list))
      (pss_one (ps_ret (pe_op op_mod (pe_callTy call_int1 (by rfl) T.n_int (by decide +kernel) (pa_cons (pv 2) pa_nil)) (pv 1)))))) pss_nil)
      (pss_cons (ps_asg (pe_op op_mod (pe_callTy call_int1 (by rfl) T.n_int (by decide +kernel) (pa_cons (pe_op op_add (pe_op op_add (pe_op op_add (pe_op op_mul (pe_ix ix_list (pv 0) pe_int (fun _ _ => rfl)) pe_int) (pe_op op_mul (pe_op op_mod (pe_callTy call_int1 (by rfl) T.n_int (by decide +kernel) (pa_cons (pv 3) pa_nil)) pe_int) pe_int)) (pe_op op_mul (pe_ix ix_list (pv 0) pe_int (fun _ _ => rfl)) pe_int)) pe_int) pa_nil)) pe_int) (pg_sub (pv 0) pe_int set_list))
      (pss_one (ps_ret (pe_op op_mod (pe_callTy call_int1 (by rfl) T.n_int (by decide +kernel) (pa_cons (pe_op op_fdiv (pe_ix ix_list (pv 0) pe_int (fun _ _ => rfl)) pe_int) pa_nil)) (pv 1)))))))))), ?_⟩
  refine ⟨_, rfl, a, _, _, _, rfl, rfl, SqL.of ha, atI_nat (j := 2) rfl, _, _, rfl, rfl, _, rfl, ?_⟩
  refine ite2 (fun e => ?_) (fun e => ?_)
  · refine ⟨_, rfl, a, _, _, _, rfl, rfl, SqL.of ha, atI_nat (j := 2) rfl, ?_⟩
    refine ⟨_, rfl, _, rfl, left, m, rfl, rfl, ⟨by omega, by omega⟩, _, rfl, a, _, 2, 2, rfl, rfl, ha, rfl, ?_⟩
    refine ⟨_, rfl, .inl ⟨_, rfl, _, rfl, _, _, rfl, rfl, (by omega), ?_⟩⟩
    exact q _ _ (Int.emod_nonneg _ (by omega)) (Int.emod_lt_of_pos _ (by omega)) ⟨at_, left / m, st, cells, upd_same, h0, by rw [upd_ne hca]; exact hc⟩ (Keep.upd (by simp))
  · refine ⟨fun σ' H' => ∃ (z : Int) (v4 : Option V), σ' = [some (.ref a), some (.int m), none, some (.int z), v4] ∧ H' = H, ?_, ?_⟩
    · refine ⟨_, rfl, a, _, _, _, rfl, rfl, SqL.of ha, atI_nat (j := 1) rfl, _, rfl, a, _, _, _, rfl, rfl, SqL.of ha, atI_nat (j := 0) rfl, c, _, rfl, .inl (SqL.of hc), _, _, rfl, rfl, _, rfl, ?_⟩
      refine ite2 (fun e1 => ?_) (fun e1 => ?_)
      · have e2 : at_ < ((cells.map V.int).length : Nat) := of_decide_eq_true e1
        rw [List.length_map] at e2
        have hk : at_.toNat < cells.length := by omega
        have ek : ((at_.toNat : Nat) : Int) = at_ := by omega
        have q1 : atI (cells.map V.int) ((at_.toNat : Nat) : Int) = some (.int cells[at_.toNat]) := atI_nat (by rw [List.getElem?_map, List.getElem?_eq_getElem hk] <;> rfl)
        rw [ek] at q1
        refine ⟨_, rfl, a, _, _, _, rfl, rfl, SqL.of ha, atI_nat (j := 0) rfl, _, rfl, a, _, _, _, rfl, rfl, SqL.of ha, atI_nat (j := 1) rfl, c, _, _, _, rfl, rfl, SqL.of hc, q1, ?_⟩
        refine ⟨_, rfl, _, rfl, _, _, rfl, rfl, .inl ⟨by decide, by decide⟩, _, rfl, _, _, rfl, rfl, .inr ⟨_, rfl, _, _, rfl, rfl, ?_⟩⟩
        exact ⟨_, _, rfl, rfl⟩
      · exact ⟨_, _, rfl, rfl⟩
    · rintro σ' H' ⟨z, v4, rfl, rfl⟩
      refine ⟨fun σ' H1 => σ' = [some (.ref a), some (.int m), none, some (.int z), v4] ∧ H1 a = some (.lst [.ref c, .int (at_ + 1), .int left, .int st, .int 3]) ∧ H1 c = some (.lst (cells.map V.int)) ∧ Keep [a] H' H1, ?_, ?_⟩
      · exact ⟨_, rfl, a, _, 1, .int at_, rfl, rfl, ha, atI_nat (j := 1) rfl, at_, 1, rfl, rfl, a, _, 1, 1, rfl, rfl, ha, rfl, rfl, upd_same, by rw [upd_ne hca]; exact hc, Keep.upd (by simp)⟩
      rintro σ' H1 ⟨rfl, h1, h2, k1⟩
      refine ⟨_, rfl, _, _, rfl, rfl, ⟨by decide, by decide, by decide⟩, _, _, rfl, rfl, .inl ⟨by decide, by decide⟩, _, _, rfl, rfl, _, rfl, ?_⟩
      refine ite2 (fun e3 => ?_) (fun e3 => ?_)
      · refine ⟨_, rfl, z, 2, rfl, rfl, ⟨by decide, by decide⟩, .inl ⟨_, rfl, 1, 6000, rfl, rfl, ⟨by decide, by decide, by decide⟩, _, _, rfl, rfl, pow6000, ?_⟩⟩
        refine ⟨_, rfl, _, rfl, _, m, rfl, rfl, ⟨by omega, by omega⟩, _, rfl, a, _, 2, 2, rfl, rfl, h1, rfl, ?_⟩
        refine ⟨_, rfl, .inl ⟨_, rfl, _, rfl, _, _, rfl, rfl, (by omega), ?_⟩⟩
        refine q _ _ (Int.emod_nonneg _ (by omega)) (Int.emod_lt_of_pos _ (by omega)) ⟨at_ + 1, _, st, cells, upd_same, by omega, by rw [upd_ne hca]; exact h2⟩ (k1.trans (Keep.upd (by simp)))
      · refine ⟨_, rfl, a, _, _, _, rfl, rfl, SqL.of h1, atI_nat (j := 3) rfl, _, _, rfl, rfl, .inr ⟨by decide, by decide⟩, ?_⟩
        refine ⟨_, rfl, .inl ⟨_, rfl, _, _, rfl, rfl, (by show (0 : Int) < 2147483629; decide), _, _, rfl, rfl, .inr ⟨by decide, by decide⟩, _, _, rfl, rfl, ?_⟩⟩
        refine ⟨_, rfl, a, _, _, _, rfl, rfl, SqL.of h1, atI_nat (j := 1) rfl, _, _, rfl, rfl, .inr ⟨by decide, by decide⟩, _, _, rfl, rfl, _, _, rfl, rfl, .inl ⟨_, rfl, _, _, rfl, rfl, (by show (0 : Int) < 2147483647; decide), ?_⟩⟩
        refine ⟨_, rfl, a, _, 3, 3, rfl, rfl, h1, rfl, ?_⟩
        refine ⟨_, rfl, a, _, _, _, rfl, rfl, SqL.of upd_same, atI_nat (j := 3) rfl, _, _, rfl, rfl, ⟨by decide, by decide⟩, .inl ⟨_, rfl, _, rfl, _, _, rfl, rfl, (by omega), ?_⟩⟩
        exact q _ _ (Int.emod_nonneg _ (by omega)) (Int.emod_lt_of_pos _ (by omega)) ⟨at_ + 1, left, _, cells, upd_same, by omega, by rw [upd_ne hca]; exact h2⟩ (k1.trans (Keep.upd (by simp)))
end

/-! ### the beginning of the draws; a draw out of a list; is it an int -/
theorem same_new {H : Hp} {p : Addr} (h : H p = none) (o : HO) : Same H (upd H p o) := fun b u q => by rw [upd_ne (ne_of_none q h)]; exact q
theorem intAt {xs : List Int} {i : Nat} {x : V} (h : (xs.map V.int)[i]? = some x) : ∃ k, xs[i]? = some k ∧ x = V.int k := by
  rw [List.getElem?_map] at h
  cases e : xs[i]? with
  | none => rw [e] at h; cases h
  | some k => rw [e] at h; exact ⟨k, rfl, (Option.some.inj h).symm⟩
def spBegin (K : PySem.W.Frag) : Sp := fun vs H Q _ => ∃ (a : Addr) (ns : List Int), vs = [.ref a] ∧ SqL K H a (ns.map V.int) ∧ ns.length ≤ 63 ∧ ∀ (d c : Addr) (H' : Hp), H d = none → H c = none → DS H' d c → Same H H' → Q (.ref d) H'
section
variable {P : Program} {w : World} {K : PySem.W.Frag} {mg : Str → Option Value} {base : Heap}
theorem ok_begin {f : Addr} {fd : FuncData} (F : Fun K "_law_begin" "_law_begin" s_law_begin f fd) (T : Txt mg) : FnOk P w K mg base CX0 1 f fd ["_law_script"] (spBegin K) := by
  refine F.ok sc_law_begin (fun vs H Q E h => ?_) (fun cdv A outer s H vs Q E hr h => ?_)
  · obtain ⟨a, ns, rfl, _⟩ := h
    rfl
  obtain ⟨a, ns, rfl, hS, h63, q⟩ := h
  refine ⟨_, (pss_one (ps_ret (pe_lst (pa_cons (pe_lc (own := [("_law_cell", 1)]) (g := (gName 1)) (tt := tYes) rfl sc_law_begin.nd (pi_list (pv 0)) (blkOk_by (N := ["_law_script", "_law_cell"]) (sc := defScope s_law_begin) (by decide +kernel)) (fun _ _ _ _ _ => (pg_name (i := 1) sc_law_begin.nd rfl (Or.inl rfl))) (fun _ _ _ _ _ => pts_nil) (fun _ _ _ _ _ => (pe_callTy call_int1 (by rfl) T.n_int (by decide +kernel) (pa_cons (pv 1) pa_nil)))) (pa_cons pe_int (pa_cons pe_int (pa_cons pe_int (pa_cons pe_int pa_nil)))))))), ?_⟩
  refine ⟨_, rfl, a, rfl, ⟨_, hS⟩, fun D hD => lc_list (K := K) (a := a) (xs := ns.map V.int) (fun i H' => Same H H' ∧ H' D = some (.lst ((ns.take i).map V.int)))
    ⟨same_new hD _, upd_same⟩ (fun i H' _ p => p.1.seq hS) (fun i x H' hx p => ?_) (fun H' p => ?_)⟩
  · obtain ⟨k, hk, rfl⟩ := intAt hx
    refine ⟨rfl, _, rfl, .inl ⟨_, rfl, _, p.2, ?_, ?_, ?_⟩⟩
    · rw [List.length_map, List.length_take]
      exact small1000 (by omega)
    · intro b o e
      rw [upd_ne (ne_of_none e hD)]
      exact p.1 b o e
    · rw [upd_same, List.take_add_one, hk, List.map_append]
      rfl
  · rw [List.length_map, List.take_length] at p
    refine ⟨(by show 5 ≤ sizeLine; decide), fun l hl => ?_⟩
    have nDl : D ≠ l := ne_of_none p.2 hl
    refine q l D _ (p.1.free hl) hD ⟨0, 0, 7, ns, upd_same, Int.le_refl 0, by rw [upd_ne nDl]; exact p.2⟩ (p.1.trans (same_new hl _))
end

def spIsInt : Sp := fun vs H Q _ => ∃ i : Int, vs = [.int i] ∧ Q (.bl true) H
section
variable {P : Program} {w : World} {K : PySem.W.Frag} {mg : Str → Option Value} {base : Heap}
theorem ok_isInt {f : Addr} {fd : FuncData} (F : Fun K "_law_is_int" "_law_is_int" s_law_is_int f fd) (T : Txt mg) : FnOk P w K mg base CX0 1 f fd ["_law_thing"] spIsInt := by
  refine F.ok sc_law_is_int (fun vs H Q E h => ?_) (fun cdv A outer s H vs Q E hr h => ?_)
  · obtain ⟨i, rfl, _⟩ := h
    rfl
  obtain ⟨i, rfl, q⟩ := h
  refine ⟨_, (pss_one (ps_ret (pe_and (pe_callB (call_isi : CallR _ _ (rIsi K)) (by rfl) T.n_isinstance (by decide +kernel) (pa_cons (pv 0) (pa_cons (pe_bltn rfl T.n_int (by decide +kernel) (v := .ty "int") rfl) pa_nil))) (pe_one (pe_not (pe_callB (call_isi : CallR _ _ (rIsi K)) (by rfl) T.n_isinstance (by decide +kernel) (pa_cons (pv 0) (pa_cons (pe_bltn rfl T.n_bool (by decide +kernel) (v := .ty "bool") rfl) pa_nil)))))))), ?_⟩
  refine ⟨_, rfl, _, _, .type "int", .type "int", true, rfl, .ty "int", .base (.int i), kit_ty (by decide +kernel), true, rfl, ?_⟩
  refine iteT ?_
  refine ⟨_, rfl, _, _, .type "int", .type "bool", false, rfl, .ty "bool", .base (.int i), kit_ty (by decide +kernel), false, rfl, ?_⟩
  exact q
end

/-- a draw of an item of a list, which is taken out -/
def spPop : Sp := fun vs H Q _ => ∃ (d c l : Addr) (xs : List V), vs = [.ref d, .ref l] ∧ DS H d c ∧ H l = some (.lst xs) ∧ l ≠ d ∧ l ≠ c ∧ 1 ≤ xs.length ∧ xs.length ≤ 1000 ∧
  ∀ (k : Nat) (y : V) (H' : Hp), xs[k]? = some y → DS H' d c → H' l = some (.lst (xs.eraseIdx k)) → Keep [d, l] H H' → Q y H'
section
variable {P : Program} {w : World} {K : PySem.W.Frag} {mg : Str → Option Value} {base : Heap}
theorem ok_pop {f : Addr} {fd : FuncData} (F : Fun K "_law_pop" "_law_pop" s_law_pop f fd) (T : Txt mg) (D_law_draw : Dn P w K mg base "_law_draw" ["_law_d", "_law_many"] 1 spDraw) :
    FnOk P w K mg base CX0 2 f fd ["_law_d", "_law_row"] spPop := by
  refine F.ok sc_law_pop (fun vs H Q E h => ?_) (fun cdv A outer s H vs Q E hr h => ?_)
  · obtain ⟨d, c, l, xs, rfl, _⟩ := h
    rfl
  obtain ⟨d, c, l, xs, rfl, hd, hl, nld, nlc, h1, h2, q⟩ := h
  refine ⟨_, (pss_one (ps_ret (pe_bm PySem.F.plainAttrs_list PySem.F.slot_list_pop PySem.F.type_list_pop mt_popAt (pv 1) (pa_cons (pe_dn D_law_draw (hr.mono (by omega)) (by rfl) (pa_cons (pv 0) (pa_cons (pe_callB call_len_seq (by rfl) T.n_len (by decide +kernel) (pa_cons (pv 1) pa_nil)) pa_nil))) pa_nil)))), ?_⟩
  refine ⟨_, rfl, .inl ⟨rfl, _, SqL.of hl⟩, _, rfl, _, rfl, l, _, rfl, .inl (SqL.of hl), d, c, _, rfl, hd, (by omega), (by omega), fun r H' r0 r1 hd' k1 => ?_⟩
  have hl' : H' l = some (.lst xs) := k1 _ _ (by simp [nld]) hl
  have hk : r.toNat < xs.length := by omega
  refine ⟨l, xs, r, r.toNat, xs[r.toNat], rfl, rfl, hl', by omega, by omega, seqIndex_of r0 (by omega), List.getElem?_eq_getElem hk, ?_⟩
  refine q _ _ _ (List.getElem?_eq_getElem hk) (hd'.keep (S := [l]) (Keep.upd (by simp)) (by simp [nld.symm]) (by simp [nlc.symm])) upd_same ((k1.wide (by simp)).trans (Keep.upd (by simp)))
end

end Bf

set_option Elab.async false
set_option linter.all false
set_option maxRecDepth 100000
set_option maxHeartbeats 4000000
namespace Bf
open PySem PySem.Spec PyProof.Rows L2
/-! ### nets, as they lie -/
def intD (n : Nat) : PyData := .int (n : Int)
def regD (r : Str × Nat × Nat) : PyData := .tuple [.str r.1, intD r.2.1, intD r.2.2]
def pairD (p : Nat × Nat) : PyData := .tuple [intD p.1, intD p.2]
def namD (p : Str × Nat) : PyData := .tuple [.str p.1, intD p.2]
def netD (N : Net) : PyData := .tuple [.str "net", .tuple (N.ins.map PyData.str), .tuple (N.regs.map regD), .tuple (N.ands.map pairD), .tuple (N.outs.map namD), .tuple (N.cls.map namD)]
structure NetAt (H : Hp) (p pi pr pa po pc : Addr) (vr va vo vc : List V) (N : Net) : Prop where
  top : H p = some (.tup [.str "net", .ref pi, .ref pr, .ref pa, .ref po, .ref pc])
  hi : H pi = some (.tup (N.ins.map V.str))
  hr : H pr = some (.tup vr)
  lr : LayAll H vr (N.regs.map regD)
  ha : H pa = some (.tup va)
  la : LayAll H va (N.ands.map pairD)
  ho : H po = some (.tup vo)
  lo : LayAll H vo (N.outs.map namD)
  hc : H pc = some (.tup vc)
  lc : LayAll H vc (N.cls.map namD)
theorem NetAt.keep {H H' : Hp} {p pi pr pa po pc : Addr} {vr va vo vc : List V} {N : Net} (h : NetAt H p pi pr pa po pc vr va vo vc N) (k : KeepT H H') : NetAt H' p pi pr pa po pc vr va vo vc N :=
  ⟨k _ _ h.top, k _ _ h.hi, k _ _ h.hr, h.lr.keep' k, k _ _ h.ha, h.la.keep' k, k _ _ h.ho, h.lo.keep' k, k _ _ h.hc, h.lc.keep' k⟩
theorem NetAt.lay {H : Hp} {p pi pr pa po pc : Addr} {vr va vo vc : List V} {N : Net} (h : NetAt H p pi pr pa po pc vr va vo vc N) : Lay H (.ref p) (netD N) :=
  .tup h.top (.cons (.str _) (.cons (.tup h.hi (.strs _)) (.cons (.tup h.hr h.lr) (.cons (.tup h.ha h.la) (.cons (.tup h.ho h.lo) (.cons (.tup h.hc h.lc) .nil))))))
theorem Lay.net {H : Hp} {v : V} {N : Net} (h : Lay H v (netD N)) : ∃ (p pi pr pa po pc : Addr) (vr va vo vc : List V), v = .ref p ∧ NetAt H p pi pr pa po pc vr va vo vc N := by
  obtain ⟨p, vs, rfl, e, l⟩ := h.tup_inv
  obtain ⟨v0, u0, rfl, l0, l⟩ := l.cons_inv
  obtain ⟨v1, u1, rfl, l1, l⟩ := l.cons_inv
  obtain ⟨v2, u2, rfl, l2, l⟩ := l.cons_inv
  obtain ⟨v3, u3, rfl, l3, l⟩ := l.cons_inv
  obtain ⟨v4, u4, rfl, l4, l⟩ := l.cons_inv
  obtain ⟨v5, u5, rfl, l5, l⟩ := l.cons_inv
  obtain rfl := l.nil_inv
  obtain rfl := l0.str_inv
  obtain ⟨p1, w1, rfl, e1, m1⟩ := l1.tup_inv
  obtain ⟨p2, w2, rfl, e2, m2⟩ := l2.tup_inv
  obtain ⟨p3, w3, rfl, e3, m3⟩ := l3.tup_inv
  obtain ⟨p4, w4, rfl, e4, m4⟩ := l4.tup_inv
  obtain ⟨p5, w5, rfl, e5, m5⟩ := l5.tup_inv
  obtain rfl := m1.strs_inv
  exact ⟨p, p1, p2, p3, p4, p5, w2, w3, w4, w5, rfl, ⟨e, e1, e2, m2, e3, m3, e4, m4, e5, m5⟩⟩
theorem NetAt.lens {H : Hp} {p pi pr pa po pc : Addr} {vr va vo vc : List V} {N : Net} (h : NetAt H p pi pr pa po pc vr va vo vc N) : vr.length = N.regs.length ∧ va.length = N.ands.length ∧ vo.length = N.outs.length ∧ vc.length = N.cls.length :=
  ⟨by simpa using h.lr.len, by simpa using h.la.len, by simpa using h.lo.len, by simpa using h.lc.len⟩
theorem Lay.pair {H : Hp} {v : V} {p : Nat × Nat} (h : Lay H v (pairD p)) : ∃ q, v = .ref q ∧ H q = some (.tup [vI p.1, vI p.2]) := by
  obtain ⟨q, vs, rfl, e, l⟩ := h.tup_inv
  obtain ⟨v0, u0, rfl, l0, l⟩ := l.cons_inv
  obtain ⟨v1, u1, rfl, l1, l⟩ := l.cons_inv
  obtain rfl := l.nil_inv
  obtain rfl := l0.int_inv
  obtain rfl := l1.int_inv
  exact ⟨q, rfl, e⟩
theorem Lay.reg {H : Hp} {v : V} {r : Str × Nat × Nat} (h : Lay H v (regD r)) : ∃ q, v = .ref q ∧ H q = some (.tup [.str r.1, vI r.2.1, vI r.2.2]) := by
  obtain ⟨q, vs, rfl, e, l⟩ := h.tup_inv
  obtain ⟨v0, u0, rfl, l0, l⟩ := l.cons_inv
  obtain ⟨v1, u1, rfl, l1, l⟩ := l.cons_inv
  obtain ⟨v2, u2, rfl, l2, l⟩ := l.cons_inv
  obtain rfl := l.nil_inv
  obtain rfl := l0.str_inv
  obtain rfl := l1.int_inv
  obtain rfl := l2.int_inv
  exact ⟨q, rfl, e⟩
theorem Lay.nam {H : Hp} {v : V} {r : Str × Nat} (h : Lay H v (namD r)) : ∃ q, v = .ref q ∧ H q = some (.tup [.str r.1, vI r.2]) := by
  obtain ⟨q, vs, rfl, e, l⟩ := h.tup_inv
  obtain ⟨v0, u0, rfl, l0, l⟩ := l.cons_inv
  obtain ⟨v1, u1, rfl, l1, l⟩ := l.cons_inv
  obtain rfl := l.nil_inv
  obtain rfl := l0.str_inv
  obtain rfl := l1.int_inv
  exact ⟨q, rfl, e⟩
theorem Lay.mkPair {H : Hp} {q : Addr} {a b : Nat} (e : H q = some (.tup [vI a, vI b])) : Lay H (.ref q) (pairD (a, b)) := .tup e (.cons (.int _) (.cons (.int _) .nil))
theorem Lay.mkReg {H : Hp} {q : Addr} {z : Str} {a b : Nat} (e : H q = some (.tup [.str z, vI a, vI b])) : Lay H (.ref q) (regD (z, a, b)) := .tup e (.cons (.str _) (.cons (.int _) (.cons (.int _) .nil)))
theorem Lay.mkNam {H : Hp} {q : Addr} {z : Str} {a : Nat} (e : H q = some (.tup [.str z, vI a])) : Lay H (.ref q) (namD (z, a)) := .tup e (.cons (.str _) (.cons (.int _) .nil))
theorem NetAt.and_ {H : Hp} {p pi pr pa po pc : Addr} {vr va vo vc : List V} {N : Net} (h : NetAt H p pi pr pa po pc vr va vo vc N) {i : Nat} {x : V} (e : va[i]? = some x) : ∃ q p, x = .ref q ∧ N.ands[i]? = some p ∧ H q = some (.tup [vI p.1, vI p.2]) := by
  obtain ⟨d, hd, l⟩ := h.la.get i e
  obtain ⟨p, hp, rfl⟩ := mapAtD hd
  obtain ⟨q, rfl, hq⟩ := l.pair
  exact ⟨q, p, rfl, hp, hq⟩
end Bf

set_option Elab.async false
set_option linter.all false
set_option maxRecDepth 100000
set_option maxHeartbeats 4000000
namespace Bf
open PySem PySem.Spec PyProof.Rows L2
/-! ### drawn nets -/
def spRare : Sp := fun vs H Q _ => ∃ (d c : Addr) (m : Int), vs = [.ref d, .int m] ∧ DS H d c ∧ 1 ≤ m ∧ m < 1000 ∧ ∀ (b : Bool) (H' : Hp), DS H' d c → Keep [d] H H' → Q (.bl b) H'
def spPool : Sp := fun vs H Q _ => vs = [] ∧ ∀ (p : Addr) (xs : List Str), H p = none → xs.length = 61 → Q (.ref p) (upd H p (.lst (xs.map V.str)))
def spLit : Sp := fun vs H Q _ => ∃ (d c : Addr) (i : Int) (n : Nat), vs = [.ref d, .int i] ∧ i = (n : Int) ∧ DS H d c ∧ 1 ≤ n ∧ n ≤ 1000 ∧ ∀ (l : Nat) (H' : Hp), l < 2 * n → DS H' d c → Keep [d] H H' → Q (vI l) H'
theorem DS.at_ {H : Hp} {d c : Addr} (h : DS H d c) : ∃ l, H d = some (.lst l) := let ⟨_, _, _, _, e, _⟩ := h; ⟨_, e⟩
theorem Keep.tups {S : List Addr} {H H' : Hp} (k : Keep S H H') (n : ∀ b ∈ S, ∃ l, H b = some (.lst l)) : KeepT H H' := fun b xs h => k _ _ (fun m => by
  obtain ⟨l, q⟩ := n b m
  rw [q] at h
  cases h) h
theorem Keep.tup1 {H H' : Hp} {d c : Addr} (k : Keep [d] H H') (h : DS H d c) : KeepT H H' := k.tups fun b hb => by rw [List.mem_singleton.mp hb]; exact h.at_
theorem Keep.tup2 {H H' : Hp} {d c l : Addr} {xs : List V} (k : Keep [d, l] H H') (h : DS H d c) (hl : H l = some (.lst xs)) : KeepT H H' := k.tups fun b hb => by
  rcases List.mem_cons.mp hb with e | hb
  · rw [e]; exact h.at_
  · rw [List.mem_singleton.mp hb]; exact ⟨_, hl⟩
section
variable {P : Program} {w : World} {K : PySem.W.Frag} {mg : Str → Option Value} {base : Heap} {f : Addr} {fd : FuncData}
theorem ok_rare (F : Fun K "_law_rare" "_law_rare" s_law_rare f fd) (T : Txt mg) (D_law_draw : Dn P w K mg base "_law_draw" ["_law_d", "_law_many"] 1 spDraw) : FnOk P w K mg base CX0 2 f fd ["_law_d", "_law_many"] spRare := by
  refine F.ok sc_law_rare (fun vs H Q E h => ?_) (fun cdv A outer s H vs Q E hr h => ?_)
  · obtain ⟨d, c, m, rfl, _⟩ := h
    rfl
  obtain ⟨d, c, m, rfl, hd, h1, h2, q⟩ := h
  refine ⟨_, (pss_one (ps_ret (pe_cmpR op_eq (pe_dn D_law_draw (hr.mono (by omega)) (by rfl) (pa_cons (pv 0) (pa_cons (pv 1) pa_nil))) (pe_op op_fdiv (pv 1) pe_int) (nomark _)))), ?_⟩
  refine ⟨_, rfl, _, rfl, d, c, m, rfl, hd, h1, by omega, fun r H' r0 r1 hd' k1 => ?_⟩
  exact ⟨_, rfl, m, 2, rfl, rfl, ⟨by decide, by decide⟩, rfl, q _ _ hd' k1⟩
theorem ok_pool (F : Fun K "_law_pool" "_law_pool" s_law_pool f fd) : FnOk P w K mg base CX0 1 f fd [] spPool := by
  refine F.ok sc_law_pool (fun vs H Q E h => ?_) (fun cdv A outer s H vs Q E hr h => ?_)
  · rw [h.1]
    rfl
  obtain ⟨rfl, q⟩ := h
  refine ⟨_, (pss_cons (ps_set (i := 0) sc_law_pool.nd rfl (Or.inl rfl) pe_str)
      (pss_cons (ps_set (i := 0) sc_law_pool.nd rfl (Or.inl rfl) (pe_op op_add_str (pv 0) pe_str))
      (pss_one (ps_ret (pe_split (pe_op op_add_str (pv 0) pe_str) pe_str))))), ?_⟩
  refine ⟨_, rfl, _, _, rfl, rfl, (by decide +kernel), _, rfl, _, _, rfl, rfl, (by decide +kernel), ?_⟩
  exact ⟨⟨_, rfl⟩, _, _, rfl, rfl, (by decide +kernel), (by decide +kernel), fun p hp => q p _ hp (by decide +kernel)⟩
theorem ok_lit (F : Fun K "_law_drawn_literal" "_law_drawn_literal" s_law_drawn_literal f fd) (T : Txt mg) (D_law_draw : Dn P w K mg base "_law_draw" ["_law_d", "_law_many"] 1 spDraw) : FnOk P w K mg base CX0 2 f fd ["_law_d", "_law_size"] spLit := by
  refine F.ok sc_law_drawn_literal (fun vs H Q E h => ?_) (fun cdv A outer s H vs Q E hr h => ?_)
  · obtain ⟨d, c, i, n, rfl, _⟩ := h
    rfl
  obtain ⟨d, c, i, n, rfl, rfl, hd, h1, h2, q⟩ := h
  refine ⟨_, (pss_cons (ps_set (i := 2) sc_law_drawn_literal.nd rfl (Or.inl rfl) (pe_callB (cr_maxN rfl) (by rfl) T.n_max (by decide +kernel) (pa_cons (pe_dn D_law_draw (hr.mono (by omega)) (by rfl) (pa_cons (pv 0) (pa_cons (pv 1) pa_nil))) (pa_cons (pe_dn D_law_draw (hr.mono (by omega)) (by rfl) (pa_cons (pv 0) (pa_cons (pv 1) pa_nil))) pa_nil))))
      (pss_one (ps_ret (pe_op op_add (pe_op op_mul pe_int (pv 2)) (pe_dn D_law_draw (hr.mono (by omega)) (by rfl) (pa_cons (pv 0) (pa_cons pe_int pa_nil))))))), ?_⟩
  refine ⟨_, rfl, _, rfl, d, c, _, rfl, hd, by omega, by omega, fun r H1 r0 r1 hd1 k1 => ?_⟩
  obtain ⟨x, rfl⟩ := Int.eq_ofNat_of_zero_le r0
  refine ⟨_, rfl, _, rfl, d, c, _, rfl, hd1, by omega, by omega, fun r H2 r0 r1 hd2 k2 => ?_⟩
  obtain ⟨y, rfl⟩ := Int.eq_ofNat_of_zero_le r0
  refine ⟨x, y, rfl, _, rfl, _, _, rfl, rfl, .inl ⟨by decide, by decide⟩, ?_⟩
  refine ⟨_, rfl, d, c, _, rfl, hd2, by decide, by decide, fun r H3 r0 r1 hd3 k3 => ?_⟩
  obtain ⟨z, rfl⟩ := Int.eq_ofNat_of_zero_le r0
  refine ⟨_, _, rfl, rfl, ?_⟩
  have e : (2 : Int) * ((max x y : Nat) : Int) + (z : Int) = ((2 * max x y + z : Nat) : Int) := by omega
  show Q (V.int ((2 : Int) * ((max x y : Nat) : Int) + (z : Int))) H3
  rw [e]
  exact q _ _ (by omega) hd3 ((k1.trans k2).trans k3)
end

end Bf

set_option Elab.async false
set_option linter.all false
set_option maxRecDepth 100000
set_option maxHeartbeats 4000000
namespace Bf
open PySem PySem.Spec PyProof.Rows L2
/-! ### a drawn net -/
/-- the names that are left -/
def Nms (H : Hp) (l : Addr) (n : Nat) : Prop := ∃ names : List V, H l = some (.lst names) ∧ (∀ v ∈ names, ∃ z : Str, v = .str z) ∧ names.length = n
theorem Nms.keep {S : List Addr} {H H' : Hp} {l : Addr} {n : Nat} (h : Nms H l n) (k : Keep S H H') (hl : l ∉ S) : Nms H' l n := let ⟨x, a, b, e⟩ := h; ⟨x, k _ _ hl a, b, e⟩
theorem Nms.same {H H' : Hp} {l : Addr} {n : Nat} (h : Nms H l n) (k : Same H H') : Nms H' l n := let ⟨x, a, b, e⟩ := h; ⟨x, k _ _ a, b, e⟩
theorem Nms.cast {H : Hp} {l : Addr} {n m : Nat} (h : Nms H l n) (e : n = m) : Nms H l m := e ▸ h
theorem Keep.thin {S S' : List Addr} {H H' : Hp} (k : Keep S' H H') (h : ∀ b ∈ S', b ∈ S ∨ H b = none) : Keep S H H' := fun b o n e => k b o (fun m => by
  rcases h b m with q | q
  · exact n q
  · rw [q] at e; cases e) e
theorem Keep.cat {S S' : List Addr} {H H1 H2 : Hp} (a : Keep S H H1) (b : Keep S' H1 H2) : Keep (S ++ S') H H2 := fun c o n h => b c o (fun m => n (List.mem_append_right _ m)) (a c o (fun m => n (List.mem_append_left _ m)) h)
theorem Keep.free {S : List Addr} {H H' : Hp} {l : Addr} (k : Keep S H H') (h : H' l = none) (n : l ∉ S) : H l = none := by
  cases e : H l with
  | none => rfl
  | some o => rw [k l o n e] at h; cases h
theorem Keep.sm {H H' : Hp} (k : Same H H') : Keep [] H H' := .of_same k
theorem Keep.at1 {H : Hp} {a : Addr} {o : HO} : Keep [a] H (L2.upd H a o) := .upd (by simp)
/-- the list at D: data of acc -/
def Acc {α : Type} (D : Addr) (f : α → PyData) (acc : List α) (H : Hp) : Prop := ∃ vs : List V, H D = some (.lst vs) ∧ LayAll H vs (acc.map f)
theorem Acc.nil {α : Type} {D : Addr} {f : α → PyData} {H : Hp} : Acc D f [] (upd H D (.lst [])) := ⟨[], upd_same, .nil⟩
theorem Acc.keep {α : Type} {D : Addr} {f : α → PyData} {acc : List α} {S : List Addr} {H H' : Hp} (h : Acc D f acc H) (k : Keep S H H') (t : KeepT H H') (n : D ∉ S) : Acc D f acc H' := let ⟨vs, a, b⟩ := h; ⟨vs, k _ _ n a, b.keep' t⟩
theorem Acc.same {α : Type} {D : Addr} {f : α → PyData} {acc : List α} {H H' : Hp} (h : Acc D f acc H) (k : Same H H') : Acc D f acc H' := let ⟨vs, a, b⟩ := h; ⟨vs, k _ _ a, b.keep' (.same k)⟩
theorem Acc.push {α : Type} {D : Addr} {f : α → PyData} {acc : List α} {H : Hp} {y : V} {x : α} (h : Acc D f acc H) (l : Lay H y (f x)) (n : acc.length ≤ 1000) :
    ∃ vs, H D = some (.lst vs) ∧ vs.length < sizeLine ∧ Acc D f (acc ++ [x]) (upd H D (.lst (vs ++ [y]))) ∧ KeepT H (upd H D (.lst (vs ++ [y]))) := by
  obtain ⟨vs, a, b⟩ := h
  have e := b.len
  rw [List.length_map] at e
  have kt : KeepT H (upd H D (.lst (vs ++ [y]))) := .lst a
  refine ⟨vs, a, by rw [e]; exact small1000 n, ⟨_, upd_same, ?_⟩, kt⟩
  rw [List.map_append]
  exact (b.snoc l).keep' kt
theorem Acc.at_ {α : Type} {D : Addr} {f : α → PyData} {acc : List α} {H : Hp} (h : Acc D f acc H) : ∃ l, H D = some (.lst l) := let ⟨vs, a, _⟩ := h; ⟨vs, a⟩
def spNet : Sp := fun vs H Q _ => ∃ (d c : Addr) (a b m o k : Nat), vs = [.ref d, vI a, vI b, vI m, vI o, vI k] ∧ DS H d c ∧ a + b + o + k ≤ 61 ∧ m ≤ 100 ∧
  ∀ (v : V) (N : Net) (H' : Hp), Lay H' v (netD N) → N.Right → N.ins.length = a → N.regs.length = b → N.ands.length = m → N.outs.length = o → N.cls.length = k → DS H' d c → Keep [d] H H' → Q v H'
section
variable {P : Program} {w : World} {K : PySem.W.Frag} {mg : Str → Option Value} {base : Heap} {f : Addr} {fd : FuncData}
theorem ok_net (F : Fun K "_law_net" "_law_net" s_law_net f fd) (T : Txt mg) (D_law_draw : Dn P w K mg base "_law_draw" ["_law_d", "_law_many"] 1 spDraw) (D_law_pop : Dn P w K mg base "_law_pop" ["_law_d", "_law_row"] 2 spPop)
    (D_law_pool : Dn P w K mg base "_law_pool" [] 1 spPool) (D_law_drawn_literal : Dn P w K mg base "_law_drawn_literal" ["_law_d", "_law_size"] 2 spLit) :
    FnOk P w K mg base CX0 3 f fd ["_law_d", "_law_inputs", "_law_regs", "_law_ands", "_law_outputs", "_law_claims"] spNet := by
  refine F.ok sc_law_net (fun vs H Q E h => ?_) (fun cdv A outer s H vs Q E hr h => ?_)
  · obtain ⟨d, c, a, b, m, o, k, rfl, _⟩ := h
    rfl
  obtain ⟨d, c, a, b, m, o, k, rfl, hd, h61, h100, q⟩ := h
  refine ⟨_, (pss_cons (ps_set (i := 6) sc_law_net.nd rfl (Or.inr rfl) (pe_dn0 D_law_pool (hr.mono (by omega)) (by rfl)))
      (pss_cons (ps_set (i := 7) sc_law_net.nd rfl (Or.inr rfl) (pe_op op_add (pe_op op_add pe_int (pv 1)) (pv 2)))
      (pss_cons (ps_setLc (i := 8) (own := [("_law_k", 14)]) (g := (gName 14)) (tt := tYes) rfl sc_law_net.nd rfl rfl (sw_true rfl rfl rfl (by decide +kernel)) (pi_range1 rfl T.n_range (pa_cons (pv 3) pa_nil)) (blkOk_by (N := ["_law_d", "_law_inputs", "_law_regs", "_law_ands", "_law_outputs", "_law_claims", "_law_names", "_law_first", "_law_pairs", "_law_size", "_law_given", "_law_rows", "_law_shown", "_law_asked", "_law_k"]) (sc := defScope s_law_net) (by decide +kernel)) (fun _ _ _ _ _ => (pg_name (i := 14) sc_law_net.nd rfl (Or.inl rfl))) (fun _ _ _ _ _ => pts_nil) (fun _ _ _ _ _ => (pe_tup (pa_cons (pe_dn D_law_drawn_literal (hr.mono (by omega)) (by rfl) (pa_cons (pv 0) (pa_cons (pe_op op_add (pv 7) (pv 14)) pa_nil))) (pa_cons (pe_dn D_law_drawn_literal (hr.mono (by omega)) (by rfl) (pa_cons (pv 0) (pa_cons (pe_op op_add (pv 7) (pv 14)) pa_nil))) pa_nil)))))
      (pss_cons (ps_set (i := 9) sc_law_net.nd rfl (Or.inr rfl) (pe_op op_add (pv 7) (pv 3)))
      (pss_cons (ps_set (i := 10) sc_law_net.nd rfl (Or.inl rfl) (pe_callTy call_tuple_of (by rfl) T.n_tuple (by decide +kernel) (pa_cons (pe_lc (own := [("_law_k", 14)]) (g := (gName 14)) (tt := tYes) rfl sc_law_net.nd (pi_range1 rfl T.n_range (pa_cons (pv 1) pa_nil)) (blkOk_by (N := ["_law_d", "_law_inputs", "_law_regs", "_law_ands", "_law_outputs", "_law_claims", "_law_names", "_law_first", "_law_pairs", "_law_size", "_law_given", "_law_rows", "_law_shown", "_law_asked", "_law_k"]) (sc := defScope s_law_net) (by decide +kernel)) (fun _ _ _ _ _ => (pg_name (i := 14) sc_law_net.nd rfl (Or.inl rfl))) (fun _ _ _ _ _ => pts_nil) (fun _ _ _ _ _ => (pe_dn D_law_pop (hr.mono (by omega)) (by rfl) (pa_cons (pv 0) (pa_cons (pv 6) pa_nil))))) pa_nil)))
      (pss_cons (ps_setLc (i := 11) (own := [("_law_k", 14)]) (g := (gName 14)) (tt := tYes) rfl sc_law_net.nd rfl rfl (sw_true rfl rfl rfl (by decide +kernel)) (pi_range1 rfl T.n_range (pa_cons (pv 2) pa_nil)) (blkOk_by (N := ["_law_d", "_law_inputs", "_law_regs", "_law_ands", "_law_outputs", "_law_claims", "_law_names", "_law_first", "_law_pairs", "_law_size", "_law_given", "_law_rows", "_law_shown", "_law_asked", "_law_k"]) (sc := defScope s_law_net) (by decide +kernel)) (fun _ _ _ _ _ => (pg_name (i := 14) sc_law_net.nd rfl (Or.inl rfl))) (fun _ _ _ _ _ => pts_nil) (fun _ _ _ _ _ => (pe_tup (pa_cons (pe_dn D_law_pop (hr.mono (by omega)) (by rfl) (pa_cons (pv 0) (pa_cons (pv 6) pa_nil))) (pa_cons (pe_dn D_law_draw (hr.mono (by omega)) (by rfl) (pa_cons (pv 0) (pa_cons pe_int pa_nil))) (pa_cons (pe_dn D_law_drawn_literal (hr.mono (by omega)) (by rfl) (pa_cons (pv 0) (pa_cons (pv 9) pa_nil))) pa_nil))))))
      (pss_cons (ps_setLc (i := 12) (own := [("_law_k", 14)]) (g := (gName 14)) (tt := tYes) rfl sc_law_net.nd rfl rfl (sw_true rfl rfl rfl (by decide +kernel)) (pi_range1 rfl T.n_range (pa_cons (pv 4) pa_nil)) (blkOk_by (N := ["_law_d", "_law_inputs", "_law_regs", "_law_ands", "_law_outputs", "_law_claims", "_law_names", "_law_first", "_law_pairs", "_law_size", "_law_given", "_law_rows", "_law_shown", "_law_asked", "_law_k"]) (sc := defScope s_law_net) (by decide +kernel)) (fun _ _ _ _ _ => (pg_name (i := 14) sc_law_net.nd rfl (Or.inl rfl))) (fun _ _ _ _ _ => pts_nil) (fun _ _ _ _ _ => (pe_tup (pa_cons (pe_dn D_law_pop (hr.mono (by omega)) (by rfl) (pa_cons (pv 0) (pa_cons (pv 6) pa_nil))) (pa_cons (pe_dn D_law_drawn_literal (hr.mono (by omega)) (by rfl) (pa_cons (pv 0) (pa_cons (pv 9) pa_nil))) pa_nil)))))
      (pss_cons (ps_setLc (i := 13) (own := [("_law_k", 14)]) (g := (gName 14)) (tt := tYes) rfl sc_law_net.nd rfl rfl (sw_true rfl rfl rfl (by decide +kernel)) (pi_range1 rfl T.n_range (pa_cons (pv 5) pa_nil)) (blkOk_by (N := ["_law_d", "_law_inputs", "_law_regs", "_law_ands", "_law_outputs", "_law_claims", "_law_names", "_law_first", "_law_pairs", "_law_size", "_law_given", "_law_rows", "_law_shown", "_law_asked", "_law_k"]) (sc := defScope s_law_net) (by decide +kernel)) (fun _ _ _ _ _ => (pg_name (i := 14) sc_law_net.nd rfl (Or.inl rfl))) (fun _ _ _ _ _ => pts_nil) (fun _ _ _ _ _ => (pe_tup (pa_cons (pe_dn D_law_pop (hr.mono (by omega)) (by rfl) (pa_cons (pv 0) (pa_cons (pv 6) pa_nil))) (pa_cons (pe_dn D_law_drawn_literal (hr.mono (by omega)) (by rfl) (pa_cons (pv 0) (pa_cons (pv 9) pa_nil))) pa_nil)))))
      (pss_one (ps_ret (pe_tup (pa_cons pe_str (pa_cons (pv 10) (pa_cons (pe_callTy call_tuple_of (by rfl) T.n_tuple (by decide +kernel) (pa_cons (pv 11) pa_nil)) (pa_cons (pe_callTy call_tuple_of (by rfl) T.n_tuple (by decide +kernel) (pa_cons (pv 8) pa_nil)) (pa_cons (pe_callTy call_tuple_of (by rfl) T.n_tuple (by decide +kernel) (pa_cons (pv 12) pa_nil)) (pa_cons (pe_callTy call_tuple_of (by rfl) T.n_tuple (by decide +kernel) (pa_cons (pv 13) pa_nil)) pa_nil))))))))))))))))), ?_⟩
  refine ⟨rfl, fun pn xs hpn hx => ?_⟩
  have hd1 := hd.same (same_new hpn (.lst (xs.map V.str)))
  obtain ⟨nnd, nnc⟩ := hd.new hpn
  have hn1 : Nms (upd H pn (.lst (xs.map V.str))) pn 61 := ⟨_, upd_same, fun v hv => (let ⟨z, _, e⟩ := List.mem_map.mp hv; ⟨z, e.symm⟩), by rw [List.length_map, hx]⟩
  have k1 : Keep [d] H (upd H pn (.lst (xs.map V.str))) := Keep.new hpn
  generalize upd H pn (.lst (xs.map V.str)) = H1 at hd1 hn1 k1 ⊢
  refine ⟨_, rfl, _, _, rfl, rfl, _, rfl, _, _, rfl, rfl, ?_⟩
  -- the ands
  refine ⟨_, rfl, (m : Int), rfl, (i62 (by omega)).1, (i62 (by omega)).2, fun D1 hD1 => ?_⟩
  obtain ⟨nDd, nDc⟩ := hd1.new hD1
  have nDn : D1 ≠ pn := let ⟨x, e, _⟩ := hn1; (ne_of_none e hD1).symm
  refine lc_range (lo := 0) (n := m) (fun i H' => ∃ acc : List (Nat × Nat), Acc D1 pairD acc H' ∧ acc.length = i ∧ (∀ j p, acc[j]? = some p → p.1 < 2 * (1 + a + b + j) ∧ p.2 < 2 * (1 + a + b + j)) ∧ DS H' d c ∧ Nms H' pn 61 ∧ Keep [d] H H')
    ⟨[], .nil, rfl, fun j p e => by simp at e, hd1.same (same_new hD1 _), hn1.same (same_new hD1 _), k1.trans (Keep.new hD1)⟩ (fun i H2 hi p => ?_) (fun H2 p => ?_)
  · obtain ⟨acc, hA, hl, hb, hd2, hn2, k2⟩ := p
    have hi : i < m := hi
    refine ⟨rfl, _, rfl, _, rfl, _, rfl, _, _, rfl, rfl, d, c, _, 1 + a + b + i, rfl, by omega, hd2, by omega, by omega, fun l1 H3 hl1 hd3 k3 => ?_⟩
    refine ⟨_, rfl, _, rfl, _, rfl, _, _, rfl, rfl, d, c, _, 1 + a + b + i, rfl, by omega, hd3, by omega, by omega, fun l2 H4 hl2 hd4 k4 => ?_⟩
    refine ⟨(by show 2 ≤ sizeLine; decide), fun t ht => ?_⟩
    have st := same_new ht (.tup [vI l1, vI l2])
    have hA5 := ((hA.keep k3 (k3.tup1 hd2) (by simp [nDd])).keep k4 (k4.tup1 hd3) (by simp [nDd])).same st
    have hn5 := ((hn2.keep k3 (by simp [nnd])).keep k4 (by simp [nnd])).same st
    obtain ⟨vs, e, hlen, hA6, _⟩ := hA5.push (x := (l1, l2)) (.mkPair upd_same) (by omega)
    refine ⟨vs, e, hlen, acc ++ [(l1, l2)], hA6, by rw [List.length_append, hl]; rfl, fun j p hp => ?_, ?_, ?_, ?_⟩
    · by_cases hj : j < acc.length
      · rw [List.getElem?_append_left hj] at hp
        exact hb j p hp
      · rw [List.getElem?_append_right (by omega)] at hp
        have hj0 : j - acc.length = 0 := by
          cases z : j - acc.length with
          | zero => rfl
          | succ n => rw [z] at hp; simp at hp
        rw [hj0] at hp
        obtain rfl : (l1, l2) = p := Option.some.inj hp
        exact ⟨by show l1 < _; omega, by show l2 < _; omega⟩
    · exact (hd4.same st).keep (S := [D1]) (Keep.upd (by simp)) (by simp [nDd.symm]) (by simp [nDc.symm])
    · exact hn5.keep (S := [D1]) (Keep.upd (by simp)) (by simp [nDn.symm])
    · exact ((((k2.cat k3).cat k4).cat (.sm st)).cat .at1).thin (by simp [k1.free hD1 (by simp [nDd])])
  obtain ⟨an, hA, hal, hab, hd2, hn2, k2⟩ := p
  clear hd1 hn1 k1
  refine ⟨_, rfl, _, rfl, _, _, rfl, rfl, ?_⟩
  -- the inputs
  refine ⟨_, rfl, (a : Int), rfl, (i62 (by omega)).1, (i62 (by omega)).2, fun D2 hD2 => ?_⟩
  obtain ⟨n2d, n2c⟩ := hd2.new hD2
  have n2n : D2 ≠ pn := let ⟨x, e, _⟩ := hn2; (ne_of_none e hD2).symm
  have n21 : D2 ≠ D1 := let ⟨x, e⟩ := hA.at_; (ne_of_none e hD2).symm
  have f2 : H D2 = none := k2.free hD2 (by simp [n2d])
  refine lc_range (lo := 0) (n := a) (fun i H' => ∃ acc : List Str, Acc D2 PyData.str acc H' ∧ acc.length = i ∧ DS H' d c ∧ Nms H' pn (61 - i) ∧ Acc D1 pairD an H' ∧ Keep [d] H H')
    ⟨[], .nil, rfl, hd2.same (same_new hD2 _), hn2.same (same_new hD2 _), hA.same (same_new hD2 _), k2.trans (Keep.new hD2)⟩ (fun i H3 hi p => ?_) (fun H3 p => ?_)
  · obtain ⟨acc, hB, hl, hd3, hn3, hA3, k3⟩ := p
    have hi : i < a := hi
    obtain ⟨names, hn, hz, h61'⟩ := hn3
    refine ⟨rfl, _, rfl, _, rfl, d, c, pn, names, rfl, hd3, hn, nnd, nnc, by omega, by omega, fun j y H4 hy hd4 hn4 k4 => ?_⟩
    obtain ⟨z, rfl⟩ := hz y (List.mem_of_getElem? hy)
    have t4 := k4.tup2 hd3 hn
    have hB4 := hB.keep k4 t4 (by simp [n2d, n2n])
    obtain ⟨vs, e, hlen, hB5, t5⟩ := hB4.push (x := z) (.str z) (by omega)
    refine ⟨vs, e, hlen, acc ++ [z], hB5, by rw [List.length_append, hl]; rfl, hd4.keep (S := [D2]) Keep.at1 (by simp [n2d.symm]) (by simp [n2c.symm]), ⟨names.eraseIdx j, ?_, fun v hv => hz v (List.mem_of_mem_eraseIdx hv), ?_⟩, ?_, ?_⟩
    · rw [upd_ne n2n.symm]; exact hn4
    · rw [List.length_eraseIdx, if_pos (List.getElem?_eq_some_iff.mp hy).1]; omega
    · exact (hA3.keep k4 t4 (by simp [nDd, nDn])).keep Keep.at1 t5 (by simp [n21.symm])
    · exact ((k3.cat k4).cat .at1).thin (by simp [hpn, f2])
  -- behind the inputs
  obtain ⟨is, ⟨vs, hB, lB⟩, hil, hdS, hnS, hAS, kS⟩ := p
  obtain rfl := lB.strs_inv
  refine ⟨D2, _, rfl, .inl ⟨SqL.of hB, fun pi hpi => ?_⟩⟩
  have st := same_new hpi (.tup (is.map V.str))
  have hP : upd H3 pi (.tup (is.map V.str)) pi = some (.tup (is.map V.str)) := upd_same
  replace hdS := hdS.same st
  replace hnS := hnS.same st
  replace hAS := hAS.same st
  replace kS : Keep [d] H (upd H3 pi (.tup (is.map V.str))) := kS.trans (.of_same st)
  generalize upd H3 pi (.tup (is.map V.str)) = Ht at hP hdS hnS hAS kS ⊢
  have ktS : KeepT Ht Ht := .refl _
  have m1 : D1 ∉ [d, pn] := by simp [nDd, nDn]
  clear hB lB hpi st hd2 hn2 hA k2 hD2 hD1
  -- the regs
  refine ⟨_, rfl, (b : Int), rfl, (i62 (by omega)).1, (i62 (by omega)).2, fun D3 hD => ?_⟩
  obtain ⟨ndD3, ncD3⟩ := hdS.new hD
  have nnD3 : D3 ≠ pn := let ⟨x, e, _⟩ := hnS; (ne_of_none e hD).symm
  have nD3D1 : D3 ≠ D1 := let ⟨x, e⟩ := hAS.at_; (ne_of_none e hD).symm
  have fD3 : H D3 = none := kS.free hD (by simp [ndD3])
  refine lc_range (lo := 0) (n := b) (fun i H' => ∃ acc : List (Str × Nat × Nat), Acc D3 regD acc H' ∧ acc.length = i ∧ (∀ r ∈ acc, r.2.1 < 2 ∧ r.2.2 < 2 * (1 + a + b + m)) ∧ DS H' d c ∧ Nms H' pn (61 - (a) - i) ∧ KeepT Ht H' ∧ Keep [d] H H' ∧ Acc D1 pairD an H')
    ⟨[], .nil, rfl, fun r hr => by simp at hr, hdS.same (same_new hD _), (hnS.same (same_new hD _)).cast (by omega), ktS.trans (.new hD), kS.trans (Keep.new hD), hAS.same (same_new hD _)⟩ (fun i H3 hi p => ?_) (fun H3 p => ?_)
  · obtain ⟨acc, hB, hl, hg, hd3, ⟨names, hn, hz, h61'⟩, kt3, k3, hAS3⟩ := p
    have hi : i < b := hi
    refine ⟨rfl, _, rfl, _, rfl, d, c, pn, names, rfl, hd3, hn, nnd, nnc, by omega, by omega, fun j y H4 hy hd4 hn4 k4 => ?_⟩
    obtain ⟨z, rfl⟩ := hz y (List.mem_of_getElem? hy)
    have t4 := k4.tup2 hd3 hn
    refine ⟨_, rfl, d, c, 2, rfl, hd4, by decide, by decide, fun r H5 r0 r1 hd5 k5 => ?_⟩
    obtain ⟨u, rfl⟩ := Int.eq_ofNat_of_zero_le r0
    have t5 := k5.tup1 hd4
    refine ⟨_, rfl, _, rfl, d, c, _, 1 + a + b + m, rfl, by omega, hd5, by omega, by omega, fun l H6 hl6 hd6 k6 => ?_⟩
    have t6 := k6.tup1 hd5
    refine ⟨(by show 3 ≤ sizeLine; decide), fun t ht => ?_⟩
    have st := same_new ht (.tup [.str z, vI u, vI l])
    have kc : Keep [d, pn] H3 (upd H6 t (.tup [.str z, vI u, vI l])) := (((k4.cat k5).cat k6).cat (.sm st)).wide (by simp)
    have tc : KeepT H3 (upd H6 t (.tup [.str z, vI u, vI l])) := ((t4.trans t5).trans t6).trans (.same st)
    have hn6 : (upd H6 t (.tup [.str z, vI u, vI l])) pn = some (.lst (names.eraseIdx j)) := st _ _ (k6 _ _ (by simp [nnd]) (k5 _ _ (by simp [nnd]) hn4))
    obtain ⟨vs, e, hlen, hB7, t7⟩ := (hB.keep kc tc (by simp [ndD3, nnD3])).push (x := (z, u, l)) (.mkReg upd_same) (by omega)
    refine ⟨vs, e, hlen, acc ++ [(z, u, l)], hB7, by rw [List.length_append, hl]; rfl, fun r hr => ?_, (hd6.same st).keep (S := [D3]) Keep.at1 (by simp [ndD3.symm]) (by simp [ncD3.symm]), ⟨names.eraseIdx j, ?_, fun v hv => hz v (List.mem_of_mem_eraseIdx hv), ?_⟩, (kt3.trans tc).trans t7, ((k3.cat kc).cat .at1).thin (by simp [hpn, fD3]), (hAS3.keep kc tc (by simp [*])).keep Keep.at1 t7 (by simp [nD3D1.symm])⟩
    · rcases List.mem_append.mp hr with q | q
      · exact hg r q
      · rw [List.mem_singleton.mp q]
        exact ⟨by show u < 2; omega, hl6⟩
    · rw [upd_ne nnD3.symm]; exact hn6
    · rw [List.length_eraseIdx, if_pos (List.getElem?_eq_some_iff.mp hy).1]; omega
  obtain ⟨rs, hRS, hrl, hrg, hdS, hnS, ktS, kS, hAS⟩ := p
  -- the outs
  refine ⟨_, rfl, (o : Int), rfl, (i62 (by omega)).1, (i62 (by omega)).2, fun D4 hD => ?_⟩
  obtain ⟨ndD4, ncD4⟩ := hdS.new hD
  have nnD4 : D4 ≠ pn := let ⟨x, e, _⟩ := hnS; (ne_of_none e hD).symm
  have nD4D1 : D4 ≠ D1 := let ⟨x, e⟩ := hAS.at_; (ne_of_none e hD).symm
  have nD4D3 : D4 ≠ D3 := let ⟨x, e⟩ := hRS.at_; (ne_of_none e hD).symm
  have fD4 : H D4 = none := kS.free hD (by simp [ndD4])
  refine lc_range (lo := 0) (n := o) (fun i H' => ∃ acc : List (Str × Nat), Acc D4 namD acc H' ∧ acc.length = i ∧ (∀ r ∈ acc, r.2 < 2 * (1 + a + b + m)) ∧ DS H' d c ∧ Nms H' pn (61 - (a + b) - i) ∧ KeepT Ht H' ∧ Keep [d] H H' ∧ Acc D1 pairD an H' ∧ Acc D3 regD rs H')
    ⟨[], .nil, rfl, fun r hr => by simp at hr, hdS.same (same_new hD _), (hnS.same (same_new hD _)).cast (by omega), ktS.trans (.new hD), kS.trans (Keep.new hD), hAS.same (same_new hD _), hRS.same (same_new hD _)⟩ (fun i H3 hi p => ?_) (fun H3 p => ?_)
  · obtain ⟨acc, hB, hl, hg, hd3, ⟨names, hn, hz, h61'⟩, kt3, k3, hAS3, hRS3⟩ := p
    have hi : i < o := hi
    refine ⟨rfl, _, rfl, _, rfl, d, c, pn, names, rfl, hd3, hn, nnd, nnc, by omega, by omega, fun j y H4 hy hd4 hn4 k4 => ?_⟩
    obtain ⟨z, rfl⟩ := hz y (List.mem_of_getElem? hy)
    have t4 := k4.tup2 hd3 hn
    refine ⟨_, rfl, _, rfl, d, c, _, 1 + a + b + m, rfl, by omega, hd4, by omega, by omega, fun l H6 hl6 hd6 k6 => ?_⟩
    have t6 := k6.tup1 hd4
    refine ⟨(by show 2 ≤ sizeLine; decide), fun t ht => ?_⟩
    have st := same_new ht (.tup [.str z, vI l])
    have kc : Keep [d, pn] H3 (upd H6 t (.tup [.str z, vI l])) := ((k4.cat k6).cat (.sm st)).wide (by simp)
    have tc : KeepT H3 (upd H6 t (.tup [.str z, vI l])) := (t4.trans t6).trans (.same st)
    have hn6 : (upd H6 t (.tup [.str z, vI l])) pn = some (.lst (names.eraseIdx j)) := st _ _ (k6 _ _ (by simp [nnd]) hn4)
    obtain ⟨vs, e, hlen, hB7, t7⟩ := (hB.keep kc tc (by simp [ndD4, nnD4])).push (x := (z, l)) (.mkNam upd_same) (by omega)
    refine ⟨vs, e, hlen, acc ++ [(z, l)], hB7, by rw [List.length_append, hl]; rfl, fun r hr => ?_, (hd6.same st).keep (S := [D4]) Keep.at1 (by simp [ndD4.symm]) (by simp [ncD4.symm]), ⟨names.eraseIdx j, ?_, fun v hv => hz v (List.mem_of_mem_eraseIdx hv), ?_⟩, (kt3.trans tc).trans t7, ((k3.cat kc).cat .at1).thin (by simp [hpn, fD4]), (hAS3.keep kc tc (by simp [*])).keep Keep.at1 t7 (by simp [nD4D1.symm]), (hRS3.keep kc tc (by simp [*])).keep Keep.at1 t7 (by simp [nD4D3.symm])⟩
    · rcases List.mem_append.mp hr with q | q
      · exact hg r q
      · rw [List.mem_singleton.mp q]
        exact hl6
    · rw [upd_ne nnD4.symm]; exact hn6
    · rw [List.length_eraseIdx, if_pos (List.getElem?_eq_some_iff.mp hy).1]; omega
  obtain ⟨os, hOS, hol, hog, hdS, hnS, ktS, kS, hAS, hRS⟩ := p
  -- the cls
  refine ⟨_, rfl, (k : Int), rfl, (i62 (by omega)).1, (i62 (by omega)).2, fun D5 hD => ?_⟩
  obtain ⟨ndD5, ncD5⟩ := hdS.new hD
  have nnD5 : D5 ≠ pn := let ⟨x, e, _⟩ := hnS; (ne_of_none e hD).symm
  have nD5D1 : D5 ≠ D1 := let ⟨x, e⟩ := hAS.at_; (ne_of_none e hD).symm
  have nD5D3 : D5 ≠ D3 := let ⟨x, e⟩ := hRS.at_; (ne_of_none e hD).symm
  have nD5D4 : D5 ≠ D4 := let ⟨x, e⟩ := hOS.at_; (ne_of_none e hD).symm
  have fD5 : H D5 = none := kS.free hD (by simp [ndD5])
  refine lc_range (lo := 0) (n := k) (fun i H' => ∃ acc : List (Str × Nat), Acc D5 namD acc H' ∧ acc.length = i ∧ (∀ r ∈ acc, r.2 < 2 * (1 + a + b + m)) ∧ DS H' d c ∧ Nms H' pn (61 - (a + b + o) - i) ∧ KeepT Ht H' ∧ Keep [d] H H' ∧ Acc D1 pairD an H' ∧ Acc D3 regD rs H' ∧ Acc D4 namD os H')
    ⟨[], .nil, rfl, fun r hr => by simp at hr, hdS.same (same_new hD _), (hnS.same (same_new hD _)).cast (by omega), ktS.trans (.new hD), kS.trans (Keep.new hD), hAS.same (same_new hD _), hRS.same (same_new hD _), hOS.same (same_new hD _)⟩ (fun i H3 hi p => ?_) (fun H3 p => ?_)
  · obtain ⟨acc, hB, hl, hg, hd3, ⟨names, hn, hz, h61'⟩, kt3, k3, hAS3, hRS3, hOS3⟩ := p
    have hi : i < k := hi
    refine ⟨rfl, _, rfl, _, rfl, d, c, pn, names, rfl, hd3, hn, nnd, nnc, by omega, by omega, fun j y H4 hy hd4 hn4 k4 => ?_⟩
    obtain ⟨z, rfl⟩ := hz y (List.mem_of_getElem? hy)
    have t4 := k4.tup2 hd3 hn
    refine ⟨_, rfl, _, rfl, d, c, _, 1 + a + b + m, rfl, by omega, hd4, by omega, by omega, fun l H6 hl6 hd6 k6 => ?_⟩
    have t6 := k6.tup1 hd4
    refine ⟨(by show 2 ≤ sizeLine; decide), fun t ht => ?_⟩
    have st := same_new ht (.tup [.str z, vI l])
    have kc : Keep [d, pn] H3 (upd H6 t (.tup [.str z, vI l])) := ((k4.cat k6).cat (.sm st)).wide (by simp)
    have tc : KeepT H3 (upd H6 t (.tup [.str z, vI l])) := (t4.trans t6).trans (.same st)
    have hn6 : (upd H6 t (.tup [.str z, vI l])) pn = some (.lst (names.eraseIdx j)) := st _ _ (k6 _ _ (by simp [nnd]) hn4)
    obtain ⟨vs, e, hlen, hB7, t7⟩ := (hB.keep kc tc (by simp [ndD5, nnD5])).push (x := (z, l)) (.mkNam upd_same) (by omega)
    refine ⟨vs, e, hlen, acc ++ [(z, l)], hB7, by rw [List.length_append, hl]; rfl, fun r hr => ?_, (hd6.same st).keep (S := [D5]) Keep.at1 (by simp [ndD5.symm]) (by simp [ncD5.symm]), ⟨names.eraseIdx j, ?_, fun v hv => hz v (List.mem_of_mem_eraseIdx hv), ?_⟩, (kt3.trans tc).trans t7, ((k3.cat kc).cat .at1).thin (by simp [hpn, fD5]), (hAS3.keep kc tc (by simp [*])).keep Keep.at1 t7 (by simp [nD5D1.symm]), (hRS3.keep kc tc (by simp [*])).keep Keep.at1 t7 (by simp [nD5D3.symm]), (hOS3.keep kc tc (by simp [*])).keep Keep.at1 t7 (by simp [nD5D4.symm])⟩
    · rcases List.mem_append.mp hr with q | q
      · exact hg r q
      · rw [List.mem_singleton.mp q]
        exact hl6
    · rw [upd_ne nnD5.symm]; exact hn6
    · rw [List.length_eraseIdx, if_pos (List.getElem?_eq_some_iff.mp hy).1]; omega
  obtain ⟨cs, hCS, hcl, hcg, hdS, hnS, ktS, kS, hAS, hRS, hOS⟩ := p
  obtain ⟨va, ea, la⟩ := hAS
  obtain ⟨vr, er, lr⟩ := hRS
  obtain ⟨vo, eo, lo⟩ := hOS
  obtain ⟨vc, ec, lc⟩ := hCS
  refine ⟨_, rfl, _, rfl, D3, _, rfl, .inl ⟨SqL.of er, fun pr hpr => ?_⟩⟩
  have s1 := same_new hpr (.tup vr)
  refine ⟨_, rfl, D1, _, rfl, .inl ⟨SqL.of (s1 _ _ ea), fun pa hpa => ?_⟩⟩
  have s2 := s1.trans (same_new hpa (.tup va))
  refine ⟨_, rfl, D4, _, rfl, .inl ⟨SqL.of (s2 _ _ eo), fun po hpo => ?_⟩⟩
  have s3 := s2.trans (same_new hpo (.tup vo))
  refine ⟨_, rfl, D5, _, rfl, .inl ⟨SqL.of (s3 _ _ ec), fun pc hpc => ?_⟩⟩
  have s4 := s3.trans (same_new hpc (.tup vc))
  refine ⟨(by show 6 ≤ sizeLine; decide), fun p hp => ?_⟩
  have s5 := s4.trans (same_new hp (.tup [.str "net", .ref pi, .ref pr, .ref pa, .ref po, .ref pc]))
  have g1 := same_new hpa (.tup va)
  have g2 := same_new hpo (.tup vo)
  have g3 := same_new hpc (.tup vc)
  have g4 := same_new hp (.tup [.str "net", .ref pi, .ref pr, .ref pa, .ref po, .ref pc])
  have hN : NetAt _ p pi pr pa po pc vr va vo vc ⟨is, rs, an, os, cs⟩ := ⟨upd_same, s5 _ _ (ktS _ _ hP), g4 _ _ (g3 _ _ (g2 _ _ (g1 _ _ upd_same))), lr.keep' (.same s5), g4 _ _ (g3 _ _ (g2 _ _ upd_same)), la.keep' (.same s5), g4 _ _ (g3 _ _ upd_same), lo.keep' (.same s5), g4 _ _ upd_same, lc.keep' (.same s5)⟩
  have e1 : (Net.mk is rs an os cs).first = 1 + a + b := by
    show 1 + is.length + rs.length = _
    rw [hil, hrl]
  have e2 : (Net.mk is rs an os cs).size = 1 + a + b + m := by
    show (Net.mk is rs an os cs).first + an.length = _
    rw [e1, hal]
  exact q _ ⟨is, rs, an, os, cs⟩ _ hN.lay ⟨fun r hr => by rw [e2]; exact hrg r hr, fun i p h => by rw [e1]; exact hab i p h, fun r hr => by rw [e2]; exact hog r hr, fun r hr => by rw [e2]; exact hcg r hr⟩ hil hrl hal hol hcl (hdS.same s5) (kS.trans (.of_same s5))
end

end Bf

set_option Elab.async false
set_option linter.all false
set_option maxRecDepth 100000
set_option maxHeartbeats 4000000
namespace Bf
open PySem
/-! ### tidy nets -/
def litN (news : List Nat) (l : Nat) : Nat := news.getD (l / 2) 0 ^^^ (l % 2)
def tyStep (first : Nat) (s : List Nat × List (Nat × Nat)) (p : Nat × Nat) : List Nat × List (Nat × Nat) :=
  let x := litN s.1 p.1
  let y := litN s.1 p.2
  let lo := min x y
  let hi := max x y
  if lo = 0 ∨ lo ^^^ 1 = hi then (s.1 ++ [0], s.2) else if lo = 1 ∨ lo = hi then (s.1 ++ [hi], s.2)
  else if (lo, hi) ∈ s.2 then (s.1 ++ [2 * (first + s.2.idxOf (lo, hi))], s.2) else (s.1 ++ [2 * (first + s.2.length)], s.2 ++ [(lo, hi)])
def evens (n : Nat) : List Nat := (List.range n).map (2 * ·)
def tyTo (first : Nat) (ands : List (Nat × Nat)) (i : Nat) : List Nat × List (Nat × Nat) := (ands.take i).foldl (tyStep first) (evens first, [])
def markAll (l : List Nat) (ends : List Nat) : List Nat := ends.foldl (fun l e => l.set (e / 2) 1) l
def needStep (first : Nat) (pairs : List (Nat × Nat)) (l : List Nat) (k : Nat) : List Nat :=
  if l.getD (first + k) 0 = 1 then (l.set ((pairs.getD k (0, 0)).1 / 2) 1).set ((pairs.getD k (0, 0)).2 / 2) 1 else l
def needTo (first : Nat) (pairs : List (Nat × Nat)) (l : List Nat) : Nat → List Nat
  | 0 => l
  | t + 1 => needStep first pairs (needTo first pairs l t) (pairs.length - 1 - t)
def keepTo (first : Nat) (need : List Nat) (pairs : List (Nat × Nat)) : Nat → List Nat × List (Nat × Nat)
  | 0 => (evens first, [])
  | k + 1 =>
    let s := keepTo first need pairs k
    let news := s.1 ++ [2 * (first + s.2.length)]
    if need.getD (first + k) 0 = 1 then (news, s.2 ++ [(litN news (pairs.getD k (0, 0)).1, litN news (pairs.getD k (0, 0)).2)]) else (news, s.2)
def mapR (news : List Nat) (r : Str × Nat × Nat) : Str × Nat × Nat := (r.1, r.2.1, litN news r.2.2)
def mapN (news : List Nat) (r : Str × Nat) : Str × Nat := (r.1, litN news r.2)
def endsL (rows : List (Str × Nat × Nat)) (shown asked : List (Str × Nat)) : List Nat := rows.map (fun r => r.2.2) ++ shown.map (fun r => r.2) ++ asked.map fun r => r.2
def needL (first : Nat) (rows : List (Str × Nat × Nat)) (pairs : List (Nat × Nat)) (shown asked : List (Str × Nat)) : List Nat := needTo first pairs (markAll (List.replicate (first + pairs.length) 0) (endsL rows shown asked)) pairs.length
def closeN (given : List Str) (rows : List (Str × Nat × Nat)) (pairs : List (Nat × Nat)) (shown asked : List (Str × Nat)) : Net :=
  let first := 1 + given.length + rows.length
  let s := keepTo first (needL first rows pairs shown asked) pairs pairs.length
  ⟨given, rows.map (mapR s.1), s.2, shown.map (mapN s.1), asked.map (mapN s.1)⟩
def tidyN (N : Net) : Net :=
  let s := tyTo N.first N.ands N.ands.length
  closeN N.ins (N.regs.map (mapR s.1)) s.2 (N.outs.map (mapN s.1)) (N.cls.map (mapN s.1))
/-! ### literals -/
theorem xor_one (n b : Nat) (h : b < 2) : 2 * n ^^^ b = 2 * n + b := by
  have := @Nat.two_pow_add_eq_or_of_lt
  refine Nat.eq_of_testBit_eq fun j => ?_
  rw [Nat.testBit_xor]
  cases j with
  | zero => simp [Nat.testBit_zero]
  | succ j =>
    rw [Nat.testBit_succ, Nat.testBit_succ, Nat.testBit_succ, show 2 * n / 2 = n by omega, show (2 * n + b) / 2 = n by omega, show b / 2 = 0 by omega]
    simp
theorem lit_lt {x m b : Nat} (h : x < 2 * m) (hb : b < 2) : x ^^^ b < 2 * m := by
  have e : x = 2 * (x / 2) + x % 2 := by omega
  rw [e, ← xor_one (x / 2) (x % 2) (by omega), Nat.xor_assoc]
  have h2 : x % 2 ^^^ b < 2 := Nat.xor_lt_two_pow (n := 1) (by omega) hb
  rw [xor_one _ _ h2]
  omega
def Below (news : List Nat) (m : Nat) : Prop := ∀ x ∈ news, x < 2 * m
theorem Below.getD {news : List Nat} {m n : Nat} (h : Below news m) (hm : 1 ≤ m) : news.getD n 0 < 2 * m := by
  rw [List.getD_eq_getElem?_getD]
  cases e : news[n]? with
  | none => show 0 < _; omega
  | some x => exact h x (List.mem_of_getElem? e)
theorem Below.lit {news : List Nat} {m l : Nat} (h : Below news m) (hm : 1 ≤ m) : litN news l < 2 * m := lit_lt (h.getD hm) (Nat.mod_lt _ (by decide))
theorem Below.mono {news : List Nat} {m m' : Nat} (h : Below news m) (hm : m ≤ m') : Below news m' := fun x hx => by
  have := h x hx
  omega
theorem below_evens (n : Nat) : Below (evens n) n := fun x hx => by
  obtain ⟨k, hk, rfl⟩ := List.mem_map.mp hx
  have := List.mem_range.mp hk
  show 2 * k < _
  omega
theorem evens_len (n : Nat) : (evens n).length = n := by simp [evens]
theorem evens_succ (n : Nat) : evens (n + 1) = evens n ++ [2 * n] := by
  unfold evens
  rw [List.range_succ, List.map_append]
  rfl
def PairsOk (first : Nat) (pairs : List (Nat × Nat)) : Prop := ∀ (i : Nat) (p : Nat × Nat), pairs[i]? = some p → p.1 < 2 * (first + i) ∧ p.2 < 2 * (first + i)
theorem PairsOk.snoc {first : Nat} {pairs : List (Nat × Nat)} {p : Nat × Nat} (h : PairsOk first pairs) (h1 : p.1 < 2 * (first + pairs.length)) (h2 : p.2 < 2 * (first + pairs.length)) : PairsOk first (pairs ++ [p]) := fun i q e => by
  by_cases hi : i < pairs.length
  · rw [List.getElem?_append_left hi] at e
    exact h i q e
  · rw [List.getElem?_append_right (by omega)] at e
    have e0 : i - pairs.length = 0 := by
      cases z : i - pairs.length with
      | zero => rfl
      | succ m => rw [z] at e; simp at e
    rw [e0] at e
    obtain rfl : p = q := Option.some.inj e
    have : i = pairs.length := by omega
    subst this
    exact ⟨h1, h2⟩
theorem tyTo_succ {first : Nat} {ands : List (Nat × Nat)} {i : Nat} {p : Nat × Nat} (h : ands[i]? = some p) : tyTo first ands (i + 1) = tyStep first (tyTo first ands i) p := by
  unfold tyTo
  rw [List.take_add_one, h]
  simp [List.foldl_append]
/-- what a walk of tidying keeps -/
structure TyOk (first : Nat) (s : List Nat × List (Nat × Nat)) (i : Nat) : Prop where
  len : s.1.length = first + i
  below : Below s.1 (first + s.2.length)
  pairs : PairsOk first s.2
  many : s.2.length ≤ i
theorem TyOk.step {first : Nat} {s : List Nat × List (Nat × Nat)} {i : Nat} {p : Nat × Nat} (h : TyOk first s i) (hf : 1 ≤ first) : TyOk first (tyStep first s p) (i + 1) := by
  have hx : litN s.1 p.1 < 2 * (first + s.2.length) := h.below.lit (by omega)
  have hy : litN s.1 p.2 < 2 * (first + s.2.length) := h.below.lit (by omega)
  have push : ∀ v, v < 2 * (first + s.2.length) → TyOk first (s.1 ++ [v], s.2) (i + 1) := fun v hv =>
    ⟨by rw [List.length_append, h.len]; rfl, fun x hm => by
      rcases List.mem_append.mp hm with q | q
      · exact h.below x q
      · rw [List.mem_singleton.mp q]; exact hv, h.pairs, Nat.le_succ_of_le h.many⟩
  unfold tyStep
  simp only []
  split
  · exact push 0 (by omega)
  · split
    · exact push _ (by omega)
    · split
      · rename_i hm
        have := List.idxOf_lt_length_iff.mpr hm
        exact push _ (by omega)
      · refine ⟨by rw [List.length_append, h.len]; rfl, fun x hm => ?_, h.pairs.snoc ?_ ?_, by rw [List.length_append]; have := h.many; show _ + 1 ≤ _; omega⟩
        · have e : (s.2 ++ [(min (litN s.1 p.1) (litN s.1 p.2), max (litN s.1 p.1) (litN s.1 p.2))]).length = s.2.length + 1 := by simp
          rw [e]
          rcases List.mem_append.mp hm with q | q
          · have := h.below x q
            omega
          · rw [List.mem_singleton.mp q]; omega
        · show min _ _ < _
          omega
        · show max _ _ < _
          omega
theorem TyOk.all {first : Nat} {ands : List (Nat × Nat)} (hf : 1 ≤ first) : ∀ i, i ≤ ands.length → TyOk first (tyTo first ands i) i
  | 0, _ => ⟨by simp [tyTo, evens_len], by simpa [tyTo] using below_evens first, fun i p e => by simp [tyTo] at e, by simp [tyTo]⟩
  | i + 1, h => by
    have e : ands[i]? = some ands[i] := List.getElem?_eq_getElem (by omega)
    rw [tyTo_succ e]
    exact (TyOk.all hf i (by omega)).step hf
/-! ### what is needed -/
theorem getD_set (l : List Nat) (i n : Nat) : (l.set i 1).getD n 0 = if n = i ∧ i < l.length then 1 else l.getD n 0 := by
  rw [List.getD_eq_getElem?_getD, List.getD_eq_getElem?_getD, List.getElem?_set]
  by_cases h : i = n
  · subst h
    by_cases hl : i < l.length
    · simp [hl]
    · simp [hl]
  · have : n ≠ i := fun e => h e.symm
    simp [h, this]
def Fl (l : List Nat) (n : Nat) : Prop := l.getD n 0 = 1
theorem Fl.set {l : List Nat} {n : Nat} (h : Fl l n) (i : Nat) : Fl (l.set i 1) n := by
  unfold Fl at *
  rw [getD_set]
  split
  · rfl
  · exact h
theorem Fl.here {l : List Nat} {i : Nat} (h : i < l.length) : Fl (l.set i 1) i := by
  unfold Fl
  rw [getD_set, if_pos ⟨rfl, h⟩]
theorem Fl.of_set {l : List Nat} {i n : Nat} (h : Fl (l.set i 1) n) (hn : n ≠ i) : Fl l n := by
  unfold Fl at *
  rw [getD_set, if_neg (fun z => hn z.1)] at h
  exact h
theorem markAll_len : ∀ (ends l : List Nat), (markAll l ends).length = l.length
  | [], _ => rfl
  | e :: r, l => by
    show (markAll (l.set (e / 2) 1) r).length = _
    rw [markAll_len r, List.length_set]
theorem markAll_fl {n : Nat} : ∀ (ends l : List Nat), Fl l n → Fl (markAll l ends) n
  | [], _, h => h
  | e :: r, l, h => markAll_fl r _ (h.set _)
theorem markAll_end {e : Nat} : ∀ (ends l : List Nat), e ∈ ends → e / 2 < l.length → Fl (markAll l ends) (e / 2)
  | x :: r, l, h, hl => by
    rcases List.mem_cons.mp h with rfl | h
    · exact markAll_fl r _ (Fl.here hl)
    · exact markAll_end r _ h (by rw [List.length_set]; exact hl)
theorem needTo_len (first : Nat) (pairs : List (Nat × Nat)) (l : List Nat) : ∀ t, (needTo first pairs l t).length = l.length
  | 0 => rfl
  | t + 1 => by
    rw [needTo, needStep]
    split
    · rw [List.length_set, List.length_set, needTo_len first pairs l t]
    · exact needTo_len first pairs l t
theorem needTo_fl {first : Nat} {pairs : List (Nat × Nat)} {l : List Nat} {n : Nat} (t : Nat) (h : Fl (needTo first pairs l t) n) : Fl (needTo first pairs l (t + 1)) n := by
  rw [needTo, needStep]
  split
  · exact (h.set _).set _
  · exact h
theorem needTo_mono {first : Nat} {pairs : List (Nat × Nat)} {l : List Nat} {n t : Nat} : ∀ d, Fl (needTo first pairs l t) n → Fl (needTo first pairs l (t + d)) n
  | 0, h => h
  | d + 1, h => needTo_fl (t + d) (needTo_mono d h)
/-- a later step marks no node that is not ahead of its own -/
theorem needTo_back {first : Nat} {pairs : List (Nat × Nat)} {l : List Nat} (ok : PairsOk first pairs) {k t : Nat} (hk : k < pairs.length) (ht : pairs.length - 1 - k ≤ t) (ht2 : t + 1 ≤ pairs.length) (h : Fl (needTo first pairs l (t + 1)) (first + k)) : Fl (needTo first pairs l t) (first + k) := by
  rw [needTo, needStep] at h
  split at h
  · have hlt : pairs.length - 1 - t < pairs.length := by omega
    have e : pairs[pairs.length - 1 - t]? = some pairs[pairs.length - 1 - t] := List.getElem?_eq_getElem hlt
    have o := ok _ _ e
    have eg : pairs.getD (pairs.length - 1 - t) (0, 0) = pairs[pairs.length - 1 - t] := by rw [List.getD_eq_getElem?_getD, e]; rfl
    rw [eg] at h
    exact (h.of_set (by omega)).of_set (by omega)
  · exact h
theorem needTo_at {first : Nat} {pairs : List (Nat × Nat)} {l : List Nat} (ok : PairsOk first pairs) {k : Nat} (hk : k < pairs.length) : ∀ d, pairs.length - 1 - k + d ≤ pairs.length → Fl (needTo first pairs l (pairs.length - 1 - k + d)) (first + k) → Fl (needTo first pairs l (pairs.length - 1 - k)) (first + k)
  | 0, _, h => h
  | d + 1, hd, h => needTo_at ok hk d (by omega) (needTo_back ok hk (by omega) (by omega) h)
theorem need_closed {first : Nat} {pairs : List (Nat × Nat)} {l : List Nat} (ok : PairsOk first pairs) (hl : l.length = first + pairs.length) {k : Nat} {p : Nat × Nat} (e : pairs[k]? = some p) (h : Fl (needTo first pairs l pairs.length) (first + k)) :
    Fl (needTo first pairs l pairs.length) (p.1 / 2) ∧ Fl (needTo first pairs l pairs.length) (p.2 / 2) := by
  have hk : k < pairs.length := (List.getElem?_eq_some_iff.mp e).1
  have o := ok _ _ e
  have h0 : Fl (needTo first pairs l (pairs.length - 1 - k)) (first + k) := needTo_at ok hk (k + 1) (by omega) (by rw [show pairs.length - 1 - k + (k + 1) = pairs.length by omega]; exact h)
  have eg : pairs.getD k (0, 0) = p := by rw [List.getD_eq_getElem?_getD, e]; rfl
  have h1 : needTo first pairs l (pairs.length - 1 - k + 1) = ((needTo first pairs l (pairs.length - 1 - k)).set (p.1 / 2) 1).set (p.2 / 2) 1 := by
    rw [needTo, show pairs.length - 1 - (pairs.length - 1 - k) = k by omega, needStep, if_pos (show _ = 1 from h0), eg]
  have ln := needTo_len first pairs l (pairs.length - 1 - k)
  have a1 : Fl (needTo first pairs l (pairs.length - 1 - k + 1)) (p.1 / 2) := by rw [h1]; exact (Fl.here (by rw [ln, hl]; omega)).set _
  have a2 : Fl (needTo first pairs l (pairs.length - 1 - k + 1)) (p.2 / 2) := by rw [h1]; exact Fl.here (by rw [List.length_set, ln, hl]; omega)
  have b1 := needTo_mono k a1
  have b2 := needTo_mono k a2
  rw [show pairs.length - 1 - k + 1 + k = pairs.length by omega] at b1 b2
  exact ⟨b1, b2⟩
/-! ### what is kept -/
structure KpOk (first : Nat) (need : List Nat) (s : List Nat × List (Nat × Nat)) (k : Nat) : Prop where
  len : s.1.length = first + k
  low : ∀ n, n < first → s.1.getD n 0 < 2 * (first + s.2.length)
  good : ∀ n, n < first + k → Fl need n → s.1.getD n 0 < 2 * (first + s.2.length)
  pairs : PairsOk first s.2
  many : s.2.length ≤ k
theorem getD_app {l : List Nat} {x n : Nat} (h : n < l.length) : (l ++ [x]).getD n 0 = l.getD n 0 := by
  rw [List.getD_eq_getElem?_getD, List.getD_eq_getElem?_getD, List.getElem?_append_left h]
theorem getD_last {l : List Nat} {x : Nat} : (l ++ [x]).getD l.length 0 = x := by
  rw [List.getD_eq_getElem?_getD, List.getElem?_append_right (Nat.le_refl _), Nat.sub_self]
  rfl
theorem KpOk.all {first : Nat} {need : List Nat} {pairs : List (Nat × Nat)} (ok : PairsOk first pairs) (hc : ∀ (k : Nat) (p : Nat × Nat), pairs[k]? = some p → Fl need (first + k) → Fl need (p.1 / 2) ∧ Fl need (p.2 / 2)) :
    ∀ k, k ≤ pairs.length → KpOk first need (keepTo first need pairs k) k
  | 0, _ => by
    have lw : ∀ n, n < first → (evens first).getD n 0 < 2 * (first + 0) := fun n hn => by
      have := below_evens first
      exact this.getD (by omega)
    exact ⟨by simp [keepTo, evens_len], lw, fun n hn _ => lw n (by omega), fun i p e => by simp [keepTo] at e, by simp [keepTo]⟩
  | k + 1, h => by
    have ih := KpOk.all ok hc k (by omega)
    have e : pairs[k]? = some pairs[k] := List.getElem?_eq_getElem (by omega)
    have eg : pairs.getD k (0, 0) = pairs[k] := by rw [List.getD_eq_getElem?_getD, e]; rfl
    have o := ok _ _ e
    rw [keepTo]
    simp only [eg]
    generalize keepTo first need pairs k = s at *
    have lk := ih.len
    split
    · rename_i hn
      have cl := hc k _ e hn
      have g : ∀ l, l < 2 * (first + k) → Fl need (l / 2) → litN (s.1 ++ [2 * (first + s.2.length)]) l < 2 * (first + s.2.length) := fun l hl hf => by
        refine lit_lt ?_ (Nat.mod_lt _ (by decide))
        rw [getD_app (by omega)]
        exact ih.good _ (by omega) hf
      refine ⟨by rw [List.length_append, lk]; rfl, fun n hn' => ?_, fun n hn' hf => ?_, ih.pairs.snoc (g _ o.1 cl.1) (g _ o.2 cl.2), by rw [List.length_append]; have := ih.many; show _ + 1 ≤ _; omega⟩
      · have := ih.low n hn'
        rw [getD_app (by omega), List.length_append]
        show _ < 2 * (first + (s.2.length + 1))
        omega
      · rw [List.length_append]
        show _ < 2 * (first + (s.2.length + 1))
        by_cases hk : n < first + k
        · have := ih.good n hk hf
          rw [getD_app (by omega)]
          omega
        · have : n = s.1.length := by omega
          rw [this, getD_last]
          omega
    · rename_i hn
      refine ⟨by rw [List.length_append, lk]; rfl, fun n hn' => ?_, fun n hn' hf => ?_, ih.pairs, Nat.le_succ_of_le ih.many⟩
      · have := ih.low n hn'
        rw [getD_app (by omega)]
        exact this
      · by_cases hk : n < first + k
        · have := ih.good n hk hf
          rw [getD_app (by omega)]
          exact this
        · have : n = first + k := by omega
          rw [this] at hf
          exact absurd hf hn
/-- the rows are of the pairs -/
structure RowsOk (m : Nat) (rows : List (Str × Nat × Nat)) (shown asked : List (Str × Nat)) : Prop where
  regs : ∀ r ∈ rows, r.2.1 < 2 ∧ r.2.2 < 2 * m
  outs : ∀ r ∈ shown, r.2 < 2 * m
  cls : ∀ r ∈ asked, r.2 < 2 * m
theorem RowsOk.ends {m : Nat} {rows : List (Str × Nat × Nat)} {shown asked : List (Str × Nat)} (h : RowsOk m rows shown asked) : ∀ e ∈ endsL rows shown asked, e < 2 * m := fun e he => by
  rcases List.mem_append.mp he with he | he
  · rcases List.mem_append.mp he with he | he
    · obtain ⟨r, hr, rfl⟩ := List.mem_map.mp he
      exact (h.regs r hr).2
    · obtain ⟨r, hr, rfl⟩ := List.mem_map.mp he
      exact h.outs r hr
  · obtain ⟨r, hr, rfl⟩ := List.mem_map.mp he
    exact h.cls r hr
theorem need_len {first : Nat} (rows : List (Str × Nat × Nat)) (pairs : List (Nat × Nat)) (shown asked : List (Str × Nat)) : (needL first rows pairs shown asked).length = first + pairs.length := by
  rw [needL, needTo_len, markAll_len, List.length_replicate]
theorem close_right {given : List Str} {rows : List (Str × Nat × Nat)} {pairs : List (Nat × Nat)} {shown asked : List (Str × Nat)} (ok : PairsOk (1 + given.length + rows.length) pairs) (R : RowsOk (1 + given.length + rows.length + pairs.length) rows shown asked) :
    (closeN given rows pairs shown asked).Right ∧ (closeN given rows pairs shown asked).ands.length ≤ pairs.length := by
  have hm : (markAll (List.replicate (1 + given.length + rows.length + pairs.length) 0) (endsL rows shown asked)).length = 1 + given.length + rows.length + pairs.length := by rw [markAll_len, List.length_replicate]
  have kp := KpOk.all (need := needL (1 + given.length + rows.length) rows pairs shown asked) ok (fun k p e h => need_closed ok hm e h) pairs.length (Nat.le_refl _)
  have fe : ∀ e ∈ endsL rows shown asked, litN (keepTo (1 + given.length + rows.length) (needL (1 + given.length + rows.length) rows pairs shown asked) pairs pairs.length).1 e < 2 * (1 + given.length + rows.length + (keepTo (1 + given.length + rows.length) (needL (1 + given.length + rows.length) rows pairs shown asked) pairs pairs.length).2.length) := fun e he => by
    have hl := R.ends e he
    refine lit_lt (kp.good _ (by omega) ?_) (Nat.mod_lt _ (by decide))
    have := markAll_end (endsL rows shown asked) (List.replicate (1 + given.length + rows.length + pairs.length) 0) he (by rw [List.length_replicate]; omega)
    have := needTo_mono (first := 1 + given.length + rows.length) (pairs := pairs) (t := 0) pairs.length this
    rw [Nat.zero_add] at this
    exact this
  have fz : (closeN given rows pairs shown asked).first = 1 + given.length + rows.length := by
    show 1 + given.length + (rows.map _).length = _
    rw [List.length_map]
  refine ⟨⟨fun r hr => ?_, fun i p e => ?_, fun r hr => ?_, fun r hr => ?_⟩, kp.many⟩
  · obtain ⟨r0, hr0, rfl⟩ := List.mem_map.mp hr
    refine ⟨(R.regs r0 hr0).1, ?_⟩
    unfold Net.size
    rw [fz]
    exact fe _ (List.mem_append_left _ (List.mem_append_left _ (List.mem_map_of_mem hr0)))
  · rw [fz]
    exact kp.pairs i p e
  · obtain ⟨r0, hr0, rfl⟩ := List.mem_map.mp hr
    unfold Net.size
    rw [fz]
    exact fe _ (List.mem_append_left _ (List.mem_append_right _ (List.mem_map_of_mem hr0)))
  · obtain ⟨r0, hr0, rfl⟩ := List.mem_map.mp hr
    unfold Net.size
    rw [fz]
    exact fe _ (List.mem_append_right _ (List.mem_map_of_mem hr0))
theorem tidy_right {N : Net} (R : N.Right) : (tidyN N).Right ∧ (tidyN N).ands.length ≤ N.ands.length ∧ (tidyN N).first = N.first := by
  have ty := TyOk.all (first := N.first) (ands := N.ands) (by unfold Net.first; omega) N.ands.length (Nat.le_refl _)
  have ef : 1 + N.ins.length + (N.regs.map (mapR (tyTo N.first N.ands N.ands.length).1)).length = N.first := by rw [List.length_map]; rfl
  have lw : ∀ l, litN (tyTo N.first N.ands N.ands.length).1 l < 2 * (N.first + (tyTo N.first N.ands N.ands.length).2.length) := fun l => ty.below.lit (by unfold Net.first; omega)
  have := close_right (given := N.ins) (rows := N.regs.map (mapR (tyTo N.first N.ands N.ands.length).1)) (pairs := (tyTo N.first N.ands N.ands.length).2) (shown := N.outs.map (mapN (tyTo N.first N.ands N.ands.length).1)) (asked := N.cls.map (mapN (tyTo N.first N.ands N.ands.length).1))
    (by rw [ef]; exact ty.pairs) ⟨fun r hr => by
      obtain ⟨r0, hr0, rfl⟩ := List.mem_map.mp hr
      rw [ef]
      exact ⟨(R.regs r0 hr0).1, lw _⟩, fun r hr => by
      obtain ⟨r0, hr0, rfl⟩ := List.mem_map.mp hr
      rw [ef]
      exact lw _, fun r hr => by
      obtain ⟨r0, hr0, rfl⟩ := List.mem_map.mp hr
      rw [ef]
      exact lw _⟩
  refine ⟨this.1, Nat.le_trans this.2 ty.many, ?_⟩
  show 1 + N.ins.length + ((N.regs.map _).map _).length = _
  rw [List.length_map, List.length_map]
  rfl
end Bf

set_option Elab.async false
set_option linter.all false
set_option maxRecDepth 100000
set_option maxHeartbeats 4000000
namespace Bf
open PySem PySem.Spec PyProof.Rows L2
/-! ### a dict of pairs -/
def pkey (p : Nat × Nat) : List Key := [Sum.inl (p.1 : Int), Sum.inl (p.2 : Int)]
def kvP : Nat → List (Nat × Nat) → List (List Key × V)
  | _, [] => []
  | n, p :: r => (pkey p, vI (2 * n)) :: kvP (n + 1) r
theorem pkey_inj {p q : Nat × Nat} (h : pkey p = pkey q) : p = q := by
  unfold pkey at h
  have h1 := Sum.inl.inj (List.cons.inj h).1
  have h2 := Sum.inl.inj (List.cons.inj (List.cons.inj h).2).1
  exact Prod.ext (by omega) (by omega)
theorem kvP_len : ∀ (ps : List (Nat × Nat)) (n : Nat), (kvP n ps).length = ps.length
  | [], _ => rfl
  | _ :: r, n => by rw [kvP, List.length_cons, kvP_len r, List.length_cons]
theorem kvP_get : ∀ (ps : List (Nat × Nat)) (n : Nat) (q : Nat × Nat), valV (kvP n ps) (pkey q) = if q ∈ ps then some (vI (2 * (n + ps.idxOf q))) else none
  | [], _, _ => rfl
  | p :: r, n, q => by
    by_cases h : p = q
    · subst h
      rw [kvP, valV_pos rfl, if_pos (by simp), List.idxOf_cons_self]
      rfl
    · have hn : pkey p ≠ pkey q := fun e => h (pkey_inj e)
      have e1 : valV ((pkey p, vI (2 * n)) :: kvP (n + 1) r) (pkey q) = valV (kvP (n + 1) r) (pkey q) := by
        simp [valV, List.find?_cons, hn]
      have e2 : (q ∈ p :: r) ↔ q ∈ r := by
        simp
        intro z
        exact absurd z.symm h
      rw [kvP, e1, kvP_get r (n + 1) q]
      by_cases hq : q ∈ r
      · have hb : (p == q) = false := by simpa using h
        rw [if_pos hq, if_pos (e2.mpr hq), List.idxOf_cons, hb]
        show some (vI (2 * (n + 1 + r.idxOf q))) = some (vI (2 * (n + (r.idxOf q + 1))))
        rw [show n + 1 + r.idxOf q = n + (r.idxOf q + 1) by omega]
      · rw [if_neg hq, if_neg (fun z => hq (e2.mp z))]
theorem kvP_snoc : ∀ (ps : List (Nat × Nat)) (n : Nat) (q : Nat × Nat), kvP n (ps ++ [q]) = kvP n ps ++ [(pkey q, vI (2 * (n + ps.length)))]
  | [], n, q => rfl
  | p :: r, n, q => by
    rw [List.cons_append, kvP, kvP_snoc r, kvP, List.cons_append, List.length_cons]
    congr 4
    congr 2
    omega
theorem kvP_put {ps : List (Nat × Nat)} {n : Nat} {q : Nat × Nat} (h : q ∉ ps) : putK (kvP n ps) (pkey q) (vI (2 * (n + ps.length))) = kvP n (ps ++ [q]) := by
  have na : ((kvP n ps).any fun kv => decide (kv.1 = pkey q)) = false := by
    have e := kvP_get ps n q
    rw [if_neg h] at e
    unfold valV at e
    rw [List.any_eq_false]
    intro kv hkv
    cases hf : (kvP n ps).find? fun kv => decide (kv.1 = pkey q) with
    | none => exact List.find?_eq_none.mp hf kv hkv
    | some z => rw [hf] at e; cases e
  unfold putK
  rw [na, kvP_snoc]
  rfl
theorem pkey_tup (p : Nat × Nat) : (pkey p).map kV = [vI p.1, vI p.2] := rfl
/-! ### two numbers in order -/
theorem minmax_sorted {x y : Nat} {ns : List Int} (hp : ns.Perm [(x : Int), (y : Int)]) (hs : ns.Pairwise (· ≤ ·)) : ns = [((min x y : Nat) : Int), ((max x y : Nat) : Int)] := by
  have hl := hp.length_eq
  match ns, hl with
  | [a, b], _ =>
    have hab : a ≤ b := by
      have := List.pairwise_cons.mp hs
      exact this.1 b (by simp)
    have ha : a ∈ [(x : Int), (y : Int)] := hp.mem_iff.mp (by simp)
    simp only [List.mem_cons, List.not_mem_nil, or_false] at ha
    rcases ha with rfl | rfl
    · have hb : b = (y : Int) := List.singleton_inj.mp (List.perm_singleton.mp hp.cons_inv)
      subst hb
      rw [Nat.min_eq_left (by omega), Nat.max_eq_right (by omega)]
    · have hb : b = (x : Int) := List.singleton_inj.mp (List.perm_singleton.mp (hp.trans (List.Perm.swap _ _ _)).cons_inv)
      subst hb
      rw [Nat.min_eq_right (by omega), Nat.max_eq_left (by omega)]
end Bf

set_option Elab.async false
set_option linter.all false
set_option maxRecDepth 100000
set_option maxHeartbeats 4000000
namespace Bf
open PySem PySem.Spec PyProof.Rows L2
/-! ### literals, the first and, tidying -/
def spLitV (K : PySem.W.Frag) : Sp := fun vs H Q _ => ∃ (b : Addr) (news : List Nat) (l : Nat), vs = [.ref b, vI l] ∧ SqL K H b (news.map vI) ∧ l / 2 < news.length ∧ Q (vI (litN news l)) H
def spFirst : Sp := fun vs H Q _ => ∃ (v : V) (N : Net), vs = [v] ∧ Lay H v (netD N) ∧ Q (vI N.first) H
def spClosed : Sp := fun vs H Q _ => ∃ (ag ar ap as_ aa : Addr) (vr vp vs_ va : List V) (given : List Str) (rows : List (Str × Nat × Nat)) (pairs : List (Nat × Nat)) (shown asked : List (Str × Nat)), vs = [.ref ag, .ref ar, .ref ap, .ref as_, .ref aa] ∧
  H ag = some (.tup (given.map V.str)) ∧ H ar = some (.lst vr) ∧ LayAll H vr (rows.map regD) ∧ H ap = some (.lst vp) ∧ LayAll H vp (pairs.map pairD) ∧ H as_ = some (.lst vs_) ∧ LayAll H vs_ (shown.map namD) ∧ H aa = some (.lst va) ∧ LayAll H va (asked.map namD) ∧
  PairsOk (1 + given.length + rows.length) pairs ∧ RowsOk (1 + given.length + rows.length + pairs.length) rows shown asked ∧ given.length ≤ 100 ∧ rows.length ≤ 100 ∧ pairs.length ≤ 400 ∧ shown.length ≤ 100 ∧ asked.length ≤ 100 ∧
  ∀ (v : V) (H' : Hp), Same H H' → Lay H' v (netD (closeN given rows pairs shown asked)) → Q v H'
def spTidied : Sp := fun vs H Q _ => ∃ (v : V) (N : Net), vs = [v] ∧ Lay H v (netD N) ∧ N.Right ∧ N.ins.length ≤ 100 ∧ N.regs.length ≤ 100 ∧ N.ands.length ≤ 400 ∧ N.outs.length ≤ 100 ∧ N.cls.length ≤ 100 ∧ ∀ (u : V) (H' : Hp), Same H H' → Lay H' u (netD (tidyN N)) → Q u H'
theorem col2 {H : Hp} {x : V} {r : Str × Nat} (h : Lay H x (namD r)) : ∃ q, x = .ref q ∧ H q = some (.tup [.str r.1, vI r.2]) := h.nam
theorem list_len {H : Hp} {vs : List V} {α : Type} {f : α → PyData} {xs : List α} (h : LayAll H vs (xs.map f)) : vs.length = xs.length := by simpa using h.len
theorem lay_intD {H : Hp} {us : List V} {ns : List Nat} (h : LayAll H us (ns.map intD)) : us = ns.map vI := LayAll.ints_inv h
theorem vI_mul2 (n : Nat) : V.int (2 * (n : Int)) = vI (2 * n) := congrArg V.int (by omega)
section
variable {P : Program} {w : World} {K : PySem.W.Frag} {mg : Str → Option Value} {base : Heap} {f : Addr} {fd : FuncData}
theorem ok_litV (F : Fun K "_law_lit" "_law_lit" s_law_lit f fd) (T : Txt mg) : FnOk P w K mg base CX0 1 f fd ["_law_bits", "_law_literal"] (spLitV K) := by
  refine F.ok sc_law_lit (fun vs H Q E h => ?_) (fun cdv A outer s H vs Q E hr h => ?_)
  · obtain ⟨b, news, l, rfl, _⟩ := h
    rfl
  obtain ⟨b, news, l, rfl, hb, hl, q⟩ := h
  refine ⟨_, (pss_one (ps_ret (pe_op op_xorB (pe_ix ix_list (pv 0) (pe_op op_halfN (pv 1) pe_int) (fun _ _ => rfl)) (pe_op op_odd (pv 1) pe_int)))), ?_⟩
  have e : news[l / 2]? = some news[l / 2] := List.getElem?_eq_getElem hl
  refine ⟨_, rfl, _, rfl, l, rfl, rfl, b, _, _, vI news[l / 2], rfl, rfl, hb, atI_nat (by rw [List.getElem?_map, e]; rfl), _, rfl, l, rfl, rfl, news[l / 2], l % 2, rfl, rfl, ?_⟩
  have e2 : litN news l = news[l / 2] ^^^ (l % 2) := by
    unfold litN
    rw [List.getD_eq_getElem?_getD, e]
    rfl
  rw [e2] at q
  exact q
end

end Bf

set_option Elab.async false
set_option linter.all false
set_option maxRecDepth 100000
set_option maxHeartbeats 4000000
namespace Bf
open PySem PySem.Spec PyProof.Rows L2
/-! ### what is closed up -/
theorem markAll_snoc (l : List Nat) (es : List Nat) (e : Nat) : markAll l (es ++ [e]) = (markAll l es).set (e / 2) 1 := by
  unfold markAll
  rw [List.foldl_append]
  rfl
section
variable {P : Program} {w : World} {K : PySem.W.Frag} {mg : Str → Option Value} {base : Heap} {f : Addr} {fd : FuncData}
theorem ok_closed (F : Fun K "_law_closed_up" "_law_closed_up" s_law_closed_up f fd) (T : Txt mg) (D_law_lit : Dn P w K mg base "_law_lit" ["_law_bits", "_law_literal"] 1 (spLitV K)) :
    FnOk P w K mg base CX0 2 f fd ["_law_given", "_law_rows", "_law_pairs", "_law_shown", "_law_asked"] spClosed := by
  refine F.ok sc_law_closed_up (fun vs H Q E h => ?_) (fun cdv A outer s H vs Q E hr h => ?_)
  · obtain ⟨_, _, _, _, _, _, _, _, _, _, _, _, _, _, rfl, _⟩ := h
    rfl
  obtain ⟨ag, ar, ap, as_, aa, vr, vp, vs_, va, given, rows, pairs, shown, asked, rfl, eg, er, lr, ep, lp, es, ls, ea, la, pok, rok, g100, r100, p400, s100, a100, q⟩ := h
  refine ⟨_, (C8.pss_cut (ps_set (i := 5) sc_law_closed_up.nd rfl (Or.inl rfl) (pe_op op_add (pe_op op_add pe_int (pe_callB call_len_seq (by rfl) T.n_len (by decide +kernel) (pa_cons (pv 0) pa_nil))) (pe_callB call_len_seq (by rfl) T.n_len (by decide +kernel) (pa_cons (pv 1) pa_nil))))
      (pss_cons (ps_set (i := 6) sc_law_closed_up.nd rfl (Or.inl rfl) (pe_op op_rep (pe_lst (pa_cons pe_int pa_nil)) (pe_op op_add (pv 5) (pe_callB call_len_seq (by rfl) T.n_len (by decide +kernel) (pa_cons (pv 2) pa_nil)))))
      (pss_cons (ps_for PassesOwn.never rfl (pi_list (pe_op op_cat (pe_op op_cat (pe_lc (own := [("_law_row", 12)]) (g := (gName 12)) (tt := tYes) rfl sc_law_closed_up.nd (pi_list (pv 1)) (blkOk_by (N := ["_law_given", "_law_rows", "_law_pairs", "_law_shown", "_law_asked", "_law_first", "_law_needed", "_law_literal", "_law_k", "_law_news", "_law_kept", "_law_node", "_law_row"]) (sc := defScope s_law_closed_up) (by decide +kernel)) (fun _ _ _ _ _ => (pg_name (i := 12) sc_law_closed_up.nd rfl (Or.inl rfl))) (fun _ _ _ _ _ => pts_nil) (fun _ _ _ _ _ => (pe_ix (ix_tup : IxR _ (rIxT K)) (pv 12) pe_int (fun _ _ => rfl)))) (pe_lc (own := [("_law_row", 12)]) (g := (gName 12)) (tt := tYes) rfl sc_law_closed_up.nd (pi_list (pv 3)) (blkOk_by (N := ["_law_given", "_law_rows", "_law_pairs", "_law_shown", "_law_asked", "_law_first", "_law_needed", "_law_literal", "_law_k", "_law_news", "_law_kept", "_law_node", "_law_row"]) (sc := defScope s_law_closed_up) (by decide +kernel)) (fun _ _ _ _ _ => (pg_name (i := 12) sc_law_closed_up.nd rfl (Or.inl rfl))) (fun _ _ _ _ _ => pts_nil) (fun _ _ _ _ _ => (pe_ix (ix_tup : IxR _ (rIxT K)) (pv 12) pe_int (fun _ _ => rfl))))) (pe_lc (own := [("_law_row", 12)]) (g := (gName 12)) (tt := tYes) rfl sc_law_closed_up.nd (pi_list (pv 4)) (blkOk_by (N := ["_law_given", "_law_rows", "_law_pairs", "_law_shown", "_law_asked", "_law_first", "_law_needed", "_law_literal", "_law_k", "_law_news", "_law_kept", "_law_node", "_law_row"]) (sc := defScope s_law_closed_up) (by decide +kernel)) (fun _ _ _ _ _ => (pg_name (i := 12) sc_law_closed_up.nd rfl (Or.inl rfl))) (fun _ _ _ _ _ => pts_nil) (fun _ _ _ _ _ => (pe_ix (ix_tup : IxR _ (rIxT K)) (pv 12) pe_int (fun _ _ => rfl)))))) (pg_name (i := 7) sc_law_closed_up.nd rfl (Or.inl rfl)) (pss_one (ps_asg pe_int (pg_sub (pv 6) (pe_op op_halfN (pv 7) pe_int) set_list))))
      (pss_cons (ps_for PassesOwn.never rfl (pi_reversed (by rfl) T.n_reversed (pa_cons (pe_listRg rfl (by rfl) T.n_list (prg_1 (by rfl) T.n_range (pe_callB call_len_seq (by rfl) T.n_len (by decide +kernel) (pa_cons (pv 2) pa_nil)))) pa_nil)) (pg_name (i := 8) sc_law_closed_up.nd rfl (Or.inl rfl)) (pss_one (ps_if (pt_cmpR op_eq (pe_ix ix_list (pv 6) (pe_op op_add (pv 5) (pv 8)) (fun _ _ => rfl)) pe_int (nomark _)) (pss_cons (ps_asg pe_int (pg_sub (pv 6) (pe_op op_halfN (pe_ix ix_tup (pe_ix ix_list (pv 2) (pv 8) (fun _ _ => rfl)) pe_int (fun _ _ => rfl)) pe_int) set_list))
      (pss_one (ps_asg pe_int (pg_sub (pv 6) (pe_op op_halfN (pe_ix ix_tup (pe_ix ix_list (pv 2) (pv 8) (fun _ _ => rfl)) pe_int (fun _ _ => rfl)) pe_int) set_list)))) pss_nil)))
      (pss_cons (ps_set (i := 9) sc_law_closed_up.nd rfl (Or.inr rfl) (pe_lc (own := [("_law_node", 11)]) (g := (gName 11)) (tt := tYes) rfl sc_law_closed_up.nd (pi_range1 rfl T.n_range (pa_cons (pv 5) pa_nil)) (blkOk_by (N := ["_law_given", "_law_rows", "_law_pairs", "_law_shown", "_law_asked", "_law_first", "_law_needed", "_law_literal", "_law_k", "_law_news", "_law_kept", "_law_node", "_law_row"]) (sc := defScope s_law_closed_up) (by decide +kernel)) (fun _ _ _ _ _ => (pg_name (i := 11) sc_law_closed_up.nd rfl (Or.inl rfl))) (fun _ _ _ _ _ => pts_nil) (fun _ _ _ _ _ => (pe_op op_mul pe_int (pv 11)))))
      (pss_cons (ps_set (i := 10) sc_law_closed_up.nd rfl (Or.inl rfl) (pe_lst pa_nil))
      (pss_cons (ps_for PassesOwn.never rfl (pi_range1 rfl T.n_range (pa_cons (pe_callB call_len_seq (by rfl) T.n_len (by decide +kernel) (pa_cons (pv 2) pa_nil)) pa_nil)) (pg_name (i := 8) sc_law_closed_up.nd rfl (Or.inl rfl)) (pss_cons (ps_expr (pe_bm PySem.F.plainAttrs_list PySem.F.slot_list_append PySem.F.type_list_append mt_append (pv 9) (pa_cons (pe_op op_mul pe_int (pe_op op_add (pv 5) (pe_callB call_len_seq (by rfl) T.n_len (by decide +kernel) (pa_cons (pv 10) pa_nil)))) pa_nil)))
      (pss_one (ps_if (pt_cmpR op_eq (pe_ix ix_list (pv 6) (pe_op op_add (pv 5) (pv 8)) (fun _ _ => rfl)) pe_int (nomark _)) (pss_one (ps_expr (pe_bm PySem.F.plainAttrs_list PySem.F.slot_list_append PySem.F.type_list_append mt_append (pv 10) (pa_cons (pe_tup (pa_cons (pe_dn D_law_lit (hr.mono (by omega)) (by rfl) (pa_cons (pv 9) (pa_cons (pe_ix ix_tup (pe_ix ix_list (pv 2) (pv 8) (fun _ _ => rfl)) pe_int (fun _ _ => rfl)) pa_nil))) (pa_cons (pe_dn D_law_lit (hr.mono (by omega)) (by rfl) (pa_cons (pv 9) (pa_cons (pe_ix ix_tup (pe_ix ix_list (pv 2) (pv 8) (fun _ _ => rfl)) pe_int (fun _ _ => rfl)) pa_nil))) pa_nil))) pa_nil)))) pss_nil))))
      (pss_cons (ps_setLc (i := 1) (own := [("_law_row", 12)]) (g := (gName 12)) (tt := tYes) rfl sc_law_closed_up.nd rfl rfl (sw_true rfl rfl rfl (by decide +kernel)) (pi_list (pv 1)) (blkOk_by (N := ["_law_given", "_law_rows", "_law_pairs", "_law_shown", "_law_asked", "_law_first", "_law_needed", "_law_literal", "_law_k", "_law_news", "_law_kept", "_law_node", "_law_row"]) (sc := defScope s_law_closed_up) (by decide +kernel)) (fun _ _ _ _ _ => (pg_name (i := 12) sc_law_closed_up.nd rfl (Or.inl rfl))) (fun _ _ _ _ _ => pts_nil) (fun _ _ _ _ _ => (pe_tup (pa_cons (pe_ix (ix_tup : IxR _ (rIxT K)) (pv 12) pe_int (fun _ _ => rfl)) (pa_cons (pe_ix (ix_tup : IxR _ (rIxT K)) (pv 12) pe_int (fun _ _ => rfl)) (pa_cons (pe_dn D_law_lit (hr.mono (by omega)) (by rfl) (pa_cons (pv 9) (pa_cons (pe_ix (ix_tup : IxR _ (rIxT K)) (pv 12) pe_int (fun _ _ => rfl)) pa_nil))) pa_nil))))))
      (pss_cons (ps_setLc (i := 3) (own := [("_law_row", 12)]) (g := (gName 12)) (tt := tYes) rfl sc_law_closed_up.nd rfl rfl (sw_true rfl rfl rfl (by decide +kernel)) (pi_list (pv 3)) (blkOk_by (N := ["_law_given", "_law_rows", "_law_pairs", "_law_shown", "_law_asked", "_law_first", "_law_needed", "_law_literal", "_law_k", "_law_news", "_law_kept", "_law_node", "_law_row"]) (sc := defScope s_law_closed_up) (by decide +kernel)) (fun _ _ _ _ _ => (pg_name (i := 12) sc_law_closed_up.nd rfl (Or.inl rfl))) (fun _ _ _ _ _ => pts_nil) (fun _ _ _ _ _ => (pe_tup (pa_cons (pe_ix (ix_tup : IxR _ (rIxT K)) (pv 12) pe_int (fun _ _ => rfl)) (pa_cons (pe_dn D_law_lit (hr.mono (by omega)) (by rfl) (pa_cons (pv 9) (pa_cons (pe_ix (ix_tup : IxR _ (rIxT K)) (pv 12) pe_int (fun _ _ => rfl)) pa_nil))) pa_nil)))))
      (pss_cons (ps_setLc (i := 4) (own := [("_law_row", 12)]) (g := (gName 12)) (tt := tYes) rfl sc_law_closed_up.nd rfl rfl (sw_true rfl rfl rfl (by decide +kernel)) (pi_list (pv 4)) (blkOk_by (N := ["_law_given", "_law_rows", "_law_pairs", "_law_shown", "_law_asked", "_law_first", "_law_needed", "_law_literal", "_law_k", "_law_news", "_law_kept", "_law_node", "_law_row"]) (sc := defScope s_law_closed_up) (by decide +kernel)) (fun _ _ _ _ _ => (pg_name (i := 12) sc_law_closed_up.nd rfl (Or.inl rfl))) (fun _ _ _ _ _ => pts_nil) (fun _ _ _ _ _ => (pe_tup (pa_cons (pe_ix (ix_tup : IxR _ (rIxT K)) (pv 12) pe_int (fun _ _ => rfl)) (pa_cons (pe_dn D_law_lit (hr.mono (by omega)) (by rfl) (pa_cons (pv 9) (pa_cons (pe_ix (ix_tup : IxR _ (rIxT K)) (pv 12) pe_int (fun _ _ => rfl)) pa_nil))) pa_nil)))))
      (pss_one (ps_ret (pe_tup (pa_cons pe_str (pa_cons (pe_callTy call_tuple_of (by rfl) T.n_tuple (by decide +kernel) (pa_cons (pv 0) pa_nil)) (pa_cons (pe_callTy call_tuple_of (by rfl) T.n_tuple (by decide +kernel) (pa_cons (pv 1) pa_nil)) (pa_cons (pe_callTy call_tuple_of (by rfl) T.n_tuple (by decide +kernel) (pa_cons (pv 10) pa_nil)) (pa_cons (pe_callTy call_tuple_of (by rfl) T.n_tuple (by decide +kernel) (pa_cons (pv 3) pa_nil)) (pa_cons (pe_callTy call_tuple_of (by rfl) T.n_tuple (by decide +kernel) (pa_cons (pv 4) pa_nil)) pa_nil))))))))))))))))))), ?_⟩
  have lvr := list_len lr
  have lvp := list_len lp
  obtain ⟨first, hfirst⟩ : ∃ n, n = 1 + given.length + rows.length := ⟨_, rfl⟩
  refine ⟨fun σ' H' => σ' = [some (.ref ag), some (.ref ar), some (.ref ap), some (.ref as_), some (.ref aa), some (vI first), none, none, none, none, none, none, none] ∧ H' = H, ?_, ?_⟩
  · refine ⟨_, rfl, ag, _, rfl, .inr (SqT.of eg), _, _, rfl, rfl, _, rfl, ar, _, rfl, .inl (SqL.of er), _, _, rfl, rfl, ?_, rfl⟩
    show [some (V.ref ag), some (.ref ar), some (.ref ap), some (.ref as_), some (.ref aa), some (V.int (1 + ((given.map V.str).length : Int) + (vr.length : Int))), none, none, none, none, none, none, none] = _
    rw [show V.int (1 + ((given.map V.str).length : Int) + (vr.length : Int)) = vI first from congrArg V.int (by rw [List.length_map]; omega)]
  rintro σ' H' ⟨rfl, rfl⟩
  rw [← hfirst] at pok rok
  refine ⟨by show 1 ≤ sizeLine; decide, fun z0 hz0 => ?_⟩
  have s0 := same_new hz0 (.lst [V.int 0])
  refine ⟨_, rfl, _, rfl, ap, _, rfl, .inl (SqL.of (s0 _ _ ep)), _, _, rfl, rfl, z0, _, [V.int 0], rfl, rfl, upd_same, by omega, by omega, ?_, fun NL hNL => ?_⟩
  · rw [show ((first : Int) + (vp.length : Int)).toNat = first + vp.length by omega]
    show 1 * _ ≤ _
    exact le1000 (by omega)
  have hNL0 := s0.free hNL
  have s1 := s0.trans (same_new hNL (.lst (List.replicate ((first : Int) + (vp.length : Int)).toNat [V.int 0]).flatten))
  have eNL := upd_same (H := upd H' z0 (.lst [V.int 0])) (a := NL) (o := .lst (List.replicate ((first : Int) + (vp.length : Int)).toNat [V.int 0]).flatten)
  rw [show ((first : Int) + (vp.length : Int)).toNat = first + pairs.length by omega, flat_rep] at s1 eNL ⊢
  generalize upd (upd H' z0 (.lst [V.int 0])) NL (.lst ((List.replicate (first + pairs.length) 0).map vI)) = H1 at s1 eNL ⊢
  -- the ends
  refine ⟨_, rfl, ar, rfl, ⟨_, SqL.of (s1 _ _ er)⟩, fun D1 hD1 => ?_⟩
  refine lc_rows (walk_list (xs := vr)) (rows := rows) (f := regD) (g := fun r => r.2.2) (h := intD) (fun H' sm => SqL.of (sm _ _ (s1 _ _ er))) hD1 (lr.keep' (.same s1)) (by omega) (fun i x r H' R Z hr sm lx k => ?_) (fun us1 H2 s2 eD1 lu1 => ?_)
  · obtain ⟨q, rfl, eq⟩ := lx.reg
    exact ⟨rfl, _, rfl, q, _, _, _, rfl, rfl, SqT.of eq, atI_nat (j := 2) rfl, k _ _ (.refl _) (.int _)⟩
  rw [lay_intD lu1] at eD1
  have s12 := s1.trans s2
  refine ⟨_, rfl, as_, rfl, ⟨_, SqL.of (s12 _ _ es)⟩, fun D2 hD2 => ?_⟩
  refine lc_rows (walk_list (xs := vs_)) (rows := shown) (f := namD) (g := fun r => r.2) (h := intD) (fun H' sm => SqL.of (sm _ _ (s12 _ _ es))) hD2 (ls.keep' (.same s12)) (by omega) (fun i x r H' R Z hr sm lx k => ?_) (fun us2 H3 s3 eD2 lu2 => ?_)
  · obtain ⟨q, rfl, eq⟩ := lx.nam
    exact ⟨rfl, _, rfl, q, _, _, _, rfl, rfl, SqT.of eq, atI_nat (j := 1) rfl, k _ _ (.refl _) (.int _)⟩
  rw [lay_intD lu2] at eD2
  have s13 := s12.trans s3
  refine ⟨D1, D2, _, _, rfl, rfl, s3 _ _ eD1, eD2, by rw [List.length_map, List.length_map, List.length_map, List.length_map]; exact le1000 (by omega), fun Z1 hZ1 => ?_⟩
  have s14 := s13.trans (same_new hZ1 (.lst ((rows.map fun r => r.2.2).map vI ++ (shown.map fun r => r.2).map vI)))
  have eZ1 := upd_same (H := H3) (a := Z1) (o := .lst ((rows.map fun r => r.2.2).map vI ++ (shown.map fun r => r.2).map vI))
  have s24 := (s2.trans s3).trans (same_new hZ1 (.lst ((rows.map fun r => r.2.2).map vI ++ (shown.map fun r => r.2).map vI)))
  refine ⟨_, rfl, aa, rfl, ⟨_, SqL.of (s14 _ _ ea)⟩, fun D3 hD3 => ?_⟩
  refine lc_rows (walk_list (xs := va)) (rows := asked) (f := namD) (g := fun r => r.2) (h := intD) (fun H' sm => SqL.of (sm _ _ (s14 _ _ ea))) hD3 (la.keep' (.same s14)) (by omega) (fun i x r H' R Z hr sm lx k => ?_) (fun us3 H5 s5 eD3 lu3 => ?_)
  · obtain ⟨q, rfl, eq⟩ := lx.nam
    exact ⟨rfl, _, rfl, q, _, _, _, rfl, rfl, SqT.of eq, atI_nat (j := 1) rfl, k _ _ (.refl _) (.int _)⟩
  rw [lay_intD lu3] at eD3
  have s15 := s14.trans s5
  refine ⟨Z1, D3, _, _, rfl, rfl, s5 _ _ eZ1, eD3, by rw [List.length_append, List.length_map, List.length_map, List.length_map, List.length_map, List.length_map, List.length_map]; exact le1000 (by omega), fun Z hZ => ?_⟩
  have eEnds : (rows.map fun r => r.2.2).map vI ++ (shown.map fun r => r.2).map vI ++ (asked.map fun r => r.2).map vI = (endsL rows shown asked).map vI := by
    unfold endsL
    rw [List.map_append, List.map_append]
  rw [eEnds]
  have s16 := s15.trans (same_new hZ (.lst ((endsL rows shown asked).map vI)))
  have eZ := upd_same (H := H5) (a := Z) (o := .lst ((endsL rows shown asked).map vI))
  have eNL6 := ((s24.trans s5).trans (same_new hZ (.lst ((endsL rows shown asked).map vI)))) _ _ eNL
  have nZ : NL ≠ Z := ne_of_none ((s24.trans s5) _ _ eNL) hZ
  generalize upd H5 Z (.lst ((endsL rows shown asked).map vI)) = H6 at s16 eZ eNL6 ⊢
  clear eZ1 eD3 eD2 eD1 lu1 lu2 lu3 s24 s15 s14 s13 s12 s5 s3 s2 hZ hZ1 hD3 hD2 hD1 eNL s1 hNL s0 hz0
  refine ⟨Z, rfl, ⟨_, SqL.of eZ⟩, for_it (walk_list (xs := (endsL rows shown asked).map vI)) (fun i σ' H'' => ∃ v7 : Option V, σ' = [some (.ref ag), some (.ref ar), some (.ref ap), some (.ref as_), some (.ref aa), some (vI first), some (.ref NL), v7, none, none, none, none, none] ∧ Same H' H'' ∧ H'' Z = some (.lst ((endsL rows shown asked).map vI)) ∧ H'' NL = some (.lst ((markAll (List.replicate (first + pairs.length) 0) ((endsL rows shown asked).take i)).map vI)))
    ⟨_, rfl, s16, eZ, eNL6⟩ (fun i σ' H' hi p => ?_) (fun i x σ' H7 H8 hi pv y => ?_) (fun σ' H7 pv => ?_)⟩
  · obtain ⟨_, _, _, e, _⟩ := p
    exact SqL.of e
  · obtain ⟨v7, rfl, sm, eZ7, eN7⟩ := pv
    obtain ⟨rfl, hx⟩ := y
    obtain ⟨l, hl, rfl⟩ := natAt hx
    have hlt := rok.ends l (List.mem_of_getElem? hl)
    have hlen : (markAll (List.replicate (first + pairs.length) 0) ((endsL rows shown asked).take i)).length = first + pairs.length := by rw [markAll_len, List.length_replicate]
    refine ⟨_, rfl, _, rfl, l, rfl, rfl, NL, _, _, l / 2, rfl, rfl, eN7, by rw [List.length_map, hlen]; exact ixN_nat (by omega), some (vI l), rfl, same_two sm hNL0, by rw [upd_ne nZ.symm]; exact eZ7, ?_⟩
    rw [upd_same, take_snoc hl, markAll_snoc]
    exact congrArg (fun l => some (HO.lst l)) (set_vI _ _ 1)
  obtain ⟨v7, rfl, sm7, _, eN7⟩ := pv
  rw [List.length_map, List.take_length] at eN7
  generalize eL0 : markAll (List.replicate (first + pairs.length) 0) (endsL rows shown asked) = l0 at eN7
  have ll0 : l0.length = first + pairs.length := by rw [← eL0, markAll_len, List.length_replicate]
  clear s16 eZ eNL6 nZ
  -- what is needed, from the last pair on
  refine ⟨_, rfl, ap, _, rfl, .inl (SqL.of (sm7 _ _ ep)), _, rfl, .of_le (by decide) (by omega) (by decide) (by omega), fun B hB => ?_⟩
  have sB := same_new hB (.lst (rgV 0 (vp.length : Int)))
  have eRg : rgV 0 (vp.length : Int) = (List.range vp.length).map vI := by
    unfold rgV
    rw [show ((vp.length : Int) - 0).toNat = vp.length by omega]
    refine List.map_congr_left fun i _ => ?_
    show V.int _ = V.int _
    congr 1
    omega
  rw [eRg] at sB ⊢
  have eB := upd_same (H := H7) (a := B) (o := .lst ((List.range vp.length).map vI))
  have nB : NL ≠ B := ne_of_none eN7 hB
  have eN8 := sB _ _ eN7
  have s8 := sm7.trans sB
  generalize upd H7 B (.lst ((List.range vp.length).map vI)) = H8 at eB eN8 s8 ⊢
  refine ⟨B, _, rfl, SqL.of eB, for_it (walk_rev (xs := (List.range vp.length).map vI)) (fun i σ' H'' => ∃ v8 : Option V, σ' = [some (.ref ag), some (.ref ar), some (.ref ap), some (.ref as_), some (.ref aa), some (vI first), some (.ref NL), v7, v8, none, none, none, none] ∧ Same H' H'' ∧ H'' B = some (.lst ((List.range vp.length).map vI)) ∧ H'' NL = some (.lst ((needTo first pairs l0 i).map vI)))
    ⟨_, rfl, s8, eB, eN8⟩ (fun i σ' H' hi p => ?_) (fun i x σ' H9 H10 hi pv y => ?_) (fun σ' H9 pv => ?_)⟩
  · obtain ⟨_, _, _, e, _⟩ := p
    exact SqL.of e
  · obtain ⟨v8, rfl, sm, eB9, eN9⟩ := pv
    obtain ⟨rfl, hx⟩ := y
    rw [List.length_map, List.length_range] at hx hi
    obtain ⟨k, hk, rfl⟩ := natAt hx
    have hk2 : k = vp.length - 1 - i := by
      rw [List.getElem?_range (by omega)] at hk
      exact (Option.some.inj hk).symm
    have hkl : k < pairs.length := by omega
    have ln := needTo_len first pairs l0 i
    obtain ⟨pp, hpp⟩ : ∃ p, pairs[k]? = some p := ⟨_, List.getElem?_eq_getElem hkl⟩
    have epg : pairs.getD k (0, 0) = pp := by rw [List.getD_eq_getElem?_getD, hpp]; rfl
    have po := pok k pp hpp
    obtain ⟨vv, hvv, lvv⟩ := (lp.keep' (.same sm)).at_ (d := pairD pp) k (by rw [List.getElem?_map, hpp]; rfl)
    obtain ⟨qq, rfl, eqq⟩ := lvv.pair
    have hfk : (needTo first pairs l0 i)[first + k]? = some (needTo first pairs l0 i)[first + k] := List.getElem?_eq_getElem (by omega)
    have efk : (needTo first pairs l0 i).getD (first + k) 0 = (needTo first pairs l0 i)[first + k] := by rw [List.getD_eq_getElem?_getD, hfk]; rfl
    have est : needTo first pairs l0 (i + 1) = needStep first pairs (needTo first pairs l0 i) k := by rw [needTo, hk2, lvp]
    have hat : atI ((needTo first pairs l0 i).map vI) ((first : Int) + (k : Int)) = some (vI (needTo first pairs l0 i)[first + k]) := by
      rw [show (first : Int) + (k : Int) = ((first + k : Nat) : Int) by omega]
      exact atI_nat (by rw [List.getElem?_map, hfk]; rfl)
    refine ⟨_, rfl, _, rfl, _, rfl, _, _, rfl, rfl, NL, _, _, _, rfl, rfl, SqL.of eN9, hat, rfl, _, rfl, ite2 (fun z => ?_) (fun z => ?_)⟩
    · have e1 : (needTo first pairs l0 i)[first + k] = 1 := by have := V.int.inj (of_decide_eq_true z); omega
      refine ⟨_, rfl, _, rfl, _, rfl, ap, _, _, _, rfl, rfl, SqL.of (sm _ _ ep), atI_nat hvv, qq, _, _, _, rfl, rfl, SqT.of eqq, atI_nat (j := 0) rfl, pp.1, rfl, rfl, NL, _, _, pp.1 / 2, rfl, rfl, eN9, by rw [List.length_map, ln, ll0]; exact ixN_nat (by omega), ?_⟩
      have eN10 : upd H10 NL (.lst (((needTo first pairs l0 i).map vI).set (pp.1 / 2) (V.int 1))) NL = some (.lst (((needTo first pairs l0 i).set (pp.1 / 2) 1).map vI)) := by
        rw [upd_same]
        exact congrArg (fun l => some (HO.lst l)) (set_vI _ _ 1)
      have s10 := same_two (o := .lst (((needTo first pairs l0 i).map vI).set (pp.1 / 2) (V.int 1))) sm hNL0
      have eB10 : upd H10 NL (.lst (((needTo first pairs l0 i).map vI).set (pp.1 / 2) (V.int 1))) B = some (.lst ((List.range vp.length).map vI)) := by rw [upd_ne nB.symm]; exact eB9
      have eqq10 : upd H10 NL (.lst (((needTo first pairs l0 i).map vI).set (pp.1 / 2) (V.int 1))) qq = some (.tup [vI pp.1, vI pp.2]) := by rw [upd_ne (fun z => by rw [z, eN9] at eqq; cases eqq)]; exact eqq
      generalize upd H10 NL (.lst (((needTo first pairs l0 i).map vI).set (pp.1 / 2) (V.int 1))) = H11 at eN10 s10 eB10 eqq10 ⊢
      refine ⟨_, rfl, _, rfl, _, rfl, ap, _, _, _, rfl, rfl, SqL.of (s10 _ _ ep), atI_nat hvv, qq, _, _, _, rfl, rfl, SqT.of eqq10, atI_nat (j := 1) rfl, pp.2, rfl, rfl, NL, _, _, pp.2 / 2, rfl, rfl, eN10, by rw [List.length_map, List.length_set, ln, ll0]; exact ixN_nat (by omega), some (vI k), rfl, same_two s10 hNL0, by rw [upd_ne nB.symm]; exact eB10, ?_⟩
      rw [upd_same, est, needStep, if_pos (by rw [efk, e1]), epg]
      exact congrArg (fun l => some (HO.lst l)) (set_vI _ _ 1)
    · have e1 : ¬ (needTo first pairs l0 i)[first + k] = 1 := fun e => z (decide_eq_true (by rw [e]; rfl))
      refine ⟨some (vI k), rfl, sm, eB9, ?_⟩
      rw [est, needStep, if_neg (by rw [efk]; exact e1)]
      exact eN9
  obtain ⟨v8, rfl, sm9, _, eN9⟩ := pv
  rw [List.length_map, List.length_range, lvp] at eN9
  have eNeed : needTo first pairs l0 pairs.length = needL first rows pairs shown asked := by rw [needL, eL0]
  rw [eNeed] at eN9
  have lneed := need_len (first := first) rows pairs shown asked
  have hc : ∀ (k : Nat) (p : Nat × Nat), pairs[k]? = some p → Fl (needL first rows pairs shown asked) (first + k) → Fl (needL first rows pairs shown asked) (p.1 / 2) ∧ Fl (needL first rows pairs shown asked) (p.2 / 2) := fun k p e h => by
    rw [← eNeed] at h ⊢
    exact need_closed pok ll0 e h
  generalize eND : needL first rows pairs shown asked = need at eN9 lneed hc
  clear eNeed eN8 s8 eB nB sB eRg hB sm7
  -- the news
  refine ⟨_, rfl, (first : Int), rfl, by omega, by omega, fun NW hNW => ?_⟩
  refine lc_rangeL (n := first) (g := fun i => 2 * i) (h := intD) hNW (by omega) (fun i H' R Z hi sm k => ?_) (fun us H10 s10 eNW lus => ?_)
  · refine ⟨rfl, _, rfl, _, _, rfl, rfl, .inl ⟨by decide, by decide⟩, k _ _ (.refl _) ?_⟩
    show Lay _ (V.int (2 * (0 + (i : Int)))) (PyData.int ((2 * i : Nat) : Int))
    rw [show (2 * (0 + (i : Int))) = ((2 * i : Nat) : Int) by omega]
    exact .int _
  rw [lay_intD lus] at eNW
  have s910 := sm9.trans s10
  have eN10 := s10 _ _ eN9
  have hNW0 := sm9.free hNW
  refine ⟨Nat.zero_le _, fun KP hKP => ?_⟩
  have hKP0 := s910.free hKP
  have s11 := s910.trans (same_new hKP (.lst []))
  have eNW11 := same_new hKP (.lst []) _ _ eNW
  have eN11 := same_new hKP (.lst []) _ _ eN10
  have eKP11 := upd_same (H := H10) (a := KP) (o := .lst [])
  have nNW_N : NW ≠ NL := fun z => by rw [z, eN9] at hNW; cases hNW
  have nKP_NW : KP ≠ NW := (ne_of_none eNW hKP).symm
  have nKP_N : KP ≠ NL := (ne_of_none eN10 hKP).symm
  generalize upd H10 KP (.lst []) = H11 at s11 eNW11 eN11 eKP11 ⊢
  refine ⟨_, rfl, ap, _, rfl, .inl (SqL.of (s11 _ _ ep)), (vp.length : Int), rfl, by omega, by omega, for_it walk_range (fun i σ' H'' => ∃ (v8 : Option V) (kp : List V), σ' = [some (.ref ag), some (.ref ar), some (.ref ap), some (.ref as_), some (.ref aa), some (vI first), some (.ref NL), v7, v8, some (.ref NW), some (.ref KP), none, none] ∧ Same H' H'' ∧
      H'' NL = some (.lst (need.map vI)) ∧ H'' NW = some (.lst ((keepTo first need pairs i).1.map vI)) ∧ H'' KP = some (.lst kp) ∧ LayAll H'' kp ((keepTo first need pairs i).2.map pairD))
    ⟨_, [], rfl, s11, eN11, eNW11, eKP11, .nil⟩ (fun _ _ _ _ _ => trivial) (fun i x σ' H12 H13 hi pv y => ?_) (fun σ' H12 pv => ?_)⟩
  · obtain ⟨v8, kp, rfl, sm, eN12, eNW12, eKP12, lkp⟩ := pv
    obtain ⟨rfl, rfl⟩ := y
    have hi' : i < pairs.length := by have : i < vp.length := by simpa using hi
                                      omega
    have kok := KpOk.all (need := need) pok hc i (by omega)
    have lkl := list_len lkp
    have km := kok.many
    obtain ⟨pp, hpp⟩ : ∃ p, pairs[i]? = some p := ⟨_, List.getElem?_eq_getElem hi'⟩
    have epg : pairs.getD i (0, 0) = pp := by rw [List.getD_eq_getElem?_getD, hpp]; rfl
    have po := pok i pp hpp
    have hfk : need[first + i]? = some need[first + i] := List.getElem?_eq_getElem (by omega)
    have efk : need.getD (first + i) 0 = need[first + i] := by rw [List.getD_eq_getElem?_getD, hfk]; rfl
    have hat : atI (need.map vI) ((first : Int) + (0 + (i : Int))) = some (vI need[first + i]) := by
      rw [show (first : Int) + (0 + (i : Int)) = ((first + i : Nat) : Int) by omega]
      exact atI_nat (by rw [List.getElem?_map, hfk]; rfl)
    refine ⟨_, rfl, .inl ⟨rfl, _, SqL.of eNW12⟩, _, rfl, _, rfl, KP, _, rfl, .inl (SqL.of eKP12), _, _, rfl, rfl, _, _, rfl, rfl, .inl ⟨by decide, by decide⟩, NW, _, _, rfl, rfl, eNW12, by rw [List.length_map, kok.len]; exact small1000 (by omega), ?_⟩
    have eV : V.int (2 * ((first : Int) + (kp.length : Int))) = vI (2 * (first + (keepTo first need pairs i).2.length)) := congrArg V.int (by rw [lkl]; omega)
    have eLst : (keepTo first need pairs i).1.map vI ++ [V.int (2 * ((first : Int) + (kp.length : Int)))] = ((keepTo first need pairs i).1 ++ [2 * (first + (keepTo first need pairs i).2.length)]).map vI := by rw [eV, List.map_append]; rfl
    have s13 := same_two (o := .lst ((keepTo first need pairs i).1.map vI ++ [V.int (2 * ((first : Int) + (kp.length : Int)))])) sm hNW0
    have eNW13 := upd_same (H := H13) (a := NW) (o := .lst ((keepTo first need pairs i).1.map vI ++ [V.int (2 * ((first : Int) + (kp.length : Int)))]))
    have eN13 : upd H13 NW (.lst ((keepTo first need pairs i).1.map vI ++ [V.int (2 * ((first : Int) + (kp.length : Int)))])) NL = _ := (upd_ne nNW_N.symm).trans eN12
    have eKP13 : upd H13 NW (.lst ((keepTo first need pairs i).1.map vI ++ [V.int (2 * ((first : Int) + (kp.length : Int)))])) KP = _ := (upd_ne nKP_NW).trans eKP12
    have lkp13 := lkp.keep' (.lst (o := .lst ((keepTo first need pairs i).1.map vI ++ [V.int (2 * ((first : Int) + (kp.length : Int)))])) eNW12)
    have llp13 := (lp.keep' (.same sm)).keep' (.lst (o := .lst ((keepTo first need pairs i).1.map vI ++ [V.int (2 * ((first : Int) + (kp.length : Int)))])) eNW12)
    rw [eLst] at s13 eNW13 eN13 eKP13 lkp13 llp13 ⊢
    generalize upd H13 NW (.lst (((keepTo first need pairs i).1 ++ [2 * (first + (keepTo first need pairs i).2.length)]).map vI)) = H14 at s13 eNW13 eN13 eKP13 lkp13 llp13 ⊢
    obtain ⟨vv, hvv, lvv⟩ := llp13.at_ (d := pairD pp) i (by rw [List.getElem?_map, hpp]; rfl)
    obtain ⟨qq, rfl, eqq⟩ := lvv.pair
    have hvp : atI vp (0 + (i : Int)) = some (.ref qq) := by rw [Int.zero_add]; exact atI_nat hvv
    refine ⟨_, rfl, _, rfl, _, rfl, _, _, rfl, rfl, NL, _, _, _, rfl, rfl, SqL.of eN13, hat, rfl, _, rfl, ite2 (fun z => ?_) (fun z => ?_)⟩
    · have e1 : need[first + i] = 1 := by have := V.int.inj (of_decide_eq_true z); omega
      have eK : keepTo first need pairs (i + 1) = ((keepTo first need pairs i).1 ++ [2 * (first + (keepTo first need pairs i).2.length)], (keepTo first need pairs i).2 ++ [(litN ((keepTo first need pairs i).1 ++ [2 * (first + (keepTo first need pairs i).2.length)]) pp.1, litN ((keepTo first need pairs i).1 ++ [2 * (first + (keepTo first need pairs i).2.length)]) pp.2)]) := by
        rw [keepTo]
        simp only [epg]
        rw [if_pos (by rw [efk]; exact e1)]
      have ln14 : ((keepTo first need pairs i).1 ++ [2 * (first + (keepTo first need pairs i).2.length)]).length = first + i + 1 := by rw [List.length_append, kok.len]; rfl
      refine ⟨_, rfl, .inl ⟨rfl, _, SqL.of eKP13⟩, ?_⟩
      refine ⟨_, rfl, _, rfl, _, rfl, ap, _, _, _, rfl, rfl, SqL.of (s13 _ _ ep), hvp, qq, _, _, _, rfl, rfl, SqT.of eqq, atI_nat (j := 0) rfl, NW, _, pp.1, rfl, SqL.of eNW13, by omega, ?_⟩
      refine ⟨_, rfl, _, rfl, _, rfl, ap, _, _, _, rfl, rfl, SqL.of (s13 _ _ ep), hvp, qq, _, _, _, rfl, rfl, SqT.of eqq, atI_nat (j := 1) rfl, NW, _, pp.2, rfl, SqL.of eNW13, by omega, ?_⟩
      refine ⟨by show 2 ≤ sizeLine; decide, fun u hu => ?_⟩
      have su := same_new hu (.tup [vI (litN ((keepTo first need pairs i).1 ++ [2 * (first + (keepTo first need pairs i).2.length)]) pp.1), vI (litN ((keepTo first need pairs i).1 ++ [2 * (first + (keepTo first need pairs i).2.length)]) pp.2)])
      refine ⟨KP, _, _, rfl, rfl, su _ _ eKP13, len1000 (by omega), some (.int (0 + (i : Int))), kp ++ [.ref u], rfl, same_two (s13.trans su) hKP0, by rw [upd_ne nKP_N.symm]; exact su _ _ eN13, by rw [upd_ne nKP_NW.symm, eK]; exact su _ _ eNW13, upd_same, ?_⟩
      rw [eK, List.map_append]
      exact ((lkp13.keep' (.same su)).snoc (.mkPair upd_same)).keep' (.lst (su _ _ eKP13))
    · have e1 : ¬ need[first + i] = 1 := fun e => z (decide_eq_true (by rw [e]; rfl))
      have eK : keepTo first need pairs (i + 1) = ((keepTo first need pairs i).1 ++ [2 * (first + (keepTo first need pairs i).2.length)], (keepTo first need pairs i).2) := by
        rw [keepTo]
        exact if_neg (by rw [efk]; exact e1)
      refine ⟨some (.int (0 + (i : Int))), kp, rfl, s13, eN13, ?_, eKP13, ?_⟩
      · rw [eK]; exact eNW13
      · rw [eK]; exact lkp13
  obtain ⟨v8', kp, rfl, sm12, eN12, eNW12, eKP12, lkp⟩ := pv
  rw [show ((vp.length : Int)).toNat = pairs.length by omega] at eNW12 lkp
  have kok := KpOk.all (need := need) pok hc pairs.length (Nat.le_refl _)
  have lnw := kok.len
  have kml := kok.many
  have lkl := list_len lkp
  generalize eKK : keepTo first need pairs pairs.length = KK at eNW12 lkp kok lnw kml lkl
  obtain ⟨news, kept⟩ := KK
  clear s11 eNW11 eN11 eKP11 s910 eN10 eNW lus
  -- the rows
  refine ⟨_, rfl, ar, rfl, ⟨_, SqL.of (sm12 _ _ er)⟩, fun D1 hD1 => ?_⟩
  refine lc_rows (walk_list (xs := vr)) (rows := rows) (f := regD) (g := mapR news) (h := regD) (fun H' sm => SqL.of (sm _ _ (sm12 _ _ er))) hD1 (lr.keep' (.same sm12)) (by omega) (fun i x r H' R Z hr sm lx k => ?_) (fun us1 H2 s2 eD1 lu1 => ?_)
  · obtain ⟨q, rfl, eq⟩ := lx.reg
    have hrl := (rok.regs r (List.mem_of_getElem? hr)).2
    refine ⟨rfl, _, rfl, q, _, _, _, rfl, rfl, SqT.of eq, atI_nat (j := 0) rfl, _, rfl, q, _, _, _, rfl, rfl, SqT.of eq, atI_nat (j := 1) rfl, _, rfl, _, rfl, q, _, _, _, rfl, rfl, SqT.of eq, atI_nat (j := 2) rfl, NW, news, r.2.2, rfl, SqL.of (sm _ _ eNW12), by simp only [] at lnw; omega, by show 3 ≤ sizeLine; decide, fun u hu => k _ _ (same_new hu _) (.mkReg upd_same)⟩
  have s12 := sm12.trans s2
  have eNW2 := s2 _ _ eNW12
  refine ⟨_, rfl, as_, rfl, ⟨_, SqL.of (s12 _ _ es)⟩, fun D2 hD2 => ?_⟩
  refine lc_rows (walk_list (xs := vs_)) (rows := shown) (f := namD) (g := mapN news) (h := namD) (fun H' sm => SqL.of (sm _ _ (s12 _ _ es))) hD2 (ls.keep' (.same s12)) (by omega) (fun i x r H' R Z hr sm lx k => ?_) (fun us2 H3 s3 eD2 lu2 => ?_)
  · obtain ⟨q, rfl, eq⟩ := lx.nam
    have hrl := rok.outs r (List.mem_of_getElem? hr)
    refine ⟨rfl, _, rfl, q, _, _, _, rfl, rfl, SqT.of eq, atI_nat (j := 0) rfl, _, rfl, _, rfl, q, _, _, _, rfl, rfl, SqT.of eq, atI_nat (j := 1) rfl, NW, news, r.2, rfl, SqL.of (sm _ _ eNW2), by simp only [] at lnw; omega, by show 2 ≤ sizeLine; decide, fun u hu => k _ _ (same_new hu _) (.mkNam upd_same)⟩
  have s13 := s12.trans s3
  have eNW3 := s3 _ _ eNW2
  refine ⟨_, rfl, aa, rfl, ⟨_, SqL.of (s13 _ _ ea)⟩, fun D3 hD3 => ?_⟩
  refine lc_rows (walk_list (xs := va)) (rows := asked) (f := namD) (g := mapN news) (h := namD) (fun H' sm => SqL.of (sm _ _ (s13 _ _ ea))) hD3 (la.keep' (.same s13)) (by omega) (fun i x r H' R Z hr sm lx k => ?_) (fun us3 H4 s4 eD3 lu3 => ?_)
  · obtain ⟨q, rfl, eq⟩ := lx.nam
    have hrl := rok.cls r (List.mem_of_getElem? hr)
    refine ⟨rfl, _, rfl, q, _, _, _, rfl, rfl, SqT.of eq, atI_nat (j := 0) rfl, _, rfl, _, rfl, q, _, _, _, rfl, rfl, SqT.of eq, atI_nat (j := 1) rfl, NW, news, r.2, rfl, SqL.of (sm _ _ eNW3), by simp only [] at lnw; omega, by show 2 ≤ sizeLine; decide, fun u hu => k _ _ (same_new hu _) (.mkNam upd_same)⟩
  have s14 := s13.trans s4
  have eD1' := s4 _ _ (s3 _ _ eD1)
  have eD2' := s4 _ _ eD2
  have eKP4 := s4 _ _ (s3 _ _ (s2 _ _ eKP12))
  have lu1' := lu1.keep' (.same (s3.trans s4))
  have lu2' := lu2.keep' (.same s4)
  have lkp4 := lkp.keep' (.same ((s2.trans s3).trans s4))
  clear s2 s3 s4 s12 s13 eD1 eD2 lu1 lu2 lkp eKP12 eNW12 eNW2 eNW3 eN12 sm12 hD1 hD2 hD3
  refine ⟨_, rfl, ag, _, rfl, .inr ⟨SqT.of (s14 _ _ eg), ?_⟩⟩
  refine ⟨_, rfl, D1, _, rfl, .inl ⟨SqL.of eD1', fun t1 h1 => ?_⟩⟩
  have q1 := same_new h1 (.tup us1)
  refine ⟨_, rfl, KP, _, rfl, .inl ⟨SqL.of (q1 _ _ eKP4), fun t2 h2 => ?_⟩⟩
  have q2 := same_new h2 (.tup kp)
  refine ⟨_, rfl, D2, _, rfl, .inl ⟨SqL.of ((q1.trans q2) _ _ eD2'), fun t3 h3 => ?_⟩⟩
  have q3 := same_new h3 (.tup us2)
  refine ⟨_, rfl, D3, _, rfl, .inl ⟨SqL.of (((q1.trans q2).trans q3) _ _ eD3), fun t4 h4 => ?_⟩⟩
  have q4 := same_new h4 (.tup us3)
  refine ⟨by show 6 ≤ sizeLine; decide, fun tt ht => ?_⟩
  have q5 := same_new ht (.tup [.str "net", .ref ag, .ref t1, .ref t2, .ref t3, .ref t4])
  have q15 := (((q1.trans q2).trans q3).trans q4).trans q5
  have eClose : closeN given rows pairs shown asked = ⟨given, rows.map (mapR news), kept, shown.map (mapN news), asked.map (mapN news)⟩ := by
    unfold closeN
    simp only [← hfirst, eND, eKK]
  rw [eClose] at q
  refine q _ _ (s14.trans q15) (NetAt.lay ⟨upd_same, (s14.trans q15) _ _ eg, ((((q2.trans q3).trans q4).trans q5) _ _ upd_same), lu1'.keep' (.same q15), (((q3.trans q4).trans q5) _ _ upd_same), lkp4.keep' (.same q15), ((q4.trans q5) _ _ upd_same), lu2'.keep' (.same q15), q5 _ _ upd_same, lu3.keep' (.same q15)⟩)
end

end Bf

set_option Elab.async false
set_option linter.all false
set_option maxRecDepth 100000
set_option maxHeartbeats 4000000
namespace Bf
open PySem PySem.Spec PyProof.Rows L2
/-! ### the tidy net -/
section
variable {P : Program} {w : World} {K : PySem.W.Frag} {mg : Str → Option Value} {base : Heap} {f : Addr} {fd : FuncData}
theorem lit_at {news : List Nat} {l first i : Nat} (hl : news.length = first + i) (h : l < 2 * (first + i)) : l / 2 < news.length := by omega
theorem ok_tidied (F : Fun K "_law_tidied" "_law_tidied" s_law_tidied f fd) (T : Txt mg) (D_law_lit : Dn P w K mg base "_law_lit" ["_law_bits", "_law_literal"] 1 (spLitV K))
    (D_law_closed_up : Dn P w K mg base "_law_closed_up" ["_law_given", "_law_rows", "_law_pairs", "_law_shown", "_law_asked"] 2 spClosed) :
    FnOk P w K mg base CX0 3 f fd ["_law_net_here"] spTidied := by
  refine F.ok sc_law_tidied (fun vs H Q E h => ?_) (fun cdv A outer s H vs Q E hr h => ?_)
  · obtain ⟨_, _, rfl, _⟩ := h
    rfl
  obtain ⟨v, N, rfl, hv, R, i100, r100, a400, o100, c100, q⟩ := h
  refine ⟨_, (C8.pss_cut (ps_set (i := 1) sc_law_tidied.nd rfl (Or.inl rfl) (pe_op op_add (pe_op op_add pe_int (pe_callB call_len_seq (by rfl) T.n_len (by decide +kernel) (pa_cons (pe_ix ix_tup (pv 0) pe_int (fun _ _ => rfl)) pa_nil))) (pe_callB call_len_seq (by rfl) T.n_len (by decide +kernel) (pa_cons (pe_ix ix_tup (pv 0) pe_int (fun _ _ => rfl)) pa_nil))))
      (pss_cons (ps_set (i := 2) sc_law_tidied.nd rfl (Or.inr rfl) (pe_lc (own := [("_law_node", 12)]) (g := (gName 12)) (tt := tYes) rfl sc_law_tidied.nd (pi_range1 rfl T.n_range (pa_cons (pv 1) pa_nil)) (blkOk_by (N := ["_law_net_here", "_law_first", "_law_news", "_law_pairs", "_law_known", "_law_left", "_law_right", "_law_low", "_law_high", "_law_rows", "_law_shown", "_law_asked", "_law_node", "_law_row"]) (sc := defScope s_law_tidied) (by decide +kernel)) (fun _ _ _ _ _ => (pg_name (i := 12) sc_law_tidied.nd rfl (Or.inl rfl))) (fun _ _ _ _ _ => pts_nil) (fun _ _ _ _ _ => (pe_op op_mul pe_int (pv 12)))))
      (pss_cons (ps_set (i := 3) sc_law_tidied.nd rfl (Or.inl rfl) (pe_lst pa_nil))
      (pss_cons (ps_set (i := 4) sc_law_tidied.nd rfl (Or.inl rfl) pe_dnewT)
      (pss_cons (ps_for PassesOwn.never rfl (pi_tup (pe_ix ix_tup (pv 0) pe_int (fun _ _ => rfl))) (pg_tup rfl (pgs_cons (pg_name (i := 5) sc_law_tidied.nd rfl (Or.inl rfl)) (pgs_cons (pg_name (i := 6) sc_law_tidied.nd rfl (Or.inl rfl)) pgs_nil))) (pss_cons (ps_asg (pe_callB cr_sortedI (by rfl) T.n_sorted (by decide +kernel) (pa_cons (pe_lst (pa_cons (pe_dn D_law_lit (hr.mono (by omega)) (by rfl) (pa_cons (pv 2) (pa_cons (pv 5) pa_nil))) (pa_cons (pe_dn D_law_lit (hr.mono (by omega)) (by rfl) (pa_cons (pv 2) (pa_cons (pv 6) pa_nil))) pa_nil))) pa_nil)) (pg_unl rfl (pgs_cons (pg_name (i := 7) sc_law_tidied.nd rfl (Or.inl rfl)) (pgs_cons (pg_name (i := 8) sc_law_tidied.nd rfl (Or.inl rfl)) pgs_nil))))
      (pss_one (ps_if (PW.pt (pw_or (pt_cmpR op_eq (pv 7) pe_int (nomark _)) (pw_or1 (pt_cmpR op_eq (pe_op op_xorB (pv 7) pe_int) (pv 8) (nomark _))))) (pss_one (ps_expr (pe_bm PySem.F.plainAttrs_list PySem.F.slot_list_append PySem.F.type_list_append mt_append (pv 2) (pa_cons pe_int pa_nil)))) (pss_one (ps_if (PW.pt (pw_or (pt_cmpR op_eq (pv 7) pe_int (nomark _)) (pw_or1 (pt_cmpR op_eq (pv 7) (pv 8) (nomark _))))) (pss_one (ps_expr (pe_bm PySem.F.plainAttrs_list PySem.F.slot_list_append PySem.F.type_list_append mt_append (pv 2) (pa_cons (pv 8) pa_nil)))) (C8.pss_cut (ps_if (pt_cmp (pc_dnotin (hu_of hr) (pe_tup (pa_cons (pv 7) (pa_cons (pv 8) pa_nil))) (pv 4))) (pss_cons (ps_dput (hu_of hr) (pv 4) (pe_tup (pa_cons (pv 7) (pa_cons (pv 8) pa_nil))) (pe_op op_mul pe_int (pe_op op_add (pv 1) (pe_callB call_len_seq (by rfl) T.n_len (by decide +kernel) (pa_cons (pv 3) pa_nil)))) rfl)
      (pss_one (ps_expr (pe_bm PySem.F.plainAttrs_list PySem.F.slot_list_append PySem.F.type_list_append mt_append (pv 3) (pa_cons (pe_tup (pa_cons (pv 7) (pa_cons (pv 8) pa_nil))) pa_nil))))) pss_nil)
      (pss_one (ps_expr (pe_bm PySem.F.plainAttrs_list PySem.F.slot_list_append PySem.F.type_list_append mt_append (pv 2) (pa_cons (pe_dget (hu_of hr) (pv 4) (pe_tup (pa_cons (pv 7) (pa_cons (pv 8) pa_nil))) (fun _ _ => rfl)) pa_nil)))))))))))
      (pss_cons (ps_setLc (i := 9) (own := [("_law_row", 13)]) (g := (gName 13)) (tt := tYes) rfl sc_law_tidied.nd rfl rfl (sw_true rfl rfl rfl (by decide +kernel)) (pi_tup (pe_ix ix_tup (pv 0) pe_int (fun _ _ => rfl))) (blkOk_by (N := ["_law_net_here", "_law_first", "_law_news", "_law_pairs", "_law_known", "_law_left", "_law_right", "_law_low", "_law_high", "_law_rows", "_law_shown", "_law_asked", "_law_node", "_law_row"]) (sc := defScope s_law_tidied) (by decide +kernel)) (fun _ _ _ _ _ => (pg_name (i := 13) sc_law_tidied.nd rfl (Or.inl rfl))) (fun _ _ _ _ _ => pts_nil) (fun _ _ _ _ _ => (pe_tup (pa_cons (pe_ix (ix_tup : IxR _ (rIxT K)) (pv 13) pe_int (fun _ _ => rfl)) (pa_cons (pe_ix (ix_tup : IxR _ (rIxT K)) (pv 13) pe_int (fun _ _ => rfl)) (pa_cons (pe_dn D_law_lit (hr.mono (by omega)) (by rfl) (pa_cons (pv 2) (pa_cons (pe_ix (ix_tup : IxR _ (rIxT K)) (pv 13) pe_int (fun _ _ => rfl)) pa_nil))) pa_nil))))))
      (pss_cons (ps_setLc (i := 10) (own := [("_law_row", 13)]) (g := (gName 13)) (tt := tYes) rfl sc_law_tidied.nd rfl rfl (sw_true rfl rfl rfl (by decide +kernel)) (pi_tup (pe_ix ix_tup (pv 0) pe_int (fun _ _ => rfl))) (blkOk_by (N := ["_law_net_here", "_law_first", "_law_news", "_law_pairs", "_law_known", "_law_left", "_law_right", "_law_low", "_law_high", "_law_rows", "_law_shown", "_law_asked", "_law_node", "_law_row"]) (sc := defScope s_law_tidied) (by decide +kernel)) (fun _ _ _ _ _ => (pg_name (i := 13) sc_law_tidied.nd rfl (Or.inl rfl))) (fun _ _ _ _ _ => pts_nil) (fun _ _ _ _ _ => (pe_tup (pa_cons (pe_ix (ix_tup : IxR _ (rIxT K)) (pv 13) pe_int (fun _ _ => rfl)) (pa_cons (pe_dn D_law_lit (hr.mono (by omega)) (by rfl) (pa_cons (pv 2) (pa_cons (pe_ix (ix_tup : IxR _ (rIxT K)) (pv 13) pe_int (fun _ _ => rfl)) pa_nil))) pa_nil)))))
      (pss_cons (ps_setLc (i := 11) (own := [("_law_row", 13)]) (g := (gName 13)) (tt := tYes) rfl sc_law_tidied.nd rfl rfl (sw_true rfl rfl rfl (by decide +kernel)) (pi_tup (pe_ix ix_tup (pv 0) pe_int (fun _ _ => rfl))) (blkOk_by (N := ["_law_net_here", "_law_first", "_law_news", "_law_pairs", "_law_known", "_law_left", "_law_right", "_law_low", "_law_high", "_law_rows", "_law_shown", "_law_asked", "_law_node", "_law_row"]) (sc := defScope s_law_tidied) (by decide +kernel)) (fun _ _ _ _ _ => (pg_name (i := 13) sc_law_tidied.nd rfl (Or.inl rfl))) (fun _ _ _ _ _ => pts_nil) (fun _ _ _ _ _ => (pe_tup (pa_cons (pe_ix (ix_tup : IxR _ (rIxT K)) (pv 13) pe_int (fun _ _ => rfl)) (pa_cons (pe_dn D_law_lit (hr.mono (by omega)) (by rfl) (pa_cons (pv 2) (pa_cons (pe_ix (ix_tup : IxR _ (rIxT K)) (pv 13) pe_int (fun _ _ => rfl)) pa_nil))) pa_nil)))))
      (pss_one (ps_ret (pe_dn D_law_closed_up (hr.mono (by omega)) (by rfl) (pa_cons (pe_ix ix_tup (pv 0) pe_int (fun _ _ => rfl)) (pa_cons (pv 9) (pa_cons (pv 3) (pa_cons (pv 10) (pa_cons (pv 11) pa_nil)))))))))))))))), ?_⟩
  obtain ⟨p, pi, pr, pa, po, pc, vr, va, vo, vc, rfl, hN⟩ := hv.net
  have hl := hN.lens
  have hf1 : N.first ≤ 201 := by unfold Net.first; omega
  refine ⟨fun σ' H' => σ' = [some (.ref p), some (vI N.first), none, none, none, none, none, none, none, none, none, none, none, none] ∧ H' = H, ?_, ?_⟩
  · refine ⟨_, rfl, p, _, _, _, rfl, rfl, SqT.of hN.top, atI_nat (j := 1) rfl, pi, _, rfl, .inr (SqT.of hN.hi), _, _, rfl, rfl, _, rfl, p, _, _, _, rfl, rfl, SqT.of hN.top, atI_nat (j := 2) rfl, pr, _, rfl, .inr (SqT.of hN.hr), _, _, rfl, rfl, ?_, rfl⟩
    show [some (V.ref p), some (V.int (1 + ((N.ins.map V.str).length : Int) + (vr.length : Int))), none, none, none, none, none, none, none, none, none, none, none, none] = _
    rw [show V.int (1 + ((N.ins.map V.str).length : Int) + (vr.length : Int)) = vI N.first from congrArg V.int (by rw [List.length_map, hl.1]; unfold Net.first; omega)]
  rintro σ' H' ⟨rfl, rfl⟩
  refine ⟨_, rfl, (N.first : Int), rfl, by omega, by omega, fun NW hNW => ?_⟩
  refine lc_rangeL (n := N.first) (g := fun i => 2 * i) (h := intD) hNW (by omega) (fun i H' R Z hi sm k => ?_) (fun us H1 s1 eNW lus => ?_)
  · refine ⟨rfl, _, rfl, _, _, rfl, rfl, .inl ⟨by decide, by decide⟩, k _ _ (.refl _) ?_⟩
    show Lay _ (V.int (2 * (0 + (i : Int)))) (PyData.int ((2 * i : Nat) : Int))
    rw [show (2 * (0 + (i : Int))) = ((2 * i : Nat) : Int) by omega]
    exact .int _
  rw [lay_intD lus] at eNW
  refine ⟨Nat.zero_le _, fun PR hPR => ?_⟩
  have hPR0 := s1.free hPR
  have s2 := s1.trans (same_new hPR (.lst []))
  refine fun KN hKN => ?_
  have hKN0 := s2.free hKN
  have s3 := s2.trans (same_new hKN (.dT []))
  have eNW3 := same_new hKN (.dT []) _ _ (same_new hPR (.lst []) _ _ eNW)
  have ePR3 := same_new hKN (.dT []) _ _ (upd_same (H := H1) (a := PR) (o := .lst []))
  have eKN3 := upd_same (H := upd H1 PR (.lst [])) (a := KN) (o := .dT [])
  have nNP : NW ≠ PR := ne_of_none eNW hPR
  generalize upd (upd H1 PR (.lst [])) KN (.dT []) = H3 at s3 eNW3 ePR3 eKN3 ⊢
  have hN3 := hN.keep (.same s3)
  refine ⟨_, rfl, p, _, _, _, rfl, rfl, SqT.of hN3.top, atI_nat (j := 3) rfl, pa, rfl, ⟨_, SqT.of hN3.ha⟩, for_it (walk_tup (xs := va)) (fun i σ' H'' => ∃ (v5 v6 v7 v8 : Option V) (vp : List V), σ' = [some (.ref p), some (vI N.first), some (.ref NW), some (.ref PR), some (.ref KN), v5, v6, v7, v8, none, none, none, none, none] ∧ Same H' H'' ∧
      H'' NW = some (.lst ((tyTo N.first N.ands i).1.map vI)) ∧ H'' PR = some (.lst vp) ∧ LayAll H'' vp ((tyTo N.first N.ands i).2.map pairD) ∧ H'' KN = some (.dT (kvP N.first (tyTo N.first N.ands i).2)))
    ⟨_, _, _, _, [], rfl, s3, eNW3, ePR3, .nil, eKN3⟩ (fun i σ' H'' hi pv => ?_) (fun i x σ' H4 H5 hi pv y => ?_) (fun σ' H4 pv => ?_)⟩
  · obtain ⟨_, _, _, _, _, _, sm, _⟩ := pv
    exact SqT.of (sm _ _ hN.ha)
  · obtain ⟨v5, v6, v7, v8, vp, rfl, sm, eN, eP, lP, eK⟩ := pv
    obtain ⟨rfl, hx⟩ := y
    have hi' : i < N.ands.length := by omega
    have tok := TyOk.all (first := N.first) (ands := N.ands) (by unfold Net.first; omega) i (by omega)
    obtain ⟨qq, pp, rfl, hpp, eqq⟩ := (hN.keep (.same sm)).and_ hx
    have po := R.ands i pp hpp
    have lPl := list_len lP
    have tm := tok.many
    rw [tyTo_succ hpp]
    have tln := tok.len
    generalize tyTo N.first N.ands i = S at *
    obtain ⟨news, prs⟩ := S
    have tln : news.length = N.first + i := tln
    have tm : prs.length ≤ i := tm
    have nPK : PR ≠ KN := fun z => by rw [z, eK] at eP; cases eP
    have nNK : NW ≠ KN := fun z => by rw [z, eK] at eN; cases eN
    refine ⟨qq, _, rfl, SqT.of eqq, rfl, _, _, rfl, _, _, rfl, rfl, ?_⟩
    refine ⟨_, rfl, _, rfl, NW, news, pp.1, rfl, SqL.of eN, by omega, ?_⟩
    refine ⟨_, rfl, _, rfl, NW, news, pp.2, rfl, SqL.of eN, by omega, by show 2 ≤ sizeLine; decide, fun L hL => ?_⟩
    have sL := same_new hL (.lst [vI (litN news pp.1), vI (litN news pp.2)])
    refine ⟨L, [(litN news pp.1 : Int), (litN news pp.2 : Int)], rfl, SqL.of upd_same, fun ns' M hperm hsort hM => ?_⟩
    rw [minmax_sorted hperm hsort]
    have sM := sL.trans (same_new hM (.lst [vI (min (litN news pp.1) (litN news pp.2)), vI (max (litN news pp.1) (litN news pp.2))]))
    have eM := upd_same (H := upd H5 L (.lst [vI (litN news pp.1), vI (litN news pp.2)])) (a := M) (o := .lst [vI (min (litN news pp.1) (litN news pp.2)), vI (max (litN news pp.1) (litN news pp.2))])
    generalize elo : min (litN news pp.1) (litN news pp.2) = lo at *
    generalize ehi : max (litN news pp.1) (litN news pp.2) = hi at *
    have s6 := sm.trans sM
    have e6N := sM _ _ eN
    have e6P := sM _ _ eP
    have l6P := lP.keep' (.same sM)
    have e6K := sM _ _ eK
    rw [show List.map V.int [(lo : Int), (hi : Int)] = [vI lo, vI hi] from rfl]
    generalize upd (upd H5 L (.lst [vI (litN news pp.1), vI (litN news pp.2)])) M (.lst [vI lo, vI hi]) = H6 at s6 e6N e6P l6P e6K eM ⊢
    have eStep : tyStep N.first (news, prs) pp = if lo = 0 ∨ lo ^^^ 1 = hi then (news ++ [0], prs) else if lo = 1 ∨ lo = hi then (news ++ [hi], prs)
        else if (lo, hi) ∈ prs then (news ++ [2 * (N.first + prs.idxOf (lo, hi))], prs) else (news ++ [2 * (N.first + prs.length)], prs ++ [(lo, hi)]) := by
      unfold tyStep
      simp only [elo, ehi]
    have lnN : (news.map vI).length < sizeLine := by rw [List.length_map, tln]; exact small1000 (by omega)
    have fin : ∀ (H7 : Hp) (x : V) (v : Nat) (prs' : List (Nat × Nat)) (vp' : List V), x = vI v → tyStep N.first (news, prs) pp = (news ++ [v], prs') → Same H' H7 → H7 NW = some (.lst (news.map vI)) → H7 PR = some (.lst vp') → LayAll H7 vp' (prs'.map pairD) → H7 KN = some (.dT (kvP N.first prs')) →
        ∃ (v5 v6 v7 v8 : Option V) (vp : List V), [some (.ref p), some (vI N.first), some (.ref NW), some (.ref PR), some (.ref KN), some (vI pp.1), some (vI pp.2), some (vI lo), some (vI hi), none, none, none, none, none] = [some (.ref p), some (vI N.first), some (.ref NW), some (.ref PR), some (.ref KN), v5, v6, v7, v8, none, none, none, none, none] ∧
          Same H' (upd H7 NW (.lst (news.map vI ++ [x]))) ∧ upd H7 NW (.lst (news.map vI ++ [x])) NW = some (.lst ((tyStep N.first (news, prs) pp).1.map vI)) ∧ upd H7 NW (.lst (news.map vI ++ [x])) PR = some (.lst vp) ∧
          LayAll (upd H7 NW (.lst (news.map vI ++ [x]))) vp ((tyStep N.first (news, prs) pp).2.map pairD) ∧ upd H7 NW (.lst (news.map vI ++ [x])) KN = some (.dT (kvP N.first (tyStep N.first (news, prs) pp).2)) := by
      intro H7 x v prs' vp' ex e sm7 e7N e7P l7P e7K
      subst ex
      refine ⟨_, _, _, _, vp', rfl, same_two sm7 hNW, ?_, (upd_ne nNP.symm).trans e7P, ?_, ?_⟩
      · rw [upd_same, e, List.map_append]; rfl
      · rw [e]; exact l7P.keep' (.lst e7N)
      · rw [e]; exact (upd_ne nNK.symm).trans e7K
    refine ⟨M, _, rfl, SqL.of eM, rfl, _, _, rfl, _, _, rfl, rfl, ?_⟩
    have app : ∀ {c : Bool}, c = true → c = true := id
    refine ⟨_, rfl, rfl, _, rfl, ite2 (fun z => ?_) (fun z => ?_)⟩
    · have e0 : lo = 0 := by have := V.int.inj (of_decide_eq_true z); omega
      exact ⟨_, rfl, .inl ⟨rfl, _, SqL.of e6N⟩, NW, _, _, rfl, rfl, e6N, lnN, fin H6 _ 0 prs vp rfl (by rw [eStep, if_pos (.inl e0)]) s6 e6N e6P l6P e6K⟩
    have n0 : lo ≠ 0 := fun e => z (decide_eq_true (by rw [e]; rfl))
    refine ⟨_, rfl, lo, 1, rfl, rfl, _, rfl, rfl, _, rfl, ite2 (fun z => ?_) (fun z => ?_)⟩
    · have e0 : lo ^^^ 1 = hi := by have := V.int.inj (of_decide_eq_true z); omega
      exact ⟨_, rfl, .inl ⟨rfl, _, SqL.of e6N⟩, NW, _, _, rfl, rfl, e6N, lnN, fin H6 _ 0 prs vp rfl (by rw [eStep, if_pos (.inr e0)]) s6 e6N e6P l6P e6K⟩
    have nx : lo ^^^ 1 ≠ hi := fun e => z (decide_eq_true (by rw [e]))
    have nn : ¬ (lo = 0 ∨ lo ^^^ 1 = hi) := fun h => h.elim n0 nx
    refine ⟨_, rfl, rfl, _, rfl, ite2 (fun z => ?_) (fun z => ?_)⟩
    · have e0 : lo = 1 := by have := V.int.inj (of_decide_eq_true z); omega
      exact ⟨_, rfl, .inl ⟨rfl, _, SqL.of e6N⟩, _, rfl, NW, _, _, rfl, rfl, e6N, lnN, fin H6 _ hi prs vp rfl (by rw [eStep, if_neg nn, if_pos (.inl e0)]) s6 e6N e6P l6P e6K⟩
    have n1 : lo ≠ 1 := fun e => z (decide_eq_true (by rw [e]; rfl))
    refine ⟨_, rfl, _, rfl, rfl, _, rfl, ite2 (fun z => ?_) (fun z => ?_)⟩
    · have e0 : lo = hi := by have := V.int.inj (of_decide_eq_true z); omega
      exact ⟨_, rfl, .inl ⟨rfl, _, SqL.of e6N⟩, _, rfl, NW, _, _, rfl, rfl, e6N, lnN, fin H6 _ hi prs vp rfl (by rw [eStep, if_neg nn, if_pos (.inr e0)]) s6 e6N e6P l6P e6K⟩
    have n2 : lo ≠ hi := fun e => z (decide_eq_true (by rw [e]))
    have n12 : ¬ (lo = 1 ∨ lo = hi) := fun h => h.elim n1 n2
    rw [if_neg nn, if_neg n12] at eStep
    refine ⟨fun σ' H8 => ∃ (prs' : List (Nat × Nat)) (vp' : List V), σ' = [some (.ref p), some (vI N.first), some (.ref NW), some (.ref PR), some (.ref KN), some (vI pp.1), some (vI pp.2), some (vI lo), some (vI hi), none, none, none, none, none] ∧ Same H' H8 ∧ H8 NW = some (.lst (news.map vI)) ∧ H8 PR = some (.lst vp') ∧ LayAll H8 vp' (prs'.map pairD) ∧
      H8 KN = some (.dT (kvP N.first prs')) ∧ (lo, hi) ∈ prs' ∧ tyStep N.first (news, prs) pp = (news ++ [2 * (N.first + prs'.idxOf (lo, hi))], prs'), ?_, ?_⟩
    · refine ⟨_, rfl, _, rfl, by show 2 ≤ sizeLine; decide, fun t ht => ?_⟩
      have st := same_new ht (.tup [vI lo, vI hi])
      refine ⟨_, rfl, KN, _, rfl, DGet.t (k := pkey (lo, hi)) (st _ _ e6K) upd_same, _, rfl, ?_⟩
      rw [kvP_get]
      by_cases hm : (lo, hi) ∈ prs
      · rw [if_pos hm]
        refine iteF ?_
        exact ⟨prs, vp, rfl, s6.trans st, st _ _ e6N, st _ _ e6P, l6P.keep' (.same st), st _ _ e6K, hm, by rw [eStep, if_pos hm]⟩
      · rw [if_neg hm]
        refine iteT ?_
        have e7P := st _ _ e6P
        have e7K := st _ _ e6K
        have e7N := st _ _ e6N
        have l7P := l6P.keep' (.same st)
        have s7 := s6.trans st
        generalize upd H6 t (.tup [vI lo, vI hi]) = H7 at e7P e7K e7N l7P s7 ⊢
        have l7l : vp.length = prs.length := list_len l7P
        refine ⟨_, rfl, _, rfl, PR, _, rfl, .inl (SqL.of e7P), _, _, rfl, rfl, _, _, rfl, rfl, .inl ⟨by decide, by decide⟩, _, rfl, _, rfl, _, rfl, by show 2 ≤ sizeLine; decide, fun t2 ht2 => ?_⟩
        have st2 := same_new ht2 (.tup [vI lo, vI hi])
        refine ⟨KN, _, rfl, DPut.t (k := pkey (lo, hi)) (st2 _ _ e7K) upd_same (by rw [kvP_len]; exact small1000 (by omega)), ?_⟩
        have eV : (fun i j => V.int (i * j)) 2 ((N.first : Int) + (vp.length : Int)) = vI (2 * (N.first + prs.length)) := congrArg V.int (by rw [l7l]; omega)
        rw [eV, kvP_put hm]
        have s8 := same_two (o := .dT (kvP N.first (prs ++ [(lo, hi)]))) (s7.trans st2) hKN0
        have e8K := upd_same (H := upd H7 t2 (.tup [vI lo, vI hi])) (a := KN) (o := .dT (kvP N.first (prs ++ [(lo, hi)])))
        have e8P : upd (upd H7 t2 (.tup [vI lo, vI hi])) KN (.dT (kvP N.first (prs ++ [(lo, hi)]))) PR = _ := (upd_ne nPK).trans (st2 _ _ e7P)
        have e8N : upd (upd H7 t2 (.tup [vI lo, vI hi])) KN (.dT (kvP N.first (prs ++ [(lo, hi)]))) NW = _ := (upd_ne nNK).trans (st2 _ _ e7N)
        have l8P : LayAll (upd (upd H7 t2 (.tup [vI lo, vI hi])) KN (.dT (kvP N.first (prs ++ [(lo, hi)])))) vp (prs.map pairD) := (l7P.keep' (.same st2)).keep' fun b xs h => by
          rw [upd_ne (fun z => by rw [z, st2 _ _ e7K] at h; cases h)]
          exact h
        generalize upd (upd H7 t2 (.tup [vI lo, vI hi])) KN (.dT (kvP N.first (prs ++ [(lo, hi)]))) = H8 at s8 e8K e8P e8N l8P ⊢
        refine ⟨_, rfl, .inl ⟨rfl, _, SqL.of e8P⟩, _, rfl, _, rfl, by show 2 ≤ sizeLine; decide, fun u hu => ?_⟩
        have su := same_new hu (.tup [vI lo, vI hi])
        refine ⟨PR, _, _, rfl, rfl, su _ _ e8P, len1000 (by omega), prs ++ [(lo, hi)], vp ++ [.ref u], rfl, same_two (s8.trans su) hPR0, (upd_ne nNP).trans (su _ _ e8N), upd_same, ?_, (upd_ne nPK.symm).trans (su _ _ e8K), by simp, ?_⟩
        · rw [List.map_append]
          exact ((l8P.keep' (.same su)).snoc (.mkPair upd_same)).keep' (.lst (su _ _ e8P))
        · rw [eStep, if_neg hm, List.idxOf_append, if_neg hm]
          simp
    rintro σ' H8 ⟨prs', vp', rfl, s8, e8N, e8P, l8P, e8K, hm, e8⟩
    refine ⟨_, rfl, .inl ⟨rfl, _, SqL.of e8N⟩, _, rfl, _, rfl, _, rfl, by show 2 ≤ sizeLine; decide, fun t3 ht3 => ?_⟩
    have st3 := same_new ht3 (.tup [vI lo, vI hi])
    have g := DGet.t (k := pkey (lo, hi)) (st3 _ _ e8K) (upd_same (H := H8) (a := t3) (o := .tup [vI lo, vI hi]))
    rw [kvP_get, if_pos hm] at g
    exact ⟨KN, _, rfl, g, NW, _, _, rfl, rfl, st3 _ _ e8N, lnN, fin _ _ _ prs' vp' rfl e8 (s8.trans st3) (st3 _ _ e8N) (st3 _ _ e8P) (l8P.keep' (.same st3)) (st3 _ _ e8K)⟩
  obtain ⟨v5, v6, v7, v8, vp, rfl, sm, eN, eP, lP, eK⟩ := pv
  have tok := TyOk.all (first := N.first) (ands := N.ands) (by unfold Net.first; omega) N.ands.length (Nat.le_refl _)
  have eT : tidyN N = closeN N.ins (N.regs.map (mapR (tyTo N.first N.ands N.ands.length).1)) (tyTo N.first N.ands N.ands.length).2 (N.outs.map (mapN (tyTo N.first N.ands N.ands.length).1)) (N.cls.map (mapN (tyTo N.first N.ands N.ands.length).1)) := rfl
  rw [eT] at q
  rw [hl.2.1] at eN lP
  have tln := tok.len
  have tm := tok.many
  have tb := tok.below
  have tp := tok.pairs
  generalize tyTo N.first N.ands N.ands.length = S at *
  obtain ⟨news, prs⟩ := S
  have tln : news.length = N.first + N.ands.length := tln
  have tm : prs.length ≤ N.ands.length := tm
  have hsz : N.size = N.first + N.ands.length := rfl
  have hN4 := hN.keep (.same sm)
  refine ⟨_, rfl, p, _, _, _, rfl, rfl, SqT.of hN4.top, atI_nat (j := 2) rfl, pr, rfl, ⟨_, SqT.of hN4.hr⟩, fun D1 hD1 => ?_⟩
  refine lc_rows (walk_tup (xs := vr)) (rows := N.regs) (f := regD) (g := mapR news) (h := regD) (fun H' sm' => SqT.of (sm' _ _ hN4.hr)) hD1 hN4.lr (by omega) (fun i x r H' R' Z hr sm' lx k => ?_) (fun us1 H5 s5 eD1 lu1 => ?_)
  · obtain ⟨q, rfl, eq⟩ := lx.reg
    have hrl := (R.regs r (List.mem_of_getElem? hr)).2
    refine ⟨rfl, _, rfl, q, _, _, _, rfl, rfl, SqT.of eq, atI_nat (j := 0) rfl, _, rfl, q, _, _, _, rfl, rfl, SqT.of eq, atI_nat (j := 1) rfl, _, rfl, _, rfl, q, _, _, _, rfl, rfl, SqT.of eq, atI_nat (j := 2) rfl, NW, news, r.2.2, rfl, SqL.of (sm' _ _ eN), by omega, by show 3 ≤ sizeLine; decide, fun u hu => k _ _ (same_new hu _) (.mkReg upd_same)⟩
  have hN5 := hN4.keep (.same s5)
  have eN5 := s5 _ _ eN
  refine ⟨_, rfl, p, _, _, _, rfl, rfl, SqT.of hN5.top, atI_nat (j := 4) rfl, po, rfl, ⟨_, SqT.of hN5.ho⟩, fun D2 hD2 => ?_⟩
  refine lc_rows (walk_tup (xs := vo)) (rows := N.outs) (f := namD) (g := mapN news) (h := namD) (fun H' sm' => SqT.of (sm' _ _ hN5.ho)) hD2 hN5.lo (by omega) (fun i x r H' R' Z hr sm' lx k => ?_) (fun us2 H6 s6 eD2 lu2 => ?_)
  · obtain ⟨q, rfl, eq⟩ := lx.nam
    have hrl := R.outs r (List.mem_of_getElem? hr)
    refine ⟨rfl, _, rfl, q, _, _, _, rfl, rfl, SqT.of eq, atI_nat (j := 0) rfl, _, rfl, _, rfl, q, _, _, _, rfl, rfl, SqT.of eq, atI_nat (j := 1) rfl, NW, news, r.2, rfl, SqL.of (sm' _ _ eN5), by omega, by show 2 ≤ sizeLine; decide, fun u hu => k _ _ (same_new hu _) (.mkNam upd_same)⟩
  have hN6 := hN5.keep (.same s6)
  have eN6 := s6 _ _ eN5
  refine ⟨_, rfl, p, _, _, _, rfl, rfl, SqT.of hN6.top, atI_nat (j := 5) rfl, pc, rfl, ⟨_, SqT.of hN6.hc⟩, fun D3 hD3 => ?_⟩
  refine lc_rows (walk_tup (xs := vc)) (rows := N.cls) (f := namD) (g := mapN news) (h := namD) (fun H' sm' => SqT.of (sm' _ _ hN6.hc)) hD3 hN6.lc (by omega) (fun i x r H' R' Z hr sm' lx k => ?_) (fun us3 H7 s7 eD3 lu3 => ?_)
  · obtain ⟨q, rfl, eq⟩ := lx.nam
    have hrl := R.cls r (List.mem_of_getElem? hr)
    refine ⟨rfl, _, rfl, q, _, _, _, rfl, rfl, SqT.of eq, atI_nat (j := 0) rfl, _, rfl, _, rfl, q, _, _, _, rfl, rfl, SqT.of eq, atI_nat (j := 1) rfl, NW, news, r.2, rfl, SqL.of (sm' _ _ eN6), by omega, by show 2 ≤ sizeLine; decide, fun u hu => k _ _ (same_new hu _) (.mkNam upd_same)⟩
  have hN7 := hN6.keep (.same s7)
  have s47 := (s5.trans s6).trans s7
  have eF : 1 + N.ins.length + (N.regs.map (mapR news)).length = N.first := by rw [List.length_map]; rfl
  have lw : ∀ l, litN news l < 2 * (N.first + prs.length) := fun l => tb.lit (by unfold Net.first; omega)
  refine ⟨_, rfl, p, _, _, _, rfl, rfl, SqT.of hN7.top, atI_nat (j := 1) rfl, _, rfl, _, rfl, _, rfl, _, rfl, ?_⟩
  refine ⟨pi, D1, PR, D2, D3, us1, vp, us2, us3, N.ins, N.regs.map (mapR news), prs, N.outs.map (mapN news), N.cls.map (mapN news), rfl, hN7.hi, s7 _ _ (s6 _ _ eD1), lu1.keep' (.same (s6.trans s7)), s47 _ _ eP, lP.keep' (.same s47), s7 _ _ eD2, lu2.keep' (.same s7), eD3, lu3, by rw [eF]; exact tp, ?_, i100, by rw [List.length_map]; exact r100, by omega, by rw [List.length_map]; exact o100, by rw [List.length_map]; exact c100, fun u H8 s8 lu => q u H8 ((sm.trans s47).trans s8) lu⟩
  rw [eF]
  refine ⟨fun r hr => ?_, fun r hr => ?_, fun r hr => ?_⟩
  · obtain ⟨r0, hr0, rfl⟩ := List.mem_map.mp hr
    exact ⟨(R.regs r0 hr0).1, lw _⟩
  · obtain ⟨r0, hr0, rfl⟩ := List.mem_map.mp hr
    exact lw _
  · obtain ⟨r0, hr0, rfl⟩ := List.mem_map.mp hr
    exact lw _
end

end Bf

set_option Elab.async false
set_option linter.all false
set_option maxRecDepth 100000
set_option maxHeartbeats 4000000
namespace Bf
open PySem
/-! ### covers and their depths -/
abbrev Cov := List (Nat × List Nat)
def Plain (first l : Nat) : Prop := l % 2 = 0 ∧ 1 ≤ l / 2 ∧ l / 2 < first
structure CovOk (first : Nat) (C : Cov) : Prop where
  asc : (C.map Prod.fst).Pairwise (· < ·)
  cond : ∀ e ∈ C, e.1 % 2 = 1 ∨ first ≤ e.1 / 2 ∨ e.1 = 0
  leaf : ∀ e ∈ C, ∀ l ∈ e.2, l < e.1 ∧ (l ∈ C.map Prod.fst ∨ Plain first l)
def look (m : List (Nat × Nat)) (l : Nat) : Nat := ((m.find? fun p => decide (p.1 = l)).map Prod.snd).getD 0
def mx (l : List Nat) : Nat := l.foldr max 0
def dstep (m : List (Nat × Nat)) (e : Nat × List Nat) : List (Nat × Nat) := m ++ [(e.1, 1 + mx (e.2.map (look m)))]
def depTo (C : Cov) (i : Nat) : List (Nat × Nat) := (C.take i).foldl dstep []
def dp (C : Cov) (l : Nat) : Nat := look (depTo C C.length) l
def depth (C : Cov) : Nat := mx ((depTo C C.length).map Prod.snd)
theorem depTo_succ {C : Cov} {i : Nat} {e : Nat × List Nat} (h : C[i]? = some e) : depTo C (i + 1) = dstep (depTo C i) e := by
  unfold depTo
  rw [List.take_add_one, h]
  simp [List.foldl_append]
theorem depTo_fst {C : Cov} : ∀ i, i ≤ C.length → (depTo C i).map Prod.fst = (C.take i).map Prod.fst
  | 0, _ => by simp [depTo]
  | i + 1, h => by
    have e : C[i]? = some C[i] := List.getElem?_eq_getElem (by omega)
    rw [depTo_succ e, dstep, List.map_append, depTo_fst i (by omega), List.take_add_one, e, List.map_append]
    rfl
theorem depTo_len {C : Cov} {i : Nat} (h : i ≤ C.length) : (depTo C i).length = i := by
  have := congrArg List.length (depTo_fst i h)
  rw [List.length_map, List.length_map, List.length_take] at this
  omega
theorem look_app {m r : List (Nat × Nat)} {l : Nat} (h : ∀ p ∈ r, p.1 ≠ l) : look (m ++ r) l = look m l := by
  unfold look
  rw [List.find?_append]
  cases e : m.find? fun p => decide (p.1 = l) with
  | some p => rfl
  | none =>
    have : (r.find? fun p => decide (p.1 = l)) = none := List.find?_eq_none.mpr fun p hp => by simpa using h p hp
    rw [this]
    rfl
theorem look_none {m : List (Nat × Nat)} {l : Nat} (h : l ∉ m.map Prod.fst) : look m l = 0 := by
  unfold look
  have : (m.find? fun p => decide (p.1 = l)) = none := List.find?_eq_none.mpr fun p hp => by
    simp
    exact fun e => h (e ▸ List.mem_map_of_mem hp)
  rw [this]
  rfl
theorem look_last {m : List (Nat × Nat)} {l v : Nat} (h : l ∉ m.map Prod.fst) : look (m ++ [(l, v)]) l = v := by
  unfold look
  have : (m.find? fun p => decide (p.1 = l)) = none := List.find?_eq_none.mpr fun p hp => by
    simp
    exact fun e => h (e ▸ List.mem_map_of_mem hp)
  rw [List.find?_append, this]
  simp
theorem asc_get {C : Cov} (h : (C.map Prod.fst).Pairwise (· < ·)) {i j : Nat} {a b : Nat × List Nat} (hi : C[i]? = some a) (hj : C[j]? = some b) (hij : i < j) : a.1 < b.1 := by
  have e1 : (C.map Prod.fst)[i]? = some a.1 := by rw [List.getElem?_map, hi]; rfl
  have e2 : (C.map Prod.fst)[j]? = some b.1 := by rw [List.getElem?_map, hj]; rfl
  obtain ⟨h1, g1⟩ := List.getElem?_eq_some_iff.mp e1
  obtain ⟨h2, g2⟩ := List.getElem?_eq_some_iff.mp e2
  have := List.pairwise_iff_getElem.mp h i j h1 h2 hij
  omega
theorem take_fst {C : Cov} {i l : Nat} (h : l ∈ (C.take i).map Prod.fst) : ∃ (j : Nat) (e : Nat × List Nat), j < i ∧ C[j]? = some e ∧ e.1 = l := by
  obtain ⟨e, he, rfl⟩ := List.mem_map.mp h
  obtain ⟨j, hj⟩ := List.mem_iff_getElem?.mp he
  have h1 := (List.getElem?_eq_some_iff.mp hj).1
  rw [List.length_take] at h1
  rw [List.getElem?_take, if_pos (by omega)] at hj
  exact ⟨j, e, by omega, hj, rfl⟩
/-- what is looked up ahead stays -/
theorem look_stay {C : Cov} (h : (C.map Prod.fst).Pairwise (· < ·)) {i l : Nat} {e : Nat × List Nat} (he : C[i]? = some e) (hl : l < e.1) : ∀ d, i + d ≤ C.length → look (depTo C (i + d)) l = look (depTo C i) l
  | 0, _ => rfl
  | d + 1, hd => by
    have e2 : C[i + d]? = some C[i + d] := List.getElem?_eq_getElem (by omega)
    rw [show i + (d + 1) = i + d + 1 from rfl, depTo_succ e2, dstep, look_app (fun p hp => ?_), look_stay h he hl d (by omega)]
    rw [List.mem_singleton.mp hp]
    show C[i + d].1 ≠ l
    by_cases z : d = 0
    · subst z
      have : C[i + 0] = e := by
        have e3 : C[i + 0]? = some e := he
        rw [e3] at e2
        exact (Option.some.inj e2).symm
      rw [this]
      omega
    · have := asc_get h he e2 (by omega)
      omega
theorem dp_entry {first : Nat} {C : Cov} (h : CovOk first C) {i : Nat} {e : Nat × List Nat} (he : C[i]? = some e) : dp C e.1 = 1 + mx (e.2.map (dp C)) := by
  have hi := (List.getElem?_eq_some_iff.mp he).1
  have em : e ∈ C := List.mem_of_getElem? he
  have e1 : e.2.map (dp C) = e.2.map (look (depTo C i)) := List.map_congr_left fun l hl => by
    have := look_stay h.asc he ((h.leaf e em l hl).1) (C.length - i) (by omega)
    rw [show i + (C.length - i) = C.length by omega] at this
    exact this
  rw [e1]
  have nk : e.1 ∉ (depTo C i).map Prod.fst := fun hm => by
    rw [depTo_fst i (by omega)] at hm
    obtain ⟨j, e', hj, ej, eq⟩ := take_fst hm
    have := asc_get h.asc ej he hj
    omega
  have k : ∀ d, i + 1 + d ≤ C.length → look (depTo C (i + 1 + d)) e.1 = 1 + mx (e.2.map (look (depTo C i))) := fun d => by
    induction d with
    | zero =>
      intro _
      rw [Nat.add_zero, depTo_succ he, dstep, look_last nk]
    | succ d ih =>
      intro hd
      have e2 : C[i + 1 + d]? = some C[i + 1 + d] := List.getElem?_eq_getElem (by omega)
      rw [show i + 1 + (d + 1) = i + 1 + d + 1 from rfl, depTo_succ e2, dstep, look_app (fun p hp => ?_), ih (by omega)]
      rw [List.mem_singleton.mp hp]
      have := asc_get h.asc he e2 (by omega)
      show C[i + 1 + d].1 ≠ e.1
      omega
  have := k (C.length - (i + 1)) (by omega)
  rw [show i + 1 + (C.length - (i + 1)) = C.length by omega] at this
  exact this
theorem dp_none {C : Cov} {l : Nat} (h : l ∉ C.map Prod.fst) : dp C l = 0 := by
  refine look_none ?_
  rw [depTo_fst _ (Nat.le_refl _), List.take_length]
  exact h
theorem not_plain {first : Nat} {C : Cov} (h : CovOk first C) {l : Nat} (hl : l ∈ C.map Prod.fst) : ¬ Plain first l := by
  obtain ⟨e, he, rfl⟩ := List.mem_map.mp hl
  rintro ⟨a, b, c⟩
  rcases h.cond e he with z | z | z <;> omega
theorem mx_le {l : List Nat} {n : Nat} : mx l ≤ n ↔ ∀ x ∈ l, x ≤ n := by
  induction l with
  | nil => simp [mx]
  | cons a r ih =>
    show max a (mx r) ≤ n ↔ _
    constructor
    · intro h x hx
      rcases List.mem_cons.mp hx with rfl | hx
      · omega
      · exact ih.mp (by omega) x hx
    · intro h
      have := ih.mpr fun x hx => h x (by simp [hx])
      have := h a (by simp)
      omega
theorem le_mx {l : List Nat} {x : Nat} (h : x ∈ l) : x ≤ mx l := mx_le.mp (Nat.le_refl _) x h
theorem depTo_snd {first : Nat} {C : Cov} (h : CovOk first C) : (depTo C C.length).map Prod.snd = (C.map Prod.fst).map (dp C) := by
  have key : ∀ i, i ≤ C.length → (depTo C i).map Prod.snd = ((C.take i).map Prod.fst).map (dp C) := fun i => by
    induction i with
    | zero => simp [depTo]
    | succ i ih =>
      intro hi
      have e : C[i]? = some C[i] := List.getElem?_eq_getElem (by omega)
      have em : C[i] ∈ C := List.getElem_mem _
      rw [depTo_succ e, dstep, List.map_append, ih (by omega), List.take_add_one, e, List.map_append, List.map_append]
      congr 1
      show [1 + mx (C[i].2.map (look (depTo C i)))] = [dp C C[i].1]
      rw [dp_entry h e]
      congr 3
      refine List.map_congr_left fun l hl => ?_
      have := look_stay h.asc e ((h.leaf _ em l hl).1) (C.length - i) (by omega)
      rw [show i + (C.length - i) = C.length by omega] at this
      exact this.symm
  have := key C.length (Nat.le_refl _)
  rwa [List.take_length] at this
theorem depth_eq {first : Nat} {C : Cov} (h : CovOk first C) : depth C = mx ((C.map Prod.fst).map (dp C)) := by
  unfold depth
  rw [depTo_snd h]
theorem dp_le {first : Nat} {C : Cov} (h : CovOk first C) : ∀ (i : Nat) (e : Nat × List Nat), C[i]? = some e → dp C e.1 ≤ i + 1 := by
  intro i
  induction i using Nat.strongRecOn with
  | _ i ih =>
    intro e he
    have em := List.mem_of_getElem? he
    rw [dp_entry h he]
    have : mx (e.2.map (dp C)) ≤ i := mx_le.mpr fun x hx => by
      obtain ⟨l, hl, rfl⟩ := List.mem_map.mp hx
      obtain ⟨h1, h2⟩ := h.leaf e em l hl
      by_cases z : l ∈ C.map Prod.fst
      · obtain ⟨e', he', rfl⟩ := List.mem_map.mp z
        obtain ⟨j, hj⟩ := List.mem_iff_getElem?.mp he'
        have hji : j < i := by
          rcases Nat.lt_trichotomy j i with a | a | a
          · exact a
          · subst a
            rw [he] at hj
            rw [Option.some.inj hj] at h1
            omega
          · have := asc_get h.asc he hj a
            omega
        have := ih j hji e' hj
        omega
      · rw [dp_none z]
        omega
    omega
theorem depth_le {first : Nat} {C : Cov} (h : CovOk first C) : depth C ≤ C.length := by
  rw [depth_eq h]
  refine mx_le.mpr fun x hx => ?_
  obtain ⟨l, hl, rfl⟩ := List.mem_map.mp hx
  obtain ⟨e, he, rfl⟩ := List.mem_map.mp hl
  obtain ⟨j, hj⟩ := List.mem_iff_getElem?.mp he
  have := dp_le h j e hj
  have := (List.getElem?_eq_some_iff.mp hj).1
  omega
/-! ### rounds -/
def Known (first : Nat) (C : Cov) (t l : Nat) : Prop := Plain first l ∨ (l ∈ C.map Prod.fst ∧ dp C l ≤ t)
theorem known_leaves {first : Nat} {C : Cov} (h : CovOk first C) {t : Nat} {e : Nat × List Nat} (he : e ∈ C) : (∀ l ∈ e.2, Known first C t l) ↔ dp C e.1 ≤ t + 1 := by
  obtain ⟨i, hi⟩ := List.mem_iff_getElem?.mp he
  rw [dp_entry h hi]
  constructor
  · intro k
    have : mx (e.2.map (dp C)) ≤ t := mx_le.mpr fun x hx => by
      obtain ⟨l, hl, rfl⟩ := List.mem_map.mp hx
      rcases k l hl with z | z
      · by_cases hm : l ∈ C.map Prod.fst
        · exact absurd z (not_plain h hm)
        · rw [dp_none hm]; omega
      · exact z.2
    omega
  · intro k l hl
    have := le_mx (List.mem_map_of_mem (f := dp C) hl)
    rcases (h.leaf e he l hl).2 with z | z
    · exact .inr ⟨z, by omega⟩
    · exact .inl z
theorem known_step {first : Nat} {C : Cov} (h : CovOk first C) {t : Nat} {ks : List Nat} {p : Nat × List Nat → Bool} (hk : ∀ l, l ∈ ks ↔ Known first C t l) (hp : ∀ e ∈ C, p e = true ↔ ∀ l ∈ e.2, l ∈ ks) :
    ∀ l, l ∈ ks ++ ((C.filter fun e => decide (t < dp C e.1)).filter p).map Prod.fst ↔ Known first C (t + 1) l := by
  intro l
  rw [List.mem_append, hk l]
  constructor
  · rintro (z | z)
    · rcases z with z | z
      · exact .inl z
      · exact .inr ⟨z.1, by omega⟩
    · obtain ⟨e, he, rfl⟩ := List.mem_map.mp z
      have h1 := List.mem_filter.mp he
      have h2 := List.mem_filter.mp h1.1
      have h3 := (hp e h2.1).mp h1.2
      exact .inr ⟨List.mem_map_of_mem h2.1, (known_leaves h h2.1).mp fun l hl => (hk l).mp (h3 l hl)⟩
  · rintro (z | ⟨z1, z2⟩)
    · exact .inl (.inl z)
    · by_cases hd : dp C l ≤ t
      · exact .inl (.inr ⟨z1, hd⟩)
      · obtain ⟨e, he, rfl⟩ := List.mem_map.mp z1
        refine .inr (List.mem_map_of_mem (List.mem_filter.mpr ⟨List.mem_filter.mpr ⟨he, decide_eq_true (by omega)⟩, (hp e he).mpr fun l hl => (hk l).mpr ?_⟩))
        exact (known_leaves h he).mpr z2 l hl
theorem left_step {first : Nat} {C : Cov} (h : CovOk first C) {t : Nat} {ks : List Nat} (hk : ∀ l, l ∈ ks ↔ Known first C (t + 1) l) :
    (C.filter fun e => decide (t < dp C e.1)).filter (fun e => decide (e.1 ∉ ks)) = C.filter fun e => decide (t + 1 < dp C e.1) := by
  rw [List.filter_filter]
  refine List.filter_congr fun e he => ?_
  have hm : e.1 ∈ C.map Prod.fst := List.mem_map_of_mem he
  have : e.1 ∉ ks ↔ t + 1 < dp C e.1 := by
    rw [hk]
    constructor
    · intro z
      rcases Nat.lt_or_ge (t + 1) (dp C e.1) with a | a
      · exact a
      · exact absurd (.inr ⟨hm, a⟩) z
    · rintro z (y | y)
      · exact not_plain h hm y
      · omega
  by_cases z : t + 1 < dp C e.1
  · rw [decide_eq_true (this.mpr z), decide_eq_true z, decide_eq_true (show t < dp C e.1 by omega)]
    rfl
  · rw [decide_eq_false (fun y => z (this.mp y)), decide_eq_false z]
    rfl
end Bf

set_option Elab.async false
set_option linter.all false
set_option maxRecDepth 100000
set_option maxHeartbeats 4000000
namespace Bf
open PySem
/-! ### what is reached, by a stack -/
inductive Rs (nx : Nat → List Nat) (S : List Nat) : Nat → Prop
  | base {x : Nat} : x ∈ S → Rs nx S x
  | step {x y : Nat} : Rs nx S x → y ∈ nx x → Rs nx S y
theorem Rs.first {nx : Nat → List Nat} {s x : Nat} (h : Rs nx [s] x) : x = s ∨ ∃ y ∈ nx s, Rs nx [y] x := by
  induction h with
  | base h => exact .inl (List.mem_singleton.mp h)
  | step _ hy ih =>
    rcases ih with rfl | ⟨z, hz, hr⟩
    · exact .inr ⟨_, hy, .base (by simp)⟩
    · exact .inr ⟨z, hz, .step hr hy⟩
theorem Rs.stop {nx : Nat → List Nat} {s x : Nat} (h : Rs nx [s] x) (e : nx s = []) : x = s := by
  rcases h.first with h | ⟨y, hy, _⟩
  · exact h
  · rw [e] at hy; cases hy
theorem Rs.inv {nx : Nat → List Nat} {S : List Nat} {P : Nat → Prop} (hs : ∀ s ∈ S, P s) (hn : ∀ x y, P x → y ∈ nx x → P y) {x : Nat} (h : Rs nx S x) : P x := by
  induction h with
  | base h => exact hs _ h
  | step _ hy ih => exact hn _ _ ih hy
structure DI (nx : Nat → List Nat) (S M T : List Nat) : Prop where
  m : ∀ x ∈ M, Rs nx S x
  t : ∀ x ∈ T, Rs nx S x
  b : ∀ s ∈ S, s ∈ M ∨ s ∈ T
  cl : ∀ x ∈ M, ∀ y ∈ nx x, y ∈ M ∨ y ∈ T
theorem DI.start (nx : Nat → List Nat) (S : List Nat) : DI nx S [] S := ⟨fun x h => (by cases h), fun x h => .base h, fun s h => .inr h, fun x h => (by cases h)⟩
theorem DI.skip {nx : Nat → List Nat} {S M T : List Nat} {x : Nat} (h : DI nx S M (T ++ [x])) (hx : x ∈ M) : DI nx S M T := by
  have k : ∀ z, z ∈ M ∨ z ∈ T ++ [x] → z ∈ M ∨ z ∈ T := fun z hz => by
    rcases hz with hz | hz
    · exact .inl hz
    · rcases List.mem_append.mp hz with hz | hz
      · exact .inr hz
      · rw [List.mem_singleton.mp hz]; exact .inl hx
  exact ⟨h.m, fun y hy => h.t y (by simp [hy]), fun s hs => k s (h.b s hs), fun y hy z hz => k z (h.cl y hy z hz)⟩
theorem DI.visit {nx : Nat → List Nat} {S M T : List Nat} {x : Nat} (h : DI nx S M (T ++ [x])) : DI nx S (M ++ [x]) (T ++ nx x) := by
  have k : ∀ z, z ∈ M ∨ z ∈ T ++ [x] → z ∈ M ++ [x] ∨ z ∈ T ++ nx x := fun z hz => by
    rcases hz with hz | hz
    · exact .inl (by simp [hz])
    · rcases List.mem_append.mp hz with hz | hz
      · exact .inr (by simp [hz])
      · exact .inl (by rw [List.mem_singleton.mp hz]; simp)
  refine ⟨fun y hy => ?_, fun y hy => ?_, fun s hs => k s (h.b s hs), fun y hy z hz => ?_⟩
  · rcases List.mem_append.mp hy with q | q
    · exact h.m y q
    · rw [List.mem_singleton.mp q]; exact h.t x (by simp)
  · rcases List.mem_append.mp hy with q | q
    · exact h.t y (by simp [q])
    · exact .step (h.t x (by simp)) q
  · rcases List.mem_append.mp hy with q | q
    · exact k z (h.cl y q z hz)
    · rw [List.mem_singleton.mp q] at hz
      exact .inr (by simp [hz])
theorem DI.done {nx : Nat → List Nat} {S M : List Nat} (h : DI nx S M []) (x : Nat) : x ∈ M ↔ Rs nx S x := by
  have z : ∀ y, y ∈ M ∨ y ∈ ([] : List Nat) → y ∈ M := fun y hy => by
    rcases hy with q | q
    · exact q
    · cases q
  refine ⟨h.m x, fun r => ?_⟩
  induction r with
  | base h' => exact z _ (h.b _ h')
  | step _ hy ih => exact z _ (h.cl _ ih _ hy)
/-- what has not been met -/
def unm (M : List Nat) : Nat → Nat
  | 0 => 0
  | n + 1 => unm M n + if n ∈ M then 0 else 1
theorem unm_le (M : List Nat) (x : Nat) : ∀ n, unm (M ++ [x]) n ≤ unm M n
  | 0 => Nat.le_refl _
  | n + 1 => by
    have := unm_le M x n
    unfold unm
    by_cases h : n ∈ M
    · rw [if_pos h, if_pos (by simp [h])]; omega
    · rw [if_neg h]
      split <;> omega
theorem unm_lt {M : List Nat} {x : Nat} (h : x ∉ M) : ∀ n, x < n → unm (M ++ [x]) n + 1 ≤ unm M n
  | 0, k => absurd k (Nat.not_lt_zero _)
  | n + 1, k => by
    unfold unm
    by_cases e : x = n
    · subst e
      rw [if_neg h, if_pos (by simp)]
      have := unm_le M x x
      omega
    · have := unm_lt h n (by omega)
      by_cases q : n ∈ M
      · rw [if_pos q, if_pos (by simp [q])]; omega
      · rw [if_neg q]
        split <;> omega
theorem unm_nil : ∀ n, unm [] n = n
  | 0 => rfl
  | n + 1 => by
    unfold unm
    rw [unm_nil n, if_neg (by simp)]
/-! ### operands, cuts -/
def Net.ops (N : Net) (x : Nat) : List Nat := if x < N.first then [] else match N.ands[x - N.first]? with
  | some p => [p.1 / 2, p.2 / 2]
  | none => []
def Net.opsTo (N : Net) (L : Nat → Bool) (x : Nat) : List Nat := if L x = true then [] else N.ops x
theorem ops_low {N : Net} {x : Nat} (h : x < N.first) : N.ops x = [] := if_pos h
theorem ops_and {N : Net} {x : Nat} {p : Nat × Nat} (h : N.first ≤ x) (e : N.ands[x - N.first]? = some p) : N.ops x = [p.1 / 2, p.2 / 2] := by
  unfold Net.ops
  rw [if_neg (by omega), e]
theorem ops_lt {N : Net} (R : N.Right) {x y : Nat} (h : y ∈ N.ops x) : y < x := by
  unfold Net.ops at h
  split at h
  · cases h
  · split at h
    · rename_i p e
      have o := R.ands _ _ e
      simp only [List.mem_cons, List.not_mem_nil, or_false] at h
      rcases h with rfl | rfl <;> omega
    · cases h
theorem ops_len (N : Net) (x : Nat) : (N.ops x).length ≤ 2 := by
  unfold Net.ops
  split
  · exact Nat.zero_le _
  · split
    · exact Nat.le_refl _
    · exact Nat.zero_le _
theorem opsTo_len (N : Net) (L : Nat → Bool) (x : Nat) : (N.opsTo L x).length ≤ 2 := by
  unfold Net.opsTo
  split
  · exact Nat.zero_le _
  · exact ops_len N x
theorem opsTo_sub {N : Net} {L : Nat → Bool} {x y : Nat} (h : y ∈ N.opsTo L x) : L x = false ∧ y ∈ N.ops x := by
  unfold Net.opsTo at h
  split at h
  · cases h
  · rename_i z
    exact ⟨by simpa using z, h⟩
theorem opsTo_in {N : Net} {L : Nat → Bool} {x y : Nat} (h1 : L x = false) (h2 : y ∈ N.ops x) : y ∈ N.opsTo L x := by
  unfold Net.opsTo
  rw [if_neg (by simp [h1])]
  exact h2
theorem Rs.le {N : Net} (R : N.Right) {L : Nat → Bool} {s x : Nat} (h : Rs (N.opsTo L) [s] x) : x ≤ s := by
  refine Rs.inv (P := fun x => x ≤ s) (fun y hy => ?_) (fun x y hx hy => ?_) h
  · rw [List.mem_singleton.mp hy]; exact Nat.le_refl _
  · have := ops_lt R (opsTo_sub hy).2
    omega
def Cut (N : Net) (L : Nat → Bool) (s : Nat) : Prop := ∀ x, Rs (N.opsTo L) [s] x → x = 0 ∨ N.first ≤ x ∨ L x = true
def CutL (N : Net) (L : List Nat) (s : Nat) : Prop := Cut N (fun x => decide (x ∈ L)) s
theorem Cut.mono {N : Net} {L L' : Nat → Bool} {s : Nat} (h : Cut N L s) (hl : ∀ x, L x = true → L' x = true) : Cut N L' s := fun x r => by
  have r' : Rs (N.opsTo L) [s] x := Rs.inv (P := Rs (N.opsTo L) [s]) (fun y hy => .base hy) (fun y z hy hz => by
    obtain ⟨h1, h2⟩ := opsTo_sub hz
    refine .step hy (opsTo_in ?_ h2)
    cases e : L y with
    | false => rfl
    | true => rw [hl y e] at h1; cases h1) r
  rcases h x r' with q | q | q
  · exact .inl q
  · exact .inr (.inl q)
  · exact .inr (.inr (hl x q))
theorem CutL.mono {N : Net} {L L' : List Nat} {s : Nat} (h : CutL N L s) (hl : ∀ x ∈ L, x ∈ L') : CutL N L' s := Cut.mono h fun x hx => decide_eq_true (hl x (of_decide_eq_true hx))
theorem CutL.self {N : Net} {L : List Nat} {s : Nat} (h : s ∈ L) : CutL N L s := fun x r => by
  have : N.opsTo (fun x => decide (x ∈ L)) s = [] := if_pos (decide_eq_true h)
  rw [r.stop this]
  exact .inr (.inr (decide_eq_true h))
theorem CutL.zero {N : Net} {L : List Nat} : CutL N L 0 := fun x r => by
  have : N.opsTo (fun x => decide (x ∈ L)) 0 = [] := by
    unfold Net.opsTo
    split
    · rfl
    · exact ops_low (by unfold Net.first; omega)
  exact .inl (r.stop this)
theorem Cut.base {N : Net} {L : Nat → Bool} {s : Nat} {p : Nat × Nat} (hs : N.first ≤ s) (e : N.ands[s - N.first]? = some p) (hl : ∀ y ∈ [p.1 / 2, p.2 / 2], 0 < y → L y = true) : Cut N L s := fun x r => by
  rcases r.first with rfl | ⟨y, hy, ry⟩
  · exact .inr (.inl hs)
  · have hy2 := (opsTo_sub hy).2
    rw [ops_and hs e] at hy2
    have st : N.opsTo L y = [] := by
      unfold Net.opsTo
      split
      · rfl
      · rename_i z
        by_cases h0 : 0 < y
        · exact absurd (hl y hy2 h0) z
        · exact ops_low (by unfold Net.first; omega)
    rw [ry.stop st]
    by_cases h0 : 0 < y
    · exact .inr (.inr (hl y hy2 h0))
    · exact .inl (by omega)
theorem Cut.opened {N : Net} {L : Nat → Bool} {s g : Nat} {p : Nat × Nat} (hg : N.first ≤ g) (e : N.ands[g - N.first]? = some p) (hl : ∀ y ∈ [p.1 / 2, p.2 / 2], 0 < y → L y = true) (h : Cut N (fun x => L x || decide (x = g)) s) : Cut N L s := fun x r => by
  have key : ∀ x, Rs (N.opsTo L) [s] x → Rs (N.opsTo fun x => L x || decide (x = g)) [s] x ∨ x = 0 ∨ L x = true := fun x r => by
    induction r with
    | base h => exact .inl (.base h)
    | step rx hy ih =>
      rename_i x y
      obtain ⟨h1, h2⟩ := opsTo_sub hy
      rcases ih with q | q | q
      · by_cases hxg : x = g
        · subst hxg
          rw [ops_and hg e] at h2
          by_cases h0 : 0 < y
          · exact .inr (.inr (hl y h2 h0))
          · exact .inr (.inl (by omega))
        · exact .inl (.step q (opsTo_in (by show (L x || decide (x = g)) = false; rw [h1, decide_eq_false hxg]; rfl) h2))
      · subst q
        rw [ops_low (by unfold Net.first; omega)] at h2
        cases h2
      · rw [h1] at q; cases q
  rcases key x r with q | q | q
  · rcases h x q with z | z | z
    · exact .inl z
    · exact .inr (.inl z)
    · have z : (L x || decide (x = g)) = true := z
      rw [Bool.or_eq_true] at z
      rcases z with z | z
      · exact .inr (.inr z)
      · rw [of_decide_eq_true z]
        exact .inr (.inl hg)
  · exact .inl q
  · exact .inr (.inr q)
/-! ### a sweep from above over flags -/
structure SI (N : Net) (L : Nat → Bool) (s : Nat) (fl : List Nat) (k : Nat) : Prop where
  len : fl.length = s + 1
  m : ∀ x, Fl fl x → Rs (N.opsTo L) [s] x
  b : Fl fl s
  cl : ∀ x, k ≤ x → 1 ≤ x → Fl fl x → (L x = true ∨ N.first ≤ x) ∧ ∀ y ∈ N.opsTo L x, Fl fl y
theorem SI.start (N : Net) (L : Nat → Bool) (s : Nat) : SI N L s ((List.replicate (s + 1) 0).set s 1) (s + 1) := by
  have hz : ∀ x, Fl ((List.replicate (s + 1) 0).set s 1) x → x = s := fun x h => by
    by_cases e : x = s
    · exact e
    · have h2 := h.of_set e
      unfold Fl at h2
      rw [List.getD_eq_getElem?_getD, List.getElem?_replicate] at h2
      split at h2 <;> simp at h2
  refine ⟨by simp, fun x h => by rw [hz x h]; exact .base (by simp), Fl.here (by simp), fun x hk _ h => ?_⟩
  have := hz x h
  omega
theorem SI.skip {N : Net} {L : Nat → Bool} {s k : Nat} {fl : List Nat} (h : SI N L s fl (k + 1)) (hk : ¬ (Fl fl k ∧ L k = false)) : SI N L s fl k := ⟨h.len, h.m, h.b, fun x hx h1 hf => by
  by_cases e : x = k
  · subst e
    have : L x = true := by
      cases q : L x with
      | true => rfl
      | false => exact absurd ⟨hf, q⟩ hk
    exact ⟨.inl this, fun y hy => by rw [(opsTo_sub hy).1] at this; cases this⟩
  · exact h.cl x (by omega) h1 hf⟩
theorem SI.open_ {N : Net} {L : Nat → Bool} {s k : Nat} {fl : List Nat} {p : Nat × Nat} (R : N.Right) (h : SI N L s fl (k + 1)) (hks : k ≤ s) (hf : Fl fl k) (hl : L k = false) (hn : N.first ≤ k) (e : N.ands[k - N.first]? = some p) : SI N L s ((fl.set (p.1 / 2) 1).set (p.2 / 2) 1) k := by
  have o := R.ands _ _ e
  have eo := ops_and hn e
  have hin : ∀ y ∈ [p.1 / 2, p.2 / 2], y ∈ N.opsTo L k := fun y hy => opsTo_in hl (by rw [eo]; exact hy)
  have back : ∀ x, Fl ((fl.set (p.1 / 2) 1).set (p.2 / 2) 1) x → Fl fl x ∨ x ∈ [p.1 / 2, p.2 / 2] := fun x hx => by
    by_cases e2 : x = p.2 / 2
    · exact .inr (by simp [e2])
    · by_cases e1 : x = p.1 / 2
      · exact .inr (by simp [e1])
      · exact .inl ((hx.of_set e2).of_set e1)
  have up : ∀ x, Fl fl x → Fl ((fl.set (p.1 / 2) 1).set (p.2 / 2) 1) x := fun x hx => (hx.set _).set _
  refine ⟨by simp [h.len], fun x hx => ?_, up _ h.b, fun x hx h1 hfx => ?_⟩
  · rcases back x hx with q | q
    · exact h.m x q
    · exact .step (h.m k hf) (hin x q)
  · by_cases ek : x = k
    · subst ek
      refine ⟨.inr hn, fun y hy => ?_⟩
      have hy2 := (opsTo_sub hy).2
      rw [eo] at hy2
      simp only [List.mem_cons, List.not_mem_nil, or_false] at hy2
      have hl := h.len
      rcases hy2 with rfl | rfl
      · exact (Fl.here (by omega)).set _
      · exact Fl.here (by simp; omega)
    · rcases back x hfx with q | q
      · obtain ⟨z1, z2⟩ := h.cl x (by omega) h1 q
        exact ⟨z1, fun y hy => up y (z2 y hy)⟩
      · simp only [List.mem_cons, List.not_mem_nil, or_false] at q
        rcases q with q | q <;> omega
theorem SI.done {N : Net} {L : Nat → Bool} {s : Nat} {fl : List Nat} (h : SI N L s fl 1) : Cut N L s := fun x r => by
  have hf : Fl fl x := Rs.inv (P := Fl fl) (fun y hy => by rw [List.mem_singleton.mp hy]; exact h.b) (fun y z hy hz => by
    by_cases h0 : 1 ≤ y
    · exact (h.cl y h0 h0 hy).2 z hz
    · have e0 : y = 0 := by omega
      subst e0
      have := (opsTo_sub hz).2
      rw [ops_low (by unfold Net.first; omega)] at this
      cases this) r
  by_cases h0 : 1 ≤ x
  · rcases (h.cl x h0 h0 hf).1 with q | q
    · exact .inr (.inr q)
    · exact .inr (.inl q)
  · exact .inl (by omega)
/-! ### covers of whole numbers -/
abbrev CovZ := List (Int × List Int)
def PlainZ (first : Nat) (l : Int) : Prop := l % 2 = 0 ∧ 0 < l / 2 ∧ l / 2 < (first : Int)
def halves (ls : List Int) : List Int := ls.map (· / 2)
def inZ (ls : List Int) (x : Nat) : Bool := decide ((x : Int) ∈ ls)
def Net.ends (N : Net) : List Nat := N.outs.map (·.2) ++ N.cls.map (·.2) ++ N.regs.map fun r => r.2.2
/-- what a row must keep, its place among the others aside -/
structure RowOk (N : Net) (k : Nat) (told : List Int) (e : Int × List Int) : Prop where
  np : ¬ PlainZ N.first e.1
  few : (e.2.length : Int) ≤ (k : Int)
  asc : (halves e.2).Pairwise (· < ·)
  leaf : ∀ l ∈ e.2, 1 < l ∧ l < e.1 ∧ (PlainZ N.first l ∨ l ∈ told)
  cut : Cut N (inZ (halves e.2)) (e.1 / 2).toNat
structure GoodCov (N : Net) (k : Nat) (C : CovZ) : Prop where
  asc : (C.map Prod.fst).Pairwise (· < ·)
  rng : ∀ e ∈ C, 0 ≤ e.1 ∧ e.1 < 2 * (N.size : Int)
  row : ∀ e ∈ C, RowOk N k (C.map Prod.fst) e
  ends : ∀ l ∈ N.ends, PlainZ N.first (l : Int) ∨ (l : Int) ∈ C.map Prod.fst
  need : ∀ t ∈ C.map Prod.fst, (∃ l ∈ N.ends, (l : Int) = t) ∨ ∃ e ∈ C, t ∈ e.2
/-- the law's own reading -/
structure LRow (N : Net) (k : Nat) (e : Int × List Int) : Prop where
  rng : 0 ≤ e.1 ∧ e.1 < 2 * (N.size : Int)
  np : ¬ PlainZ N.first e.1
  few : ¬ (e.2.length : Int) > (k : Int)
  asc : (halves e.2).Pairwise (· < ·)
  nz : (0 : Int) ∉ halves e.2
  low : ∀ l ∈ e.2, l < e.1
  cut : Cut N (inZ (halves e.2)) (e.1 / 2).toNat
def wantZ (N : Net) (C : CovZ) : List Int := N.ends.map (fun n : Nat => (n : Int)) ++ (C.map Prod.snd).flatten
theorem good_iff {N : Net} {k : Nat} {C : CovZ} : GoodCov N k C ↔ (C.map Prod.fst).Pairwise (· < ·) ∧ (∀ e ∈ C, LRow N k e) ∧ (∀ l ∈ wantZ N C, PlainZ N.first l ∨ l ∈ C.map Prod.fst) ∧ ∀ t ∈ C.map Prod.fst, t ∈ wantZ N C := by
  constructor
  · intro h
    refine ⟨h.asc, fun e he => ?_, fun l hl => ?_, fun t ht => ?_⟩
    · have r := h.row e he
      refine ⟨h.rng e he, r.np, Int.not_lt.mpr r.few, r.asc, fun hz => ?_, fun l hl => (r.leaf l hl).2.1, r.cut⟩
      obtain ⟨l, hl, e0⟩ := List.mem_map.mp hz
      have := (r.leaf l hl).1
      have e0 : l / 2 = 0 := e0
      omega
    · rcases List.mem_append.mp hl with q | q
      · obtain ⟨n, hn, rfl⟩ := List.mem_map.mp q
        exact h.ends n hn
      · obtain ⟨ls, hls, hl2⟩ := List.mem_flatten.mp q
        obtain ⟨e, he, rfl⟩ := List.mem_map.mp hls
        exact ((h.row e he).leaf l hl2).2.2
    · rcases h.need t ht with ⟨n, hn, rfl⟩ | ⟨e, he, hte⟩
      · exact List.mem_append_left _ (List.mem_map.mpr ⟨n, hn, rfl⟩)
      · exact List.mem_append_right _ (List.mem_flatten.mpr ⟨e.2, List.mem_map_of_mem he, hte⟩)
  · rintro ⟨ha, hr, hw, ht⟩
    have hleaf : ∀ e ∈ C, ∀ l ∈ e.2, PlainZ N.first l ∨ l ∈ C.map Prod.fst := fun e he l hl => hw l (List.mem_append_right _ (List.mem_flatten.mpr ⟨e.2, List.mem_map_of_mem he, hl⟩))
    refine ⟨ha, fun e he => (hr e he).rng, fun e he => ?_, fun l hl => hw _ (List.mem_append_left _ (List.mem_map.mpr ⟨l, hl, rfl⟩)), fun t h => ?_⟩
    · have r := hr e he
      refine ⟨r.np, Int.not_lt.mp r.few, r.asc, fun l hl => ⟨?_, r.low l hl, hleaf e he l hl⟩, r.cut⟩
      have hn : l / 2 ≠ 0 := fun e0 => r.nz (List.mem_map.mpr ⟨l, hl, e0⟩)
      rcases hleaf e he l hl with q | q
      · have := q.2.1
        omega
      · obtain ⟨e', he', rfl⟩ := List.mem_map.mp q
        have := (hr e' he').rng.1
        omega
    · rcases List.mem_append.mp (ht t h) with q | q
      · obtain ⟨n, hn, rfl⟩ := List.mem_map.mp q
        exact .inl ⟨n, hn, rfl⟩
      · obtain ⟨ls, hls, hl2⟩ := List.mem_flatten.mp q
        obtain ⟨e, he, rfl⟩ := List.mem_map.mp hls
        exact .inr ⟨e, he, hl2⟩
/-- a leaf ahead of a literal -/
theorem leaf_lt {l e : Int} : (l / 2 < e / 2 ∨ l / 2 = e / 2 ∧ l < e) ↔ l < e := by omega
/-- a made cover -/
structure MadeOk (N : Net) (k : Nat) (C : Cov) : Prop where
  cov : CovOk N.first C
  len : C.length ≤ 2 * N.size
  row : ∀ e ∈ C, e.2.length ≤ k ∧ e.1 < 2 * N.size ∧ (∀ l ∈ e.2, 2 ≤ l) ∧ (e.2.map (· / 2)).Pairwise (· < ·) ∧ CutL N (e.2.map (· / 2)) (e.1 / 2)
  ends : ∀ l ∈ N.ends, Plain N.first l ∨ l ∈ C.map Prod.fst
  need : ∀ t ∈ C.map Prod.fst, t ∈ N.ends ∨ ∃ e ∈ C, t ∈ e.2
def castC (C : Cov) : CovZ := C.map fun e => ((e.1 : Int), e.2.map fun n : Nat => (n : Int))
theorem castC_fst (C : Cov) : (castC C).map Prod.fst = (C.map Prod.fst).map fun n : Nat => (n : Int) := by unfold castC; rw [List.map_map, List.map_map]; rfl
theorem mem_cast {xs : List Nat} {x : Nat} : ((x : Int) ∈ xs.map fun n : Nat => (n : Int)) ↔ x ∈ xs := by
  rw [List.mem_map]
  constructor
  · rintro ⟨y, hy, e⟩
    have : y = x := by omega
    rwa [← this]
  · intro h
    exact ⟨x, h, rfl⟩
theorem plain_cast {first l : Nat} : PlainZ first (l : Int) ↔ Plain first l := by
  unfold PlainZ Plain
  omega
theorem halves_cast (ls : List Nat) : halves (ls.map fun n : Nat => (n : Int)) = (ls.map (· / 2)).map fun n : Nat => (n : Int) := by
  unfold halves
  rw [List.map_map, List.map_map]
  refine List.map_congr_left fun l _ => ?_
  show (l : Int) / 2 = ((l / 2 : Nat) : Int)
  omega
theorem MadeOk.good {N : Net} {k : Nat} {C : Cov} (h : MadeOk N k C) : GoodCov N k (castC C) := by
  have mem : ∀ e ∈ castC C, ∃ e' ∈ C, e = ((e'.1 : Int), e'.2.map fun n : Nat => (n : Int)) := fun e he => by
    obtain ⟨e', he', rfl⟩ := List.mem_map.mp he
    exact ⟨e', he', rfl⟩
  refine ⟨?_, fun e he => ?_, fun e he => ?_, fun l hl => ?_, fun t ht => ?_⟩
  · rw [castC_fst]
    exact List.pairwise_map.mpr (h.cov.asc.imp fun hab => by omega)
  · obtain ⟨e', he', rfl⟩ := mem e he
    have := (h.row e' he').2.1
    exact ⟨Int.natCast_nonneg _, by show (e'.1 : Int) < _; omega⟩
  · obtain ⟨e', he', rfl⟩ := mem e he
    obtain ⟨h1, h2, h3, h4, h5⟩ := h.row e' he'
    refine ⟨fun hp => ?_, by show ((List.length _ : Nat) : Int) ≤ _; rw [List.length_map]; omega, ?_, fun l hl => ?_, ?_⟩
    · exact not_plain h.cov (List.mem_map_of_mem he') (plain_cast.mp hp)
    · show (halves (e'.2.map _)).Pairwise _
      rw [halves_cast]
      exact List.pairwise_map.mpr (h4.imp fun hab => by omega)
    · obtain ⟨n, hn, rfl⟩ := List.mem_map.mp hl
      have c := h.cov.leaf e' he' n hn
      have := h3 n hn
      refine ⟨by omega, by show (n : Int) < (e'.1 : Int); omega, ?_⟩
      rcases c.2 with q | q
      · rw [castC_fst]
        exact .inr (mem_cast.mpr q)
      · exact .inl (plain_cast.mpr q)
    · show Cut N (inZ (halves (e'.2.map _))) ((e'.1 : Int) / 2).toNat
      rw [show ((e'.1 : Int) / 2).toNat = e'.1 / 2 by omega, halves_cast]
      exact Cut.mono h5 fun x hx => decide_eq_true (mem_cast.mpr (of_decide_eq_true hx))
  · rw [castC_fst]
    rcases h.ends l hl with q | q
    · exact .inl (plain_cast.mpr q)
    · exact .inr (mem_cast.mpr q)
  · rw [castC_fst] at ht
    obtain ⟨n, hn, rfl⟩ := List.mem_map.mp ht
    rcases h.need n hn with q | ⟨e, he, q⟩
    · exact .inl ⟨n, q, rfl⟩
    · exact .inr ⟨_, List.mem_map_of_mem he, mem_cast.mpr q⟩
end Bf

set_option Elab.async false
set_option linter.all false
set_option maxRecDepth 100000
set_option maxHeartbeats 4000000
namespace Bf
open PySem
/-! ### which nodes stand inside trees of ANDs -/
def Net.pair (N : Net) (y : Nat) : List Nat := match N.ands[y - N.first]? with
  | some p => [p.1, p.2]
  | none => []
def litsL (as : List (Nat × Nat)) : List Nat := (as.map fun p => [p.1, p.2]).flatten
def useC (ls : List Nat) (x : Nat) : Nat := ls.countP fun l => decide (l / 2 = x)
def plainC (ls : List Nat) (x : Nat) : Nat := ls.countP fun l => decide (l / 2 = x ∧ l % 2 = 0)
def oddB (ls : List Nat) (x : Nat) : Bool := ls.any fun l => decide (l / 2 = x ∧ l % 2 = 1)
def Net.inn (N : Net) (x : Nat) : Bool := decide (N.first ≤ x) && decide (useC (litsL N.ands) x = 1) && decide (plainC (litsL N.ands) x = 1) && decide (useC N.ends x = 0)
theorem inn_iff {N : Net} {x : Nat} : N.inn x = true ↔ N.first ≤ x ∧ useC (litsL N.ands) x = 1 ∧ plainC (litsL N.ands) x = 1 ∧ useC N.ends x = 0 := by
  unfold Net.inn
  simp only [Bool.and_eq_true, decide_eq_true_eq]
  exact ⟨fun h => ⟨h.1.1.1, h.1.1.2, h.1.2, h.2⟩, fun h => ⟨⟨⟨h.1, h.2.1⟩, h.2.2.1⟩, h.2.2.2⟩⟩
theorem pair_at {N : Net} {i : Nat} {p : Nat × Nat} (h : N.ands[i]? = some p) : N.pair (N.first + i) = [p.1, p.2] := by
  unfold Net.pair
  rw [Nat.add_sub_cancel_left, h]
theorem lits_snoc (as : List (Nat × Nat)) (p : Nat × Nat) : litsL (as ++ [p]) = litsL as ++ [p.1, p.2] := by
  unfold litsL
  rw [List.map_append, List.flatten_append]
  rfl
theorem lits_app (as bs : List (Nat × Nat)) : litsL (as ++ bs) = litsL as ++ litsL bs := by
  unfold litsL
  rw [List.map_append, List.flatten_append]
theorem pair_lits {N : Net} {y l : Nat} (h : l ∈ N.pair y) : l ∈ litsL N.ands := by
  unfold Net.pair at h
  split at h
  · rename_i p e
    exact List.mem_flatten.mpr ⟨[p.1, p.2], List.mem_map.mpr ⟨p, List.mem_of_getElem? e, rfl⟩, h⟩
  · cases h
theorem lits_pair {N : Net} {l : Nat} (h : l ∈ litsL N.ands) : ∃ (i : Nat) (p : Nat × Nat), N.ands[i]? = some p ∧ l ∈ [p.1, p.2] := by
  obtain ⟨q, hq, hl⟩ := List.mem_flatten.mp h
  obtain ⟨p, hp, rfl⟩ := List.mem_map.mp hq
  obtain ⟨i, hi⟩ := List.mem_iff_getElem?.mp hp
  exact ⟨i, p, hi, hl⟩
theorem pair_lt {N : Net} (R : N.Right) {y l : Nat} (hy : N.first ≤ y) (h : l ∈ N.pair y) : l < 2 * y := by
  unfold Net.pair at h
  split at h
  · rename_i p e
    have := R.ands _ p e
    rw [show N.first + (y - N.first) = y by omega] at this
    rcases List.mem_cons.mp h with rfl | h
    · exact this.1
    · rw [List.mem_singleton.mp h]
      exact this.2
  · cases h
theorem lits_lt {N : Net} (R : N.Right) {l : Nat} (h : l ∈ litsL N.ands) : l < 2 * N.size := by
  obtain ⟨i, p, e, hl⟩ := lits_pair h
  have hi := (List.getElem?_eq_some_iff.mp e).1
  have := pair_lt R (y := N.first + i) (Nat.le_add_right _ _) (by rw [pair_at e]; exact hl)
  unfold Net.size
  omega
theorem use_pos {ls : List Nat} {x : Nat} : 0 < useC ls x ↔ ∃ l ∈ ls, l / 2 = x := by
  unfold useC
  rw [List.countP_pos_iff]
  simp
theorem use_app (a b : List Nat) (x : Nat) : useC (a ++ b) x = useC a x + useC b x := List.countP_append
theorem plain_app (a b : List Nat) (x : Nat) : plainC (a ++ b) x = plainC a x + plainC b x := List.countP_append
theorem plain_odd (ls : List Nat) (x : Nat) : useC ls x = plainC ls x + ls.countP fun l => decide (l / 2 = x ∧ l % 2 = 1) := by
  induction ls with
  | nil => rfl
  | cons l ls ih =>
    unfold useC plainC at ih ⊢
    rw [List.countP_cons, List.countP_cons, List.countP_cons, ih]
    rcases Nat.mod_two_eq_zero_or_one l with h | h <;> by_cases e : l / 2 = x <;> simp [h, e] <;> omega
theorem inn_lt {N : Net} (R : N.Right) {x : Nat} (h : N.inn x = true) : N.first ≤ x ∧ x < N.size := by
  obtain ⟨h1, h2, _⟩ := inn_iff.mp h
  obtain ⟨l, hl, e⟩ := use_pos.mp (show 0 < useC (litsL N.ands) x by omega)
  have := lits_lt R hl
  exact ⟨h1, by omega⟩
theorem inn_even {N : Net} {l : Nat} (hl : l ∈ litsL N.ands) (h : N.inn (l / 2) = true) : l % 2 = 0 := by
  obtain ⟨_, h2, h3, _⟩ := inn_iff.mp h
  have e := plain_odd (litsL N.ands) (l / 2)
  rcases Nat.mod_two_eq_zero_or_one l with q | q
  · exact q
  · have : 0 < (litsL N.ands).countP fun l' => decide (l' / 2 = l / 2 ∧ l' % 2 = 1) := List.countP_pos_iff.mpr ⟨l, hl, by simp [q]⟩
    omega
/-- as the program sees it -/
theorem inn_prog (N : Net) (x : Nat) : N.inn x = (decide (useC (litsL N.ands) x = 1) && !(decide (x < N.first) || oddB (litsL N.ands) x || decide (0 < useC N.ends x))) := by
  have e := plain_odd (litsL N.ands) x
  have o : oddB (litsL N.ands) x = decide (0 < (litsL N.ands).countP fun l => decide (l / 2 = x ∧ l % 2 = 1)) := by
    rw [Bool.eq_iff_iff]
    unfold oddB
    rw [List.any_eq_true, decide_eq_true_eq, List.countP_pos_iff]
  rw [o, Bool.eq_iff_iff, inn_iff]
  simp only [Bool.and_eq_true, Bool.not_eq_true', Bool.or_eq_false_iff, decide_eq_true_eq, decide_eq_false_iff_not]
  constructor
  · rintro ⟨h1, h2, h3, h4⟩
    exact ⟨h2, ⟨by omega, by omega⟩, by omega⟩
  · rintro ⟨h2, ⟨h1, h3⟩, h4⟩
    exact ⟨by omega, h2, by omega, by omega⟩
/-- as the law sees it -/
theorem inn_law {N : Net} {x : Nat} (hx : N.first ≤ x) : N.inn x = decide (useC (litsL N.ands) x + useC N.ends x = 1 ∧ plainC (litsL N.ands) x = 1) := by
  have e := plain_odd (litsL N.ands) x
  rw [Bool.eq_iff_iff, inn_iff, decide_eq_true_eq]
  constructor
  · rintro ⟨h1, h2, h3, h4⟩
    exact ⟨by omega, h3⟩
  · rintro ⟨h2, h3⟩
    exact ⟨hx, by omega, h3, by omega⟩
/-- an inner node stands in one pair, once -/
theorem use_two {N : Net} {i j : Nat} {p q : Nat × Nat} {l m : Nat} (hi : N.ands[i]? = some p) (hj : N.ands[j]? = some q) (hij : i < j) (hl : l ∈ [p.1, p.2]) (hm : m ∈ [q.1, q.2]) (e : l / 2 = m / 2) : 2 ≤ useC (litsL N.ands) (l / 2) := by
  have hs : N.ands = N.ands.take (i + 1) ++ N.ands.drop (i + 1) := (List.take_append_drop _ _).symm
  rw [hs, lits_app, use_app]
  have h1 : 0 < useC (litsL (N.ands.take (i + 1))) (l / 2) := use_pos.mpr ⟨l, List.mem_flatten.mpr ⟨[p.1, p.2], List.mem_map.mpr ⟨p, List.mem_of_getElem? (i := i) (by rw [List.getElem?_take, if_pos (by omega)]; exact hi), rfl⟩, hl⟩, rfl⟩
  have h2 : 0 < useC (litsL (N.ands.drop (i + 1))) (l / 2) := use_pos.mpr ⟨m, List.mem_flatten.mpr ⟨[q.1, q.2], List.mem_map.mpr ⟨q, List.mem_of_getElem? (i := j - (i + 1)) (by rw [List.getElem?_drop, show i + 1 + (j - (i + 1)) = j by omega]; exact hj), rfl⟩, hm⟩, e.symm⟩
  omega
theorem use_pair {N : Net} {i : Nat} {p : Nat × Nat} (hi : N.ands[i]? = some p) (e : p.1 / 2 = p.2 / 2) : 2 ≤ useC (litsL N.ands) (p.1 / 2) := by
  have hl := (List.getElem?_eq_some_iff.mp hi).1
  have hs : N.ands = N.ands.take i ++ (p :: N.ands.drop (i + 1)) := by
    have : N.ands.drop i = p :: N.ands.drop (i + 1) := by
      rw [List.drop_eq_getElem_cons hl, (List.getElem?_eq_some_iff.mp hi).2]
    rw [← this, List.take_append_drop]
  have h : useC (litsL (p :: N.ands.drop (i + 1))) (p.1 / 2) = 2 + useC (litsL (N.ands.drop (i + 1))) (p.1 / 2) := by
    show useC ([p.1, p.2] ++ litsL (N.ands.drop (i + 1))) (p.1 / 2) = _
    rw [use_app]
    congr 1
    unfold useC
    rw [List.countP_cons, List.countP_cons]
    simp [e]
  rw [hs, lits_app, use_app, h]
  omega
/-! ### the leaves of a tree -/
inductive Der (N : Net) : Nat → Nat → Prop
  | here (l : Nat) : Der N l l
  | down {l m k : Nat} : N.inn (l / 2) = true → m ∈ N.pair (l / 2) → Der N m k → Der N l k
def Leaf (N : Net) (h m : Nat) : Prop := N.inn (m / 2) = false ∧ ∃ l ∈ N.pair h, Der N l m
theorem Der.leaf {N : Net} {l m : Nat} (h : Der N l m) (q : N.inn (l / 2) = false) : m = l := by
  cases h with
  | here => rfl
  | down h1 _ _ => rw [q] at h1; cases h1
theorem Der.split {N : Net} {l m : Nat} (h : Der N l m) (q : N.inn (l / 2) = true) (hm : N.inn (m / 2) = false) : ∃ k ∈ N.pair (l / 2), Der N k m := by
  cases h with
  | here => rw [q] at hm; cases hm
  | down _ h2 h3 => exact ⟨_, h2, h3⟩
theorem Der.lt {N : Net} (R : N.Right) {l m : Nat} (h : Der N l m) : ∀ {b : Nat}, l < b → m < b := by
  induction h with
  | here => exact id
  | @down l m k h1 h2 _ ih =>
    intro b hb
    have := pair_lt R (inn_lt R h1).1 h2
    exact ih (by omega)
theorem Leaf.lt {N : Net} (R : N.Right) {h m : Nat} (hh : N.first ≤ h) (w : Leaf N h m) : m < 2 * h := by
  obtain ⟨_, l, hl, d⟩ := w
  exact d.lt R (pair_lt R hh hl)
open Classical in
noncomputable def leafL (N : Net) (h : Nat) : List Nat := (List.range (2 * h)).filter fun l => decide (Leaf N h l)
theorem range_asc : ∀ n : Nat, (List.range n).Pairwise (· < ·)
  | 0 => .nil
  | n + 1 => by
    rw [List.range_succ, List.pairwise_append]
    exact ⟨range_asc n, List.pairwise_singleton _ _, fun x hx y hy => by
      rw [List.mem_singleton.mp hy]
      exact List.mem_range.mp hx⟩
open Classical in
theorem leafL_asc (N : Net) (h : Nat) : (leafL N h).Pairwise (· < ·) := (range_asc _).filter _
open Classical in
theorem mem_leafL {N : Net} (R : N.Right) {h l : Nat} (hh : N.first ≤ h) : l ∈ leafL N h ↔ Leaf N h l := by
  unfold leafL
  rw [List.mem_filter, List.mem_range, decide_eq_true_eq]
  exact ⟨fun q => q.2, fun q => ⟨q.lt R hh, q⟩⟩
theorem asc_uniq : ∀ {xs ys : List Nat}, xs.Pairwise (· < ·) → ys.Pairwise (· < ·) → (∀ x, x ∈ xs ↔ x ∈ ys) → xs = ys
  | [], [], _, _, _ => rfl
  | [], y :: ys, _, _, h => absurd ((h y).mpr (by simp)) (by simp)
  | x :: xs, [], _, _, h => absurd ((h x).mp (by simp)) (by simp)
  | x :: xs, y :: ys, hx, hy, h => by
    obtain ⟨x1, x2⟩ := List.pairwise_cons.mp hx
    obtain ⟨y1, y2⟩ := List.pairwise_cons.mp hy
    have e : x = y := by
      rcases List.mem_cons.mp ((h x).mp (by simp)) with q | q
      · exact q
      · rcases List.mem_cons.mp ((h y).mpr (by simp)) with k | k
        · exact k.symm
        · have a := y1 x q
          have b := x1 y k
          omega
    subst e
    rw [asc_uniq x2 y2 fun z => ?_]
    constructor
    · intro hz
      rcases List.mem_cons.mp ((h z).mp (by simp [hz])) with q | q
      · have := x1 z hz
        omega
      · exact q
    · intro hz
      rcases List.mem_cons.mp ((h z).mpr (by simp [hz])) with q | q
      · have := y1 z hz
        omega
      · exact q
theorem leafL_uniq {N : Net} (R : N.Right) {h : Nat} (hh : N.first ≤ h) {xs : List Nat} (ha : xs.Pairwise (· < ·)) (hm : ∀ l, l ∈ xs ↔ Leaf N h l) : xs = leafL N h :=
  asc_uniq ha (leafL_asc N h) fun l => (hm l).trans (mem_leafL R hh).symm
/-! ### the program's stack of literals -/
structure StkI (N : Net) (h : Nat) (todo : List Nat) (S : Nat → Prop) : Prop where
  lit : ∀ l ∈ todo, l ∈ litsL N.ands
  lo : ∀ (i l : Nat), todo[i]? = some l → i + l / 2 ≤ h
  is : ∀ m, N.inn (m / 2) = false → (Leaf N h m ↔ S m ∨ ∃ l ∈ todo, Der N l m)
  sl : ∀ m, S m → N.inn (m / 2) = false
theorem mem_snoc2 {α : Type} {x : α} {xs : List α} {y : α} : x ∈ xs ++ [y] ↔ x ∈ xs ∨ x = y := by rw [List.mem_append, List.mem_singleton]
theorem StkI.leaf {N : Net} {h l : Nat} {todo : List Nat} {S : Nat → Prop} (w : StkI N h (todo ++ [l]) S) (q : N.inn (l / 2) = false) : StkI N h todo (fun m => S m ∨ m = l) := by
  refine ⟨fun x hx => w.lit x (List.mem_append_left _ hx), fun i x hx => w.lo i x (by rw [List.getElem?_append_left (List.getElem?_eq_some_iff.mp hx).1]; exact hx), fun m hm => ?_, fun m hm => hm.elim (w.sl m) (fun e => e ▸ q)⟩
  rw [w.is m hm]
  constructor
  · rintro (s | ⟨x, hx, d⟩)
    · exact .inl (.inl s)
    · rcases mem_snoc2.mp hx with hx | rfl
      · exact .inr ⟨x, hx, d⟩
      · exact .inl (.inr (d.leaf q))
  · rintro ((s | rfl) | ⟨x, hx, d⟩)
    · exact .inl s
    · exact .inr ⟨m, mem_snoc2.mpr (.inr rfl), .here m⟩
    · exact .inr ⟨x, mem_snoc2.mpr (.inl hx), d⟩
theorem StkI.inner {N : Net} (R : N.Right) {h l : Nat} {p : Nat × Nat} {todo : List Nat} {S : Nat → Prop} (w : StkI N h (todo ++ [l]) S) (q : N.inn (l / 2) = true) (hp : N.pair (l / 2) = [p.1, p.2]) : StkI N h (todo ++ [p.1, p.2]) S := by
  have top := w.lo todo.length l (by rw [List.getElem?_append_right (Nat.le_refl _), Nat.sub_self]; rfl)
  have hf := (inn_lt R q).1
  have b1 := pair_lt R hf (l := p.1) (by rw [hp]; simp)
  have b2 := pair_lt R hf (l := p.2) (by rw [hp]; simp)
  refine ⟨fun x hx => ?_, fun i x hx => ?_, fun m hm => ?_, w.sl⟩
  · rcases List.mem_append.mp hx with k | k
    · exact w.lit x (List.mem_append_left _ k)
    · exact pair_lits (y := l / 2) (by rw [hp]; exact k)
  · by_cases hi : i < todo.length
    · rw [List.getElem?_append_left hi] at hx
      exact w.lo i x (by rw [List.getElem?_append_left hi]; exact hx)
    · rw [List.getElem?_append_right (by omega)] at hx
      have hl := (List.getElem?_eq_some_iff.mp hx).1
      simp only [List.length_cons, List.length_nil] at hl
      rcases (show i - todo.length = 0 ∨ i - todo.length = 1 by omega) with e | e
      · rw [e] at hx
        cases hx
        omega
      · rw [e] at hx
        cases hx
        omega
  · rw [w.is m hm]
    constructor
    · rintro (s | ⟨x, hx, d⟩)
      · exact .inl s
      · rcases mem_snoc2.mp hx with hx | rfl
        · exact .inr ⟨x, List.mem_append_left _ hx, d⟩
        · obtain ⟨k, hk, d'⟩ := d.split q hm
          exact .inr ⟨k, List.mem_append_right _ (by rw [← hp]; exact hk), d'⟩
    · rintro (s | ⟨x, hx, d⟩)
      · exact .inl s
      · rcases List.mem_append.mp hx with hx | hx
        · exact .inr ⟨x, mem_snoc2.mpr (.inl hx), d⟩
        · exact .inr ⟨l, mem_snoc2.mpr (.inr rfl), .down q (by rw [hp]; exact hx) d⟩
theorem StkI.start {N : Net} (R : N.Right) {h : Nat} (hh : N.first ≤ h) {p : Nat × Nat} (hp : N.pair h = [p.1, p.2]) : StkI N h [p.1, p.2] (fun _ => False) := by
  have b1 := pair_lt R hh (l := p.1) (by rw [hp]; simp)
  have b2 := pair_lt R hh (l := p.2) (by rw [hp]; simp)
  refine ⟨fun x hx => pair_lits (y := h) (by rw [hp]; exact hx), fun i x hx => ?_, fun m hm => ?_, fun _ k => k.elim⟩
  · have hl := (List.getElem?_eq_some_iff.mp hx).1
    simp only [List.length_cons, List.length_nil] at hl
    rcases (show i = 0 ∨ i = 1 by omega) with rfl | rfl
    · cases hx
      omega
    · cases hx
      omega
  · unfold Leaf
    rw [hp]
    exact ⟨fun q => .inr q.2, fun q => q.elim (fun k => k.elim) fun k => ⟨hm, k⟩⟩
theorem StkI.done {N : Net} {h : Nat} {S : Nat → Prop} (w : StkI N h [] S) (m : Nat) : S m ↔ Leaf N h m := by
  constructor
  · intro s
    exact (w.is m (w.sl m s)).mpr (.inl s)
  · intro s
    rcases (w.is m s.1).mp s with k | ⟨l, hl, _⟩
    · exact k
    · cases hl
/-- the measure of a stack -/
def stkM (todo : List Nat) : Nat := (todo.map fun l => 3 ^ (l / 2)).sum
theorem stkM_app (a b : List Nat) : stkM (a ++ b) = stkM a + stkM b := by
  unfold stkM
  rw [List.map_append, List.sum_append]
theorem stkM_leaf (todo : List Nat) (l : Nat) : stkM todo < stkM (todo ++ [l]) := by
  rw [stkM_app]
  have : 0 < 3 ^ (l / 2) := Nat.pow_pos (by decide)
  show stkM todo < stkM todo + (3 ^ (l / 2) + 0)
  omega
theorem stkM_inner {todo : List Nat} {l a b : Nat} (ha : a < 2 * (l / 2)) (hb : b < 2 * (l / 2)) : stkM (todo ++ [a, b]) < stkM (todo ++ [l]) := by
  rw [stkM_app, stkM_app]
  obtain ⟨k, hk⟩ : ∃ k, l / 2 = k + 1 := ⟨l / 2 - 1, by omega⟩
  have h1 : 3 ^ (a / 2) ≤ 3 ^ k := Nat.pow_le_pow_right (by decide) (by omega)
  have h2 : 3 ^ (b / 2) ≤ 3 ^ k := Nat.pow_le_pow_right (by decide) (by omega)
  have h3 : 0 < 3 ^ k := Nat.pow_pos (by decide)
  show stkM todo + (3 ^ (a / 2) + (3 ^ (b / 2) + 0)) < stkM todo + (3 ^ (l / 2) + 0)
  rw [hk, Nat.pow_succ]
  omega
end Bf

set_option Elab.async false
set_option linter.all false
set_option maxRecDepth 100000
set_option maxHeartbeats 4000000
namespace Bf
open PySem
/-! ### paths up to a node -/
def StepZ (N : Net) (a b : Int) : Prop := 0 ≤ a ∧ 0 ≤ b ∧ a.toNat ∈ N.ops b.toNat
theorem ops_rng {N : Net} {x y : Nat} (h : y ∈ N.ops x) : N.first ≤ x ∧ x < N.size := by
  unfold Net.ops at h
  split at h
  · cases h
  · rename_i hx
    split at h
    · rename_i p e
      have := (List.getElem?_eq_some_iff.mp e).1
      unfold Net.size
      omega
    · cases h
theorem StepZ.lt {N : Net} (R : N.Right) {a b : Int} (h : StepZ N a b) : a < b ∧ (N.first : Int) ≤ b ∧ b < (N.size : Int) := by
  obtain ⟨h1, h2, h3⟩ := h
  have := ops_lt R h3
  have := ops_rng h3
  omega
structure GoodPath (N : Net) (node : Int) (p : List Int) : Prop where
  head : ∃ a, p[0]? = some a ∧ 0 < a ∧ a < (N.first : Int)
  last : p[p.length - 1]? = some node
  st : ∀ (i : Nat) (a b : Int), p[i]? = some a → p[i + 1]? = some b → StepZ N a b
theorem GoodPath.asc {N : Net} (R : N.Right) {p : List Int} (st : ∀ (i : Nat) (a b : Int), p[i]? = some a → p[i + 1]? = some b → StepZ N a b) {i : Nat} : ∀ (d : Nat) {a b : Int}, p[i]? = some a → p[i + 1 + d]? = some b → a < b
  | 0, a, b, ha, hb => ((st i a b ha hb).lt R).1
  | d + 1, a, b, ha, hb => by
    have hl := (List.getElem?_eq_some_iff.mp hb).1
    have e : p[i + 1 + d]? = some p[i + 1 + d] := List.getElem?_eq_getElem (by omega)
    have h1 := GoodPath.asc R st d ha e
    have h2 := ((st (i + 1 + d) _ b e hb).lt R).1
    omega
theorem GoodPath.le {N : Net} (R : N.Right) {node : Int} {p : List Int} (h : GoodPath N node p) {i : Nat} {a : Int} (ha : p[i]? = some a) : a ≤ node := by
  have hi := (List.getElem?_eq_some_iff.mp ha).1
  by_cases e : i = p.length - 1
  · rw [e, h.last] at ha
    cases ha
    exact Int.le_refl _
  · have hl := h.last
    obtain ⟨d, hd⟩ : ∃ d, p.length - 1 = i + 1 + d := ⟨p.length - 1 - (i + 1), by omega⟩
    rw [hd] at hl
    have := GoodPath.asc R h.st d ha hl
    omega
theorem GoodPath.pos {N : Net} (R : N.Right) {node : Int} {p : List Int} (h : GoodPath N node p) {i : Nat} {a : Int} (ha : p[i]? = some a) : 0 < a := by
  cases i with
  | zero =>
    obtain ⟨a', h1, h2, _⟩ := h.head
    rw [h1] at ha
    cases ha
    exact h2
  | succ i =>
    have hi := (List.getElem?_eq_some_iff.mp ha).1
    have e : p[i]? = some p[i] := List.getElem?_eq_getElem (by omega)
    have := (h.st i _ a e ha).lt R
    unfold Net.first at this
    omega
theorem GoodPath.nodup {N : Net} (R : N.Right) {node : Int} {p : List Int} (h : GoodPath N node p) : p.Nodup := by
  refine List.pairwise_iff_getElem.mpr fun i j hi hj hij => ?_
  obtain ⟨d, hd⟩ : ∃ d, j = i + 1 + d := ⟨j - (i + 1), by omega⟩
  subst hd
  have := GoodPath.asc R h.st d (List.getElem?_eq_getElem hi) (List.getElem?_eq_getElem hj)
  omega
theorem GoodPath.mem {N : Net} (R : N.Right) {node : Int} {p : List Int} (h : GoodPath N node p) {a : Int} (ha : a ∈ p) : 0 < a ∧ a ≤ node := by
  obtain ⟨i, hi⟩ := List.mem_iff_getElem?.mp ha
  exact ⟨h.pos R hi, h.le R hi⟩
theorem GoodPath.ne {N : Net} {node : Int} {p : List Int} (h : GoodPath N node p) : p ≠ [] := by
  rintro rfl
  obtain ⟨a, h1, _⟩ := h.head
  cases h1
theorem GoodPath.snoc {N : Net} {high node : Int} {p : List Int} (h : GoodPath N high p) (s : StepZ N high node) : GoodPath N node (p ++ [node]) := by
  have hp : 0 < p.length := List.length_pos_iff.mpr h.ne
  refine ⟨?_, ?_, fun i a b ha hb => ?_⟩
  · obtain ⟨a, h1, h2⟩ := h.head
    exact ⟨a, by rw [List.getElem?_append_left hp]; exact h1, h2⟩
  · rw [List.length_append, List.length_singleton, List.getElem?_append_right (by omega)]
    simp
  · by_cases hi : i + 1 < p.length
    · rw [List.getElem?_append_left hi] at hb
      rw [List.getElem?_append_left (by omega)] at ha
      exact h.st i a b ha hb
    · have hbl := (List.getElem?_eq_some_iff.mp hb).1
      rw [List.length_append, List.length_singleton] at hbl
      have e : i + 1 = p.length := by omega
      rw [List.getElem?_append_right (by omega)] at hb
      rw [List.getElem?_append_left (by omega)] at ha
      have e2 : i = p.length - 1 := by omega
      rw [e2, h.last] at ha
      cases ha
      rw [e, Nat.sub_self] at hb
      cases hb
      exact s
/-! ### parts -/
def rowAt (rows : List Int) (x : Int) : Int := rows.getD x.toNat 0
def lowL (rows : List Int) (bound : Int) (xs : List Int) : List Int := xs.filter fun x => decide (rowAt rows x ≤ bound)
def PartOk (N : Net) (k : Nat) (rows : List Int) (node : Nat) (part : List (List Int)) : Prop :=
  if rowAt rows node = 1 then part = [] else part.length = k + 1 ∧ (∀ p ∈ part, GoodPath N node p) ∧ (lowL rows (rowAt rows node - 2) part.flatten).Nodup
structure BarsOk (N : Net) (k : Nat) (lv : List Int) (parts : List (List (List Int))) : Prop where
  l1 : lv.length = N.ands.length
  l2 : parts.length = N.ands.length
  pos : ∀ l ∈ lv, 1 ≤ l
  part : ∀ (i : Nat) (part : List (List Int)), parts[i]? = some part → PartOk N k (List.replicate N.first 0 ++ lv) (N.first + i) part
theorem lowL_congr {rows rows' : List Int} {bound : Int} {xs : List Int} (h : ∀ x ∈ xs, rowAt rows x = rowAt rows' x) : lowL rows bound xs = lowL rows' bound xs :=
  List.filter_congr fun x hx => by rw [h x hx]
theorem PartOk.keep {N : Net} (R : N.Right) {k node : Nat} {rows rows' : List Int} {part : List (List Int)} (h : PartOk N k rows node part) (e : ∀ x : Nat, x ≤ node → rowAt rows x = rowAt rows' x) : PartOk N k rows' node part := by
  unfold PartOk at *
  rw [← e node (Nat.le_refl _)]
  split at h
  · rename_i h1
    rw [if_pos h1]
    exact h
  · rename_i h1
    rw [if_neg h1]
    obtain ⟨h2, h3, h4⟩ := h
    refine ⟨h2, h3, ?_⟩
    rw [← lowL_congr fun x hx => ?_]
    · exact h4
    · obtain ⟨p, hp, hxp⟩ := List.mem_flatten.mp hx
      have m := (h3 p hp).mem R hxp
      have := e x.toNat (by omega)
      rw [show ((x.toNat : Nat) : Int) = x by omega] at this
      exact this
theorem lowL_snocs {rows : List Int} {bound node : Int} (hn : ¬ rowAt rows node ≤ bound) : ∀ part : List (List Int), lowL rows bound (part.map fun p => p ++ [node]).flatten = lowL rows bound part.flatten
  | [] => rfl
  | p :: r => by
    have ih := lowL_snocs hn r
    unfold lowL at ih ⊢
    rw [List.map_cons, List.flatten_cons, List.flatten_cons, List.filter_append, List.filter_append, List.filter_append, ih]
    congr 1
    rw [List.filter_cons_of_neg (by simpa using hn), List.filter_nil, List.append_nil]
theorem PartOk.up {N : Net} {k high node : Nat} {rows : List Int} {part : List (List Int)} (h : PartOk N k rows high part) (s : StepZ N high node) (e : rowAt rows high = rowAt rows node) : PartOk N k rows node (part.map fun p => p ++ [(node : Int)]) := by
  unfold PartOk at *
  rw [← e]
  split at h
  · rename_i h1
    rw [if_pos h1, h]
    rfl
  · rename_i h1
    rw [if_neg h1]
    obtain ⟨h2, h3, h4⟩ := h
    refine ⟨by rw [List.length_map]; exact h2, fun p hp => ?_, ?_⟩
    · obtain ⟨p', hp', rfl⟩ := List.mem_map.mp hp
      exact (h3 p' hp').snoc s
    · rw [lowL_snocs (by rw [← e]; omega)]
      exact h4
/-! ### nodes met twice -/
theorem lowL_snoc {rows : List Int} {bound x : Int} {xs : List Int} : lowL rows bound (xs ++ [x]) = if rowAt rows x ≤ bound then lowL rows bound xs ++ [x] else lowL rows bound xs := by
  unfold lowL
  rw [List.filter_append]
  by_cases h : rowAt rows x ≤ bound
  · rw [if_pos h, List.filter_cons_of_pos (by simpa using h)]
    rfl
  · rw [if_neg h, List.filter_cons_of_neg (by simpa using h), List.filter_nil, List.append_nil]
theorem low_twice {rows : List Int} {bound x : Int} {xs ys : List Int} (h1 : rowAt rows x ≤ bound) (h2 : x ∈ xs) : ¬ (lowL rows bound (xs ++ x :: ys)).Nodup := by
  intro h
  have e : xs ++ x :: ys = (xs ++ [x]) ++ ys := by simp
  rw [e] at h
  unfold lowL at h
  rw [List.filter_append, List.filter_append, List.filter_cons_of_pos (by simpa using h1)] at h
  have h3 := (List.nodup_append.mp h).1
  exact (List.nodup_append.mp h3).2.2 x (List.mem_filter.mpr ⟨h2, by simpa using h1⟩) x (by simp) rfl
theorem low_once {rows : List Int} {bound x : Int} {xs : List Int} (h : (lowL rows bound xs).Nodup) (hn : ¬ (rowAt rows x ≤ bound ∧ x ∈ xs)) : (lowL rows bound (xs ++ [x])).Nodup := by
  rw [lowL_snoc]
  split
  · rename_i h1
    refine List.nodup_append.mpr ⟨h, by simp, fun a ha b hb e => hn ⟨h1, ?_⟩⟩
    rw [← List.mem_singleton.mp hb, ← e]
    exact (List.mem_filter.mp ha).1
  · exact h
/-- one path more -/
theorem low_path {rows : List Int} {bound : Int} {xs p : List Int} (h : (lowL rows bound xs).Nodup) (hp : p.Nodup) (hd : ∀ x ∈ p, rowAt rows x ≤ bound → x ∉ xs) : (lowL rows bound (xs ++ p)).Nodup := by
  unfold lowL at *
  rw [List.filter_append]
  refine List.nodup_append.mpr ⟨h, hp.filter _, fun a ha b hb e => ?_⟩
  have h1 := List.mem_filter.mp hb
  exact hd b h1.1 (by simpa using h1.2) (e ▸ (List.mem_filter.mp ha).1)
/-- all levels 1, no paths -/
theorem bars_ones (N : Net) (k : Nat) : BarsOk N k (List.replicate N.ands.length 1) (List.replicate N.ands.length []) := by
  refine ⟨by simp, by simp, fun l hl => by rw [List.eq_of_mem_replicate hl]; exact Int.le_refl _, fun i part hp => ?_⟩
  have hi : i < N.ands.length := by simpa using (List.getElem?_eq_some_iff.mp hp).1
  rw [List.getElem?_replicate, if_pos hi] at hp
  cases hp
  unfold PartOk
  rw [if_pos]
  unfold rowAt
  rw [List.getD_eq_getElem?_getD, show ((N.first + i : Nat) : Int).toNat = N.first + i from rfl, List.getElem?_append_right (by simp), List.length_replicate, List.getElem?_replicate, if_pos (by omega)]
  rfl
end Bf

set_option Elab.async false
set_option linter.all false
set_option maxRecDepth 100000
set_option maxHeartbeats 4000000
namespace Bf
open PySem PySem.Spec PyProof.Rows L2
/-! ### zip of a list and a shorter one -/
theorem walk_zipMin (S1 S2 : Src) {K : PySem.W.Frag} {a b : Addr} {xs ys : List V} (h : ys.length ≤ xs.length) : Walk (ItZ S1 S2 K a b) ys.length (fun H => S1.sq K H a xs ∧ S2.sq K H b ys) (YPair (fun i => xs[i]?) (fun i => ys[i]?)) := by
  refine ⟨fun i _ hi q => ⟨xs, ys, xs[i], ys[i], q.1, q.2, by simp [show i < xs.length by omega], by simp [hi]⟩, fun _ q => ⟨xs, ys, q.1, q.2, h, Nat.le_refl _, .inr rfl⟩, fun i H v H' _ q y => ?_⟩
  obtain ⟨T, x, y, h1, h2, h3, h4, h5⟩ := y
  exact ⟨T, x, y, h1, h2, h3, h4 xs q.1, h5 ys q.2⟩
/-! ### slices -/
theorem cutV_from (xs : List V) (k : Nat) : cutV xs (some (k : Int)) none = xs.drop k := by
  unfold cutV
  rw [HT.sIx_nat, HT.sIx_none]
  by_cases h : k ≤ xs.length
  · rw [Nat.min_eq_left h]
    exact List.take_of_length_le (by rw [List.length_drop]; exact Nat.le_refl _)
  · rw [Nat.min_eq_right (by omega), Nat.sub_self, List.take_zero, List.drop_eq_nil_of_le (by omega)]
theorem cutV_to (xs : List V) (k : Nat) : cutV xs none (some (k : Int)) = xs.take k := by
  unfold cutV
  rw [HT.sIx_nat, HT.sIx_none, List.drop_zero, Nat.sub_zero]
  by_cases h : k ≤ xs.length
  · rw [Nat.min_eq_left h]
  · rw [Nat.min_eq_right (by omega), List.take_of_length_le (Nat.le_refl _), List.take_of_length_le (by omega)]
/-- a tuple's slice, as a list of values -/
theorem rdSl {K : PySem.W.Frag} {H : Hp} {b : Addr} {xs : List V} {lo hi : Option Int} {Q : VK} (hb : SqT K H b xs) (k : ∀ (t : Addr) (H' : Hp), Same H H' → SqT K H' t (cutV xs lo hi) → Q (.ref t) H') : rSlA K (.ref b) lo hi H Q := by
  refine ⟨b, xs, rfl, hb, fun hw => ?_, fun hw p hp => k p _ (fun b u q => by rw [upd_ne (ne_of_none q hp)]; exact q) (SqT.of upd_same)⟩
  refine k b H (Same.refl _) ?_
  unfold cutV
  rw [hw.1, hw.2, List.drop_zero, Nat.sub_zero, List.take_length]
  exact hb
/-! ### whole numbers as data -/
def zD (i : Int) : PyData := .int i
theorem lay_zs {H : Hp} : ∀ {ns : List Int} {us : List V}, LayAll H us (ns.map zD) → us = ns.map V.int
  | [], _, h => by cases h; rfl
  | n :: r, _, h => by
    cases h with
    | cons a t =>
      rw [lay_zs t]
      cases a
      rfl
theorem zs_lay {H : Hp} : ∀ ns : List Int, LayAll H (ns.map V.int) (ns.map zD)
  | [] => .nil
  | n :: r => .cons (.int _) (zs_lay r)
theorem dp_zs {K : PySem.W.Frag} {H : Hp} (ns : List Int) : DpAll K H (ns.map V.int) (ns.map zD) := (zs_lay ns).dp
theorem eqv_zs : ∀ ns ms : List Int, PyData.eqvAll (ns.map zD) (ms.map zD) = decide (ns = ms)
  | [], [] => by simp [PyData.eqvAll]
  | [], _ :: _ => by simp [PyData.eqvAll]
  | _ :: _, [] => by simp [PyData.eqvAll]
  | n :: ns, m :: ms => by
    rw [List.map_cons, List.map_cons, PyData.eqvAll, eqv_zs ns ms]
    by_cases h : n = m
    · subst h
      simp [PyData.eqv, zD]
    · simp [PyData.eqv, zD, h]
theorem sh_zs (ns : List Int) : Sh 1 (.list (ns.map zD)) := Sh.lst fun d hd => by
  obtain ⟨n, _, rfl⟩ := List.mem_map.mp hd
  exact Sh.int _ _
theorem sh_zt (ns : List Int) : Sh 1 (.tuple (ns.map zD)) := Sh.tup fun d hd => by
  obtain ⟨n, _, rfl⟩ := List.mem_map.mp hd
  exact Sh.int _ _
/-- two lists of numbers, != -/
theorem rdNeZ {K : PySem.W.Frag} {H : Hp} {a b : Addr} {ns ms : List Int} {Q : VK} (ha : SqL K H a (ns.map V.int)) (hb : SqL K H b (ms.map V.int)) (q : Q (.bl (!decide (ns = ms))) H) : rNeD K (.ref a) (.ref b) H Q := by
  refine ⟨.list (ns.map zD), .list (ms.map zD), .lst ha (dp_zs ns), .lst hb (dp_zs ms), (sh_zs ns).shaped (by decide), (sh_zs ms).shaped (by decide), ?_⟩
  rw [PyData.eqv, eqv_zs]
  exact q
theorem inV_z (x : Int) : ∀ xs : List Int, inV (.int x) (xs.map V.int) = decide (x ∈ xs)
  | [] => rfl
  | y :: xs => by
    have ih := inV_z x xs
    show (eqV (.int y) (.int x) || inV (.int x) (xs.map V.int)) = _
    rw [ih]
    have e : eqV (.int y) (.int x) = decide (y = x) := by
      show (y == x) = decide (y = x)
      by_cases h : y = x
      · subst h; simp
      · rw [decide_eq_false h]
        exact beq_eq_false_iff_ne.mpr h
    rw [e]
    by_cases q : y = x
    · subst q; simp
    · have : ¬ x = y := fun h => q h.symm
      simp [q, this]
theorem flat_zs : ∀ xs : List Int, (xs.map V.int).all flatV = true
  | [] => rfl
  | a :: r => by
    rw [List.map_cons, List.all_cons, flat_zs r]
    rfl
theorem rdInZ {K : PySem.W.Frag} {H : Hp} {a : Addr} {xs : List Int} {x : Int} {Q : VK} (h : SqL K H a (xs.map V.int)) (q : Q (.bl (decide (x ∈ xs))) H) : rIn K false (.int x) (.ref a) H Q := by
  refine ⟨a, _, rfl, .inl h, rfl, flat_zs xs, ?_⟩
  rw [if_neg (by decide), inV_z]
  exact q
theorem rdNotInZ {K : PySem.W.Frag} {H : Hp} {a : Addr} {xs : List Int} {x : Int} {Q : VK} (h : SqL K H a (xs.map V.int)) (q : Q (.bl (!decide (x ∈ xs))) H) : rIn K true (.int x) (.ref a) H Q := by
  refine ⟨a, _, rfl, .inl h, rfl, flat_zs xs, ?_⟩
  rw [if_pos rfl, inV_z]
  exact q
/-- ascending lists of the same numbers -/
theorem ascZ_same {xs ys : List Int} (hx : xs.Pairwise (· < ·)) (hy : ys.Pairwise (· < ·)) (h : ∀ v, v ∈ xs ↔ v ∈ ys) : xs = ys := by
  have nx : xs.Nodup := hx.imp fun h => Int.ne_of_lt h
  have ny : ys.Nodup := hy.imp fun h => Int.ne_of_lt h
  exact ((List.perm_ext_iff_of_nodup nx ny).mpr h).eq_of_pairwise (fun a b _ _ h1 h2 => absurd h1 (Int.lt_asymm h2)) hx hy
theorem sorted_eq {xs ns : List Int} (pw : ns.Pairwise (· < ·)) (h : ∀ v, v ∈ ns ↔ v ∈ xs) : xs = ns ↔ xs.Pairwise (· < ·) := by
  constructor
  · intro e
    rw [e]
    exact pw
  · intro hx
    exact ascZ_same hx pw fun v => (h v).symm
/-! ### ascending? -/
def ascB (xs : List Int) : List Bool := (xs.zip xs.tail).map fun p => decide (p.1 < p.2)
theorem ascB_iff : ∀ xs : List Int, (ascB xs).all id = true ↔ xs.Pairwise (· < ·)
  | [] => by simp [ascB]
  | [a] => by simp [ascB]
  | a :: b :: r => by
    have ih := ascB_iff (b :: r)
    have e : ascB (a :: b :: r) = decide (a < b) :: ascB (b :: r) := rfl
    rw [e, List.all_cons, Bool.and_eq_true, ih]
    constructor
    · rintro ⟨h1, h2⟩
      refine List.pairwise_cons.mpr ⟨fun c hc => ?_, h2⟩
      have h1 : a < b := of_decide_eq_true h1
      rcases List.mem_cons.mp hc with rfl | hc
      · exact h1
      · have := (List.pairwise_cons.mp h2).1 c hc
        omega
    · intro h
      obtain ⟨h1, h2⟩ := List.pairwise_cons.mp h
      exact ⟨decide_eq_true (h1 b (by simp)), h2⟩
theorem ascB_at {xs : List Int} {i : Nat} {a b : Int} (h1 : xs[i]? = some a) (h2 : xs.tail[i]? = some b) : (ascB xs)[i]? = some (decide (a < b)) := by
  unfold ascB
  rw [List.getElem?_map]
  have : (xs.zip xs.tail)[i]? = some (a, b) := List.getElem?_zip_eq_some.mpr ⟨h1, h2⟩
  rw [this]
  rfl
theorem ascB_len (xs : List Int) : (ascB xs).length = xs.tail.length := by
  unfold ascB
  rw [List.length_map, List.length_zip, List.length_tail]
  omega
/-- a bool as it is told -/
theorem qB {Q : VK} {H : Hp} {b c : Bool} (h : b = c) (q : Q (.bl c) H) : Q (V.bl b) H := by
  rw [h]
  exact q
theorem decB {P : Prop} [Decidable P] {b : Bool} (h : b = true ↔ P) : b = decide P := by
  rw [Bool.eq_iff_iff, decide_eq_true_iff]
  exact h
theorem all_map_dec {α : Type} {p : α → Prop} [DecidablePred p] (xs : List α) : ((xs.map fun x => decide (p x)).all id = true) ↔ ∀ x ∈ xs, p x := by
  rw [List.all_map, List.all_eq_true]
  constructor
  · intro h x hx
    exact of_decide_eq_true (h x hx)
  · intro h x hx
    exact decide_eq_true (h x hx)
/-- [p x for x in rows]: bools -/
theorem lc_rowsB {J : It} {xs : List V} {G : Hp → Prop} (w : Walk J xs.length G (YAt xs)) {α : Type} {rows : List α} {f : α → PyData} {p : α → Bool} {tg : TG} {te : TE} {vs : List Nat} {σ : L2.St} {H1 : Hp} {D : Addr} {Qd : Hp → Prop}
    (hG : ∀ H', Same H1 H' → G H') (hD : H1 D = none) (lay : LayAll H1 xs (rows.map f)) (hl : rows.length ≤ 1000)
    (hs : ∀ (x : V) (r : α) (H' : Hp) (R : V → Hp → Prop) (Z : Hp → Prop), r ∈ rows → Same H1 H' → Lay H' x (f r) → (∀ H4, Same H' H4 → R (.bl (p r)) H4) →
      tg x (wipe σ vs) H' fun σ2 H2 => wipe σ2 vs = wipe σ vs ∧ tYes σ2 H2 fun b H3 => if b = true then te σ2 H3 R else Z H3)
    (hd : ∀ H', Same H1 H' → H' D = some (.lst ((rows.map p).map V.bl)) → Qd H') :
    ∃ W : Nat → Nat → Hp → Prop, (∃ m, W 0 m (upd H1 D (.lst []))) ∧ ∀ i m H, W i m H →
      (J.stop i H ∧ Qd H) ∨ (J.go i H ∧ ∃ Nx : Hp → Prop, (∀ H', Nx H' → ∃ m', m' < m ∧ W (i + 1) m' H') ∧ ∀ x H', J.yld i H x H' → tg x (wipe σ vs) H' fun σ2 H2 => wipe σ2 vs = wipe σ vs ∧ tYes σ2 H2 fun b H3 =>
        if b = true then te σ2 H3 fun y H4 => ∃ acc, H4 D = some (.lst acc) ∧ acc.length < sizeLine ∧ Nx (upd H4 D (.lst (acc ++ [y]))) else Nx H3) :=
  lc_rows w hG hD lay hl (g := p) (h := blD) (fun i x r H' R Z hr sm lx k => hs x r H' R Z (List.mem_of_getElem? hr) sm lx fun H4 s4 => k _ _ s4 (.bl _)) fun us H' sm eD lus => hd H' sm (by rw [← lay_bls lus]; exact eD)
theorem useB {R : V → Hp → Prop} {H : Hp} {b c : Bool} (k : R (.bl b) H) (e : b = c) : R (.bl c) H := e ▸ k
theorem rdCatT {K : PySem.W.Frag} {H : Hp} {a b : Addr} {xs ys : List V} {Q : VK} (ha : SqT K H a xs) (hb : SqT K H b ys) (hl : xs.length + ys.length ≤ 1000) (k : ∀ (t : Addr) (H' : Hp), Same H H' → SqT K H' t (xs ++ ys) → Q (.ref t) H') : rCatA K (.ref a) (.ref b) H Q := by
  refine ⟨a, b, xs, ys, rfl, rfl, ha, hb, le1000 hl, fun e => ?_, fun _ e => ?_, fun _ _ p hp => k p _ (fun b u q => by rw [upd_ne (ne_of_none q hp)]; exact q) (SqT.of upd_same)⟩
  · subst e
    exact k b H (.refl _) hb
  · subst e
    exact k a H (.refl _) (by rw [List.append_nil]; exact ha)
theorem vInt_eq (i j : Int) : decide (V.int i = V.int j) = decide (i = j) := by
  by_cases h : i = j
  · subst h; simp
  · rw [decide_eq_false h, decide_eq_false fun e => h (V.int.inj e)]
theorem sortedN {M : List Nat} {ys : List Int} (h : ys.Perm (castL M)) (hp : ys.Pairwise (· ≤ ·)) (nd : M.Nodup) : ∃ zs : List Nat, ys.map V.int = zs.map vI ∧ zs.Pairwise (· < ·) ∧ (∀ v, v ∈ zs ↔ v ∈ M) ∧ zs.length = M.length := by
  have e : ∀ y ∈ ys, y = ((y.toNat : Nat) : Int) := fun y hy => by
    obtain ⟨x, _, rfl⟩ := List.mem_map.mp (h.mem_iff.mp hy)
    simp
  have pz : (ys.map Int.toNat).Perm M := by
    have := h.map Int.toNat
    unfold castL at this
    rw [List.map_map] at this
    have q : M.map (Int.toNat ∘ fun x : Nat => (x : Int)) = M := by
      conv => rhs; rw [← List.map_id M]
      exact List.map_congr_left fun x _ => by simp
    rwa [q] at this
  refine ⟨ys.map Int.toNat, ?_, ?_, fun v => pz.mem_iff, pz.length_eq⟩
  · rw [List.map_map]
    exact List.map_congr_left fun y hy => congrArg V.int (e y hy)
  · have n : (ys.map Int.toNat).Pairwise (· ≠ ·) := pz.nodup_iff.mpr nd
    have l : (ys.map Int.toNat).Pairwise (· ≤ ·) := List.pairwise_map.mpr (hp.imp fun h => Int.toNat_le_toNat h)
    exact (l.and n).imp fun h => Nat.lt_of_le_of_ne h.1 h.2
theorem setZ_keys (M : List Int) : (setZ M).map (·.1) = M.map Sum.inl := by unfold setZ; rw [List.map_map]; rfl
theorem mem_castL {M : List Nat} {x : Nat} : ((x : Int) ∈ castL M) ↔ x ∈ M := by
  unfold castL
  rw [List.mem_map]
  constructor
  · rintro ⟨y, hy, e⟩
    have : y = x := by omega
    rwa [← this]
  · intro h
    exact ⟨x, h, rfl⟩
theorem addZ_cast {M : List Nat} {x : Nat} (h : x ∉ M) : addZ (castL M) (x : Int) = castL (M ++ [x]) := by
  unfold addZ
  rw [if_neg fun q => h (mem_castL.mp q)]
  unfold castL
  rw [List.map_append]
  rfl
end Bf

set_option Elab.async false
set_option linter.all false
set_option maxRecDepth 100000
set_option maxHeartbeats 4000000
namespace Bf
open PySem
/-! ### a way down, found by a stack -/
theorem nodup_sub_len : ∀ {xs ys : List Nat}, xs.Nodup → (∀ x ∈ xs, x ∈ ys) → xs.length ≤ ys.length
  | [], _, _, _ => Nat.zero_le _
  | x :: r, ys, h, hs => by
    obtain ⟨h1, h2⟩ := List.nodup_cons.mp h
    have hx := hs x (by simp)
    have hl := List.length_erase_of_mem hx
    have hp := List.length_pos_of_mem hx
    have := nodup_sub_len (ys := ys.erase x) h2 fun y hy => (List.mem_erase_of_ne fun e => h1 (by rw [← e]; exact hy)).mpr (hs y (by simp [hy]))
    rw [List.length_cons]
    omega
structure WayI (N : Net) (node : Nat) (B : Nat → Prop) (cm : List (Nat × Nat)) (T : List Nat) : Prop where
  nd : (cm.map Prod.fst).Nodup
  rng : ∀ x ∈ cm.map Prod.fst, 0 < x ∧ x ≤ node
  root : node ∈ cm.map Prod.fst
  par : ∀ x ∈ cm.map Prod.fst, x ≠ node → look cm x ∈ cm.map Prod.fst ∧ x ∈ N.ops (look cm x) ∧ ¬ B x
  tin : ∀ x ∈ T, x ∈ cm.map Prod.fst
  tl : T.length ≤ cm.length
theorem WayI.start {N : Net} {node : Nat} {B : Nat → Prop} (h : 0 < node) : WayI N node B [(node, 0)] [node] where
  nd := by simp
  rng := fun x hx => by
    have : x = node := by simpa using hx
    omega
  root := by simp
  par := fun x hx h => absurd (by simpa using hx) h
  tin := fun x hx => by simpa using hx
  tl := Nat.le_refl _
theorem WayI.pop {N : Net} {node : Nat} {B : Nat → Prop} {cm : List (Nat × Nat)} {T : List Nat} {x : Nat} (h : WayI N node B cm (T ++ [x])) : WayI N node B cm T :=
  { h with
    tin := fun y hy => h.tin y (by simp [hy])
    tl := by
      have := h.tl
      rw [List.length_append] at this
      omega }
theorem WayI.len {N : Net} {node : Nat} {B : Nat → Prop} {cm : List (Nat × Nat)} {T : List Nat} (h : WayI N node B cm T) : cm.length ≤ node := by
  have e : (cm.map Prod.fst).length ≤ ((List.range node).map (· + 1)).length := by
    refine nodup_sub_len h.nd fun x hx => ?_
    have := h.rng x hx
    exact List.mem_map.mpr ⟨x - 1, List.mem_range.mpr (by omega), by omega⟩
  simpa using e
theorem WayI.push {N : Net} (R : N.Right) {node : Nat} {B : Nat → Prop} {cm : List (Nat × Nat)} {T : List Nat} {s y : Nat} (h : WayI N node B cm T) (hy : y ∈ cm.map Prod.fst) (hs : s ∈ N.ops y) (h0 : 0 < s) (hn : s ∉ cm.map Prod.fst) (hB : ¬ B s) : WayI N node B (cm ++ [(s, y)]) (T ++ [s]) := by
  have hlt := ops_lt R hs
  have hyr := h.rng y hy
  have fst : (cm ++ [(s, y)]).map Prod.fst = cm.map Prod.fst ++ [s] := by rw [List.map_append]; rfl
  refine ⟨?_, fun x hx => ?_, ?_, fun x hx hne => ?_, fun x hx => ?_, ?_⟩
  · rw [fst]
    exact List.nodup_append.mpr ⟨h.nd, by simp, fun a ha b hb e => hn (by rw [← List.mem_singleton.mp hb, ← e]; exact ha)⟩
  · rw [fst] at hx
    rcases List.mem_append.mp hx with hx | hx
    · exact h.rng x hx
    · rw [List.mem_singleton.mp hx]
      omega
  · rw [fst]
    exact List.mem_append_left _ h.root
  · rw [fst] at hx ⊢
    rcases List.mem_append.mp hx with hx | hx
    · have e : look (cm ++ [(s, y)]) x = look cm x := look_app fun p hp => by
        rw [List.mem_singleton.mp hp]
        exact fun e => hn (by rw [show s = x from e]; exact hx)
      rw [e]
      have := h.par x hx hne
      exact ⟨List.mem_append_left _ this.1, this.2⟩
    · rw [List.mem_singleton.mp hx, look_last hn]
      exact ⟨List.mem_append_left _ hy, hs, hB⟩
  · rw [fst]
    rcases List.mem_append.mp hx with hx | hx
    · exact List.mem_append_left _ (h.tin x hx)
    · exact List.mem_append_right _ hx
  · have := h.tl
    rw [List.length_append, List.length_append]
    show T.length + 1 ≤ cm.length + 1
    omega
structure Climb (N : Net) (node : Nat) (cm : List (Nat × Nat)) (q : List Nat) (z : Nat) : Prop where
  head : ∃ a, q[0]? = some a ∧ 0 < a ∧ a < N.first
  last : q[q.length - 1]? = some z
  ne : q ≠ []
  st : ∀ (i a b : Nat), q[i]? = some a → q[i + 1]? = some b → a ∈ N.ops b
  ks : ∀ x ∈ q, x ∈ cm.map Prod.fst
  len : q.length ≤ z
theorem Climb.start {N : Net} {node : Nat} {cm : List (Nat × Nat)} {x : Nat} (h0 : 0 < x) (hf : x < N.first) (hk : x ∈ cm.map Prod.fst) : Climb N node cm [x] x where
  head := ⟨x, rfl, h0, hf⟩
  last := rfl
  ne := by simp
  st := fun i a b _ hb => by
    have := (List.getElem?_eq_some_iff.mp hb).1
    simp at this
  ks := fun y hy => by rw [List.mem_singleton.mp hy]; exact hk
  len := h0
theorem Climb.key {N : Net} {node : Nat} {cm : List (Nat × Nat)} {q : List Nat} {z : Nat} (h : Climb N node cm q z) : z ∈ cm.map Prod.fst := h.ks z (List.mem_of_getElem? h.last)
theorem Climb.step {N : Net} (R : N.Right) {node : Nat} {B : Nat → Prop} {cm : List (Nat × Nat)} {T : List Nat} {q : List Nat} {z : Nat} (W : WayI N node B cm T) (h : Climb N node cm q z) (hz : z ≠ node) : Climb N node cm (q ++ [look cm z]) (look cm z) ∧ z < look cm z ∧ look cm z ≤ node := by
  have hp := W.par z h.key hz
  have hlt := ops_lt R hp.2.1
  have hq : 0 < q.length := List.length_pos_iff.mpr h.ne
  refine ⟨⟨?_, ?_, by simp, fun i a b ha hb => ?_, fun x hx => ?_, ?_⟩, hlt, (W.rng _ hp.1).2⟩
  · obtain ⟨a, h1, h2⟩ := h.head
    exact ⟨a, by rw [List.getElem?_append_left hq]; exact h1, h2⟩
  · rw [List.length_append, List.length_singleton, List.getElem?_append_right (by omega)]
    simp
  · by_cases hi : i + 1 < q.length
    · rw [List.getElem?_append_left hi] at hb
      rw [List.getElem?_append_left (by omega)] at ha
      exact h.st i a b ha hb
    · have hbl := (List.getElem?_eq_some_iff.mp hb).1
      rw [List.length_append, List.length_singleton] at hbl
      have e : i + 1 = q.length := by omega
      rw [List.getElem?_append_right (by omega)] at hb
      rw [List.getElem?_append_left (by omega)] at ha
      have e2 : i = q.length - 1 := by omega
      rw [e2, h.last] at ha
      cases ha
      rw [e, Nat.sub_self] at hb
      cases hb
      exact hp.2.1
  · rcases List.mem_append.mp hx with hx | hx
    · exact h.ks x hx
    · rw [List.mem_singleton.mp hx]
      exact hp.1
  · have := h.len
    rw [List.length_append, List.length_singleton]
    omega
theorem castL_get {q : List Nat} {i : Nat} {a : Int} (h : (castL q)[i]? = some a) : ∃ n : Nat, q[i]? = some n ∧ a = (n : Int) := by
  unfold castL at h
  rw [List.getElem?_map] at h
  cases e : q[i]? with
  | none => rw [e] at h; cases h
  | some n => rw [e] at h; exact ⟨n, rfl, (Option.some.inj h).symm⟩
theorem castL_at {q : List Nat} {i n : Nat} (h : q[i]? = some n) : (castL q)[i]? = some (n : Int) := by
  unfold castL
  rw [List.getElem?_map, h]
  rfl
theorem Climb.good {N : Net} {node : Nat} {cm : List (Nat × Nat)} {q : List Nat} (h : Climb N node cm q node) : GoodPath N (node : Int) (castL q) := by
  refine ⟨?_, ?_, fun i a b ha hb => ?_⟩
  · obtain ⟨a, h1, h2, h3⟩ := h.head
    exact ⟨(a : Int), castL_at h1, by omega, by omega⟩
  · rw [castL_len]
    exact castL_at h.last
  · obtain ⟨m, h1, rfl⟩ := castL_get ha
    obtain ⟨n, h2, rfl⟩ := castL_get hb
    exact ⟨by omega, by omega, h.st i m n h1 h2⟩
theorem GoodPath.up {N : Net} (R : N.Right) {node : Int} {p : List Int} (h : GoodPath N node p) : ∀ (i : Nat) (a : Int), p[i]? = some a → ((i : Nat) : Int) + 1 ≤ a
  | 0, a, ha => by
    have := h.pos R ha
    omega
  | i + 1, a, ha => by
    have hi := (List.getElem?_eq_some_iff.mp ha).1
    have e : p[i]? = some p[i] := List.getElem?_eq_getElem (by omega)
    have h1 := GoodPath.up R h i _ e
    have h2 := ((h.st i _ a e ha).lt R).1
    omega
theorem GoodPath.len {N : Net} (R : N.Right) {node : Int} {p : List Int} (h : GoodPath N node p) : (p.length : Int) ≤ node := by
  have := h.up R _ _ h.last
  have := List.length_pos_iff.mpr h.ne
  omega
end Bf

set_option Elab.async false
set_option linter.all false
set_option maxRecDepth 100000
set_option maxHeartbeats 4000000
namespace Bf
open PySem
/-! ### the law's walk over a tree -/
def kidsL (N : Net) (ls : List Nat) : List Nat := (ls.filter fun l => N.inn (l / 2)).map (· / 2)
def outsL (N : Net) (ls : List Nat) : List Nat := ls.filter fun l => !N.inn (l / 2)
theorem kids_snoc (N : Net) (ls : List Nat) (l : Nat) : kidsL N (ls ++ [l]) = if N.inn (l / 2) = true then kidsL N ls ++ [l / 2] else kidsL N ls := by
  unfold kidsL
  rw [List.filter_append, List.map_append]
  split <;> simp [*]
theorem outs_snoc (N : Net) (ls : List Nat) (l : Nat) : outsL N (ls ++ [l]) = if N.inn (l / 2) = true then outsL N ls else outsL N ls ++ [l] := by
  unfold outsL
  rw [List.filter_append]
  split <;> simp [*]
theorem mem_kids {N : Net} {ls : List Nat} {z : Nat} : z ∈ kidsL N ls ↔ ∃ l ∈ ls, N.inn (l / 2) = true ∧ l / 2 = z := by
  unfold kidsL
  rw [List.mem_map]
  constructor
  · rintro ⟨l, h, rfl⟩
    obtain ⟨h1, h2⟩ := List.mem_filter.mp h
    exact ⟨l, h1, h2, rfl⟩
  · rintro ⟨l, h1, h2, rfl⟩
    exact ⟨l, List.mem_filter.mpr ⟨h1, h2⟩, rfl⟩
theorem mem_outs {N : Net} {ls : List Nat} {l : Nat} : l ∈ outsL N ls ↔ l ∈ ls ∧ N.inn (l / 2) = false := by
  unfold outsL
  rw [List.mem_filter, Bool.not_eq_true']
structure WalkI (N : Net) (h : Nat) (X W found : List Nat) : Prop where
  nd : (X ++ W).Nodup
  an : ∀ y ∈ X ++ W, N.first ≤ y ∧ y < N.size
  par : ∀ y ∈ X ++ W, y = h ∨ N.inn y = true ∧ ∃ x ∈ X, ∃ l ∈ N.pair x, l / 2 = y
  is : ∀ m, N.inn (m / 2) = false → (Leaf N h m ↔ m ∈ found ∨ ∃ y ∈ W, ∃ l ∈ N.pair y, Der N l m)
  fl : ∀ m ∈ found, N.inn (m / 2) = false
theorem WalkI.start {N : Net} {h : Nat} (h1 : N.first ≤ h) (h2 : h < N.size) : WalkI N h [] [h] [] :=
  ⟨by simp, fun y hy => by rw [show y = h by simpa using hy]; exact ⟨h1, h2⟩, fun y hy => .inl (by simpa using hy), fun m hm => by
    unfold Leaf
    constructor
    · exact fun q => .inr ⟨h, by simp, q.2⟩
    · rintro (q | ⟨y, hy, q⟩)
      · cases q
      · rw [show y = h by simpa using hy] at q
        exact ⟨hm, q⟩, by simp⟩
theorem pair_some {N : Net} {y : Nat} (h1 : N.first ≤ y) (h2 : y < N.size) : ∃ p : Nat × Nat, N.ands[y - N.first]? = some p ∧ N.pair y = [p.1, p.2] := by
  have hl : y - N.first < N.ands.length := by unfold Net.size at h2; omega
  refine ⟨_, List.getElem?_eq_getElem hl, ?_⟩
  unfold Net.pair
  rw [List.getElem?_eq_getElem hl]
theorem WalkI.step {N : Net} (R : N.Right) {h y : Nat} {X W found : List Nat} (hh : N.inn h = false) (w : WalkI N h X (W ++ [y]) found) : WalkI N h (X ++ [y]) (W ++ kidsL N (N.pair y)) (found ++ outsL N (N.pair y)) := by
  obtain ⟨y1, y2⟩ := w.an y (by simp)
  obtain ⟨p, hp, ep⟩ := pair_some y1 y2
  have ndA : (X ++ [y] ++ W).Nodup := by
    refine (List.Perm.nodup_iff ?_).mpr w.nd
    rw [List.append_assoc]
    exact List.Perm.append_left X List.perm_append_comm
  have inA : ∀ z, z ∈ X ++ [y] ++ W ↔ z ∈ X ++ (W ++ [y]) := fun z => by simp only [List.mem_append]; exact ⟨fun q => q.elim (fun q => q.elim .inl fun k => .inr (.inr k)) fun k => .inr (.inl k), fun q => q.elim (fun k => .inl (.inl k)) fun k => k.elim .inr fun j => .inl (.inr j)⟩
  have yX : y ∉ X := fun k => (List.nodup_append.mp w.nd).2.2 y k y (by simp) rfl
  have fresh : ∀ z ∈ kidsL N (N.pair y), z ∉ X ++ [y] ++ W := by
    intro z hz hzA
    obtain ⟨l, hl, hi, rfl⟩ := mem_kids.mp hz
    rcases w.par _ ((inA _).mp hzA) with e | ⟨_, x, hx, m, hm, e⟩
    · rw [e, hh] at hi
      cases hi
    · obtain ⟨x1, x2⟩ := w.an x (List.mem_append_left _ hx)
      obtain ⟨q, hq, eq⟩ := pair_some x1 x2
      have nxy : x ≠ y := fun k => yX (k ▸ hx)
      rw [eq] at hm
      rw [ep] at hl
      have u := (inn_iff.mp hi).2.1
      rcases Nat.lt_or_gt_of_ne (show x - N.first ≠ y - N.first by omega) with k | k
      · have := use_two hq hp k hm hl e
        rw [e] at this
        omega
      · have := use_two hp hq k hl hm e.symm
        omega
  have ndK : (kidsL N (N.pair y)).Nodup := by
    rw [ep]
    unfold kidsL
    by_cases c1 : N.inn (p.1 / 2) = true <;> by_cases c2 : N.inn (p.2 / 2) = true <;> simp [List.filter_cons, c1, c2]
    intro e
    have := use_pair hp e
    have u := (inn_iff.mp c1).2.1
    omega
  refine ⟨?_, fun z hz => ?_, fun z hz => ?_, fun m hm => ?_, fun m hm => ?_⟩
  · rw [← List.append_assoc, List.nodup_append]
    exact ⟨ndA, ndK, fun a ha b hb e => fresh b hb (e ▸ ha)⟩
  · rw [← List.append_assoc] at hz
    rcases List.mem_append.mp hz with k | k
    · exact w.an z ((inA z).mp k)
    · obtain ⟨l, hl, hi, rfl⟩ := mem_kids.mp k
      exact inn_lt R hi
  · rw [← List.append_assoc] at hz
    rcases List.mem_append.mp hz with k | k
    · rcases w.par z ((inA z).mp k) with e | ⟨h1, x, hx, q⟩
      · exact .inl e
      · exact .inr ⟨h1, x, List.mem_append_left _ hx, q⟩
    · obtain ⟨l, hl, hi, rfl⟩ := mem_kids.mp k
      exact .inr ⟨hi, y, by simp, l, hl, rfl⟩
  · rw [w.is m hm]
    constructor
    · rintro (q | ⟨z, hz, l, hl, d⟩)
      · exact .inl (List.mem_append_left _ q)
      · rcases mem_snoc2.mp hz with hz | rfl
        · exact .inr ⟨z, List.mem_append_left _ hz, l, hl, d⟩
        · cases c : N.inn (l / 2) with
          | true =>
            obtain ⟨k, hk, d'⟩ := d.split c hm
            exact .inr ⟨l / 2, List.mem_append_right _ (mem_kids.mpr ⟨l, hl, c, rfl⟩), k, hk, d'⟩
          | false =>
            obtain rfl := d.leaf c
            exact .inl (List.mem_append_right _ (mem_outs.mpr ⟨hl, c⟩))
    · rintro (q | ⟨z, hz, l, hl, d⟩)
      · rcases List.mem_append.mp q with q | q
        · exact .inl q
        · exact .inr ⟨y, by simp, m, (mem_outs.mp q).1, .here m⟩
      · rcases List.mem_append.mp hz with hz | hz
        · exact .inr ⟨z, List.mem_append_left _ hz, l, hl, d⟩
        · obtain ⟨k, hk, hi, rfl⟩ := mem_kids.mp hz
          exact .inr ⟨y, by simp, k, hk, .down hi hl d⟩
  · rcases List.mem_append.mp hm with q | q
    · exact w.fl m q
    · exact (mem_outs.mp q).2
/-- each node is walked once: the walk ends in time -/
theorem WalkI.few {N : Net} {h : Nat} {X W found : List Nat} (w : WalkI N h X W found) : X.length + W.length ≤ N.ands.length := by
  have := nodup_sub_len (xs := X ++ W) (ys := (List.range N.ands.length).map (N.first + ·)) w.nd fun y hy => by
    obtain ⟨h1, h2⟩ := w.an y hy
    unfold Net.size at h2
    exact List.mem_map.mpr ⟨y - N.first, List.mem_range.mpr (by omega), by omega⟩
  rw [List.length_append, List.length_map, List.length_range] at this
  exact this
theorem WalkI.done {N : Net} {h : Nat} {X found : List Nat} (w : WalkI N h X [] found) (m : Nat) : m ∈ found ↔ Leaf N h m := by
  constructor
  · intro q
    exact (w.is m (w.fl m q)).mpr (.inl q)
  · intro q
    rcases (w.is m q.1).mp q with k | ⟨y, hy, _⟩
    · exact k
    · cases hy
/-! ### heights -/
def clog (t : Nat) : Nat := if t ≤ 1 then 0 else Nat.log2 (t - 1) + 1
theorem le_clog (t : Nat) : t ≤ 2 ^ clog t := by
  unfold clog
  split
  · simp; omega
  · have := @Nat.lt_log2_self (t - 1)
    omega
theorem clog_le {t h : Nat} (e : t ≤ 2 ^ h) : clog t ≤ h := by
  unfold clog
  split
  · omega
  · have : t - 1 < 2 ^ h := by omega
    exact (Nat.log2_lt (by omega)).mpr this
def sumP (hs : List Nat) : Nat := (hs.map (2 ^ ·)).sum
theorem sumP_cons (h : Nat) (hs : List Nat) : sumP (h :: hs) = 2 ^ h + sumP hs := rfl
theorem sumP_app (a b : List Nat) : sumP (a ++ b) = sumP a + sumP b := by
  unfold sumP
  rw [List.map_append, List.sum_append]
theorem sumP_perm {a b : List Nat} (h : a.Perm b) : sumP a = sumP b := (h.map _).sum_nat
theorem sumP_le {M : Nat} : ∀ {hs : List Nat}, (∀ h ∈ hs, h ≤ M) → sumP hs ≤ hs.length * 2 ^ M
  | [], _ => by simp [sumP]
  | h :: hs, q => by
    have ih := sumP_le (M := M) (hs := hs) fun x hx => q x (by simp [hx])
    have : 2 ^ h ≤ 2 ^ M := Nat.pow_le_pow_right (by decide) (q h (by simp))
    rw [sumP_cons, List.length_cons, Nat.add_mul, Nat.one_mul]
    omega
theorem sumP_dvd {b : Nat} : ∀ {hs : List Nat}, (∀ h ∈ hs, b ≤ h) → ∃ q, sumP hs = 2 ^ b * q
  | [], _ => ⟨0, by simp [sumP]⟩
  | h :: hs, q => by
    obtain ⟨k, hk⟩ := sumP_dvd (b := b) (hs := hs) fun x hx => q x (by simp [hx])
    have hb := q h (by simp)
    refine ⟨2 ^ (h - b) + k, ?_⟩
    rw [sumP_cons, hk, Nat.mul_add, ← Nat.pow_add, show b + (h - b) = h by omega]
theorem merge_good {a b L : Nat} {R : List Nat} (hab : a ≤ b) (hR : ∀ x ∈ R, b ≤ x) (h : 2 ^ a + (2 ^ b + sumP R) ≤ 2 ^ L) : 2 ^ (1 + b) + sumP R ≤ 2 ^ L := by
  obtain ⟨q, hq⟩ := sumP_dvd hR
  have pa : 0 < 2 ^ a := Nat.pow_pos (by decide)
  have pb : 0 < 2 ^ b := Nat.pow_pos (by decide)
  rw [hq] at h ⊢
  have hL : b < L := by
    apply Nat.lt_of_not_le
    intro k
    have : 2 ^ L ≤ 2 ^ b := Nat.pow_le_pow_right (by decide) k
    omega
  have e : 2 ^ L = 2 ^ b * 2 ^ (L - b) := by rw [← Nat.pow_add, show b + (L - b) = L by omega]
  rw [e] at h ⊢
  have h2 : 1 + q < 2 ^ (L - b) := by
    apply Nat.lt_of_not_le
    intro k
    have := Nat.mul_le_mul_left (2 ^ b) k
    rw [Nat.mul_add, Nat.mul_one] at this
    omega
  have h3 := Nat.mul_le_mul_left (2 ^ b) (show 2 + q ≤ 2 ^ (L - b) by omega)
  rw [Nat.mul_add, Nat.mul_comm (2 ^ b) 2] at h3
  rw [Nat.pow_add, Nat.pow_one]
  exact h3
/-! ### merging two of a row -/
def restL (r : List Nat) (a o : Nat) : List Nat := ((List.range r.length).filter fun k => decide (k ≠ a) && decide (k ≠ o)).map fun k => r.getD k 0
theorem perm_filter {a : Nat} : ∀ {l : List Nat}, l.Nodup → a ∈ l → l.Perm (a :: l.filter fun k => decide (k ≠ a))
  | [], _, h => by cases h
  | x :: l, nd, h => by
    obtain ⟨n1, n2⟩ := List.nodup_cons.mp nd
    by_cases e : x = a
    · subst e
      have : l.filter (fun k => decide (k ≠ x)) = l := List.filter_eq_self.mpr fun k hk => by
        have : k ≠ x := fun q => n1 (q ▸ hk)
        simpa using this
      rw [List.filter_cons, if_neg (by simp), this]
    · have ha : a ∈ l := by
        rcases List.mem_cons.mp h with q | q
        · exact absurd q.symm e
        · exact q
      rw [List.filter_cons, if_pos (by simpa using e)]
      exact (List.Perm.cons x (perm_filter n2 ha)).trans (.swap a x _)
theorem row_map (r : List Nat) : (List.range r.length).map (fun k => r.getD k 0) = r := by
  apply List.ext_getElem
  · simp
  · intro i h1 h2
    simp [List.getElem?_eq_getElem h2]
theorem rest_perm {r : List Nat} {a o : Nat} (ha : a < r.length) (ho : o < a) : r.Perm (r.getD a 0 :: r.getD o 0 :: restL r a o) := by
  have p1 : (List.range r.length).Perm (a :: (List.range r.length).filter fun k => decide (k ≠ a)) := perm_filter List.nodup_range (List.mem_range.mpr ha)
  have p2 : ((List.range r.length).filter fun k => decide (k ≠ a)).Perm (o :: ((List.range r.length).filter fun k => decide (k ≠ a)).filter fun k => decide (k ≠ o)) :=
    perm_filter (List.nodup_range.filter _) (List.mem_filter.mpr ⟨List.mem_range.mpr (by omega), decide_eq_true (by omega)⟩)
  have p3 := (p1.trans (.cons a p2)).map fun k => r.getD k 0
  rw [row_map, List.map_cons, List.map_cons, List.filter_filter] at p3
  unfold restL
  have e : (fun k : Nat => decide (k ≠ o) && decide (k ≠ a)) = fun k => decide (k ≠ a) && decide (k ≠ o) := funext fun k => Bool.and_comm _ _
  rw [e] at p3
  exact p3
structure MRow (n S t : Nat) (r : List Nat) : Prop where
  len : r.length + t = n
  asc : r.Pairwise (· ≤ ·)
  sum : S ≤ sumP r
theorem rowAsc_get {r : List Nat} (h : r.Pairwise (· ≤ ·)) {i j : Nat} (hij : i < j) (hj : j < r.length) : r.getD i 0 ≤ r.getD j 0 := by
  rw [List.getD_eq_getElem?_getD, List.getD_eq_getElem?_getD, List.getElem?_eq_getElem hj, List.getElem?_eq_getElem (by omega : i < r.length)]
  exact List.pairwise_iff_getElem.mp h i j (by omega) hj hij
theorem MRow.merge {n S t a o : Nat} {r r' : List Nat} (h : MRow n S t r) (ha : a < r.length) (ho : o < a) (p : r'.Perm (restL r a o ++ [1 + r.getD a 0])) (s : r'.Pairwise (· ≤ ·)) : MRow n S (t + 1) r' := by
  have q := rest_perm ha ho
  have l1 := q.length_eq
  have l2 := p.length_eq
  rw [List.length_cons, List.length_cons] at l1
  rw [List.length_append, List.length_singleton] at l2
  refine ⟨by have := h.len; omega, s, ?_⟩
  have e := sumP_perm q
  rw [sumP_perm p, sumP_app]
  rw [sumP_cons, sumP_cons] at e
  have := h.sum
  have m : 2 ^ r.getD o 0 ≤ 2 ^ r.getD a 0 := Nat.pow_le_pow_right (by decide) (rowAsc_get h.asc ho ha)
  show S ≤ sumP (restL r a o) + (2 ^ (1 + r.getD a 0) + 0)
  rw [Nat.pow_add, Nat.pow_one]
  omega
theorem merge_keeps {L : Nat} {r r' : List Nat} (s : r.Pairwise (· ≤ ·)) (g : sumP r ≤ 2 ^ L) (h2 : 2 ≤ r.length) (p : r'.Perm (restL r 1 0 ++ [1 + r.getD 1 0])) : sumP r' ≤ 2 ^ L := by
  have q := rest_perm (r := r) (a := 1) (o := 0) (by omega) (by omega)
  match r, h2, s, g, p, q with
  | a :: b :: R, _, s, g, p, q =>
    obtain ⟨s1, s2⟩ := List.pairwise_cons.mp s
    obtain ⟨s3, _⟩ := List.pairwise_cons.mp s2
    have e : sumP (restL (a :: b :: R) 1 0) = sumP R := by
      have := sumP_perm q
      rw [sumP_cons, sumP_cons, sumP_cons, sumP_cons] at this
      have e1 : (a :: b :: R).getD 1 0 = b := rfl
      have e0 : (a :: b :: R).getD 0 0 = a := rfl
      rw [e1, e0] at this
      omega
    rw [sumP_perm p, sumP_app, e]
    show sumP R + (2 ^ (1 + b) + 0) ≤ 2 ^ L
    have := merge_good (s1 b (by simp)) s3 g
    omega
/-! ### the heights of all heads -/
def oppB (ls : List Nat) : Bool := ls.any fun l => decide (l ^^^ 1 ∈ ls)
def getH (L : List (Option Nat)) (x : Nat) : Nat := (L.getD x none).getD 0
def headH (L : List (Option Nat)) (ls : List Nat) : Nat := if oppB ls = true then 0 else clog (sumP (ls.map fun l => getH L (l / 2)))
noncomputable def levAt (N : Net) (L : List (Option Nat)) (x : Nat) : Option Nat := if N.inn x = true then none else some (headH L (leafL N x))
noncomputable def levL (N : Net) : Nat → List (Option Nat)
  | 0 => List.replicate N.first (some 0)
  | i + 1 => levL N i ++ [levAt N (levL N i) (N.first + i)]
theorem levL_len (N : Net) : ∀ i, (levL N i).length = N.first + i
  | 0 => by simp [levL]
  | i + 1 => by
    show (levL N i ++ [_]).length = _
    rw [List.length_append, levL_len N i]
    rfl
theorem levL_old (N : Net) {k i : Nat} (hk : k < N.first + i) : ∀ d, (levL N (i + d))[k]? = (levL N i)[k]?
  | 0 => rfl
  | d + 1 => by
    show (levL N (i + d) ++ [_])[k]? = _
    rw [List.getElem?_append_left (by rw [levL_len]; omega)]
    exact levL_old N hk d
theorem levL_at (N : Net) {k i : Nat} (hk : k < i) : (levL N i)[N.first + k]? = some (levAt N (levL N k) (N.first + k)) := by
  have := levL_old N (k := N.first + k) (i := k + 1) (by omega) (i - (k + 1))
  rw [show k + 1 + (i - (k + 1)) = i by omega] at this
  rw [this]
  show (levL N k ++ [_])[N.first + k]? = _
  rw [List.getElem?_append_right (by rw [levL_len]; omega), levL_len, Nat.sub_self]
  rfl
theorem levL_lo (N : Net) {k i : Nat} (hk : k < N.first) : (levL N i)[k]? = some (some 0) := by
  have := levL_old N (k := k) (i := 0) (by omega) i
  rw [Nat.zero_add] at this
  rw [this]
  show (List.replicate N.first (some 0))[k]? = _
  rw [List.getElem?_replicate, if_pos hk]
theorem levL_some (N : Net) {k i : Nat} (hk : k < N.first + i) (h : N.inn k = false) : ∃ x, (levL N i)[k]? = some (some x) := by
  by_cases q : k < N.first
  · exact ⟨0, levL_lo N q⟩
  · have := levL_at N (k := k - N.first) (i := i) (by omega)
    rw [show N.first + (k - N.first) = k by omega] at this
    unfold levAt at this
    rw [if_neg (by rw [h]; decide)] at this
    exact ⟨_, this⟩
theorem levL_none (N : Net) {k i : Nat} (hk : k < N.first + i) (h : N.inn k = true) : (levL N i)[k]? = some none := by
  have q := (inn_iff.mp h).1
  have := levL_at N (k := k - N.first) (i := i) (by omega)
  rw [show N.first + (k - N.first) = k by omega] at this
  rw [this]
  unfold levAt
  rw [if_pos h]
theorem leafL_len (N : Net) (h : Nat) : (leafL N h).length ≤ 2 * h := by
  have := List.length_filter_le (fun l => @decide (Leaf N h l) (Classical.propDecidable _)) (List.range (2 * h))
  rw [List.length_range] at this
  exact this
theorem getH_some {L : List (Option Nat)} {x h : Nat} (e : L[x]? = some (some h)) : getH L x = h := by
  unfold getH
  rw [List.getD_eq_getElem?_getD, e]
  rfl
theorem levL_le {N : Net} (hs : 2 * N.size ≤ 1024) : ∀ (i : Nat), N.first + i ≤ N.size → ∀ (k h : Nat), (levL N i)[k]? = some (some h) → h ≤ 10 * i
  | 0, _, k, h, e => by
    have hk := (List.getElem?_eq_some_iff.mp e).1
    rw [levL_len] at hk
    rw [levL_lo N (by omega)] at e
    cases e
    exact Nat.le_refl _
  | i + 1, hi, k, h, e => by
    have hk := (List.getElem?_eq_some_iff.mp e).1
    rw [levL_len] at hk
    by_cases q : k < N.first + i
    · have := levL_le hs i (by omega) k h (by rw [← levL_old N q 1]; exact e)
      omega
    · have hk2 : k = N.first + i := by omega
      rw [hk2, levL_at N (Nat.lt_succ_self i)] at e
      have e := Option.some.inj e
      unfold levAt at e
      split at e
      · cases e
      · have e := Option.some.inj e
        subst e
        unfold headH
        split
        · omega
        · apply clog_le
          have bound : ∀ x ∈ (leafL N (N.first + i)).map (fun l => getH (levL N i) (l / 2)), x ≤ 10 * i := by
            intro x hx
            obtain ⟨l, _, rfl⟩ := List.mem_map.mp hx
            unfold getH
            rw [List.getD_eq_getElem?_getD]
            match eq : (levL N i)[l / 2]? with
            | none => exact Nat.zero_le _
            | some none => exact Nat.zero_le _
            | some (some y) => exact levL_le hs i (by omega) _ _ eq
          have s := sumP_le bound
          rw [List.length_map] at s
          have l1 := leafL_len N (N.first + i)
          have : (leafL N (N.first + i)).length * 2 ^ (10 * i) ≤ 2 ^ 10 * 2 ^ (10 * i) := Nat.mul_le_mul_right _ (by omega)
          rw [← Nat.pow_add, show 10 + 10 * i = 10 * (i + 1) by omega] at this
          omega
/-! ### opposed leaves stand side by side -/
theorem xor_even {n : Nat} (h : n % 2 = 0) : n ^^^ 1 = n + 1 := by
  have := xor_one (n / 2) 1 (by decide)
  rw [show 2 * (n / 2) = n by omega] at this
  exact this
theorem xor_odd {n : Nat} (h : n % 2 = 1) : n ^^^ 1 = n - 1 := by
  have e := xor_even (n := n - 1) (by omega)
  rw [show n - 1 + 1 = n by omega] at e
  have : (n - 1) ^^^ 1 ^^^ 1 = n - 1 := by rw [Nat.xor_assoc, Nat.xor_self, Nat.xor_zero]
  rw [e] at this
  exact this
theorem beside : ∀ {ls : List Nat} {a : Nat}, ls.Pairwise (· < ·) → a ∈ ls → a + 1 ∈ ls → ∃ i : Nat, ls[i]? = some a ∧ ls[i + 1]? = some (a + 1)
  | [], _, _, h, _ => by cases h
  | x :: ls, a, s, h, h2 => by
    obtain ⟨s1, s2⟩ := List.pairwise_cons.mp s
    rcases List.mem_cons.mp h with rfl | h
    · have h2 : a + 1 ∈ ls := (List.mem_cons.mp h2).resolve_left (by omega)
      refine ⟨0, rfl, ?_⟩
      cases ls with
      | nil => cases h2
      | cons y ys =>
        have hy := s1 y (by simp)
        rcases List.mem_cons.mp h2 with e | q
        · rw [e]; rfl
        · have := (List.pairwise_cons.mp s2).1 _ q
          omega
    · have hx := s1 a h
      obtain ⟨i, e1, e2⟩ := beside s2 h ((List.mem_cons.mp h2).resolve_left (by omega))
      exact ⟨i + 1, e1, e2⟩
theorem opp_iff {ls : List Nat} (s : ls.Pairwise (· < ·)) : oppB ls = true ↔ ∃ (i a b : Nat), ls[i]? = some a ∧ ls[i + 1]? = some b ∧ a ^^^ 1 = b := by
  unfold oppB
  rw [List.any_eq_true]
  constructor
  · rintro ⟨l, hl, h⟩
    have h := of_decide_eq_true h
    rcases Nat.mod_two_eq_zero_or_one l with e | e
    · rw [xor_even e] at h
      obtain ⟨i, h1, h2⟩ := beside s hl h
      exact ⟨i, l, l + 1, h1, h2, xor_even e⟩
    · rw [xor_odd e] at h
      have h' : l - 1 + 1 ∈ ls := by rw [show l - 1 + 1 = l by omega]; exact hl
      obtain ⟨i, h1, h2⟩ := beside s h h'
      exact ⟨i, l - 1, l - 1 + 1, h1, h2, xor_even (by omega)⟩
  · rintro ⟨i, a, b, h1, h2, rfl⟩
    exact ⟨a, List.mem_of_getElem? h1, decide_eq_true (List.mem_of_getElem? h2)⟩
end Bf

set_option Elab.async false
set_option linter.all false
set_option maxRecDepth 100000
set_option maxHeartbeats 4000000
namespace Bf
open PySem PySem.Spec PyProof.Rows L2
section
variable {P : Program} {w : World} {K : PySem.W.Frag} {mg : Str → Option Value} {base : Heap} {f : Addr} {fd : FuncData}
/-! ### the program's cones -/
theorem ok_first (F : Fun K "first_and" "first_and" s_first_and f fd) (T : Txt mg) : FnOk P w K mg base CX0 1 f fd ["net"] spFirst := by
  refine F.ok sc_first_and (fun vs H Q E h => ?_) (fun cdv A outer s H vs Q E hr h => ?_)
  · obtain ⟨v, N, rfl, _⟩ := h
    rfl
  obtain ⟨v, N, rfl, hv, q⟩ := h
  refine ⟨_, (pss_one (ps_ret (pe_op op_add (pe_op op_add pe_int (pe_callB call_len_seq (by rfl) T.n_len (by decide +kernel) (pa_cons (pe_ix ix_tup (pv 0) pe_int (fun _ _ => rfl)) pa_nil))) (pe_callB call_len_seq (by rfl) T.n_len (by decide +kernel) (pa_cons (pe_ix ix_tup (pv 0) pe_int (fun _ _ => rfl)) pa_nil))))), ?_⟩
  obtain ⟨p, pi, pr, pa, po, pc, vr, va, vo, vc, rfl, hN⟩ := hv.net
  have hl := hN.lens
  refine ⟨_, rfl, p, _, _, _, rfl, rfl, SqT.of hN.top, atI_nat (j := 1) rfl, pi, _, rfl, .inr (SqT.of hN.hi), _, _, rfl, rfl, ?_⟩
  refine ⟨_, rfl, p, _, _, _, rfl, rfl, SqT.of hN.top, atI_nat (j := 2) rfl, pr, _, rfl, .inr (SqT.of hN.hr), _, _, rfl, rfl, ?_⟩
  have e : vI N.first = V.int ((1 : Int) + ((N.ins.map V.str).length : Nat) + (vr.length : Nat)) := by
    rw [List.length_map, hl.1]
    show V.int _ = _
    congr 1
  rw [e] at q
  exact q

def spEndsP : Sp := fun vs H Q _ => ∃ (v : V) (N : Net), vs = [v] ∧ Lay H v (netD N) ∧ N.regs.length ≤ 100 ∧ N.outs.length ≤ 100 ∧ N.cls.length ≤ 100 ∧ ∀ (L : Addr) (H' : Hp), Same H H' → H' L = some (.lst (N.ends.map vI)) → Q (.ref L) H'
theorem ok_endsP (F : Fun K "ends_of" "ends_of" s_ends_of f fd) (T : Txt mg) : FnOk P w K mg base CX0 1 f fd ["net"] spEndsP := by
  refine F.ok sc_ends_of (fun vs H Q E h => ?_) (fun cdv A outer s H vs Q E hr h => ?_)
  · obtain ⟨v, N, rfl, _⟩ := h
    rfl
  obtain ⟨v, N, rfl, lv, r100, o100, c100, q⟩ := h
  refine ⟨_, (pss_cons (ps_asg (pv 0) (pg_tup rfl (pgs_cons (pg_name (i := 1) sc_ends_of.nd rfl (Or.inl rfl)) (pgs_cons (pg_name (i := 1) sc_ends_of.nd rfl (Or.inl rfl)) (pgs_cons (pg_name (i := 2) sc_ends_of.nd rfl (Or.inl rfl)) (pgs_cons (pg_name (i := 1) sc_ends_of.nd rfl (Or.inl rfl)) (pgs_cons (pg_name (i := 3) sc_ends_of.nd rfl (Or.inl rfl)) (pgs_cons (pg_name (i := 4) sc_ends_of.nd rfl (Or.inl rfl)) pgs_nil))))))))
      (pss_one (ps_ret (pe_op op_cat (pe_lc (own := [("_", 1), ("literal", 5)]) (g := (gTup K 2 (gCons (gName 1) (gCons (gName 5) gNil)))) (tt := tYes) rfl sc_ends_of.nd (pi_tup (pe_op op_catA (pv 3) (pv 4))) (blkOk_by (N := ["net", "_", "regs", "outputs", "claims", "literal", "follow"]) (sc := defScope s_ends_of) (by decide +kernel)) (fun _ _ _ _ _ => (pg_tup rfl (pgs_cons (pg_name (i := 1) sc_ends_of.nd rfl (Or.inl rfl)) (pgs_cons (pg_name (i := 5) sc_ends_of.nd rfl (Or.inl rfl)) pgs_nil)))) (fun _ _ _ _ _ => pts_nil) (fun _ _ _ _ _ => (pv 5))) (pe_lc (own := [("_", 1), ("_", 1), ("follow", 6)]) (g := (gTup K 3 (gCons (gName 1) (gCons (gName 1) (gCons (gName 6) gNil))))) (tt := tYes) rfl sc_ends_of.nd (pi_tup (pv 2)) (blkOk_by (N := ["net", "_", "regs", "outputs", "claims", "literal", "follow"]) (sc := defScope s_ends_of) (by decide +kernel)) (fun _ _ _ _ _ => (pg_tup rfl (pgs_cons (pg_name (i := 1) sc_ends_of.nd rfl (Or.inl rfl)) (pgs_cons (pg_name (i := 1) sc_ends_of.nd rfl (Or.inl rfl)) (pgs_cons (pg_name (i := 6) sc_ends_of.nd rfl (Or.inl rfl)) pgs_nil))))) (fun _ _ _ _ _ => pts_nil) (fun _ _ _ _ _ => (pv 6))))))), ?_⟩
  obtain ⟨p, pi, pr, pa, po, pc, vr, va, vo, vc, rfl, hN⟩ := lv.net
  have hl := hN.lens
  refine ⟨_, rfl, p, _, rfl, SqT.of hN.top, rfl, _, _, rfl, _, _, rfl, _, _, rfl, _, _, rfl, _, _, rfl, _, _, rfl, rfl, ?_⟩
  refine ⟨_, rfl, _, rfl, rdCatT (SqT.of hN.ho) (SqT.of hN.hc) (by omega) fun t H1 s1 et => ?_⟩
  refine ⟨t, rfl, ⟨_, et⟩, fun D1 hD1 => ?_⟩
  have lt1 : LayAll H1 (vo ++ vc) ((N.outs ++ N.cls).map namD) := by
    rw [List.map_append]
    exact (hN.lo.app hN.lc).keep' (.same s1)
  refine lc_rows (walk_tup (xs := vo ++ vc)) (rows := N.outs ++ N.cls) (f := namD) (g := fun r => r.2) (h := intD) (fun H' sm => seqT_same sm et) hD1 lt1 (by rw [List.length_append]; omega) (fun i x r H' R Z hr sm lx k => ?_) (fun us1 H2 s2 eD1 lu1 => ?_)
  · obtain ⟨q, rfl, eq⟩ := lx.nam
    exact ⟨q, _, rfl, SqT.of eq, rfl, _, _, rfl, _, _, rfl, rfl, rfl, _, rfl, k _ _ (.refl _) (.int _)⟩
  rw [lay_intD lu1] at eD1
  have s12 := s1.trans s2
  refine ⟨_, rfl, pr, rfl, ⟨_, SqT.of (s12 _ _ hN.hr)⟩, fun D3 hD3 => ?_⟩
  refine lc_rows (walk_tup (xs := vr)) (rows := N.regs) (f := regD) (g := fun r => r.2.2) (h := intD) (fun H' sm => SqT.of (sm _ _ (s12 _ _ hN.hr))) hD3 (hN.lr.keep' (.same s12)) (by omega) (fun i x r H' R Z hr sm lx k => ?_) (fun us3 H4 s4 eD3 lu3 => ?_)
  · obtain ⟨q, rfl, eq⟩ := lx.reg
    exact ⟨q, _, rfl, SqT.of eq, rfl, _, _, rfl, _, _, rfl, _, _, rfl, rfl, rfl, _, rfl, k _ _ (.refl _) (.int _)⟩
  rw [lay_intD lu3] at eD3
  refine ⟨D1, D3, _, _, rfl, rfl, s4 _ _ eD1, eD3, by rw [List.length_map, List.length_map, List.length_map, List.length_map, List.length_append]; exact le1000 (by omega), fun Z hZ => ?_⟩
  rw [← List.map_append]
  refine q Z _ ((s12.trans s4).trans (same_new hZ _)) ?_
  have e : (N.outs ++ N.cls).map (fun r => r.2) = N.outs.map (fun r => r.2) ++ N.cls.map (fun r => r.2) := List.map_append ..
  rw [upd_same, e]
  rfl

end
end Bf

set_option Elab.async false
set_option linter.all false
set_option maxRecDepth 100000
set_option maxHeartbeats 4000000
namespace Bf
open PySem PySem.Spec PyProof.Rows L2
/-! ### inner ANDs, as the program tells them -/
theorem set_range {α : Type} {n k : Nat} {g g' : Nat → α} {v : α} (hk : k < n) (h1 : g' k = v) (h2 : ∀ x, x < n → x ≠ k → g' x = g x) : ((List.range n).map g).set k v = (List.range n).map g' := by
  apply List.ext_getElem
  · simp
  · intro i h3 h4
    rw [List.length_set, List.length_map, List.length_range] at h3
    rw [List.getElem_set]
    split
    · rename_i e
      subst e
      simp [h1]
    · rename_i e
      simp only [List.getElem_map, List.getElem_range]
      exact (h2 i h3 (fun q => e q.symm)).symm
def useV (n : Nat) (ls : List Nat) : List V := (List.range n).map fun x => vI (useC ls x)
def barV (f n : Nat) (ls es : List Nat) : List V := (List.range n).map fun x => V.bl (decide (x < f) || oddB ls x || decide (0 < useC es x))
theorem use_snoc {n l : Nat} {ls : List Nat} (h : l / 2 < n) : (useV n ls).set (l / 2) (vI (useC ls (l / 2) + 1)) = useV n (ls ++ [l]) := by
  refine set_range h ?_ fun x _ hx => ?_
  · rw [use_app]
    congr 2
    unfold useC
    simp
  · rw [use_app]
    have : useC [l] x = 0 := by
      unfold useC
      simp
      omega
    rw [this]
    rfl
theorem useV_at {n x : Nat} {ls : List Nat} (h : x < n) : (useV n ls)[x]? = some (vI (useC ls x)) := by
  unfold useV
  rw [List.getElem?_map, List.getElem?_range h]
  rfl
theorem odd_snoc (ls : List Nat) (l x : Nat) : oddB (ls ++ [l]) x = (oddB ls x || decide (l / 2 = x ∧ l % 2 = 1)) := by
  unfold oddB
  rw [List.any_append]
  simp
theorem bar_odd {f n l : Nat} {ls es : List Nat} (h : l / 2 < n) (o : l % 2 = 1) : (barV f n ls es).set (l / 2) (.bl true) = barV f n (ls ++ [l]) es := by
  refine set_range h ?_ fun x _ hx => ?_
  · rw [odd_snoc]
    simp [o]
  · rw [odd_snoc]
    have : ¬ (l / 2 = x) := fun q => hx q.symm
    simp [this]
theorem bar_even {f n l : Nat} {ls es : List Nat} (o : l % 2 = 0) : barV f n ls es = barV f n (ls ++ [l]) es := by
  unfold barV
  refine List.map_congr_left fun x _ => ?_
  rw [odd_snoc]
  have : ¬ (l % 2 = 1) := by omega
  simp [this]
theorem bar_end {f n l : Nat} {ls es : List Nat} (h : l / 2 < n) : (barV f n ls es).set (l / 2) (.bl true) = barV f n ls (es ++ [l]) := by
  refine set_range h ?_ fun x _ hx => ?_
  · rw [use_app]
    have : 0 < useC [l] (l / 2) := use_pos.mpr ⟨l, by simp, rfl⟩
    have h : 0 < useC es (l / 2) + useC [l] (l / 2) := by omega
    simp [h]
  · rw [use_app]
    have : useC [l] x = 0 := by
      unfold useC
      simp
      omega
    rw [this]
    rfl
theorem one_line : 1 ≤ sizeLine := by rw [sizeLine_eq]; decide
theorem rep_use (n : Nat) : (List.replicate n 0).map vI = useV n [] := by
  unfold useV
  rw [List.map_replicate]
  apply List.ext_getElem
  · simp
  · intro i h1 h2
    simp [useC]
theorem same_put {H H' : Hp} {a : Addr} {o : HO} (s : Same H H') (h : H a = none) : Same H (upd H' a o) := fun b u q => by
  rw [upd_ne (ne_of_none q h)]
  exact s b u q
structure BI (H0 H : Hp) (U B : Addr) (N : Net) (lu lb es : List Nat) : Prop where
  same : Same H0 H
  eU : H U = some (.lst (useV N.size lu))
  eB : H B = some (.lst (barV N.first N.size lb es))
  ne : U ≠ B
  nU : H0 U = none
  nB : H0 B = none
theorem BI.use {H0 H : Hp} {U B : Addr} {N : Net} {ls lb es : List Nat} {l : Nat} (b : BI H0 H U B N ls lb es) (h : l / 2 < N.size) : BI H0 (upd H U (.lst ((useV N.size ls).set (l / 2) (vI (useC ls (l / 2) + 1))))) U B N (ls ++ [l]) lb es :=
  ⟨same_put b.same b.nU, by rw [upd_same, use_snoc h], (upd_ne b.ne.symm).trans b.eB, b.ne, b.nU, b.nB⟩
theorem BI.odd {H0 H : Hp} {U B : Addr} {N : Net} {lu ls es : List Nat} {l : Nat} (b : BI H0 H U B N lu ls es) (h : l / 2 < N.size) (o : l % 2 = 1) : BI H0 (upd H B (.lst ((barV N.first N.size ls es).set (l / 2) (.bl true)))) U B N lu (ls ++ [l]) es :=
  ⟨same_put b.same b.nB, (upd_ne b.ne).trans b.eU, by rw [upd_same, bar_odd h o], b.ne, b.nU, b.nB⟩
theorem BI.even {H0 H : Hp} {U B : Addr} {N : Net} {lu ls es : List Nat} {l : Nat} (b : BI H0 H U B N lu ls es) (o : l % 2 = 0) : BI H0 H U B N lu (ls ++ [l]) es :=
  ⟨b.same, b.eU, by rw [← bar_even o]; exact b.eB, b.ne, b.nU, b.nB⟩
theorem BI.end_ {H0 H : Hp} {U B : Addr} {N : Net} {lu ls es : List Nat} {l : Nat} (b : BI H0 H U B N lu ls es) (h : l / 2 < N.size) : BI H0 (upd H B (.lst ((barV N.first N.size ls es).set (l / 2) (.bl true)))) U B N lu ls (es ++ [l]) :=
  ⟨same_put b.same b.nB, (upd_ne b.ne).trans b.eU, by rw [upd_same, bar_end h], b.ne, b.nU, b.nB⟩
theorem BI.also {H0 H H' : Hp} {U B : Addr} {N : Net} {lu lb es : List Nat} (b : BI H0 H U B N lu lb es) (s : Same H H') : BI H0 H' U B N lu lb es := ⟨b.same.trans s, s _ _ b.eU, s _ _ b.eB, b.ne, b.nU, b.nB⟩
theorem ends_lt {N : Net} (R : N.Right) : ∀ l ∈ N.ends, l < 2 * N.size := fun l hl => by
  unfold Net.ends at hl
  rcases List.mem_append.mp hl with hl | hl
  · rcases List.mem_append.mp hl with hl | hl
    · obtain ⟨o, ho, rfl⟩ := List.mem_map.mp hl
      exact R.outs o ho
    · obtain ⟨o, ho, rfl⟩ := List.mem_map.mp hl
      exact R.cls o ho
  · obtain ⟨o, ho, rfl⟩ := List.mem_map.mp hl
    exact (R.regs o ho).2
def spInnerA : Sp := fun vs H Q _ => ∃ (v : V) (N : Net), vs = [v] ∧ Lay H v (netD N) ∧ N.Right ∧ N.size ≤ 500 ∧ N.regs.length ≤ 100 ∧ N.outs.length ≤ 100 ∧ N.cls.length ≤ 100 ∧ ∀ (L : Addr) (H' : Hp), Same H H' → H' L = some (.lst ((List.range N.size).map fun x => V.bl (N.inn x))) → Q (.ref L) H'
section
variable {P : Program} {w : World} {K : PySem.W.Frag} {mg : Str → Option Value} {base : Heap} {f : Addr} {fd : FuncData}
theorem ok_innerA (F : Fun K "inner_ands" "inner_ands" s_inner_ands f fd) (T : Txt mg) (D_first_and : Dn P w K mg base "first_and" ["net"] 1 spFirst) (D_ends_of : Dn P w K mg base "ends_of" ["net"] 1 spEndsP) :
    FnOk P w K mg base CX0 2 f fd ["net"] spInnerA := by
  refine F.ok sc_inner_ands (fun vs H Q E h => ?_) (fun cdv A outer s H vs Q E hr h => ?_)
  · obtain ⟨v, N, rfl, _⟩ := h
    rfl
  obtain ⟨v, N, rfl, lv, R, h500, r100, o100, c100, q⟩ := h
  refine ⟨_, (pss_cons (ps_set (i := 1) sc_inner_ands.nd rfl (Or.inr rfl) (pe_dn D_first_and (hr.mono (by omega)) (by rfl) (pa_cons (pv 0) pa_nil)))
      (pss_cons (ps_set (i := 2) sc_inner_ands.nd rfl (Or.inl rfl) (pe_op op_rep (pe_lst (pa_cons pe_int pa_nil)) (pe_op op_add (pv 1) (pe_callB call_len_seq (by rfl) T.n_len (by decide +kernel) (pa_cons (pe_ix ix_tup (pv 0) pe_int (fun _ _ => rfl)) pa_nil)))))
      (pss_cons (ps_setLc (i := 3) (own := [("node", 6)]) (g := (gName 6)) (tt := tYes) rfl sc_inner_ands.nd rfl rfl (sw_true rfl rfl rfl (by decide +kernel)) (pi_range1 rfl T.n_range (pa_cons (pe_callB call_len_seq (by rfl) T.n_len (by decide +kernel) (pa_cons (pv 2) pa_nil)) pa_nil)) (blkOk_by (N := ["net", "first", "uses", "barred", "pair", "literal", "node", "many", "bar"]) (sc := defScope s_inner_ands) (by decide +kernel)) (fun _ _ _ _ _ => (pg_name (i := 6) sc_inner_ands.nd rfl (Or.inl rfl))) (fun _ _ _ _ _ => pts_nil) (fun _ _ _ _ _ => (pe_cmpR op_lt (pv 6) (pv 1) (nomark _))))
      (pss_cons (ps_for PassesOwn.never rfl (pi_tup (pe_ix ix_tup (pv 0) pe_int (fun _ _ => rfl))) (pg_name (i := 4) sc_inner_ands.nd rfl (Or.inl rfl)) (pss_one (ps_for PassesOwn.never rfl (pi_tup (pv 4)) (pg_name (i := 5) sc_inner_ands.nd rfl (Or.inl rfl)) (pss_cons (ps_augS (pv 2) (pe_op op_fdiv (pv 5) pe_int) get_list pe_int ip_add set_list)
      (pss_one (ps_if (pt_truth (pe_op op_odd (pv 5) pe_int) (by intro _; rfl)) (pss_one (ps_asg pe_bl (pg_sub (pv 3) (pe_op op_fdiv (pv 5) pe_int) set_list))) pss_nil))))))
      (pss_cons (ps_for PassesOwn.never rfl (pi_list (pe_dn D_ends_of (hr.mono (by omega)) (by rfl) (pa_cons (pv 0) pa_nil))) (pg_name (i := 5) sc_inner_ands.nd rfl (Or.inl rfl)) (pss_one (ps_asg pe_bl (pg_sub (pv 3) (pe_op op_fdiv (pv 5) pe_int) set_list))))
      (pss_one (ps_ret (pe_lc (own := [("many", 7), ("bar", 8)]) (g := (gTup K 2 (gCons (gName 7) (gCons (gName 8) gNil)))) (tt := tYes) rfl sc_inner_ands.nd (pi_zipX (by rfl) T.n_zip (pa_cons (pv 2) (pa_cons (pv 3) pa_nil))) (blkOk_by (N := ["net", "first", "uses", "barred", "pair", "literal", "node", "many", "bar"]) (sc := defScope s_inner_ands) (by decide +kernel)) (fun _ _ _ _ _ => (pg_tup rfl (pgs_cons (pg_name (i := 7) sc_inner_ands.nd rfl (Or.inl rfl)) (pgs_cons (pg_name (i := 8) sc_inner_ands.nd rfl (Or.inl rfl)) pgs_nil)))) (fun _ _ _ _ _ => pts_nil) (fun _ _ _ _ _ => (pe_and (pe_cmpR op_eq (pv 7) pe_int (nomark _)) (pe_one (pe_not (pv 8))))))))))))), ?_⟩
  obtain ⟨p, pi, pr, pa, po, pc, vr, va, vo, vc, rfl, hN⟩ := lv.net
  have hl := hN.lens
  refine ⟨_, rfl, _, N, rfl, hN.lay, ?_⟩
  refine ⟨one_line, fun z0 hz0 => ?_⟩
  have s0 := same_new hz0 (.lst [V.int 0])
  refine ⟨_, rfl, _, rfl, p, _, _, _, rfl, rfl, SqT.of (s0 _ _ hN.top), atI_nat (j := 3) rfl, pa, _, rfl, .inr (SqT.of (s0 _ _ hN.ha)), _, _, rfl, rfl, z0, _, [V.int 0], rfl, rfl, upd_same, by omega, by unfold Net.size at h500; omega, ?_, fun U hU => ?_⟩
  · rw [show ((N.first : Int) + (va.length : Int)).toNat = N.size by unfold Net.size; omega]
    show 1 * _ ≤ _
    exact le1000 (by omega)
  have hU0 := s0.free hU
  have s1 := same_put s0 hU0 (o := .lst (List.replicate ((N.first : Int) + (va.length : Int)).toNat [V.int 0]).flatten)
  have eU := upd_same (H := L2.upd H z0 (.lst [V.int 0])) (a := U) (o := .lst (List.replicate ((N.first : Int) + (va.length : Int)).toNat [V.int 0]).flatten)
  rw [show ((N.first : Int) + (va.length : Int)).toNat = N.size by unfold Net.size; omega, flat_rep, rep_use] at s1 eU ⊢
  generalize L2.upd (L2.upd H z0 (.lst [V.int 0])) U (.lst (useV N.size [])) = H1 at s1 eU ⊢
  refine ⟨_, rfl, U, _, rfl, .inl (SqL.of eU), N.size, ?_, by omega, by omega, fun B hB => ?_⟩
  · unfold useV
    rw [List.length_map, List.length_range]
  have hB0 := s1.free hB
  refine lc_rangeL (g := fun i => decide (i < N.first)) (h := blD) hB (by omega) (fun i H' R Z hi sm k => ?_) (fun us H2 s2 eB lu => ?_)
  · exact ⟨rfl, _, rfl, _, rfl, _, _, rfl, rfl, by
      have e : (fun a b : Int => V.bl (decide (a < b))) (0 + (i : Int)) (N.first : Int) = V.bl (decide (i < N.first)) := congrArg V.bl (decide_eq_decide.mpr (by omega))
      rw [e]
      exact k _ _ (.refl _) (.bl _)⟩
  have bi : BI H H2 U B N [] [] [] := ⟨s1.trans s2, s2 _ _ eU, by
    rw [eB, lay_bls lu]
    unfold barV
    rw [List.map_map]
    congr 2
    exact List.map_congr_left fun x _ => by simp [oddB, useC], (fun q => by rw [q, hB] at eU; cases eU), hU0, hB0⟩
  clear eU eB s2 lu s1
  refine ⟨_, rfl, p, _, _, _, rfl, rfl, SqT.of (bi.same _ _ hN.top), atI_nat (j := 3) rfl, pa, rfl, ⟨_, SqT.of (bi.same _ _ hN.ha)⟩, for_it (walk_tup (xs := va)) (fun i σ' H' => ∃ v4 v5, σ' = [some (.ref p), some (vI N.first), some (.ref U), some (.ref B), v4, v5, none, none, none] ∧ BI H H' U B N (litsL (N.ands.take i)) (litsL (N.ands.take i)) [])
    ⟨_, _, rfl, bi⟩ (fun i σ' H' _ pp => ?_) (fun i x σ' H3 H4 hi pp y => ?_) (fun σ' H' pp => ?_)⟩
  · obtain ⟨_, _, _, b⟩ := pp
    exact SqT.of (b.same _ _ hN.ha)
  · obtain ⟨v4, v5, rfl, b⟩ := pp
    obtain ⟨rfl, ex⟩ := y
    obtain ⟨q0, pr0, rfl, hpr, eq0⟩ := (show ∃ (q : Addr) (pr : Nat × Nat), x = .ref q ∧ N.ands[i]? = some pr ∧ H q = some (.tup [vI pr.1, vI pr.2]) from hN.and_ ex)
    have ell : ∀ l ∈ [pr0.1, pr0.2], l / 2 < N.size := fun l hl' => by
      have := lits_lt R (l := l) (List.mem_flatten.mpr ⟨_, List.mem_map.mpr ⟨pr0, List.mem_of_getElem? hpr, rfl⟩, hl'⟩)
      omega
    refine ⟨_, rfl, q0, rfl, ⟨_, SqT.of (b.same _ _ eq0)⟩, for_it (walk_tup (xs := [vI pr0.1, vI pr0.2])) (fun j σ' H' => ∃ v5, σ' = [some (.ref p), some (vI N.first), some (.ref U), some (.ref B), some (.ref q0), v5, none, none, none] ∧ BI H H' U B N (litsL (N.ands.take i) ++ [pr0.1, pr0.2].take j) (litsL (N.ands.take i) ++ [pr0.1, pr0.2].take j) [])
      ⟨_, rfl, by rw [List.take_zero, List.append_nil]; exact b⟩ (fun j σ' H' _ pp => ?_) (fun j z σ' H5 H6 hj pp y => ?_) (fun σ' H' pp => ?_)⟩
    · obtain ⟨_, _, b⟩ := pp
      exact SqT.of (b.same _ _ eq0)
    · obtain ⟨v5, rfl, b⟩ := pp
      obtain ⟨rfl, ez⟩ := y
      obtain ⟨l, hl', rfl⟩ : ∃ l, [pr0.1, pr0.2][j]? = some l ∧ z = vI l := by
        have : ([pr0.1, pr0.2].map vI)[j]? = some z := ez
        rw [List.getElem?_map] at this
        obtain ⟨l, h1, h2⟩ := Option.map_eq_some_iff.mp this
        exact ⟨l, h1, h2.symm⟩
      have hls := ell l (List.mem_of_getElem? hl')
      rw [take_snoc hl', ← List.append_assoc]
      generalize litsL (N.ands.take i) ++ [pr0.1, pr0.2].take j = ls at b ⊢
      have e2 : ((l : Int) / 2) = ((l / 2 : Nat) : Int) := by omega
      have lU : (useV N.size ls).length = N.size := by unfold useV; rw [List.length_map, List.length_range]
      have lB : (barV N.first N.size ls []).length = N.size := by unfold barV; rw [List.length_map, List.length_range]
      refine ⟨_, rfl, _, rfl, _, _, rfl, rfl, ⟨by decide, by decide⟩, U, _, (l : Int) / 2, vI (useC ls (l / 2)), rfl, rfl, b.eU, by rw [e2]; exact atI_nat (useV_at hls), _, _, rfl, rfl, U, _, (l : Int) / 2, l / 2, rfl, rfl, b.eU, by rw [e2]; exact ixN_nat (by rw [lU]; exact hls), ?_⟩
      have b1 := b.use hls
      refine ⟨_, rfl, l, rfl, rfl, (((l % 2 : Nat) : Int) != 0), rfl, ?_⟩
      rcases Nat.mod_two_eq_zero_or_one l with o | o
      · rw [o]
        exact ⟨_, rfl, b1.even o⟩
      · rw [o]
        refine ⟨_, rfl, _, rfl, _, _, rfl, rfl, ⟨by decide, by decide⟩, B, _, (l : Int) / 2, l / 2, rfl, rfl, b1.eB, by rw [e2]; exact ixN_nat (by rw [lB]; exact hls), ?_⟩
        exact ⟨_, rfl, b1.odd hls o⟩
    · obtain ⟨v5, rfl, b⟩ := pp
      refine ⟨_, _, rfl, ?_⟩
      rw [take_snoc hpr, lits_snoc]
      exact b
  · obtain ⟨v4, v5, rfl, b⟩ := pp
    rw [hl.2.1, List.take_length] at b
    refine ⟨_, rfl, _, N, rfl, hN.lay.keep' (.same b.same), r100, o100, c100, fun Z H4 s4 eZ => ?_⟩
    refine ⟨Z, rfl, ⟨_, SqL.of eZ⟩, for_it (walk_list (xs := N.ends.map vI)) (fun i σ' H' => ∃ v5, σ' = [some (.ref p), some (vI N.first), some (.ref U), some (.ref B), v4, v5, none, none, none] ∧ H' Z = some (.lst (N.ends.map vI)) ∧ BI H H' U B N (litsL N.ands) (litsL N.ands) (N.ends.take i))
      ⟨_, rfl, eZ, by rw [List.take_zero]; exact b.also s4⟩ (fun i σ' H' _ pp => ?_) (fun i x σ' H5 H6 hi pp y => ?_) (fun σ' H' pp => ?_)⟩
    · obtain ⟨_, _, e, _⟩ := pp
      exact SqL.of e
    · obtain ⟨v5, rfl, eZ5, b⟩ := pp
      obtain ⟨rfl, ex⟩ := y
      obtain ⟨l, hl', rfl⟩ := natAt ex
      have hls : l / 2 < N.size := by
        have := ends_lt R l (List.mem_of_getElem? hl')
        omega
      have e2 : ((l : Int) / 2) = ((l / 2 : Nat) : Int) := by omega
      have lB : (barV N.first N.size (litsL N.ands) (N.ends.take i)).length = N.size := by unfold barV; rw [List.length_map, List.length_range]
      have nZ : Z ≠ B := fun k => by
        rw [k, b.eB] at eZ5
        have e5 := congrArg (fun z => z[0]?) (HO.lst.inj (Option.some.inj eZ5))
        simp only [barV, List.getElem?_map] at e5
        rw [List.getElem?_range (by omega)] at e5
        cases h0 : N.ends[0]? with
        | none => rw [h0] at e5; cases e5
        | some z => rw [h0] at e5; cases e5
      refine ⟨_, rfl, _, rfl, _, _, rfl, rfl, ⟨by decide, by decide⟩, B, _, (l : Int) / 2, l / 2, rfl, rfl, b.eB, by rw [e2]; exact ixN_nat (by rw [lB]; exact hls), ?_⟩
      refine ⟨_, rfl, (upd_ne nZ).trans eZ5, ?_⟩
      rw [take_snoc hl']
      exact b.end_ hls
    · obtain ⟨v5, rfl, eZ5, b⟩ := pp
      rw [List.length_map, List.take_length] at b
      have lU : (useV N.size (litsL N.ands)).length = N.size := by unfold useV; rw [List.length_map, List.length_range]
      have lB : (barV N.first N.size (litsL N.ands) N.ends).length = N.size := by unfold barV; rw [List.length_map, List.length_range]
      refine ⟨_, rfl, _, rfl, srcL, srcL, U, B, _, _, rfl, SqL.of b.eU, SqL.of b.eB, fun D hD => ?_⟩
      refine lc_it (walk_zipMin srcL srcL (Nat.le_of_eq (lB.trans lU.symm))) (fun i H'' => Same H' H'' ∧ H'' D = some (.lst ((List.range i).map fun x => V.bl (N.inn x)))) ⟨same_new hD _, upd_same⟩ (fun i H'' _ pp => ⟨SqL.of (pp.1 _ _ b.eU), SqL.of (pp.1 _ _ b.eB)⟩) (fun i x H7 H8 hi pp y => ?_) (fun H7 pp => ?_)
      · obtain ⟨sm, eD⟩ := pp
        obtain ⟨T0, x1, x2, rfl, hT, rfl, f1, f2⟩ := y
        rw [lB] at hi
        have f1 : (useV N.size (litsL N.ands))[i]? = some x1 := f1
        rw [useV_at hi] at f1
        cases f1
        have f2 : (barV N.first N.size (litsL N.ands) N.ends)[i]? = some x2 := f2
        unfold barV at f2
        rw [List.getElem?_map, List.getElem?_range hi] at f2
        cases f2
        have sT := same_new hT (.tup [vI (useC (litsL N.ands) i), .bl (decide (i < N.first) || oddB (litsL N.ands) i || decide (0 < useC N.ends i))])
        have fin : ∀ bb : Bool, bb = N.inn i → ∃ acc, upd H7 T0 (.tup [vI (useC (litsL N.ands) i), .bl (decide (i < N.first) || oddB (litsL N.ands) i || decide (0 < useC N.ends i))]) D = some (.lst acc) ∧ acc.length < sizeLine ∧ Same H' (upd (upd H7 T0 (.tup [vI (useC (litsL N.ands) i), .bl (decide (i < N.first) || oddB (litsL N.ands) i || decide (0 < useC N.ends i))])) D (.lst (acc ++ [.bl bb]))) ∧ upd (upd H7 T0 (.tup [vI (useC (litsL N.ands) i), .bl (decide (i < N.first) || oddB (litsL N.ands) i || decide (0 < useC N.ends i))])) D (.lst (acc ++ [.bl bb])) D = some (.lst ((List.range (i + 1)).map fun x => V.bl (N.inn x))) := by
          rintro bb rfl
          exact ⟨_, sT _ _ eD, by rw [List.length_map, List.length_range]; exact small1000 (by omega), same_two (sm.trans sT) hD, by rw [upd_same, List.range_succ, List.map_append]; rfl⟩
        refine ⟨T0, _, rfl, SqT.of upd_same, rfl, _, _, rfl, _, _, rfl, rfl, rfl, _, rfl, rfl, _, rfl, ite2 (fun h => ?_) (fun h => ?_)⟩
        · refine ⟨_, rfl, _, rfl, fin _ ?_⟩
          have h1 : useC (litsL N.ands) i = 1 := Int.ofNat.inj (V.int.inj (of_decide_eq_true h))
          rw [inn_prog, h1]
          rfl
        · refine fin _ ?_
          have h1 : useC (litsL N.ands) i ≠ 1 := fun k => h (by rw [k]; rfl)
          rw [inn_prog, decide_eq_false h1]
          rfl
      · obtain ⟨sm, eD⟩ := pp
        rw [lB] at eD
        exact q _ _ (b.same.trans sm) eD
end
end Bf

set_option Elab.async false
set_option linter.all false
set_option maxRecDepth 100000
set_option maxHeartbeats 4000000
namespace Bf
open PySem PySem.Spec PyProof.Rows L2
def addN (M : List Nat) (x : Nat) : List Nat := if x ∈ M then M else M ++ [x]
theorem mem_addN {M : List Nat} {x y : Nat} : y ∈ addN M x ↔ y ∈ M ∨ y = x := by
  unfold addN
  by_cases h : x ∈ M
  · rw [if_pos h]
    exact ⟨.inl, fun q => q.elim id fun e => e ▸ h⟩
  · rw [if_neg h]
    simp
theorem addN_nodup {M : List Nat} {x : Nat} (h : M.Nodup) : (addN M x).Nodup := by
  unfold addN
  by_cases q : x ∈ M
  · rw [if_pos q]; exact h
  · rw [if_neg q]
    exact List.nodup_append.mpr ⟨h, by simp, fun a ha b hb e => q (by rw [← List.mem_singleton.mp hb, ← e]; exact ha)⟩
theorem addN_len {M : List Nat} {x : Nat} : (addN M x).length ≤ M.length + 1 := by
  unfold addN
  split
  · omega
  · rw [List.length_append]; exact Nat.le_refl _
/-! ### dicts as sets of places -/
def setE (x : Nat) : Key × V := (Sum.inl (x : Int), .bl true)
def IS (H : Hp) (a : Addr) (M : List Nat) : Prop := H a = some (.dK (M.map setE))
theorem setE_key {x y : Nat} : (setE y).1 = Sum.inl (x : Int) ↔ y = x := by
  constructor
  · intro h
    have : ((y : Nat) : Int) = (x : Int) := Sum.inl.inj h
    omega
  · rintro rfl; rfl
theorem put_set (M : List Nat) (x : Nat) : putK (M.map setE) (Sum.inl (x : Int)) (.bl true) = (addN M x).map setE := by
  unfold putK addN
  by_cases h : x ∈ M
  · rw [if_pos h, if_pos]
    · conv => rhs; rw [← List.map_id (M.map setE)]
      refine List.map_congr_left fun kv hkv => ?_
      obtain ⟨y, _, rfl⟩ := List.mem_map.mp hkv
      by_cases e : (setE y).1 = Sum.inl (x : Int)
      · rw [if_pos e]; rfl
      · rw [if_neg e]; rfl
    · rw [List.any_eq_true]
      exact ⟨setE x, List.mem_map_of_mem h, decide_eq_true rfl⟩
  · rw [if_neg h, if_neg, List.map_append]
    · rfl
    · rw [List.any_eq_true]
      rintro ⟨kv, hkv, q⟩
      obtain ⟨y, hy, rfl⟩ := List.mem_map.mp hkv
      exact h (setE_key.mp (of_decide_eq_true q) ▸ hy)
theorem val_set : ∀ (M : List Nat) (x : Nat), (valV (M.map setE) (Sum.inl (x : Int))).isSome = decide (x ∈ M)
  | [], x => by rw [List.map_nil, valV_nil]; simp
  | y :: M, x => by
    rw [List.map_cons]
    by_cases e : (setE y).1 = (Sum.inl (x : Int) : Key)
    · rw [valV_pos e]
      have : y = x := setE_key.mp e
      simp [this]
    · rw [valV_neg e, val_set M x]
      have : ¬ x = y := fun q => e (setE_key.mpr q.symm)
      simp [this]
theorem IS.keys (M : List Nat) : (M.map setE).map (·.1) = (M.map fun x : Nat => (x : Int)).map Sum.inl := by rw [List.map_map, List.map_map]; rfl
theorem IS.get {H : Hp} {a : Addr} {M : List Nat} (h : IS H a M) (x : Nat) : DGet H a (vI x) (valV (M.map setE) (Sum.inl (x : Int))) := DGet.k (k := Sum.inl (x : Int)) h
theorem IS.put {H : Hp} {a : Addr} {M : List Nat} (h : IS H a M) (x : Nat) (hl : M.length ≤ 2000) : DPut H a (vI x) (.bl true) (upd H a (.dK ((addN M x).map setE))) := by
  have := DPut.k (k := Sum.inl (x : Int)) (v := .bl true) h (by rw [List.length_map]; exact Nat.lt_of_le_of_lt hl (by show 2000 < sizeLine; decide))
  rwa [put_set] at this
theorem sortedNat {M : List Nat} {ys : List Int} (h : ys.Perm (M.map fun x : Nat => (x : Int))) (hp : ys.Pairwise (· ≤ ·)) (nd : M.Nodup) : ∃ zs : List Nat, ys.map V.int = zs.map vI ∧ zs.Pairwise (· < ·) ∧ (∀ v, v ∈ zs ↔ v ∈ M) ∧ zs.length = M.length := by
  have e : ∀ y ∈ ys, y = ((y.toNat : Nat) : Int) := fun y hy => by
    obtain ⟨x, _, rfl⟩ := List.mem_map.mp (h.mem_iff.mp hy)
    simp
  have pz : (ys.map Int.toNat).Perm M := by
    have := h.map Int.toNat
    rw [List.map_map] at this
    have q : M.map (Int.toNat ∘ fun x : Nat => (x : Int)) = M := by
      conv => rhs; rw [← List.map_id M]
      exact List.map_congr_left fun x _ => by simp
    rwa [q] at this
  refine ⟨ys.map Int.toNat, ?_, ?_, fun v => pz.mem_iff, pz.length_eq⟩
  · rw [List.map_map]
    exact List.map_congr_left fun y hy => congrArg V.int (e y hy)
  · have n : (ys.map Int.toNat).Pairwise (· ≠ ·) := pz.nodup_iff.mpr nd
    have l : (ys.map Int.toNat).Pairwise (· ≤ ·) := List.pairwise_map.mpr (hp.imp fun h => Int.toNat_le_toNat h)
    exact (l.and n).imp fun h => Nat.lt_of_le_of_ne h.1 h.2
end Bf

set_option Elab.async false
set_option linter.all false
set_option maxRecDepth 100000
set_option maxHeartbeats 4000000
namespace Bf
open PySem PySem.Spec PyProof.Rows L2
/-! ### the leaves of one head -/
theorem StkI.cast {N : Net} {h : Nat} {todo : List Nat} {S S' : Nat → Prop} (w : StkI N h todo S) (e : ∀ m, S m ↔ S' m) : StkI N h todo S' := by
  have : S = S' := funext fun m => propext (e m)
  rw [← this]
  exact w
def spLeavesOf (K : PySem.W.Frag) : Sp := fun vs H Q _ => ∃ (v : V) (N : Net) (I : Addr) (h : Nat), vs = [v, .ref I, vI h] ∧ Lay H v (netD N) ∧ N.Right ∧ N.size ≤ 500 ∧ H I = some (.lst ((List.range N.size).map fun x => V.bl (N.inn x))) ∧ N.first ≤ h ∧ h < N.size ∧ ∀ (L : Addr) (H' : Hp), Same H H' → H L = none → H' L = some (.lst ((leafL N h).map vI)) → Q (.ref L) H'
section
variable {P : Program} {w : World} {K : PySem.W.Frag} {mg : Str → Option Value} {base : Heap} {f : Addr} {fd : FuncData}
theorem ok_leavesOf (F : Fun K "leaves_of" "leaves_of" s_leaves_of f fd) (T : Txt mg) (D_first_and : Dn P w K mg base "first_and" ["net"] 1 spFirst) :
    FnOk P w K mg base CX0 2 f fd ["net", "inner", "head"] (spLeavesOf K) := by
  refine F.ok sc_leaves_of (fun vs H Q E h => ?_) (fun cdv A outer s H vs Q E hr h => ?_)
  · obtain ⟨v, N, I, h, rfl, _⟩ := h
    rfl
  obtain ⟨v, N, I, h, rfl, lv, R, h500, eI, h1, h2, q⟩ := h
  refine ⟨_, (pss_cons (ps_set (i := 3) sc_leaves_of.nd rfl (Or.inl rfl) (pe_dn D_first_and (hr.mono (by omega)) (by rfl) (pa_cons (pv 0) pa_nil)))
      (pss_cons (ps_set (i := 4) sc_leaves_of.nd rfl (Or.inl rfl) pe_dnewK)
      (pss_cons (ps_set (i := 5) sc_leaves_of.nd rfl (Or.inl rfl) (pe_callTy call_list_of (by rfl) T.n_list (by decide +kernel) (pa_cons (pe_ix ix_tup (pe_ix ix_tup (pv 0) pe_int (fun _ _ => rfl)) (pe_op op_sub (pv 2) (pv 3)) (fun _ _ => rfl)) pa_nil)))
      (pss_cons (ps_while PassesOwn.never (pt_truth (pv 5) (by intro _; rfl)) (pss_cons (ps_set (i := 6) sc_leaves_of.nd rfl (Or.inl rfl) (pe_bm0 PySem.F.plainAttrs_list PySem.F.slot_list_pop PySem.F.type_list_pop mt_pop (pv 5)))
      (pss_one (ps_if (pt_val (pe_ix ix_list (pv 1) (pe_op op_fdiv (pv 6) pe_int) (fun _ _ => rfl))) (pss_one (ps_expr (pe_bm PySem.F.plainAttrs_list PySem.F.slot_list_extend PySem.F.type_list_extend mt_extT (pv 5) (pa_cons (pe_ix ix_tup (pe_ix ix_tup (pv 0) pe_int (fun _ _ => rfl)) (pe_op op_sub (pe_op op_fdiv (pv 6) pe_int) (pv 3)) (fun _ _ => rfl)) pa_nil)))) (pss_one (ps_dput (hu_of hr) (pv 4) (pv 6) pe_bl rfl))))))
      (pss_one (ps_ret (pe_callB (cr_sortedKeysI rfl) (by rfl) T.n_sorted (by decide +kernel) (pa_cons (pv 4) pa_nil)))))))), ?_⟩
  obtain ⟨p, pi, pr, pa, po, pc, vr, va, vo, vc, rfl, hN⟩ := lv.net
  have hl := hN.lens
  obtain ⟨pr0, hpr, ep⟩ := pair_some h1 h2
  obtain ⟨x0, hx0, l0⟩ := hN.la.at_ (d := pairD pr0) (h - N.first) (by rw [List.getElem?_map, hpr]; rfl)
  obtain ⟨q0, rfl, eq0⟩ := l0.pair
  refine ⟨_, rfl, _, N, rfl, hN.lay, ?_⟩
  refine fun D hD => ?_
  have sD := same_new hD (.dK [])
  have ha0 : atI va ((h : Int) - (N.first : Int)) = some (.ref q0) := by
    rw [show (h : Int) - (N.first : Int) = ((h - N.first : Nat) : Int) by omega]
    exact atI_nat hx0
  refine ⟨_, rfl, p, _, _, _, rfl, rfl, SqT.of (sD _ _ hN.top), atI_nat (j := 3) rfl, _, rfl, _, rfl, _, _, rfl, rfl, pa, _, _, _, rfl, rfl, SqT.of (sD _ _ hN.ha), ha0, q0, _, rfl, .inr (SqT.of (sD _ _ eq0)), fun T0 hT => ?_⟩
  have nTD : T0 ≠ D := (ne_of_none upd_same hT).symm
  have hT0 : H T0 = none := sD.free hT
  refine ⟨fun m σ' H' => ∃ (v6 : Option V) (M todo : List Nat), σ' = [some (.ref p), some (.ref I), some (vI h), some (vI N.first), some (.ref D), some (.ref T0), v6] ∧ Same H H' ∧ IS H' D M ∧ H' T0 = some (.lst (todo.map vI)) ∧ StkI N h todo (· ∈ M) ∧ M.Nodup ∧ m = stkM todo,
    ⟨_, _, [], [pr0.1, pr0.2], rfl, same_put sD hT0, (upd_ne nTD.symm).trans upd_same, upd_same, (StkI.start R h1 ep).cast fun m => by simp, by simp, rfl⟩, fun m σ' H' pp => ?_⟩
  obtain ⟨v6, M, todo, rfl, sm, iM, eT, st, nd, rfl⟩ := pp
  have lM : M.length ≤ 2 * h := by
    have := nodup_sub_len (xs := M) (ys := List.range (2 * h)) nd fun m hm => List.mem_range.mpr (((st.is m (st.sl m hm)).mpr (.inl hm)).lt R h1)
    rwa [List.length_range] at this
  refine ⟨_, rfl, !(todo.map vI).isEmpty, .inl ⟨_, SqL.of eT, rfl⟩, ?_⟩
  rcases List.eq_nil_or_concat todo with rfl | ⟨todo', l, e⟩
  · refine ⟨_, rfl, D, _, _, rfl, .inl iM, IS.keys M, fun ys p hp hw hn => ?_⟩
    obtain ⟨zs, ez, hz, hm, hl⟩ := sortedNat hp hw nd
    rw [ez]
    have := leafL_uniq R h1 hz fun l => (hm l).trans (st.done l)
    rw [this]
    exact q p _ (sm.trans (same_new hn _)) (sm.free hn) upd_same
  · rw [List.concat_eq_append] at e
    subst e
    have eT' : (todo' ++ [l]).map vI = todo'.map vI ++ [vI l] := by rw [List.map_append]; rfl
    refine ifY (by rw [eT']; simp) ⟨_, fun _ _ h => h, ?_⟩
    rw [eT'] at eT
    refine ⟨_, rfl, .inl ⟨rfl, _, SqL.of eT⟩, T0, _, vI l, rfl, rfl, eT, by simp, ?_⟩
    rw [List.dropLast_concat]
    have sm1 := same_put (a := T0) (o := .lst (todo'.map vI)) sm hT0
    have iM1 : IS (L2.upd H' T0 (.lst (todo'.map vI))) D M := by unfold IS; rw [upd_ne nTD.symm]; exact iM
    have eT1 : L2.upd H' T0 (.lst (todo'.map vI)) T0 = some (.lst (todo'.map vI)) := upd_same
    generalize L2.upd H' T0 (.lst (todo'.map vI)) = H1 at sm1 iM1 eT1 ⊢
    have hll := lits_lt R (st.lit l (by simp))
    have e2 : ((l : Int) / 2) = ((l / 2 : Nat) : Int) := by omega
    have eat : ((List.range N.size).map fun x => V.bl (N.inn x))[l / 2]? = some (.bl (N.inn (l / 2))) := by
      rw [List.getElem?_map, List.getElem?_range (by omega)]
      rfl
    refine ⟨_, rfl, _, rfl, _, _, rfl, rfl, ⟨by decide, by decide⟩, I, _, (l : Int) / 2, .bl (N.inn (l / 2)), rfl, rfl, SqL.of (sm1 _ _ eI), by rw [e2]; exact atI_nat eat, _, rfl, ?_⟩
    cases c : N.inn (l / 2) with
    | true =>
      obtain ⟨i1, i2⟩ := inn_lt R c
      obtain ⟨pr1, hpr1, ep1⟩ := pair_some i1 i2
      obtain ⟨x1, hx1, l1⟩ := hN.la.at_ (d := pairD pr1) (l / 2 - N.first) (by rw [List.getElem?_map, hpr1]; rfl)
      obtain ⟨q1, rfl, eq1⟩ := l1.pair
      have ha1 : atI va ((l : Int) / 2 - (N.first : Int)) = some (.ref q1) := by
        rw [show (l : Int) / 2 - (N.first : Int) = ((l / 2 - N.first : Nat) : Int) by omega]
        exact atI_nat hx1
      have top := st.lo todo'.length l (by rw [List.getElem?_append_right (Nat.le_refl _), Nat.sub_self]; rfl)
      refine iteT ⟨_, rfl, .inl ⟨rfl, _, SqL.of eT1⟩, _, rfl, p, _, _, _, rfl, rfl, SqT.of (sm1 _ _ hN.top), atI_nat (j := 3) rfl, _, rfl, _, _, rfl, rfl, ⟨by decide, by decide⟩, _, rfl, _, _, rfl, rfl, pa, _, _, _, rfl, rfl, SqT.of (sm1 _ _ hN.ha), ha1, T0, q1, _, _, rfl, rfl, eT1, SqT.of (sm1 _ _ eq1), ?_, ?_⟩
      · rw [List.length_map]
        exact le1000 (by show todo'.length + 2 ≤ 1000; omega)
      · have b1 := pair_lt R i1 (l := pr1.1) (by rw [ep1]; simp)
        have b2 := pair_lt R i1 (l := pr1.2) (by rw [ep1]; simp)
        exact ⟨stkM (todo' ++ [pr1.1, pr1.2]), stkM_inner b1 b2, _, M, todo' ++ [pr1.1, pr1.2], rfl, same_put sm1 hT0, (upd_ne nTD.symm).trans iM1, by rw [upd_same, List.map_append]; rfl, st.inner R c ep1, nd, rfl⟩
    | false =>
      refine iteF ⟨_, rfl, _, rfl, D, _, rfl, iM1.put l (by omega), ?_⟩
      exact ⟨stkM todo', stkM_leaf _ _, _, addN M l, todo', rfl, same_put sm1 hD, upd_same, (upd_ne nTD).trans eT1, (st.leaf c).cast fun m => mem_addN.symm, addN_nodup nd, rfl⟩
end
end Bf

set_option Elab.async false
set_option linter.all false
set_option maxRecDepth 100000
set_option maxHeartbeats 4000000
namespace Bf
open PySem PySem.Spec PyProof.Rows L2
/-- any dict comprehension, by what holds after i items -/
theorem dc_it {J : It} {n : Nat} {G : Hp → Prop} {Y : Nat → Hp → V → Hp → Prop} (w : Walk J n G Y) {g : TG} {tt : TT} {tk tv : TE} {vs : List Nat} {σ : L2.St} {H1 : Hp} {D : Addr} {Qd : Hp → Prop} (Pv : Nat → Hp → Prop) (h0 : Pv 0 (upd H1 D (.dK []))) (hG : ∀ i H, i ≤ n → Pv i H → G H)
    (hs : ∀ i x H H', i < n → Pv i H → Y i H x H' → g x (wipe σ vs) H' fun σ2 H2 => wipe σ2 vs = wipe σ vs ∧ tt σ2 H2 fun b H3 =>
      if b = true then tk σ2 H3 fun y H4 => tv σ2 H4 fun z H5 => ∃ kvs k, y = kV k ∧ H5 D = some (.dK kvs) ∧ kvs.length < sizeLine ∧ Pv (i + 1) (upd H5 D (.dK (putK kvs k z))) else Pv (i + 1) H3) (hd : ∀ H, Pv n H → Qd H) :
    ∃ W : Nat → Nat → Hp → Prop, (∃ m, W 0 m (upd H1 D (.dK []))) ∧ ∀ i m H, W i m H →
      (J.stop i H ∧ Qd H) ∨ (J.go i H ∧ ∃ Nx : Hp → Prop, (∀ H', Nx H' → ∃ m', m' < m ∧ W (i + 1) m' H') ∧ ∀ x H', J.yld i H x H' → g x (wipe σ vs) H' fun σ2 H2 => wipe σ2 vs = wipe σ vs ∧ tt σ2 H2 fun b H3 =>
        if b = true then tk σ2 H3 fun y H4 => tv σ2 H4 fun z H5 => ∃ kvs k, y = kV k ∧ H5 D = some (.dK kvs) ∧ kvs.length < sizeLine ∧ Nx (upd H5 D (.dK (putK kvs k z))) else Nx H3) := by
  refine ⟨fun j m Hj => (m = n - j ∧ j ≤ n) ∧ Pv j Hj, ⟨n, ⟨by simp, Nat.zero_le _⟩, h0⟩, ?_⟩
  rintro j m Hj ⟨⟨rfl, hj⟩, pj⟩
  have gj := hG j Hj hj pj
  rcases Nat.lt_or_eq_of_le hj with less | rfl
  · exact .inr ⟨w.goes j Hj less gj, Pv (j + 1), fun H' p' => ⟨n - (j + 1), by omega, ⟨rfl, less⟩, p'⟩, fun x H' y => hs j x Hj H' less pj (w.yields j Hj x H' less gj y)⟩
  · exact .inl ⟨w.stops Hj gj, hd Hj pj⟩
end Bf

set_option Elab.async false
set_option linter.all false
set_option maxRecDepth 100000
set_option maxHeartbeats 4000000
namespace Bf
open PySem PySem.Spec PyProof.Rows L2
/-! ### the leaves of all heads -/
theorem putK_fresh {κ : Type} [DecidableEq κ] {kvs : List (κ × V)} {k : κ} {v : V} (h : k ∉ kvs.map (·.1)) : putK kvs k v = kvs ++ [(k, v)] := by
  unfold putK
  rw [if_neg]
  rw [List.any_eq_true]
  rintro ⟨kv, hkv, q⟩
  exact h (List.mem_map.mpr ⟨kv, hkv, of_decide_eq_true q⟩)
def headE (e : Nat × Addr) : Key × V := (Sum.inl (e.1 : Int), .ref e.2)
def spHeads : Sp := fun vs H Q _ => ∃ (v : V) (N : Net), vs = [v] ∧ Lay H v (netD N) ∧ N.Right ∧ N.size ≤ 500 ∧ N.regs.length ≤ 100 ∧ N.outs.length ≤ 100 ∧ N.cls.length ≤ 100 ∧
  ∀ (D : Addr) (m : List (Nat × Addr)) (H' : Hp), Same H H' → H' D = some (.dK (m.map headE)) → m.map (·.1) = ((List.range N.ands.length).map (N.first + ·)).filter (fun x => !N.inn x) → (∀ e ∈ m, H' e.2 = some (.lst ((leafL N e.1).map vI))) → Q (.ref D) H'
section
variable {P : Program} {w : World} {K : PySem.W.Frag} {mg : Str → Option Value} {base : Heap} {f : Addr} {fd : FuncData}
theorem ok_heads (F : Fun K "leaves_of_heads" "leaves_of_heads" s_leaves_of_heads f fd) (T : Txt mg) (D_first_and : Dn P w K mg base "first_and" ["net"] 1 spFirst) (D_inner_ands : Dn P w K mg base "inner_ands" ["net"] 2 spInnerA) (D_leaves_of : Dn P w K mg base "leaves_of" ["net", "inner", "head"] 2 (spLeavesOf K)) :
    FnOk P w K mg base CX0 3 f fd ["net"] spHeads := by
  refine F.ok sc_leaves_of_heads (fun vs H Q E h => ?_) (fun cdv A outer s H vs Q E hr h => ?_)
  · obtain ⟨v, N, rfl, _⟩ := h
    rfl
  obtain ⟨v, N, rfl, lv, R, h500, r100, o100, c100, q⟩ := h
  refine ⟨_, (pss_cons (ps_set (i := 1) sc_leaves_of_heads.nd rfl (Or.inl rfl) (pe_dn D_first_and (hr.mono (by omega)) (by rfl) (pa_cons (pv 0) pa_nil)))
      (pss_cons (ps_set (i := 2) sc_leaves_of_heads.nd rfl (Or.inr rfl) (pe_dn D_inner_ands (hr.mono (by omega)) (by rfl) (pa_cons (pv 0) pa_nil)))
      (pss_one (ps_ret (pe_dc (own := [("head", 3)]) (g := (gName 3)) rfl sc_leaves_of_heads.nd (pi_range2 rfl T.n_range (pa_cons (pv 1) (pa_cons (pe_callB call_len_seq (by rfl) T.n_len (by decide +kernel) (pa_cons (pv 2) pa_nil)) pa_nil))) (blkOk_by (N := ["net", "first", "inner", "head"]) (sc := defScope s_leaves_of_heads) (by decide +kernel)) (fun _ _ _ _ _ => (pg_name (i := 3) sc_leaves_of_heads.nd rfl (Or.inl rfl))) (fun _ _ _ _ _ => (pts_one (pt_not (pt_val (pe_ix (ix_list : IxR _ (rIxL K)) (pv 2) (pv 3) (fun _ _ => rfl)))))) (fun _ _ _ _ _ => (pv 3)) (fun _ _ _ _ _ => (pe_dn D_leaves_of (hr.mono (by omega)) (by rfl) (pa_cons (pv 0) (pa_cons (pv 2) (pa_cons (pv 3) pa_nil)))))))))), ?_⟩
  refine ⟨_, rfl, v, N, rfl, lv, ?_⟩
  refine ⟨_, rfl, v, N, rfl, lv, R, h500, r100, o100, c100, fun I H1 s1 eI => ?_⟩
  refine ⟨_, rfl, _, rfl, I, _, rfl, .inl (SqL.of eI), (N.first : Int), ((((List.range N.size).map fun x => V.bl (N.inn x)).length : Nat) : Int), rfl, ?_, fun D hD => ?_⟩
  · rw [List.length_map, List.length_range]
    have : N.first ≤ N.size := by unfold Net.size; omega
    omega
  have en : ((((List.range N.size).map fun x => V.bl (N.inn x)).length : Int) - (N.first : Int)).toNat = N.ands.length := by
    rw [List.length_map, List.length_range]
    unfold Net.size
    omega
  rw [en]
  have rows0 : ∀ i, i ≤ N.ands.length → (((List.range i).map (N.first + ·)).filter (fun x => !N.inn x)).length ≤ 500 := fun i hi => by
    refine Nat.le_trans (List.length_filter_le _ _) ?_
    rw [List.length_map, List.length_range]
    unfold Net.size at h500
    omega
  refine dc_it walk_range (fun i H' => ∃ m : List (Nat × Addr), Same H H' ∧ H' I = some (.lst ((List.range N.size).map fun x => V.bl (N.inn x))) ∧ H' D = some (.dK (m.map headE)) ∧ m.map (·.1) = ((List.range i).map (N.first + ·)).filter (fun x => !N.inn x) ∧ ∀ e ∈ m, H' e.2 = some (.lst ((leafL N e.1).map vI)))
    ⟨[], s1.trans (same_new hD _), same_new hD _ _ _ eI, upd_same, rfl, by simp⟩ (fun _ _ _ _ => trivial) (fun i x H2 H3 hi pp y => ?_) (fun H2 pp => ?_)
  · obtain ⟨m, sm, eI2, eD, em, hm⟩ := pp
    obtain ⟨rfl, rfl⟩ := y
    have er : ((List.range (i + 1)).map (N.first + ·)).filter (fun x => !N.inn x) = if N.inn (N.first + i) = true then ((List.range i).map (N.first + ·)).filter (fun x => !N.inn x) else ((List.range i).map (N.first + ·)).filter (fun x => !N.inn x) ++ [N.first + i] := by
      rw [List.range_succ, List.map_append, List.filter_append]
      split <;> simp [*]
    rw [er]
    have e2 : ((N.first : Int) + (i : Int)) = ((N.first + i : Nat) : Int) := by omega
    have eat : ((List.range N.size).map fun x => V.bl (N.inn x))[N.first + i]? = some (.bl (N.inn (N.first + i))) := by
      rw [List.getElem?_map, List.getElem?_range (by unfold Net.size; omega)]
      rfl
    refine ⟨rfl, _, rfl, _, rfl, I, _, _, .bl (N.inn (N.first + i)), rfl, rfl, SqL.of eI2, by rw [e2]; exact atI_nat eat, _, rfl, ?_⟩
    cases c : N.inn (N.first + i) with
    | true =>
      refine iteF ⟨m, sm, eI2, eD, ?_, hm⟩
      rw [if_pos rfl]
      exact em
    | false =>
      have nm : (Sum.inl ((N.first + i : Nat) : Int) : Key) ∉ (m.map headE).map (·.1) := by
        intro k
        rw [List.map_map] at k
        obtain ⟨e, he, ee⟩ := List.mem_map.mp k
        have e3 : e.1 = N.first + i := by
          have : ((e.1 : Nat) : Int) = ((N.first + i : Nat) : Int) := Sum.inl.inj ee
          omega
        have : e.1 ∈ m.map (·.1) := List.mem_map.mpr ⟨e, he, rfl⟩
        rw [em, e3] at this
        obtain ⟨j, hj, ej⟩ := List.mem_map.mp (List.mem_filter.mp this).1
        have := List.mem_range.mp hj
        omega
      have lm : m.length ≤ 500 := by
        have := congrArg List.length em
        rw [List.length_map] at this
        rw [this]
        exact rows0 i (by omega)
      refine iteT ⟨_, rfl, _, rfl, _, rfl, _, rfl, v, N, I, N.first + i, rfl, lv.keep' (.same sm), R, h500, eI2, Nat.le_add_right _ _, by unfold Net.size; omega, fun L H4 s4 nL e4 => ?_⟩
      refine ⟨_, Sum.inl ((N.first + i : Nat) : Int), rfl, s4 _ _ eD, by rw [List.length_map]; exact small1000 (by omega), m ++ [(N.first + i, L)], ?_, ?_, ?_, ?_, ?_⟩
      · exact same_put (sm.trans s4) (s1.free hD)
      · have : I ≠ D := fun k => by rw [k, eD] at eI2; cases eI2
        exact (upd_ne this).trans (s4 _ _ eI2)
      · rw [upd_same, putK_fresh nm, List.map_append]
        rfl
      · rw [List.map_append, em, if_neg (by decide)]
        rfl
      · intro e he
        have nLD : L ≠ D := fun k => by rw [k, eD] at nL; cases nL
        rcases List.mem_append.mp he with k | k
        · have : e.2 ≠ D := fun q => by
            have := hm e k
            rw [q, eD] at this
            cases this
          exact (upd_ne this).trans (s4 _ _ (hm e k))
        · rw [List.mem_singleton.mp k]
          exact (upd_ne nLD).trans e4
  · obtain ⟨m, sm, _, eD, em, hm⟩ := pp
    exact q D m H2 sm eD em hm
end
end Bf

set_option Elab.async false
set_option linter.all false
set_option maxRecDepth 100000
set_option maxHeartbeats 4000000
namespace Bf
open PySem PySem.Spec PyProof.Rows L2
/-! ### heights of trees -/
theorem sum_pows : ∀ hs : List Nat, (hs.map fun h => (2 : Int) ^ h).sum = ((sumP hs : Nat) : Int)
  | [] => rfl
  | h :: hs => by
    rw [List.map_cons, List.sum_cons, sum_pows hs, sumP_cons, Int.natCast_add, Int.natCast_pow]
    rfl
theorem seqL_same {K : PySem.W.Frag} {H H' : Hp} {a : Addr} {xs : List V} (s : Same H H') (h : SqL K H a xs) : SqL K H' a xs := by
  rcases h with (h | ⟨u, h⟩) | h
  · exact .inl (.inl (s _ _ h))
  · exact .inl (.inr ⟨u, s _ _ h⟩)
  · exact .inr h
def besideB (ls : List Nat) (i : Nat) : Bool := decide (vI (ls.getD i 0 ^^^ 1) = vI (ls.getD (i + 1) 0))
theorem beside_any {ls : List Nat} (s : ls.Pairwise (· < ·)) : ((List.range (ls.length - 1)).map (besideB ls)).any id = oppB ls := by
  rw [Bool.eq_iff_iff, opp_iff s, List.any_map, List.any_eq_true]
  constructor
  · rintro ⟨i, hi, e⟩
    have hi := List.mem_range.mp hi
    have e : vI (ls.getD i 0 ^^^ 1) = vI (ls.getD (i + 1) 0) := of_decide_eq_true e
    have h1 : ls[i]? = some ls[i] := List.getElem?_eq_getElem (by omega)
    have h2 : ls[i + 1]? = some ls[i + 1] := List.getElem?_eq_getElem (by omega)
    rw [List.getD_eq_getElem?_getD, List.getD_eq_getElem?_getD, h1, h2] at e
    exact ⟨i, _, _, h1, h2, Int.ofNat.inj (V.int.inj e)⟩
  · rintro ⟨i, a, b, h1, h2, rfl⟩
    have := (List.getElem?_eq_some_iff.mp h2).1
    refine ⟨i, List.mem_range.mpr (by omega), decide_eq_true ?_⟩
    rw [List.getD_eq_getElem?_getD, List.getD_eq_getElem?_getD, h1, h2]
    rfl
def spTreeH (K : PySem.W.Frag) : Sp := fun vs H Q _ => ∃ (a : Addr) (hs : List Nat), vs = [.ref a] ∧ SqL K H a (hs.map vI) ∧ 1 ≤ hs.length ∧ hs.length ≤ 1000 ∧ (∀ h ∈ hs, h ≤ 6000) ∧ ∀ H', Same H H' → Q (vI (clog (sumP hs))) H'
def spInv (K : PySem.W.Frag) : Sp := fun vs H Q _ => ∃ (a : Addr) (ls : List Nat), vs = [.ref a] ∧ SqL K H a (ls.map vI) ∧ ls.length ≤ 1000 ∧ ls.Pairwise (· < ·) ∧ ∀ H', Same H H' → Q (.bl (oppB ls)) H'
section
variable {P : Program} {w : World} {K : PySem.W.Frag} {mg : Str → Option Value} {base : Heap} {f : Addr} {fd : FuncData}
theorem ok_treeH (F : Fun K "tree_height" "tree_height" s_tree_height f fd) (T : Txt mg) : FnOk P w K mg base CX0 1 f fd ["heights"] (spTreeH K) := by
  refine F.ok sc_tree_height (fun vs H Q E h => ?_) (fun cdv A outer s H vs Q E hr h => ?_)
  · obtain ⟨a, hs, rfl, _⟩ := h
    rfl
  obtain ⟨a, hs, rfl, ea, n1, n2, b, q⟩ := h
  refine ⟨_, (pss_cons (ps_set (i := 1) sc_tree_height.nd rfl (Or.inl rfl) (pe_callB (cr_sum rfl) (by rfl) T.n_sum (by decide +kernel) (pa_cons (pe_lc (own := [("height", 2)]) (g := (gName 2)) (tt := tYes) rfl sc_tree_height.nd (pi_list (pv 0)) (blkOk_by (N := ["heights", "total", "height"]) (sc := defScope s_tree_height) (by decide +kernel)) (fun _ _ _ _ _ => (pg_name (i := 2) sc_tree_height.nd rfl (Or.inl rfl))) (fun _ _ _ _ _ => pts_nil) (fun _ _ _ _ _ => (pe_op op_oneShl pe_int (pv 2)))) pa_nil)))
      (pss_one (ps_ret (pe_bits (pe_op op_sub (pv 1) pe_int))))), ?_⟩
  refine ⟨_, rfl, a, rfl, ⟨_, ea⟩, fun D hD => ?_⟩
  refine lc_rows (walk_list (xs := hs.map vI)) (rows := hs) (f := intD) (g := fun h => (2 : Int) ^ h) (h := zD) (fun H' sm => seqL_same sm ea) hD (LayAll.ints hs) n2 (fun i x r H' R Z hr sm lx k => ?_) (fun us H2 s2 eD lu => ?_)
  · obtain rfl := lx.int_inv
    exact ⟨rfl, _, rfl, r, rfl, rfl, Nat.le_trans (b r (List.mem_of_getElem? hr)) (by decide), k _ _ (.refl _) (.int _)⟩
  · rw [lay_zs lu] at eD
    have pos : 1 ≤ sumP hs := by
      cases hs with
      | nil => simp at n1
      | cons h hs => rw [sumP_cons]; have : 0 < 2 ^ h := Nat.pow_pos (by decide); omega
    refine ⟨D, _, rfl, SqL.of eD, _, rfl, _, _, rfl, rfl, _, rfl, ?_⟩
    rw [sum_pows]
    have e : Builtin.Int.intBits ((sumP hs : Int) - 1) = clog (sumP hs) := by
      unfold Builtin.Int.intBits clog
      by_cases c : sumP hs ≤ 1
      · rw [if_pos c, if_pos (by simp; omega)]
      · rw [if_neg c, if_neg (by simp; omega), show ((sumP hs : Int) - 1).natAbs = sumP hs - 1 by omega]
    show Q (.int (Builtin.Int.intBits ((sumP hs : Int) - 1) : Nat)) H2
    rw [e]
    exact q _ s2
theorem ok_inv (F : Fun K "have_inverse" "have_inverse" s_have_inverse f fd) (T : Txt mg) : FnOk P w K mg base CX0 1 f fd ["literals"] (spInv K) := by
  refine F.ok sc_have_inverse (fun vs H Q E h => ?_) (fun cdv A outer s H vs Q E hr h => ?_)
  · obtain ⟨a, ls, rfl, _⟩ := h
    rfl
  obtain ⟨a, ls, rfl, ea, n2, asc, q⟩ := h
  refine ⟨_, (pss_one (ps_ret (pe_callB (cr_any rfl) (by rfl) T.n_any (by decide +kernel) (pa_cons (pe_lc (own := [("low", 1), ("high", 2)]) (g := (gTup K 2 (gCons (gName 1) (gCons (gName 2) gNil)))) (tt := tYes) rfl sc_have_inverse.nd (pi_zipX (by rfl) T.n_zip (pa_cons (pv 0) (pa_cons (pe_slice sl_list (pv 0) (po_some pe_int) po_none) pa_nil))) (blkOk_by (N := ["literals", "low", "high"]) (sc := defScope s_have_inverse) (by decide +kernel)) (fun _ _ _ _ _ => (pg_tup rfl (pgs_cons (pg_name (i := 1) sc_have_inverse.nd rfl (Or.inl rfl)) (pgs_cons (pg_name (i := 2) sc_have_inverse.nd rfl (Or.inl rfl)) pgs_nil)))) (fun _ _ _ _ _ => pts_nil) (fun _ _ _ _ _ => (pe_cmpR op_eq (pe_op op_xorB (pv 1) pe_int) (pv 2) (nomark _)))) pa_nil)))), ?_⟩
  refine ⟨_, rfl, _, rfl, 1, rfl, a, _, rfl, ea, fun A1 hA1 => ?_⟩
  have s1 := same_new hA1 (.lst (cutV (ls.map vI) (some 1) none))
  have e1 : L2.upd H A1 (.lst (cutV (ls.map vI) (some 1) none)) A1 = some (.lst ((ls.drop 1).map vI)) := by
    rw [upd_same, List.map_drop]
    exact congrArg (fun z => some (HO.lst z)) (cutV_from (ls.map vI) 1)
  have ea1 := seqL_same s1 ea
  generalize L2.upd H A1 (.lst (cutV (ls.map vI) (some 1) none)) = H1 at s1 e1 ea1 ⊢
  refine ⟨srcL, srcL, a, A1, _, _, rfl, ea1, SqL.of e1, fun D hD => ?_⟩
  have ll : ((ls.drop 1).map vI).length = ls.length - 1 := by rw [List.length_map, List.length_drop]
  refine lc_it (walk_zipMin srcL srcL (xs := ls.map vI) (ys := (ls.drop 1).map vI) (by rw [ll, List.length_map]; omega)) (fun i H'' => Same H1 H'' ∧ H'' D = some (.lst (((List.range i).map (besideB ls)).map V.bl))) ⟨same_new hD _, upd_same⟩ (fun i H'' _ pp => ⟨seqL_same pp.1 ea1, SqL.of (pp.1 _ _ e1)⟩) (fun i x H7 H8 hi pp y => ?_) (fun H7 pp => ?_)
  · obtain ⟨sm, eD⟩ := pp
    obtain ⟨T0, x1, x2, rfl, hT, rfl, f1, f2⟩ := y
    rw [ll] at hi
    obtain ⟨l1, h1, rfl⟩ := natAt (show (ls.map vI)[i]? = some x1 from f1)
    obtain ⟨l2, h2, rfl⟩ := natAt (show ((ls.drop 1).map vI)[i]? = some x2 from f2)
    have sT := same_new hT (.tup [vI l1, vI l2])
    rw [List.getElem?_drop] at h2
    refine ⟨T0, _, rfl, SqT.of upd_same, rfl, _, _, rfl, _, _, rfl, rfl, rfl, _, rfl, l1, 1, rfl, rfl, _, rfl, rfl, ?_⟩
    refine ⟨_, sT _ _ eD, by rw [List.length_map, List.length_map, List.length_range]; exact small1000 (by omega), same_two (sm.trans sT) hD, ?_⟩
    rw [upd_same, List.range_succ, List.map_append, List.map_append]
    have eb : besideB ls i = decide (vI (l1 ^^^ 1) = vI l2) := by
      unfold besideB
      rw [List.getD_eq_getElem?_getD, List.getD_eq_getElem?_getD, h1, Nat.add_comm i 1, h2]
      rfl
    show some (HO.lst (((List.range i).map (besideB ls)).map V.bl ++ [V.bl (decide (vI (l1 ^^^ 1) = vI l2))])) = some (HO.lst (((List.range i).map (besideB ls)).map V.bl ++ [V.bl (besideB ls i)]))
    rw [eb]
  · obtain ⟨sm, eD⟩ := pp
    rw [ll] at eD
    refine ⟨D, _, rfl, SqL.of eD, ?_⟩
    rw [beside_any asc]
    exact q _ (s1.trans sm)
end
end Bf

set_option Elab.async false
set_option linter.all false
set_option maxRecDepth 100000
set_option maxHeartbeats 4000000
namespace Bf
open PySem PySem.Spec PyProof.Rows L2
/-! ### the least heights -/
def optV : Option Nat → V
  | none => .non
  | some n => vI n
theorem leaf_ex {N : Net} (R : N.Right) : ∀ h : Nat, N.first ≤ h → h < N.size → ∃ m, Leaf N h m := by
  intro h
  induction h using Nat.strongRecOn with
  | ind h ih =>
    intro h1 h2
    obtain ⟨p, _, ep⟩ := pair_some h1 h2
    have hm : p.1 ∈ N.pair h := by rw [ep]; simp
    cases c : N.inn (p.1 / 2) with
    | false => exact ⟨p.1, c, p.1, hm, .here _⟩
    | true =>
      have hlt := pair_lt R h1 hm
      obtain ⟨i1, i2⟩ := inn_lt R c
      obtain ⟨m, q, l, hl, d⟩ := ih (p.1 / 2) (by omega) i1 i2
      exact ⟨m, q, p.1, hm, .down c hl d⟩
theorem leafL_pos {N : Net} (R : N.Right) {h : Nat} (h1 : N.first ≤ h) (h2 : h < N.size) : 1 ≤ (leafL N h).length := by
  obtain ⟨m, hm⟩ := leaf_ex R h h1 h2
  have := (mem_leafL R h1).mpr hm
  exact List.length_pos_of_mem this
theorem headV : ∀ (m : List (Nat × Addr)), (m.map (·.1)).Nodup → ∀ x : Nat, (∀ a, (x, a) ∈ m → valV (m.map headE) (Sum.inl (x : Int)) = some (.ref a)) ∧ (x ∉ m.map (·.1) → valV (m.map headE) (Sum.inl (x : Int)) = none)
  | [], _, x => ⟨fun a h => (by cases h), fun _ => valV_nil⟩
  | (y, b) :: m, nd, x => by
    rw [List.map_cons] at nd ⊢
    obtain ⟨n1, n2⟩ := List.nodup_cons.mp nd
    obtain ⟨h1, h2⟩ := headV m n2 x
    rw [List.map_cons]
    by_cases e : y = x
    · subst e
      have pk : (headE (y, b)).1 = (Sum.inl (y : Int) : Key) := rfl
      rw [valV_pos pk]
      refine ⟨fun a h => ?_, fun h => absurd (by simp) h⟩
      rcases List.mem_cons.mp h with k | k
      · cases k
        rfl
      · exact absurd (List.mem_map.mpr ⟨(y, a), k, rfl⟩) n1
    · have pk : ¬ (headE (y, b)).1 = (Sum.inl (x : Int) : Key) := fun k => e (by
        have : ((y : Nat) : Int) = (x : Int) := Sum.inl.inj k
        omega)
      rw [valV_neg pk]
      refine ⟨fun a h => h1 a ?_, fun h => h2 fun k => h (by simp [k])⟩
      rcases List.mem_cons.mp h with k | k
      · cases k
        exact absurd rfl e
      · exact k
theorem rep_lev (N : Net) : (List.replicate N.first 0).map vI = (levL N 0).map optV := by
  show _ = (List.replicate N.first (some 0)).map optV
  rw [List.map_replicate, List.map_replicate]
  rfl
def spHeadH (K : PySem.W.Frag) : Sp := fun vs H Q _ => ∃ (a b : Addr) (L : List (Option Nat)) (ls : List Nat), vs = [.ref a, .ref b] ∧ SqL K H a (L.map optV) ∧ SqL K H b (ls.map vI) ∧ 1 ≤ ls.length ∧ ls.length ≤ 1000 ∧ ls.Pairwise (· < ·) ∧ (∀ l ∈ ls, ∃ h, L[l / 2]? = some (some h) ∧ h ≤ 6000) ∧ ∀ H', Same H H' → Q (vI (headH L ls)) H'
def spLeastH : Sp := fun vs H Q _ => ∃ (v : V) (N : Net), vs = [v] ∧ Lay H v (netD N) ∧ N.Right ∧ N.size ≤ 500 ∧ N.regs.length ≤ 100 ∧ N.outs.length ≤ 100 ∧ N.cls.length ≤ 100 ∧ ∀ (t : Addr) (H' : Hp), Same H H' → H' t = some (.tup ((levL N N.ands.length).map optV)) → Q (.ref t) H'
section
variable {P : Program} {w : World} {K : PySem.W.Frag} {mg : Str → Option Value} {base : Heap} {f : Addr} {fd : FuncData}
theorem ok_headH (F : Fun K "head_height" "head_height" s_head_height f fd) (T : Txt mg) (D_tree_height : Dn P w K mg base "tree_height" ["heights"] 1 (spTreeH K)) (D_have_inverse : Dn P w K mg base "have_inverse" ["literals"] 1 (spInv K)) :
    FnOk P w K mg base CX0 2 f fd ["least", "leaves"] (spHeadH K) := by
  refine F.ok sc_head_height (fun vs H Q E h => ?_) (fun cdv A outer s H vs Q E hr h => ?_)
  · obtain ⟨a, b, L, ls, rfl, _⟩ := h
    rfl
  obtain ⟨a, b, L, ls, rfl, ea, eb, n1, n2, asc, hb, q⟩ := h
  refine ⟨_, (pss_cons (ps_if (pt_val (pe_dn D_have_inverse (hr.mono (by omega)) (by rfl) (pa_cons (pv 1) pa_nil))) (pss_one (ps_ret pe_int)) pss_nil)
      (pss_one (ps_ret (pe_dn D_tree_height (hr.mono (by omega)) (by rfl) (pa_cons (pe_lc (own := [("literal", 2)]) (g := (gName 2)) (tt := tYes) rfl sc_head_height.nd (pi_list (pv 1)) (blkOk_by (N := ["least", "leaves", "literal"]) (sc := defScope s_head_height) (by decide +kernel)) (fun _ _ _ _ _ => (pg_name (i := 2) sc_head_height.nd rfl (Or.inl rfl))) (fun _ _ _ _ _ => pts_nil) (fun _ _ _ _ _ => (pe_ix (ix_list : IxR _ (rIxL K)) (pv 0) (pe_op op_fdiv (pv 2) pe_int) (fun _ _ => rfl)))) pa_nil))))), ?_⟩
  refine ⟨_, rfl, b, ls, rfl, eb, n2, asc, fun H1 s1 => ⟨_, rfl, ?_⟩⟩
  unfold headH at q
  cases c : oppB ls with
  | true =>
    rw [if_pos c] at q
    exact iteT (q _ s1)
  | false =>
    rw [if_neg (by rw [c]; decide)] at q
    refine iteF ?_
    refine ⟨_, rfl, b, rfl, ⟨_, seqL_same s1 eb⟩, fun D hD => ?_⟩
    refine lc_rows (walk_list (xs := ls.map vI)) (rows := ls) (f := intD) (g := fun l => getH L (l / 2)) (h := intD) (fun H' sm => seqL_same sm (seqL_same s1 eb)) hD (LayAll.ints ls) n2 (fun i x l H' R Z hl sm lx k => ?_) (fun us H2 s2 eD lu => ?_)
    · obtain rfl := lx.int_inv
      obtain ⟨h, e, _⟩ := hb l (List.mem_of_getElem? hl)
      have e2 : ((l : Int) / 2) = ((l / 2 : Nat) : Int) := by omega
      exact ⟨rfl, _, rfl, _, rfl, _, _, rfl, rfl, ⟨by decide, by decide⟩, a, _, _, vI h, rfl, rfl, seqL_same sm (seqL_same s1 ea), by rw [e2]; exact atI_nat (by rw [List.getElem?_map, e]; rfl), k _ _ (.refl _) (by rw [getH_some e]; exact .int _)⟩
    · rw [lay_intD lu] at eD
      refine ⟨D, _, rfl, SqL.of eD, by rw [List.length_map]; exact n1, by rw [List.length_map]; exact n2, fun x hx => ?_, fun H3 s3 => q _ ((s1.trans s2).trans s3)⟩
      obtain ⟨l, hl, rfl⟩ := List.mem_map.mp hx
      obtain ⟨h, e, hh⟩ := hb l hl
      rw [getH_some e]
      exact hh
theorem ok_leastH (F : Fun K "least_heights" "least_heights" s_least_heights f fd) (T : Txt mg) (D_first_and : Dn P w K mg base "first_and" ["net"] 1 spFirst) (D_leaves_of_heads : Dn P w K mg base "leaves_of_heads" ["net"] 3 spHeads) (D_head_height : Dn P w K mg base "head_height" ["least", "leaves"] 2 (spHeadH K)) :
    FnOk P w K mg base CX0 4 f fd ["net"] spLeastH := by
  refine F.ok sc_least_heights (fun vs H Q E h => ?_) (fun cdv A outer s H vs Q E hr h => ?_)
  · obtain ⟨v, N, rfl, _⟩ := h
    rfl
  obtain ⟨v, N, rfl, lv, R, h500, r100, o100, c100, q⟩ := h
  refine ⟨_, (pss_cons (ps_set (i := 1) sc_least_heights.nd rfl (Or.inl rfl) (pe_dn D_leaves_of_heads (hr.mono (by omega)) (by rfl) (pa_cons (pv 0) pa_nil)))
      (pss_cons (ps_set (i := 2) sc_least_heights.nd rfl (Or.inl rfl) (pe_dn D_first_and (hr.mono (by omega)) (by rfl) (pa_cons (pv 0) pa_nil)))
      (pss_cons (ps_set (i := 3) sc_least_heights.nd rfl (Or.inl rfl) (pe_op op_rep (pe_lst (pa_cons pe_int pa_nil)) (pv 2)))
      (pss_cons (ps_for PassesOwn.never rfl (pi_range2 rfl T.n_range (pa_cons (pv 2) (pa_cons (pe_op op_add (pv 2) (pe_callB call_len_seq (by rfl) T.n_len (by decide +kernel) (pa_cons (pe_ix ix_tup (pv 0) pe_int (fun _ _ => rfl)) pa_nil))) pa_nil))) (pg_name (i := 4) sc_least_heights.nd rfl (Or.inl rfl)) (pss_one (ps_expr (pe_bm PySem.F.plainAttrs_list PySem.F.slot_list_append PySem.F.type_list_append mt_append (pv 3) (pa_cons (pe_ifExp (pt_cmp (pc_din (hu_of hr) (pv 4) (pv 1))) (pe_dn D_head_height (hr.mono (by omega)) (by rfl) (pa_cons (pv 3) (pa_cons (pe_dget (hu_of hr) (pv 1) (pv 4) (fun _ _ => rfl)) pa_nil))) pe_non) pa_nil)))))
      (pss_one (ps_ret (pe_callTy call_tuple_of (by rfl) T.n_tuple (by decide +kernel) (pa_cons (pv 3) pa_nil)))))))), ?_⟩
  refine ⟨_, rfl, v, N, rfl, lv, R, h500, r100, o100, c100, fun D m H1 s1 eD em hm => ?_⟩
  refine ⟨_, rfl, v, N, rfl, lv.keep' (.same s1), ?_⟩
  refine ⟨one_line, fun z0 hz0 => ?_⟩
  have s2 := s1.trans (same_new hz0 (.lst [V.int 0]))
  refine ⟨_, rfl, z0, _, [V.int 0], rfl, rfl, upd_same, by omega, by unfold Net.size at h500; omega, ?_, fun S hS => ?_⟩
  · rw [show ((N.first : Int)).toNat = N.first by omega]
    show 1 * _ ≤ _
    exact le1000 (by unfold Net.size at h500; omega)
  rw [show ((N.first : Int)).toNat = N.first by omega, flat_rep, rep_lev]
  have hS0 : H S = none := s2.free hS
  have s3 := same_put s2 hS0 (o := .lst ((levL N 0).map optV))
  have eD3 : L2.upd (L2.upd H1 z0 (.lst [V.int 0])) S (.lst ((levL N 0).map optV)) D = some (.dK (m.map headE)) := ((same_new hz0 (.lst [V.int 0])).trans (same_new hS _)) _ _ eD
  have hm3 : ∀ e ∈ m, L2.upd (L2.upd H1 z0 (.lst [V.int 0])) S (.lst ((levL N 0).map optV)) e.2 = some (.lst ((leafL N e.1).map vI)) := fun e he => ((same_new hz0 (.lst [V.int 0])).trans (same_new hS _)) _ _ (hm e he)
  have eS : L2.upd (L2.upd H1 z0 (.lst [V.int 0])) S (.lst ((levL N 0).map optV)) S = some (.lst ((levL N 0).map optV)) := upd_same
  have nSD : S ≠ D := fun k => by rw [k] at hS; rw [(same_new hz0 (.lst [V.int 0])) _ _ eD] at hS; cases hS
  have nSm : ∀ e ∈ m, e.2 ≠ S := fun e he k => by rw [← k] at hS; rw [(same_new hz0 (.lst [V.int 0])) _ _ (hm e he)] at hS; cases hS
  generalize L2.upd (L2.upd H1 z0 (.lst [V.int 0])) S (.lst ((levL N 0).map optV)) = H3 at s3 eD3 hm3 eS ⊢
  obtain ⟨p, pi, pr, pa, po, pc, vr, va, vo, vc, rfl, hN⟩ := lv.net
  have hl := hN.lens
  have ndm : (m.map (·.1)).Nodup := by
    rw [em]
    exact ((List.nodup_range).map (N.first + ·) (fun a b h => by omega)).filter _
  refine ⟨_, rfl, _, rfl, _, rfl, p, _, _, _, rfl, rfl, SqT.of (s3 _ _ hN.top), atI_nat (j := 3) rfl, pa, _, rfl, .inr (SqT.of (s3 _ _ hN.ha)), _, _, rfl, rfl, (N.first : Int), (N.first : Int) + (va.length : Int), rfl, by unfold Net.size at h500; omega, ?_⟩
  rw [show ((N.first : Int) + (va.length : Int) - (N.first : Int)).toNat = N.ands.length by omega]
  refine for_it walk_range (fun i σ' H' => ∃ v4, σ' = [some (.ref p), some (.ref D), some (vI N.first), some (.ref S), v4] ∧ Same H H' ∧ H' D = some (.dK (m.map headE)) ∧ (∀ e ∈ m, H' e.2 = some (.lst ((leafL N e.1).map vI))) ∧ H' S = some (.lst ((levL N i).map optV)))
    ⟨_, rfl, s3, eD3, hm3, eS⟩ (fun _ _ _ _ _ => trivial) (fun i x σ' H4 H5 hi pp y => ?_) (fun σ' H4 pp => ?_)
  · obtain ⟨v4, rfl, sm, eD4, hm4, eS4⟩ := pp
    obtain ⟨rfl, rfl⟩ := y
    have ll := levL_len N i
    have e2 : ((N.first : Int) + (i : Int)) = ((N.first + i : Nat) : Int) := by omega
    have gD : DGet H5 D (V.int ((N.first : Int) + (i : Int))) (valV (m.map headE) (Sum.inl ((N.first + i : Nat) : Int))) := by
      rw [e2]
      exact DGet.k (k := Sum.inl ((N.first + i : Nat) : Int)) eD4
    have hx : N.first + i < N.size := by unfold Net.size; omega
    refine ⟨_, rfl, .inl ⟨rfl, _, SqL.of eS4⟩, _, rfl, _, rfl, D, _, rfl, gD, _, rfl, ?_⟩
    have hv := headV m ndm (N.first + i)
    have nx : ∀ (hh : Option Nat) (H6 : Hp), hh = levAt N (levL N i) (N.first + i) → Same H5 H6 → ∃ (v4' : Option V), [some (V.ref p), some (.ref D), some (vI N.first), some (.ref S), some (V.int ((N.first : Int) + (i : Int)))] = [some (.ref p), some (.ref D), some (vI N.first), some (.ref S), v4'] ∧ Same H (L2.upd H6 S (.lst ((levL N i).map optV ++ [optV hh]))) ∧ L2.upd H6 S (.lst ((levL N i).map optV ++ [optV hh])) D = some (.dK (m.map headE)) ∧ (∀ e ∈ m, L2.upd H6 S (.lst ((levL N i).map optV ++ [optV hh])) e.2 = some (.lst ((leafL N e.1).map vI))) ∧ L2.upd H6 S (.lst ((levL N i).map optV ++ [optV hh])) S = some (.lst ((levL N (i + 1)).map optV)) := by
      rintro hh H6 rfl s6
      refine ⟨_, rfl, same_put (sm.trans s6) hS0, (upd_ne nSD.symm).trans (s6 _ _ eD4), fun e he => (upd_ne (nSm e he)).trans (s6 _ _ (hm4 e he)), ?_⟩
      rw [upd_same]
      show _ = some (HO.lst ((levL N i ++ [levAt N (levL N i) (N.first + i)]).map optV))
      rw [List.map_append]
      rfl
    have lb : ((levL N i).map optV).length < sizeLine := by rw [List.length_map, ll]; exact small1000 (by unfold Net.size at h500; omega)
    cases c : N.inn (N.first + i) with
    | true =>
      have : N.first + i ∉ m.map (·.1) := by
        rw [em]
        intro k
        have := (List.mem_filter.mp k).2
        rw [c] at this
        cases this
      rw [hv.2 this]
      refine iteF ⟨S, _, _, rfl, rfl, eS4, lb, ?_⟩
      exact nx none H5 (by unfold levAt; rw [if_pos c]) (.refl _)
    | false =>
      have : N.first + i ∈ m.map (·.1) := by
        rw [em]
        exact List.mem_filter.mpr ⟨List.mem_map.mpr ⟨i, List.mem_range.mpr hi, rfl⟩, by rw [c]; rfl⟩
      obtain ⟨⟨x1, ad⟩, he, ex⟩ := List.mem_map.mp this
      have ex : x1 = N.first + i := ex
      subst ex
      have gv := hv.1 ad he
      rw [gv] at gD ⊢
      refine iteT ⟨_, rfl, _, rfl, _, rfl, D, _, rfl, gD, S, ad, levL N i, leafL N (N.first + i), rfl, SqL.of eS4, SqL.of (hm4 _ he), leafL_pos R (Nat.le_add_right _ _) hx, Nat.le_trans (leafL_len N _) (by omega), leafL_asc N _, fun l hl => ?_, fun H6 s6 => ?_⟩
      · have lf := (mem_leafL R (Nat.le_add_right _ _)).mp hl
        have lt := lf.lt R (Nat.le_add_right _ _)
        obtain ⟨y, ey⟩ := levL_some N (k := l / 2) (i := i) (by omega) lf.1
        have := levL_le (N := N) (by omega) i (by omega) _ _ ey
        exact ⟨y, ey, by unfold Net.size at h500; omega⟩
      · refine ⟨S, _, _, rfl, rfl, s6 _ _ eS4, lb, ?_⟩
        exact nx (some (headH (levL N i) (leafL N (N.first + i)))) H6 (by unfold levAt; rw [if_neg (by rw [c]; decide)]) s6
  · obtain ⟨v4, rfl, sm, eD4, hm4, eS4⟩ := pp
    exact ⟨_, rfl, S, _, rfl, .inl ⟨SqL.of eS4, fun l hl => q l _ (sm.trans (same_new hl _)) upd_same⟩⟩
end
end Bf

set_option Elab.async false
set_option linter.all false
set_option maxRecDepth 100000
set_option maxHeartbeats 4000000
namespace Bf
open PySem PySem.Spec PyProof.Rows L2
/-! ### data in lists: stored, cut -/
theorem layAt {H : Hp} {v : V} {d : PyData} (l : Lay H v d) : ∀ (ds : List PyData) (vs : List V) (i : Nat), LayAll H vs ds → LayAll H (vs.set i v) (ds.set i d)
  | [], vs, i, h => by
    obtain rfl := h.nil_inv
    exact h
  | e :: ds, vs, i, h => by
    obtain ⟨u, us, rfl, l0, l1⟩ := h.cons_inv
    cases i with
    | zero => exact .cons l l1
    | succ i => exact .cons l0 (layAt l ds us i l1)
theorem layTake {H : Hp} : ∀ (ds : List PyData) (vs : List V) (n : Nat), LayAll H vs ds → LayAll H (vs.take n) (ds.take n)
  | _, _, 0, _ => by rw [List.take_zero, List.take_zero]; exact .nil
  | [], vs, n + 1, h => by
    obtain rfl := h.nil_inv
    rw [List.take_nil, List.take_nil]
    exact .nil
  | e :: ds, vs, n + 1, h => by
    obtain ⟨u, us, rfl, l0, l1⟩ := h.cons_inv
    rw [List.take_succ_cons, List.take_succ_cons]
    exact .cons l0 (layTake ds us n l1)
theorem layDrop {H : Hp} : ∀ (ds : List PyData) (vs : List V) (n : Nat), LayAll H vs ds → LayAll H (vs.drop n) (ds.drop n)
  | _, _, 0, h => h
  | [], vs, n + 1, h => by
    obtain rfl := h.nil_inv
    rw [List.drop_nil, List.drop_nil]
    exact .nil
  | e :: ds, vs, n + 1, h => by
    obtain ⟨u, us, rfl, l0, l1⟩ := h.cons_inv
    rw [List.drop_succ_cons, List.drop_succ_cons]
    exact layDrop ds us n l1
theorem rdCatN {K : PySem.W.Frag} {H : Hp} {a b : Addr} {xs ys : List V} {Q : VK} (ha : SqT K H a xs) (hb : SqT K H b ys) (hl : xs.length + ys.length ≤ 1000) (nx : xs ≠ []) (ny : ys ≠ []) (k : ∀ p : Addr, H p = none → Q (.ref p) (upd H p (.tup (xs ++ ys)))) : rCatA K (.ref a) (.ref b) H Q :=
  ⟨a, b, xs, ys, rfl, rfl, ha, hb, le1000 hl, fun e => absurd e nx, fun _ e => absurd e ny, fun _ _ p hp => k p hp⟩
theorem map_erase {α β : Type} (f : α → β) : ∀ (l : List α) (i : Nat), (l.map f).eraseIdx i = (l.eraseIdx i).map f
  | [], _ => rfl
  | _ :: _, 0 => rfl
  | a :: l, i + 1 => by
    show f a :: (l.map f).eraseIdx i = f a :: (l.eraseIdx i).map f
    rw [map_erase f l i]
/-- sorted of data of one kind -/
theorem rdSortD {K : PySem.W.Frag} {H : Hp} {a : Addr} {vs : List V} {β : Type} {bs : List β} {enc : β → PyData} {Q : VK} (h : SqL K H a vs) (l : LayAll H vs (bs.map enc)) (al : ∀ b b', PySem.W.alike (enc b) (enc b') = true) (so : ∀ b, ∃ x r, enc b = .tuple (x :: r)) (de : ∀ b, (enc b).depth ≤ 32)
    (k : ∀ (cs : List β) (us : List V) (p : Addr), cs.Perm bs → LayAll (upd H p (.lst us)) us (cs.map enc) → H p = none → Q (.ref p) (upd H p (.lst us))) : rSortedD K [.ref a] H Q :=
  ⟨β, a, vs, bs, enc, rfl, h, l, PySem.W.AllAlike.of al, PySem.W.Sortable.tuples so, fun b _ => de b, fun us p lu hp => k _ us p (sortD_perm enc bs) (lu.keep' (.same (same_two (.refl _) hp))) hp⟩
theorem alike_zs : ∀ xs ys : List Int, PySem.W.alikeAll (xs.map zD) (ys.map zD) = true
  | [], _ => by simp [PySem.W.alikeAll]
  | _ :: _, [] => by simp [PySem.W.alikeAll]
  | x :: xs, y :: ys => by
    rw [List.map_cons, List.map_cons, PySem.W.alikeAll, alike_zs xs ys]
    simp [PySem.W.alike, zD]
end Bf

set_option Elab.async false
set_option linter.all false
set_option maxRecDepth 100000
set_option maxHeartbeats 4000000
namespace Bf
open PySem PySem.Spec PyProof.Rows L2
/-! ### nets to balance, drawn -/
theorem atI0 {xs : List V} {k : Nat} {v : V} (h : xs[k]? = some v) : atI xs (0 + (k : Int)) = some v := by
  rw [Int.zero_add]
  exact atI_nat h
theorem two_line : 2 ≤ sizeLine := by rw [sizeLine_eq]; decide
def spWorld : Sp := fun vs H Q _ => ∃ (d c : Addr), vs = [.ref d] ∧ DS H d c ∧ ∀ (v : V) (N : Net) (H' : Hp), Lay H' v (netD N) → N.Right → N.size ≤ 50 → N.ands.length ≤ 31 → N.regs.length ≤ 100 → N.outs.length ≤ 100 → N.cls.length ≤ 100 → DS H' d c → Keep [d] H H' → Q v H'
section
variable {P : Program} {w : World} {K : PySem.W.Frag} {mg : Str → Option Value} {base : Heap} {f : Addr} {fd : FuncData}
theorem ok_world (F : Fun K "_law_world" "_law_world" s_law_world f fd) (T : Txt mg) (D_law_draw : Dn P w K mg base "_law_draw" ["_law_d", "_law_many"] 1 spDraw) (D_law_rare : Dn P w K mg base "_law_rare" ["_law_d", "_law_many"] 2 spRare) (D_law_net : Dn P w K mg base "_law_net" ["_law_d", "_law_inputs", "_law_regs", "_law_ands", "_law_outputs", "_law_claims"] 3 spNet) (D_law_tidied : Dn P w K mg base "_law_tidied" ["_law_net_here"] 3 spTidied) :
    FnOk P w K mg base CX0 4 f fd ["_law_d"] spWorld := by
  refine F.ok sc_law_world (fun vs H Q E h => ?_) (fun cdv A outer s H vs Q E hr h => ?_)
  · obtain ⟨d, c, rfl, _⟩ := h
    rfl
  obtain ⟨d, c, rfl, hd, q⟩ := h
  refine ⟨_, (pss_cons (ps_par3 (i := 1) (j := 2) (l := 3) (by rfl) sc_law_world.nd rfl rfl rfl (by decide) (by decide) (by decide) rfl rfl rfl (pa_cons (pe_op op_add pe_int (pe_dn D_law_draw (hr.mono (by omega)) (by rfl) (pa_cons (pv 0) (pa_cons pe_int pa_nil)))) (pa_cons (pe_dn D_law_draw (hr.mono (by omega)) (by rfl) (pa_cons (pv 0) (pa_cons pe_int pa_nil))) (pa_cons (pe_op op_add pe_int (pe_dn D_law_draw (hr.mono (by omega)) (by rfl) (pa_cons (pv 0) (pa_cons pe_int pa_nil)))) pa_nil))) (by rfl))
      (C8.pss_cut (ps_if (pt_val (pe_dn D_law_rare (hr.mono (by omega)) (by rfl) (pa_cons (pv 0) (pa_cons pe_int pa_nil)))) (pss_one (ps_set (i := 3) sc_law_world.nd rfl (Or.inl rfl) (pe_op op_add (pv 3) pe_int))) pss_nil)
      (pss_cons (ps_set (i := 4) sc_law_world.nd rfl (Or.inl rfl) (pe_dn D_law_net (hr.mono (by omega)) (by rfl) (pa_cons (pv 0) (pa_cons (pv 1) (pa_cons (pv 2) (pa_cons (pv 3) (pa_cons (pe_op op_add pe_int (pe_dn D_law_draw (hr.mono (by omega)) (by rfl) (pa_cons (pv 0) (pa_cons pe_int pa_nil)))) (pa_cons (pe_dn D_law_draw (hr.mono (by omega)) (by rfl) (pa_cons (pv 0) (pa_cons pe_int pa_nil))) pa_nil))))))))
      (pss_cons (ps_set (i := 5) sc_law_world.nd rfl (Or.inl rfl) (pe_op op_add (pe_op op_add pe_int (pv 1)) (pv 2)))
      (pss_cons (ps_set (i := 6) sc_law_world.nd rfl (Or.inl rfl) (pe_lst pa_nil))
      (pss_cons (ps_for PassesOwn.never rfl (pi_range1 rfl T.n_range (pa_cons (pv 3) pa_nil)) (pg_name (i := 7) sc_law_world.nd rfl (Or.inl rfl)) (pss_cons (ps_asg (pe_ix ix_tup (pe_ix ix_tup (pv 4) pe_int (fun _ _ => rfl)) (pv 7) (fun _ _ => rfl)) (pg_tup rfl (pgs_cons (pg_name (i := 8) sc_law_world.nd rfl (Or.inl rfl)) (pgs_cons (pg_name (i := 9) sc_law_world.nd rfl (Or.inl rfl)) pgs_nil))))
      (pss_cons (ps_set (i := 10) sc_law_world.nd rfl (Or.inl rfl) (pe_dn D_law_draw (hr.mono (by omega)) (by rfl) (pa_cons (pv 0) (pa_cons pe_int pa_nil))))
      (C8.pss_cut (ps_if (PW.pt (pw_and (pt_cmpR op_gt (pv 10) pe_int (nomark _)) (pw_and1 (pt_cmpR op_gt (pv 7) pe_int (nomark _))))) (pss_one (ps_set (i := 8) sc_law_world.nd rfl (Or.inl rfl) (pe_op op_add (pe_op op_mul pe_int (pe_op op_sub (pe_op op_add (pv 5) (pv 7)) pe_int)) (pe_callTy call_int1 (by rfl) T.n_int (by decide +kernel) (pa_cons (pe_cmpR op_eq (pv 10) pe_int (nomark _)) pa_nil))))) pss_nil)
      (C8.pss_cut (ps_if (pt_cmpR op_in_seq (pv 10) (pe_tup (pa_cons pe_int (pa_cons pe_int (pa_cons pe_int (pa_cons pe_int pa_nil))))) (by rfl)) (pss_one (ps_set (i := 9) sc_law_world.nd rfl (Or.inl rfl) (pe_op op_add pe_int (pe_dn D_law_draw (hr.mono (by omega)) (by rfl) (pa_cons (pv 0) (pa_cons (pe_op op_sub (pe_op op_mul pe_int (pv 5)) pe_int) pa_nil)))))) pss_nil)
      (pss_one (ps_expr (pe_bm PySem.F.plainAttrs_list PySem.F.slot_list_append PySem.F.type_list_append mt_append (pv 6) (pa_cons (pe_tup (pa_cons (pv 8) (pa_cons (pv 9) pa_nil))) pa_nil)))))))))
      (pss_cons (ps_set (i := 11) sc_law_world.nd rfl (Or.inl rfl) (pe_callTy call_list_of (by rfl) T.n_list (by decide +kernel) (pa_cons (pe_ix ix_tup (pv 4) pe_int (fun _ _ => rfl)) pa_nil)))
      (pss_cons (ps_asg (pe_tup (pa_cons (pe_ix ix_tup (pe_ix ix_list (pv 11) pe_int (fun _ _ => rfl)) pe_int (fun _ _ => rfl)) (pa_cons (pe_op op_add (pe_op op_mul pe_int (pe_op op_sub (pe_op op_add (pv 5) (pv 3)) pe_int)) (pe_dn D_law_draw (hr.mono (by omega)) (by rfl) (pa_cons (pv 0) (pa_cons pe_int pa_nil)))) pa_nil))) (pg_sub (pv 11) pe_int set_list))
      (pss_one (ps_ret (pe_dn D_law_tidied (hr.mono (by omega)) (by rfl) (pa_cons (pe_tup (pa_cons pe_str (pa_cons (pe_ix ix_tup (pv 4) pe_int (fun _ _ => rfl)) (pa_cons (pe_ix ix_tup (pv 4) pe_int (fun _ _ => rfl)) (pa_cons (pe_callTy call_tuple_of (by rfl) T.n_tuple (by decide +kernel) (pa_cons (pv 6) pa_nil)) (pa_cons (pe_callTy call_tuple_of (by rfl) T.n_tuple (by decide +kernel) (pa_cons (pv 11) pa_nil)) (pa_cons (pe_ix ix_tup (pv 4) pe_int (fun _ _ => rfl)) pa_nil))))))) pa_nil)))))))))))), ?_⟩
  refine ⟨_, rfl, d, c, 3, rfl, hd, by decide, by decide, fun u1 H1 r0 r1 hd1 k1 => ?_⟩
  obtain ⟨u1, rfl⟩ := Int.eq_ofNat_of_zero_le r0
  refine ⟨_, _, rfl, rfl, _, rfl, d, c, 3, rfl, hd1, by decide, by decide, fun u2 H2 r0 r2 hd2 k2 => ?_⟩
  obtain ⟨u2, rfl⟩ := Int.eq_ofNat_of_zero_le r0
  refine ⟨_, rfl, d, c, 12, rfl, hd2, by decide, by decide, fun u3 H3 r0 r3 hd3 k3 => ?_⟩
  obtain ⟨u3, rfl⟩ := Int.eq_ofNat_of_zero_le r0
  refine ⟨_, _, rfl, rfl, _, _, _, rfl, ?_⟩
  have kk3 := (k1.trans k2).trans k3
  refine ⟨fun σ' H' => ∃ m : Nat, 1 ≤ m ∧ m ≤ 26 ∧ σ' = [some (.ref d), some (vI (2 + u1)), some (vI u2), some (vI m), none, none, none, none, none, none, none, none] ∧ DS H' d c ∧ Keep [d] H H', ?_, fun σ4 H4 p4 => ?_⟩
  · refine ⟨_, rfl, d, c, 9, rfl, hd3, by decide, by decide, fun b H4 hd4 k4 => ⟨b, rfl, ?_⟩⟩
    cases b
    · exact ⟨1 + u3, by omega, by omega, by
        show [some (V.ref d), some (.int (2 + (u1 : Int))), some (.int (u2 : Int)), some (.int (1 + (u3 : Int))), none, none, none, none, none, none, none, none] = _
        rw [show V.int (2 + (u1 : Int)) = vI (2 + u1) from congrArg V.int (by omega), show V.int (1 + (u3 : Int)) = vI (1 + u3) from congrArg V.int (by omega)]
        rfl, hd4, kk3.trans k4⟩
    · refine ⟨_, rfl, _, _, rfl, rfl, 1 + u3 + 14, by omega, by omega, ?_, hd4, kk3.trans k4⟩
      show [some (V.ref d), some (.int (2 + (u1 : Int))), some (.int (u2 : Int)), some (.int (1 + (u3 : Int) + 14)), none, none, none, none, none, none, none, none] = _
      rw [show V.int (2 + (u1 : Int)) = vI (2 + u1) from congrArg V.int (by omega), show V.int (1 + (u3 : Int) + 14) = vI (1 + u3 + 14) from congrArg V.int (by omega)]
      rfl
  obtain ⟨m, m1, m26, rfl, hd4, k4⟩ := p4
  refine ⟨_, rfl, _, rfl, _, rfl, _, rfl, _, rfl, d, c, 2, rfl, hd4, by decide, by decide, fun u4 H5 r0 r4 hd5 k5 => ?_⟩
  obtain ⟨u4, rfl⟩ := Int.eq_ofNat_of_zero_le r0
  refine ⟨_, _, rfl, rfl, _, rfl, d, c, 2, rfl, hd5, by decide, by decide, fun u5 H6 r0 r5 hd6 k6 => ?_⟩
  obtain ⟨u5, rfl⟩ := Int.eq_ofNat_of_zero_le r0
  refine ⟨d, c, 2 + u1, u2, m, 1 + u4, u5, ?_, hd6, by omega, by omega, fun v N H7 lv R g1 g2 g3 g4 g5 hd7 k7 => ?_⟩
  · dsimp only
    rw [show V.int (1 + (u4 : Int)) = vI (1 + u4) from congrArg V.int (by omega)]
    rfl
  have kk7 := ((k4.trans k5).trans k6).trans k7
  refine ⟨_, rfl, _, _, rfl, rfl, _, rfl, _, _, rfl, rfl, ?_⟩
  obtain ⟨fI, hfI⟩ : ∃ z : Int, z = 1 + ((2 + u1 : Nat) : Int) + (u2 : Int) := ⟨_, rfl⟩
  have hf : fI = (N.first : Int) := by unfold Net.first; omega
  obtain ⟨p, pi, pr, pa, po, pc, vr, va, vo, vc, rfl, hN⟩ := lv.net
  have hl := hN.lens
  refine ⟨Nat.zero_le _, fun P6 hP => ?_⟩
  have nPd := hd7.new hP
  have sP := same_new hP (.lst [])
  have kP : Keep [d] H (L2.upd H7 P6 (.lst [])) := kk7.trans (.of_same sP)
  have eP : L2.upd H7 P6 (.lst []) P6 = some (.lst []) := upd_same
  have hd8 := hd7.same sP
  have hN8 := hN.keep (.same sP)
  generalize L2.upd H7 P6 (.lst []) = H8 at kP eP hd8 hN8 ⊢
  refine ⟨_, rfl, m, rfl, (i62 (by omega)).1, (i62 (by omega)).2, for_it walk_range (fun k σ' H' => ∃ v7 v8 v9 v10, σ' = [some (.ref d), some (vI (2 + u1)), some (vI u2), some (vI m), some (.ref p), some (.int fI), some (.ref P6), v7, v8, v9, v10, none] ∧ DS H' d c ∧ Keep [d] H H' ∧ KeepT H8 H' ∧ ∃ (vs : List V) (ps : List (Nat × Nat)), H' P6 = some (.lst vs) ∧ LayAll H' vs (ps.map pairD) ∧ PairsOk N.first ps ∧ ps.length = k)
    ⟨_, _, _, _, by rw [hfI]; rfl, hd8, kP, .refl _, [], [], eP, .nil, fun i p h => by simp at h, rfl⟩ (fun _ _ _ _ _ => trivial) (fun k x σ' H9 H10 hk pp y => ?_) (fun σ' H9 pp => ?_)⟩
  · obtain ⟨v7, v8, v9, v10, rfl, hd9, k9, kt9, vs, ps, eP9, lP9, ok, lk⟩ := pp
    obtain ⟨rfl, rfl⟩ := y
    have hN9 := hN8.keep kt9
    obtain ⟨x0, hx0⟩ : ∃ x, va[k]? = some x := ⟨_, List.getElem?_eq_getElem (by omega)⟩
    obtain ⟨q0, pr0, rfl, hpr, eq0⟩ := hN9.and_ hx0
    have hpl := R.ands k pr0 hpr
    refine ⟨_, rfl, p, _, _, _, rfl, rfl, SqT.of hN9.top, atI_nat (j := 3) rfl, _, rfl, pa, _, _, _, rfl, rfl, SqT.of hN9.ha, atI0 hx0, q0, _, rfl, SqT.of eq0, rfl, _, _, rfl, _, _, rfl, rfl, ?_⟩
    refine ⟨_, rfl, d, c, 8, rfl, hd9, by decide, by decide, fun u6 H11 r0 r6 hd11 k11 => ?_⟩
    obtain ⟨u6, rfl⟩ := Int.eq_ofNat_of_zero_le r0
    refine ⟨fun σ' H' => ∃ l : Nat, l < 2 * (N.first + k) ∧ σ' = [some (.ref d), some (vI (2 + u1)), some (vI u2), some (vI m), some (.ref p), some (.int fI), some (.ref P6), some (.int (0 + (k : Int))), some (vI l), some (vI pr0.2), some (vI u6), none] ∧ H' = H11, ?_, fun σ12 H12 p12 => ?_⟩
    · have no : ∃ l : Nat, l < 2 * (N.first + k) ∧ [some (.ref d), some (vI (2 + u1)), some (vI u2), some (vI m), some (.ref p), some (.int fI), some (.ref P6), some (.int (0 + (k : Int))), some (vI pr0.1), some (vI pr0.2), some (vI u6), none] = [some (.ref d), some (vI (2 + u1)), some (vI u2), some (vI m), some (.ref p), some (.int fI), some (.ref P6), some (.int (0 + (k : Int))), some (vI l), some (vI pr0.2), some (vI u6), none] ∧ H11 = H11 := ⟨_, hpl.1, rfl, rfl⟩
      refine ⟨_, rfl, _, _, rfl, rfl, _, rfl, ite2 (fun h => ⟨_, rfl, _, _, rfl, rfl, _, rfl, ite2 (fun h0 => ?_) (fun h0 => no)⟩) (fun h => no)⟩
      have hk0 : 0 < k := by
        have : (0 : Int) < 0 + (k : Int) := of_decide_eq_true h0
        omega
      have key : ∀ bb : Bool, ∃ l : Nat, l < 2 * (N.first + k) ∧ V.int (2 * (fI + (0 + (k : Int)) - 1) + (if bb = true then 1 else 0)) = vI l := fun bb => by
        cases bb
        · exact ⟨2 * (N.first + k - 1), by omega, congrArg V.int (by rw [if_neg (by decide)]; omega)⟩
        · exact ⟨2 * (N.first + k - 1) + 1, by omega, congrArg V.int (by rw [if_pos rfl]; omega)⟩
      refine ⟨_, rfl, _, rfl, _, _, rfl, rfl, _, _, rfl, rfl, _, _, rfl, rfl, .inl ⟨by decide, by decide⟩, _, rfl, rfl, .inr ⟨_, rfl, _, _, rfl, rfl, ?_⟩⟩
      exact ⟨_, (key _).choose_spec.1, congrArg (fun z => [some (.ref d), some (vI (2 + u1)), some (vI u2), some (vI m), some (.ref p), some (.int fI), some (.ref P6), some (.int (0 + (k : Int))), some z, some (vI pr0.2), some (vI u6), none]) (key _).choose_spec.2, rfl⟩
    obtain ⟨l, hll, rfl, rfl⟩ := p12
    refine ⟨fun σ' H' => ∃ r : Nat, r < 2 * (N.first + k) ∧ σ' = [some (.ref d), some (vI (2 + u1)), some (vI u2), some (vI m), some (.ref p), some (.int fI), some (.ref P6), some (.int (0 + (k : Int))), some (vI l), some (vI r), some (vI u6), none] ∧ DS H' d c ∧ Keep [d] H H' ∧ KeepT H8 H' ∧ H' P6 = some (.lst vs) ∧ LayAll H' vs (ps.map pairD), ?_, fun σ13 H13 p13 => ?_⟩
    · have kt11 := k11.tup1 hd9
      have nP9 : P6 ≠ d := nPd.1
      have eP11 := k11 _ _ (by simpa using nP9) eP9
      refine ⟨_, rfl, (by show 4 ≤ sizeLine; rw [sizeLine_eq]; decide), fun tt ntt => ⟨tt, _, rfl, .inr (SqT.of upd_same), rfl, rfl, _, rfl, ?_⟩⟩
      have st := same_new ntt (.tup [V.int 2, .int 3, .int 5, .int 6])
      have hdt := hd11.same st
      have kt := (k9.trans k11).trans (.of_same st)
      have ktt := (kt9.trans kt11).trans (.same st)
      have ePt := st _ _ eP11
      have lPt := (lP9.keep' kt11).keep' (.same st)
      generalize L2.upd H12 tt (.tup [V.int 2, .int 3, .int 5, .int 6]) = H12' at hdt kt ktt ePt lPt ⊢
      refine ite2 (fun h => ?_) (fun h => ⟨_, hpl.2, rfl, hdt, kt, ktt, ePt, lPt⟩)
      have f3 : 3 ≤ N.first := by unfold Net.first; omega
      refine ⟨_, rfl, _, rfl, _, _, rfl, rfl, .inl ⟨by decide, by decide⟩, _, _, rfl, rfl, d, c, _, rfl, hdt, by omega, by rw [hf]; unfold Net.first; omega, fun u7 H13 r0 r7 hd13 k13 => ?_⟩
      obtain ⟨u7, rfl⟩ := Int.eq_ofNat_of_zero_le r0
      refine ⟨_, _, rfl, rfl, 2 + u7, by omega, ?_, hd13, kt.trans k13, ktt.trans (k13.tup1 hdt), k13 _ _ (by simpa using nP9) ePt, lPt.keep' (k13.tup1 hdt)⟩
      exact congrArg (fun z => [some (.ref d), some (vI (2 + u1)), some (vI u2), some (vI m), some (.ref p), some (.int fI), some (.ref P6), some (.int (0 + (k : Int))), some (vI l), some z, some (vI u6), none]) (show V.int (2 + (u7 : Int)) = vI (2 + u7) from congrArg V.int (by omega))
    obtain ⟨r, hrr, rfl, hd13, k13, kt13, eP13, lP13⟩ := p13
    refine ⟨_, rfl, .inl ⟨rfl, _, SqL.of eP13⟩, _, rfl, _, rfl, two_line, fun tq ntq => ?_⟩
    have sq := same_new ntq (.tup [vI l, vI r])
    have eq2 : L2.upd H13 tq (.tup [vI l, vI r]) tq = some (.tup [vI l, vI r]) := upd_same
    have ePq := sq _ _ eP13
    have lPq := lP13.keep' (.same sq)
    have kq := k13.trans (.of_same sq)
    have ktq := kt13.trans (.same sq)
    have hdq := hd13.same sq
    generalize L2.upd H13 tq (.tup [vI l, vI r]) = H14 at eq2 ePq lPq kq ktq hdq ⊢
    have lvs := lPq.len
    rw [List.length_map] at lvs
    have k2 : Keep [P6] H14 (L2.upd H14 P6 (.lst (vs ++ [.ref tq]))) := .at1
    refine ⟨P6, _, _, rfl, rfl, ePq, small1000 (by omega), _, _, _, _, rfl, hdq.keep k2 (by simpa using nPd.1.symm) (by simpa using nPd.2.symm), ?_, ktq.trans (.lst ePq), vs ++ [.ref tq], ps ++ [(l, r)], upd_same, ?_, ok.snoc (by rw [lk]; exact hll) (by rw [lk]; exact hrr), by rw [List.length_append, lk]; rfl⟩
    · intro b o nb eb
      have : H7 P6 = none := hP
      rw [upd_ne (fun e : b = P6 => by rw [e] at eb; have := kk7 _ _ (by simpa using nPd.1) eb; rw [hP] at this; cases this)]
      exact kq b o nb eb
    · rw [List.map_append]
      exact (lPq.snoc (.mkPair eq2)).keep' (.lst ePq)
  · obtain ⟨v7, v8, v9, v10, rfl, hd9, k9, kt9, vs, ps, eP9, lP9, ok, lk⟩ := pp
    have hN9 := hN8.keep kt9
    refine ⟨_, rfl, p, _, _, _, rfl, rfl, SqT.of hN9.top, atI_nat (j := 4) rfl, po, _, rfl, .inr (SqT.of hN9.ho), fun Sh hSh => ?_⟩
    have nShd := hd9.new hSh
    have sS := same_new hSh (.lst vo)
    have eS : L2.upd H9 Sh (.lst vo) Sh = some (.lst vo) := upd_same
    have hN10 := hN9.keep (.same sS)
    have ePS := sS _ _ eP9
    have lPS := lP9.keep' (.same sS)
    have kS := k9.trans (.of_same sS)
    have hdS := hd9.same sS
    have nPS : P6 ≠ Sh := fun k => by rw [k, hSh] at eP9; cases eP9
    generalize L2.upd H9 Sh (.lst vo) = H10 at eS hN10 ePS lPS kS hdS ⊢
    obtain ⟨x0, hx0⟩ : ∃ x, vo[0]? = some x := ⟨_, List.getElem?_eq_getElem (by omega)⟩
    obtain ⟨o0, ho0, l0⟩ : ∃ o, N.outs[0]? = some o ∧ Lay H10 x0 (namD o) := by
      obtain ⟨dd, hdd, lx⟩ := hN10.lo.get 0 hx0
      obtain ⟨o, ho, rfl⟩ := mapAtD hdd
      exact ⟨o, ho, lx⟩
    obtain ⟨q0, rfl, eq0⟩ := l0.nam
    refine ⟨_, rfl, Sh, _, _, _, rfl, rfl, SqL.of eS, atI_nat (j := 0) hx0, q0, _, _, _, rfl, rfl, SqT.of eq0, atI_nat (j := 0) rfl, _, rfl, _, rfl, _, _, rfl, rfl, _, _, rfl, rfl, _, _, rfl, rfl, .inl ⟨by decide, by decide⟩, _, rfl, d, c, 2, rfl, hdS, by decide, by decide, fun u8 H11 r0 r8 hd11 k11 => ?_⟩
    obtain ⟨u8, rfl⟩ := Int.eq_ofNat_of_zero_le r0
    refine ⟨_, _, rfl, rfl, two_line, fun tn ntn => ?_⟩
    obtain ⟨lit, hlit⟩ : ∃ z : Nat, z = 2 * (N.first + m - 1) + u8 := ⟨_, rfl⟩
    have el : V.int (2 * (fI + (m : Int) - 1) + (u8 : Int)) = vI lit := congrArg V.int (by omega)
    have s12 := same_new ntn (.tup [V.str o0.1, V.int (2 * (fI + (m : Int) - 1) + (u8 : Int))])
    have et : L2.upd H11 tn (.tup [V.str o0.1, V.int (2 * (fI + (m : Int) - 1) + (u8 : Int))]) tn = some (.tup [.str o0.1, vI lit]) := by rw [upd_same, el]
    have kt11 := k11.tup1 hdS
    have eS12 := s12 _ _ (k11 _ _ (by simpa using nShd.1) eS)
    have eP12 := s12 _ _ (k11 _ _ (by simpa using nPd.1) ePS)
    have lP12 := (lPS.keep' kt11).keep' (.same s12)
    have hN12 := (hN10.keep kt11).keep (.same s12)
    have hd12 := hd11.same s12
    have k12 := (kS.trans k11).trans (.of_same s12)
    generalize L2.upd H11 tn (.tup [V.str o0.1, V.int (2 * (fI + (m : Int) - 1) + (u8 : Int))]) = H12 at et eS12 eP12 lP12 hN12 hd12 k12 ⊢
    refine ⟨_, rfl, Sh, _, ((0 : Nat) : Int), 0, rfl, rfl, eS12, ixN_nat (by omega), ?_⟩
    have lo12 := layAt (Lay.mkNam et) _ _ 0 hN12.lo
    have kSh : KeepT H12 (L2.upd H12 Sh (.lst (vo.set 0 (.ref tn)))) := .lst eS12
    have eSh : L2.upd H12 Sh (.lst (vo.set 0 (.ref tn))) Sh = some (.lst (vo.set 0 (.ref tn))) := upd_same
    have eP13 : L2.upd H12 Sh (.lst (vo.set 0 (.ref tn))) P6 = some (.lst vs) := (upd_ne nPS).trans eP12
    have lP13 := lP12.keep' kSh
    have hN13 := hN12.keep kSh
    have lo13 := lo12.keep' kSh
    have hd13 : DS (L2.upd H12 Sh (.lst (vo.set 0 (.ref tn)))) d c := hd12.keep (S := [Sh]) .at1 (by simpa using nShd.1.symm) (by simpa using nShd.2.symm)
    have k13 : Keep [d] H (L2.upd H12 Sh (.lst (vo.set 0 (.ref tn)))) := by
      intro b o nb eb
      rw [upd_ne (fun e : b = Sh => by rw [e] at eb; have := k9 _ _ (by simpa using nShd.1) eb; rw [hSh] at this; cases this)]
      exact k12 b o nb eb
    generalize L2.upd H12 Sh (.lst (vo.set 0 (.ref tn))) = H13 at eSh eP13 lP13 hN13 lo13 hd13 k13 ⊢
    refine ⟨_, rfl, p, _, _, _, rfl, rfl, SqT.of hN13.top, atI_nat (j := 1) rfl, _, rfl, p, _, _, _, rfl, rfl, SqT.of hN13.top, atI_nat (j := 2) rfl, _, rfl, P6, _, rfl, .inl ⟨SqL.of eP13, fun l1 hl1 => ?_⟩⟩
    have s14 := same_new hl1 (.tup vs)
    refine ⟨_, rfl, Sh, _, rfl, .inl ⟨SqL.of (s14 _ _ eSh), fun l2 hl2 => ?_⟩⟩
    have s15 := same_new hl2 (.tup (vo.set 0 (.ref tn)))
    refine ⟨_, rfl, p, _, _, _, rfl, rfl, SqT.of (s15 _ _ (s14 _ _ hN13.top)), atI_nat (j := 5) rfl, (by show 6 ≤ sizeLine; rw [sizeLine_eq]; decide), fun l3 hl3 => ?_⟩
    have s16 := same_new hl3 (.tup [.str "net", .ref pi, .ref pr, .ref l1, .ref l2, .ref pc])
    have sall := (s14.trans s15).trans s16
    have e1 := s16 _ _ (s15 _ _ (upd_same : L2.upd H13 l1 (.tup vs) l1 = _))
    have e2 := s16 _ _ (upd_same : L2.upd (L2.upd H13 l1 (.tup vs)) l2 (.tup (vo.set 0 (.ref tn))) l2 = _)
    have e3 : L2.upd (L2.upd (L2.upd H13 l1 (.tup vs)) l2 (.tup (vo.set 0 (.ref tn)))) l3 (.tup [.str "net", .ref pi, .ref pr, .ref l1, .ref l2, .ref pc]) l3 = _ := upd_same
    have lo16 : LayAll (L2.upd (L2.upd (L2.upd H13 l1 (.tup vs)) l2 (.tup (vo.set 0 (.ref tn)))) l3 (.tup [.str "net", .ref pi, .ref pr, .ref l1, .ref l2, .ref pc])) (vo.set 0 (.ref tn)) ((N.outs.set 0 (o0.1, lit)).map namD) := by
      have := lo13.keep' (.same sall)
      rwa [← List.map_set] at this
    have hN16 : NetAt (L2.upd (L2.upd (L2.upd H13 l1 (.tup vs)) l2 (.tup (vo.set 0 (.ref tn)))) l3 (.tup [.str "net", .ref pi, .ref pr, .ref l1, .ref l2, .ref pc])) l3 pi pr l1 l2 pc vr vs (vo.set 0 (.ref tn)) vc ⟨N.ins, N.regs, ps, N.outs.set 0 (o0.1, lit), N.cls⟩ :=
      ⟨e3, sall _ _ hN13.hi, sall _ _ hN13.hr, hN13.lr.keep' (.same sall), e1, lP13.keep' (.same sall), e2, lo16, sall _ _ hN13.hc, hN13.lc.keep' (.same sall)⟩
    have fe : Net.first ⟨N.ins, N.regs, ps, N.outs.set 0 (o0.1, lit), N.cls⟩ = N.first := rfl
    have se : Net.size ⟨N.ins, N.regs, ps, N.outs.set 0 (o0.1, lit), N.cls⟩ = N.size := by unfold Net.size; rw [fe]; show _ + ps.length = _; omega
    have R' : Net.Right ⟨N.ins, N.regs, ps, N.outs.set 0 (o0.1, lit), N.cls⟩ := ⟨fun r hr => by rw [se]; exact R.regs r hr, fun i pp h => by rw [fe]; exact ok i pp h, fun o ho => by
      rw [se]
      rcases List.mem_or_eq_of_mem_set ho with z | rfl
      · exact R.outs o z
      · show lit < _
        unfold Net.size
        omega, fun o ho => by rw [se]; exact R.cls o ho⟩
    refine ⟨_, _, rfl, hN16.lay, R', by show N.ins.length ≤ 100; omega, by show N.regs.length ≤ 100; omega, by show ps.length ≤ 400; omega, by show (N.outs.set 0 _).length ≤ 100; rw [List.length_set]; omega, by show N.cls.length ≤ 100; omega, fun u H17 s17 lu => ?_⟩
    obtain ⟨t1, t2, t3⟩ := tidy_right R'
    exact q _ _ _ lu t1 (by unfold Net.size; rw [t3, fe]; unfold Net.first; have : (tidyN ⟨N.ins, N.regs, ps, N.outs.set 0 (o0.1, lit), N.cls⟩).ands.length ≤ ps.length := t2; omega) (Nat.le_trans t2 (by show ps.length ≤ 31; omega)) (by show ((N.regs.map _).map _).length ≤ 100; rw [List.length_map, List.length_map]; omega) (by show (((N.outs.set 0 _).map _).map _).length ≤ 100; rw [List.length_map, List.length_map, List.length_set]; omega) (by show ((N.cls.map _).map _).length ≤ 100; rw [List.length_map, List.length_map]; omega) ((hd13.same sall).same s17) ((k13.trans (.of_same sall)).trans (.of_same s17))
end
end Bf

set_option Elab.async false
set_option linter.all false
set_option maxRecDepth 100000
set_option maxHeartbeats 4000000
namespace Bf
open PySem PySem.Spec PyProof.Rows L2
/-! ### inner ANDs, as the law tells them -/
def innL (N : Net) : List Nat := ((List.range N.ands.length).map (N.first + ·)).filter fun x => N.inn x
def plainV (n : Nat) (ls : List Nat) : List V := (List.range n).map fun x => vI (plainC ls x)
theorem plain_snoc {n l : Nat} {ls : List Nat} (h : l / 2 < n) : (plainV n ls).set (l / 2) (vI (plainC ls (l / 2) + (1 - l % 2))) = plainV n (ls ++ [l]) := by
  refine set_range h ?_ fun x _ hx => ?_
  · rw [plain_app]
    congr 2
    unfold plainC
    rcases Nat.mod_two_eq_zero_or_one l with o | o <;> simp [o]
  · rw [plain_app]
    have : plainC [l] x = 0 := by
      unfold plainC
      simp
      omega
    rw [this]
    rfl
theorem plainV_at {n x : Nat} {ls : List Nat} (h : x < n) : (plainV n ls)[x]? = some (vI (plainC ls x)) := by
  unfold plainV
  rw [List.getElem?_map, List.getElem?_range h]
  rfl
structure BJ (H0 H : Hp) (U B : Addr) (n : Nat) (lu lb : List Nat) : Prop where
  same : Same H0 H
  eU : H U = some (.lst (useV n lu))
  eB : H B = some (.lst (plainV n lb))
  ne : U ≠ B
  nU : H0 U = none
  nB : H0 B = none
theorem BJ.use {H0 H : Hp} {U B : Addr} {n : Nat} {ls lb : List Nat} {l : Nat} (b : BJ H0 H U B n ls lb) (h : l / 2 < n) : BJ H0 (upd H U (.lst ((useV n ls).set (l / 2) (vI (useC ls (l / 2) + 1))))) U B n (ls ++ [l]) lb :=
  ⟨same_put b.same b.nU, by rw [upd_same, use_snoc h], (upd_ne b.ne.symm).trans b.eB, b.ne, b.nU, b.nB⟩
theorem BJ.plain {H0 H : Hp} {U B : Addr} {n : Nat} {lu ls : List Nat} {l : Nat} (b : BJ H0 H U B n lu ls) (h : l / 2 < n) : BJ H0 (upd H B (.lst ((plainV n ls).set (l / 2) (vI (plainC ls (l / 2) + (1 - l % 2)))))) U B n lu (ls ++ [l]) :=
  ⟨same_put b.same b.nB, (upd_ne b.ne).trans b.eU, by rw [upd_same, plain_snoc h], b.ne, b.nU, b.nB⟩
theorem BJ.also {H0 H H' : Hp} {U B : Addr} {n : Nat} {lu lb : List Nat} (b : BJ H0 H U B n lu lb) (s : Same H H') : BJ H0 H' U B n lu lb := ⟨b.same.trans s, s _ _ b.eU, s _ _ b.eB, b.ne, b.nU, b.nB⟩
theorem first_val {H : Hp} {p pi pr pa po pc : Addr} {vr va vo vc : List V} {N : Net} (h : NetAt H p pi pr pa po pc vr va vo vc N) : V.int ((1 : Int) + ((N.ins.map V.str).length : Nat) + (vr.length : Nat)) = vI N.first := by
  rw [List.length_map, h.lens.1]
  exact congrArg V.int (by unfold Net.first; omega)
def spLInner : Sp := fun vs H Q _ => ∃ (v : V) (N : Net), vs = [v] ∧ Lay H v (netD N) ∧ N.Right ∧ N.size ≤ 500 ∧ N.regs.length ≤ 100 ∧ N.outs.length ≤ 100 ∧ N.cls.length ≤ 100 ∧ ∀ (L : Addr) (H' : Hp), Same H H' → H L = none → H' L = some (.lst ((innL N).map vI)) → Q (.ref L) H'
section
variable {P : Program} {w : World} {K : PySem.W.Frag} {mg : Str → Option Value} {base : Heap} {f : Addr} {fd : FuncData}
theorem ok_linner (F : Fun K "_law_inner" "_law_inner" s_law_inner f fd) (T : Txt mg) : FnOk P w K mg base CX0 1 f fd ["_law_net_here"] spLInner := by
  refine F.ok sc_law_inner (fun vs H Q E h => ?_) (fun cdv A outer s H vs Q E hr h => ?_)
  · obtain ⟨v, N, rfl, _⟩ := h
    rfl
  obtain ⟨v, N, rfl, lv, R, h500, r100, o100, c100, q⟩ := h
  refine ⟨_, (C8.pss_cut (ps_set (i := 1) sc_law_inner.nd rfl (Or.inl rfl) (pe_op op_add (pe_op op_add pe_int (pe_callB call_len_seq (by rfl) T.n_len (by decide +kernel) (pa_cons (pe_ix ix_tup (pv 0) pe_int (fun _ _ => rfl)) pa_nil))) (pe_callB call_len_seq (by rfl) T.n_len (by decide +kernel) (pa_cons (pe_ix ix_tup (pv 0) pe_int (fun _ _ => rfl)) pa_nil))))
      (pss_cons (ps_set (i := 2) sc_law_inner.nd rfl (Or.inr rfl) (pe_op op_rep (pe_lst (pa_cons pe_int pa_nil)) (pe_op op_add (pv 1) (pe_callB call_len_seq (by rfl) T.n_len (by decide +kernel) (pa_cons (pe_ix ix_tup (pv 0) pe_int (fun _ _ => rfl)) pa_nil)))))
      (pss_cons (ps_set (i := 3) sc_law_inner.nd rfl (Or.inr rfl) (pe_callTy call_list_of (by rfl) T.n_list (by decide +kernel) (pa_cons (pv 2) pa_nil)))
      (pss_cons (ps_for PassesOwn.never rfl (pi_tup (pe_ix ix_tup (pv 0) pe_int (fun _ _ => rfl))) (pg_name (i := 4) sc_law_inner.nd rfl (Or.inl rfl)) (pss_one (ps_for PassesOwn.never rfl (pi_tup (pv 4)) (pg_name (i := 5) sc_law_inner.nd rfl (Or.inl rfl)) (pss_cons (ps_augS (pv 2) (pe_op op_halfN (pv 5) pe_int) get_list pe_int ip_add set_list)
      (pss_one (ps_augS (pv 3) (pe_op op_halfN (pv 5) pe_int) get_list (pe_op op_sub pe_int (pe_op op_odd (pv 5) pe_int)) ip_add set_list))))))
      (pss_cons (ps_for PassesOwn.never rfl (pi_list (pe_op op_cat (pe_op op_cat (pe_lc (own := [("_law_row", 7)]) (g := (gName 7)) (tt := tYes) rfl sc_law_inner.nd (pi_tup (pe_ix ix_tup (pv 0) pe_int (fun _ _ => rfl))) (blkOk_by (N := ["_law_net_here", "_law_first", "_law_uses", "_law_plain", "_law_pair", "_law_literal", "_law_node", "_law_row"]) (sc := defScope s_law_inner) (by decide +kernel)) (fun _ _ _ _ _ => (pg_name (i := 7) sc_law_inner.nd rfl (Or.inl rfl))) (fun _ _ _ _ _ => pts_nil) (fun _ _ _ _ _ => (pe_ix (ix_tup : IxR _ (rIxT K)) (pv 7) pe_int (fun _ _ => rfl)))) (pe_lc (own := [("_law_row", 7)]) (g := (gName 7)) (tt := tYes) rfl sc_law_inner.nd (pi_tup (pe_ix ix_tup (pv 0) pe_int (fun _ _ => rfl))) (blkOk_by (N := ["_law_net_here", "_law_first", "_law_uses", "_law_plain", "_law_pair", "_law_literal", "_law_node", "_law_row"]) (sc := defScope s_law_inner) (by decide +kernel)) (fun _ _ _ _ _ => (pg_name (i := 7) sc_law_inner.nd rfl (Or.inl rfl))) (fun _ _ _ _ _ => pts_nil) (fun _ _ _ _ _ => (pe_ix (ix_tup : IxR _ (rIxT K)) (pv 7) pe_int (fun _ _ => rfl))))) (pe_lc (own := [("_law_row", 7)]) (g := (gName 7)) (tt := tYes) rfl sc_law_inner.nd (pi_tup (pe_ix ix_tup (pv 0) pe_int (fun _ _ => rfl))) (blkOk_by (N := ["_law_net_here", "_law_first", "_law_uses", "_law_plain", "_law_pair", "_law_literal", "_law_node", "_law_row"]) (sc := defScope s_law_inner) (by decide +kernel)) (fun _ _ _ _ _ => (pg_name (i := 7) sc_law_inner.nd rfl (Or.inl rfl))) (fun _ _ _ _ _ => pts_nil) (fun _ _ _ _ _ => (pe_ix (ix_tup : IxR _ (rIxT K)) (pv 7) pe_int (fun _ _ => rfl)))))) (pg_name (i := 5) sc_law_inner.nd rfl (Or.inl rfl)) (pss_one (ps_augS (pv 2) (pe_op op_halfN (pv 5) pe_int) get_list pe_int ip_add set_list)))
      (pss_one (ps_ret (pe_lc (own := [("_law_node", 6)]) (g := (gName 6)) rfl sc_law_inner.nd (pi_range2 rfl T.n_range (pa_cons (pv 1) (pa_cons (pe_callB call_len_seq (by rfl) T.n_len (by decide +kernel) (pa_cons (pv 2) pa_nil)) pa_nil))) (blkOk_by (N := ["_law_net_here", "_law_first", "_law_uses", "_law_plain", "_law_pair", "_law_literal", "_law_node", "_law_row"]) (sc := defScope s_law_inner) (by decide +kernel)) (fun _ _ _ _ _ => (pg_name (i := 6) sc_law_inner.nd rfl (Or.inl rfl))) (fun _ _ _ _ _ => (pts_one (PW.pt (pw_and (pt_cmpR op_eq (pe_ix (ix_list : IxR _ (rIxL K)) (pv 2) (pv 6) (fun _ _ => rfl)) pe_int (nomark _)) (pw_and1 (pt_cmpR op_eq (pe_ix (ix_list : IxR _ (rIxL K)) (pv 3) (pv 6) (fun _ _ => rfl)) pe_int (nomark _))))))) (fun _ _ _ _ _ => (pv 6)))))))))), ?_⟩
  obtain ⟨p, pi, pr, pa, po, pc, vr, va, vo, vc, rfl, hN⟩ := lv.net
  have hl := hN.lens
  refine ⟨fun σ' H' => σ' = [some (.ref p), some (vI N.first), none, none, none, none, none, none] ∧ H' = H, ?_, ?_⟩
  · refine ⟨_, rfl, p, _, _, _, rfl, rfl, SqT.of hN.top, atI_nat (j := 1) rfl, pi, _, rfl, .inr (SqT.of hN.hi), _, _, rfl, rfl, _, rfl, p, _, _, _, rfl, rfl, SqT.of hN.top, atI_nat (j := 2) rfl, pr, _, rfl, .inr (SqT.of hN.hr), _, _, rfl, rfl, ?_, rfl⟩
    exact congrArg (fun z => [some (.ref p), some z, none, none, none, none, none, none]) (first_val hN)
  rintro σ' H' ⟨rfl, rfl⟩
  refine ⟨one_line, fun z0 hz0 => ?_⟩
  have s0 := same_new hz0 (.lst [V.int 0])
  refine ⟨_, rfl, _, rfl, p, _, _, _, rfl, rfl, SqT.of (s0 _ _ hN.top), atI_nat (j := 3) rfl, pa, _, rfl, .inr (SqT.of (s0 _ _ hN.ha)), _, _, rfl, rfl, z0, _, [V.int 0], rfl, rfl, upd_same, by omega, by unfold Net.size at h500; omega, ?_, fun U hU => ?_⟩
  · rw [show ((N.first : Int) + (va.length : Int)).toNat = N.size by unfold Net.size; omega]
    show 1 * _ ≤ _
    exact le1000 (by omega)
  have hU0 := s0.free hU
  have s1 := same_put s0 hU0 (o := .lst (List.replicate ((N.first : Int) + (va.length : Int)).toNat [V.int 0]).flatten)
  have eU := upd_same (H := L2.upd H' z0 (.lst [V.int 0])) (a := U) (o := .lst (List.replicate ((N.first : Int) + (va.length : Int)).toNat [V.int 0]).flatten)
  rw [show ((N.first : Int) + (va.length : Int)).toNat = N.size by unfold Net.size; omega, flat_rep, rep_use] at s1 eU ⊢
  generalize L2.upd (L2.upd H' z0 (.lst [V.int 0])) U (.lst (useV N.size [])) = H1 at s1 eU ⊢
  refine ⟨_, rfl, U, _, rfl, .inl (SqL.of eU), fun B hB => ?_⟩
  have hB0 := s1.free hB
  have bj : BJ H' (L2.upd H1 B (.lst (useV N.size []))) U B N.size [] [] := ⟨same_put s1 hB0, (same_new hB _) _ _ eU, by
    rw [upd_same]
    congr 2, (fun k => by rw [k, hB] at eU; cases eU), hU0, hB0⟩
  have hN1 : ∀ {Hx : Hp}, Same H' Hx → NetAt Hx p pi pr pa po pc vr va vo vc N := fun s => hN.keep (.same s)
  generalize L2.upd H1 B (.lst (useV N.size [])) = H2 at bj ⊢
  refine ⟨_, rfl, p, _, _, _, rfl, rfl, SqT.of (bj.same _ _ hN.top), atI_nat (j := 3) rfl, pa, rfl, ⟨_, SqT.of (bj.same _ _ hN.ha)⟩, for_it (walk_tup (xs := va)) (fun i σ' Hx => ∃ v4 v5, σ' = [some (.ref p), some (vI N.first), some (.ref U), some (.ref B), v4, v5, none, none] ∧ BJ H' Hx U B N.size (litsL (N.ands.take i)) (litsL (N.ands.take i)))
    ⟨_, _, rfl, bj⟩ (fun i σ' Hx _ pp => ?_) (fun i x σ' H3 H4 hi pp y => ?_) (fun σ' Hx pp => ?_)⟩
  · obtain ⟨_, _, _, b⟩ := pp
    exact SqT.of (b.same _ _ hN.ha)
  · obtain ⟨v4, v5, rfl, b⟩ := pp
    obtain ⟨rfl, ex⟩ := y
    obtain ⟨q0, pr0, rfl, hpr, eq0⟩ := hN.and_ ex
    have ell : ∀ l ∈ [pr0.1, pr0.2], l / 2 < N.size := fun l hl' => by
      have := lits_lt R (l := l) (List.mem_flatten.mpr ⟨_, List.mem_map.mpr ⟨pr0, List.mem_of_getElem? hpr, rfl⟩, hl'⟩)
      omega
    refine ⟨_, rfl, q0, rfl, ⟨_, SqT.of (b.same _ _ eq0)⟩, for_it (walk_tup (xs := [vI pr0.1, vI pr0.2])) (fun j σ' Hx => ∃ v5, σ' = [some (.ref p), some (vI N.first), some (.ref U), some (.ref B), some (.ref q0), v5, none, none] ∧ BJ H' Hx U B N.size (litsL (N.ands.take i) ++ [pr0.1, pr0.2].take j) (litsL (N.ands.take i) ++ [pr0.1, pr0.2].take j))
      ⟨_, rfl, by rw [List.take_zero, List.append_nil]; exact b⟩ (fun j σ' Hx _ pp => ?_) (fun j z σ' H5 H6 hj pp y => ?_) (fun σ' Hx pp => ?_)⟩
    · obtain ⟨_, _, b⟩ := pp
      exact SqT.of (b.same _ _ eq0)
    · obtain ⟨v5, rfl, b⟩ := pp
      obtain ⟨rfl, ez⟩ := y
      obtain ⟨l, hl', rfl⟩ : ∃ l, [pr0.1, pr0.2][j]? = some l ∧ z = vI l := by
        have : ([pr0.1, pr0.2].map vI)[j]? = some z := ez
        rw [List.getElem?_map] at this
        obtain ⟨l, h1, h2⟩ := Option.map_eq_some_iff.mp this
        exact ⟨l, h1, h2.symm⟩
      have hls := ell l (List.mem_of_getElem? hl')
      rw [take_snoc hl', ← List.append_assoc]
      generalize litsL (N.ands.take i) ++ [pr0.1, pr0.2].take j = ls at b ⊢
      have lU : (useV N.size ls).length = N.size := by unfold useV; rw [List.length_map, List.length_range]
      have lB : (plainV N.size ls).length = N.size := by unfold plainV; rw [List.length_map, List.length_range]
      refine ⟨_, rfl, _, rfl, l, rfl, rfl, U, _, ((l / 2 : Nat) : Int), vI (useC ls (l / 2)), rfl, rfl, b.eU, atI_nat (useV_at hls), _, _, rfl, rfl, U, _, ((l / 2 : Nat) : Int), l / 2, rfl, rfl, b.eU, ixN_nat (by rw [lU]; exact hls), ?_⟩
      have b1 := b.use hls
      have ev : V.int ((plainC ls (l / 2) : Int) + (1 - ((l % 2 : Nat) : Int))) = vI (plainC ls (l / 2) + (1 - l % 2)) := congrArg V.int (by omega)
      refine ⟨_, rfl, _, rfl, l, rfl, rfl, B, _, ((l / 2 : Nat) : Int), vI (plainC ls (l / 2)), rfl, rfl, b1.eB, atI_nat (plainV_at hls), _, rfl, l, rfl, rfl, _, _, rfl, rfl, _, _, rfl, rfl, B, _, ((l / 2 : Nat) : Int), l / 2, rfl, rfl, b1.eB, ixN_nat (by rw [lB]; exact hls), _, rfl, ?_⟩
      show BJ H' (upd _ B (.lst ((plainV N.size ls).set (l / 2) (V.int ((plainC ls (l / 2) : Int) + (1 - ((l % 2 : Nat) : Int))))))) U B N.size (ls ++ [l]) (ls ++ [l])
      rw [ev]
      exact b1.plain hls
    · obtain ⟨v5, rfl, b⟩ := pp
      refine ⟨_, _, rfl, ?_⟩
      rw [take_snoc hpr, lits_snoc]
      exact b
  obtain ⟨v4, v5, rfl, b⟩ := pp
  rw [hl.2.1, List.take_length] at b
  refine ⟨_, rfl, p, _, _, _, rfl, rfl, SqT.of (b.same _ _ hN.top), atI_nat (j := 4) rfl, po, rfl, ⟨_, SqT.of (b.same _ _ hN.ho)⟩, fun D1 hD1 => ?_⟩
  refine lc_rows (walk_tup (xs := vo)) (rows := N.outs) (f := namD) (g := fun r => r.2) (h := intD) (fun H' sm => SqT.of (sm _ _ (b.same _ _ hN.ho))) hD1 ((hN1 b.same).lo) (by omega) (fun i x r H' R Z hr sm lx k => ?_) (fun us1 H3 s3 eD1 lu1 => ?_)
  · obtain ⟨q, rfl, eq⟩ := lx.nam
    exact ⟨rfl, _, rfl, q, _, _, _, rfl, rfl, SqT.of eq, atI_nat (j := 1) rfl, k _ _ (.refl _) (.int _)⟩
  rw [lay_intD lu1] at eD1
  have b3 := b.also s3
  refine ⟨_, rfl, p, _, _, _, rfl, rfl, SqT.of (b3.same _ _ hN.top), atI_nat (j := 5) rfl, pc, rfl, ⟨_, SqT.of (b3.same _ _ hN.hc)⟩, fun D2 hD2 => ?_⟩
  refine lc_rows (walk_tup (xs := vc)) (rows := N.cls) (f := namD) (g := fun r => r.2) (h := intD) (fun H' sm => SqT.of (sm _ _ (b3.same _ _ hN.hc))) hD2 ((hN1 b3.same).lc) (by omega) (fun i x r H' R Z hr sm lx k => ?_) (fun us2 H4 s4 eD2 lu2 => ?_)
  · obtain ⟨q, rfl, eq⟩ := lx.nam
    exact ⟨rfl, _, rfl, q, _, _, _, rfl, rfl, SqT.of eq, atI_nat (j := 1) rfl, k _ _ (.refl _) (.int _)⟩
  rw [lay_intD lu2] at eD2
  have b4 := b3.also s4
  refine ⟨D1, D2, _, _, rfl, rfl, s4 _ _ eD1, eD2, by rw [List.length_map, List.length_map, List.length_map, List.length_map]; exact le1000 (by omega), fun Z1 hZ1 => ?_⟩
  have s5 := same_new hZ1 (.lst ((N.outs.map fun r => r.2).map vI ++ (N.cls.map fun r => r.2).map vI))
  have eZ1 := upd_same (H := H4) (a := Z1) (o := .lst ((N.outs.map fun r => r.2).map vI ++ (N.cls.map fun r => r.2).map vI))
  have b5 := b4.also s5
  generalize L2.upd H4 Z1 (.lst ((N.outs.map fun r => r.2).map vI ++ (N.cls.map fun r => r.2).map vI)) = H5 at eZ1 b5 ⊢
  refine ⟨_, rfl, p, _, _, _, rfl, rfl, SqT.of (b5.same _ _ hN.top), atI_nat (j := 2) rfl, pr, rfl, ⟨_, SqT.of (b5.same _ _ hN.hr)⟩, fun D3 hD3 => ?_⟩
  refine lc_rows (walk_tup (xs := vr)) (rows := N.regs) (f := regD) (g := fun r => r.2.2) (h := intD) (fun H' sm => SqT.of (sm _ _ (b5.same _ _ hN.hr))) hD3 ((hN1 b5.same).lr) (by omega) (fun i x r H' R Z hr sm lx k => ?_) (fun us3 H6 s6 eD3 lu3 => ?_)
  · obtain ⟨q, rfl, eq⟩ := lx.reg
    exact ⟨rfl, _, rfl, q, _, _, _, rfl, rfl, SqT.of eq, atI_nat (j := 2) rfl, k _ _ (.refl _) (.int _)⟩
  rw [lay_intD lu3] at eD3
  have b6 := b5.also s6
  refine ⟨Z1, D3, _, _, rfl, rfl, s6 _ _ eZ1, eD3, by rw [List.length_append, List.length_map, List.length_map, List.length_map, List.length_map, List.length_map, List.length_map]; exact le1000 (by omega), fun Z hZ => ?_⟩
  have eEnds : (N.outs.map fun r => r.2).map vI ++ (N.cls.map fun r => r.2).map vI ++ (N.regs.map fun r => r.2.2).map vI = N.ends.map vI := by
    unfold Net.ends
    rw [List.map_append, List.map_append]
  rw [eEnds]
  have eZ := upd_same (H := H6) (a := Z) (o := .lst (N.ends.map vI))
  have b7 := b6.also (same_new hZ (.lst (N.ends.map vI)))
  have nZU : Z ≠ U := fun k => by rw [k, b6.eU] at hZ; cases hZ
  generalize L2.upd H6 Z (.lst (N.ends.map vI)) = H7 at eZ b7 ⊢
  refine ⟨Z, rfl, ⟨_, SqL.of eZ⟩, for_it (walk_list (xs := N.ends.map vI)) (fun i σ' Hx => ∃ v5, σ' = [some (.ref p), some (vI N.first), some (.ref U), some (.ref B), v4, v5, none, none] ∧ Hx Z = some (.lst (N.ends.map vI)) ∧ BJ H' Hx U B N.size (litsL N.ands ++ N.ends.take i) (litsL N.ands))
    ⟨_, rfl, eZ, by rw [List.take_zero, List.append_nil]; exact b7⟩ (fun i σ' Hx _ pp => ?_) (fun i x σ' H8 H9 hi pp y => ?_) (fun σ' Hx pp => ?_)⟩
  · obtain ⟨_, _, e, _⟩ := pp
    exact SqL.of e
  · obtain ⟨v5, rfl, eZ8, b⟩ := pp
    obtain ⟨rfl, ex⟩ := y
    obtain ⟨l, hl', rfl⟩ := natAt ex
    have hls : l / 2 < N.size := by
      have := ends_lt R l (List.mem_of_getElem? hl')
      omega
    rw [take_snoc hl', ← List.append_assoc]
    generalize litsL N.ands ++ N.ends.take i = ls at b ⊢
    have lU : (useV N.size ls).length = N.size := by unfold useV; rw [List.length_map, List.length_range]
    refine ⟨_, rfl, _, rfl, l, rfl, rfl, U, _, ((l / 2 : Nat) : Int), vI (useC ls (l / 2)), rfl, rfl, b.eU, atI_nat (useV_at hls), _, _, rfl, rfl, U, _, ((l / 2 : Nat) : Int), l / 2, rfl, rfl, b.eU, ixN_nat (by rw [lU]; exact hls), _, rfl, (upd_ne nZU).trans eZ8, b.use hls⟩
  · obtain ⟨v5, rfl, eZ8, b⟩ := pp
    rw [List.length_map, List.take_length] at b
    have lU : (useV N.size (litsL N.ands ++ N.ends)).length = N.size := by unfold useV; rw [List.length_map, List.length_range]
    refine ⟨_, rfl, _, rfl, U, _, rfl, .inl (SqL.of b.eU), (N.first : Int), (((useV N.size (litsL N.ands ++ N.ends)).length : Nat) : Int), rfl, ?_, fun D hD => ?_⟩
    · rw [lU]
      have : N.first ≤ N.size := by unfold Net.size; omega
      omega
    rw [lU, show ((N.size : Int) - (N.first : Int)).toNat = N.ands.length by unfold Net.size; omega]
    refine lc_it walk_range (fun i H'' => Same Hx H'' ∧ H'' D = some (.lst ((((List.range i).map (N.first + ·)).filter fun x => N.inn x).map vI))) ⟨same_new hD _, upd_same⟩ (fun _ _ _ _ => trivial) (fun i x H8 H9 hi pp y => ?_) (fun H8 pp => ?_)
    · obtain ⟨sm, eD⟩ := pp
      obtain ⟨rfl, rfl⟩ := y
      have hx : N.first + i < N.size := by unfold Net.size; omega
      have e2 : ((N.first : Int) + (i : Int)) = ((N.first + i : Nat) : Int) := by omega
      have er : ((List.range (i + 1)).map (N.first + ·)).filter (fun x => N.inn x) = if N.inn (N.first + i) = true then ((List.range i).map (N.first + ·)).filter (fun x => N.inn x) ++ [N.first + i] else ((List.range i).map (N.first + ·)).filter (fun x => N.inn x) := by
        rw [List.range_succ, List.map_append, List.filter_append]
        split <;> simp [*]
      have law := inn_law (N := N) (x := N.first + i) (Nat.le_add_right _ _)
      have yes : N.inn (N.first + i) = true → ∃ acc, H9 D = some (.lst acc) ∧ acc.length < sizeLine ∧ Same Hx (upd H9 D (.lst (acc ++ [V.int ((N.first : Int) + (i : Int))]))) ∧ upd H9 D (.lst (acc ++ [V.int ((N.first : Int) + (i : Int))])) D = some (.lst ((((List.range (i + 1)).map (N.first + ·)).filter fun x => N.inn x).map vI)) := fun h => by
        refine ⟨_, eD, ?_, same_two sm hD, ?_⟩
        · rw [List.length_map]
          refine small1000 (Nat.le_trans (List.length_filter_le _ _) ?_)
          rw [List.length_map, List.length_range]
          unfold Net.size at h500
          omega
        · rw [upd_same, er, if_pos h, List.map_append, e2]
          rfl
      have no : N.inn (N.first + i) = false → Same Hx H9 ∧ H9 D = some (.lst ((((List.range (i + 1)).map (N.first + ·)).filter fun x => N.inn x).map vI)) := fun h => ⟨sm, by rw [er, if_neg (by rw [h]; decide)]; exact eD⟩
      refine ⟨rfl, _, rfl, _, rfl, U, _, _, vI (useC (litsL N.ands ++ N.ends) (N.first + i)), rfl, rfl, SqL.of (sm _ _ b.eU), by rw [e2]; exact atI_nat (useV_at hx), rfl, _, rfl, ite2 (fun h1 => ⟨_, rfl, _, rfl, B, _, _, vI (plainC (litsL N.ands) (N.first + i)), rfl, rfl, SqL.of (sm _ _ b.eB), by rw [e2]; exact atI_nat (plainV_at hx), rfl, _, rfl, ite2 (fun h2 => ?_) (fun h2 => ?_)⟩) (fun h1 => iteF (no ?_))⟩
      · refine ⟨_, rfl, yes ?_⟩
        have g1 : useC (litsL N.ands ++ N.ends) (N.first + i) = 1 := Int.ofNat.inj (V.int.inj (of_decide_eq_true h1))
        have g2 : plainC (litsL N.ands) (N.first + i) = 1 := Int.ofNat.inj (V.int.inj (of_decide_eq_true h2))
        rw [law, decide_eq_true_eq]
        rw [use_app] at g1
        exact ⟨g1, g2⟩
      · refine no ?_
        rw [law, decide_eq_false_iff_not]
        rintro ⟨_, g2⟩
        exact h2 (by rw [g2]; rfl)
      · rw [law, decide_eq_false_iff_not]
        rintro ⟨g1, _⟩
        rw [← use_app] at g1
        exact h1 (by rw [g1]; rfl)
    · obtain ⟨sm, eD⟩ := pp
      exact q D H8 (b.same.trans sm) (b.same.free hD) eD
end
end Bf

set_option Elab.async false
set_option linter.all false
set_option maxRecDepth 100000
set_option maxHeartbeats 4000000
namespace Bf
open PySem PySem.Spec PyProof.Rows L2
/-! ### leaves, as the law tells them -/
theorem map_snoc (xs : List Nat) (l : Nat) : (xs ++ [l]).map vI = xs.map vI ++ [vI l] := by rw [List.map_append]; rfl
def spLLeaves (K : PySem.W.Frag) : Sp := fun vs H Q _ => ∃ (v : V) (N : Net) (I : Addr) (h : Nat), vs = [v, vI h, .ref I] ∧ Lay H v (netD N) ∧ N.Right ∧ N.size ≤ 500 ∧ N.ands.length ≤ 31 ∧ SqL K H I ((innL N).map vI) ∧ N.first ≤ h ∧ h < N.size ∧ N.inn h = false ∧ ∀ (L : Addr) (H' : Hp), Same H H' → H L = none → H' L = some (.lst ((leafL N h).map vI)) → Q (.ref L) H'
section
variable {P : Program} {w : World} {K : PySem.W.Frag} {mg : Str → Option Value} {base : Heap} {f : Addr} {fd : FuncData}
theorem ok_lleaves (F : Fun K "_law_leaves" "_law_leaves" s_law_leaves f fd) (T : Txt mg) : FnOk P w K mg base CX0 1 f fd ["_law_net_here", "_law_head", "_law_inner_here"] (spLLeaves K) := by
  refine F.ok sc_law_leaves (fun vs H Q E h => ?_) (fun cdv A outer s H vs Q E hr h => ?_)
  · obtain ⟨v, N, I, h, rfl, _⟩ := h
    rfl
  obtain ⟨v, N, I, h, rfl, lv, R, h500, a31, eI, h1, h2, hh, q⟩ := h
  refine ⟨_, (C8.pss_cut (ps_set (i := 3) sc_law_leaves.nd rfl (Or.inl rfl) (pe_op op_add (pe_op op_add pe_int (pe_callB call_len_seq (by rfl) T.n_len (by decide +kernel) (pa_cons (pe_ix ix_tup (pv 0) pe_int (fun _ _ => rfl)) pa_nil))) (pe_callB call_len_seq (by rfl) T.n_len (by decide +kernel) (pa_cons (pe_ix ix_tup (pv 0) pe_int (fun _ _ => rfl)) pa_nil))))
      (pss_cons (ps_set (i := 4) sc_law_leaves.nd rfl (Or.inl rfl) (pe_lst pa_nil))
      (pss_cons (ps_set (i := 5) sc_law_leaves.nd rfl (Or.inl rfl) (pe_lst (pa_cons (pv 1) pa_nil)))
      (C8.pss_cut (ps_for PassesOwn.never rfl (pi_range1 rfl T.n_range (pa_cons (pe_callB call_len_seq (by rfl) T.n_len (by decide +kernel) (pa_cons (pe_ix ix_tup (pv 0) pe_int (fun _ _ => rfl)) pa_nil)) pa_nil)) (pg_name (i := 6) sc_law_leaves.nd rfl (Or.inl rfl)) (pss_cons (ps_if (pt_cmpR op_eq (pe_callB call_len_seq (by rfl) T.n_len (by decide +kernel) (pa_cons (pv 5) pa_nil)) pe_int (nomark _)) (pss_one ps_break) pss_nil)
      (pss_one (ps_for PassesOwn.never rfl (pi_tup (pe_ix ix_tup (pe_ix ix_tup (pv 0) pe_int (fun _ _ => rfl)) (pe_op op_sub (pe_bm0 PySem.F.plainAttrs_list PySem.F.slot_list_pop PySem.F.type_list_pop mt_pop (pv 5)) (pv 3)) (fun _ _ => rfl))) (pg_name (i := 7) sc_law_leaves.nd rfl (Or.inl rfl)) (pss_one (ps_if (PW.pt (pw_and (pt_cmpR op_eq (pe_op op_odd (pv 7) pe_int) pe_int (nomark _)) (pw_and1 (pt_cmpR op_in_seq (pe_op op_halfN (pv 7) pe_int) (pv 2) (by rfl))))) (pss_one (ps_expr (pe_bm PySem.F.plainAttrs_list PySem.F.slot_list_append PySem.F.type_list_append mt_append (pv 5) (pa_cons (pe_op op_halfN (pv 7) pe_int) pa_nil)))) (pss_one (ps_expr (pe_bm PySem.F.plainAttrs_list PySem.F.slot_list_append PySem.F.type_list_append mt_append (pv 4) (pa_cons (pv 7) pa_nil))))))))))
      (pss_one (ps_ret (pe_callB (cr_sortedSet rfl) (by rfl) T.n_sorted (by decide +kernel) (pa_cons (pe_callTy (cr_setI rfl) (by rfl) T.n_set (by decide +kernel) (pa_cons (pv 4) pa_nil)) pa_nil)))))))), ?_⟩
  obtain ⟨p, pi, pr, pa, po, pc, vr, va, vo, vc, rfl, hN⟩ := lv.net
  have hl := hN.lens
  refine ⟨fun σ' H' => σ' = [some (.ref p), some (vI h), some (.ref I), some (vI N.first), none, none, none, none] ∧ H' = H, ?_, ?_⟩
  · refine ⟨_, rfl, p, _, _, _, rfl, rfl, SqT.of hN.top, atI_nat (j := 1) rfl, pi, _, rfl, .inr (SqT.of hN.hi), _, _, rfl, rfl, _, rfl, p, _, _, _, rfl, rfl, SqT.of hN.top, atI_nat (j := 2) rfl, pr, _, rfl, .inr (SqT.of hN.hr), _, _, rfl, rfl, ?_, rfl⟩
    exact congrArg (fun z => [some (.ref p), some (vI h), some (.ref I), some z, none, none, none, none]) (first_val hN)
  rintro σ' H' ⟨rfl, rfl⟩
  refine ⟨Nat.zero_le _, fun Fo hFo => ?_⟩
  have s1 := same_new hFo (.lst [])
  refine ⟨_, rfl, one_line, fun Wa hWa => ?_⟩
  have s2 := s1.trans (same_new hWa (.lst [vI h]))
  have eF0 : L2.upd (L2.upd H' Fo (.lst [])) Wa (.lst [vI h]) Fo = some (.lst []) := (same_new hWa _) _ _ upd_same
  have eW0 : L2.upd (L2.upd H' Fo (.lst [])) Wa (.lst [vI h]) Wa = some (.lst [vI h]) := upd_same
  have nFW : Fo ≠ Wa := ne_of_none upd_same hWa
  have hWa0 : H' Wa = none := s1.free hWa
  generalize L2.upd (L2.upd H' Fo (.lst [])) Wa (.lst [vI h]) = H1 at s2 eF0 eW0 ⊢
  refine ⟨fun σ' Hx => ∃ v6 v7, σ' = [some (.ref p), some (vI h), some (.ref I), some (vI N.first), some (.ref Fo), some (.ref Wa), v6, v7] ∧ Same H' Hx ∧ ∃ found : List Nat, Hx Fo = some (.lst (found.map vI)) ∧ (∀ m, m ∈ found ↔ Leaf N h m) ∧ found.length ≤ 62, ?_, fun σ2 H2 p2 => ?_⟩
  · refine ⟨_, rfl, p, _, _, _, rfl, rfl, SqT.of (s2 _ _ hN.top), atI_nat (j := 3) rfl, pa, _, rfl, .inr (SqT.of (s2 _ _ hN.ha)), va.length, rfl, (i62 (by unfold Net.size at h500; omega)).1, (i62 (by unfold Net.size at h500; omega)).2, for_it walk_range (fun t σ' Hx => ∃ v6 v7, σ' = [some (.ref p), some (vI h), some (.ref I), some (vI N.first), some (.ref Fo), some (.ref Wa), v6, v7] ∧ Same H' Hx ∧ ∃ X W found : List Nat, Hx Fo = some (.lst (found.map vI)) ∧ Hx Wa = some (.lst (W.map vI)) ∧ WalkI N h X W found ∧ X.length = t ∧ found.length ≤ 2 * t)
      ⟨_, _, rfl, s2, [], [h], [], eF0, eW0, .start h1 h2, rfl, Nat.le_refl _⟩ (fun _ _ _ _ _ => trivial) (fun t x σ' H3 H4 ht pp y => ?_) (fun σ' H3 pp => ?_)⟩
    · obtain ⟨v6, v7, rfl, sm, X, W, found, eF, eW, wi, lX, lf⟩ := pp
      obtain ⟨rfl, rfl⟩ := y
      refine ⟨_, rfl, Wa, _, rfl, .inl (SqL.of eW), rfl, _, rfl, ite2 (fun z => ?_) (fun z => ?_)⟩
      · have lW : W.length = 0 := by
          have := Int.ofNat.inj (V.int.inj (of_decide_eq_true z))
          rwa [List.length_map] at this
        have : W = [] := List.length_eq_zero_iff.mp lW
        subst this
        exact ⟨_, _, rfl, sm, found, eF, wi.done, by omega⟩
      rcases List.eq_nil_or_concat W with rfl | ⟨W', y, e⟩
      · exact absurd rfl z
      rw [List.concat_eq_append] at e
      subst e
      have eT' : (W' ++ [y]).map vI = W'.map vI ++ [vI y] := by rw [List.map_append]; rfl
      rw [eT'] at eW
      obtain ⟨y1, y2⟩ := wi.an y (by simp)
      obtain ⟨pr0, hpr, ep⟩ := pair_some y1 y2
      obtain ⟨x0, hx0, l0⟩ := hN.la.at_ (d := pairD pr0) (y - N.first) (by rw [List.getElem?_map, hpr]; rfl)
      obtain ⟨q0, rfl, eq0⟩ := l0.pair
      have ha0 : atI va ((y : Int) - (N.first : Int)) = some (.ref q0) := by
        rw [show (y : Int) - (N.first : Int) = ((y - N.first : Nat) : Int) by omega]
        exact atI_nat hx0
      have few := wi.few
      rw [List.length_append, List.length_singleton] at few
      have smW := same_put (a := Wa) (o := .lst (W'.map vI)) sm hWa0
      refine ⟨_, rfl, p, _, _, _, rfl, rfl, SqT.of (sm _ _ hN.top), atI_nat (j := 3) rfl, _, rfl, .inl ⟨rfl, _, SqL.of eW⟩, Wa, _, vI y, rfl, rfl, eW, by simp, ?_⟩
      rw [List.dropLast_concat]
      refine ⟨_, rfl, _, _, rfl, rfl, pa, _, _, _, rfl, rfl, SqT.of (smW _ _ hN.ha), ha0, q0, rfl, ⟨_, SqT.of (smW _ _ eq0)⟩, for_it (walk_tup (xs := [vI pr0.1, vI pr0.2])) (fun j σ' Hx => ∃ v7, σ' = [some (.ref p), some (vI h), some (.ref I), some (vI N.first), some (.ref Fo), some (.ref Wa), some (.int (0 + (t : Int))), v7] ∧ Same H' Hx ∧ Hx Fo = some (.lst ((found ++ outsL N ([pr0.1, pr0.2].take j)).map vI)) ∧ Hx Wa = some (.lst ((W' ++ kidsL N ([pr0.1, pr0.2].take j)).map vI)))
        ⟨_, rfl, smW, ?_, ?_⟩ (fun j σ' Hx _ pp => ?_) (fun j zz σ' H5 H6 hj pp yy => ?_) (fun σ' H5 pp => ?_)⟩
      · rw [upd_ne nFW, eF]
        congr 3
        show found = found ++ []
        rw [List.append_nil]
      · rw [upd_same]
        congr 3
        show W' = W' ++ []
        rw [List.append_nil]
      · obtain ⟨_, _, s, _⟩ := pp
        exact SqT.of (s _ _ eq0)
      · obtain ⟨v7, rfl, s5, eF5, eW5⟩ := pp
        obtain ⟨rfl, ez⟩ := yy
        obtain ⟨l, hl', rfl⟩ : ∃ l, [pr0.1, pr0.2][j]? = some l ∧ zz = vI l := by
          have : ([pr0.1, pr0.2].map vI)[j]? = some zz := ez
          rw [List.getElem?_map] at this
          obtain ⟨l, h1, h2⟩ := Option.map_eq_some_iff.mp this
          exact ⟨l, h1, h2.symm⟩
        have hlm : l ∈ N.pair y := by rw [ep]; exact List.mem_of_getElem? hl'
        have hll := pair_lits hlm
        rw [take_snoc hl', outs_snoc, kids_snoc]
        have lo : (outsL N ([pr0.1, pr0.2].take j)).length ≤ 2 := Nat.le_trans (List.length_filter_le _ _) (List.length_take_le' _ _)
        have lk : (kidsL N ([pr0.1, pr0.2].take j)).length ≤ 2 := by
          unfold kidsL
          rw [List.length_map]
          exact Nat.le_trans (List.length_filter_le _ _) (List.length_take_le' _ _)
        have mem : l / 2 ∈ innL N ↔ N.inn (l / 2) = true := by
          unfold innL
          rw [List.mem_filter]
          constructor
          · exact fun k => k.2
          · intro k
            obtain ⟨i1, i2⟩ := inn_lt R k
            exact ⟨List.mem_map.mpr ⟨l / 2 - N.first, List.mem_range.mpr (by unfold Net.size at i2; omega), by omega⟩, k⟩
        have no : N.inn (l / 2) = false → tDrop (tBM K "list" rAppend (tVar 4) (tCons (tVar 7) tNil)) { nx := fun σ' Hx => ∃ v7, σ' = [some (.ref p), some (vI h), some (.ref I), some (vI N.first), some (.ref Fo), some (.ref Wa), some (.int (0 + (t : Int))), v7] ∧ Same H' Hx ∧ Hx Fo = some (.lst ((found ++ if N.inn (l / 2) = true then outsL N ([pr0.1, pr0.2].take j) else outsL N ([pr0.1, pr0.2].take j) ++ [l]).map vI)) ∧ Hx Wa = some (.lst ((W' ++ if N.inn (l / 2) = true then kidsL N ([pr0.1, pr0.2].take j) ++ [l / 2] else kidsL N ([pr0.1, pr0.2].take j)).map vI)), rt := fun _ _ => True, bk := fun _ _ => True, ct := fun _ _ => True } [some (.ref p), some (vI h), some (.ref I), some (vI N.first), some (.ref Fo), some (.ref Wa), some (.int (0 + (t : Int))), some (vI l)] H6 := fun c => by
          rw [if_neg (by rw [c]; decide), if_neg (by rw [c]; decide)]
          refine ⟨_, rfl, .inl ⟨rfl, _, SqL.of eF5⟩, _, rfl, Fo, _, _, rfl, rfl, eF5, small1000 (by rw [List.length_map, List.length_append]; omega), ?_⟩
          exact ⟨_, rfl, same_put s5 hFo, by rw [upd_same, ← List.append_assoc]; exact congrArg (fun z => some (HO.lst z)) (map_snoc _ _).symm, (upd_ne nFW.symm).trans eW5⟩
        refine ⟨_, rfl, l, rfl, rfl, rfl, _, rfl, ite2 (fun ha => ⟨_, rfl, l, rfl, rfl, _, rfl, I, (innL N).map vI, rfl, .inl (seqL_same s5 eI), rfl, flat_ints _, _, rfl, ite2 (fun hb => ?_) (fun hb => no ?_)⟩) (fun ha => iteF (no ?_))⟩
        · have hb : inV (vI (l / 2)) ((innL N).map vI) = true := hb
          rw [inV_int, decide_eq_true_eq] at hb
          have c := mem.mp hb
          rw [if_pos c, if_pos c]
          refine ⟨_, rfl, .inl ⟨rfl, _, SqL.of eW5⟩, _, rfl, l, rfl, rfl, Wa, _, _, rfl, rfl, eW5, small1000 (by rw [List.length_map, List.length_append]; omega), ?_⟩
          exact ⟨_, rfl, same_put s5 hWa0, (upd_ne nFW).trans eF5, by rw [upd_same, ← List.append_assoc]; exact congrArg (fun z => some (HO.lst z)) (map_snoc _ _).symm⟩
        · cases c : N.inn (l / 2) with
          | false => rfl
          | true => exact absurd (show inV (vI (l / 2)) ((innL N).map vI) = true by rw [inV_int, decide_eq_true_eq]; exact mem.mpr c) hb
        · cases c : N.inn (l / 2) with
          | false => rfl
          | true =>
            have := inn_even hll c
            exact absurd (by rw [this]; rfl) ha
      · obtain ⟨v7, rfl, s5, eF5, eW5⟩ := pp
        have wi2 := wi.step R hh
        rw [ep] at wi2
        refine ⟨_, _, rfl, s5, X ++ [y], _, _, eF5, eW5, wi2, by rw [List.length_append, lX]; rfl, ?_⟩
        have : (outsL N ([pr0.1, pr0.2].take [vI pr0.1, vI pr0.2].length)).length ≤ 2 := List.length_filter_le _ _
        rw [List.length_append]
        omega
    · obtain ⟨v6, v7, rfl, sm, X, W, found, eF, eW, wi, lX, lf⟩ := pp
      have fw := wi.few
      have : W = [] := List.length_eq_zero_iff.mp (by omega)
      subst this
      exact ⟨_, _, rfl, sm, found, eF, wi.done, by omega⟩
  obtain ⟨v6, v7, rfl, sm, found, eF, hm, lf⟩ := p2
  refine ⟨_, rfl, Fo, castL _, rfl, by rw [castL_V]; exact SqL.of eF, by rw [castL_len]; omega, fun p0 Sb m hp0 hm2 hS => ⟨p0, Sb, m, rfl, upd_same, by rw [castL_len] at hm2; omega, fun ns Z10 pw hk hn hZ10 => ?_⟩⟩
  obtain ⟨zs, ez, pw', hmem, hzl⟩ := setSorted hS pw hk hn hm2
  rw [ez]
  have s10 := (same_new hp0 (SetO w p0 Sb m)).trans (same_new hZ10 (.lst (zs.map vI)))
  have := leafL_uniq R h1 pw' fun l => (hmem l).trans (hm l)
  rw [this] at s10 ⊢
  exact q Z10 _ (sm.trans s10) (sm.free ((same_new hp0 (SetO w p0 Sb m)).free hZ10)) upd_same
end
end Bf

set_option Elab.async false
set_option linter.all false
set_option maxRecDepth 100000
set_option maxHeartbeats 4000000
namespace Bf
open PySem PySem.Spec PyProof.Rows L2
/-! ### the least heights, as the law tells them -/
theorem opp_len (ls : List Nat) : oppB ls = true ↔ 0 < ((ls.filter fun l => decide (l ^^^ 1 ∈ ls)).map vI).length := by
  unfold oppB
  rw [List.any_eq_true, List.length_map, List.length_pos_iff_exists_mem]
  exact ⟨fun ⟨x, h1, h2⟩ => ⟨x, List.mem_filter.mpr ⟨h1, h2⟩⟩, fun ⟨x, h⟩ => ⟨x, (List.mem_filter.mp h).1, (List.mem_filter.mp h).2⟩⟩
def spLLeast : Sp := fun vs H Q _ => ∃ (v : V) (N : Net), vs = [v] ∧ Lay H v (netD N) ∧ N.Right ∧ N.size ≤ 500 ∧ N.ands.length ≤ 31 ∧ N.regs.length ≤ 100 ∧ N.outs.length ≤ 100 ∧ N.cls.length ≤ 100 ∧ ∀ (L : Addr) (H' : Hp), Same H H' → H' L = some (.lst ((levL N N.ands.length).map optV)) → Q (.ref L) H'
section
variable {P : Program} {w : World} {K : PySem.W.Frag} {mg : Str → Option Value} {base : Heap} {f : Addr} {fd : FuncData}
theorem ok_lleast (F : Fun K "_law_least" "_law_least" s_law_least f fd) (T : Txt mg) (D_law_inner : Dn P w K mg base "_law_inner" ["_law_net_here"] 1 spLInner) (D_law_leaves : Dn P w K mg base "_law_leaves" ["_law_net_here", "_law_head", "_law_inner_here"] 1 (spLLeaves K)) :
    FnOk P w K mg base CX0 2 f fd ["_law_net_here"] spLLeast := by
  refine F.ok sc_law_least (fun vs H Q E h => ?_) (fun cdv A outer s H vs Q E hr h => ?_)
  · obtain ⟨v, N, rfl, _⟩ := h
    rfl
  obtain ⟨v, N, rfl, lv, R, h500, a31, r100, o100, c100, q⟩ := h
  refine ⟨_, (C8.pss_cut (ps_set (i := 1) sc_law_least.nd rfl (Or.inl rfl) (pe_op op_add (pe_op op_add pe_int (pe_callB call_len_seq (by rfl) T.n_len (by decide +kernel) (pa_cons (pe_ix ix_tup (pv 0) pe_int (fun _ _ => rfl)) pa_nil))) (pe_callB call_len_seq (by rfl) T.n_len (by decide +kernel) (pa_cons (pe_ix ix_tup (pv 0) pe_int (fun _ _ => rfl)) pa_nil))))
      (pss_cons (ps_set (i := 2) sc_law_least.nd rfl (Or.inl rfl) (pe_dn D_law_inner (hr.mono (by omega)) (by rfl) (pa_cons (pv 0) pa_nil)))
      (pss_cons (ps_set (i := 3) sc_law_least.nd rfl (Or.inr rfl) (pe_op op_rep (pe_lst (pa_cons pe_int pa_nil)) (pv 1)))
      (pss_cons (ps_for PassesOwn.never rfl (pi_range2 rfl T.n_range (pa_cons (pv 1) (pa_cons (pe_op op_add (pv 1) (pe_callB call_len_seq (by rfl) T.n_len (by decide +kernel) (pa_cons (pe_ix ix_tup (pv 0) pe_int (fun _ _ => rfl)) pa_nil))) pa_nil))) (pg_name (i := 4) sc_law_least.nd rfl (Or.inl rfl)) (pss_one (ps_if (pt_cmpR op_in_seq (pv 4) (pv 2) (by rfl)) (pss_one (ps_expr (pe_bm PySem.F.plainAttrs_list PySem.F.slot_list_append PySem.F.type_list_append mt_append (pv 3) (pa_cons pe_non pa_nil)))) (pss_cons (ps_set (i := 5) sc_law_least.nd rfl (Or.inr rfl) (pe_dn D_law_leaves (hr.mono (by omega)) (by rfl) (pa_cons (pv 0) (pa_cons (pv 4) (pa_cons (pv 2) pa_nil)))))
      (pss_cons (ps_set (i := 6) sc_law_least.nd rfl (Or.inl rfl) (pe_callB (cr_sum rfl) (by rfl) T.n_sum (by decide +kernel) (pa_cons (pe_lc (own := [("_law_literal", 8)]) (g := (gName 8)) (tt := tYes) rfl sc_law_least.nd (pi_list (pv 5)) (blkOk_by (N := ["_law_net_here", "_law_first", "_law_inner_here", "_law_found", "_law_node", "_law_leaves_here", "_law_total", "_law_height", "_law_literal"]) (sc := defScope s_law_least) (by decide +kernel)) (fun _ _ _ _ _ => (pg_name (i := 8) sc_law_least.nd rfl (Or.inl rfl))) (fun _ _ _ _ _ => pts_nil) (fun _ _ _ _ _ => (pe_op op_oneShl pe_int (pe_ix (ix_list : IxR _ (rIxL K)) (pv 3) (pe_op op_halfN (pv 8) pe_int) (fun _ _ => rfl))))) pa_nil)))
      (C8.pss_cut (ps_if (pt_cmpR op_gt (pe_callB call_len_seq (by rfl) T.n_len (by decide +kernel) (pa_cons (pe_lc (own := [("_law_literal", 8)]) (g := (gName 8)) rfl sc_law_least.nd (pi_list (pv 5)) (blkOk_by (N := ["_law_net_here", "_law_first", "_law_inner_here", "_law_found", "_law_node", "_law_leaves_here", "_law_total", "_law_height", "_law_literal"]) (sc := defScope s_law_least) (by decide +kernel)) (fun _ _ _ _ _ => (pg_name (i := 8) sc_law_least.nd rfl (Or.inl rfl))) (fun _ _ _ _ _ => (pts_one (pt_cmpR (op_in_seq : OpR _ _ (rIn K false)) (pe_op op_xorB (pv 8) pe_int) (pv 5) (by rfl)))) (fun _ _ _ _ _ => (pv 8))) pa_nil)) pe_int (nomark _)) (pss_one (ps_set (i := 6) sc_law_least.nd rfl (Or.inl rfl) pe_int)) pss_nil)
      (pss_cons (ps_set (i := 7) sc_law_least.nd rfl (Or.inl rfl) pe_int)
      (C8.pss_cut (ps_while PassesOwn.never (pt_cmpR op_lt (pe_op op_oneShl pe_int (pv 7)) (pv 6) (nomark _)) (pss_one (ps_aug (i := 7) sc_law_least.nd rfl (Or.inl rfl) pe_int ip_add)))
      (pss_one (ps_expr (pe_bm PySem.F.plainAttrs_list PySem.F.slot_list_append PySem.F.type_list_append mt_append (pv 3) (pa_cons (pv 7) pa_nil))))))))))))
      (pss_one (ps_ret (pv 3))))))), ?_⟩
  obtain ⟨p, pi, pr, pa, po, pc, vr, va, vo, vc, rfl, hN⟩ := lv.net
  have hl := hN.lens
  refine ⟨fun σ' H' => σ' = [some (.ref p), some (vI N.first), none, none, none, none, none, none, none] ∧ H' = H, ?_, ?_⟩
  · refine ⟨_, rfl, p, _, _, _, rfl, rfl, SqT.of hN.top, atI_nat (j := 1) rfl, pi, _, rfl, .inr (SqT.of hN.hi), _, _, rfl, rfl, _, rfl, p, _, _, _, rfl, rfl, SqT.of hN.top, atI_nat (j := 2) rfl, pr, _, rfl, .inr (SqT.of hN.hr), _, _, rfl, rfl, ?_, rfl⟩
    exact congrArg (fun z => [some (.ref p), some z, none, none, none, none, none, none, none]) (first_val hN)
  rintro σ' H' ⟨rfl, rfl⟩
  refine ⟨_, rfl, _, N, rfl, hN.lay, R, h500, r100, o100, c100, fun I H1 s1 nI eI => ?_⟩
  refine ⟨one_line, fun z0 hz0 => ?_⟩
  have s2 := s1.trans (same_new hz0 (.lst [V.int 0]))
  refine ⟨_, rfl, z0, _, [V.int 0], rfl, rfl, upd_same, by omega, by unfold Net.size at h500; omega, ?_, fun S hS => ?_⟩
  · rw [show ((N.first : Int)).toNat = N.first by omega]
    show 1 * _ ≤ _
    exact le1000 (by unfold Net.size at h500; omega)
  rw [show ((N.first : Int)).toNat = N.first by omega, flat_rep, rep_lev]
  have hS0 : H' S = none := s2.free hS
  have s3 := same_put s2 hS0 (o := .lst ((levL N 0).map optV))
  have eI3 : L2.upd (L2.upd H1 z0 (.lst [V.int 0])) S (.lst ((levL N 0).map optV)) I = some (.lst ((innL N).map vI)) := ((same_new hz0 (.lst [V.int 0])).trans (same_new hS _)) _ _ eI
  have eS : L2.upd (L2.upd H1 z0 (.lst [V.int 0])) S (.lst ((levL N 0).map optV)) S = some (.lst ((levL N 0).map optV)) := upd_same
  have nSI : S ≠ I := fun k => by rw [k] at hS; rw [(same_new hz0 (.lst [V.int 0])) _ _ eI] at hS; cases hS
  generalize L2.upd (L2.upd H1 z0 (.lst [V.int 0])) S (.lst ((levL N 0).map optV)) = H3 at s3 eI3 eS ⊢
  refine ⟨_, rfl, _, rfl, _, rfl, p, _, _, _, rfl, rfl, SqT.of (s3 _ _ hN.top), atI_nat (j := 3) rfl, pa, _, rfl, .inr (SqT.of (s3 _ _ hN.ha)), _, _, rfl, rfl, (N.first : Int), (N.first : Int) + (va.length : Int), rfl, by unfold Net.size at h500; omega, ?_⟩
  rw [show ((N.first : Int) + (va.length : Int) - (N.first : Int)).toNat = N.ands.length by omega]
  refine for_it walk_range (fun i σ' Hx => ∃ v4 v5 v6 v7 v8, σ' = [some (.ref p), some (vI N.first), some (.ref I), some (.ref S), v4, v5, v6, v7, v8] ∧ Same H' Hx ∧ Hx I = some (.lst ((innL N).map vI)) ∧ Hx S = some (.lst ((levL N i).map optV)))
    ⟨_, _, _, _, _, rfl, s3, eI3, eS⟩ (fun _ _ _ _ _ => trivial) (fun i x σ' H4 H5 hi pp y => ?_) (fun σ' H4 pp => ?_)
  · obtain ⟨v4, v5, v6, v7, v8, rfl, sm, eI4, eS4⟩ := pp
    obtain ⟨rfl, rfl⟩ := y
    have ll := levL_len N i
    have e2 : ((N.first : Int) + (i : Int)) = ((N.first + i : Nat) : Int) := by omega
    have hx : N.first + i < N.size := by unfold Net.size; omega
    have lb : ((levL N i).map optV).length < sizeLine := by rw [List.length_map, ll]; exact small1000 (by unfold Net.size at h500; omega)
    have nx : ∀ (hh : Option Nat) (H6 : Hp) (v4 v5 v6 v7 v8 : Option V), hh = levAt N (levL N i) (N.first + i) → Same H5 H6 → ∃ v4' v5' v6' v7' v8', [some (V.ref p), some (vI N.first), some (.ref I), some (.ref S), v4, v5, v6, v7, v8] = [some (.ref p), some (vI N.first), some (.ref I), some (.ref S), v4', v5', v6', v7', v8'] ∧ Same H' (L2.upd H6 S (.lst ((levL N i).map optV ++ [optV hh]))) ∧ L2.upd H6 S (.lst ((levL N i).map optV ++ [optV hh])) I = some (.lst ((innL N).map vI)) ∧ L2.upd H6 S (.lst ((levL N i).map optV ++ [optV hh])) S = some (.lst ((levL N (i + 1)).map optV)) := by
      rintro hh H6 v4 v5 v6 v7 v8 rfl s6
      refine ⟨_, _, _, _, _, rfl, same_put (sm.trans s6) hS0, (upd_ne nSI.symm).trans (s6 _ _ eI4), ?_⟩
      rw [upd_same]
      show _ = some (HO.lst ((levL N i ++ [levAt N (levL N i) (N.first + i)]).map optV))
      rw [List.map_append]
      rfl
    have mem : N.first + i ∈ innL N ↔ N.inn (N.first + i) = true := by
      unfold innL
      rw [List.mem_filter]
      exact ⟨fun k => k.2, fun k => ⟨List.mem_map.mpr ⟨i, List.mem_range.mpr hi, rfl⟩, k⟩⟩
    refine ⟨_, rfl, _, rfl, I, (innL N).map vI, rfl, .inl (SqL.of eI4), rfl, flat_ints _, _, rfl, ite2 (fun hb => ?_) (fun hb => ?_)⟩
    · have hb : inV (V.int ((N.first : Int) + (i : Int))) ((innL N).map vI) = true := hb
      rw [e2, show V.int ((N.first + i : Nat) : Int) = vI (N.first + i) from rfl, inV_int, decide_eq_true_eq] at hb
      have c := mem.mp hb
      refine ⟨_, rfl, .inl ⟨rfl, _, SqL.of eS4⟩, S, _, _, rfl, rfl, eS4, lb, ?_⟩
      exact nx none H5 _ _ _ _ _ (by unfold levAt; rw [if_pos c]) (.refl _)
    have c : N.inn (N.first + i) = false := by
      cases c : N.inn (N.first + i) with
      | false => rfl
      | true => exact absurd (show inV (V.int ((N.first : Int) + (i : Int))) ((innL N).map vI) = true by rw [e2, show V.int ((N.first + i : Nat) : Int) = vI (N.first + i) from rfl, inV_int, decide_eq_true_eq]; exact mem.mpr c) hb
    refine ⟨_, rfl, _, rfl, _, rfl, _, N, I, N.first + i, rfl, hN.lay.keep' (.same sm), R, h500, a31, SqL.of eI4, Nat.le_add_right _ _, hx, c, fun Lv H6 s6 nLv eLv => ?_⟩
    obtain ⟨ls, hls⟩ : ∃ z, z = leafL N (N.first + i) := ⟨_, rfl⟩
    rw [← hls] at eLv
    have asc : ls.Pairwise (· < ·) := hls ▸ leafL_asc N _
    have lls : ls.length ≤ 1000 := by rw [hls]; exact Nat.le_trans (leafL_len N _) (by omega)
    have hb2 : ∀ l ∈ ls, ∃ h, (levL N i)[l / 2]? = some (some h) ∧ h ≤ 6000 := fun l hl => by
      rw [hls] at hl
      have lf := (mem_leafL R (Nat.le_add_right _ _)).mp hl
      have lt := lf.lt R (Nat.le_add_right _ _)
      obtain ⟨y, ey⟩ := levL_some N (k := l / 2) (i := i) (by omega) lf.1
      have := levL_le (N := N) (by omega) i (by omega) _ _ ey
      exact ⟨y, ey, by unfold Net.size at h500; omega⟩
    have eS6 := s6 _ _ eS4
    refine ⟨_, rfl, Lv, rfl, ⟨_, SqL.of eLv⟩, fun D hD => ?_⟩
    refine lc_rows (walk_list (xs := ls.map vI)) (rows := ls) (f := intD) (g := fun l => (2 : Int) ^ (getH (levL N i) (l / 2))) (h := zD) (fun H' s => SqL.of (s _ _ eLv)) hD (LayAll.ints ls) lls (fun j x l H' Rk Z hl s lx k => ?_) (fun us H7 s7 eD lu => ?_)
    · obtain rfl := lx.int_inv
      obtain ⟨h, e, hh⟩ := hb2 l (List.mem_of_getElem? hl)
      refine ⟨rfl, _, rfl, _, rfl, l, rfl, rfl, S, _, _, vI h, rfl, rfl, SqL.of (s _ _ eS6), atI_nat (by rw [List.getElem?_map, e]; rfl), h, rfl, rfl, Nat.le_trans hh (by decide), ?_⟩
      have := k (V.int ((2 : Int) ^ h)) _ (.refl _) (by rw [getH_some e]; exact .int _)
      exact this
    rw [lay_zs lu] at eD
    have esum : (ls.map fun l => (2 : Int) ^ (getH (levL N i) (l / 2))).sum = ((sumP (ls.map fun l => getH (levL N i) (l / 2)) : Nat) : Int) := by
      rw [← sum_pows, List.map_map]
      rfl
    have s67 := s6.trans s7
    refine ⟨D, _, rfl, SqL.of eD, ?_⟩
    rw [esum]
    obtain ⟨tt, htt⟩ : ∃ z, z = sumP (ls.map fun l => getH (levL N i) (l / 2)) := ⟨_, rfl⟩
    rw [← htt]
    refine ⟨fun σ' Hx => ∃ v8, σ' = [some (.ref p), some (vI N.first), some (.ref I), some (.ref S), some (.int ((N.first : Int) + (i : Int))), some (.ref Lv), some (vI (if oppB ls = true then 1 else tt)), v7, v8] ∧ Same H5 Hx, ?_, fun σ8 H8 p8 => ?_⟩
    · refine ⟨_, rfl, Lv, rfl, ⟨_, SqL.of (s7 _ _ eLv)⟩, fun D2 hD2 => ?_⟩
      refine lc_filt (walk_list (xs := ls.map vI)) (p := fun l => decide (l ^^^ 1 ∈ ls)) (fun H' s => SqL.of (s _ _ (s7 _ _ eLv))) hD2 lls (fun l H' Rk Z hl s ky kn => ?_) (fun H8 s8 eD2 => ?_)
      · refine ⟨rfl, _, rfl, l, 1, rfl, rfl, _, rfl, Lv, ls.map vI, rfl, .inl (SqL.of (s _ _ (s7 _ _ eLv))), rfl, flat_ints _, _, rfl, ite2 (fun h => ⟨_, rfl, ky ?_⟩) (fun h => kn ?_)⟩
        · have h : inV (vI (l ^^^ 1)) (ls.map vI) = true := h
          rw [inV_int] at h
          exact h
        · have h : ¬ inV (vI (l ^^^ 1)) (ls.map vI) = true := h
          rw [inV_int] at h
          cases hd : decide (l ^^^ 1 ∈ ls) with
          | false => rfl
          | true => exact absurd hd h
      · refine ⟨D2, _, rfl, .inl (SqL.of eD2), _, _, rfl, rfl, _, rfl, ite2 (fun h => ?_) (fun h => ?_)⟩
        · have h : (0 : Int) < ((((ls.filter fun l => decide (l ^^^ 1 ∈ ls)).map vI).length : Nat) : Int) := of_decide_eq_true h
          rw [if_pos ((opp_len ls).mpr (by omega))]
          exact ⟨_, rfl, s67.trans s8⟩
        · have h : ¬ (0 : Int) < ((((ls.filter fun l => decide (l ^^^ 1 ∈ ls)).map vI).length : Nat) : Int) := fun k => h (decide_eq_true k)
          rw [if_neg (fun k => h (by have := (opp_len ls).mp k; omega))]
          exact ⟨_, rfl, s67.trans s8⟩
    obtain ⟨v8', rfl, s8⟩ := p8
    have eh : clog (if oppB ls = true then 1 else tt) = headH (levL N i) ls := by
      unfold headH
      rw [← htt]
      split <;> rfl
    have hcl : headH (levL N i) ls ≤ 6000 := by
      have e := levL_at N (Nat.lt_succ_self i)
      unfold levAt at e
      rw [if_neg (by rw [c]; decide), ← hls] at e
      have := levL_le (N := N) (by omega) (i + 1) (by unfold Net.size; omega) _ _ e
      unfold Net.size at h500
      omega
    rw [← eh] at hcl
    generalize (if oppB ls = true then 1 else tt) = T1 at eh hcl ⊢
    refine ⟨fun σ' Hx => ∃ v8, σ' = [some (.ref p), some (vI N.first), some (.ref I), some (.ref S), some (.int ((N.first : Int) + (i : Int))), some (.ref Lv), some (vI T1), some (vI (clog T1)), v8] ∧ Hx = H8, ?_, fun σ9 H9 p9 => ?_⟩
    · refine ⟨fun m σ' Hx => ∃ h : Nat, σ' = [some (.ref p), some (vI N.first), some (.ref I), some (.ref S), some (.int ((N.first : Int) + (i : Int))), some (.ref Lv), some (vI T1), some (vI h), v8'] ∧ Hx = H8 ∧ h ≤ clog T1 ∧ m = clog T1 - h, ⟨_, 0, rfl, rfl, Nat.zero_le _, rfl⟩, fun m σ' Hx pp => ?_⟩
      obtain ⟨h, rfl, rfl, hh, rfl⟩ := pp
      refine ⟨_, rfl, h, rfl, rfl, by omega, _, rfl, _, _, rfl, rfl, _, rfl, ite2 (fun z => ?_) (fun z => ?_)⟩
      · have z : (2 : Int) ^ h < (T1 : Int) := of_decide_eq_true z
        have hlt : h < clog T1 := Nat.lt_of_not_le fun k => by
          have h1 := le_clog T1
          have h2 : 2 ^ clog T1 ≤ 2 ^ h := Nat.pow_le_pow_right (by decide) k
          have e : ((2 : Int) ^ h) = ((2 ^ h : Nat) : Int) := by rw [Int.natCast_pow]; rfl
          rw [e] at z
          omega
        refine ⟨_, fun _ _ h => h, _, rfl, _, _, rfl, rfl, ?_⟩
        exact ⟨clog T1 - (h + 1), by omega, h + 1, rfl, rfl, hlt, rfl⟩
      · have z : ¬ (2 : Int) ^ h < (T1 : Int) := fun k => z (decide_eq_true k)
        have e : ((2 : Int) ^ h) = ((2 ^ h : Nat) : Int) := by rw [Int.natCast_pow]; rfl
        rw [e] at z
        have : clog T1 ≤ h := clog_le (by omega)
        have : h = clog T1 := by omega
        subst this
        exact ⟨_, rfl, rfl⟩
    obtain ⟨v8', rfl, rfl⟩ := p9
    refine ⟨_, rfl, .inl ⟨rfl, _, SqL.of (s8 _ _ eS4)⟩, _, rfl, S, _, _, rfl, rfl, s8 _ _ eS4, lb, ?_⟩
    exact nx (some (clog T1)) _ _ _ _ _ _ (by unfold levAt; rw [if_neg (by rw [c]; decide), ← hls, eh]) s8
  · obtain ⟨v4, v5, v6, v7, v8, rfl, sm, eI4, eS4⟩ := pp
    exact ⟨_, rfl, q S _ sm eS4⟩
end
end Bf

set_option Elab.async false
set_option linter.all false
set_option maxRecDepth 100000
set_option maxHeartbeats 4000000
namespace Bf
open PySem PySem.Spec PyProof.Rows L2
/-! ### the lowest tree, by all merges -/
def rowD (r : List Nat) : PyData := .tuple (r.map intD)
def keyL (r : List Nat) : List Key := r.map fun n : Nat => Sum.inl (n : Int)
theorem keyL_V (r : List Nat) : (keyL r).map kV = r.map vI := by
  unfold keyL
  rw [List.map_map]
  rfl
theorem keyL_inj : ∀ {r s : List Nat}, keyL r = keyL s → r = s
  | [], [], _ => rfl
  | [], _ :: _, h => by cases h
  | _ :: _, [], h => by cases h
  | a :: r, b :: s, h => by
    have h : (Sum.inl (a : Int) : Key) :: keyL r = Sum.inl (b : Int) :: keyL s := h
    obtain ⟨h1, h2⟩ := List.cons.inj h
    have h1 : (a : Int) = (b : Int) := Sum.inl.inj h1
    rw [keyL_inj h2, show a = b by omega]
def FD (FS : List (List Nat)) : List (List Key × V) := FS.map fun r => (keyL r, V.bl true)
def addL (FS : List (List Nat)) (r : List Nat) : List (List Nat) := if r ∈ FS then FS else FS ++ [r]
theorem mem_addL {FS : List (List Nat)} {x y : List Nat} : y ∈ addL FS x ↔ y ∈ FS ∨ y = x := by
  unfold addL
  by_cases h : x ∈ FS
  · rw [if_pos h]
    exact ⟨.inl, fun q => q.elim id fun e => e ▸ h⟩
  · rw [if_neg h]
    simp
theorem addL_len {FS : List (List Nat)} {x : List Nat} : (addL FS x).length ≤ FS.length + 1 := by
  unfold addL
  split
  · omega
  · rw [List.length_append]; exact Nat.le_refl _
theorem put_FD (FS : List (List Nat)) (r : List Nat) : putK (FD FS) (keyL r) (.bl true) = FD (addL FS r) := by
  unfold putK addL FD
  by_cases h : r ∈ FS
  · rw [if_pos h, if_pos]
    · conv => rhs; rw [← List.map_id (FS.map _)]
      refine List.map_congr_left fun kv hkv => ?_
      obtain ⟨y, _, rfl⟩ := List.mem_map.mp hkv
      by_cases e : keyL y = keyL r
      · rw [if_pos e]; rfl
      · rw [if_neg e]; rfl
    · rw [List.any_eq_true]
      exact ⟨(keyL r, .bl true), List.mem_map_of_mem (f := fun r => (keyL r, V.bl true)) h, decide_eq_true rfl⟩
  · rw [if_neg h, if_neg, List.map_append]
    · rfl
    · rw [List.any_eq_true]
      rintro ⟨kv, hkv, q⟩
      obtain ⟨y, hy, rfl⟩ := List.mem_map.mp hkv
      exact h (keyL_inj (of_decide_eq_true q) ▸ hy)
theorem keys_lay {H : Hp} : ∀ {FS : List (List Nat)} {bs : List Addr}, IsKeys H (FD FS) bs → LayAll H (bs.map V.ref) (FS.map rowD)
  | [], bs, h => by cases h; exact .nil
  | r :: FS, bs, h => by
    cases h with
    | cons h1 h2 => exact .cons (.tup (by rw [← keyL_V]; exact h1) (.ints r)) (keys_lay h2)
theorem sortedP {M : List Nat} {ys : List Int} (h : ys.Perm (castL M)) (hp : ys.Pairwise (· ≤ ·)) : ∃ zs : List Nat, ys.map V.int = zs.map vI ∧ zs.Perm M ∧ zs.Pairwise (· ≤ ·) := by
  have e : ∀ y ∈ ys, y = ((y.toNat : Nat) : Int) := fun y hy => by
    obtain ⟨x, _, rfl⟩ := List.mem_map.mp (h.mem_iff.mp hy)
    simp
  have pz : (ys.map Int.toNat).Perm M := by
    have := h.map Int.toNat
    unfold castL at this
    rw [List.map_map] at this
    have q : M.map (Int.toNat ∘ fun x : Nat => (x : Int)) = M := by
      conv => rhs; rw [← List.map_id M]
      exact List.map_congr_left fun x _ => by simp
    rwa [q] at this
  refine ⟨ys.map Int.toNat, ?_, pz, List.pairwise_map.mpr (hp.imp fun h => Int.toNat_le_toNat h)⟩
  rw [List.map_map]
  exact List.map_congr_left fun y hy => congrArg V.int (e y hy)
structure TI (n S t L : Nat) (HT H' : Hp) (D : Addr) (bnd : Nat) (good : Prop) (FS : List (List Nat)) : Prop where
  e : H' D = some (.dT (FD FS))
  k : Keep [D] HT H'
  ok : ∀ r ∈ FS, MRow n S (t + 1) r
  len : FS.length ≤ bnd
  gd : good → ∃ r ∈ FS, sumP r ≤ 2 ^ L
theorem TI.weak {n S t L b b' : Nat} {HT H' : Hp} {D : Addr} {g g' : Prop} {FS : List (List Nat)} (h : TI n S t L HT H' D b g FS) (hb : b ≤ b') (hg : g' → g) : TI n S t L HT H' D b' g' FS := ⟨h.e, h.k, h.ok, Nat.le_trans h.len hb, fun q => h.gd (hg q)⟩
theorem TI.same {n S t L b : Nat} {HT H' H'' : Hp} {D : Addr} {g : Prop} {FS : List (List Nat)} (h : TI n S t L HT H' D b g FS) (s : Same H' H'') : TI n S t L HT H'' D b g FS := ⟨s _ _ h.e, h.k.trans (.of_same s), h.ok, h.len, h.gd⟩
def spLowest (K : PySem.W.Frag) : Sp := fun vs H Q _ => ∃ (a : Addr) (hs : List Nat), vs = [.ref a] ∧ SqL K H a (hs.map vI) ∧ 1 ≤ hs.length ∧ hs.length ≤ 5 ∧ (∀ h ∈ hs, h ≤ 6000) ∧ ∀ H', Same H H' → Q (vI (clog (sumP hs))) H'
section
variable {P : Program} {w : World} {K : PySem.W.Frag} {mg : Str → Option Value} {base : Heap} {f : Addr} {fd : FuncData}
theorem ok_lowest (F : Fun K "_law_lowest_tree" "_law_lowest_tree" s_law_lowest_tree f fd) (T : Txt mg) : FnOk P w K mg base CX0 1 f fd ["_law_tall"] (spLowest K) := by
  refine F.ok sc_law_lowest_tree (fun vs H Q E h => ?_) (fun cdv A outer s H vs Q E hr h => ?_)
  · obtain ⟨a, hs, rfl, _⟩ := h
    rfl
  obtain ⟨a, hs, rfl, ea, n1, n5, hb, q⟩ := h
  refine ⟨_, (pss_cons (ps_set (i := 1) sc_law_lowest_tree.nd rfl (Or.inl rfl) (pe_lst (pa_cons (pe_callTy call_tuple_of (by rfl) T.n_tuple (by decide +kernel) (pa_cons (pe_callB cr_sortedI (by rfl) T.n_sorted (by decide +kernel) (pa_cons (pv 0) pa_nil)) pa_nil)) pa_nil)))
      (pss_cons (ps_for PassesOwn.never rfl (pi_range1 rfl T.n_range (pa_cons (pe_op op_sub (pe_callB call_len_seq (by rfl) T.n_len (by decide +kernel) (pa_cons (pv 0) pa_nil)) pe_int) pa_nil)) (pg_name (i := 2) sc_law_lowest_tree.nd rfl (Or.inl rfl)) (pss_cons (ps_set (i := 3) sc_law_lowest_tree.nd rfl (Or.inl rfl) pe_dnewT)
      (pss_cons (ps_for PassesOwn.never rfl (pi_list (pv 1)) (pg_name (i := 4) sc_law_lowest_tree.nd rfl (Or.inr rfl)) (pss_one (ps_for PassesOwn.never rfl (pi_range1 rfl T.n_range (pa_cons (pe_callB call_len_seq (by rfl) T.n_len (by decide +kernel) (pa_cons (pv 4) pa_nil)) pa_nil)) (pg_name (i := 5) sc_law_lowest_tree.nd rfl (Or.inr rfl)) (pss_one (ps_for PassesOwn.never rfl (pi_range1 rfl T.n_range (pa_cons (pv 5) pa_nil)) (pg_name (i := 6) sc_law_lowest_tree.nd rfl (Or.inr rfl)) (pss_cons (ps_setLc (i := 7) (own := [("_law_k", 8)]) (g := (gName 8)) rfl sc_law_lowest_tree.nd rfl rfl (sw_true rfl rfl rfl (by decide +kernel)) (pi_range1 rfl T.n_range (pa_cons (pe_callB call_len_seq (by rfl) T.n_len (by decide +kernel) (pa_cons (pv 4) pa_nil)) pa_nil)) (blkOk_by (N := ["_law_tall", "_law_rows", "_law_turn", "_law_fresh", "_law_row", "_law_at", "_law_other", "_law_rest", "_law_k"]) (sc := defScope s_law_lowest_tree) (by decide +kernel)) (fun _ _ _ _ _ => (pg_name (i := 8) sc_law_lowest_tree.nd rfl (Or.inl rfl))) (fun _ _ _ _ _ => (pts_one (PW.pt (pw_and (pt_cmpR op_ne (pv 8) (pv 5) (nomark _)) (pw_and1 (pt_cmpR op_ne (pv 8) (pv 6) (nomark _))))))) (fun _ _ _ _ _ => (pe_ix (ix_tup : IxR _ (rIxT K)) (pv 4) (pv 8) (fun _ _ => rfl))))
      (pss_one (ps_dput (hu_of hr) (pv 3) (pe_callTy call_tuple_of (by rfl) T.n_tuple (by decide +kernel) (pa_cons (pe_callB cr_sortedI (by rfl) T.n_sorted (by decide +kernel) (pa_cons (pe_op op_cat (pv 7) (pe_lst (pa_cons (pe_op op_add pe_int (pe_ix ix_tup (pv 4) (pv 5) (fun _ _ => rfl))) pa_nil))) pa_nil)) pa_nil)) pe_bl rfl))))))))
      (pss_one (ps_set (i := 1) sc_law_lowest_tree.nd rfl (Or.inl rfl) (pe_callTy (call_list_dT rfl) (by rfl) T.n_list (by decide +kernel) (pa_cons (pv 3) pa_nil)))))))
      (pss_one (ps_ret (pe_callB (cr_min rfl) (by rfl) T.n_min (by decide +kernel) (pa_cons (pe_lc (own := [("_law_row", 4)]) (g := (gName 4)) (tt := tYes) rfl sc_law_lowest_tree.nd (pi_list (pv 1)) (blkOk_by (N := ["_law_tall", "_law_rows", "_law_turn", "_law_fresh", "_law_row", "_law_at", "_law_other", "_law_rest", "_law_k"]) (sc := defScope s_law_lowest_tree) (by decide +kernel)) (fun _ _ _ _ _ => (pg_name (i := 4) sc_law_lowest_tree.nd rfl (Or.inl rfl))) (fun _ _ _ _ _ => pts_nil) (fun _ _ _ _ _ => (pe_ix (ix_tup : IxR _ (rIxT K)) (pv 4) pe_int (fun _ _ => rfl)))) pa_nil)))))), ?_⟩
  obtain ⟨n, hn⟩ : ∃ n, n = hs.length := ⟨_, rfl⟩
  obtain ⟨S, hS⟩ : ∃ S, S = sumP hs := ⟨_, rfl⟩
  obtain ⟨L, hL⟩ : ∃ L, L = clog S := ⟨_, rfl⟩
  rw [← hS, ← hL] at q
  refine ⟨_, rfl, a, castL hs, rfl, by rw [castL_V]; exact ea, fun ys1 p1 pm1 pw1 hp1 => ?_⟩
  obtain ⟨zs1, ez1, pz1, wz1⟩ := sortedP pm1 pw1
  rw [ez1]
  have s1 := same_new hp1 (.lst (zs1.map vI))
  refine ⟨p1, _, rfl, .inl ⟨SqL.of upd_same, fun t1 ht1 => ⟨one_line, fun Rl hRl => ?_⟩⟩⟩
  have s2 := s1.trans (same_new ht1 (.tup (zs1.map vI)))
  have s3 := s2.trans (same_new hRl (.lst [.ref t1]))
  have et1 := (same_new hRl (.lst [.ref t1])) _ _ (upd_same : L2.upd (L2.upd H p1 (.lst (zs1.map vI))) t1 (.tup (zs1.map vI)) t1 = _)
  have eR1 : L2.upd (L2.upd (L2.upd H p1 (.lst (zs1.map vI))) t1 (.tup (zs1.map vI))) Rl (.lst [.ref t1]) Rl = some (.lst [.ref t1]) := upd_same
  generalize L2.upd (L2.upd (L2.upd H p1 (.lst (zs1.map vI))) t1 (.tup (zs1.map vI))) Rl (.lst [.ref t1]) = H1 at s3 et1 eR1 ⊢
  have m0 : MRow n S 0 zs1 := ⟨by rw [pz1.length_eq, ← hn]; rfl, wz1, by rw [sumP_perm pz1, hS]; exact Nat.le_refl _⟩
  have g0 : sumP zs1 ≤ 2 ^ L := by rw [sumP_perm pz1, ← hS, hL]; exact le_clog S
  refine ⟨_, rfl, a, _, rfl, .inl (seqL_same s3 ea), _, _, rfl, rfl, ((hs.map vI).length : Int) - 1, rfl, by rw [List.length_map]; omega, by rw [List.length_map]; omega, for_it walk_range (fun t σ' H' => ∃ (Rl : Addr) (v2 v3 v4 v5 v6 v7 v8 : Option V), σ' = [some (.ref a), some (.ref Rl), v2, v3, v4, v5, v6, v7, v8] ∧ Same H H' ∧ ∃ (RS : List (List Nat)) (vs : List V), H' Rl = some (.lst vs) ∧ LayAll H' vs (RS.map rowD) ∧ (∀ r ∈ RS, MRow n S t r) ∧ (∃ r ∈ RS, sumP r ≤ 2 ^ L) ∧ RS.length ≤ 25 ^ t)
    ⟨Rl, _, _, _, _, _, _, _, rfl, s3, [zs1], _, eR1, .cons (.tup et1 (.ints zs1)) .nil, fun r hr => by rw [List.mem_singleton.mp hr]; exact m0, ⟨zs1, by simp, g0⟩, Nat.le_refl _⟩ (fun _ _ _ _ _ => trivial) (fun t x σ' H4 H5 ht pp y => ?_) (fun σ' H4 pp => ?_)⟩
  · obtain ⟨Rl, v2, v3, v4, v5, v6, v7, v8, rfl, sm, RS, vs, eR, lR, ok, gd, lRS⟩ := pp
    obtain ⟨rfl, ey⟩ := y
    have htn : t + 1 < n := by rw [List.length_map] at ht; omega
    refine fun D hD => ?_
    have hD0 : H D = none := sm.free hD
    have sD := same_new hD (.dT [])
    have smD := sm.trans sD
    have eRD := sD _ _ eR
    have lRD := lR.keep' (.same sD)
    have nRD : Rl ≠ D := fun k => by rw [k, hD] at eR; cases eR
    have eD0 : L2.upd H5 D (.dT []) D = some (.dT []) := upd_same
    generalize L2.upd H5 D (.dT []) = HT at smD eRD lRD eD0 ⊢
    have lvs : vs.length = RS.length := by rw [lRD.len, List.length_map]
    have pow5 : 25 ^ t ≤ 25 ^ 3 := Nat.pow_le_pow_right (by decide) (by omega)
    have kt : ∀ {Hx : Hp}, Keep [D] HT Hx → KeepT HT Hx := fun k b xs e => k b _ (fun m => by rw [List.mem_singleton.mp m, eD0] at e; cases e) e
    have sk : ∀ {Hx : Hp}, Keep [D] HT Hx → Same H Hx := fun k b o e => k b o (fun m => by rw [List.mem_singleton.mp m, hD0] at e; cases e) (smD b o e)
    refine ⟨_, rfl, Rl, rfl, ⟨_, SqL.of eRD⟩, for_it (walk_list (xs := vs)) (fun i σ' Hx => ∃ (v4 v5 v6 v7 v8 : Option V) (FS : List (List Nat)), σ' = [some (.ref a), some (.ref Rl), some x, some (.ref D), v4, v5, v6, v7, v8] ∧ TI n S t L HT Hx D (25 * i) (∃ r ∈ RS.take i, sumP r ≤ 2 ^ L) FS)
      ⟨_, _, _, _, _, [], rfl, eD0, .refl _ _, fun r hr => (by cases hr), Nat.zero_le _, fun ⟨r, hr, _⟩ => (by rw [List.take_zero] at hr; cases hr)⟩ (fun i σ' Hx _ pp => ?_) (fun i z σ' H6 H7 hi pp y => ?_) (fun σ' H6 pp => ?_)⟩
    · obtain ⟨_, _, _, _, _, _, _, ti⟩ := pp
      exact SqL.of (ti.k _ _ (by simpa using nRD) eRD)
    · obtain ⟨v4, v5, v6, v7, v8, FS, rfl, ti⟩ := pp
      obtain ⟨rfl, ez⟩ := y
      obtain ⟨r, hr⟩ : ∃ r, RS[i]? = some r := ⟨_, List.getElem?_eq_getElem (by omega)⟩
      have mr := ok r (List.mem_of_getElem? hr)
      have lr := mr.len
      obtain ⟨vz, evz, lz⟩ := lRD.at_ (d := rowD r) i (by rw [List.getElem?_map, hr]; rfl)
      rw [ez] at evz
      cases evz
      obtain ⟨ri, vr, rfl, er, lvr⟩ := lz.tup_inv
      have evr : vr = r.map vI := lay_intD lvr
      subst evr
      have ert : ∀ {Hx : Hp}, Keep [D] HT Hx → Hx ri = some (.tup (r.map vI)) := fun k => kt k _ _ er
      have lr5 : r.length ≤ 5 := by omega
      refine ⟨_, rfl, ri, _, rfl, .inr (SqT.of (ert ti.k)), ((r.map vI).length : Int), rfl, by rw [List.length_map]; omega, by rw [List.length_map]; omega, for_it walk_range (fun b σ' Hx => ∃ (v5 v6 v7 v8 : Option V) (FS : List (List Nat)), σ' = [some (.ref a), some (.ref Rl), some x, some (.ref D), some (.ref ri), v5, v6, v7, v8] ∧ TI n S t L HT Hx D (25 * i + 5 * b) ((∃ r ∈ RS.take i, sumP r ≤ 2 ^ L) ∨ sumP r ≤ 2 ^ L ∧ 2 ≤ b) FS)
        ⟨_, _, _, _, FS, rfl, ti.weak (Nat.le_add_right _ _) (fun g => g.elim id fun k => absurd k.2 (by decide))⟩ (fun _ _ _ _ _ => trivial) (fun b z σ' H8 H9 hb pp y => ?_) (fun σ' H8 pp => ?_)⟩
      · obtain ⟨v5, v6, v7, v8, FS, rfl, ti⟩ := pp
        obtain ⟨rfl, rfl⟩ := y
        have hbr : b < r.length := by rw [List.length_map] at hb; omega
        refine ⟨_, rfl, (0 + (b : Int)), rfl, by omega, by omega, for_it walk_range (fun o σ' Hx => ∃ (v6 v7 v8 : Option V) (FS : List (List Nat)), σ' = [some (.ref a), some (.ref Rl), some x, some (.ref D), some (.ref ri), some (.int (0 + (b : Int))), v6, v7, v8] ∧ TI n S t L HT Hx D (25 * i + 5 * b + o) ((∃ r ∈ RS.take i, sumP r ≤ 2 ^ L) ∨ sumP r ≤ 2 ^ L ∧ (2 ≤ b ∨ b = 1 ∧ 1 ≤ o)) FS)
          ⟨_, _, _, FS, rfl, ti.weak (Nat.le_add_right _ _) (fun g => g.elim .inl fun k => .inr ⟨k.1, by omega⟩)⟩ (fun _ _ _ _ _ => trivial) (fun o z σ' Ha Hb ho pp y => ?_) (fun σ' H8 pp => ?_)⟩
        · obtain ⟨v6, v7, v8, FS, rfl, ti⟩ := pp
          obtain ⟨rfl, rfl⟩ := y
          have hob : o < b := by omega
          refine ⟨_, rfl, ri, _, rfl, .inr (SqT.of (ert ti.k)), ((r.map vI).length : Int), rfl, by rw [List.length_map]; omega, by rw [List.length_map]; omega, fun Dr hDr => ?_⟩
          have er' : ((r.map vI).length : Int).toNat = r.length := by rw [List.length_map]; omega
          rw [er']
          have restS : ∀ j, ((((List.range (j + 1)).filter fun k => decide (k ≠ b) && decide (k ≠ o)).map fun k => r.getD k 0).map vI) = if (decide (j ≠ b) && decide (j ≠ o)) = true then ((((List.range j).filter fun k => decide (k ≠ b) && decide (k ≠ o)).map fun k => r.getD k 0).map vI) ++ [vI (r.getD j 0)] else ((((List.range j).filter fun k => decide (k ≠ b) && decide (k ≠ o)).map fun k => r.getD k 0).map vI) := fun j => by
            rw [List.range_succ, List.filter_append, List.map_append, List.map_append]
            split <;> simp_all
          refine lc_it walk_range (fun j Hx => Same Hb Hx ∧ Hx Dr = some (.lst ((((List.range j).filter fun k => decide (k ≠ b) && decide (k ≠ o)).map fun k => r.getD k 0).map vI))) ⟨same_new hDr _, upd_same⟩ (fun _ _ _ _ => trivial) (fun j zz Hc Hd hj pp yy => ?_) (fun Hc pp => ?_)
          · obtain ⟨sc, eDr⟩ := pp
            obtain ⟨rfl, rfl⟩ := yy
            have erj : (r.map vI)[j]? = some (vI (r.getD j 0)) := by
              rw [List.getElem?_map, List.getElem?_eq_getElem hj, List.getD_eq_getElem?_getD, List.getElem?_eq_getElem hj]
              rfl
            rw [restS j]
            have no : (decide (j ≠ b) && decide (j ≠ o)) = false → Same Hb Hd ∧ Hd Dr = some (.lst (if (decide (j ≠ b) && decide (j ≠ o)) = true then ((((List.range j).filter fun k => decide (k ≠ b) && decide (k ≠ o)).map fun k => r.getD k 0).map vI) ++ [vI (r.getD j 0)] else ((((List.range j).filter fun k => decide (k ≠ b) && decide (k ≠ o)).map fun k => r.getD k 0).map vI))) := fun h => ⟨sc, by rw [if_neg (by rw [h]; decide)]; exact eDr⟩
            refine ⟨rfl, _, rfl, _, rfl, rfl, _, rfl, ite2 (fun h1 => ⟨_, rfl, _, rfl, rfl, _, rfl, ite2 (fun h2 => ?_) (fun h2 => no ?_)⟩) (fun h1 => iteF (no ?_))⟩
            · have hc : (decide (j ≠ b) && decide (j ≠ o)) = true := by
                rw [Bool.and_eq_true]
                refine ⟨decide_eq_true fun k => ?_, decide_eq_true fun k => ?_⟩
                · rw [k] at h1; simp at h1
                · rw [k] at h2; simp at h2
              refine ⟨_, rfl, _, rfl, ri, _, _, vI (r.getD j 0), rfl, rfl, SqT.of (sc _ _ (ert ti.k)), atI0 erj, _, eDr, ?_, same_two sc hDr, ?_⟩
              · rw [List.length_map, List.length_map]
                refine small1000 (Nat.le_trans (List.length_filter_le _ _) ?_)
                rw [List.length_range]
                omega
              · rw [upd_same, if_pos hc]
            · have : j = o := by
                have := Bool.not_eq_true _ ▸ h2
                have e : decide (V.int (0 + (j : Int)) = V.int (0 + (o : Int))) = true := by
                  cases hd : decide (V.int (0 + (j : Int)) = V.int (0 + (o : Int))) with
                  | true => rfl
                  | false => exact absurd (show (!decide (V.int (0 + (j : Int)) = V.int (0 + (o : Int)))) = true by rw [hd]; rfl) h2
                have := V.int.inj (of_decide_eq_true e)
                omega
              rw [this]
              simp
            · have : j = b := by
                have e : decide (V.int (0 + (j : Int)) = V.int (0 + (b : Int))) = true := by
                  cases hd : decide (V.int (0 + (j : Int)) = V.int (0 + (b : Int))) with
                  | true => rfl
                  | false => exact absurd (show (!decide (V.int (0 + (j : Int)) = V.int (0 + (b : Int)))) = true by rw [hd]; rfl) h1
                have := V.int.inj (of_decide_eq_true e)
                omega
              rw [this]
              simp
          · obtain ⟨sc, eDr⟩ := pp
            have eDr : Hc Dr = some (.lst ((restL r b o).map vI)) := eDr
            have erb : (r.map vI)[b]? = some (vI (r.getD b 0)) := by
              rw [List.getElem?_map, List.getElem?_eq_getElem hbr, List.getD_eq_getElem?_getD, List.getElem?_eq_getElem hbr]
              rfl
            have lrest : (restL r b o).length ≤ 5 := by
              unfold restL
              rw [List.length_map]
              refine Nat.le_trans (List.length_filter_le _ _) ?_
              rw [List.length_range]
              exact lr5
            refine ⟨_, rfl, _, rfl, _, rfl, _, rfl, ri, _, _, vI (r.getD b 0), rfl, rfl, SqT.of (sc _ _ (ert ti.k)), atI0 erb, _, _, rfl, rfl, one_line, fun Lx hLx => ?_⟩
            have sL := same_new hLx (.lst [V.int (1 + ((r.getD b 0 : Nat) : Int))])
            have eL : L2.upd Hc Lx (.lst [V.int (1 + ((r.getD b 0 : Nat) : Int))]) Lx = some (.lst [V.int (1 + ((r.getD b 0 : Nat) : Int))]) := upd_same
            have eDL := sL _ _ eDr
            have tiL := (ti.same sc).same sL
            generalize L2.upd Hc Lx (.lst [V.int (1 + ((r.getD b 0 : Nat) : Int))]) = He at eL eDL tiL ⊢
            refine ⟨Dr, Lx, _, _, rfl, rfl, eDL, eL, by rw [List.length_map, sizeLine_eq]; show _ + 1 ≤ _; omega, fun Z hZ => ?_⟩
            have ecat : (restL r b o).map vI ++ [V.int (1 + ((r.getD b 0 : Nat) : Int))] = (castL (restL r b o ++ [1 + r.getD b 0])).map V.int := by
              rw [castL_V, List.map_append]
              rfl
            rw [ecat]
            have sZ := same_new hZ (.lst ((castL (restL r b o ++ [1 + r.getD b 0])).map V.int))
            refine ⟨Z, _, rfl, SqL.of upd_same, fun ys pz pm pw hpz => ?_⟩
            obtain ⟨zs, ezs, pzs, wzs⟩ := sortedP pm pw
            rw [ezs]
            have sP := same_new hpz (.lst (zs.map vI))
            refine ⟨pz, _, rfl, .inl ⟨SqL.of upd_same, fun tp htp => ?_⟩⟩
            have sT := same_new htp (.tup (zs.map vI))
            have tiT := ((tiL.same sZ).same sP).same sT
            have tl := tiT.len
            refine ⟨D, _, rfl, DPut.t (k := keyL zs) tiT.e (by rw [upd_same, keyL_V]) (by unfold FD; rw [List.length_map, sizeLine_eq]; omega), ?_⟩
            rw [put_FD]
            refine ⟨_, _, _, addL FS zs, rfl, upd_same, tiT.k.trans .at1, fun r' hr' => ?_, Nat.le_trans addL_len (by omega), fun g => ?_⟩
            · rcases mem_addL.mp hr' with k | rfl
              · exact tiT.ok r' k
              · exact mr.merge hbr hob pzs wzs
            · rcases g with g | ⟨g, cnd⟩
              · obtain ⟨r', hr', g⟩ := tiT.gd (.inl g)
                exact ⟨r', mem_addL.mpr (.inl hr'), g⟩
              · by_cases c1 : 2 ≤ b ∨ b = 1 ∧ 1 ≤ o
                · obtain ⟨r', hr', g⟩ := tiT.gd (.inr ⟨g, c1⟩)
                  exact ⟨r', mem_addL.mpr (.inl hr'), g⟩
                · have b1 : b = 1 := by omega
                  have o0 : o = 0 := by omega
                  subst b1
                  subst o0
                  exact ⟨zs, mem_addL.mpr (.inr rfl), merge_keeps mr.asc g (by omega) pzs⟩
        · obtain ⟨v6, v7, v8, FS, rfl, ti⟩ := pp
          exact ⟨_, _, _, _, FS, rfl, ti.weak (by omega) (fun g => g.elim .inl fun k => .inr ⟨k.1, by omega⟩)⟩
      · obtain ⟨v5, v6, v7, v8, FS, rfl, ti⟩ := pp
        refine ⟨_, _, _, _, _, FS, rfl, ti.weak (by rw [List.length_map]; omega) (fun g => ?_)⟩
        obtain ⟨r', hr', g⟩ := g
        rw [take_snoc hr] at hr'
        rcases List.mem_append.mp hr' with k | k
        · exact .inl ⟨r', k, g⟩
        · rw [List.mem_singleton.mp k] at g
          exact .inr ⟨g, by rw [List.length_map]; omega⟩
    · obtain ⟨v4, v5, v6, v7, v8, FS, rfl, ti⟩ := pp
      refine ⟨_, rfl, D, _, rfl, .inl ti.e, fun Rn bs hRn keys => ?_⟩
      have sn := same_new hRn (.lst (bs.map V.ref))
      have gd2 := ti.gd (by
        obtain ⟨r, hr, g⟩ := gd
        exact ⟨r, by rw [lvs, List.take_length]; exact hr, g⟩)
      have tl := ti.len
      refine ⟨Rn, _, _, _, _, _, _, _, rfl, (sk ti.k).trans sn, FS, bs.map V.ref, upd_same, (keys_lay keys).keep' (.same sn), ti.ok, gd2, ?_⟩
      rw [lvs] at tl
      rw [Nat.pow_succ]
      omega
  · obtain ⟨Rl, v2, v3, v4, v5, v6, v7, v8, rfl, sm, RS, vs, eR, lR, ok, gd, lRS⟩ := pp
    have et : (((hs.map vI).length : Int) - 1).toNat = n - 1 := by rw [List.length_map]; omega
    rw [et] at ok lRS
    have pow5 : 25 ^ (n - 1) ≤ 25 ^ 4 := Nat.pow_le_pow_right (by decide) (by omega)
    have lvs : vs.length = RS.length := by rw [lR.len, List.length_map]
    have one : ∀ r ∈ RS, ∃ x, r = [x] ∧ S ≤ 2 ^ x := fun r hr => by
      have m := ok r hr
      have l1 := m.len
      match r, m, l1 with
      | [x], m, _ => exact ⟨x, rfl, by have := m.sum; rw [sumP_cons] at this; exact this⟩
      | [], _, l1 => simp at l1; omega
      | _ :: _ :: _, _, l1 => simp only [List.length_cons] at l1; omega
    refine ⟨_, rfl, Rl, rfl, ⟨_, SqL.of eR⟩, fun Dm hDm => ?_⟩
    refine lc_it (walk_list (xs := vs)) (fun i Hx => Same H4 Hx ∧ Hx Dm = some (.lst (((RS.take i).map fun r => r.getD 0 0).map vI))) ⟨same_new hDm _, upd_same⟩ (fun i Hx _ pp => SqL.of (pp.1 _ _ eR)) (fun i x H6 H7 hi pp y => ?_) (fun H6 pp => ?_)
    · obtain ⟨s6, eD⟩ := pp
      obtain ⟨rfl, ex⟩ := y
      obtain ⟨r, hr⟩ : ∃ r, RS[i]? = some r := ⟨_, List.getElem?_eq_getElem (by omega)⟩
      obtain ⟨vz, evz, lz⟩ := lR.at_ (d := rowD r) i (by rw [List.getElem?_map, hr]; rfl)
      rw [ex] at evz
      cases evz
      obtain ⟨ri, vr, rfl, er, lvr⟩ := lz.tup_inv
      have evr : vr = r.map vI := lay_intD lvr
      subst evr
      obtain ⟨x, rfl, _⟩ := one r (List.mem_of_getElem? hr)
      refine ⟨rfl, _, rfl, ri, _, _, vI x, rfl, rfl, SqT.of (s6 _ _ er), atI_nat (j := 0) rfl, _, eD, ?_, same_two s6 hDm, ?_⟩
      · rw [List.length_map, List.length_map, List.length_take, sizeLine_eq]
        omega
      · rw [upd_same, take_snoc hr, List.map_append, List.map_append]
        rfl
    · obtain ⟨s6, eD⟩ := pp
      rw [lvs, List.take_length] at eD
      obtain ⟨rg, hrg, gg⟩ := gd
      have lenp : 0 < RS.length := List.length_pos_of_mem hrg
      refine ⟨Dm, castL _, rfl, by rw [castL_V]; exact SqL.of eD, by rw [castL_len, List.length_map]; exact lenp, fun m hm hle => ?_⟩
      obtain ⟨x, hx, rfl⟩ := List.mem_map.mp hm
      obtain ⟨r, hr, rfl⟩ := List.mem_map.mp hx
      obtain ⟨y, rfl, hy⟩ := one r hr
      obtain ⟨z, rfl, hz⟩ := one rg hrg
      have l1 : L ≤ y := by rw [hL]; exact clog_le hy
      have l2 : L ≤ z := by rw [hL]; exact clog_le hz
      have l3 : z ≤ L := by
        rw [sumP_cons] at gg
        exact (Nat.pow_le_pow_iff_right (by decide)).mp (show 2 ^ z ≤ 2 ^ L from gg)
      have l4 : ((y : Nat) : Int) ≤ ((z : Nat) : Int) := hle _ (List.mem_map.mpr ⟨z, List.mem_map.mpr ⟨[z], hrg, rfl⟩, rfl⟩)
      have e : y = L := by omega
      subst e
      exact q _ (sm.trans s6)
end
end Bf

set_option Elab.async false
set_option linter.all false
set_option maxRecDepth 100000
set_option maxHeartbeats 4000000
namespace Bf
open PySem PySem.Spec PyProof.Rows L2
/-! ### told heights are lowest -/
def spAreLow : Sp := fun vs H Q _ => ∃ (v : V) (tt : Addr) (N : Net), vs = [v, .ref tt] ∧ Lay H v (netD N) ∧ N.Right ∧ N.size ≤ 500 ∧ N.ands.length ≤ 31 ∧ N.regs.length ≤ 100 ∧ N.outs.length ≤ 100 ∧ N.cls.length ≤ 100 ∧ H tt = some (.tup ((levL N N.ands.length).map optV)) ∧ ∀ H', Same H H' → Q (.bl true) H'
section
variable {P : Program} {w : World} {K : PySem.W.Frag} {mg : Str → Option Value} {base : Heap} {f : Addr} {fd : FuncData}
theorem ok_areLow (F : Fun K "_law_are_lowest" "_law_are_lowest" s_law_are_lowest f fd) (T : Txt mg) (D_law_inner : Dn P w K mg base "_law_inner" ["_law_net_here"] 1 spLInner) (D_law_leaves : Dn P w K mg base "_law_leaves" ["_law_net_here", "_law_head", "_law_inner_here"] 1 (spLLeaves K)) (D_law_lowest_tree : Dn P w K mg base "_law_lowest_tree" ["_law_tall"] 1 (spLowest K)) :
    FnOk P w K mg base CX0 2 f fd ["_law_net_here", "_law_told"] spAreLow := by
  refine F.ok sc_law_are_lowest (fun vs H Q E h => ?_) (fun cdv A outer s H vs Q E hr h => ?_)
  · obtain ⟨v, tt, N, rfl, _⟩ := h
    rfl
  obtain ⟨v, tt, N, rfl, lv, R, h500, a31, r100, o100, c100, et, q⟩ := h
  refine ⟨_, (C8.pss_cut (ps_set (i := 2) sc_law_are_lowest.nd rfl (Or.inl rfl) (pe_op op_add (pe_op op_add pe_int (pe_callB call_len_seq (by rfl) T.n_len (by decide +kernel) (pa_cons (pe_ix ix_tup (pv 0) pe_int (fun _ _ => rfl)) pa_nil))) (pe_callB call_len_seq (by rfl) T.n_len (by decide +kernel) (pa_cons (pe_ix ix_tup (pv 0) pe_int (fun _ _ => rfl)) pa_nil))))
      (pss_cons (ps_set (i := 3) sc_law_are_lowest.nd rfl (Or.inl rfl) (pe_dn D_law_inner (hr.mono (by omega)) (by rfl) (pa_cons (pv 0) pa_nil)))
      (pss_cons (ps_for PassesOwn.never rfl (pi_range2 rfl T.n_range (pa_cons (pv 2) (pa_cons (pe_callB call_len_seq (by rfl) T.n_len (by decide +kernel) (pa_cons (pv 1) pa_nil)) pa_nil))) (pg_name (i := 4) sc_law_are_lowest.nd rfl (Or.inl rfl)) (pss_one (ps_if (pt_cmpR op_notIn_seq (pv 4) (pv 3) (by rfl)) (pss_cons (ps_set (i := 5) sc_law_are_lowest.nd rfl (Or.inr rfl) (pe_dn D_law_leaves (hr.mono (by omega)) (by rfl) (pa_cons (pv 0) (pa_cons (pv 4) (pa_cons (pv 3) pa_nil)))))
      (pss_cons (ps_setLc (i := 6) (own := [("_law_literal", 7)]) (g := (gName 7)) rfl sc_law_are_lowest.nd rfl rfl (sw_true rfl rfl rfl (by decide +kernel)) (pi_list (pv 5)) (blkOk_by (N := ["_law_net_here", "_law_told", "_law_first", "_law_inner_here", "_law_node", "_law_leaves_here", "_law_opposed", "_law_literal"]) (sc := defScope s_law_are_lowest) (by decide +kernel)) (fun _ _ _ _ _ => (pg_name (i := 7) sc_law_are_lowest.nd rfl (Or.inl rfl))) (fun _ _ _ _ _ => (pts_one (pt_cmpR (op_in_seq : OpR _ _ (rIn K false)) (pe_op op_xorB (pv 7) pe_int) (pv 5) (by rfl)))) (fun _ _ _ _ _ => (pv 7)))
      (pss_one (ps_if (PW.pt (pw_and (pt_cmpR op_lt (pe_callB call_len_seq (by rfl) T.n_len (by decide +kernel) (pa_cons (pv 5) pa_nil)) pe_int (nomark _)) (pw_and1 (pt_cmpR op_eq (pe_callB call_len_seq (by rfl) T.n_len (by decide +kernel) (pa_cons (pv 6) pa_nil)) pe_int (nomark _))))) (pss_one (ps_if (pt_cmpR op_ne (pe_ix ix_tup (pv 1) (pv 4) (fun _ _ => rfl)) (pe_dn D_law_lowest_tree (hr.mono (by omega)) (by rfl) (pa_cons (pe_lc (own := [("_law_literal", 7)]) (g := (gName 7)) (tt := tYes) rfl sc_law_are_lowest.nd (pi_list (pv 5)) (blkOk_by (N := ["_law_net_here", "_law_told", "_law_first", "_law_inner_here", "_law_node", "_law_leaves_here", "_law_opposed", "_law_literal"]) (sc := defScope s_law_are_lowest) (by decide +kernel)) (fun _ _ _ _ _ => (pg_name (i := 7) sc_law_are_lowest.nd rfl (Or.inl rfl))) (fun _ _ _ _ _ => pts_nil) (fun _ _ _ _ _ => (pe_ix (ix_tup : IxR _ (rIxT K)) (pv 1) (pe_op op_halfN (pv 7) pe_int) (fun _ _ => rfl)))) pa_nil)) (nomark _)) (pss_one (ps_ret pe_bl)) pss_nil)) pss_nil)))) pss_nil)))
      (pss_one (ps_ret pe_bl))))), ?_⟩
  obtain ⟨p, pi, pr, pa, po, pc, vr, va, vo, vc, rfl, hN⟩ := lv.net
  have hl := hN.lens
  refine ⟨fun σ' H' => σ' = [some (.ref p), some (.ref tt), some (vI N.first), none, none, none, none, none] ∧ H' = H, ?_, ?_⟩
  · refine ⟨_, rfl, p, _, _, _, rfl, rfl, SqT.of hN.top, atI_nat (j := 1) rfl, pi, _, rfl, .inr (SqT.of hN.hi), _, _, rfl, rfl, _, rfl, p, _, _, _, rfl, rfl, SqT.of hN.top, atI_nat (j := 2) rfl, pr, _, rfl, .inr (SqT.of hN.hr), _, _, rfl, rfl, ?_, rfl⟩
    exact congrArg (fun z => [some (.ref p), some (.ref tt), some z, none, none, none, none, none]) (first_val hN)
  rintro σ' H' ⟨rfl, rfl⟩
  refine ⟨_, rfl, _, N, rfl, hN.lay, R, h500, r100, o100, c100, fun I H1 s1 nI eI => ?_⟩
  have ll := levL_len N N.ands.length
  refine ⟨_, rfl, _, rfl, tt, _, rfl, .inr (SqT.of (s1 _ _ et)), (N.first : Int), ((((levL N N.ands.length).map optV).length : Nat) : Int), rfl, by rw [List.length_map, ll]; unfold Net.size at h500; omega, ?_⟩
  rw [List.length_map, ll, show (((N.first + N.ands.length : Nat) : Int) - (N.first : Int)).toNat = N.ands.length by omega]
  refine for_it walk_range (fun i σ' Hx => ∃ v4 v5 v6 v7, σ' = [some (.ref p), some (.ref tt), some (vI N.first), some (.ref I), v4, v5, v6, v7] ∧ Same H' Hx ∧ Hx I = some (.lst ((innL N).map vI)))
    ⟨_, _, _, _, rfl, s1, eI⟩ (fun _ _ _ _ _ => trivial) (fun i x σ' H4 H5 hi pp y => ?_) (fun σ' H4 pp => ?_)
  · obtain ⟨v4, v5, v6, v7, rfl, sm, eI4⟩ := pp
    obtain ⟨rfl, rfl⟩ := y
    have e2 : ((N.first : Int) + (i : Int)) = ((N.first + i : Nat) : Int) := by omega
    have hx : N.first + i < N.size := by unfold Net.size; omega
    have mem : N.first + i ∈ innL N ↔ N.inn (N.first + i) = true := by
      unfold innL
      rw [List.mem_filter]
      exact ⟨fun k => k.2, fun k => ⟨List.mem_map.mpr ⟨i, List.mem_range.mpr hi, rfl⟩, k⟩⟩
    refine ⟨_, rfl, _, rfl, I, (innL N).map vI, rfl, .inl (SqL.of eI4), rfl, flat_ints _, _, rfl, ite2 (fun hb => ?_) (fun hb => ⟨_, _, _, _, rfl, sm, eI4⟩)⟩
    have c : N.inn (N.first + i) = false := by
      cases c : N.inn (N.first + i) with
      | false => rfl
      | true =>
        have h1 : inV (V.int ((N.first : Int) + (i : Int))) ((innL N).map vI) = true := by rw [e2, show V.int ((N.first + i : Nat) : Int) = vI (N.first + i) from rfl, inV_int, decide_eq_true_eq]; exact mem.mpr c
        have hb : (!inV (V.int ((N.first : Int) + (i : Int))) ((innL N).map vI)) = true := hb
        rw [h1] at hb
        cases hb
    refine ⟨_, rfl, _, rfl, _, rfl, _, N, I, N.first + i, rfl, hN.lay.keep' (.same sm), R, h500, a31, SqL.of eI4, Nat.le_add_right _ _, hx, c, fun Lv H6 s6 nLv eLv => ?_⟩
    obtain ⟨ls, hls⟩ : ∃ z, z = leafL N (N.first + i) := ⟨_, rfl⟩
    rw [← hls] at eLv
    have lls : ls.length ≤ 1000 := by rw [hls]; exact Nat.le_trans (leafL_len N _) (by omega)
    have lpos : 1 ≤ ls.length := by rw [hls]; exact leafL_pos R (Nat.le_add_right _ _) hx
    have hb2 : ∀ l ∈ ls, ∃ h, (levL N N.ands.length)[l / 2]? = some (some h) ∧ (levL N i)[l / 2]? = some (some h) ∧ h ≤ 6000 := fun l hl => by
      rw [hls] at hl
      have lf := (mem_leafL R (Nat.le_add_right _ _)).mp hl
      have lt := lf.lt R (Nat.le_add_right _ _)
      obtain ⟨y, ey⟩ := levL_some N (k := l / 2) (i := i) (by omega) lf.1
      have := levL_le (N := N) (by omega) i (by omega) _ _ ey
      have eo := levL_old N (k := l / 2) (i := i) (by omega) (N.ands.length - i)
      rw [show i + (N.ands.length - i) = N.ands.length by omega] at eo
      exact ⟨y, eo.trans ey, ey, by unfold Net.size at h500; omega⟩
    refine ⟨_, rfl, Lv, rfl, ⟨_, SqL.of eLv⟩, fun D2 hD2 => ?_⟩
    refine lc_filt (walk_list (xs := ls.map vI)) (p := fun l => decide (l ^^^ 1 ∈ ls)) (fun H' s => SqL.of (s _ _ eLv)) hD2 lls (fun l H' Rk Z hl s ky kn => ?_) (fun H8 s8 eD2 => ?_)
    · refine ⟨rfl, _, rfl, l, 1, rfl, rfl, _, rfl, Lv, ls.map vI, rfl, .inl (SqL.of (s _ _ eLv)), rfl, flat_ints _, _, rfl, ite2 (fun h => ⟨_, rfl, ky ?_⟩) (fun h => kn ?_)⟩
      · have h : inV (vI (l ^^^ 1)) (ls.map vI) = true := h
        rw [inV_int] at h
        exact h
      · have h : ¬ inV (vI (l ^^^ 1)) (ls.map vI) = true := h
        rw [inV_int] at h
        cases hd : decide (l ^^^ 1 ∈ ls) with
        | false => rfl
        | true => exact absurd hd h
    have s68 := s6.trans s8
    have done : ∀ (Hx : Hp) (v4 v5 v6 v7 : Option V), Same H5 Hx → ∃ v4' v5' v6' v7', [some (V.ref p), some (.ref tt), some (vI N.first), some (.ref I), v4, v5, v6, v7] = [some (.ref p), some (.ref tt), some (vI N.first), some (.ref I), v4', v5', v6', v7'] ∧ Same H' Hx ∧ Hx I = some (.lst ((innL N).map vI)) := fun Hx v4 v5 v6 v7 s => ⟨_, _, _, _, rfl, sm.trans s, s _ _ eI4⟩
    refine ⟨_, rfl, Lv, _, rfl, .inl (SqL.of (s8 _ _ eLv)), _, _, rfl, rfl, _, rfl, ite2 (fun h6 => ⟨_, rfl, D2, _, rfl, .inl (SqL.of eD2), rfl, _, rfl, ite2 (fun h0 => ?_) (fun h0 => done _ _ _ _ _ s68)⟩) (fun h6 => done _ _ _ _ _ s68)⟩
    have n5 : ls.length ≤ 5 := by
      have : (((ls.map vI).length : Nat) : Int) < 6 := of_decide_eq_true h6
      rw [List.length_map] at this
      omega
    have no : ¬ oppB ls = true := fun k => by
      have := (opp_len ls).mp k
      have e0 : (((ls.filter fun l => decide (l ^^^ 1 ∈ ls)).map vI).length : Int) = 0 := V.int.inj (of_decide_eq_true h0)
      omega
    have elev : (levL N N.ands.length)[N.first + i]? = some (some (clog (sumP (ls.map fun l => getH (levL N i) (l / 2))))) := by
      rw [levL_at N hi]
      unfold levAt
      rw [if_neg (by rw [c]; decide), ← hls]
      unfold headH
      rw [if_neg no]
    have et8 := s68 _ _ (sm _ _ et)
    refine ⟨_, rfl, _, rfl, tt, _, _, vI (clog (sumP (ls.map fun l => getH (levL N i) (l / 2)))), rfl, rfl, SqT.of et8, by rw [e2]; exact atI_nat (by rw [List.getElem?_map, elev]; rfl), _, rfl, Lv, rfl, ⟨_, SqL.of (s8 _ _ eLv)⟩, fun D3 hD3 => ?_⟩
    refine lc_rows (walk_list (xs := ls.map vI)) (rows := ls) (f := intD) (g := fun l => getH (levL N i) (l / 2)) (h := intD) (fun H' s => SqL.of (s _ _ (s8 _ _ eLv))) hD3 (LayAll.ints ls) lls (fun j x l H' Rk Z hl s lx k => ?_) (fun us H9 s9 eD3 lu => ?_)
    · obtain rfl := lx.int_inv
      obtain ⟨h, e, e', hh⟩ := hb2 l (List.mem_of_getElem? hl)
      exact ⟨rfl, _, rfl, _, rfl, l, rfl, rfl, tt, _, _, vI h, rfl, rfl, SqT.of (s _ _ et8), atI_nat (by rw [List.getElem?_map, e]; rfl), k _ _ (.refl _) (by rw [getH_some e']; exact .int _)⟩
    · rw [lay_intD lu] at eD3
      refine ⟨D3, _, rfl, SqL.of eD3, by rw [List.length_map]; exact lpos, by rw [List.length_map]; exact n5, fun h hh => ?_, fun H10 s10 => ⟨rfl, _, rfl, ?_⟩⟩
      · obtain ⟨l, hl, rfl⟩ := List.mem_map.mp hh
        obtain ⟨y, _, e', hy⟩ := hb2 l hl
        rw [getH_some e']
        exact hy
      · rw [decide_eq_true rfl]
        exact done _ _ _ _ _ ((s68.trans s9).trans s10)
  · obtain ⟨v4, v5, v6, v7, rfl, sm, eI4⟩ := pp
    exact q _ sm
end
end Bf

set_option Elab.async false
set_option linter.all false
set_option maxRecDepth 100000
set_option maxHeartbeats 4000000
namespace Bf
open PySem PySem.Spec PyProof.Rows L2
/-! ### the law -/
theorem three_line : 3 ≤ sizeLine := by rw [sizeLine_eq]; decide
def spLIs : Sp := fun vs H Q _ => ∃ (tt L : Addr) (es : List (Option Nat)), vs = [.ref tt, .ref L] ∧ H tt = some (.tup (es.map optV)) ∧ H L = some (.lst (es.map optV)) ∧ es.length ≤ 1000 ∧ ∀ H', Same H H' → Q (.bl true) H'
def spLaw (K : PySem.W.Frag) : Sp := fun vs H Q _ => ∃ (a : Addr) (ns : List Int), vs = [.ref a] ∧ SqL K H a (ns.map V.int) ∧ ns.length ≤ 63 ∧ ∀ H', Q (.bl true) H'
section
variable {P : Program} {w : World} {K : PySem.W.Frag} {mg : Str → Option Value} {base : Heap} {f : Addr} {fd : FuncData}
theorem ok_lis (F : Fun K "_law_is" "_law_is" s_law_is f fd) (T : Txt mg) (D_law_is_int : Dn P w K mg base "_law_is_int" ["_law_thing"] 1 spIsInt) :
    FnOk P w K mg base CX0 2 f fd ["_law_told", "_law_due"] spLIs := by
  refine F.ok sc_law_is (fun vs H Q E h => ?_) (fun cdv A outer s H vs Q E hr h => ?_)
  · obtain ⟨tt, L, es, rfl, _⟩ := h
    rfl
  obtain ⟨tt, L, es, rfl, et, eL, l1, q⟩ := h
  refine ⟨_, (pss_cons (ps_if (PW.pt (pw_or (pt_not (pt_val (pe_callB (call_isi : CallR _ _ (rIsi K)) (by rfl) T.n_isinstance (by decide +kernel) (pa_cons (pv 0) (pa_cons (pe_bltn rfl T.n_tuple (by decide +kernel) (v := .ty "tuple") rfl) pa_nil))))) (pw_or1 (pt_cmpR op_ne (pe_callB call_len_seq (by rfl) T.n_len (by decide +kernel) (pa_cons (pv 0) pa_nil)) (pe_callB call_len_seq (by rfl) T.n_len (by decide +kernel) (pa_cons (pv 1) pa_nil)) (nomark _))))) (pss_one (ps_ret pe_bl)) pss_nil)
      (pss_cons (ps_for PassesOwn.never rfl (pi_zipX (by rfl) T.n_zip (pa_cons (pv 0) (pa_cons (pv 1) pa_nil))) (pg_tup rfl (pgs_cons (pg_name (i := 2) sc_law_is.nd rfl (Or.inl rfl)) (pgs_cons (pg_name (i := 3) sc_law_is.nd rfl (Or.inl rfl)) pgs_nil))) (pss_cons (ps_if (PW.pt (pw_and (pt_cmpR op_isN (pv 3) pe_non (nomark _)) (pw_and1 (pt_cmpR op_notN (pv 2) pe_non (nomark _))))) (pss_one (ps_ret pe_bl)) pss_nil)
      (pss_one (ps_if (PW.pt (pw_and (pt_cmpR op_notN (pv 3) pe_non (nomark _)) (pw_and1 (PW.pt (pw_or (pt_not (pt_val (pe_dn D_law_is_int (hr.mono (by omega)) (by rfl) (pa_cons (pv 2) pa_nil)))) (pw_or1 (pt_cmpR op_ne (pv 2) (pv 3) (nomark _)))))))) (pss_one (ps_ret pe_bl)) pss_nil))))
      (pss_one (ps_ret pe_bl)))), ?_⟩
  refine ⟨_, rfl, _, _, .type "tuple", .type "tuple", true, rfl, .ty "tuple", .base (.tup et), kit_ty (by decide +kernel), true, rfl, ?_⟩
  refine iteF ?_
  refine ⟨_, rfl, tt, _, rfl, .inr (SqT.of et), _, rfl, L, _, rfl, .inl (SqL.of eL), rfl, _, rfl, ?_⟩
  rw [decide_eq_true rfl]
  refine ⟨_, rfl, _, rfl, srcT, srcL, tt, L, es.map optV, es.map optV, rfl, SqT.of et, SqL.of eL, for_zipG srcT srcL (xs := es.map optV) (ys := es.map optV) rfl (fun (i : Nat) (σ' : L2.St) (H' : Hp) => ∃ v2 v3 : Option V, σ' = [some (.ref tt), some (.ref L), v2, v3] ∧ Same H H')
    ⟨_, _, rfl, .refl _⟩ (fun i σ' H' pp => ?_) (fun i a b T0 σ' H9 ea eb pp hT0 => ?_) (fun σ' H' pp => ?_)⟩
  · obtain ⟨_, _, _, s⟩ := pp
    exact ⟨SqT.of (s _ _ et), SqL.of (s _ _ eL)⟩
  · obtain ⟨v2, v3, rfl, s⟩ := pp
    rw [ea] at eb
    cases eb
    rw [List.getElem?_map] at ea
    obtain ⟨e, _, rfl⟩ := Option.map_eq_some_iff.mp ea
    have sT := s.trans (same_new hT0 (.tup [optV e, optV e]))
    refine ⟨T0, _, rfl, SqT.of upd_same, rfl, _, _, rfl, _, _, rfl, rfl, ?_⟩
    cases e with
    | none =>
      refine ⟨_, rfl, rfl, _, rfl, ite2 (fun _ => ⟨_, rfl, rfl, _, rfl, ite2 (fun z => ?_) (fun _ => ?_)⟩) (fun z => absurd (decide_eq_true rfl) z)⟩
      · have z : (!decide (V.non = V.non)) = true := z
        rw [decide_eq_true rfl] at z
        cases z
      · refine ⟨_, rfl, rfl, _, rfl, ite2 (fun z => ?_) (fun _ => ⟨_, _, rfl, sT⟩)⟩
        have z : (!decide (V.non = V.non)) = true := z
        rw [decide_eq_true rfl] at z
        cases z
    | some h =>
      refine ⟨_, rfl, rfl, _, rfl, ite2 (fun z => ?_) (fun _ => ?_)⟩
      · have z : vI h = V.non := of_decide_eq_true z
        cases z
      · refine ⟨_, rfl, rfl, _, rfl, ite2 (fun _ => ⟨_, rfl, _, rfl, true, rfl, iteF ⟨_, rfl, _, rfl, rfl, _, rfl, ?_⟩⟩) (fun _ => ⟨_, _, rfl, sT⟩)⟩
        rw [decide_eq_true rfl]
        exact iteF ⟨_, _, rfl, sT⟩
  · obtain ⟨v2, v3, rfl, s⟩ := pp
    exact q _ s
theorem ok_law (F : Fun K "law" "law" s_law f fd) (T : Txt mg) (D_law_begin : Dn P w K mg base "_law_begin" ["_law_script"] 1 (spBegin K)) (D_law_world : Dn P w K mg base "_law_world" ["_law_d"] 4 spWorld) (D_least_heights : Dn P w K mg base "least_heights" ["net"] 4 spLeastH) (D_law_least : Dn P w K mg base "_law_least" ["_law_net_here"] 2 spLLeast) (D_law_is : Dn P w K mg base "_law_is" ["_law_told", "_law_due"] 2 spLIs) (D_law_are_lowest : Dn P w K mg base "_law_are_lowest" ["_law_net_here", "_law_told"] 2 spAreLow) :
    FnOk P w K mg base CX0 5 f fd ["_law_script"] (spLaw K) := by
  refine F.ok sc_law (fun vs H Q E h => ?_) (fun cdv A outer s H vs Q E hr h => ?_)
  · obtain ⟨a, ns, rfl, _⟩ := h
    rfl
  obtain ⟨a, ns, rfl, hS, hl63, q⟩ := h
  refine ⟨_, (pss_cons (ps_set (i := 1) sc_law.nd rfl (Or.inl rfl) (pe_dn D_law_begin (hr.mono (by omega)) (by rfl) (pa_cons (pv 0) pa_nil)))
      (pss_cons (ps_set (i := 2) sc_law.nd rfl (Or.inl rfl) (pe_lst (pa_cons (pe_dn D_law_world (hr.mono (by omega)) (by rfl) (pa_cons (pv 1) pa_nil)) (pa_cons (pe_dn D_law_world (hr.mono (by omega)) (by rfl) (pa_cons (pv 1) pa_nil)) pa_nil))))
      (pss_cons (ps_for PassesOwn.never rfl (pi_list (pe_lst (pa_cons pe_int (pa_cons pe_int (pa_cons pe_int pa_nil))))) (pg_name (i := 3) sc_law.nd rfl (Or.inl rfl)) (pss_cons (ps_set (i := 4) sc_law.nd rfl (Or.inl rfl) (pe_dn D_least_heights (hr.mono (by omega)) (by rfl) (pa_cons (pe_ix ix_list (pv 2) (pv 3) (fun _ _ => rfl)) pa_nil)))
      (pss_one (ps_if (PW.pt (pw_or (pt_not (pt_val (pe_dn D_law_is (hr.mono (by omega)) (by rfl) (pa_cons (pv 4) (pa_cons (pe_dn D_law_least (hr.mono (by omega)) (by rfl) (pa_cons (pe_ix ix_list (pv 2) (pv 3) (fun _ _ => rfl)) pa_nil)) pa_nil))))) (pw_or1 (pt_not (pt_val (pe_dn D_law_are_lowest (hr.mono (by omega)) (by rfl) (pa_cons (pe_ix ix_list (pv 2) (pv 3) (fun _ _ => rfl)) (pa_cons (pv 4) pa_nil)))))))) (pss_one (ps_ret pe_bl)) pss_nil))))
      (pss_one (ps_ret pe_bl))))), ?_⟩
  refine ⟨_, rfl, a, ns, rfl, hS, hl63, fun d c H1 nd nc hd1 s1 => ?_⟩
  refine ⟨_, rfl, d, c, rfl, hd1, fun v1 N1 H2 lv1 R1 a1 b1 c1 d1 e1 hd2 k2 => ?_⟩
  refine ⟨_, rfl, d, c, rfl, hd2, fun v2 N2 H3 lv2 R2 a2 b2 c2 d2 e2 hd3 k3 => ?_⟩
  have lv1' := lv1.keep' (k3.tup1 hd2)
  refine ⟨two_line, fun Ls hLs => ?_⟩
  have sL := same_new hLs (.lst [v1, v2])
  have eL : L2.upd H3 Ls (.lst [v1, v2]) Ls = some (.lst [v1, v2]) := upd_same
  have w1 := lv1'.keep' (.same sL)
  have w2 := lv2.keep' (.same sL)
  generalize L2.upd H3 Ls (.lst [v1, v2]) = H4 at eL w1 w2 ⊢
  refine ⟨three_line, fun Ks hKs => ?_⟩
  have sK := same_new hKs (.lst [V.int 0, .int 1, .int 0])
  have eK : L2.upd H4 Ks (.lst [V.int 0, .int 1, .int 0]) Ks = some (.lst [V.int 0, .int 1, .int 0]) := upd_same
  have eL5 := sK _ _ eL
  have w15 := w1.keep' (.same sK)
  have w25 := w2.keep' (.same sK)
  generalize L2.upd H4 Ks (.lst [V.int 0, .int 1, .int 0]) = H5 at eK eL5 w15 w25 ⊢
  have items : ∀ (i : Nat) (x : V), ([V.int 0, .int 1, .int 0] : List V)[i]? = some x → ∃ (j : Nat) (v : V) (N : Net), x = vI j ∧ [v1, v2][j]? = some v ∧ Lay H5 v (netD N) ∧ N.Right ∧ N.size ≤ 500 ∧ N.ands.length ≤ 31 ∧ N.regs.length ≤ 100 ∧ N.outs.length ≤ 100 ∧ N.cls.length ≤ 100 := by
    intro i x hx
    match i, hx with
    | 0, hx => cases hx; exact ⟨0, v1, N1, rfl, rfl, w15, R1, by omega, b1, c1, d1, e1⟩
    | 1, hx => cases hx; exact ⟨1, v2, N2, rfl, rfl, w25, R2, by omega, b2, c2, d2, e2⟩
    | 2, hx => cases hx; exact ⟨0, v1, N1, rfl, rfl, w15, R1, by omega, b1, c1, d1, e1⟩
    | i + 3, hx => simp at hx
  refine ⟨Ks, rfl, ⟨_, SqL.of eK⟩, for_it (walk_list (xs := [V.int 0, .int 1, .int 0])) (fun i σ' H' => ∃ v3 v4 : Option V, σ' = [some (.ref a), some (.ref d), some (.ref Ls), v3, v4] ∧ Same H5 H')
    ⟨_, _, rfl, .refl _⟩ (fun i σ' H' _ pp => ?_) (fun i x σ' H7 H8 hi pp y => ?_) (fun σ' H' pp => ?_)⟩
  · obtain ⟨_, _, _, s⟩ := pp
    exact SqL.of (s _ _ eK)
  · obtain ⟨v3, v4, rfl, s8⟩ := pp
    obtain ⟨rfl, ex⟩ := y
    obtain ⟨j, v, N, rfl, ej, lv, R, z1, z2, z3, z4, z5⟩ := items i x ex
    refine ⟨_, rfl, _, rfl, Ls, _, _, v, rfl, rfl, SqL.of (s8 _ _ eL5), atI_nat ej, v, N, rfl, lv.keep' (.same s8), R, z1, z3, z4, z5, fun t H9 s9 et => ?_⟩
    refine ⟨_, rfl, _, rfl, _, rfl, Ls, _, _, v, rfl, rfl, SqL.of (s9 _ _ (s8 _ _ eL5)), atI_nat ej, v, N, rfl, lv.keep' (.same (s8.trans s9)), R, z1, z2, z3, z4, z5, fun L H10 s10 el => ?_⟩
    refine ⟨t, L, levL N N.ands.length, rfl, s10 _ _ et, el, by rw [levL_len]; unfold Net.size at z1; omega, fun H11 s11 => ⟨true, rfl, iteF ?_⟩⟩
    have s911 := (s9.trans s10).trans s11
    refine ⟨_, rfl, _, rfl, Ls, _, _, v, rfl, rfl, SqL.of (s911 _ _ (s8 _ _ eL5)), atI_nat ej, _, rfl, v, t, N, rfl, lv.keep' (.same (s8.trans s911)), R, z1, z2, z3, z4, z5, (s10.trans s11) _ _ et, fun H12 s12 => ⟨true, rfl, iteF ?_⟩⟩
    exact ⟨_, _, rfl, (s8.trans s911).trans s12⟩
  · exact q _
end
end Bf

set_option Elab.async false
set_option linter.all false
set_option maxRecDepth 100000
set_option maxHeartbeats 4000000
namespace Bf
open PySem PySem.Spec PyProof.Rows L2
/-! ### what the top has written -/
theorem all_mk {l : PySem.W.OpenLaw} {w : World} {K : PySem.W.Frag} {h : Heap} {mg : Str → Option Value} {fa f_first_and f_ends_of f_tree_height f_have_inverse f__law_begin f__law_draw f__law_pool f__law_is_int f__law_lit f__law_inner f__law_leaves f__law_lowest_tree f_inner_ands f_leaves_of f_head_height f__law_pop f__law_rare f__law_drawn_literal f__law_closed_up f__law_least f__law_are_lowest f__law_is f_leaves_of_heads f__law_net f__law_tidied f_least_heights f__law_world f_law : Addr} (X : K.In h) (G : h.Ns mainGlobals mg) (hfa : mg "law" = some (.ref fa))
    {od2 an2 : Option Addr} {sl2 : Array (Option Value)} {oc2 kV2 dc2 pm2 cd2 ct2 : Value}
    {od4 an4 : Option Addr} {sl4 : Array (Option Value)} {oc4 kV4 dc4 pm4 cd4 ct4 : Value}
    {od6 an6 : Option Addr} {sl6 : Array (Option Value)} {oc6 kV6 dc6 pm6 cd6 ct6 : Value}
    {od8 an8 : Option Addr} {sl8 : Array (Option Value)} {oc8 kV8 dc8 pm8 cd8 ct8 : Value}
    {od10 an10 : Option Addr} {sl10 : Array (Option Value)} {oc10 kV10 dc10 pm10 cd10 ct10 : Value}
    {od12 an12 : Option Addr} {sl12 : Array (Option Value)} {oc12 kV12 dc12 pm12 cd12 ct12 : Value}
    {od14 an14 : Option Addr} {sl14 : Array (Option Value)} {oc14 kV14 dc14 pm14 cd14 ct14 : Value}
    {od16 an16 : Option Addr} {sl16 : Array (Option Value)} {oc16 kV16 dc16 pm16 cd16 ct16 : Value}
    {od18 an18 : Option Addr} {sl18 : Array (Option Value)} {oc18 kV18 dc18 pm18 cd18 ct18 : Value}
    {od20 an20 : Option Addr} {sl20 : Array (Option Value)} {oc20 kV20 dc20 pm20 cd20 ct20 : Value}
    {od22 an22 : Option Addr} {sl22 : Array (Option Value)} {oc22 kV22 dc22 pm22 cd22 ct22 : Value}
    {od24 an24 : Option Addr} {sl24 : Array (Option Value)} {oc24 kV24 dc24 pm24 cd24 ct24 : Value}
    {od26 an26 : Option Addr} {sl26 : Array (Option Value)} {oc26 kV26 dc26 pm26 cd26 ct26 : Value}
    {od28 an28 : Option Addr} {sl28 : Array (Option Value)} {oc28 kV28 dc28 pm28 cd28 ct28 : Value}
    {od30 an30 : Option Addr} {sl30 : Array (Option Value)} {oc30 kV30 dc30 pm30 cd30 ct30 : Value}
    {od32 an32 : Option Addr} {sl32 : Array (Option Value)} {oc32 kV32 dc32 pm32 cd32 ct32 : Value}
    {od34 an34 : Option Addr} {sl34 : Array (Option Value)} {oc34 kV34 dc34 pm34 cd34 ct34 : Value}
    {od36 an36 : Option Addr} {sl36 : Array (Option Value)} {oc36 kV36 dc36 pm36 cd36 ct36 : Value}
    {od38 an38 : Option Addr} {sl38 : Array (Option Value)} {oc38 kV38 dc38 pm38 cd38 ct38 : Value}
    {od40 an40 : Option Addr} {sl40 : Array (Option Value)} {oc40 kV40 dc40 pm40 cd40 ct40 : Value}
    {od42 an42 : Option Addr} {sl42 : Array (Option Value)} {oc42 kV42 dc42 pm42 cd42 ct42 : Value}
    {od44 an44 : Option Addr} {sl44 : Array (Option Value)} {oc44 kV44 dc44 pm44 cd44 ct44 : Value}
    {od46 an46 : Option Addr} {sl46 : Array (Option Value)} {oc46 kV46 dc46 pm46 cd46 ct46 : Value}
    {od48 an48 : Option Addr} {sl48 : Array (Option Value)} {oc48 kV48 dc48 pm48 cd48 ct48 : Value}
    {od50 an50 : Option Addr} {sl50 : Array (Option Value)} {oc50 kV50 dc50 pm50 cd50 ct50 : Value}
    {od52 an52 : Option Addr} {sl52 : Array (Option Value)} {oc52 kV52 dc52 pm52 cd52 ct52 : Value}
    {od54 an54 : Option Addr} {sl54 : Array (Option Value)} {oc54 kV54 dc54 pm54 cd54 ct54 : Value}
    {od56 an56 : Option Addr} {sl56 : Array (Option Value)} {oc56 kV56 dc56 pm56 cd56 ct56 : Value}
    (a1 : PySem.W.nsIn K mainGlobals "first_and" = some (some (.ref f_first_and)))
    (l2 : K.lookup f_first_and = some ⟨oc2, od2, .func (PySem.W.fnOf "first_and" "first_and" (defArgs s_first_and) (defBody s_first_and) (defScope s_first_and) .none kV2 dc2 pm2 an2 cd2 ct2), sl2⟩) (c2 : PySem.W.codeIn K cd2 "first_and" = true) (k2 : PySem.W.keepIn K (.ref f_first_and) = true)
    (a3 : PySem.W.nsIn K mainGlobals "ends_of" = some (some (.ref f_ends_of)))
    (l4 : K.lookup f_ends_of = some ⟨oc4, od4, .func (PySem.W.fnOf "ends_of" "ends_of" (defArgs s_ends_of) (defBody s_ends_of) (defScope s_ends_of) .none kV4 dc4 pm4 an4 cd4 ct4), sl4⟩) (c4 : PySem.W.codeIn K cd4 "ends_of" = true) (k4 : PySem.W.keepIn K (.ref f_ends_of) = true)
    (a5 : PySem.W.nsIn K mainGlobals "tree_height" = some (some (.ref f_tree_height)))
    (l6 : K.lookup f_tree_height = some ⟨oc6, od6, .func (PySem.W.fnOf "tree_height" "tree_height" (defArgs s_tree_height) (defBody s_tree_height) (defScope s_tree_height) .none kV6 dc6 pm6 an6 cd6 ct6), sl6⟩) (c6 : PySem.W.codeIn K cd6 "tree_height" = true) (k6 : PySem.W.keepIn K (.ref f_tree_height) = true)
    (a7 : PySem.W.nsIn K mainGlobals "have_inverse" = some (some (.ref f_have_inverse)))
    (l8 : K.lookup f_have_inverse = some ⟨oc8, od8, .func (PySem.W.fnOf "have_inverse" "have_inverse" (defArgs s_have_inverse) (defBody s_have_inverse) (defScope s_have_inverse) .none kV8 dc8 pm8 an8 cd8 ct8), sl8⟩) (c8 : PySem.W.codeIn K cd8 "have_inverse" = true) (k8 : PySem.W.keepIn K (.ref f_have_inverse) = true)
    (a9 : PySem.W.nsIn K mainGlobals "_law_begin" = some (some (.ref f__law_begin)))
    (l10 : K.lookup f__law_begin = some ⟨oc10, od10, .func (PySem.W.fnOf "_law_begin" "_law_begin" (defArgs s_law_begin) (defBody s_law_begin) (defScope s_law_begin) .none kV10 dc10 pm10 an10 cd10 ct10), sl10⟩) (c10 : PySem.W.codeIn K cd10 "_law_begin" = true) (k10 : PySem.W.keepIn K (.ref f__law_begin) = true)
    (a11 : PySem.W.nsIn K mainGlobals "_law_draw" = some (some (.ref f__law_draw)))
    (l12 : K.lookup f__law_draw = some ⟨oc12, od12, .func (PySem.W.fnOf "_law_draw" "_law_draw" (defArgs s_law_draw) (defBody s_law_draw) (defScope s_law_draw) .none kV12 dc12 pm12 an12 cd12 ct12), sl12⟩) (c12 : PySem.W.codeIn K cd12 "_law_draw" = true) (k12 : PySem.W.keepIn K (.ref f__law_draw) = true)
    (a13 : PySem.W.nsIn K mainGlobals "_law_pool" = some (some (.ref f__law_pool)))
    (l14 : K.lookup f__law_pool = some ⟨oc14, od14, .func (PySem.W.fnOf "_law_pool" "_law_pool" (defArgs s_law_pool) (defBody s_law_pool) (defScope s_law_pool) .none kV14 dc14 pm14 an14 cd14 ct14), sl14⟩) (c14 : PySem.W.codeIn K cd14 "_law_pool" = true) (k14 : PySem.W.keepIn K (.ref f__law_pool) = true)
    (a15 : PySem.W.nsIn K mainGlobals "_law_is_int" = some (some (.ref f__law_is_int)))
    (l16 : K.lookup f__law_is_int = some ⟨oc16, od16, .func (PySem.W.fnOf "_law_is_int" "_law_is_int" (defArgs s_law_is_int) (defBody s_law_is_int) (defScope s_law_is_int) .none kV16 dc16 pm16 an16 cd16 ct16), sl16⟩) (c16 : PySem.W.codeIn K cd16 "_law_is_int" = true) (k16 : PySem.W.keepIn K (.ref f__law_is_int) = true)
    (a17 : PySem.W.nsIn K mainGlobals "_law_lit" = some (some (.ref f__law_lit)))
    (l18 : K.lookup f__law_lit = some ⟨oc18, od18, .func (PySem.W.fnOf "_law_lit" "_law_lit" (defArgs s_law_lit) (defBody s_law_lit) (defScope s_law_lit) .none kV18 dc18 pm18 an18 cd18 ct18), sl18⟩) (c18 : PySem.W.codeIn K cd18 "_law_lit" = true) (k18 : PySem.W.keepIn K (.ref f__law_lit) = true)
    (a19 : PySem.W.nsIn K mainGlobals "_law_inner" = some (some (.ref f__law_inner)))
    (l20 : K.lookup f__law_inner = some ⟨oc20, od20, .func (PySem.W.fnOf "_law_inner" "_law_inner" (defArgs s_law_inner) (defBody s_law_inner) (defScope s_law_inner) .none kV20 dc20 pm20 an20 cd20 ct20), sl20⟩) (c20 : PySem.W.codeIn K cd20 "_law_inner" = true) (k20 : PySem.W.keepIn K (.ref f__law_inner) = true)
    (a21 : PySem.W.nsIn K mainGlobals "_law_leaves" = some (some (.ref f__law_leaves)))
    (l22 : K.lookup f__law_leaves = some ⟨oc22, od22, .func (PySem.W.fnOf "_law_leaves" "_law_leaves" (defArgs s_law_leaves) (defBody s_law_leaves) (defScope s_law_leaves) .none kV22 dc22 pm22 an22 cd22 ct22), sl22⟩) (c22 : PySem.W.codeIn K cd22 "_law_leaves" = true) (k22 : PySem.W.keepIn K (.ref f__law_leaves) = true)
    (a23 : PySem.W.nsIn K mainGlobals "_law_lowest_tree" = some (some (.ref f__law_lowest_tree)))
    (l24 : K.lookup f__law_lowest_tree = some ⟨oc24, od24, .func (PySem.W.fnOf "_law_lowest_tree" "_law_lowest_tree" (defArgs s_law_lowest_tree) (defBody s_law_lowest_tree) (defScope s_law_lowest_tree) .none kV24 dc24 pm24 an24 cd24 ct24), sl24⟩) (c24 : PySem.W.codeIn K cd24 "_law_lowest_tree" = true) (k24 : PySem.W.keepIn K (.ref f__law_lowest_tree) = true)
    (a25 : PySem.W.nsIn K mainGlobals "inner_ands" = some (some (.ref f_inner_ands)))
    (l26 : K.lookup f_inner_ands = some ⟨oc26, od26, .func (PySem.W.fnOf "inner_ands" "inner_ands" (defArgs s_inner_ands) (defBody s_inner_ands) (defScope s_inner_ands) .none kV26 dc26 pm26 an26 cd26 ct26), sl26⟩) (c26 : PySem.W.codeIn K cd26 "inner_ands" = true) (k26 : PySem.W.keepIn K (.ref f_inner_ands) = true)
    (a27 : PySem.W.nsIn K mainGlobals "leaves_of" = some (some (.ref f_leaves_of)))
    (l28 : K.lookup f_leaves_of = some ⟨oc28, od28, .func (PySem.W.fnOf "leaves_of" "leaves_of" (defArgs s_leaves_of) (defBody s_leaves_of) (defScope s_leaves_of) .none kV28 dc28 pm28 an28 cd28 ct28), sl28⟩) (c28 : PySem.W.codeIn K cd28 "leaves_of" = true) (k28 : PySem.W.keepIn K (.ref f_leaves_of) = true)
    (a29 : PySem.W.nsIn K mainGlobals "head_height" = some (some (.ref f_head_height)))
    (l30 : K.lookup f_head_height = some ⟨oc30, od30, .func (PySem.W.fnOf "head_height" "head_height" (defArgs s_head_height) (defBody s_head_height) (defScope s_head_height) .none kV30 dc30 pm30 an30 cd30 ct30), sl30⟩) (c30 : PySem.W.codeIn K cd30 "head_height" = true) (k30 : PySem.W.keepIn K (.ref f_head_height) = true)
    (a31 : PySem.W.nsIn K mainGlobals "_law_pop" = some (some (.ref f__law_pop)))
    (l32 : K.lookup f__law_pop = some ⟨oc32, od32, .func (PySem.W.fnOf "_law_pop" "_law_pop" (defArgs s_law_pop) (defBody s_law_pop) (defScope s_law_pop) .none kV32 dc32 pm32 an32 cd32 ct32), sl32⟩) (c32 : PySem.W.codeIn K cd32 "_law_pop" = true) (k32 : PySem.W.keepIn K (.ref f__law_pop) = true)
    (a33 : PySem.W.nsIn K mainGlobals "_law_rare" = some (some (.ref f__law_rare)))
    (l34 : K.lookup f__law_rare = some ⟨oc34, od34, .func (PySem.W.fnOf "_law_rare" "_law_rare" (defArgs s_law_rare) (defBody s_law_rare) (defScope s_law_rare) .none kV34 dc34 pm34 an34 cd34 ct34), sl34⟩) (c34 : PySem.W.codeIn K cd34 "_law_rare" = true) (k34 : PySem.W.keepIn K (.ref f__law_rare) = true)
    (a35 : PySem.W.nsIn K mainGlobals "_law_drawn_literal" = some (some (.ref f__law_drawn_literal)))
    (l36 : K.lookup f__law_drawn_literal = some ⟨oc36, od36, .func (PySem.W.fnOf "_law_drawn_literal" "_law_drawn_literal" (defArgs s_law_drawn_literal) (defBody s_law_drawn_literal) (defScope s_law_drawn_literal) .none kV36 dc36 pm36 an36 cd36 ct36), sl36⟩) (c36 : PySem.W.codeIn K cd36 "_law_drawn_literal" = true) (k36 : PySem.W.keepIn K (.ref f__law_drawn_literal) = true)
    (a37 : PySem.W.nsIn K mainGlobals "_law_closed_up" = some (some (.ref f__law_closed_up)))
    (l38 : K.lookup f__law_closed_up = some ⟨oc38, od38, .func (PySem.W.fnOf "_law_closed_up" "_law_closed_up" (defArgs s_law_closed_up) (defBody s_law_closed_up) (defScope s_law_closed_up) .none kV38 dc38 pm38 an38 cd38 ct38), sl38⟩) (c38 : PySem.W.codeIn K cd38 "_law_closed_up" = true) (k38 : PySem.W.keepIn K (.ref f__law_closed_up) = true)
    (a39 : PySem.W.nsIn K mainGlobals "_law_least" = some (some (.ref f__law_least)))
    (l40 : K.lookup f__law_least = some ⟨oc40, od40, .func (PySem.W.fnOf "_law_least" "_law_least" (defArgs s_law_least) (defBody s_law_least) (defScope s_law_least) .none kV40 dc40 pm40 an40 cd40 ct40), sl40⟩) (c40 : PySem.W.codeIn K cd40 "_law_least" = true) (k40 : PySem.W.keepIn K (.ref f__law_least) = true)
    (a41 : PySem.W.nsIn K mainGlobals "_law_are_lowest" = some (some (.ref f__law_are_lowest)))
    (l42 : K.lookup f__law_are_lowest = some ⟨oc42, od42, .func (PySem.W.fnOf "_law_are_lowest" "_law_are_lowest" (defArgs s_law_are_lowest) (defBody s_law_are_lowest) (defScope s_law_are_lowest) .none kV42 dc42 pm42 an42 cd42 ct42), sl42⟩) (c42 : PySem.W.codeIn K cd42 "_law_are_lowest" = true) (k42 : PySem.W.keepIn K (.ref f__law_are_lowest) = true)
    (a43 : PySem.W.nsIn K mainGlobals "_law_is" = some (some (.ref f__law_is)))
    (l44 : K.lookup f__law_is = some ⟨oc44, od44, .func (PySem.W.fnOf "_law_is" "_law_is" (defArgs s_law_is) (defBody s_law_is) (defScope s_law_is) .none kV44 dc44 pm44 an44 cd44 ct44), sl44⟩) (c44 : PySem.W.codeIn K cd44 "_law_is" = true) (k44 : PySem.W.keepIn K (.ref f__law_is) = true)
    (a45 : PySem.W.nsIn K mainGlobals "leaves_of_heads" = some (some (.ref f_leaves_of_heads)))
    (l46 : K.lookup f_leaves_of_heads = some ⟨oc46, od46, .func (PySem.W.fnOf "leaves_of_heads" "leaves_of_heads" (defArgs s_leaves_of_heads) (defBody s_leaves_of_heads) (defScope s_leaves_of_heads) .none kV46 dc46 pm46 an46 cd46 ct46), sl46⟩) (c46 : PySem.W.codeIn K cd46 "leaves_of_heads" = true) (k46 : PySem.W.keepIn K (.ref f_leaves_of_heads) = true)
    (a47 : PySem.W.nsIn K mainGlobals "_law_net" = some (some (.ref f__law_net)))
    (l48 : K.lookup f__law_net = some ⟨oc48, od48, .func (PySem.W.fnOf "_law_net" "_law_net" (defArgs s_law_net) (defBody s_law_net) (defScope s_law_net) .none kV48 dc48 pm48 an48 cd48 ct48), sl48⟩) (c48 : PySem.W.codeIn K cd48 "_law_net" = true) (k48 : PySem.W.keepIn K (.ref f__law_net) = true)
    (a49 : PySem.W.nsIn K mainGlobals "_law_tidied" = some (some (.ref f__law_tidied)))
    (l50 : K.lookup f__law_tidied = some ⟨oc50, od50, .func (PySem.W.fnOf "_law_tidied" "_law_tidied" (defArgs s_law_tidied) (defBody s_law_tidied) (defScope s_law_tidied) .none kV50 dc50 pm50 an50 cd50 ct50), sl50⟩) (c50 : PySem.W.codeIn K cd50 "_law_tidied" = true) (k50 : PySem.W.keepIn K (.ref f__law_tidied) = true)
    (a51 : PySem.W.nsIn K mainGlobals "least_heights" = some (some (.ref f_least_heights)))
    (l52 : K.lookup f_least_heights = some ⟨oc52, od52, .func (PySem.W.fnOf "least_heights" "least_heights" (defArgs s_least_heights) (defBody s_least_heights) (defScope s_least_heights) .none kV52 dc52 pm52 an52 cd52 ct52), sl52⟩) (c52 : PySem.W.codeIn K cd52 "least_heights" = true) (k52 : PySem.W.keepIn K (.ref f_least_heights) = true)
    (a53 : PySem.W.nsIn K mainGlobals "_law_world" = some (some (.ref f__law_world)))
    (l54 : K.lookup f__law_world = some ⟨oc54, od54, .func (PySem.W.fnOf "_law_world" "_law_world" (defArgs s_law_world) (defBody s_law_world) (defScope s_law_world) .none kV54 dc54 pm54 an54 cd54 ct54), sl54⟩) (c54 : PySem.W.codeIn K cd54 "_law_world" = true) (k54 : PySem.W.keepIn K (.ref f__law_world) = true)
    (a55 : PySem.W.nsIn K mainGlobals "law" = some (some (.ref f_law)))
    (l56 : K.lookup f_law = some ⟨oc56, od56, .func (PySem.W.fnOf "law" "law" (defArgs s_law) (defBody s_law) (defScope s_law) .none kV56 dc56 pm56 an56 cd56 ct56), sl56⟩) (c56 : PySem.W.codeIn K cd56 "law" = true) (k56 : PySem.W.keepIn K (.ref f_law) = true)
    (z57 : PySem.W.nsIn K mainGlobals "int" = some none)
    (z58 : PySem.W.nsIn K mainGlobals "len" = some none)
    (z59 : PySem.W.nsIn K mainGlobals "abs" = some none)
    (z60 : PySem.W.nsIn K mainGlobals "isinstance" = some none)
    (z61 : PySem.W.nsIn K mainGlobals "range" = some none)
    (z62 : PySem.W.nsIn K mainGlobals "tuple" = some none)
    (z63 : PySem.W.nsIn K mainGlobals "all" = some none)
    (z64 : PySem.W.nsIn K mainGlobals "list" = some none)
    (z65 : PySem.W.nsIn K mainGlobals "max" = some none)
    (z66 : PySem.W.nsIn K mainGlobals "min" = some none)
    (z67 : PySem.W.nsIn K mainGlobals "sorted" = some none)
    (z68 : PySem.W.nsIn K mainGlobals "set" = some none)
    (z69 : PySem.W.nsIn K mainGlobals "reversed" = some none)
    (z70 : PySem.W.nsIn K mainGlobals "bool" = some none)
    (z71 : PySem.W.nsIn K mainGlobals "zip" = some none)
    (z72 : PySem.W.nsIn K mainGlobals "sum" = some none)
    (z73 : PySem.W.nsIn K mainGlobals "any" = some none) :
    ∃ fd : FuncData, (∀ (s : Shared) (v : Value), BindsTo s fd ⟨[v], []⟩ [("_law_script", v)]) ∧ ∀ base : Heap, K.In base → base.Ns mainGlobals mg → FnOk l.prog w K mg base CX0 5 fa fd ["_law_script"] (spLaw K) := by
  have e := hfa.symm.trans (PySem.W.mg_of X G a55)
  cases e
  have T : Txt mg := ⟨PySem.W.mg_none_of X G z57, PySem.W.mg_none_of X G z58, PySem.W.mg_none_of X G z59, PySem.W.mg_none_of X G z60, PySem.W.mg_none_of X G z61, PySem.W.mg_none_of X G z62, PySem.W.mg_none_of X G z63, PySem.W.mg_none_of X G z64, PySem.W.mg_none_of X G z65, PySem.W.mg_none_of X G z66, PySem.W.mg_none_of X G z67, PySem.W.mg_none_of X G z68, PySem.W.mg_none_of X G z69, PySem.W.mg_none_of X G z70, PySem.W.mg_none_of X G z71, PySem.W.mg_none_of X G z72, PySem.W.mg_none_of X G z73⟩
  have F_first_and := fun_mk (st := s_first_and) l2 c2 k2
  have F_ends_of := fun_mk (st := s_ends_of) l4 c4 k4
  have F_tree_height := fun_mk (st := s_tree_height) l6 c6 k6
  have F_have_inverse := fun_mk (st := s_have_inverse) l8 c8 k8
  have F_law_begin := fun_mk (st := s_law_begin) l10 c10 k10
  have F_law_draw := fun_mk (st := s_law_draw) l12 c12 k12
  have F_law_pool := fun_mk (st := s_law_pool) l14 c14 k14
  have F_law_is_int := fun_mk (st := s_law_is_int) l16 c16 k16
  have F_law_lit := fun_mk (st := s_law_lit) l18 c18 k18
  have F_law_inner := fun_mk (st := s_law_inner) l20 c20 k20
  have F_law_leaves := fun_mk (st := s_law_leaves) l22 c22 k22
  have F_law_lowest_tree := fun_mk (st := s_law_lowest_tree) l24 c24 k24
  have F_inner_ands := fun_mk (st := s_inner_ands) l26 c26 k26
  have F_leaves_of := fun_mk (st := s_leaves_of) l28 c28 k28
  have F_head_height := fun_mk (st := s_head_height) l30 c30 k30
  have F_law_pop := fun_mk (st := s_law_pop) l32 c32 k32
  have F_law_rare := fun_mk (st := s_law_rare) l34 c34 k34
  have F_law_drawn_literal := fun_mk (st := s_law_drawn_literal) l36 c36 k36
  have F_law_closed_up := fun_mk (st := s_law_closed_up) l38 c38 k38
  have F_law_least := fun_mk (st := s_law_least) l40 c40 k40
  have F_law_are_lowest := fun_mk (st := s_law_are_lowest) l42 c42 k42
  have F_law_is := fun_mk (st := s_law_is) l44 c44 k44
  have F_leaves_of_heads := fun_mk (st := s_leaves_of_heads) l46 c46 k46
  have F_law_net := fun_mk (st := s_law_net) l48 c48 k48
  have F_law_tidied := fun_mk (st := s_law_tidied) l50 c50 k50
  have F_least_heights := fun_mk (st := s_least_heights) l52 c52 k52
  have F_law_world := fun_mk (st := s_law_world) l54 c54 k54
  have F_law := fun_mk (st := s_law) l56 c56 k56
  refine ⟨PySem.W.fnOf "law" "law" (defArgs s_law) (defBody s_law) (defScope s_law) .none kV56 dc56 pm56 an56 cd56 ct56, fun s v => .of_eq rfl, fun base _ _ => ?_⟩
  have D_first_and : Dn l.prog w K mg base "first_and" ["net"] 1 spFirst := ⟨f_first_and, _, ok_first F_first_and T, PySem.W.mg_of X G a1, k2, (F_first_and.binds (ps := ["net"]) fun _ _ _ _ _ _ us hl => match us, hl with | [_], _ => rfl)⟩
  have D_ends_of : Dn l.prog w K mg base "ends_of" ["net"] 1 spEndsP := ⟨f_ends_of, _, ok_endsP F_ends_of T, PySem.W.mg_of X G a3, k4, (F_ends_of.binds (ps := ["net"]) fun _ _ _ _ _ _ us hl => match us, hl with | [_], _ => rfl)⟩
  have D_tree_height : Dn l.prog w K mg base "tree_height" ["heights"] 1 (spTreeH K) := ⟨f_tree_height, _, ok_treeH F_tree_height T, PySem.W.mg_of X G a5, k6, (F_tree_height.binds (ps := ["heights"]) fun _ _ _ _ _ _ us hl => match us, hl with | [_], _ => rfl)⟩
  have D_have_inverse : Dn l.prog w K mg base "have_inverse" ["literals"] 1 (spInv K) := ⟨f_have_inverse, _, ok_inv F_have_inverse T, PySem.W.mg_of X G a7, k8, (F_have_inverse.binds (ps := ["literals"]) fun _ _ _ _ _ _ us hl => match us, hl with | [_], _ => rfl)⟩
  have D_law_begin : Dn l.prog w K mg base "_law_begin" ["_law_script"] 1 (spBegin K) := ⟨f__law_begin, _, ok_begin F_law_begin T, PySem.W.mg_of X G a9, k10, (F_law_begin.binds (ps := ["_law_script"]) fun _ _ _ _ _ _ us hl => match us, hl with | [_], _ => rfl)⟩
  have D_law_draw : Dn l.prog w K mg base "_law_draw" ["_law_d", "_law_many"] 1 spDraw := ⟨f__law_draw, _, ok_draw F_law_draw T, PySem.W.mg_of X G a11, k12, (F_law_draw.binds (ps := ["_law_d", "_law_many"]) fun _ _ _ _ _ _ us hl => match us, hl with | [_, _], _ => rfl)⟩
  have D_law_pool : Dn l.prog w K mg base "_law_pool" [] 1 spPool := ⟨f__law_pool, _, ok_pool F_law_pool , PySem.W.mg_of X G a13, k14, (F_law_pool.binds (ps := []) fun _ _ _ _ _ _ us hl => match us, hl with | [], _ => rfl)⟩
  have D_law_is_int : Dn l.prog w K mg base "_law_is_int" ["_law_thing"] 1 spIsInt := ⟨f__law_is_int, _, ok_isInt F_law_is_int T, PySem.W.mg_of X G a15, k16, (F_law_is_int.binds (ps := ["_law_thing"]) fun _ _ _ _ _ _ us hl => match us, hl with | [_], _ => rfl)⟩
  have D_law_lit : Dn l.prog w K mg base "_law_lit" ["_law_bits", "_law_literal"] 1 (spLitV K) := ⟨f__law_lit, _, ok_litV F_law_lit T, PySem.W.mg_of X G a17, k18, (F_law_lit.binds (ps := ["_law_bits", "_law_literal"]) fun _ _ _ _ _ _ us hl => match us, hl with | [_, _], _ => rfl)⟩
  have D_law_inner : Dn l.prog w K mg base "_law_inner" ["_law_net_here"] 1 spLInner := ⟨f__law_inner, _, ok_linner F_law_inner T, PySem.W.mg_of X G a19, k20, (F_law_inner.binds (ps := ["_law_net_here"]) fun _ _ _ _ _ _ us hl => match us, hl with | [_], _ => rfl)⟩
  have D_law_leaves : Dn l.prog w K mg base "_law_leaves" ["_law_net_here", "_law_head", "_law_inner_here"] 1 (spLLeaves K) := ⟨f__law_leaves, _, ok_lleaves F_law_leaves T, PySem.W.mg_of X G a21, k22, (F_law_leaves.binds (ps := ["_law_net_here", "_law_head", "_law_inner_here"]) fun _ _ _ _ _ _ us hl => match us, hl with | [_, _, _], _ => rfl)⟩
  have D_law_lowest_tree : Dn l.prog w K mg base "_law_lowest_tree" ["_law_tall"] 1 (spLowest K) := ⟨f__law_lowest_tree, _, ok_lowest F_law_lowest_tree T, PySem.W.mg_of X G a23, k24, (F_law_lowest_tree.binds (ps := ["_law_tall"]) fun _ _ _ _ _ _ us hl => match us, hl with | [_], _ => rfl)⟩
  have D_inner_ands : Dn l.prog w K mg base "inner_ands" ["net"] 2 spInnerA := ⟨f_inner_ands, _, ok_innerA F_inner_ands T D_first_and D_ends_of, PySem.W.mg_of X G a25, k26, (F_inner_ands.binds (ps := ["net"]) fun _ _ _ _ _ _ us hl => match us, hl with | [_], _ => rfl)⟩
  have D_leaves_of : Dn l.prog w K mg base "leaves_of" ["net", "inner", "head"] 2 (spLeavesOf K) := ⟨f_leaves_of, _, ok_leavesOf F_leaves_of T D_first_and, PySem.W.mg_of X G a27, k28, (F_leaves_of.binds (ps := ["net", "inner", "head"]) fun _ _ _ _ _ _ us hl => match us, hl with | [_, _, _], _ => rfl)⟩
  have D_head_height : Dn l.prog w K mg base "head_height" ["least", "leaves"] 2 (spHeadH K) := ⟨f_head_height, _, ok_headH F_head_height T D_tree_height D_have_inverse, PySem.W.mg_of X G a29, k30, (F_head_height.binds (ps := ["least", "leaves"]) fun _ _ _ _ _ _ us hl => match us, hl with | [_, _], _ => rfl)⟩
  have D_law_pop : Dn l.prog w K mg base "_law_pop" ["_law_d", "_law_row"] 2 spPop := ⟨f__law_pop, _, ok_pop F_law_pop T D_law_draw, PySem.W.mg_of X G a31, k32, (F_law_pop.binds (ps := ["_law_d", "_law_row"]) fun _ _ _ _ _ _ us hl => match us, hl with | [_, _], _ => rfl)⟩
  have D_law_rare : Dn l.prog w K mg base "_law_rare" ["_law_d", "_law_many"] 2 spRare := ⟨f__law_rare, _, ok_rare F_law_rare T D_law_draw, PySem.W.mg_of X G a33, k34, (F_law_rare.binds (ps := ["_law_d", "_law_many"]) fun _ _ _ _ _ _ us hl => match us, hl with | [_, _], _ => rfl)⟩
  have D_law_drawn_literal : Dn l.prog w K mg base "_law_drawn_literal" ["_law_d", "_law_size"] 2 spLit := ⟨f__law_drawn_literal, _, ok_lit F_law_drawn_literal T D_law_draw, PySem.W.mg_of X G a35, k36, (F_law_drawn_literal.binds (ps := ["_law_d", "_law_size"]) fun _ _ _ _ _ _ us hl => match us, hl with | [_, _], _ => rfl)⟩
  have D_law_closed_up : Dn l.prog w K mg base "_law_closed_up" ["_law_given", "_law_rows", "_law_pairs", "_law_shown", "_law_asked"] 2 spClosed := ⟨f__law_closed_up, _, ok_closed F_law_closed_up T D_law_lit, PySem.W.mg_of X G a37, k38, (F_law_closed_up.binds (ps := ["_law_given", "_law_rows", "_law_pairs", "_law_shown", "_law_asked"]) fun _ _ _ _ _ _ us hl => match us, hl with | [_, _, _, _, _], _ => rfl)⟩
  have D_law_least : Dn l.prog w K mg base "_law_least" ["_law_net_here"] 2 spLLeast := ⟨f__law_least, _, ok_lleast F_law_least T D_law_inner D_law_leaves, PySem.W.mg_of X G a39, k40, (F_law_least.binds (ps := ["_law_net_here"]) fun _ _ _ _ _ _ us hl => match us, hl with | [_], _ => rfl)⟩
  have D_law_are_lowest : Dn l.prog w K mg base "_law_are_lowest" ["_law_net_here", "_law_told"] 2 spAreLow := ⟨f__law_are_lowest, _, ok_areLow F_law_are_lowest T D_law_inner D_law_leaves D_law_lowest_tree, PySem.W.mg_of X G a41, k42, (F_law_are_lowest.binds (ps := ["_law_net_here", "_law_told"]) fun _ _ _ _ _ _ us hl => match us, hl with | [_, _], _ => rfl)⟩
  have D_law_is : Dn l.prog w K mg base "_law_is" ["_law_told", "_law_due"] 2 spLIs := ⟨f__law_is, _, ok_lis F_law_is T D_law_is_int, PySem.W.mg_of X G a43, k44, (F_law_is.binds (ps := ["_law_told", "_law_due"]) fun _ _ _ _ _ _ us hl => match us, hl with | [_, _], _ => rfl)⟩
  have D_leaves_of_heads : Dn l.prog w K mg base "leaves_of_heads" ["net"] 3 spHeads := ⟨f_leaves_of_heads, _, ok_heads F_leaves_of_heads T D_first_and D_inner_ands D_leaves_of, PySem.W.mg_of X G a45, k46, (F_leaves_of_heads.binds (ps := ["net"]) fun _ _ _ _ _ _ us hl => match us, hl with | [_], _ => rfl)⟩
  have D_law_net : Dn l.prog w K mg base "_law_net" ["_law_d", "_law_inputs", "_law_regs", "_law_ands", "_law_outputs", "_law_claims"] 3 spNet := ⟨f__law_net, _, ok_net F_law_net T D_law_draw D_law_pop D_law_pool D_law_drawn_literal, PySem.W.mg_of X G a47, k48, (F_law_net.binds (ps := ["_law_d", "_law_inputs", "_law_regs", "_law_ands", "_law_outputs", "_law_claims"]) fun _ _ _ _ _ _ us hl => match us, hl with | [_, _, _, _, _, _], _ => rfl)⟩
  have D_law_tidied : Dn l.prog w K mg base "_law_tidied" ["_law_net_here"] 3 spTidied := ⟨f__law_tidied, _, ok_tidied F_law_tidied T D_law_lit D_law_closed_up, PySem.W.mg_of X G a49, k50, (F_law_tidied.binds (ps := ["_law_net_here"]) fun _ _ _ _ _ _ us hl => match us, hl with | [_], _ => rfl)⟩
  have D_least_heights : Dn l.prog w K mg base "least_heights" ["net"] 4 spLeastH := ⟨f_least_heights, _, ok_leastH F_least_heights T D_first_and D_leaves_of_heads D_head_height, PySem.W.mg_of X G a51, k52, (F_least_heights.binds (ps := ["net"]) fun _ _ _ _ _ _ us hl => match us, hl with | [_], _ => rfl)⟩
  have D_law_world : Dn l.prog w K mg base "_law_world" ["_law_d"] 4 spWorld := ⟨f__law_world, _, ok_world F_law_world T D_law_draw D_law_rare D_law_net D_law_tidied, PySem.W.mg_of X G a53, k54, (F_law_world.binds (ps := ["_law_d"]) fun _ _ _ _ _ _ us hl => match us, hl with | [_], _ => rfl)⟩
  exact ok_law F_law T D_law_begin D_law_world D_least_heights D_law_least D_law_is D_law_are_lowest
end Bf
open PySem PySem.W PyProof.Rows
set_option maxRecDepth 100000 in
set_option maxHeartbeats 0 in
theorem PySem.Challenge.cw_beatfabric_k51_least_heights_holds : PySem.Challenge.rw_beatfabric_k51_least_heights.Holds := by
  w_on; o_law; k_head; (case hw => w_witness2)
  k_fill
  refine L2.walk_of (l := PySem.Challenge.rw_beatfabric_k51_least_heights) (n := 63) (k := 5) (x := "_law_script") (CX := fun _ => L2.CX0) (sp := fun w => Bf.spLaw _) rfl (by decide) rfl ⟨rfl, by decide, by decide⟩ (fun w h Y => PySem.W.kIn_of Y) ?F (fun _ _ a ns hl _ hS => ⟨a, ns, rfl, hS, hl, fun _ => rfl⟩) (fun _ _ _ _ _ h => h)
  case F =>
    intro w mg fa h KX G hmg
    refine' Bf.all_mk KX G hmg ?a1 ?l2 ?c2 ?k2 ?a3 ?l4 ?c4 ?k4 ?a5 ?l6 ?c6 ?k6 ?a7 ?l8 ?c8 ?k8 ?a9 ?l10 ?c10 ?k10 ?a11 ?l12 ?c12 ?k12 ?a13 ?l14 ?c14 ?k14 ?a15 ?l16 ?c16 ?k16 ?a17 ?l18 ?c18 ?k18 ?a19 ?l20 ?c20 ?k20 ?a21 ?l22 ?c22 ?k22 ?a23 ?l24 ?c24 ?k24 ?a25 ?l26 ?c26 ?k26 ?a27 ?l28 ?c28 ?k28 ?a29 ?l30 ?c30 ?k30 ?a31 ?l32 ?c32 ?k32 ?a33 ?l34 ?c34 ?k34 ?a35 ?l36 ?c36 ?k36 ?a37 ?l38 ?c38 ?k38 ?a39 ?l40 ?c40 ?k40 ?a41 ?l42 ?c42 ?k42 ?a43 ?l44 ?c44 ?k44 ?a45 ?l46 ?c46 ?k46 ?a47 ?l48 ?c48 ?k48 ?a49 ?l50 ?c50 ?k50 ?a51 ?l52 ?c52 ?k52 ?a53 ?l54 ?c54 ?k54 ?a55 ?l56 ?c56 ?k56 ?z57 ?z58 ?z59 ?z60 ?z61 ?z62 ?z63 ?z64 ?z65 ?z66 ?z67 ?z68 ?z69 ?z70 ?z71 ?z72 ?z73
    (case a1 => k_is)
    (case l2 => k_is)
    (case c2 => k_is)
    (case k2 => k_is)
    (case a3 => k_is)
    (case l4 => k_is)
    (case c4 => k_is)
    (case k4 => k_is)
    (case a5 => k_is)
    (case l6 => k_is)
    (case c6 => k_is)
    (case k6 => k_is)
    (case a7 => k_is)
    (case l8 => k_is)
    (case c8 => k_is)
    (case k8 => k_is)
    (case a9 => k_is)
    (case l10 => k_is)
    (case c10 => k_is)
    (case k10 => k_is)
    (case a11 => k_is)
    (case l12 => k_is)
    (case c12 => k_is)
    (case k12 => k_is)
    (case a13 => k_is)
    (case l14 => k_is)
    (case c14 => k_is)
    (case k14 => k_is)
    (case a15 => k_is)
    (case l16 => k_is)
    (case c16 => k_is)
    (case k16 => k_is)
    (case a17 => k_is)
    (case l18 => k_is)
    (case c18 => k_is)
    (case k18 => k_is)
    (case a19 => k_is)
    (case l20 => k_is)
    (case c20 => k_is)
    (case k20 => k_is)
    (case a21 => k_is)
    (case l22 => k_is)
    (case c22 => k_is)
    (case k22 => k_is)
    (case a23 => k_is)
    (case l24 => k_is)
    (case c24 => k_is)
    (case k24 => k_is)
    (case a25 => k_is)
    (case l26 => k_is)
    (case c26 => k_is)
    (case k26 => k_is)
    (case a27 => k_is)
    (case l28 => k_is)
    (case c28 => k_is)
    (case k28 => k_is)
    (case a29 => k_is)
    (case l30 => k_is)
    (case c30 => k_is)
    (case k30 => k_is)
    (case a31 => k_is)
    (case l32 => k_is)
    (case c32 => k_is)
    (case k32 => k_is)
    (case a33 => k_is)
    (case l34 => k_is)
    (case c34 => k_is)
    (case k34 => k_is)
    (case a35 => k_is)
    (case l36 => k_is)
    (case c36 => k_is)
    (case k36 => k_is)
    (case a37 => k_is)
    (case l38 => k_is)
    (case c38 => k_is)
    (case k38 => k_is)
    (case a39 => k_is)
    (case l40 => k_is)
    (case c40 => k_is)
    (case k40 => k_is)
    (case a41 => k_is)
    (case l42 => k_is)
    (case c42 => k_is)
    (case k42 => k_is)
    (case a43 => k_is)
    (case l44 => k_is)
    (case c44 => k_is)
    (case k44 => k_is)
    (case a45 => k_is)
    (case l46 => k_is)
    (case c46 => k_is)
    (case k46 => k_is)
    (case a47 => k_is)
    (case l48 => k_is)
    (case c48 => k_is)
    (case k48 => k_is)
    (case a49 => k_is)
    (case l50 => k_is)
    (case c50 => k_is)
    (case k50 => k_is)
    (case a51 => k_is)
    (case l52 => k_is)
    (case c52 => k_is)
    (case k52 => k_is)
    (case a53 => k_is)
    (case l54 => k_is)
    (case c54 => k_is)
    (case k54 => k_is)
    (case a55 => k_is)
    (case l56 => k_is)
    (case c56 => k_is)
    (case k56 => k_is)
    (case z57 => k_is)
    (case z58 => k_is)
    (case z59 => k_is)
    (case z60 => k_is)
    (case z61 => k_is)
    (case z62 => k_is)
    (case z63 => k_is)
    (case z64 => k_is)
    (case z65 => k_is)
    (case z66 => k_is)
    (case z67 => k_is)
    (case z68 => k_is)
    (case z69 => k_is)
    (case z70 => k_is)
    (case z71 => k_is)
    (case z72 => k_is)
    (case z73 => k_is)
