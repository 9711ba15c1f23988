import PyProof.Rows.All
import Wide.All
import OpenK.AllK
import Wide.FinOn
import HandS.Base
import HandS.Call
import HandS.List
import HandS.Comp
import HandS.Ends
import HandS.Words
import HandS.Wide
import HandS.WideBits
import HandS.More
import HandS.IsInst
import HandS.CallLocal
import HandS.Text
import HandS.Iter
import HandS.Dict
import HandS.Defaults
import HandS.DeepEq
import HandS.Codes
import HandS.Zip
import HandS.Walk
import HandS.TupAny
import KE.GoesEnum
import KE.GoesMore
import HandS.Style
import HandS.Strs
import HandS.Conv
import HandS.SortKw
import KE.DataMinMax
import KE.KDictList
import PySem.PyData
import HandS.Rev
import HandS.DictComp
import PyProof.DictUpdate
import PyProof.SetRoads
import HandS.TupMul
import HandS.SortRule
import KE.SortData
import HandS.SortInts
import HandS.NoneIn
import KE.BitLaws
import PySem.Challenge.RW_beatfabric_k64_level_bars_judged
set_option Elab.async false
set_option linter.all false
set_option maxRecDepth 100000
set_option maxHeartbeats 4000000
namespace Bf
open PySem PySem.Spec PyProof.Rows L2

/-! ### rules that the layer lacks -/
section
variable {X : Cx}
def rGetL : V → V → Hp → VK → Prop := fun o i H Q => ∃ p xs k v, o = .ref p ∧ i = .int k ∧ H p = some (.lst xs) ∧ atI xs k = some v ∧ Q v H
theorem get_list : PGet X rGetL := by
  intro pins s σ H o i ov iv Q I ro ri h
  obtain ⟨p, xs, k, z, rfl, rfl, hp, he, q⟩ := h
  cases ro
  obtain ⟨t, rfl⟩ := ri
  obtain ⟨its, r, pl, hz⟩ := I.list (SqL.of hp)
  obtain ⟨j, h1, h2, h3, h4, h5⟩ := atI_get he
  obtain ⟨w, ew, rw'⟩ := r.get h2
  have hl := r.length
  have hn := line63
  have fin : EP X pins σ Q w s := ⟨z, H, I, rw', q⟩
  by_cases h0 : 0 ≤ k
  · have hj : k.toNat = j := by
      rw [seqIndex_of h0 h5] at h1
      exact Option.some.inj h1
    refine PySem.wpAny_getItem_list pl.isList h0 (by omega) (by rw [hj]; simpa using ew) fin
  · have hj : (k + (its.toArray.size : Int)).toNat = j := by
      rw [seqIndex_neg (by omega) h4] at h1
      rw [List.size_toArray, ← hl]
      exact Option.some.inj h1
    exact wpAny_getItem_list_neg pl.isList (by omega) (by rw [List.size_toArray] <;> omega) (by omega) (by rw [hj]; simpa using ew) fin

/-- max, min of two numbers that are not negative -/
theorem cr_maxN (hc : X.calm = true) : CallR X (.builtin "max") (fun xs H Q => ∃ i j : Nat, xs = [V.int i, V.int j] ∧ Q (V.int ((max i j : Nat) : Int)) H) := by
  intro pins s σ H vs us Q I r h
  obtain ⟨i, j, rfl, q⟩ := h
  refine call_max2 hc pins s σ H _ us Q I r ⟨i, j, rfl, ?_⟩
  have e : (if (j : Int) > (i : Int) then (j : Int) else (i : Int)) = ((max i j : Nat) : Int) := by
    by_cases h : (j : Int) > i
    · rw [if_pos h, Nat.max_eq_right (by omega)]
    · rw [if_neg h, Nat.max_eq_left (by omega)]
  rw [e]
  exact q
theorem cr_minN (hc : X.calm = true) : CallR X (.builtin "min") (fun xs H Q => ∃ i j : Nat, xs = [V.int i, V.int j] ∧ Q (V.int ((min i j : Nat) : Int)) H) := by
  intro pins s σ H vs us Q I r h
  obtain ⟨i, j, rfl, q⟩ := h
  refine call_min2 hc pins s σ H _ us Q I r ⟨i, j, rfl, ?_⟩
  have e : (if (j : Int) < (i : Int) then (j : Int) else (i : Int)) = ((min i j : Nat) : Int) := by
    by_cases h : (j : Int) < i
    · rw [if_pos h, Nat.min_eq_right (by omega)]
    · rw [if_neg h, Nat.min_eq_left (by omega)]
  rw [e]
  exact q
/-- sum of a tuple of ints -/
def rSumT (K : PySem.W.Frag) : List V → Hp → VK → Prop := fun vs H Q => ∃ (a : Addr) (ns : List Int), vs = [V.ref a] ∧ SqT K H a (ns.map V.int) ∧ Q (.int ns.sum) H
theorem cr_sumT (hc : X.calm = true) : CallR X (.builtin "sum") (rSumT X.K) := by
  intro pins s σ H vs us Q I r h
  obtain ⟨a, ns, rfl, hs, q⟩ := h
  obtain ⟨its, rv, hl, _⟩ := I.tuple hs
  rw [Vals.ref1 r]
  obtain ⟨xs, e⟩ := rv.ints.allInts.items
  have hn : numsOf (intItems xs).toList = ns := by rw [← e]; exact rv.ints.numsOf
  rw [nums_intItems] at hn
  have hl' : s.heap.IsTuple a (intItems xs) := by
    rw [← e]
    exact hl
  refine PySem.W.ktm_sumG (I.ok.hd hc) hl' fun h' tk t' hk => ?_
  rw [preSum_eq, List.take_of_length_le (by simp), hn]
  exact ⟨.int _, H, I.kept hk, ⟨_, rfl⟩, q⟩
end

/-- a def that stands, with its promise -/
def vI (n : Nat) : V := .int (n : Int)
structure Dn (P : Program) (w : World) (K : PySem.W.Frag) (mg : Str → Option Value) (base : Heap) (x : Str) (ps : List Str) (k : Nat) (sp : Sp) : Prop where
  ex : ∃ (f : Addr) (fd : FuncData), FnOk P w K mg base CX0 k f fd ps sp ∧ mg x = some (.ref f) ∧ PySem.W.keepIn K (.ref f) = true ∧ Binds K fd ps []
def tCallD (sp : Sp) (t : TA) : TE := fun σ H Q => t σ H fun vs H1 => sp vs H1 Q E0
section
variable {X : Cx} {x : Str} {ps : List Str} {k : Nat} {sp : Sp} {e : Expr} {es : List Expr} {t : TA} {p pos : Pos}
theorem pe_dn (D : Dn X.prog X.w X.K X.mg X.base x ps k sp) (hr : Room k X.A) (hg : Gl X x) (ha : PA X (e :: es) t) (hdb : (x == ("__debug__" : Str)) = false := by decide)
    (he : starEach (e :: es) X.env = (false, eval e X.env) :: starEach es X.env := by rfl) (hpl : (backTo pos (starEach es X.env)).any (·.1) = false := by rfl) :
    PE X (.Call (.Name x p) (e :: es) [] pos) (tCallD sp t) := by
  obtain ⟨f, fd, F, hm, hk, hb⟩ := D.ex
  refine ⟨fun pins s σ H Q I h => (pe_call (E := E0) F hr hg hm hk hb .nil pass0 ha hdb he hpl).run pins s σ H Q I ?_⟩
  have e0 : (fun (vs : List V) (H1 : Hp) => sp (vs ++ []) H1 Q E0) = fun vs H1 => sp vs H1 Q E0 := by
    funext vs H1
    rw [List.append_nil]
  show t σ H (fun vs H1 => sp (vs ++ []) H1 Q E0)
  rw [e0]
  exact h
theorem pe_dn0 (D : Dn X.prog X.w X.K X.mg X.base x ps k sp) (hr : Room k X.A) (hg : Gl X x) (hdb : (x == ("__debug__" : Str)) = false := by decide) :
    PE X (.Call (.Name x p) [] [] pos) (tCallD sp tNil) := by
  obtain ⟨f, fd, F, hm, hk, hb⟩ := D.ex
  exact ⟨fun pins s σ H Q I h => (pe_call0 (E := E0) F hr hg hm hk hb .nil pass0 hdb).run pins s σ H Q I h⟩
end
/-- the same where the last arguments are defaults -/
structure DnD (P : Program) (w : World) (K : PySem.W.Frag) (mg : Str → Option Value) (base : Heap) (x : Str) (ps : List Str) (dvs : List V) (k : Nat) (sp : Sp) : Prop where
  ex : ∃ (f : Addr) (fd : FuncData) (ds : List Value), FnOk P w K mg base CX0 k f fd ps sp ∧ mg x = some (.ref f) ∧ PySem.W.keepIn K (.ref f) = true ∧ Binds K fd ps ds ∧ Vals dvs ds
theorem pe_dnD {X : Cx} {x : Str} {ps : List Str} {dvs : List V} {k : Nat} {sp : Sp} {e : Expr} {es : List Expr} {t : TA} {p pos : Pos} (D : DnD X.prog X.w X.K X.mg X.base x ps dvs k sp) (hr : Room k X.A) (hg : Gl X x) (ha : PA X (e :: es) t) (hdb : (x == ("__debug__" : Str)) = false := by decide)
    (he : starEach (e :: es) X.env = (false, eval e X.env) :: starEach es X.env := by rfl) (hpl : (backTo pos (starEach es X.env)).any (·.1) = false := by rfl) :
    PE X (.Call (.Name x p) (e :: es) [] pos) (tCall sp dvs E0 t) := by
  obtain ⟨f, fd, ds, F, hm, hk, hb, hv⟩ := D.ex
  exact pe_call (E := E0) F hr hg hm hk hb hv pass0 ha hdb he hpl
/-- a def of the text, its promise: the level a letter -/
theorem Dn.mk' {P : Program} {w : World} {K : PySem.W.Frag} {mg : Str → Option Value} {base : Heap} {x : Str} {st : Stmt} {ps : List Str} {k : Nat} {sp : Sp} {f : Addr} {fd : FuncData}
    (F : Fun K x x st f fd) (hm : mg x = some (.ref f)) (hb : Binds K fd ps []) (ok : FnOk P w K mg base CX0 k f fd ps sp) : Dn P w K mg base x ps k sp :=
  ⟨f, fd, ok, hm, F.kp, hb⟩
end Bf
namespace Bf
open PySem PySem.Spec PyProof.Rows L2
section
variable {X : Cx} {d : Addr} {es : Array DictEntry} {n : Nat}
/-- d[k], d a dict of the module with text keys -/
theorem ix_kd (D : KDict X.K X.w d es n) : IxR X (fun x y H Q => ∃ (z : Str) (u0 : Value) (v0 : V), x = .ref d ∧ y = .str z ∧ PySem.W.nsIn X.K d z = some (some u0) ∧ RelV v0 u0 ∧ Q v0 H) := by
  intro value slice pins s σ H x y v u Q I rx ry h hs
  have h0 := h
  obtain ⟨z, u0, v0, rfl, rfl, e, r, q⟩ := h
  cases rx
  exact tail_any (kd_type D I) PySem.slot_dict_getitem.lookup (op_item_kd D pins s σ H (V.ref d) (V.str z) _ u Q I (show RelV (V.ref d) (Value.ref d) from rfl) ry h0) hs
/-- of several defs that the slot may hold: the def and its promise are told in the reading -/
def tCallH (P : Program) (w : World) (K : PySem.W.Frag) (mg : Str → Option Value) (base : Heap) (k i : Nat) (t : TA) : TE := fun σ H Q => ∃ f sp fd ps, σ[i]? = some (some (.ref f)) ∧ FnOk P w K mg base CX0 k f fd ps sp ∧ PySem.W.keepIn K (.ref f) = true ∧ Binds K fd ps [] ∧ t σ H fun vs H1 => sp vs H1 Q E0
theorem pe_held {i k : Nat} {x : Str} {p pos : Pos} {e : Expr} {es : List Expr} {t : TA} (hr : Room k X.A) (hN : X.N[i]? = some x) (hv : Vis X.env.scope x) (ha : PA X (e :: es) t)
    (hdb : (x == ("__debug__" : Str)) = false := by decide) (hcd : (x == ("__classdict__" : Str)) = false := by decide)
    (he : starEach (e :: es) X.env = (false, eval e X.env) :: starEach es X.env := by rfl) (hpl : (backTo pos (starEach es X.env)).any (·.1) = false := by rfl) : PE X (.Call (.Name x p) (e :: es) [] pos) (tCallH X.prog X.w X.K X.mg X.base k i t) := by
  refine ⟨fun pins s σ H Q I h => ?_⟩
  obtain ⟨f, sp, fd, ps, hs, F, hk, hb, ht⟩ := h
  refine (pe_callL (i := i) (f := f) (sp := sp) (dvs := []) (E := E0) F hr hN hv hk hb .nil pass0 ha hdb hcd he hpl).run pins s σ H Q I ⟨hs, ?_⟩
  have e0 : (fun (vs : List V) (H1 : Hp) => sp (vs ++ []) H1 Q E0) = fun vs H1 => sp vs H1 Q E0 := by
    funext vs H1
    rw [List.append_nil]
  show t σ H (fun vs H1 => sp (vs ++ []) H1 Q E0)
  rw [e0]
  exact ht
end
end Bf

set_option Elab.async false
set_option linter.all false
set_option maxRecDepth 100000
set_option maxHeartbeats 4000000
namespace Bf
open PySem PySem.Spec PyProof.Rows L2
/-! ### small steps of a reading -/
theorem ifY {c : Bool} {A B : Prop} (e : c = true) (h : A) : if c = true then A else B := by
  rw [if_pos e]
  exact h
theorem ifN {c : Bool} {A B : Prop} (e : c = false) (h : B) : if c = true then A else B := by
  rw [e]
  exact iteF h
theorem rdL {K : PySem.W.Frag} {H : Hp} {a : Addr} {xs : List V} {i : Int} {v : V} {Q : VK} (h : SqL K H a xs) (e : atI xs i = some v) (k : Q v H) : rIxL K (.ref a) (.int i) H Q := ⟨a, xs, _, v, rfl, rfl, h, e, k⟩
theorem rdC {v : V} {σ : L2.St} {H : Hp} {Q : VK} (k : Q v H) : tC v σ H Q := k
theorem seqNew {K : PySem.W.Frag} {H : Hp} {a p : Addr} {o : HO} {xs : List V} (hp : H p = none) (h : SqL K H a xs) : SqL K (upd H p o) a xs := by
  rcases h with (h | ⟨u, h⟩) | h
  · exact .inl (.inl (by rw [upd_ne (ne_of_none h hp)]; exact h))
  · exact .inl (.inr ⟨u, by rw [upd_ne (ne_of_none h hp)]; exact h⟩)
  · exact .inr h
theorem le1000 {n : Nat} (h : n ≤ 1000) : n ≤ sizeLine := Nat.le_of_lt (small1000 h)
end Bf

set_option Elab.async false
set_option linter.all false
set_option maxRecDepth 100000
set_option maxHeartbeats 4000000
namespace Bf
open PySem PySem.Spec PyProof.Rows L2

/-! ### what enumerate and zip walk: a list or a tuple -/
structure Src where
  sq : PySem.W.Frag → Hp → Addr → List V → Prop
  itr : Heap → Addr → Addr → Nat → Prop
  isS : Heap → Addr → Array Value → Prop
  ob : Addr → Obj
  inv : ∀ {X : Cx} {pins : List (Addr × Obj)} {σ : L2.St} {H : Hp} {s : Shared} {a : Addr} {xs : List V}, Inv X pins σ H s → sq X.K H a xs → ∃ its : List Value, Vals xs its ∧ isS s.heap a its.toArray
  inj : ∀ {X : Cx} {pins : List (Addr × Obj)} {σ : L2.St} {H : Hp} {s : Shared} {a : Addr} {xs ys : List V}, Inv X pins σ H s → sq X.K H a xs → sq X.K H a ys → xs = ys
  draws : ∀ {prog : Program} {w : World} {A : Around}, A.handled = none → ∀ (it l : Addr), l ≠ it → ∀ (items : Array Value), Draws prog w A it [it, l] items.size (fun i v => items[i]? = some v) (fun i h => itr h it l i ∧ isS h l items)
  obj : ∀ {h : Heap} {it a : Addr} {i : Nat}, itr h it a i → ∃ o, h.get? it = some o ∧ ∀ v, o.data ≠ .cell v
  at_ : ∀ {h h' : Heap} {it a : Addr} {i : Nat}, itr h it a i → (∀ o, h.get? it = some o → h'.get? it = some o) → itr h' it a i
  beg : ∀ (a : Addr) (items : Array Value), Begins (.ref a) (ob a) (fun h => isS h a items)
  start : ∀ {h : Heap} {it a : Addr}, h.get? it = some (ob a) → itr h it a 0
  lt : ∀ {h : Heap} {a : Addr} {items : Array Value}, isS h a items → a < h.objs.size
  keep : ∀ {K : PySem.W.Frag} {H H' : Hp} {a : Addr} {xs : List V}, Same H H' → sq K H a xs → sq K H' a xs
theorem seqT_same {K : PySem.W.Frag} {H H' : Hp} {a : Addr} {xs : List V} (k : Same H H') (h : SqT K H a xs) : SqT K H' a xs := by
  rcases h with (h | ⟨u, h⟩) | h
  · exact .inl (.inl (k _ _ h))
  · exact .inl (.inr ⟨u, k _ _ h⟩)
  · exact .inr h

def srcL : Src where
  sq := fun K H a xs => SqL K H a xs
  itr := fun h it a i => h.IsListIter it a i
  isS := fun h a items => h.IsList a items
  ob := fun a => { cls := .type "list_iterator", data := .fields #[.ref a, .int 0 0] }
  inv := fun I h => let ⟨its, r, p, _⟩ := I.list h; ⟨its, r, p.isList⟩
  inj := fun I h h' => I.list_inj h h'
  draws := fun hh it l hne items => Draws.list hh it l hne items
  obj := fun ⟨o, e, c, d⟩ => ⟨o, e, fun v z => by rw [d] at z; cases z⟩
  at_ := fun x k => x.at k
  beg := fun a items => begins_list a items
  start := fun e => ⟨_, e, rfl, rfl⟩
  lt := fun ⟨o, e, _⟩ => Heap.lt_size e
  keep := fun k h => k.seq h

def srcT : Src where
  sq := fun K H a xs => SqT K H a xs
  itr := fun h it a i => h.IsTupleIter it a i
  isS := fun h a items => h.IsTuple a items
  ob := fun a => { cls := .type "tuple_iterator", data := .fields #[.ref a, .int 0 0] }
  inv := fun I h => let ⟨its, r, p, _⟩ := I.tuple h; ⟨its, r, p⟩
  inj := fun I h h' => I.tuple_inj h h'
  draws := fun hh it l hne items => Draws.tuple hh it l hne items
  obj := fun ⟨o, e, c, d⟩ => ⟨o, e, fun v z => by rw [d] at z; cases z⟩
  at_ := fun x k => x.at k
  beg := fun a items => begins_tuple a items
  start := fun e => ⟨_, e, rfl, rfl⟩
  lt := fun ⟨o, e, _⟩ => Heap.lt_size e
  keep := fun k h => seqT_same k h

/-! ### enumerate -/
def ItE (S : Src) (K : PySem.W.Frag) (a : Addr) : It :=
  ⟨fun i H => ∃ (xs : List V) (x : V), S.sq K H a xs ∧ xs[i]? = some x, fun i H v H' => ∃ T x, v = .ref T ∧ H T = none ∧ H' = upd H T (.tup [.int (i : Nat), x]) ∧ ∀ xs, S.sq K H a xs → xs[i]? = some x, fun i H => ∃ xs : List V, S.sq K H a xs ∧ xs.length = i⟩

theorem turn_enumG (S : Src) {P : Program} {w : World} {K : PySem.W.Frag} {elts : List Expr} {kk : Nat} {tpos : Pos} (a e it : Addr) :
    Turn P w K (.Tuple elts kk tpos) (ItE S K a) [e, it] e (fun i h => (∃ old, IsEnum h e it ((i : Nat) : Int) old) ∧ S.itr h it a i ∧ e ≠ it ∧ e ≠ a ∧ a ≠ it) where
  mem := by simp
  obj := fun i h st b hb => by
    obtain ⟨⟨old, he⟩, hi, _⟩ := st
    have e' : b = e ∨ b = it := by simpa using hb
    rcases e' with z | z
    · rw [z]; exact ⟨_, he, fun v q => nomatch q⟩
    · rw [z]; exact S.obj hi
  keep := fun i h h' st k => let ⟨⟨old, he⟩, hi, r⟩ := st; ⟨⟨old, k e (by simp) _ he⟩, S.at_ hi fun o q => k it (by simp) o q, r⟩
  item := by
    intro X hP hw hK hc i pins s σ H E I hf st hg
    subst hP hw hK
    obtain ⟨⟨old, he⟩, hit, hne, hea, hai⟩ := st
    obtain ⟨xs, x, hq, hx⟩ := hg
    obtain ⟨its, rv, p⟩ := S.inv I hq
    obtain ⟨u, hu, ru⟩ := rv.get hx
    have hel : e < s.heap.objs.size := Heap.lt_size he
    have hil : it < s.heap.objs.size := by obtain ⟨_, q, _⟩ := S.obj hit; exact Heap.lt_size q
    have hlt : i < its.toArray.size := by
      have q := (List.getElem?_eq_some_iff.mp hu).1
      simpa using q
    refine wpAny_pyNext_enum_itemD (S.draws (show X.A.in1.handled = none from I.ok.hd hc) it a hai its.toArray) he ⟨hit, p⟩ hlt hne (by simp [hne, hea]) fun v h' tk hv ho hst hT hsz hk => ?_
    have ev : u = v := by
      have q : its[i]? = some v := by simpa using hv
      rw [hu] at q; cases q; rfl
    subst ev
    refine ⟨_, rfl, wpAny_letOwnedTupleGo_enum (s := { s with heap := h', toks := tk + 1 }) ho fun h'' he' sb => ?_⟩
    have hT2 : h''.get? s.heap.objs.size = some { cls := .type "tuple", data := .seq #[.int i tk, u] } := (sb.2 _ (Nat.ne_of_gt hel)).trans hT
    have new : ObjOk X.prog X.w (upd H s.heap.objs.size (.tup [.int (i : Nat), x])) h'' s.heap.objs.size (.tup [.int (i : Nat), x]) :=
      ⟨by show 2 ≤ sizeLine; decide, [.int i tk, u], .cons ⟨_, rfl⟩ (.cons ru .nil), ⟨_, hT2, rfl, _, rfl⟩⟩
    have I1 : Inv X pins σ (upd H s.heap.objs.size (.tup [.int (i : Nat), x])) { s with heap := h'', toks := tk + 1 } :=
      I.turnedNew (ch := [e, it]) (fun b ob hb q => (sb.2 b (fun z => hb (by simp [z]))).trans (hk b ob (fun z => hb (by simp [z])) (fun z => hb (by simp [z])) q)) hf (Nat.le_refl _) new
    refine ⟨.ref s.heap.objs.size, _, I1, rfl, ⟨_, x, rfl, I.hok.fresh (Nat.le_refl _), rfl, fun ys hy => by rw [S.inj I hy hq]; exact hx⟩, ⟨⟨u, ?_⟩, S.at_ hst.1 fun o q => (sb.2 it (Ne.symm hne)).trans q, hne, hea, hai⟩, fun b hb => ?_⟩
    · have e1 : ((i + 1 : Nat) : Int) = (i : Int) + 1 := by omega
      rw [e1]; exact he'
    · have hb' : b < s.heap.objs.size := by
        have e' : b = e ∨ b = it := by simpa using hb
        rcases e' with z | z
        · rw [z]; exact hel
        · rw [z]; exact hil
      rw [upd_ne (Nat.ne_of_lt hb')]
      exact (hf b hb).1
  done := by
    intro X hP hw hK hc i pins s σ H E I hf st hg
    subst hP hw hK
    obtain ⟨⟨old, he⟩, hit, hne, hea, hai⟩ := st
    obtain ⟨xs, hq, hx⟩ := hg
    obtain ⟨its, rv, p⟩ := S.inv I hq
    obtain ⟨f0, f1, f2, f3, f4, f5⟩ := hf it (by simp)
    have hl := rv.length
    have hn : its.toArray.size = i := by rw [List.size_toArray]; omega
    subst hn
    exact wpAny_pyNext_enum_endD (S.draws (show X.A.in1.handled = none from I.ok.hd hc) it a hai its.toArray) he ⟨hit, p⟩ fun h' eb => ⟨rfl, I.turned (t' := s.toks) (fun b o hb q => eb b o hb q) f0 f1 f3 f4 f5⟩
  self := fun A i s Q E st h => let ⟨⟨_, he⟩, _⟩ := st; wpAny_pyIter_enum he h

theorem meets_enum_new0 {v : Value} {o : Obj} {H : Heap → Prop} (B : Begins v o H) :
    Meets (Builtin.«enumerate.__new__» ⟨[.type "enumerate", v], []⟩) (fun _ R s => H s.heap ∧
      R (.ok (.ret (.ref (s.heap.push o).objs.size))) { s with heap := (s.heap.push o).push { cls := .type "enumerate", data := .fields #[.none, .bool false, .ref s.heap.objs.size, rawInt 0, .none, .none] } }) :=
  .of_wp fun prog w A R s h => by
    obtain ⟨hp, g, d, tk, os⟩ := s; obtain ⟨h1, h⟩ := h
    have hsub := sub_enumerate
    have q1 : ∀ {A' : Around} {E : Value → Shared → Prop} {Q : Value → Shared → Prop}, Q (.ref hp.objs.size) ⟨hp.push o, g, d, tk, os⟩ → wpAny (model prog w) A' (pyIter v) Q E ⟨hp, g, d, tk, os⟩ :=
      fun q => B.iter prog w _ _ ⟨hp, g, d, tk, os⟩ _ h1 q
    wp_walk using q1
    refine wpAny_stack_any fun st => wpAny_pure ?_
    split
    · rename_i c _ _ _ _ _
      cases (c == Value.type "enumerate")
      · wp_walk using q1
        exact ⟨_, rfl, h⟩
      · wp_walk using q1
        exact ⟨_, rfl, h⟩
    · wp_walk using q1
      exact ⟨_, rfl, h⟩
section
variable {prog : Program} {w : World} {A : Around} {E : Value → Shared → Prop} {s : Shared}
theorem enum_begins0 {v : Value} {o : Obj} {H : Heap → Prop} {Q : Value → Shared → Prop} (B : Begins v o H) (h1 : H s.heap)
    (h : ∀ h', IsEnum h' (s.heap.objs.size + 1) s.heap.objs.size 0 .none → h'.get? s.heap.objs.size = some o → h'.objs.size = s.heap.objs.size + 2 →
      (∀ b o, s.heap.get? b = some o → h'.get? b = some o) → Q (.ref (s.heap.objs.size + 1)) { s with heap := h' }) :
    wpAny (model prog w) A (call (.type "enumerate") [v]) Q E s := by
  refine callType_new F.called_enumerate (by decide) (F.typeCall_enumerate_1 _) (F.newCall_enumerate_1 _) (fun obj => F.args_object_init_2 obj _) F.entry_enumerate_new
    (meets_enum_new0 B) ⟨h1, ?_⟩
  have hz : (s.heap.push o).objs.size = s.heap.objs.size + 1 := Heap.size_push ..
  show _ ∧ _
  rw [hz]
  have he : IsEnum ((s.heap.push o).push { cls := .type "enumerate", data := .fields #[.none, .bool false, .ref s.heap.objs.size, rawInt 0, .none, .none] }) (s.heap.objs.size + 1) s.heap.objs.size 0 .none := by
    have := Heap.get?_push_size (s.heap.push o) (o := { cls := .type "enumerate", data := .fields #[.none, .bool false, .ref s.heap.objs.size, rawInt 0, .none, .none] }) rfl
    rw [hz] at this; exact this
  exact ⟨⟨_, he, rfl⟩, h _ he (Heap.get?_push_of_some _ (Heap.get?_push_size _ B.free)) (by rw [Heap.size_push, hz]) fun b o x => Heap.get?_push_of_some _ (Heap.get?_push_of_some _ x)⟩
end
def iEnG (S : Src) (K : PySem.W.Frag) (ta : TA) : TI := fun σ H R => ta σ H fun vs H1 => ∃ a xs, vs = [.ref a] ∧ S.sq K H1 a xs ∧ R (ItE S K a) H1
theorem enumG_run (S : Src) {X : Cx} {pins : List (Addr × Obj)} {σ : L2.St} {H1 : Hp} {s1 : Shared} {us : List Value} {vs : List V} {elts : List Expr} {kk : Nat} {tpos : Pos} {R : It → Hp → Prop} (I1 : Inv X pins σ H1 s1) (r1 : Vals vs us)
    (q1 : ∃ (a : Addr) (xs : List V), vs = [.ref a] ∧ S.sq X.K H1 a xs ∧ R (ItE S X.K a) H1) :
    wpAny (model X.prog X.w) X.A (call (.type "enumerate") us) (fun v s1 => wpAny (model X.prog X.w) X.A (pyIter v) (PIE X pins σ (.Tuple elts kk tpos) R) X.xe s1) X.xe s1 := by
  obtain ⟨a, xs, ex, hq, q⟩ := q1
  subst ex
  cases r1 with
  | cons r rr =>
    cases rr
    cases r
    obtain ⟨its, rv, p'⟩ := S.inv I1 hq
    have la := S.lt p'
    refine enum_begins0 (S.beg a its.toArray) p' fun h' he hit hsz hk => wpAny_pyIter_enum he ?_
    have I2 : Inv X pins σ H1 { s1 with heap := h' } := I1.kept (t' := s1.toks) hk
    refine ⟨s1.heap.objs.size + 1, [s1.heap.objs.size + 1, s1.heap.objs.size], _, _, H1, rfl, I2, turn_enumG S a (s1.heap.objs.size + 1) s1.heap.objs.size, ⟨⟨.none, he⟩, S.start hit, Nat.succ_ne_self _, Nat.ne_of_gt (Nat.lt_succ_of_lt la), Nat.ne_of_lt la⟩, fun b hb => ?_, q⟩
    have e' : b = s1.heap.objs.size + 1 ∨ b = s1.heap.objs.size := by simpa using hb
    have hle : s1.heap.objs.size ≤ b := by
      rcases e' with z | z
      · rw [z]; exact Nat.le_add_right _ _
      · rw [z]; exact Nat.le_refl _
    exact I1.fpOk hle (I1.hok.fresh hle)

/-! ### zip of two -/
def ItZ (S1 S2 : Src) (K : PySem.W.Frag) (a b : Addr) : It :=
  ⟨fun i H => ∃ (xs ys : List V) (x y : V), S1.sq K H a xs ∧ S2.sq K H b ys ∧ xs[i]? = some x ∧ ys[i]? = some y,
    fun i H v H' => ∃ T x y, v = .ref T ∧ H T = none ∧ H' = upd H T (.tup [x, y]) ∧ (∀ xs, S1.sq K H a xs → xs[i]? = some x) ∧ ∀ ys, S2.sq K H b ys → ys[i]? = some y,
    fun i H => ∃ xs ys : List V, S1.sq K H a xs ∧ S2.sq K H b ys ∧ i ≤ xs.length ∧ i ≤ ys.length ∧ (i = xs.length ∨ i = ys.length)⟩
theorem turn_zipG (S1 S2 : Src) {P : Program} {w : World} {K : PySem.W.Frag} {elts : List Expr} {kk : Nat} {tpos : Pos} {a b z TI TO i1 i2 : Addr} (D : ZipSep2 z TI TO i1 i2 [i1, a] [i2, b]) (ha1 : a ≠ i1) (hb2 : b ≠ i2) :
    Turn P w K (.Tuple elts kk tpos) (ItZ S1 S2 K a b) [z, TI, TO, i1, i2] z (fun i h => IsZip h z TI TO .none ∧ IsTupOf2 h TI (.ref i1) (.ref i2) ∧ (∃ x y, IsTupOf2 h TO x y) ∧ S1.itr h i1 a i ∧ S2.itr h i2 b i) where
  mem := by simp
  obj := fun i h st c hc => by
    obtain ⟨hz, hTI, ⟨x, y, hTO⟩, h1, h2⟩ := st
    have e' : c = z ∨ c = TI ∨ c = TO ∨ c = i1 ∨ c = i2 := by simpa using hc
    rcases e' with q | q | q | q | q
    · rw [q]; exact ⟨_, hz, fun v q => nomatch q⟩
    · rw [q]; exact ⟨_, hTI, fun v q => nomatch q⟩
    · rw [q]; exact ⟨_, hTO, fun v q => nomatch q⟩
    · rw [q]; exact S1.obj h1
    · rw [q]; exact S2.obj h2
  keep := fun i h h' st k => by
    obtain ⟨hz, hTI, ⟨x, y, hTO⟩, h1, h2⟩ := st
    exact ⟨k z (by simp) _ hz, k TI (by simp) _ hTI, ⟨x, y, k TO (by simp) _ hTO⟩, S1.at_ h1 fun o q => k i1 (by simp) o q, S2.at_ h2 fun o q => k i2 (by simp) o q⟩
  item := by
    intro X hP hw hK hc i pins s σ H E I hf st hg
    subst hP hw hK
    obtain ⟨hz, hTI, ⟨x0, y0, hTO⟩, h1, h2⟩ := st
    obtain ⟨xs, ys, x, y, hqx, hqy, hx, hy⟩ := hg
    obtain ⟨its, rv, p⟩ := S1.inv I hqx
    obtain ⟨its2, rv2, p2⟩ := S2.inv I hqy
    obtain ⟨u, hu, ru⟩ := rv.get hx
    obtain ⟨u2, hu2, ru2⟩ := rv2.get hy
    have hzl : z < s.heap.objs.size := Heap.lt_size hz
    have hlt : i < its.toArray.size := by
      have q := (List.getElem?_eq_some_iff.mp hu).1
      simpa using q
    have hlt2 : i < its2.toArray.size := by
      have q := (List.getElem?_eq_some_iff.mp hu2).1
      simpa using q
    have hh : X.A.in1.handled = none := I.ok.hd hc
    refine wpAny_pyNext_zipD2_item D (S1.draws hh i1 a ha1 its.toArray) (S2.draws hh i2 b hb2 its2.toArray) hz hTI hTO ⟨h1, p⟩ ⟨h2, p2⟩ hlt hlt2 fun v v2 h' tk hv hv2 z' TO' st1 st2 hT hsz hk => ?_
    have ev : u = v := by
      have q : its[i]? = some v := by simpa using hv
      rw [hu] at q; cases q; rfl
    have ev2 : u2 = v2 := by
      have q : its2[i]? = some v2 := by simpa using hv2
      rw [hu2] at q; cases q; rfl
    subst ev ev2
    refine ⟨_, rfl, wpAny_letOwnedTupleGo_zip (s := { s with heap := h', toks := tk }) z' fun h'' z'' sb => ?_⟩
    have hT2 : h''.get? s.heap.objs.size = some { cls := .type "tuple", data := .seq #[u, u2] } := (sb.2 _ (Nat.ne_of_gt hzl)).trans hT
    have new : ObjOk X.prog X.w (upd H s.heap.objs.size (.tup [x, y])) h'' s.heap.objs.size (.tup [x, y]) :=
      ⟨by show 2 ≤ sizeLine; decide, [u, u2], .cons ru (.cons ru2 .nil), ⟨_, hT2, rfl, _, rfl⟩⟩
    have I1 : Inv X pins σ (upd H s.heap.objs.size (.tup [x, y])) { s with heap := h'', toks := tk } :=
      I.turnedNew (ch := [z, TI, TO, i1, i2]) (fun c o hb q => (sb.2 c (fun q' => hb (by simp [q']))).trans (hk c o (fun q' => hb (by simp [q'])) (fun q' => hb (by simp [q'])) (fun q' => hb (by simp [q'])) (fun q' => hb (by simp [q'])) q)) hf (Nat.le_refl _) new
    have zi1 : i1 ≠ z := fun q => D.zf1 (by simp [q])
    have zi2 : i2 ≠ z := fun q => D.zf2 (by simp [q])
    refine ⟨.ref s.heap.objs.size, _, I1, rfl, ⟨_, x, y, rfl, I.hok.fresh (Nat.le_refl _), rfl, fun l hl => by rw [S1.inj I hl hqx]; exact hx, fun l hl => by rw [S2.inj I hl hqy]; exact hy⟩, ⟨z'', ?_, ⟨u, u2, ?_⟩, ?_, ?_⟩, fun c hcm => ?_⟩
    · exact (sb.2 _ D.TIz).trans (hk _ _ D.TIz D.TITO D.TIi1 D.TIi2 hTI)
    · exact (sb.2 _ D.TOz).trans TO'
    · exact S1.at_ st1.1 fun o q => (sb.2 _ zi1).trans q
    · exact S2.at_ st2.1 fun o q => (sb.2 _ zi2).trans q
    · have hlt : c < s.heap.objs.size := by
        have e' : c = z ∨ c = TI ∨ c = TO ∨ c = i1 ∨ c = i2 := by simpa using hcm
        rcases e' with q | q | q | q | q
        · rw [q]; exact hzl
        · rw [q]; exact Heap.lt_size hTI
        · rw [q]; exact Heap.lt_size hTO
        · rw [q]; obtain ⟨_, e1, _⟩ := S1.obj h1; exact Heap.lt_size e1
        · rw [q]; obtain ⟨_, e2, _⟩ := S2.obj h2; exact Heap.lt_size e2
      rw [upd_ne (Nat.ne_of_lt hlt)]
      exact (hf c hcm).1
  done := by
    intro X hP hw hK hc i pins s σ H E I hf st hg
    subst hP hw hK
    obtain ⟨hz, hTI, ⟨x0, y0, hTO⟩, h1, h2⟩ := st
    obtain ⟨xs, ys, hqx, hqy, le1, le2, hend⟩ := hg
    obtain ⟨its, rv, p⟩ := S1.inv I hqx
    obtain ⟨its2, rv2, p2⟩ := S2.inv I hqy
    have l1 := rv.length
    have l2 := rv2.length
    have hh : X.A.in1.handled = none := I.ok.hd hc
    exact wpAny_pyNext_zipD2_end D (S1.draws hh i1 a ha1 its.toArray) (S2.draws hh i2 b hb2 its2.toArray) hz hTI hTO ⟨h1, p⟩ ⟨h2, p2⟩ (by rw [List.size_toArray]; omega) (by rw [List.size_toArray]; omega)
      (by rw [List.size_toArray, List.size_toArray]; omega) fun h' tk hk => ⟨rfl, I.turnedL (t' := tk) (ch := [z, TI, TO, i1, i2]) (fun c o hb q =>
      hk c o (fun q' => hb (by simp [q'])) (fun q' => hb (by simp [q'])) (fun q' => hb (by simp [q'])) (fun q' => hb (by simp [q'])) q) hf⟩
  self := fun A i s Q E st h => wpAny_pyIter_zip st.1 h
def iZpG (S1 S2 : Src) (K : PySem.W.Frag) (ta : TA) : TI := fun σ H R => ta σ H fun vs H1 => ∃ a b xs ys, vs = [.ref a, .ref b] ∧ S1.sq K H1 a xs ∧ S2.sq K H1 b ys ∧ R (ItZ S1 S2 K a b) H1
theorem zipG_run (S1 S2 : Src) {X : Cx} {pins : List (Addr × Obj)} {σ : L2.St} {H1 : Hp} {s1 : Shared} {us : List Value} {vs : List V} {elts : List Expr} {kk : Nat} {tpos : Pos} {R : It → Hp → Prop} (I1 : Inv X pins σ H1 s1) (r1 : Vals vs us)
    (q1 : ∃ (a b : Addr) (xs ys : List V), vs = [.ref a, .ref b] ∧ S1.sq X.K H1 a xs ∧ S2.sq X.K H1 b ys ∧ R (ItZ S1 S2 X.K a b) H1) :
    wpAny (model X.prog X.w) X.A (call (.type "zip") us) (fun v s1 => wpAny (model X.prog X.w) X.A (pyIter v) (PIE X pins σ (.Tuple elts kk tpos) R) X.xe s1) X.xe s1 := by
  obtain ⟨a, b, xs, ys, ex, hqx, hqy, q⟩ := q1
  subst ex
  cases r1 with
  | cons r rr =>
    cases rr with
    | cons r' rr =>
      cases rr
      cases r
      cases r'
      obtain ⟨its, rv, p1⟩ := S1.inv I1 hqx
      obtain ⟨its2, rv2, p2⟩ := S2.inv I1 hqy
      have la := S1.lt p1
      have lb := S2.lt p2
      refine zip_begins2 (S1.beg a its.toArray) (S2.beg b its2.toArray) p1 p2 fun h' hz hTI hTO h1 h2 hsz hk => wpAny_pyIter_zip hz ?_
      have I2 : Inv X pins σ H1 { s1 with heap := h' } := I1.kept (t' := s1.toks) hk
      refine ⟨s1.heap.objs.size + 4, [s1.heap.objs.size + 4, s1.heap.objs.size + 2, s1.heap.objs.size + 3, s1.heap.objs.size, s1.heap.objs.size + 1], _, _, H1, rfl, I2,
        turn_zipG S1 S2 (zip_sep2 (fp1 := [a]) (fp2 := [b]) (by intro c hc; rw [List.mem_singleton.mp hc]; exact la) (by intro c hc; rw [List.mem_singleton.mp hc]; exact lb)) (Nat.ne_of_lt la) (Nat.ne_of_lt (Nat.lt_succ_of_lt lb)),
        ⟨hz, hTI, ⟨_, _, hTO⟩, S1.start h1, S2.start h2⟩, fun c hcm => ?_, q⟩
      have e' : c = s1.heap.objs.size + 4 ∨ c = s1.heap.objs.size + 2 ∨ c = s1.heap.objs.size + 3 ∨ c = s1.heap.objs.size ∨ c = s1.heap.objs.size + 1 := by simpa using hcm
      have hle : s1.heap.objs.size ≤ c := by
        rcases e' with z | z | z | z | z
        · rw [z]; exact Nat.le_add_right _ _
        · rw [z]; exact Nat.le_add_right _ _
        · rw [z]; exact Nat.le_add_right _ _
        · rw [z]; exact Nat.le_refl _
        · rw [z]; exact Nat.le_add_right _ _
      exact I1.fpOk hle (I1.hok.fresh hle)

/-! ### for over them -/
theorem for_enumG (S : Src) {K : PySem.W.Frag} {a : Addr} {xs : List V} {g : TG} {tb : TS} {D : Ends} {σ : L2.St} {H : Hp} (Pv : Nat → L2.St → Hp → Prop) (h0 : Pv 0 σ H) (hq : ∀ i σ H, Pv i σ H → S.sq K H a xs)
    (hs : ∀ (i : Nat) (x : V) (T : Addr) (σ : L2.St) (H : Hp), xs[i]? = some x → Pv i σ H → H T = none → g (.ref T) σ (upd H T (.tup [.int (i : Nat), x])) fun σ2 H2 => tb { D with nx := Pv (i + 1), ct := Pv (i + 1), bk := D.nx } σ2 H2) (hd : ∀ σ H, Pv xs.length σ H → D.nx σ H) :
    ∃ W : Nat → Nat → L2.St → Hp → Prop, (∃ m, W 0 m σ H) ∧ ∀ i m σ H, W i m σ H →
      ((ItE S K a).stop i H ∧ D.nx σ H) ∨ ((ItE S K a).go i H ∧ ∃ N : L2.St → Hp → Prop, (∀ σ' H', N σ' H' → ∃ m', m' < m ∧ W (i + 1) m' σ' H') ∧ ∀ v H', (ItE S K a).yld i H v H' → g v σ H' fun σ2 H2 => tb { D with nx := N, ct := N, bk := D.nx } σ2 H2) := by
  refine ⟨fun i m σ H => m = xs.length - i ∧ i ≤ xs.length ∧ Pv i σ H, ⟨xs.length, rfl, Nat.zero_le _, h0⟩, ?_⟩
  rintro i m σ H ⟨rfl, hi, p⟩
  have qx := hq i σ H p
  by_cases hlt : i < xs.length
  · have hx : xs[i]? = some xs[i] := List.getElem?_eq_getElem hlt
    refine .inr ⟨⟨xs, _, qx, hx⟩, Pv (i + 1), fun σ' H' p' => ⟨xs.length - (i + 1), by omega, rfl, hlt, p'⟩, fun v H' y => ?_⟩
    obtain ⟨T, x', rfl, hT, rfl, f1⟩ := y
    exact hs i x' T σ H (f1 xs qx) p hT
  · have e : i = xs.length := by omega
    subst e
    exact .inl ⟨⟨xs, qx, rfl⟩, hd σ H p⟩
theorem for_zipG (S1 S2 : Src) {K : PySem.W.Frag} {a b : Addr} {xs ys : List V} {g : TG} {tb : TS} {D : Ends} {σ : L2.St} {H : Hp} (hl : xs.length = ys.length) (Pv : Nat → L2.St → Hp → Prop) (h0 : Pv 0 σ H) (hq : ∀ i σ H, Pv i σ H → S1.sq K H a xs ∧ S2.sq K H b ys)
    (hs : ∀ (i : Nat) (x y : V) (T : Addr) (σ : L2.St) (H : Hp), xs[i]? = some x → ys[i]? = some y → Pv i σ H → H T = none → g (.ref T) σ (upd H T (.tup [x, y])) fun σ2 H2 => tb { D with nx := Pv (i + 1), ct := Pv (i + 1), bk := D.nx } σ2 H2) (hd : ∀ σ H, Pv xs.length σ H → D.nx σ H) :
    ∃ W : Nat → Nat → L2.St → Hp → Prop, (∃ m, W 0 m σ H) ∧ ∀ i m σ H, W i m σ H →
      ((ItZ S1 S2 K a b).stop i H ∧ D.nx σ H) ∨ ((ItZ S1 S2 K a b).go i H ∧ ∃ N : L2.St → Hp → Prop, (∀ σ' H', N σ' H' → ∃ m', m' < m ∧ W (i + 1) m' σ' H') ∧ ∀ v H', (ItZ S1 S2 K a b).yld i H v H' → g v σ H' fun σ2 H2 => tb { D with nx := N, ct := N, bk := D.nx } σ2 H2) := by
  refine ⟨fun i m σ H => m = xs.length - i ∧ i ≤ xs.length ∧ Pv i σ H, ⟨xs.length, rfl, Nat.zero_le _, h0⟩, ?_⟩
  rintro i m σ H ⟨rfl, hi, p⟩
  obtain ⟨qx, qy⟩ := hq i σ H p
  by_cases hlt : i < xs.length
  · have hx : xs[i]? = some xs[i] := List.getElem?_eq_getElem hlt
    have hlt2 : i < ys.length := by omega
    have hy : ys[i]? = some ys[i] := List.getElem?_eq_getElem hlt2
    refine .inr ⟨⟨xs, ys, _, _, qx, qy, hx, hy⟩, Pv (i + 1), fun σ' H' p' => ⟨xs.length - (i + 1), by omega, rfl, hlt, p'⟩, fun v H' y => ?_⟩
    obtain ⟨T, x', y', rfl, hT, rfl, f1, f2⟩ := y
    exact hs i x' y' T σ H (f1 xs qx) (f2 ys qy) p hT
  · have e : i = xs.length := by omega
    subst e
    exact .inl ⟨⟨xs, ys, qx, qy, Nat.le_refl _, by omega, .inl rfl⟩, hd σ H p⟩

theorem for_zipLe (S1 S2 : Src) {K : PySem.W.Frag} {a b : Addr} {xs ys : List V} {g : TG} {tb : TS} {D : Ends} {σ : L2.St} {H : Hp} (hl : xs.length ≤ ys.length) (Pv : Nat → L2.St → Hp → Prop) (h0 : Pv 0 σ H) (hq : ∀ i σ H, Pv i σ H → S1.sq K H a xs ∧ S2.sq K H b ys)
    (hs : ∀ (i : Nat) (x y : V) (T : Addr) (σ : L2.St) (H : Hp), xs[i]? = some x → ys[i]? = some y → Pv i σ H → H T = none → g (.ref T) σ (upd H T (.tup [x, y])) fun σ2 H2 => tb { D with nx := Pv (i + 1), ct := Pv (i + 1), bk := D.nx } σ2 H2) (hd : ∀ σ H, Pv xs.length σ H → D.nx σ H) :
    ∃ W : Nat → Nat → L2.St → Hp → Prop, (∃ m, W 0 m σ H) ∧ ∀ i m σ H, W i m σ H →
      ((ItZ S1 S2 K a b).stop i H ∧ D.nx σ H) ∨ ((ItZ S1 S2 K a b).go i H ∧ ∃ N : L2.St → Hp → Prop, (∀ σ' H', N σ' H' → ∃ m', m' < m ∧ W (i + 1) m' σ' H') ∧ ∀ v H', (ItZ S1 S2 K a b).yld i H v H' → g v σ H' fun σ2 H2 => tb { D with nx := N, ct := N, bk := D.nx } σ2 H2) := by
  refine ⟨fun i m σ H => m = xs.length - i ∧ i ≤ xs.length ∧ Pv i σ H, ⟨xs.length, rfl, Nat.zero_le _, h0⟩, ?_⟩
  rintro i m σ H ⟨rfl, hi, p⟩
  obtain ⟨qx, qy⟩ := hq i σ H p
  by_cases hlt : i < xs.length
  · have hx : xs[i]? = some xs[i] := List.getElem?_eq_getElem hlt
    have hlt2 : i < ys.length := by omega
    have hy : ys[i]? = some ys[i] := List.getElem?_eq_getElem hlt2
    refine .inr ⟨⟨xs, ys, _, _, qx, qy, hx, hy⟩, Pv (i + 1), fun σ' H' p' => ⟨xs.length - (i + 1), by omega, rfl, hlt, p'⟩, fun v H' y => ?_⟩
    obtain ⟨T, x', y', rfl, hT, rfl, f1, f2⟩ := y
    exact hs i x' y' T σ H (f1 xs qx) (f2 ys qy) p hT
  · have e : i = xs.length := by omega
    subst e
    exact .inl ⟨⟨xs, ys, qx, qy, Nat.le_refl _, by omega, .inl rfl⟩, hd σ H p⟩

/-! ### two tuples of the same numbers -/
theorem canLay_ints : ∀ ns : List Nat, PyData.canLayAll0 (ns.map fun n : Nat => PyData.int (n : Int)) = true
  | [] => by simp [PyData.canLayAll0]
  | n :: r => by
    rw [List.map_cons, PyData.canLayAll0, canLay_ints r]
    simp [PyData.canLay0]
theorem depth_ints : ∀ ns : List Nat, PyData.depthAll (ns.map fun n : Nat => PyData.int (n : Int)) ≤ 1
  | [] => by simp [PyData.depthAll]
  | n :: r => by
    have := depth_ints r
    rw [List.map_cons, PyData.depthAll]
    simp [PyData.depth] <;> omega
theorem dp_ints {K : PySem.W.Frag} {H : Hp} : ∀ ns : List Nat, DpAll K H (ns.map vI) (ns.map fun n : Nat => PyData.int (n : Int))
  | [] => .nil
  | n :: r => .cons (.int _) (dp_ints r)
theorem shaped_ints (ns : List Nat) : SeqAt.shaped (.tuple (ns.map fun n : Nat => PyData.int (n : Int))) = true := by
  have h := depth_ints ns
  unfold SeqAt.shaped
  rw [PyData.canLay0, canLay_ints, Bool.true_and]
  refine decide_eq_true ?_
  rw [PyData.depth]
  omega
def rNeI (K : PySem.W.Frag) : R2 := fun x y H Q => ∃ (a b : Addr) (ns : List Nat), x = .ref a ∧ y = .ref b ∧ SqT K H a (ns.map vI) ∧ SqT K H b (ns.map vI) ∧ Q (.bl false) H
theorem op_neI {X : Cx} (hu : X.A.units + 64 < cLine) : OpR X (compareOp .NotEq) (rNeI X.K) := by
  intro pins s σ H x y v u Q I rx ry h
  obtain ⟨a, b, ns, rfl, rfl, ha, hb, q⟩ := h
  refine op_neD hu pins s σ H _ _ v u Q I rx ry ⟨_, _, .tup ha (dp_ints ns), .tup hb (dp_ints ns), shaped_ints ns, shaped_ints ns, ?_⟩
  rw [SeqAt.eqv_refl _ (SeqAt.canLay_of_shaped (shaped_ints ns))]
  exact q
def rEqI (K : PySem.W.Frag) : R2 := fun x y H Q => ∃ (a b : Addr) (ns : List Nat), x = .ref a ∧ y = .ref b ∧ SqT K H a (ns.map vI) ∧ SqT K H b (ns.map vI) ∧ Q (.bl true) H
theorem op_eqI {X : Cx} (hu : X.A.units + 64 < cLine) : OpR X (compareOp .Eq) (rEqI X.K) := by
  intro pins s σ H x y v u Q I rx ry h
  obtain ⟨a, b, ns, rfl, rfl, ha, hb, q⟩ := h
  refine op_eqD hu pins s σ H _ _ v u Q I rx ry ⟨_, _, .tup ha (dp_ints ns), .tup hb (dp_ints ns), shaped_ints ns, shaped_ints ns, ?_⟩
  rw [SeqAt.eqv_refl _ (SeqAt.canLay_of_shaped (shaped_ints ns))]
  exact q

/-! ### list.extend(tuple) -/
theorem ext_tupA (l : Addr) (items : Array Value) (n : Nat) (b : Addr) (items2 : Array Value) (n2 : Nat) (dd : Option Addr) (sl : Array (Option Value)) (hs0 : ¬(!items.isEmpty && Builtin.List.listTooLong (items.size + items2.size)) = true) (hs1 : items.size ≤ sizeLine) (hs2 : items.size + items2.size ≤ sizeLine + 1) :
    Meets (Builtin.«list.extend» ⟨[.ref l, .ref b], []⟩) (fun _ R s => s.heap.get? l = some { cls := .type "list", dict := none, data := .seq items n, slots := #[] } ∧ s.heap.get? b = some { cls := .type "tuple", dict := dd, data := .seq items2 n2, slots := sl } ∧ R (.ok (.ret Value.none)) { s with heap := s.heap.update l (Obj.mapSeq fun x => x ++ items2), toks := s.toks }) :=
  .of_wp fun prog w A R s h => by
    obtain ⟨hp, g, d, tk, os⟩ := s; obtain ⟨hl, hb, h⟩ := h; have f2 := sub_tuple_tuple; have f3 := sub_list_list; have f4 := sub_tuple_list; have f5 := sub_list_tuple
    have hz' : (items ++ items2).size ≤ sizeLine + 1 := by rw [Array.size_append]; exact hs2
    wp_walk using (wpAny_updateSeq hl rfl (hz := hs1) (_hz' := hz')), wpAny_loadPart' hl, wpAny_loadPart' hb
    exact ⟨_, rfl, h⟩
def rExtT (K : PySem.W.Frag) : V → List V → Hp → VK → Prop := fun x vs H Q => ∃ l b xs zs, x = .ref l ∧ vs = [.ref b] ∧ H l = some (.lst xs) ∧ SqT K H b zs ∧ xs.length + zs.length ≤ sizeLine ∧ Q .non (upd H l (.lst (xs ++ zs)))
theorem mt_extT {X : Cx} : MtM X "list.extend" (rExtT X.K) := by
  intro pins s σ H x vs v us Q I rx rv h
  obtain ⟨l, b, xs, zs, rfl, rfl, hH, hB, hz, q⟩ := h
  cases rx
  obtain ⟨u, rfl, ru⟩ := rv.one
  cases ru
  obtain ⟨z, its, n, r, hl, e⟩ := I.lstM hH
  obtain ⟨its2, r2, p2, hl2⟩ := I.tuple hB
  obtain ⟨⟨cls, dd, data, sl⟩, ho, hc, n2, hd⟩ := id p2
  simp only at hc hd
  subst hc hd
  have len2 := r2.length
  have hsz : its.toArray.size + its2.toArray.size ≤ sizeLine := by rw [List.size_toArray, List.size_toArray]; omega
  have hlong : ¬ (!its.toArray.isEmpty && Builtin.List.listTooLong (its.toArray.size + its2.toArray.size)) = true := by
    rw [notLongL hsz, Bool.and_false]
    exact Bool.false_ne_true
  refine call_meets F.slot_list_extend ⟨_, e, rfl⟩ F.entry_list_extend (F.args_list_extend_2 _ _)
    (ext_tupA l its.toArray n b its2.toArray n2 dd sl hlong (by rw [List.size_toArray]; omega) (by omega)) ⟨e, ho, ?_⟩
  refine ⟨.non, _, I.lset (its' := its ++ its2) hH e (by simp) (r.append r2) ?_, rfl, q⟩
  rw [List.length_append]
  omega

/-! ### the source as it comes -/
def iEnX (K : PySem.W.Frag) (ta : TA) : TI := fun σ H R => ta σ H fun vs H1 => ∃ (S : Src) (a : Addr) (xs : List V), vs = [.ref a] ∧ S.sq K H1 a xs ∧ R (ItE S K a) H1
theorem pi_enumX {X : Cx} {e : Expr} {ta : TA} {p pos tpos : Pos} {elts : List Expr} {kk : Nat} (hg : Gl X "enumerate") (hm : X.mg "enumerate" = none) (ha : PA X [e] ta) (hs : starEach [e] X.env = [(false, eval e X.env)] := by rfl) :
    PI X (.Tuple elts kk tpos) (.Call (.Name "enumerate" p) [e] [] pos) (iEnX X.K ta) := by
  refine ⟨fun pins s σ H R I h => ?_⟩
  have h' : ta σ H fun vs H1 => ∃ S : Src, ∃ (a : Addr) (xs : List V), vs = [.ref a] ∧ S.sq X.K H1 a xs ∧ R (ItE S X.K a) H1 := h
  refine Call_ (ld_blt I hg hm boot_enumerate (PyProof.Rows.callWith_type1 (thn (ha.run pos pins s σ H _ I h') fun us s1 ⟨vs, H1, I1, r1, q1⟩ => ?_) hs rfl))
  obtain ⟨S, a, xs, ex, hq, q⟩ := q1
  exact enumG_run S I1 r1 ⟨a, xs, ex, hq, q⟩
def iZpX (K : PySem.W.Frag) (ta : TA) : TI := fun σ H R => ta σ H fun vs H1 => ∃ (S1 S2 : Src) (a b : Addr) (xs ys : List V), vs = [.ref a, .ref b] ∧ S1.sq K H1 a xs ∧ S2.sq K H1 b ys ∧ R (ItZ S1 S2 K a b) H1
theorem pi_zipX {X : Cx} {e e2 : Expr} {ta : TA} {p pos tpos : Pos} {elts : List Expr} {kk : Nat} (hg : Gl X "zip") (hm : X.mg "zip" = none) (ha : PA X [e, e2] ta)
    (hs : starEach [e, e2] X.env = (false, eval e X.env) :: starEach [e2] X.env := by rfl) (hpl : (backTo pos (starEach [e2] X.env)).any (·.1) = false := by rfl) :
    PI X (.Tuple elts kk tpos) (.Call (.Name "zip" p) [e, e2] [] pos) (iZpX X.K ta) := by
  refine ⟨fun pins s σ H R I h => ?_⟩
  have h' : ta σ H fun vs H1 => ∃ S1 S2 : Src, ∃ (a b : Addr) (xs ys : List V), vs = [.ref a, .ref b] ∧ S1.sq X.K H1 a xs ∧ S2.sq X.K H1 b ys ∧ R (ItZ S1 S2 X.K a b) H1 := h
  refine Call_ (ld_blt I hg hm PyProof.Rows.boot_zip (PyProof.Rows.callWith_type1 (thn (ha.run pos pins s σ H _ I h') fun us s1 ⟨vs, H1, I1, r1, q1⟩ => ?_) hs hpl))
  obtain ⟨S1, S2, a, b, xs, ys, ex, hqx, hqy, q⟩ := q1
  exact zipG_run S1 S2 I1 r1 ⟨a, b, xs, ys, ex, hqx, hqy, q⟩
end Bf

set_option Elab.async false
set_option linter.all false
set_option maxRecDepth 100000
set_option maxHeartbeats 4000000
namespace Bf
open PySem PySem.Spec PyProof.Rows L2
/-! ### data of tuples, ints and texts, as they lie -/
mutual
inductive Lay (H : Hp) : V → PyData → Prop
  | non : Lay H .non .none
  | bl (b : Bool) : Lay H (.bl b) (.bool b)
  | int (i : Int) : Lay H (.int i) (.int i)
  | str (x : Str) : Lay H (.str x) (.str x)
  | tup {a : Addr} {xs : List V} {ds : List PyData} : H a = some (.tup xs) → LayAll H xs ds → Lay H (.ref a) (.tuple ds)
inductive LayAll (H : Hp) : List V → List PyData → Prop
  | nil : LayAll H [] []
  | cons {v : V} {vs : List V} {d : PyData} {ds : List PyData} : Lay H v d → LayAll H vs ds → LayAll H (v :: vs) (d :: ds)
end
/-- what is tracked as a tuple in H is so in H' -/
def KeepT (H H' : Hp) : Prop := ∀ b xs, H b = some (.tup xs) → H' b = some (.tup xs)
theorem KeepT.refl (H : Hp) : KeepT H H := fun _ _ h => h
theorem KeepT.same {H H' : Hp} (k : Same H H') : KeepT H H' := fun b xs h => k _ _ h
theorem KeepT.trans {H H1 H2 : Hp} (a : KeepT H H1) (b : KeepT H1 H2) : KeepT H H2 := fun c o h => b c o (a c o h)
theorem KeepT.new {H : Hp} {p : Addr} {o : HO} (h : H p = none) : KeepT H (upd H p o) := fun b u q => by rw [upd_ne (ne_of_none q h)]; exact q
theorem KeepT.lst {H : Hp} {p : Addr} {o : HO} {l : List V} (h : H p = some (.lst l)) : KeepT H (upd H p o) := fun b u q => by
  rw [upd_ne (fun e => by rw [e, h] at q; cases q)]
  exact q
mutual
theorem Lay.keep {H H' : Hp} (k : KeepT H H') : ∀ (d : PyData) (v : V), Lay H v d → Lay H' v d
  | .none, _, h => by cases h; exact .non
  | .bool b, _, h => by cases h; exact .bl b
  | .int i, _, h => by cases h; exact .int i
  | .str x, _, h => by cases h; exact .str x
  | .list ds, _, h => by cases h
  | .tuple ds, _, h => by
    cases h with
    | tup e a => exact .tup (k _ _ e) (LayAll.keep k ds _ a)
  | .dict _, _, h => by cases h
theorem LayAll.keep {H H' : Hp} (k : KeepT H H') : ∀ (ds : List PyData) (vs : List V), LayAll H vs ds → LayAll H' vs ds
  | [], _, h => by cases h; exact .nil
  | d :: ds, _, h => by
    cases h with
    | cons a b => exact .cons (Lay.keep k d _ a) (LayAll.keep k ds _ b)
end
mutual
theorem Lay.dp {K : PySem.W.Frag} {H : Hp} : ∀ (d : PyData) (v : V), Lay H v d → Dp K H v d
  | .none, _, h => by cases h; exact .non
  | .bool b, _, h => by cases h; exact .bl b
  | .int i, _, h => by cases h; exact .int i
  | .str x, _, h => by cases h; exact .str x
  | .list ds, _, h => by cases h
  | .tuple ds, _, h => by
    cases h with
    | tup e a => exact .tup (SqT.of e) (LayAll.dp ds _ a)
  | .dict _, _, h => by cases h
theorem LayAll.dp {K : PySem.W.Frag} {H : Hp} : ∀ (ds : List PyData) (vs : List V), LayAll H vs ds → DpAll K H vs ds
  | [], _, h => by cases h; exact .nil
  | d :: ds, _, h => by
    cases h with
    | cons a b => exact .cons (Lay.dp d _ a) (LayAll.dp ds _ b)
end
theorem Lay.keep' {H H' : Hp} {d : PyData} {v : V} (h : Lay H v d) (k : KeepT H H') : Lay H' v d := Lay.keep k d v h
theorem LayAll.keep' {H H' : Hp} {ds : List PyData} {vs : List V} (h : LayAll H vs ds) (k : KeepT H H') : LayAll H' vs ds := LayAll.keep k ds vs h
theorem Lay.dp' {K : PySem.W.Frag} {H : Hp} {d : PyData} {v : V} (h : Lay H v d) : Dp K H v d := Lay.dp d v h
theorem LayAll.len {H : Hp} : ∀ {vs : List V} {ds : List PyData}, LayAll H vs ds → vs.length = ds.length
  | _, _, .nil => rfl
  | _, _, .cons _ h => by rw [List.length_cons, List.length_cons, h.len]
theorem LayAll.get {H : Hp} {v : V} : ∀ {vs : List V} {ds : List PyData} (i : Nat), LayAll H vs ds → vs[i]? = some v → ∃ d, ds[i]? = some d ∧ Lay H v d
  | [], _, _, _, e => by simp at e
  | _ :: _, _, 0, h, e => by
    cases h with
    | cons a b => cases e; exact ⟨_, rfl, a⟩
  | x :: vs, ds, i + 1, h, e => by
    cases h with
    | cons a b =>
      obtain ⟨d, q, l⟩ := LayAll.get (vs := vs) i b (by simpa using e)
      exact ⟨d, by simpa using q, l⟩
theorem LayAll.at_ {H : Hp} {d : PyData} : ∀ {vs : List V} {ds : List PyData} (i : Nat), LayAll H vs ds → ds[i]? = some d → ∃ v, vs[i]? = some v ∧ Lay H v d
  | _, [], _, _, e => by simp at e
  | _, _ :: _, 0, h, e => by
    cases h with
    | cons a b => cases e; exact ⟨_, rfl, a⟩
  | vs, x :: ds, i + 1, h, e => by
    cases h with
    | cons a b =>
      obtain ⟨d, q, l⟩ := LayAll.at_ (ds := ds) i b (by simpa using e)
      exact ⟨d, by simpa using q, l⟩
theorem LayAll.app {H : Hp} : ∀ {vs us : List V} {ds es : List PyData}, LayAll H vs ds → LayAll H us es → LayAll H (vs ++ us) (ds ++ es)
  | _, _, _, _, .nil, h => h
  | _, _, _, _, .cons a b, h => .cons a (b.app h)
theorem LayAll.snoc {H : Hp} {vs : List V} {ds : List PyData} {v : V} {d : PyData} (h : LayAll H vs ds) (a : Lay H v d) : LayAll H (vs ++ [v]) (ds ++ [d]) := h.app (.cons a .nil)
theorem LayAll.ints {H : Hp} : ∀ ns : List Nat, LayAll H (ns.map vI) (ns.map fun n : Nat => PyData.int (n : Int))
  | [] => .nil
  | n :: ns => .cons (.int _) (LayAll.ints ns)
theorem LayAll.ints_inv {H : Hp} : ∀ {ns : List Nat} {vs : List V}, LayAll H vs (ns.map fun n : Nat => PyData.int (n : Int)) → vs = ns.map vI
  | [], _, .nil => rfl
  | n :: ns, _, .cons (.int _) h => by rw [LayAll.ints_inv h]; rfl
theorem LayAll.strs_inv {H : Hp} : ∀ {ns : List Str} {vs : List V}, LayAll H vs (ns.map PyData.str) → vs = ns.map V.str
  | [], _, .nil => rfl
  | n :: ns, _, .cons (.str _) h => by rw [LayAll.strs_inv h]; rfl
theorem LayAll.strs {H : Hp} : ∀ ns : List Str, LayAll H (ns.map V.str) (ns.map PyData.str)
  | [] => .nil
  | n :: ns => .cons (.str _) (LayAll.strs ns)
theorem Lay.tup_inv {H : Hp} {v : V} {ds : List PyData} (h : Lay H v (.tuple ds)) : ∃ p vs, v = .ref p ∧ H p = some (.tup vs) ∧ LayAll H vs ds := by
  cases h with
  | tup e a => exact ⟨_, _, rfl, e, a⟩
theorem Lay.int_inv {H : Hp} {v : V} {i : Int} (h : Lay H v (.int i)) : v = .int i := by cases h; rfl
theorem Lay.str_inv {H : Hp} {v : V} {z : Str} (h : Lay H v (.str z)) : v = .str z := by cases h; rfl
theorem LayAll.nil_inv {H : Hp} {vs : List V} (h : LayAll H vs []) : vs = [] := by cases h; rfl
theorem LayAll.cons_inv {H : Hp} {vs : List V} {d : PyData} {ds : List PyData} (h : LayAll H vs (d :: ds)) : ∃ v us, vs = v :: us ∧ Lay H v d ∧ LayAll H us ds := by
  cases h with
  | cons a b => exact ⟨_, _, rfl, a, b⟩
/-! ### the shapes that == serves -/
def Sh (k : Nat) (d : PyData) : Prop := d.canLay0 = true ∧ d.depth ≤ k
theorem Sh.int (k : Nat) (i : Int) : Sh k (.int i) := ⟨by simp only [PyData.canLay0], by simp only [PyData.depth]; omega⟩
theorem Sh.all {k : Nat} : ∀ {ds : List PyData}, (∀ d ∈ ds, Sh k d) → PyData.canLayAll0 ds = true ∧ PyData.depthAll ds ≤ k
  | [], _ => ⟨by simp only [PyData.canLayAll0], by simp only [PyData.depthAll]; omega⟩
  | d :: ds, h => by
    have a := h d (by simp)
    have b := Sh.all (ds := ds) fun e he => h e (by simp [he])
    refine ⟨?_, ?_⟩
    · simp only [PyData.canLayAll0]
      rw [a.1, b.1]
      rfl
    · simp only [PyData.depthAll]
      have := a.2
      have := b.2
      omega
theorem Sh.tup {k : Nat} {ds : List PyData} (h : ∀ d ∈ ds, Sh k d) : Sh (k + 1) (.tuple ds) := by
  have q := Sh.all h
  exact ⟨by simp only [PyData.canLay0]; exact q.1, by simp only [PyData.depth]; omega⟩
theorem Sh.lst {k : Nat} {ds : List PyData} (h : ∀ d ∈ ds, Sh k d) : Sh (k + 1) (.list ds) := by
  have q := Sh.all h
  exact ⟨by simp only [PyData.canLay0]; exact q.1, by simp only [PyData.depth]; omega⟩
theorem Sh.shaped {k : Nat} {d : PyData} (h : Sh k d) (hk : k ≤ 64) : SeqAt.shaped d = true := by
  show (d.canLay0 && decide (d.depth ≤ 64)) = true
  rw [Bool.and_eq_true]
  exact ⟨h.1, decide_eq_true (by have := h.2; omega)⟩
mutual
theorem eqv_self : ∀ d : PyData, d.canLay0 = true → PyData.eqv d d = true
  | .none, _ => by simp [PyData.eqv]
  | .bool b, _ => by simp [PyData.eqv]
  | .int i, _ => by simp [PyData.eqv]
  | .str x, _ => by simp [PyData.eqv]
  | .list ds, h => by
    simp only [PyData.canLay0] at h
    simp only [PyData.eqv]
    exact eqvAll_self ds h
  | .tuple ds, h => by
    simp only [PyData.canLay0] at h
    simp only [PyData.eqv]
    exact eqvAll_self ds h
  | .dict _, h => by simp [PyData.canLay0] at h
theorem eqvAll_self : ∀ ds : List PyData, PyData.canLayAll0 ds = true → PyData.eqvAll ds ds = true
  | [], _ => by simp [PyData.eqvAll]
  | d :: ds, h => by
    simp only [PyData.canLayAll0, Bool.and_eq_true] at h
    simp only [PyData.eqvAll, Bool.and_eq_true]
    exact ⟨eqv_self d h.1, eqvAll_self ds h.2⟩
end
/-! ### bits of numbers that are not negative -/
section
variable {X : Cx}
theorem op_xorB : OpR X (binaryOp .BitXor) (fun x y H Q => ∃ n m : Nat, x = .int (n : Int) ∧ y = .int (m : Int) ∧ Q (vI (n ^^^ m)) H) := by
  intro pins s σ H x y v u Q I rx ry h
  obtain ⟨n, m, rfl, rfl, q⟩ := h
  refine op_xor pins s σ H _ _ v u Q I rx ry ⟨_, _, rfl, rfl, ?_⟩
  show Q (V.int (Builtin.bitXor (n : Int) (m : Int))) H
  rw [Bits.bitXor_pp (Int.natCast_nonneg _) (Int.natCast_nonneg _)]
  exact q
theorem op_andB : OpR X (binaryOp .BitAnd) (fun x y H Q => ∃ n m : Nat, x = .int (n : Int) ∧ y = .int (m : Int) ∧ Q (vI (n &&& m)) H) := by
  intro pins s σ H x y v u Q I rx ry h
  obtain ⟨n, m, rfl, rfl, q⟩ := h
  refine op_and pins s σ H _ _ v u Q I rx ry ⟨_, _, rfl, rfl, ?_⟩
  show Q (V.int (Builtin.bitAnd (n : Int) (m : Int))) H
  rw [bitAnd_pp (Int.natCast_nonneg _) (Int.natCast_nonneg _)]
  exact q
theorem op_orB : OpR X (binaryOp .BitOr) (fun x y H Q => ∃ n m : Nat, x = .int (n : Int) ∧ y = .int (m : Int) ∧ Q (vI (n ||| m)) H) := by
  intro pins s σ H x y v u Q I rx ry h
  obtain ⟨n, m, rfl, rfl, q⟩ := h
  refine op_or pins s σ H _ _ v u Q I rx ry ⟨_, _, rfl, rfl, ?_⟩
  show Q (V.int (Builtin.bitOr (n : Int) (m : Int))) H
  rw [Bits.bitOr_pp (Int.natCast_nonneg _) (Int.natCast_nonneg _)]
  exact q
end
/-! ### wide numbers that are not negative -/
theorem natAbs_cast (n : Nat) : ((n : Int)).natAbs = n := rfl
section
variable {X : Cx}
theorem op_fdivNW : OpR X (binaryOp .FloorDiv) (fun x y H Q => ∃ n m : Nat, x = .int (n : Int) ∧ y = .int (m : Int) ∧ (1 ≤ m ∧ m < 2 ^ 9000) ∧ Q (vI (n / m)) H) := by
  intro pins s σ H x y v u Q I rx ry h
  obtain ⟨n, m, rfl, rfl, ⟨h1, h2⟩, q⟩ := h
  exact op_fdivW pins s σ H _ _ v u Q I rx ry ⟨_, _, rfl, rfl, wide_div (b := 9000) (by omega) h2 (by omega) (by omega), q⟩
theorem op_mulNW : OpR X (binaryOp .Mult) (fun x y H Q => ∃ n m : Nat, x = .int (n : Int) ∧ y = .int (m : Int) ∧ (n < 2 ^ 100000 ∧ m < 2 ^ 100000) ∧ Q (vI (n * m)) H) := by
  intro pins s σ H x y v u Q I rx ry h
  obtain ⟨n, m, rfl, rfl, ⟨h1, h2⟩, q⟩ := h
  refine op_mulW pins s σ H _ _ v u Q I rx ry ⟨_, _, rfl, rfl, wide_mul (a := 100000) (b := 100000) h1 h2 (by omega) (by omega) (by omega), ?_⟩
  show Q (V.int ((n : Int) * (m : Int))) H
  rw [← Int.natCast_mul]
  exact q
theorem op_shlNN : OpR X (binaryOp .LShift) (fun x y H Q => ∃ n k : Nat, x = .int (n : Int) ∧ y = .int (k : Int) ∧ (n < 2 ^ 100000 ∧ k ≤ 100000) ∧ Q (vI (n * 2 ^ k)) H) := by
  intro pins s σ H x y v u Q I rx ry h
  obtain ⟨n, k, rfl, rfl, ⟨h1, h2⟩, q⟩ := h
  refine op_shlN pins s σ H _ _ v u Q I rx ry ⟨_, k, rfl, rfl, shl_ok (n := 100000) h1 (by omega), ?_⟩
  have e : ((n : Int) * 2 ^ k) = ((n * 2 ^ k : Nat) : Int) := by simp
  rw [e]
  exact q
theorem op_oneShlN : OpR X (binaryOp .LShift) (fun x y H Q => ∃ k : Nat, x = .int 1 ∧ y = .int (k : Int) ∧ k ≤ 134217727 ∧ Q (vI (2 ^ k)) H) := by
  intro pins s σ H x y v u Q I rx ry h
  obtain ⟨k, rfl, rfl, h1, q⟩ := h
  refine op_oneShl pins s σ H _ _ v u Q I rx ry ⟨k, rfl, rfl, h1, ?_⟩
  have e : ((2 : Int) ^ k) = ((2 ^ k : Nat) : Int) := by simp
  rw [e]
  exact q
end
/-! ### walks -/
theorem walk_enumG (S : Src) {K : PySem.W.Frag} {a : Addr} {xs : List V} : Walk (ItE S K a) xs.length (fun H => S.sq K H a xs) (YPair (fun i => some (.int (i : Nat))) (fun i => xs[i]?)) := by
  refine ⟨fun i _ hi q => ⟨xs, xs[i], q, by simp [hi]⟩, fun _ q => ⟨xs, q, rfl⟩, fun i H v H' _ q y => ?_⟩
  obtain ⟨T, x, h1, h2, h3, h4⟩ := y
  exact ⟨T, .int (i : Nat), x, h1, h2, h3, rfl, h4 xs q⟩
def rLenK (K : PySem.W.Frag) (xs : List V) (H : Hp) (Q : V → Hp → Prop) : Prop := ∃ p ys, xs = [.ref p] ∧ (SqL K H p ys ∨ SqT K H p ys) ∧ Q (.int ys.length) H
theorem call_lenK {X : Cx} : CallR X (.builtin "len") (rLenK X.K) := call_len_seq
/-! ### small facts -/
theorem refAt {ts : List Addr} {i : Nat} {x : V} (h : (ts.map V.ref)[i]? = some x) : ∃ t, ts[i]? = some t ∧ x = .ref t := by
  rw [List.getElem?_map] at h
  cases e : ts[i]? with
  | none => rw [e] at h; cases h
  | some k => rw [e] at h; exact ⟨k, rfl, (Option.some.inj h).symm⟩
theorem natAt {xs : List Nat} {i : Nat} {x : V} (h : (xs.map vI)[i]? = some x) : ∃ k, xs[i]? = some k ∧ x = vI k := by
  rw [List.getElem?_map] at h
  cases e : xs[i]? with
  | none => rw [e] at h; cases h
  | some k => rw [e] at h; exact ⟨k, rfl, (Option.some.inj h).symm⟩
theorem mapAt {α : Type} {f : α → V} {xs : List α} {i : Nat} {x : V} (h : (xs.map f)[i]? = some x) : ∃ k, xs[i]? = some k ∧ x = f k := by
  rw [List.getElem?_map] at h
  cases e : xs[i]? with
  | none => rw [e] at h; cases h
  | some k => rw [e] at h; exact ⟨k, rfl, (Option.some.inj h).symm⟩
theorem mapAtD {α : Type} {f : α → PyData} {xs : List α} {i : Nat} {x : PyData} (h : (xs.map f)[i]? = some x) : ∃ k, xs[i]? = some k ∧ x = f k := by
  rw [List.getElem?_map] at h
  cases e : xs[i]? with
  | none => rw [e] at h; cases h
  | some k => rw [e] at h; exact ⟨k, rfl, (Option.some.inj h).symm⟩
theorem take_snoc {α : Type} {l : List α} {i : Nat} {x : α} (h : l[i]? = some x) : l.take (i + 1) = l.take i ++ [x] := by
  rw [List.take_add_one, h]
  rfl
theorem same_two {H H' : Hp} {p : Addr} {o : HO} (k : Same H H') (hp : H p = none) : Same H (upd H' p o) := fun b u q => by
  rw [upd_ne (ne_of_none q hp)]
  exact k _ _ q
theorem i62 {n : Nat} (h : n ≤ 1000) : -(2 ^ 62) ≤ (n : Int) ∧ (n : Int) < 2 ^ 62 := by
  have a : (-(2 ^ 62) : Int) ≤ 0 := by decide
  have b : (1001 : Int) ≤ 2 ^ 62 := by decide
  exact ⟨Int.le_trans a (Int.natCast_nonneg _), Int.lt_of_lt_of_le (by omega) b⟩
theorem vInt {i : Int} {n : Nat} (h : i = (n : Int)) : V.int i = vI n := by rw [h]; rfl
theorem all_true : ∀ n : Nat, (List.replicate n true).all id = true
  | 0 => rfl
  | n + 1 => by
    rw [List.replicate_succ, List.all_cons, all_true n]
    rfl
theorem len1000 {n : Nat} (h : n ≤ 1000) : n < sizeLine := small1000 h
end Bf

set_option Elab.async false
set_option linter.all false
set_option maxRecDepth 100000
set_option maxHeartbeats 4000000
namespace Bf
open PySem PySem.Spec PyProof.Rows L2
/-! ### set(list of ints), so that it can be sorted: what set() has, member by member -/
theorem ints_at : ∀ {us : List Value} {xs : List Int}, IntsAre us xs → ∀ (i : Nat) (v : Value), us[i]? = some v → ∃ t, v = .int (xs.getD i 0) t
  | _, _, .nil, i, v, h => by simp at h
  | _, _, .cons n t hr, 0, v, h => by simp at h; exact ⟨t, by rw [← h] <;> rfl⟩
  | _, _, .cons n t hr, i + 1, v, h => by
    simp only [List.getElem?_cons_succ] at h
    obtain ⟨t', e⟩ := ints_at hr i v h
    exact ⟨t', by rw [e] <;> rfl⟩
section
variable {prog : Program} {w : World} {A : Around} {E : Value → Shared → Prop} {s : Shared}
theorem code_set_led1 (a : Value) {Q₁ : Value → Shared → Prop}
    (h : Q₁ (.ref s.heap.objs.size) { s with heap := s.heap.push { cls := .type "set", dict := none, data := .set #[] 0 (.fresh 0 0 (!w.params.followText "set-order")) } }) :
    codeAny (model prog w) A (.call (.builtin "set.__new__") ⟨[.type "set", a], []⟩) (wants Q₁ E) s := by
  refine codeAny_of_tree ?_
  show wpAny _ A.in1 (do checkBuiltinCall "set.__new__" ⟨[.type "set", a], []⟩; again (.builtin "set.__new__" ⟨[.type "set", a], []⟩)) _ _ s
  refine wpAny_bind (wpAny_of_eq (F.newCall_set_1 a) (wpAny_pure ⟨plainId_quiet F.plain_set_new _, codeAny_builtin F.entry_set_new ?_⟩))
  rw [Around.under_plainId F.plain_set_new _]
  unfold Builtin.«set.__new__» Builtin.Frozenset.newClass
  have hsub := sub_set_self
  obtain ⟨hp, g, d, tk, os⟩ := s
  dsimp only
  wp_walk
  refine wpAny_askSetting (wpAny_pure ?_)
  dsimp only
  simp only [newObj]
  refine wpAny_bind (wpAny_alloc (wpAny_pure ?_))
  exact wpAny_pure h
end
section
variable {prog : Program} {w : World} {A : Around} {R : Result → Shared → Prop} {I : Addr} {fp wr : List Addr} {G : Array GenState → Array GenState → Prop} {n : Nat} {P : Nat → Value → Prop} {St : Nat → Shared → Prop}
theorem loopInt (W : WalksS prog w A.in1 I fp wr G n P St) (S : Addr) (hSf : S ∉ fp) (xs : List Int) (hsz : xs.length = n) (hn : n ≤ 4000)
    (hval : ∀ i v, P i v → ∃ t, v = .int (xs.getD i 0) t) :
    ∀ (k i m : Nat) (s : Shared) (Sb : Int → Bool), n - i = k → i ≤ n → m ≤ i → St i s → SetR w s.heap S Sb m → (∀ x, Sb x = true ↔ x ∈ xs.take i) →
      (∀ s' Sb' m', Moved (S :: wr) G s s' → SetR w s'.heap S Sb' m' → m' ≤ n → (∀ x, Sb' x = true ↔ x ∈ xs) → R (.ok (.ret .none)) s') →
      codeAny (model prog w) A (.builtin "set.update.loop" ⟨[.ref S, .ref I], []⟩) R s := by
  have hSw : S ∉ wr := fun h => hSf (W.sub _ h)
  have hsub : ∀ b ∈ wr, b ∈ S :: wr := fun b hb => List.mem_cons_of_mem _ hb
  intro k
  induction k with
  | zero =>
    intro i m s Sb hk hi hm hst hS hSb hR
    have hin : i = n := by omega
    subst hin
    refine codeAny_builtin PyProof.Rows.F.entry_set_update_loop ?_
    rw [Around.under_plainId PyProof.Rows.F.plain_set_update_loop _]
    show wpAny _ A.in1 (pyNext (.ref I) >>= _) _ _ s
    refine wpAny_bind (W.done s _ _ hst fun s' hm' => ?_)
    show wpAny _ A.in1 (ret Value.none) _ _ s'
    refine wpAny_pure (hR s' Sb m (hm'.mono hsub) (hS.at fun o ho => hm'.heap S _ hSw ho) hm fun x => ?_)
    rw [hSb, List.take_of_length_le (by omega)]
  | succ k ih =>
    intro i m s Sb hk hi hm hst hS hSb hR
    have hlt : i < n := by omega
    refine codeAny_builtin PyProof.Rows.F.entry_set_update_loop ?_
    rw [Around.under_plainId PyProof.Rows.F.plain_set_update_loop _]
    show wpAny _ A.in1 (pyNext (.ref I) >>= _) _ _ s
    refine wpAny_bind (W.item i s _ _ hlt hst fun v s' hP hst' hm' => ?_)
    obtain ⟨t, rfl⟩ := hval i v hP
    have hS' : SetR w s'.heap S Sb m := hS.at fun o ho => hm'.heap S _ hSw ho
    show wpAny _ A.in1 (holding [Value.int (xs.getD i 0) t] (setAdd S (.int (xs.getD i 0) t)) >>= _) _ _ s'
    refine wpAny_bind (wpAny_holding ?_)
    unfold setAdd
    refine wpAny_holding ?_
    refine wpAny_bind ((intKind prog w).pyHash (k := xs.getD i 0) (intKind_is _ _ _ _) ?_)
    refine setR_add_hashed (P := prog) (s := { s' with toks := s'.toks + 1 }) hS' (by unfold scanBound; omega) fun h' hsb hS2 => ?_
    have hx : xs[i]? = some (xs.getD i 0) := by
      rw [List.getD_eq_getElem?_getD, List.getElem?_eq_getElem (by omega)]
      rfl
    refine wpAny_pure ⟨plainId_quiet PyProof.Rows.F.plain_set_update_loop _, ih (i + 1) _ _ _ (by omega) hlt (by split <;> omega) (W.frame _ s' _ _ hst' (Nat.le_succ _) fun b hb o e => ?_) hS2 (fun x => ?_) fun s'' Sb' m' hm'' hS'' => ?_⟩
    · rw [hsb.2 b (fun h : b = S => hSf (by rw [← h]; exact hb))]; exact e
    · rw [List.take_add_one, hx, Bool.or_eq_true, hSb, decide_eq_true_iff, List.mem_append]
      simp
    · refine hR s'' Sb' m' (Moved.trans W.gtrans ((hm'.mono hsub).then_heap (Nat.le_succ _) fun b o hb e => ?_) hm'') hS''
      rw [hsb.2 b (fun h : b = S => hb (by rw [h]; exact List.mem_cons_self))]; exact e
end
section
variable {prog : Program} {w : World} {A : Around} {E : Value → Shared → Prop} {s : Shared}
set_option maxHeartbeats 3200000 in
theorem call_set_listI {l : Addr} {items : Array Value} {xs : List Int} {Q : Value → Shared → Prop}
    (hh : A.handled = none) (hl : s.heap.IsList l items) (hi : IntsAre items.toList xs) (hn1 : xs.length ≤ 4000)
    (h : ∀ (h' : Heap) (tk : Nat) (Sb : Int → Bool) (m : Nat), SetR w h' s.heap.objs.size Sb m → m ≤ xs.length → (∀ x, Sb x = true ↔ x ∈ xs) →
      (∀ b o, b < s.heap.objs.size → s.heap.get? b = some o → h'.get? b = some o) → Q (.ref s.heap.objs.size) { s with heap := h', toks := tk }) :
    wpAny (model prog w) A (call (.type "set") [.ref l]) Q E s := by
  obtain ⟨c, tl, hmro⟩ := PySem.F.called_set.mro
  have hmade := PySem.F.called_set.made
  have hsub := PySem.F.called_set.sub
  refine wpAny_call (codeAny_of_tree ?_)
  show wpAny _ _ (callAny (.type "set") _) _ _ _
  refine wpAny_pure ⟨Code.quiet_builtin _ (by decide +kernel), codeAny_builtin PySem.F.entry_type_call ?_⟩
  rw [Around.under_plain (weight_type_call_type "set" [.ref l] []) rfl]
  have h1 := PySem.F.called_set.notType
  have h2 := PySem.F.called_set.canCreate
  have hct := PySem.F.typeCall_set_1 (.ref l)
  repeat (any_goals (first | assumption | wp_step))
  refine codeAny_mono (code_set_led1 (.ref l) (E := E) (Q₁ := fun obj s₁ => obj = .ref s.heap.objs.size ∧ s₁ = { s with heap := s.heap.push { cls := .type "set", dict := none, data := .set #[] 0 (.fresh 0 0 (!w.params.followText "set-order")) } }) ⟨rfl, rfl⟩) fun r s₁ hr => ?_
  cases r with
  | error e => exact hr
  | ok fl =>
    cases fl with
    | ret obj =>
      obtain ⟨rfl, rfl⟩ := hr
      have hF := setR_fresh (h := s.heap) w
      generalize (!w.params.followText "set-order") = led at hF ⊢
      have hS : (s.heap.push { cls := .type "set", dict := none, data := .set #[] 0 (.fresh 0 0 led) }).get? s.heap.objs.size = some { cls := .type "set", dict := none, data := .set #[] 0 (.fresh 0 0 led) } := Heap.get?_push_size _ rfl
      have hT : Shared.TypeIs { s with heap := s.heap.push { cls := .type "set", dict := none, data := .set #[] 0 (.fresh 0 0 led) } } (.ref s.heap.objs.size) "set" := ⟨_, hS, rfl⟩
      have hli := PySem.F.called_set.init.lookup
      have hbi := PySem.F.called_set.init.bind (.ref s.heap.objs.size)
      repeat (any_goals (first | assumption | wp_step))
      refine codeAny_mono (codeAny_call_builtin (R := wants (fun r s₂ => r = .none ∧ ∃ h' tk Sb m, s₂ = { s with heap := h', toks := tk } ∧
          SetR w h' s.heap.objs.size Sb m ∧ m ≤ xs.length ∧ (∀ x, Sb x = true ↔ x ∈ xs) ∧
          (∀ b o, b < s.heap.objs.size → s.heap.get? b = some o → h'.get? b = some o)) E) PySem.F.called_set.init.plain PySem.F.entry_set_init (check_set_init_1 hT ?_)) fun r₂ s₂ hr₂ => ?_
      · obtain ⟨ol, hol, hcl, nl, hdl⟩ := hl
        obtain ⟨ocls, odict, odata, oslots⟩ := ol
        simp only at hcl hdl
        subst hcl; subst hdl
        have hol' : (s.heap.push { cls := .type "set", dict := none, data := .set #[] 0 (.fresh 0 0 led) }).get? l = some { cls := .type "list", dict := odict, data := .seq items nl, slots := oslots } := Heap.get?_push_of_some _ hol
        have hsls := PySem.F.sub_list_set
        have hslf := PySem.F.sub_list_frozenset
        have hne : (Value.type "list" == Value.type "dict") = false := by decide
        have hl1 : (s.heap.push { cls := .type "set", dict := none, data := .set #[] 0 (.fresh 0 0 led) }).IsList l items := ⟨_, hol', rfl, nl, rfl⟩
        unfold Builtin.«set.__init__» noKeywords Builtin.Frozenset.updateFrom
        generalize hPI : pyIter = PI
        wp_walk
        subst hPI
        refine wpAny_pyIter_list hl1 ?_
        refine wpAny_bind (wpAny_runValue ?_)
        have hlS : l < s.heap.objs.size := Heap.lt_size hol
        have hh3 : A.in1.in1.in1.handled = none := by simp [hh]
        have hneI : l ≠ (s.heap.push { cls := .type "set", dict := none, data := .set #[] 0 (.fresh 0 0 led) }).objs.size := by
          rw [Heap.size_push]; exact Nat.ne_of_lt (Nat.lt_succ_of_lt hlS)
        have hSf : s.heap.objs.size ∉ [(s.heap.push { cls := .type "set", dict := none, data := .set #[] 0 (.fresh 0 0 led) }).objs.size, l] := by
          rw [Heap.size_push]; simp only [List.mem_cons, List.mem_singleton, List.not_mem_nil, or_false, not_or]
          exact ⟨Nat.ne_of_lt (Nat.lt_succ_self _), Nat.ne_of_gt hlS⟩
        have hsz : xs.length = items.size := by rw [← IntsAre.length hi, Array.length_toList]
        have hval : ∀ (i : Nat) (v : Value), items[i]? = some v → ∃ t, v = .int (xs.getD i 0) t := fun i v hv => ints_at hi i v (by rw [Array.getElem?_toList]; exact hv)
        refine loopInt ((Walks.list hh3 _ l hneI items).toS) s.heap.objs.size
          hSf xs hsz (by rw [← hsz]; exact hn1) hval (items.size - 0) 0 0 _ (fun _ => false) (by omega) (Nat.zero_le _) (Nat.le_refl _)
          ⟨⟨_, Heap.get?_push_size _ rfl, rfl, rfl⟩, (hl1.push _)⟩ (hF.at fun o ho => Heap.get?_push_of_some _ ho) (fun x => by simp) ?hR
        case hR =>
          intro s' Sb' m' hm hS' hm' hSb'
          obtain ⟨h', g', d', tk', os'⟩ := s'
          have eg : g' = s.gens := hm.gens
          have ed : d' = s.drawn := hm.drawn
          have eo : os' = s.os := hm.os
          subst eg; subst ed; subst eo
          show wpAny _ _ _ _ _ _
          refine wpAny_pure ?_
          show wpAny _ _ (ret Value.none) _ _ _
          refine wpAny_pure ⟨rfl, h', tk', Sb', m', rfl, hS', by omega, hSb', fun b o hb e => ?_⟩
          have hb1 : b ≠ s.heap.objs.size := Nat.ne_of_lt hb
          have hb2 : b ≠ (s.heap.push { cls := .type "set", dict := none, data := .set #[] 0 (.fresh 0 0 led) }).objs.size := by
            rw [Heap.size_push]; exact Nat.ne_of_lt (Nat.lt_succ_of_lt hb)
          exact hm.heap b o (by simp only [List.mem_cons, List.mem_singleton, List.not_mem_nil, or_false, not_or]; exact ⟨hb1, hb2⟩) (Heap.get?_push_of_some _ (Heap.get?_push_of_some _ e))
      · cases r₂ with
        | error e => exact hr₂
        | ok fl₂ =>
          cases fl₂ with
          | ret r =>
            obtain ⟨rfl, h', tk, Sb, m, rfl, hS', hm', hSb', hk'⟩ := hr₂
            repeat (any_goals (first | assumption | wp_step))
            exact h _ _ _ _ hS' hm' hSb' hk'
          | _ => exact hr₂.elim
    | _ => exact hr.elim
end
/-- set(xs), xs a list of ints -/
def rSetI (K : PySem.W.Frag) (w : World) : List V → Hp → VK → Prop := fun vs H Q => ∃ (l : Addr) (xs : List Int), vs = [.ref l] ∧ SqL K H l (xs.map V.int) ∧ xs.length ≤ 4000 ∧
  ∀ (p : Addr) (Sb : Int → Bool) (m : Nat), H p = none → m ≤ xs.length → (∀ x, Sb x = true ↔ x ∈ xs) → Q (.ref p) (upd H p (SetO w p Sb m))
section
variable {X : Cx}
theorem cr_setI (hc : X.calm = true) : CallR X (.type "set") (rSetI X.K X.w) := by
  intro pins s σ H vs us Q I r h
  obtain ⟨l, xs, rfl, hq, hz, q⟩ := h
  rw [Vals.ref1 r]
  obtain ⟨its, rv, pl, _⟩ := I.list hq
  refine call_set_listI (I.ok.hd hc) pl.isList (by simpa using L2.intsAre_of rv) hz fun h' tk Sb m R hm hS k => ?_
  exact ⟨.ref _, upd H s.heap.objs.size (SetO X.w s.heap.objs.size Sb m), I.laid (t' := tk) (fun b u e => k b u (Heap.lt_size e) e) (Nat.le_refl _) (setO_new R), rfl, q _ _ _ (I.hok.fresh (Nat.le_refl _)) hm hS⟩
end
end Bf

set_option Elab.async false
set_option linter.all false
set_option maxRecDepth 100000
set_option maxHeartbeats 4000000
namespace Bf
open PySem PySem.Spec PyProof.Rows L2 PySem.W
/-! ### max and min of a list of ints, with default= -/
def maxOr (d : Int) : List Int → Int
  | [] => d
  | n :: ns => ns.foldl max n
def minOr (d : Int) : List Int → Int
  | [] => d
  | n :: ns => ns.foldl min n
theorem alikeInts (ns : List Int) : AlikeAll (ns.map PyData.int) := by
  refine ⟨fun x hx y hy => ?_, fun x hx e => ?_⟩
  · obtain ⟨a, _, rfl⟩ := List.mem_map.mp hx
    obtain ⟨b, _, rfl⟩ := List.mem_map.mp hy
    rfl
  · obtain ⟨a, _, rfl⟩ := List.mem_map.mp hx
    cases e
theorem depthInts : ∀ ns : List Int, PyData.depthAll (ns.map PyData.int) ≤ 1
  | [] => by
    rw [List.map_nil]
    simp only [PyData.depthAll]
    omega
  | n :: ns => by
    have := depthInts ns
    rw [List.map_cons]
    simp only [PyData.depthAll, PyData.depth]
    omega
theorem dpInts {K : PySem.W.Frag} {H : Hp} : ∀ ns : List Int, DpAll K H (ns.map V.int) (ns.map PyData.int)
  | [] => .nil
  | n :: ns => .cons (.int n) (dpInts ns)
def rMaxD (K : PySem.W.Frag) : List V → List V → Hp → VK → Prop := fun vs zs H Q => ∃ (l : Addr) (ns : List Int) (d : Int), vs = [.ref l] ∧ zs = [.int d] ∧ SqL K H l (ns.map V.int) ∧ Q (.int (maxOr d ns)) H
def rMinD (K : PySem.W.Frag) : List V → List V → Hp → VK → Prop := fun vs zs H Q => ∃ (l : Addr) (ns : List Int) (d : Int), vs = [.ref l] ∧ zs = [.int d] ∧ SqL K H l (ns.map V.int) ∧ Q (.int (minOr d ns)) H
theorem reads_int {h : Heap} {v : Value} {n : Int} {bs : List Addr} (r : Reads h v (.int n) bs) : ∃ t, v = .int n t := by
  cases r
  exact ⟨_, rfl⟩
section
variable {X : Cx}
theorem cr_maxDef (hc : X.calm = true) (hu : X.A.units + 64 < cLine) : CallRK X (.builtin "max") [Str.ofString "default"] (rMaxD X.K) := by
  intro pins s σ H vs zs us ws Q I r rz h
  obtain ⟨l, ns, d, rfl, rfl, hs, q⟩ := h
  obtain rfl := Vals.ref1 r
  obtain ⟨w1, rfl, e1⟩ := vals1 rz
  obtain ⟨tk, rfl⟩ := e1
  obtain ⟨its, rv, pl, _⟩ := I.list hs
  obtain ⟨as, hr⟩ := Dp.readsAll I (ns.map PyData.int) _ _ (dpInts ns) rv
  refine max_list_default (I.ok.hd hc) pl.isList hr (alikeInts ns) (by have := depthInts ns; omega) (fun h0 h' t' k => ?_) fun y ys i v h' t' bs e hv rd k => ?_
  · have : ns = [] := by simpa using h0
    subst this
    exact ⟨.int d, H, I.kept k, ⟨tk, rfl⟩, q⟩
  · obtain ⟨n, ms, rfl⟩ : ∃ n ms, ns = n :: ms := by
      cases ns with
      | nil => cases e
      | cons n ms => exact ⟨n, ms, rfl⟩
    cases e
    rw [maxD_ints] at rd
    obtain ⟨t, rfl⟩ := reads_int rd
    exact ⟨.int (ms.foldl max n), H, I.kept k, ⟨t, rfl⟩, q⟩
theorem cr_minDef (hc : X.calm = true) (hu : X.A.units + 64 < cLine) : CallRK X (.builtin "min") [Str.ofString "default"] (rMinD X.K) := by
  intro pins s σ H vs zs us ws Q I r rz h
  obtain ⟨l, ns, d, rfl, rfl, hs, q⟩ := h
  obtain rfl := Vals.ref1 r
  obtain ⟨w1, rfl, e1⟩ := vals1 rz
  obtain ⟨tk, rfl⟩ := e1
  obtain ⟨its, rv, pl, _⟩ := I.list hs
  obtain ⟨as, hr⟩ := Dp.readsAll I (ns.map PyData.int) _ _ (dpInts ns) rv
  refine min_list_default (I.ok.hd hc) pl.isList hr (alikeInts ns) (by have := depthInts ns; omega) (fun h0 h' t' k => ?_) fun y ys i v h' t' bs e hv rd k => ?_
  · have : ns = [] := by simpa using h0
    subst this
    exact ⟨.int d, H, I.kept k, ⟨tk, rfl⟩, q⟩
  · obtain ⟨n, ms, rfl⟩ : ∃ n ms, ns = n :: ms := by
      cases ns with
      | nil => cases e
      | cons n ms => exact ⟨n, ms, rfl⟩
    cases e
    rw [minD_ints] at rd
    obtain ⟨t, rfl⟩ := reads_int rd
    exact ⟨.int (ms.foldl min n), H, I.kept k, ⟨t, rfl⟩, q⟩
end
end Bf

set_option Elab.async false
set_option linter.all false
set_option maxRecDepth 100000
set_option maxHeartbeats 4000000
namespace Bf
open PySem PySem.Spec PyProof.Rows L2
/-! ### list(d.values()) -/
def rListVals : V → Hp → VK → Prop := fun x H Q => ∃ (d : Addr) (kvs : List (Key × V)), x = .ref d ∧ H d = some (.dK kvs) ∧ ∀ p, H p = none → Q (.ref p) (upd H p (.lst (kvs.map Prod.snd)))
def tListVals (te : TE) : TE := fun σ H Q => te σ H fun x H1 => rListVals x H1 Q
theorem kv_vals {kvs : List (Key × V)} {vs : List (Key × Value)} (h : KV kvs vs) : ∀ (j : Nat) (x : V) (k : Key) (u : Value), (kvs.map Prod.snd)[j]? = some x → vs[j]? = some (k, u) → RelV x u := by
  induction h with
  | nil => intro j x k u h1 h2; simp at h1
  | cons r t ih =>
    intro j x k u h1 h2
    cases j with
    | zero =>
      simp at h1 h2
      rw [← h1]
      have := r.2
      rw [h2] at this
      exact this
    | succ j => exact ih j x k u (by simpa using h1) (by simpa using h2)
section
variable {X : Cx} {e : Expr} {te : TE} {p apos cpos pos : Pos}
theorem pe_listVals (hc : X.calm = true) (he : PE X e te) (hg : Gl X "list") (hm : X.mg "list" = none) (hv : bootBuiltins "list" = some (.type "list")) (hbase : attributeBase e "values" X.env (eval e X.env) = eval e X.env := by rfl) (hline : (apos.endLine == cpos.line) = true := by rfl)
    (hs : starEach [.Call (.Attribute e "values" apos) [] [] cpos] X.env = (false, eval (.Call (.Attribute e "values" apos) [] [] cpos) X.env) :: starEach [] X.env := by rfl) :
    PE X (.Call (.Name "list" p) [.Call (.Attribute e "values" apos) [] [] cpos] [] pos) (tListVals te) := by
  refine ⟨fun pins s σ H Q I hq => ?_⟩
  refine wpAny_Call_Name_kw (ld_blt I hg hm hv ?_)
  refine PyProof.Rows.callWith_type1 ?_ hs rfl
  rw [hs]
  show wpAny _ _ (spliced ((false, eval (.Call (.Attribute e "values" apos) [] [] cpos) X.env) :: backTo pos (starEach [] X.env))) _ _ s
  refine Calls.spliced_cons ?_
  refine wpAny_Call_method (T := "dict") (id := "dict.values") hbase rfl hline F.plainAttrs_dict F.slot_dict_values F.type_dict_values (thn (he.run pins s σ H _ I hq) fun u s1 ⟨x, H1, I1, rx, d, kvs, ex, hd, q⟩ => ?_)
  subst ex
  obtain rfl : u = Value.ref d := rx
  obtain ⟨hz, hs0, vs, kv, hdo⟩ := I1.hok d _ hd
  obtain ⟨ep, hat⟩ := hdo.dictAt
  have lk : kvs.length = vs.length := Paired.length kv
  have I2 : Inv X pins σ H1 { s1 with heap := s1.heap.push { cls := .type "dict_values", data := .fields #[.ref d] } } := I1.kept (t' := s1.toks) fun b ob q => Heap.get?_push_of_some _ q
  refine ⟨hdo.typeIs, hdo.mapOf.noDict, ?_⟩
  show wpAny _ _ (callWith cpos (.builtin "dict.values") [.ref d] [] []) _ X.xe s1
  refine method_meetsIn F.slot_dict_values F.entry_dict_values rfl (PySem.evalArgs_none ⟨rfl, hdo.typeIs, F.args_dict_values_1 _, _, meets_dict_values (mixKind X.prog X.w) d hs0, ⟨vs, hdo⟩, ?_⟩)
  refine Calls.spliced_nil ?_
  refine PySem.W.kdl_call (PySem.W.kdl_values (knd := mixKind X.prog X.w) (r := s1.heap.objs.size) (d := d) (kvs := vs) (ep := ep)) (I1.ok.hd hc) ⟨⟨_, Heap.get?_push_size _ rfl, rfl, rfl⟩, hat.push _⟩ (by rw [← lk]; exact hz) fun h' tk acc c hk hS hacc => ?_
  refine ⟨.ref _, upd H1 _ (.lst (kvs.map Prod.snd)), I2.laid hk (Nat.le_refl _) (show ObjOk X.prog X.w _ _ _ (.lst (kvs.map Prod.snd)) from ⟨?_, acc.toList, c, ?_, ?_⟩), rfl, q _ (I2.hok.fresh (Nat.le_refl _))⟩
  · rw [List.length_map]; exact hz
  · have el : acc.toList.length = acc.size := by simp
    refine vals_of_at (by rw [List.length_map, el, hacc.1, lk]) fun j x w h1 h2 => ?_
    obtain ⟨k, hky⟩ := hacc.2 j w (by rw [← Array.getElem?_toList]; exact h2)
    exact kv_vals kv j x k w h1 hky
  · rw [Array.toArray_toList]; exact hS
end
end Bf

set_option Elab.async false
set_option linter.all false
set_option maxRecDepth 100000
set_option maxHeartbeats 4000000
namespace Bf
open PySem PySem.Spec PyProof.Rows L2
/-! ### ints in sequences; slices of tuples -/
theorem eqV_int (a b : Nat) : eqV (vI a) (vI b) = decide (a = b) := by
  show (((a : Int)) == (b : Int)) = _
  by_cases h : a = b
  · subst h; simp
  · rw [decide_eq_false h]
    simp
    omega
theorem inV_int (x : Nat) (xs : List Nat) : inV (vI x) (xs.map vI) = decide (x ∈ xs) := by
  induction xs with
  | nil => rfl
  | cons a r ih =>
    show (eqV (vI a) (vI x) || inV (vI x) (r.map vI)) = decide (x ∈ a :: r)
    rw [ih, eqV_int]
    by_cases h : a = x
    · subst h; simp
    · by_cases h2 : x ∈ r
      · simp [h2]
      · have : x ≠ a := fun e => h e.symm
        simp [h, h2, this]
theorem flat_ints : ∀ xs : List Nat, (xs.map vI).all flatV = true
  | [] => rfl
  | a :: r => by
    rw [List.map_cons, List.all_cons, flat_ints r]
    rfl
theorem rdIndex {xs : List Nat} {f j : Nat} (hj : xs[j]? = some f) (hn : ∀ m, m < j → xs[m]? ≠ some f) :
    ∃ z : V, (xs.map vI)[j]? = some z ∧ eqV z (vI f) = true ∧ ∀ (m : Nat) (z' : V), m < j → (xs.map vI)[m]? = some z' → eqV z' (vI f) = false := by
  refine ⟨vI f, by rw [List.getElem?_map, hj]; rfl, by rw [eqV_int]; simp, fun m z' hm hz => ?_⟩
  obtain ⟨k, hk, rfl⟩ := natAt hz
  rw [eqV_int]
  exact decide_eq_false fun e => hn m hm (by rw [hk, e])
theorem cut_map {xs : List Nat} {lo hi : Option Int} {i j : Nat} (h1 : HT.sIx xs.length 0 lo = i) (h2 : HT.sIx xs.length xs.length hi = j) : cutV (xs.map vI) lo hi = ((xs.drop i).take (j - i)).map vI := by
  unfold cutV
  rw [List.length_map, h1, h2, ← List.map_drop, ← List.map_take]
theorem rdCut {K : PySem.W.Frag} {H : Hp} {b : Addr} {xs : List Nat} {lo hi : Option Int} {i j : Nat} {Q : VK} (hb : SqT K H b (xs.map vI)) (h1 : HT.sIx xs.length 0 lo = i) (h2 : HT.sIx xs.length xs.length hi = j)
    (k : ∀ (t : Addr) (H' : Hp), Same H H' → SqT K H' t (((xs.drop i).take (j - i)).map vI) → Q (.ref t) H') : rSlA K (.ref b) lo hi H Q := by
  refine ⟨b, xs.map vI, rfl, hb, fun hw => ?_, fun hw p hp => ?_⟩
  · rw [List.length_map, h1, h2] at hw
    obtain ⟨w1, w2⟩ := hw
    subst w1 w2
    refine k b H (Same.refl _) ?_
    rw [List.drop_zero, Nat.sub_zero, List.take_length]
    exact hb
  · refine k p _ (fun b u q => by rw [upd_ne (ne_of_none q hp)]; exact q) ?_
    rw [← cut_map h1 h2]
    exact SqT.of upd_same
theorem sIx_neg {n d k : Nat} (h : 1 ≤ k) : HT.sIx n d (some (-(k : Int))) = n - k := by
  show (if (-(k : Int)) < 0 then ((-(k : Int)) + (n : Int)).toNat else min (-(k : Int)).toNat n) = n - k
  rw [if_pos (by omega)]
  omega
theorem qI {Q : VK} {H : Hp} {i : Int} {n : Nat} (h : i = (n : Int)) (q : Q (vI n) H) : Q (V.int i) H := by
  rw [h]
  exact q
end Bf

set_option Elab.async false
set_option linter.all false
set_option maxRecDepth 100000
set_option maxHeartbeats 4000000
namespace Bf
open PySem PySem.Spec PyProof.Rows L2
/-! ### d.get(k, x), d a dict of the module with text keys -/
def tKGet2 (K : PySem.W.Frag) (d : Addr) (td ty tx : TE) : TE := fun σ H Q => td σ H fun x H1 => x = .ref d ∧ ty σ H1 fun y H2 => tx σ H2 fun z H3 => ∃ (k : Str) (r : Option Value) (v : V), y = .str k ∧ PySem.W.nsIn K d k = some r ∧ (∀ u, r = some u → RelV v u) ∧ (r = none → v = z) ∧ Q v H3
theorem pe_kget2 {X : Cx} {d : Addr} {es : Array DictEntry} {n : Nat} {o e f : Expr} {apos cpos : Pos} {td ty tx : TE} (D : KDict X.K X.w d es n) (ho : PE X o td) (he : PE X e ty) (hf : PE X f tx) (m : M2 X o "get" apos e f cpos) :
    PE X (.Call (.Attribute o "get" apos) [e, f] [] cpos) (tKGet2 X.K d td ty tx) := by
  refine ⟨fun pins s σ H Q I h => ?_⟩
  refine wpAny_Call_method m.base m.few m.line PySem.F.plainAttrs_dict PySem.F.slot_dict_get PySem.F.type_dict_get (thn (ho.run pins s σ H _ I h) fun u s1 ⟨x, H1, I1, rx, ex, q1⟩ => ?_)
  subst ex
  obtain rfl : u = Value.ref d := rx
  have hm := PySem.W.mapOf_K (prog := X.prog) (w := X.w) I1.kIn D.at_ D.lit
  refine ⟨hm.typeIs, hm.noDict, ?_⟩
  rw [m.trees]
  refine Calls.callWith_builtin rfl (Calls.evalArgs_plain (Calls.spliced_cons (thn (he.run pins s1 σ H1 _ I1 q1) fun iv s2 ⟨y, H2, I2, ry, q2⟩ =>
    Calls.spliced_cons (thn (hf.run pins s2 σ H2 _ I2 q2) fun fv s3 ⟨z, H3, I3, rz, k, r, v, ey, ek, e1, e2, q3⟩ => Calls.spliced_nil ?_))))
  subst ey
  obtain ⟨t, rfl⟩ := ry
  have hm3 := PySem.W.mapOf_K (prog := X.prog) (w := X.w) I3.kIn D.at_ D.lit
  refine call_meetsIn PySem.F.slot_dict_get hm3.typeIs PySem.F.entry_dict_get (PySem.F.args_dict_get_3 _ _ _) (meets_dict_get_default (strKind X.prog X.w) d (PySem.strKind_is X.prog X.w k t) D.low fv) ⟨_, hm3, ?_⟩
  rw [PySem.W.find_K D.at_ ek]
  refine ⟨v, H3, I3.tok _, ?_, q3⟩
  cases r with
  | none =>
    rw [e2 rfl]
    exact rz
  | some u => exact e1 u rfl
/-! ### a < b < c < d as a test -/
def tChain3 (r r' r'' : R2) (ta tb tc td : TE) : TT := fun σ H Q => ta σ H fun x H1 => tb σ H1 fun y H2 => r x y H2 fun z H3 => ∃ k, z = .bl k ∧
  if k = true then (tc σ H3 fun w H4 => r' y w H4 fun z' H5 => ∃ k', z' = .bl k' ∧ if k' = true then (td σ H5 fun u H6 => r'' w u H6 fun z'' H7 => ∃ k'', z'' = .bl k'' ∧ Q k'' H7) else Q false H5) else Q false H3
theorem pt_chain3 {X : Cx} {op op' op'' : CmpOp} {r r' r'' : R2} {a b c d : Expr} {pos : Pos} {ta tb tc td : TE} (ho : OpR X (compareOp op) r) (ho' : OpR X (compareOp op') r') (ho'' : OpR X (compareOp op'') r'') (ha : PE X a ta) (hb : PE X b tb) (hc : PE X c tc) (hd : PE X d td)
    (hm : lastMarks [op, op', op''] [b, c, d] = false := by with_unfolding_all rfl) : PT X (.Compare a [op, op', op''] [b, c, d] pos) (tChain3 r r' r'' ta tb tc td) := by
  refine ⟨fun pins s σ H Q I h => ?_⟩
  refine isTrue_chain (thn (ha.run pins s σ H _ I h) fun v s1 ⟨x, H1, I1, r1, q1⟩ => test_link (thn (hb.run pins s1 σ H1 _ I1 q1) fun u s2 ⟨y, H2, I2, r2, q2⟩ =>
    thn (ho pins s2 σ H2 x y v u _ I2 r1 r2 q2) fun d s3 ⟨z, H3, I3, r3, k, e, q3⟩ => ?_)) hm
  subst e
  cases r3
  refine wpAny_truthy_bool ?_
  cases k with
  | false => exact ite_ff ⟨H3, I3, q3⟩
  | true =>
    refine ite_tt (test_link (thn (hc.run pins s3 σ H3 _ I3 q3) fun w s4 ⟨z', H4, I4, r4, q4⟩ => thn (ho' pins s4 σ H4 y z' u w _ I4 r2 r4 q4) fun d' s5 ⟨z2, H5, I5, r5, k', e', q5⟩ => ?_))
    subst e'
    cases r5
    refine wpAny_truthy_bool ?_
    cases k' with
    | false => exact ite_ff ⟨H5, I5, q5⟩
    | true =>
      refine ite_tt (test_last (thn (hd.run pins s5 σ H5 _ I5 q5) fun w2 s6 ⟨z3, H6, I6, r6, q6⟩ => thn (ho'' pins s6 σ H6 z' z3 w w2 _ I6 r4 r6 q6) fun d2 s7 ⟨z4, H7, I7, r7, k2, e2, q7⟩ => ?_))
      subst e2
      cases r7
      exact wpAny_truthy_bool ⟨H7, I7, q7⟩
end Bf

set_option Elab.async false
set_option linter.all false
set_option maxRecDepth 100000
set_option maxHeartbeats 4000000
namespace Bf
open PySem
/-! ### nets of bits -/
structure Net where
  ins : List Str
  regs : List (Str × Nat × Nat)
  ands : List (Nat × Nat)
  outs : List (Str × Nat)
  cls : List (Str × Nat)
def Net.many (N : Net) : Nat := N.ins.length + N.regs.length
def Net.first (N : Net) : Nat := 1 + N.ins.length + N.regs.length
def Net.size (N : Net) : Nat := N.first + N.ands.length
theorem Net.first_eq (N : Net) : N.first = 1 + N.many := by
  unfold Net.first Net.many
  omega
structure Net.Right (N : Net) : Prop where
  regs : ∀ r ∈ N.regs, r.2.1 < 2 ∧ r.2.2 < 2 * N.size
  ands : ∀ (i : Nat) (p : Nat × Nat), N.ands[i]? = some p → p.1 < 2 * (N.first + i) ∧ p.2 < 2 * (N.first + i)
  outs : ∀ o ∈ N.outs, o.2 < 2 * N.size
  cls : ∀ o ∈ N.cls, o.2 < 2 * N.size
/-! ### masks: all bits of a node at once -/
def whole (m : Nat) : Nat := 2 ^ (2 ^ m) - 1
def maskN (ms : List Nat) (w l : Nat) : Nat := if l % 2 = 1 then ms.getD (l / 2) 0 ^^^ w else ms.getD (l / 2) 0
def patN (m j : Nat) : Nat := whole m / (2 ^ (2 * 2 ^ j) - 1) * ((2 ^ (2 ^ j) - 1) * 2 ^ (2 ^ j))
def patsN (m k : Nat) : List Nat := (List.range k).map (patN m)
def mstep (w : Nat) (ms : List Nat) (p : Nat × Nat) : List Nat := ms ++ [maskN ms w p.1 &&& maskN ms w p.2]
def Net.base (N : Net) : List Nat := 0 :: patsN N.many N.many
def Net.masksTo (N : Net) (i : Nat) : List Nat := (N.ands.take i).foldl (mstep (whole N.many)) N.base
def Net.masks (N : Net) : List Nat := N.masksTo N.ands.length
/-! ### the clauses -/
def andC (n : Nat) (p : Nat × Nat) : List (List Nat) := [[2 * n + 1, p.1], [2 * n + 1, p.2], [2 * n, p.1 ^^^ 1, p.2 ^^^ 1]]
def Net.clausesTo (N : Net) (i : Nat) : List (List Nat) := [1] :: ((List.range i).map fun k => andC (N.first + k) (N.ands.getD k (0, 0))).flatten
def Net.clauses (N : Net) : List (List Nat) := N.clausesTo N.ands.length
def orN (ms : List Nat) (w : Nat) (c : List Nat) : Nat := c.foldl (fun a l => a ||| maskN ms w l) 0
def allN (ms : List Nat) (w : Nat) (cs : List (List Nat)) : Nat := cs.foldl (fun a c => a &&& orN ms w c) w
theorem clausesTo_succ (N : Net) (i : Nat) : N.clausesTo (i + 1) = N.clausesTo i ++ andC (N.first + i) (N.ands.getD i (0, 0)) := by
  unfold Net.clausesTo
  rw [List.range_succ, List.map_append, List.flatten_append]
  simp
theorem masksTo_succ (N : Net) {i : Nat} {p : Nat × Nat} (h : N.ands[i]? = some p) : N.masksTo (i + 1) = N.masksTo i ++ [maskN (N.masksTo i) (whole N.many) p.1 &&& maskN (N.masksTo i) (whole N.many) p.2] := by
  unfold Net.masksTo
  rw [List.take_add_one, h, List.foldl_append]
  rfl
theorem patsN_succ (m k : Nat) : patsN m (k + 1) = patsN m k ++ [patN m k] := by
  unfold patsN
  rw [List.range_succ, List.map_append]
  rfl
theorem patsN_len (m k : Nat) : (patsN m k).length = k := by simp [patsN]
theorem base_len (N : Net) : N.base.length = N.first := by
  unfold Net.base
  rw [List.length_cons, patsN_len, Net.first_eq]
  omega
theorem masksTo_len (N : Net) : ∀ i : Nat, i ≤ N.ands.length → (N.masksTo i).length = N.first + i
  | 0, _ => by
    unfold Net.masksTo
    rw [List.take_zero, List.foldl_nil, base_len]
    rfl
  | i + 1, h => by
    have hi : i < N.ands.length := h
    rw [masksTo_succ N (List.getElem?_eq_getElem hi), List.length_append, masksTo_len N i (by omega)]
    rfl
theorem masksTo_get (N : Net) {n : Nat} : ∀ (i j : Nat), i ≤ j → j ≤ N.ands.length → n < N.first + i → (N.masksTo j)[n]? = (N.masksTo i)[n]? := by
  intro i j hij
  induction hij with
  | refl => intro _ _; rfl
  | @step j h ih =>
    intro hj hn
    have hj' : j < N.ands.length := hj
    have h2 : i ≤ j := h
    rw [masksTo_succ N (List.getElem?_eq_getElem hj'), List.getElem?_append_left (by rw [masksTo_len N j (by omega)]; omega)]
    exact ih (by omega) hn
/-! ### bit by bit -/
theorem whole_bit (m b : Nat) : (whole m).testBit b = decide (b < 2 ^ m) := by
  unfold whole
  exact Nat.testBit_two_pow_sub_one _ _
theorem pat_le (m j : Nat) : patN m j ≤ whole m := by
  unfold patN
  have h1 : (2 ^ (2 ^ j) - 1) * 2 ^ (2 ^ j) ≤ 2 ^ (2 * 2 ^ j) - 1 := by
    rw [Nat.sub_mul, Nat.one_mul, ← Nat.pow_add, show 2 ^ j + 2 ^ j = 2 * 2 ^ j by omega]
    have : 1 ≤ 2 ^ (2 ^ j) := Nat.pow_pos (by decide)
    omega
  exact Nat.le_trans (Nat.mul_le_mul_left _ h1) (Nat.div_mul_le_self _ _)
theorem whole_lt (m : Nat) : whole m < 2 ^ (2 ^ m) := Nat.sub_lt (Nat.pow_pos (by decide)) (by decide)
theorem lt_bit {x W b : Nat} (h : x < 2 ^ W) (hb : ¬ b < W) : x.testBit b = false := Nat.testBit_lt_two_pow (Nat.lt_of_lt_of_le h (Nat.pow_le_pow_right (by decide) (by omega)))
theorem getD_eq {l : List Nat} {n x : Nat} (h : l[n]? = some x) : l.getD n 0 = x := by rw [List.getD_eq_getElem?_getD, h]; rfl
/-- the bit b of a literal -/
def litB (ms : List Nat) (b l : Nat) : Bool := ((ms.getD (l / 2) 0).testBit b) ^^ decide (l % 2 = 1)
def Low (m : Nat) (ms : List Nat) : Prop := ∀ x ∈ ms, x < 2 ^ (2 ^ m)
theorem Low.getD {m : Nat} {ms : List Nat} (h : Low m ms) (n : Nat) : ms.getD n 0 < 2 ^ (2 ^ m) := by
  rw [List.getD_eq_getElem?_getD]
  cases e : ms[n]? with
  | none => exact Nat.pow_pos (by decide)
  | some x => exact h x (List.mem_of_getElem? e)
theorem mask_bit {m : Nat} {ms : List Nat} (b l : Nat) (hb : b < 2 ^ m) : (maskN ms (whole m) l).testBit b = litB ms b l := by
  unfold maskN litB
  by_cases h : l % 2 = 1
  · rw [if_pos h, Nat.testBit_xor, whole_bit, decide_eq_true hb, decide_eq_true h]
  · rw [if_neg h, decide_eq_false h, Bool.xor_false]
theorem mask_lt {m : Nat} {ms : List Nat} (h : Low m ms) (l : Nat) : maskN ms (whole m) l < 2 ^ (2 ^ m) := by
  unfold maskN
  by_cases e : l % 2 = 1
  · rw [if_pos e]
    exact Nat.xor_lt_two_pow (h.getD _) (whole_lt m)
  · rw [if_neg e]
    exact h.getD _
theorem or_bit {m : Nat} {ms : List Nat} (b : Nat) (hb : b < 2 ^ m) : ∀ (c : List Nat) (a : Nat), (c.foldl (fun a l => a ||| maskN ms (whole m) l) a).testBit b = (a.testBit b || c.any (litB ms b))
  | [], a => by simp
  | l :: c, a => by
    rw [List.foldl_cons, or_bit b hb c, Nat.testBit_or, mask_bit b l hb, List.any_cons, Bool.or_assoc]
theorem all_bit {m : Nat} {ms : List Nat} (b : Nat) (hb : b < 2 ^ m) : ∀ (cs : List (List Nat)) (a : Nat), (cs.foldl (fun a c => a &&& orN ms (whole m) c) a).testBit b = (a.testBit b && cs.all fun c => c.any (litB ms b))
  | [], a => by simp
  | c :: cs, a => by
    rw [List.foldl_cons, all_bit b hb cs, Nat.testBit_and, List.all_cons, Bool.and_assoc]
    congr 2
    unfold orN
    rw [or_bit b hb c 0, Nat.zero_testBit, Bool.false_or]
theorem all_le {m : Nat} {ms : List Nat} : ∀ (cs : List (List Nat)) (a : Nat), a < 2 ^ (2 ^ m) → cs.foldl (fun a c => a &&& orN ms (whole m) c) a < 2 ^ (2 ^ m)
  | [], a, h => h
  | c :: cs, a, h => by
    rw [List.foldl_cons]
    exact all_le cs _ (Nat.lt_of_le_of_lt Nat.and_le_left h)
theorem allN_bit {m : Nat} {ms : List Nat} (cs : List (List Nat)) (b : Nat) : (allN ms (whole m) cs).testBit b = (decide (b < 2 ^ m) && cs.all fun c => c.any (litB ms b)) := by
  by_cases hb : b < 2 ^ m
  · unfold allN
    rw [all_bit b hb, whole_bit]
  · rw [decide_eq_false hb, Bool.false_and]
    exact lt_bit (all_le cs _ (whole_lt m)) hb
theorem allN_whole {m : Nat} {ms : List Nat} {cs : List (List Nat)} (h : ∀ b, b < 2 ^ m → ∀ c ∈ cs, c.any (litB ms b) = true) : allN ms (whole m) cs = whole m := by
  apply Nat.eq_of_testBit_eq
  intro b
  rw [allN_bit, whole_bit]
  by_cases hb : b < 2 ^ m
  · rw [decide_eq_true hb, Bool.true_and]
    exact List.all_eq_true.mpr (h b hb)
  · rw [decide_eq_false hb, Bool.false_and]
theorem allN_zero {m : Nat} {ms : List Nat} {cs : List (List Nat)} (h : ∀ b, b < 2 ^ m → ∃ c ∈ cs, c.any (litB ms b) = false) : allN ms (whole m) cs = 0 := by
  apply Nat.eq_of_testBit_eq
  intro b
  rw [allN_bit, Nat.zero_testBit]
  by_cases hb : b < 2 ^ m
  · obtain ⟨c, hc, e⟩ := h b hb
    rw [decide_eq_true hb, Bool.true_and]
    exact List.all_eq_false.mpr ⟨c, hc, by rw [e]; decide⟩
  · rw [decide_eq_false hb, Bool.false_and]
theorem masksTo_low (N : Net) : ∀ i : Nat, i ≤ N.ands.length → Low N.many (N.masksTo i)
  | 0, _ => by
    intro x hx
    have hx : x ∈ N.base := hx
    rcases List.mem_cons.mp hx with e | e
    · rw [e]; exact Nat.pow_pos (by decide)
    · obtain ⟨j, _, rfl⟩ := List.mem_map.mp e
      exact Nat.lt_of_le_of_lt (pat_le _ _) (whole_lt _)
  | i + 1, h => by
    have hi : i < N.ands.length := h
    have ih := masksTo_low N i (by omega)
    rw [masksTo_succ N (List.getElem?_eq_getElem hi)]
    intro x hx
    rcases List.mem_append.mp hx with e | e
    · exact ih x e
    · rw [List.mem_singleton.mp e]
      exact Nat.lt_of_le_of_lt Nat.and_le_left (mask_lt ih _)
/-- a literal of a node ahead has the same bit further on -/
theorem lit_to (N : Net) {i b l : Nat} (hi : i ≤ N.ands.length) (hl : l < 2 * (N.first + i)) : litB (N.masksTo i) b l = litB N.masks b l := by
  unfold litB
  rw [List.getD_eq_getElem?_getD, List.getD_eq_getElem?_getD]
  unfold Net.masks
  rw [masksTo_get N i N.ands.length hi (Nat.le_refl _) (show l / 2 < N.first + i by omega)]
theorem bit_and (N : Net) (R : N.Right) {i b : Nat} {p : Nat × Nat} (h : N.ands[i]? = some p) (hb : b < 2 ^ N.many) : (N.masks.getD (N.first + i) 0).testBit b = (litB N.masks b p.1 && litB N.masks b p.2) := by
  have hi : i < N.ands.length := (List.getElem?_eq_some_iff.mp h).1
  obtain ⟨r1, r2⟩ := R.ands i p h
  have e : N.masks[N.first + i]? = some (maskN (N.masksTo i) (whole N.many) p.1 &&& maskN (N.masksTo i) (whole N.many) p.2) := by
    unfold Net.masks
    rw [masksTo_get N (i + 1) N.ands.length hi (Nat.le_refl _) (by omega), masksTo_succ N h, List.getElem?_append_right (by rw [masksTo_len N i (by omega)]; omega), masksTo_len N i (by omega), Nat.sub_self]
    rfl
  rw [getD_eq e, Nat.testBit_and, mask_bit b _ hb, mask_bit b _ hb, lit_to N (by omega) r1, lit_to N (by omega) r2]
theorem lit_inv (ms : List Nat) (b l : Nat) : litB ms b (l ^^^ 1) = !litB ms b l := by
  unfold litB
  have h1 : (l ^^^ 1) / 2 = l / 2 := by
    have := Nat.xor_div_two (a := l) (b := 1)
    simpa using this
  have h2 : (l ^^^ 1) % 2 = 1 - l % 2 := by
    have q := Nat.testBit_xor l 1 0
    rw [Nat.testBit_zero, Nat.testBit_zero, Nat.testBit_zero] at q
    rcases Nat.mod_two_eq_zero_or_one l with h | h <;> rcases Nat.mod_two_eq_zero_or_one (l ^^^ 1) with g | g <;> rw [h, g] at q <;> simp at q <;> omega
  rw [h1, h2]
  rcases Nat.mod_two_eq_zero_or_one l with h | h <;> rw [h] <;> cases (ms.getD (l / 2) 0).testBit b <;> rfl
theorem lit_even (ms : List Nat) (b n : Nat) : litB ms b (2 * n) = (ms.getD n 0).testBit b := by
  unfold litB
  rw [show 2 * n / 2 = n by omega, show 2 * n % 2 = 0 by omega]
  simp
theorem lit_odd (ms : List Nat) (b n : Nat) : litB ms b (2 * n + 1) = !(ms.getD n 0).testBit b := by
  unfold litB
  rw [show (2 * n + 1) / 2 = n by omega, show (2 * n + 1) % 2 = 1 by omega]
  simp
theorem mem_clauses {N : Net} {c : List Nat} (h : c ∈ N.clauses) : c = [1] ∨ ∃ i p, N.ands[i]? = some p ∧ c ∈ andC (N.first + i) p := by
  rcases List.mem_cons.mp h with h | h
  · exact .inl h
  · obtain ⟨x, hx, hc⟩ := List.mem_flatten.mp h
    obtain ⟨k, hk, rfl⟩ := List.mem_map.mp hx
    have hk' := List.mem_range.mp hk
    have e : N.ands[k]? = some (N.ands.getD k (0, 0)) := by rw [List.getD_eq_getElem?_getD, List.getElem?_eq_getElem hk']; rfl
    exact .inr ⟨k, _, e, hc⟩
theorem clauses_mem {N : Net} {c : List Nat} {i : Nat} {p : Nat × Nat} (h : N.ands[i]? = some p) (hc : c ∈ andC (N.first + i) p) : c ∈ N.clauses := by
  refine List.mem_cons.mpr (.inr (List.mem_flatten.mpr ⟨_, List.mem_map.mpr ⟨i, List.mem_range.mpr (List.getElem?_eq_some_iff.mp h).1, rfl⟩, ?_⟩))
  rw [List.getD_eq_getElem?_getD, h]
  exact hc
theorem and_clauses_bits {ms : List Nat} {b n : Nat} {p : Nat × Nat} : ((andC n p).all fun c => c.any (litB ms b)) = ((ms.getD n 0).testBit b == (litB ms b p.1 && litB ms b p.2)) := by
  show (([2 * n + 1, p.1].any (litB ms b)) && (([2 * n + 1, p.2].any (litB ms b)) && (([2 * n, p.1 ^^^ 1, p.2 ^^^ 1].any (litB ms b)) && true))) = _
  simp only [List.any_cons, List.any_nil, lit_even, lit_odd, lit_inv, Bool.or_false, Bool.and_true]
  cases (ms.getD n 0).testBit b <;> cases litB ms b p.1 <;> cases litB ms b p.2 <;> rfl
theorem clauses_hold (N : Net) (R : N.Right) : allN N.masks (whole N.many) N.clauses = whole N.many := by
  refine allN_whole fun b hb c hc => ?_
  rcases mem_clauses hc with rfl | ⟨i, p, h, hc⟩
  · have e : N.masks[0]? = some 0 := by
      unfold Net.masks
      rw [masksTo_get N 0 N.ands.length (Nat.zero_le _) (Nat.le_refl _) (by rw [Net.first_eq]; omega)]
      rfl
    rw [List.any_cons, List.any_nil, Bool.or_false, show (1 : Nat) = 2 * 0 + 1 from rfl, lit_odd, getD_eq e]
    simp
  · have q : ((andC (N.first + i) p).all fun c => c.any (litB N.masks b)) = true := by
      rw [and_clauses_bits, bit_and N R h hb]
      exact beq_self_eq_true _
    exact List.all_eq_true.mp q c hc
def spoil (ms : List Nat) (n w : Nat) : List Nat := ms.take n ++ [ms.getD n 0 ^^^ w] ++ ms.drop (n + 1)
theorem spoil_get {ms : List Nat} {n w k : Nat} (hn : n < ms.length) : (spoil ms n w).getD k 0 = if k = n then ms.getD n 0 ^^^ w else ms.getD k 0 := by
  unfold spoil
  have lt : (ms.take n).length = n := by rw [List.length_take]; omega
  rw [List.getD_eq_getElem?_getD, List.getD_eq_getElem?_getD]
  by_cases h : k = n
  · rw [if_pos h, List.append_assoc, List.getElem?_append_right (by omega), lt, h, Nat.sub_self, List.singleton_append, List.getElem?_cons_zero]
    rfl
  · rw [if_neg h, List.getD_eq_getElem?_getD]
    congr 1
    by_cases h2 : k < n
    · rw [List.append_assoc, List.getElem?_append_left (by omega), List.getElem?_take_of_lt h2]
    · rw [List.getElem?_append_right (by rw [List.length_append, lt]; simp; omega), List.length_append, lt, List.getElem?_drop]
      congr 1
      simp
      omega
theorem spoil_bit {ms : List Nat} {n m b l : Nat} (hn : n < ms.length) (hb : b < 2 ^ m) : litB (spoil ms n (whole m)) b l = (litB ms b l ^^ decide (l / 2 = n)) := by
  unfold litB
  rw [spoil_get hn]
  by_cases h : l / 2 = n
  · rw [if_pos h, Nat.testBit_xor, whole_bit, decide_eq_true hb, decide_eq_true h, h]
    cases (ms.getD n 0).testBit b <;> cases decide (l % 2 = 1) <;> rfl
  · rw [if_neg h, decide_eq_false h, Bool.xor_false]
theorem spoilt_zero (N : Net) : allN (spoil N.masks 0 (whole N.many)) (whole N.many) N.clauses = 0 := by
  have hl : 0 < N.masks.length := by
    unfold Net.masks
    rw [masksTo_len N _ (Nat.le_refl _), Net.first_eq]
    omega
  refine allN_zero fun b hb => ⟨[1], List.mem_cons_self, ?_⟩
  have e : N.masks[0]? = some 0 := by
    unfold Net.masks
    rw [masksTo_get N 0 N.ands.length (Nat.zero_le _) (Nat.le_refl _) (by rw [Net.first_eq]; omega)]
    rfl
  rw [List.any_cons, List.any_nil, Bool.or_false, spoil_bit hl hb, show (1 : Nat) = 2 * 0 + 1 from rfl, lit_odd, getD_eq e]
  simp
theorem spoilt_and (N : Net) (R : N.Right) {i : Nat} (hi : i < N.ands.length) : allN (spoil N.masks (N.first + i) (whole N.many)) (whole N.many) N.clauses = 0 := by
  have hl : N.first + i < N.masks.length := by
    unfold Net.masks
    rw [masksTo_len N _ (Nat.le_refl _)]
    omega
  have h : N.ands[i]? = some N.ands[i] := List.getElem?_eq_getElem hi
  obtain ⟨r1, r2⟩ := R.ands i _ h
  refine allN_zero fun b hb => ?_
  have q : ((andC (N.first + i) N.ands[i]).all fun c => c.any (litB (spoil N.masks (N.first + i) (whole N.many)) b)) = false := by
    rw [and_clauses_bits, spoil_bit hl hb, spoil_bit hl hb, decide_eq_false (show ¬ (N.ands[i]).1 / 2 = N.first + i by omega), decide_eq_false (show ¬ (N.ands[i]).2 / 2 = N.first + i by omega), Bool.xor_false, Bool.xor_false, ← lit_even, spoil_bit hl hb, lit_even, decide_eq_true (show 2 * (N.first + i) / 2 = N.first + i by omega), bit_and N R h hb]
    cases (litB N.masks b N.ands[i].1 && litB N.masks b N.ands[i].2) <;> rfl
  obtain ⟨c, hc, e⟩ := List.all_eq_false.mp q
  refine ⟨c, clauses_mem h hc, ?_⟩
  cases z : c.any (litB (spoil N.masks (N.first + i) (whole N.many)) b) with
  | false => rfl
  | true => exact absurd z e
end Bf

set_option Elab.async false
set_option linter.all false
set_option maxRecDepth 100000
set_option maxHeartbeats 4000000
namespace Bf
open PySem PySem.Spec PyProof.Rows L2
/-! ### comprehensions over rows that lie there; each row gives a datum -/
theorem lc_rows {J : It} {xs : List V} {G : Hp → Prop} (w : Walk J xs.length G (YAt xs)) {α β : Type} {rows : List α} {f : α → PyData} {g : α → β} {h : β → PyData} {tg : TG} {te : TE} {vs : List Nat} {σ : L2.St} {H1 : Hp} {D : Addr} {Qd : Hp → Prop}
    (hG : ∀ H', Same H1 H' → G H') (hD : H1 D = none) (lay : LayAll H1 xs (rows.map f)) (hl : rows.length ≤ 1000)
    (hs : ∀ (i : Nat) (x : V) (r : α) (H' : Hp) (R : V → Hp → Prop) (Z : Hp → Prop), rows[i]? = some r → Same H1 H' → Lay H' x (f r) → (∀ y H4, Same H' H4 → Lay H4 y (h (g r)) → R y H4) →
      tg x (wipe σ vs) H' fun σ2 H2 => wipe σ2 vs = wipe σ vs ∧ tYes σ2 H2 fun b H3 => if b = true then te σ2 H3 R else Z H3)
    (hd : ∀ us H', Same H1 H' → H' D = some (.lst us) → LayAll H' us ((rows.map g).map h) → Qd H') :
    ∃ W : Nat → Nat → Hp → Prop, (∃ m, W 0 m (upd H1 D (.lst []))) ∧ ∀ i m H, W i m H →
      (J.stop i H ∧ Qd H) ∨ (J.go i H ∧ ∃ Nx : Hp → Prop, (∀ H', Nx H' → ∃ m', m' < m ∧ W (i + 1) m' H') ∧ ∀ x H', J.yld i H x H' → tg x (wipe σ vs) H' fun σ2 H2 => wipe σ2 vs = wipe σ vs ∧ tYes σ2 H2 fun b H3 =>
        if b = true then te σ2 H3 fun y H4 => ∃ acc, H4 D = some (.lst acc) ∧ acc.length < sizeLine ∧ Nx (upd H4 D (.lst (acc ++ [y]))) else Nx H3) := by
  have ll := lay.len
  rw [List.length_map] at ll
  refine lc_it w (fun i H' => Same H1 H' ∧ ∃ us, H' D = some (.lst us) ∧ LayAll H' us (((rows.take i).map g).map h)) ⟨same_two (.refl _) hD, [], upd_same, .nil⟩ (fun i H' _ p => hG _ p.1) (fun i x H' H2 hi p y => ?_) (fun H' p => ?_)
  · obtain ⟨sm, us, eD, lu⟩ := p
    obtain ⟨rfl, hx⟩ := y
    obtain ⟨d, hd', ld⟩ := (lay.keep' (.same sm)).get i hx
    obtain ⟨r, hr, rfl⟩ := mapAtD hd'
    refine hs i x r H2 _ _ hr sm ld (fun y H4 s4 ly => ?_)
    have lul := lu.len
    rw [List.length_map, List.length_map, List.length_take] at lul
    refine ⟨us, s4 _ _ eD, len1000 (by omega), same_two (sm.trans s4) hD, us ++ [y], upd_same, ?_⟩
    rw [take_snoc hr, List.map_append, List.map_append]
    exact ((lu.keep' (.same s4)).snoc ly).keep' (.lst (s4 _ _ eD))
  · obtain ⟨sm, us, eD, lu⟩ := p
    rw [ll, List.take_length] at lu
    exact hd us H' sm eD lu
theorem lay_ints {H : Hp} {us : List V} {ns : List Nat} (h : LayAll H us (ns.map fun n : Nat => PyData.int (n : Int))) : us = ns.map vI := h.ints_inv
/-- range(n) gives data -/
theorem lc_rangeL {n : Nat} {β : Type} {g : Nat → β} {h : β → PyData} {tg : TG} {te : TE} {vs : List Nat} {σ : L2.St} {H1 : Hp} {D : Addr} {Qd : Hp → Prop} (hD : H1 D = none) (hl : n ≤ 1000)
    (hs : ∀ (i : Nat) (H' : Hp) (R : V → Hp → Prop) (Z : Hp → Prop), i < n → Same H1 H' → (∀ y H4, Same H' H4 → Lay H4 y (h (g i)) → R y H4) →
      tg (.int (0 + (i : Int))) (wipe σ vs) H' fun σ2 H2 => wipe σ2 vs = wipe σ vs ∧ tYes σ2 H2 fun b H3 => if b = true then te σ2 H3 R else Z H3)
    (hd : ∀ us H', Same H1 H' → H' D = some (.lst us) → LayAll H' us (((List.range n).map g).map h) → Qd H') :
    ∃ W : Nat → Nat → Hp → Prop, (∃ m, W 0 m (upd H1 D (.lst []))) ∧ ∀ i m H, W i m H →
      ((Itr 0 n).stop i H ∧ Qd H) ∨ ((Itr 0 n).go i H ∧ ∃ Nx : Hp → Prop, (∀ H', Nx H' → ∃ m', m' < m ∧ W (i + 1) m' H') ∧ ∀ x H', (Itr 0 n).yld i H x H' → tg x (wipe σ vs) H' fun σ2 H2 => wipe σ2 vs = wipe σ vs ∧ tYes σ2 H2 fun b H3 =>
        if b = true then te σ2 H3 fun y H4 => ∃ acc, H4 D = some (.lst acc) ∧ acc.length < sizeLine ∧ Nx (upd H4 D (.lst (acc ++ [y]))) else Nx H3) := by
  refine lc_it walk_range (fun i H' => Same H1 H' ∧ ∃ us, H' D = some (.lst us) ∧ LayAll H' us (((List.range i).map g).map h)) ⟨same_two (.refl _) hD, [], upd_same, .nil⟩ (fun i H' _ p => trivial) (fun i x H' H2 hi p y => ?_) (fun H' p => ?_)
  · obtain ⟨sm, us, eD, lu⟩ := p
    obtain ⟨rfl, rfl⟩ := y
    refine hs i H2 _ _ hi sm (fun y H4 s4 ly => ?_)
    have lul := lu.len
    rw [List.length_map, List.length_map, List.length_range] at lul
    refine ⟨us, s4 _ _ eD, len1000 (by omega), same_two (sm.trans s4) hD, us ++ [y], upd_same, ?_⟩
    rw [List.range_succ, List.map_append, List.map_append]
    exact ((lu.keep' (.same s4)).snoc ly).keep' (.lst (s4 _ _ eD))
  · obtain ⟨sm, us, eD, lu⟩ := p
    exact hd us H' sm eD lu
theorem flat_rep (n : Nat) : (List.replicate n [V.int 0]).flatten = (List.replicate n 0).map vI := by
  induction n with
  | zero => rfl
  | succ n ih =>
    rw [List.replicate_succ, List.flatten_cons, ih, List.replicate_succ]
    rfl
theorem set_vI (l : List Nat) (i x : Nat) : (l.map vI).set i (vI x) = (l.set i x).map vI := by rw [List.map_set]
theorem ixN_nat {n i : Nat} (h : i < n) : ixN n (i : Int) = some i := by
  have : atI (List.range n) (i : Int) = some i := atI_nat (by rw [List.getElem?_range h])
  unfold atI at this
  cases e : ixN n (i : Int) with
  | none => rw [List.length_range, e] at this; cases this
  | some j =>
    rw [List.length_range, e] at this
    have q : (List.range n)[j]? = some i := this
    have hj : j < n := by
      have := (List.getElem?_eq_some_iff.mp q).1
      simpa using this
    rw [List.getElem?_range hj] at q
    rw [Option.some.inj q]
end Bf

set_option Elab.async false
set_option linter.all false
set_option maxRecDepth 100000
set_option maxHeartbeats 4000000
namespace Bf
open PySem PySem.Spec PyProof.Rows L2
/-! ### [x for x in xs if p x]; sorted(set(xs)) -/
theorem lc_filt {J : It} {xs : List Nat} {G : Hp → Prop} (w : Walk J (xs.map vI).length G (YAt (xs.map vI))) {p : Nat → Bool} {tg : TG} {tt : TT} {te : TE} {vs : List Nat} {σ : L2.St} {H1 : Hp} {D : Addr} {Qd : Hp → Prop}
    (hG : ∀ H', Same H1 H' → G H') (hD : H1 D = none) (hl : xs.length ≤ 1000)
    (hs : ∀ (x : Nat) (H' : Hp) (R : V → Hp → Prop) (Z : Hp → Prop), x ∈ xs → Same H1 H' → (p x = true → R (vI x) H') → (p x = false → Z H') →
      tg (vI x) (wipe σ vs) H' fun σ2 H2 => wipe σ2 vs = wipe σ vs ∧ tt σ2 H2 fun b H3 => if b = true then te σ2 H3 R else Z H3)
    (hd : ∀ H', Same H1 H' → H' D = some (.lst ((xs.filter p).map vI)) → Qd H') :
    ∃ W : Nat → Nat → Hp → Prop, (∃ m, W 0 m (upd H1 D (.lst []))) ∧ ∀ i m H, W i m H →
      (J.stop i H ∧ Qd H) ∨ (J.go i H ∧ ∃ Nx : Hp → Prop, (∀ H', Nx H' → ∃ m', m' < m ∧ W (i + 1) m' H') ∧ ∀ x H', J.yld i H x H' → tg x (wipe σ vs) H' fun σ2 H2 => wipe σ2 vs = wipe σ vs ∧ tt σ2 H2 fun b H3 =>
        if b = true then te σ2 H3 fun y H4 => ∃ acc, H4 D = some (.lst acc) ∧ acc.length < sizeLine ∧ Nx (upd H4 D (.lst (acc ++ [y]))) else Nx H3) := by
  refine lc_it w (fun i H' => Same H1 H' ∧ H' D = some (.lst (((xs.take i).filter p).map vI))) ⟨same_two (.refl _) hD, by simp [upd_same]⟩ (fun i H' _ q => hG _ q.1) (fun i x H' H2 hi q y => ?_) (fun H' q => ?_)
  · obtain ⟨sm, eD⟩ := q
    obtain ⟨rfl, hx⟩ := y
    obtain ⟨k, hk, rfl⟩ := natAt hx
    have hlen : ((xs.take i).filter p).length ≤ 1000 := Nat.le_trans (List.length_filter_le _ _) (by rw [List.length_take]; omega)
    refine hs k H2 _ _ (List.mem_of_getElem? hk) sm (fun hp => ⟨_, eD, by rw [List.length_map]; exact small1000 hlen, same_two sm hD, ?_⟩) (fun hp => ⟨sm, ?_⟩)
    · rw [upd_same, take_snoc hk, List.filter_append, List.map_append]
      simp [List.filter, hp]
    · rw [take_snoc hk, List.filter_append]
      simpa [List.filter, hp] using eD
  · obtain ⟨sm, eD⟩ := q
    rw [List.length_map, List.take_length] at eD
    exact hd H' sm eD
theorem ints_nat {ns : List Int} {xs : List Nat} (h : ∀ k ∈ ns, ∃ x : Nat, k = (x : Int) ∧ x ∈ xs) : ∃ zs : List Nat, ns.map V.int = zs.map vI ∧ ns = zs.map fun n : Nat => (n : Int) := by
  induction ns with
  | nil => exact ⟨[], rfl, rfl⟩
  | cons a r ih =>
    obtain ⟨zs, e1, e2⟩ := ih fun k hk => h k (by simp [hk])
    obtain ⟨x, rfl, _⟩ := h a (by simp)
    exact ⟨x :: zs, by rw [List.map_cons, e1]; rfl, by rw [e2]; rfl⟩
def castL (xs : List Nat) : List Int := xs.map fun n : Nat => (n : Int)
theorem castL_V (xs : List Nat) : (castL xs).map V.int = xs.map vI := by
  unfold castL
  rw [List.map_map]
  rfl
theorem castL_len (xs : List Nat) : (castL xs).length = xs.length := by simp [castL]
theorem setSorted {xs : List Nat} {ns : List Int} {Sb : Int → Bool} {m : Nat} (hS : ∀ x, Sb x = true ↔ x ∈ castL xs) (pw : ns.Pairwise (· < ·)) (hk : ∀ k : Int, k ∈ ns ↔ Sb k = true) (hn : ns.length = m) (hm : m ≤ (castL xs).length) :
    ∃ zs : List Nat, ns.map V.int = zs.map vI ∧ zs.Pairwise (· < ·) ∧ (∀ x, x ∈ zs ↔ x ∈ xs) ∧ zs.length ≤ xs.length := by
  rw [castL_len] at hm
  have hx : ∀ z : Int, z ∈ ns ↔ ∃ x : Nat, z = (x : Int) ∧ x ∈ xs := fun z => by
    rw [hk z, hS z, castL, List.mem_map]
    exact ⟨fun ⟨x, a, b⟩ => ⟨x, b.symm, a⟩, fun ⟨x, a, b⟩ => ⟨x, b, a.symm⟩⟩
  obtain ⟨zs, e1, e2⟩ := ints_nat fun z hz => (hx z).mp hz
  refine ⟨zs, e1, ?_, fun x => ?_, ?_⟩
  · rw [e2] at pw
    exact (List.pairwise_map.mp pw).imp fun h => by omega
  · have := hx (x : Int)
    rw [e2] at this
    refine ⟨fun h => ?_, fun h => ?_⟩
    · obtain ⟨y, hy, hm⟩ := this.mp (List.mem_map_of_mem h)
      rwa [show x = y by omega]
    · obtain ⟨y, hy, e⟩ := List.mem_map.mp (this.mpr ⟨x, rfl, h⟩)
      have e : (y : Int) = (x : Int) := e
      rwa [show x = y by omega]
  · have : ns.length = zs.length := by rw [e2, List.length_map]
    omega
/-- [g x for x in rows if p x], rows that lie there; the test may make objects -/
theorem lc_frows {J : It} {xs : List V} {G : Hp → Prop} (w : Walk J xs.length G (YAt xs)) {α β : Type} {rows : List α} {f : α → PyData} {g : α → β} {h : β → PyData} {p : α → Bool} {tg : TG} {tt : TT} {te : TE} {vs : List Nat} {σ : L2.St} {H1 : Hp} {D : Addr} {Qd : Hp → Prop}
    (hG : ∀ H', Same H1 H' → G H') (hD : H1 D = none) (lay : LayAll H1 xs (rows.map f)) (hl : rows.length ≤ 1000)
    (hs : ∀ (x : V) (r : α) (H' : Hp) (R : V → Hp → Prop) (Z : Hp → Prop), r ∈ rows → Same H1 H' → Lay H' x (f r) → (p r = true → ∀ y H4, Same H' H4 → Lay H4 y (h (g r)) → R y H4) → (p r = false → ∀ H4, Same H' H4 → Z H4) →
      tg x (wipe σ vs) H' fun σ2 H2 => wipe σ2 vs = wipe σ vs ∧ tt σ2 H2 fun b H3 => if b = true then te σ2 H3 R else Z H3)
    (hd : ∀ us H', Same H1 H' → H' D = some (.lst us) → LayAll H' us (((rows.filter p).map g).map h) → Qd H') :
    ∃ W : Nat → Nat → Hp → Prop, (∃ m, W 0 m (upd H1 D (.lst []))) ∧ ∀ i m H, W i m H →
      (J.stop i H ∧ Qd H) ∨ (J.go i H ∧ ∃ Nx : Hp → Prop, (∀ H', Nx H' → ∃ m', m' < m ∧ W (i + 1) m' H') ∧ ∀ x H', J.yld i H x H' → tg x (wipe σ vs) H' fun σ2 H2 => wipe σ2 vs = wipe σ vs ∧ tt σ2 H2 fun b H3 =>
        if b = true then te σ2 H3 fun y H4 => ∃ acc, H4 D = some (.lst acc) ∧ acc.length < sizeLine ∧ Nx (upd H4 D (.lst (acc ++ [y]))) else Nx H3) := by
  have ll := lay.len
  rw [List.length_map] at ll
  refine lc_it w (fun i H' => Same H1 H' ∧ ∃ us, H' D = some (.lst us) ∧ LayAll H' us ((((rows.take i).filter p).map g).map h)) ⟨same_two (.refl _) hD, [], upd_same, by simp; exact .nil⟩ (fun i H' _ q => hG _ q.1) (fun i x H' H2 hi q y => ?_) (fun H' q => ?_)
  · obtain ⟨sm, us, eD, lu⟩ := q
    obtain ⟨rfl, hx⟩ := y
    obtain ⟨d, hd', ld⟩ := (lay.keep' (.same sm)).get i hx
    obtain ⟨r, hr, rfl⟩ := mapAtD hd'
    have lul := lu.len
    rw [List.length_map, List.length_map] at lul
    have hlen : ((rows.take i).filter p).length ≤ 1000 := Nat.le_trans (List.length_filter_le _ _) (by rw [List.length_take]; omega)
    refine hs x r H2 _ _ (List.mem_of_getElem? hr) sm ld (fun hp y H4 s4 ly => ?_) (fun hp H4 s4 => ⟨sm.trans s4, us, s4 _ _ eD, ?_⟩)
    · refine ⟨us, s4 _ _ eD, len1000 (by omega), same_two (sm.trans s4) hD, us ++ [y], upd_same, ?_⟩
      rw [take_snoc hr, List.filter_append, List.map_append, List.map_append, show [r].filter p = [r] by simp [List.filter, hp]]
      exact ((lu.keep' (.same s4)).snoc ly).keep' (.lst (s4 _ _ eD))
    · rw [take_snoc hr, List.filter_append, show [r].filter p = [] by simp [List.filter, hp], List.append_nil]
      exact lu.keep' (.same s4)
  · obtain ⟨sm, us, eD, lu⟩ := q
    rw [ll, List.take_length] at lu
    exact hd us H' sm eD lu
def blD (b : Bool) : PyData := .bool b
theorem lay_bls {H : Hp} : ∀ {bs : List Bool} {us : List V}, LayAll H us (bs.map blD) → us = bs.map V.bl
  | [], _, h => by cases h; rfl
  | b :: r, _, h => by
    cases h with
    | cons a t =>
      rw [lay_bls t]
      cases a
      rfl
end Bf

set_option Elab.async false
set_option linter.all false
set_option maxRecDepth 100000
set_option maxHeartbeats 4000000
namespace Bf
open PySem PySem.Spec PyProof.Rows L2
/-! ### d.update(e), both with int and text keys -/
def rUpd : V → List V → Hp → VK → Prop := fun x vs H Q => ∃ (d b : Addr) (xs zs : List (Key × V)), x = .ref d ∧ vs = [.ref b] ∧ d ≠ b ∧ H d = some (.dK xs) ∧ H b = some (.dK zs) ∧ xs.length + zs.length ≤ sizeLine ∧ Q .non (upd H d (.dK (mergeK xs zs)))
theorem mt_update {X : Cx} : MtM X "dict.update" rUpd := by
  intro pins s σ H x vs v us Q I rx rv h
  obtain ⟨d, b, xs, zs, rfl, rfl, hne, hH, hB, hz, q⟩ := h
  cases rx
  obtain ⟨u, rfl, ru⟩ := rv.one
  cases ru
  obtain ⟨z, hd, ws, rel, dd⟩ := dk_of I.hok hH
  obtain ⟨z2, hd2, ws2, rel2, dd2⟩ := dk_of I.hok hB
  refine call_meetsIn PySem.F.slot_dict_update dd.typeIs PySem.F.entry_dict_update (PySem.F.args_dict_update_2 _ _) (meets_dict_update (mixKind X.prog X.w) d b hne hd2) ⟨ws, ws2, dd, dd2, by rw [← Paired.length rel, ← Paired.length rel2]; exact hz, fun h' dd' _ hs => ?_⟩
  have hl := length_mergeK zs xs
  have he : ∃ q, h'.get? d = some q := let ⟨q, _, _, hq, _⟩ := dd'; ⟨q, hq⟩
  exact ⟨.non, _, d_write I (by rw [hH]; exact True.intro) hs he (dk_new (by omega) hd (rel2.merge rel) dd'), rfl, q⟩
/-! ### dicts as sets of numbers -/
def setZ (M : List Int) : List (Key × V) := M.map fun x => (Sum.inl x, .bl true)
def addZ (M : List Int) (x : Int) : List Int := if x ∈ M then M else M ++ [x]
theorem mem_addZ {M : List Int} {x y : Int} : y ∈ addZ M x ↔ y ∈ M ∨ y = x := by
  unfold addZ
  by_cases h : x ∈ M
  · rw [if_pos h]
    exact ⟨.inl, fun q => q.elim id fun e => e ▸ h⟩
  · rw [if_neg h]
    simp
theorem addZ_len {M : List Int} {x : Int} : (addZ M x).length ≤ M.length + 1 := by
  unfold addZ
  split
  · omega
  · rw [List.length_append]; exact Nat.le_refl _
theorem addZ_nodup {M : List Int} {x : Int} (h : M.Nodup) : (addZ M x).Nodup := by
  unfold addZ
  by_cases q : x ∈ M
  · rw [if_pos q]; exact h
  · rw [if_neg q]
    exact List.nodup_append.mpr ⟨h, by simp, fun a ha b hb e => q (by rw [← List.mem_singleton.mp hb, ← e]; exact ha)⟩
theorem setZ_len (M : List Int) : (setZ M).length = M.length := by simp [setZ]
theorem setZ_put (M : List Int) (x : Int) : putK (setZ M) (Sum.inl x) (.bl true) = setZ (addZ M x) := by
  unfold putK addZ setZ
  by_cases h : x ∈ M
  · rw [if_pos h, if_pos]
    · conv => rhs; rw [← List.map_id (M.map _)]
      refine List.map_congr_left fun kv hkv => ?_
      obtain ⟨y, _, rfl⟩ := List.mem_map.mp hkv
      by_cases e : (Sum.inl y : Key) = Sum.inl x
      · rw [if_pos e]; rfl
      · rw [if_neg e]; rfl
    · rw [List.any_eq_true]
      exact ⟨(Sum.inl x, .bl true), List.mem_map_of_mem (f := fun x => ((Sum.inl x : Key), V.bl true)) h, decide_eq_true rfl⟩
  · rw [if_neg h, if_neg, List.map_append]
    · rfl
    · rw [List.any_eq_true]
      rintro ⟨kv, hkv, q⟩
      obtain ⟨y, hy, rfl⟩ := List.mem_map.mp hkv
      exact h (Sum.inl.inj (of_decide_eq_true q) ▸ hy)
theorem setZ_val : ∀ (M : List Int) (x : Int), (valV (setZ M) (Sum.inl x)).isSome = decide (x ∈ M)
  | [], x => by unfold setZ; rw [List.map_nil, valV_nil]; simp
  | y :: M, x => by
    have ih := setZ_val M x
    unfold setZ at ih ⊢
    rw [List.map_cons]
    by_cases e : (Sum.inl y : Key) = Sum.inl x
    · rw [valV_pos e]
      have : y = x := Sum.inl.inj e
      simp [this]
    · rw [valV_neg e, ih]
      have : ¬ x = y := fun q => e (congrArg Sum.inl q.symm)
      simp [this]
theorem setZ_merge (M : List Int) : ∀ N : List Int, mergeK (setZ M) (setZ N) = setZ (N.foldl addZ M)
  | [] => rfl
  | x :: N => by
    have := setZ_merge (addZ M x) N
    show mergeK (putK (setZ M) (Sum.inl x) (.bl true)) (setZ N) = _
    rw [setZ_put, this]
    rfl
theorem mem_addsZ : ∀ (N : List Int) {M : List Int} {x : Int}, x ∈ N.foldl addZ M ↔ x ∈ M ∨ x ∈ N
  | [], M, x => by simp
  | y :: N, M, x => by
    show x ∈ N.foldl addZ (addZ M y) ↔ _
    rw [mem_addsZ N, mem_addZ, List.mem_cons]
    constructor
    · rintro ((h | h) | h)
      · exact .inl h
      · exact .inr (.inl h)
      · exact .inr (.inr h)
    · rintro (h | h | h)
      · exact .inl (.inl h)
      · exact .inl (.inr h)
      · exact .inr h
theorem addsZ_len : ∀ (N M : List Int), (N.foldl addZ M).length ≤ M.length + N.length
  | [], M => by simp
  | y :: N, M => by
    have h1 := addsZ_len N (addZ M y)
    have h2 := addZ_len (M := M) (x := y)
    show (N.foldl addZ (addZ M y)).length ≤ _
    rw [List.length_cons]
    omega
theorem setZ_get {H : Hp} {a : Addr} {M : List Int} (h : H a = some (.dK (setZ M))) (x : Int) : DGet H a (.int x) (valV (setZ M) (Sum.inl x)) := DGet.k (k := Sum.inl x) h
theorem setZ_dput {H : Hp} {a : Addr} {M : List Int} (h : H a = some (.dK (setZ M))) (x : Int) (hl : M.length ≤ 2000) : DPut H a (.int x) (.bl true) (upd H a (.dK (setZ (addZ M x)))) := by
  have := DPut.k (k := Sum.inl x) (v := .bl true) h (by rw [setZ_len]; exact Nat.lt_of_le_of_lt hl (by show 2000 < sizeLine; decide))
  rwa [setZ_put] at this
/-- {key: True for x in rows} -/
theorem dc_setZ {J : It} {xs : List V} {G : Hp → Prop} (w : Walk J xs.length G (YAt xs)) {α : Type} {rows : List α} {f : α → PyData} {k : α → Int} {g : TG} {tt : TT} {tk tv : TE} {vs : List Nat} {σ : L2.St} {H1 : Hp} {D : Addr} {Qd : Hp → Prop}
    (hG : ∀ H', Same H1 H' → G H') (hD : H1 D = none) (lay : LayAll H1 xs (rows.map f)) (hl : rows.length ≤ 1000)
    (hs : ∀ (x : V) (r : α) (H' : Hp) (R : V → V → Hp → Prop) (Z : Hp → Prop), r ∈ rows → Same H1 H' → Lay H' x (f r) → (∀ H4, Same H' H4 → R (.int (k r)) (.bl true) H4) →
      g x (wipe σ vs) H' fun σ2 H2 => wipe σ2 vs = wipe σ vs ∧ tt σ2 H2 fun b H3 => if b = true then tk σ2 H3 fun y H4 => tv σ2 H4 fun z H5 => R y z H5 else Z H3)
    (hd : ∀ (M : List Int) H', Same H1 H' → H' D = some (.dK (setZ M)) → (∀ x, x ∈ M ↔ x ∈ rows.map k) → M.length ≤ rows.length → Qd H') :
    ∃ W : Nat → Nat → Hp → Prop, (∃ m, W 0 m (upd H1 D (.dK []))) ∧ ∀ i m H, W i m H →
      (J.stop i H ∧ Qd H) ∨ (J.go i H ∧ ∃ Nx : Hp → Prop, (∀ H', Nx H' → ∃ m', m' < m ∧ W (i + 1) m' H') ∧ ∀ x H', J.yld i H x H' → g x (wipe σ vs) H' fun σ2 H2 => wipe σ2 vs = wipe σ vs ∧ tt σ2 H2 fun b H3 =>
        if b = true then tk σ2 H3 fun y H4 => tv σ2 H4 fun z H5 => ∃ kvs k, y = kV k ∧ H5 D = some (.dK kvs) ∧ kvs.length < sizeLine ∧ Nx (upd H5 D (.dK (putK kvs k z))) else Nx H3) := by
  have ll := lay.len
  rw [List.length_map] at ll
  let Pv : Nat → Hp → Prop := fun i H' => Same H1 H' ∧ ∃ M : List Int, H' D = some (.dK (setZ M)) ∧ (∀ x, x ∈ M ↔ x ∈ (rows.take i).map k) ∧ M.length ≤ i
  refine ⟨fun i m H => m = xs.length - i ∧ i ≤ xs.length ∧ Pv i H, ⟨xs.length, by simp, Nat.zero_le _, same_two (.refl _) hD, [], upd_same, by simp, Nat.le_refl _⟩, ?_⟩
  rintro i m H ⟨rfl, hi, sm, M, eD, hM, hML⟩
  have q := hG H sm
  by_cases hlt : i < xs.length
  · refine .inr ⟨w.goes i H hlt q, Pv (i + 1), fun H' p' => ⟨xs.length - (i + 1), by omega, rfl, hlt, p'⟩, fun x H' y => ?_⟩
    obtain ⟨rfl, hx⟩ := w.yields i H x H' hlt q y
    obtain ⟨d, hd', ld⟩ := (lay.keep' (.same sm)).get i hx
    obtain ⟨r, hr, rfl⟩ := mapAtD hd'
    refine hs x r H' _ _ (List.mem_of_getElem? hr) sm ld (fun H4 s4 => ?_)
    refine ⟨setZ M, Sum.inl (k r), rfl, s4 _ _ eD, by rw [setZ_len]; exact len1000 (by omega), ?_⟩
    rw [setZ_put]
    refine ⟨same_two (sm.trans s4) hD, addZ M (k r), upd_same, fun x => ?_, by have := addZ_len (M := M) (x := k r); omega⟩
    rw [mem_addZ, hM, take_snoc hr, List.map_append, List.mem_append]
    simp
  · have e : i = xs.length := by omega
    subst e
    refine .inl ⟨w.stops H q, hd M H sm eD (fun x => ?_) (by omega)⟩
    rw [hM, ll, List.take_length]
/-- [.. for x in d], d a locked set of numbers, each giving a bool -/
theorem lc_keysB {o : Obj} {d : Addr} {M : List Int} {p : Int → Bool} {tg : TG} {te : TE} {vs : List Nat} {σ : L2.St} {H1 : Hp} {D : Addr} {Qd : Hp → Prop}
    (hd : H1 d = some (.frz o (.dK (setZ M)))) (hD : H1 D = none) (hl : M.length ≤ 1000)
    (hs : ∀ (x : Int) (H' : Hp) (R : V → Hp → Prop) (Z : Hp → Prop), x ∈ M → Same H1 H' → (∀ H4, Same H' H4 → R (.bl (p x)) H4) →
      tg (.int x) (wipe σ vs) H' fun σ2 H2 => wipe σ2 vs = wipe σ vs ∧ tYes σ2 H2 fun b H3 => if b = true then te σ2 H3 R else Z H3)
    (hq : ∀ H', Same H1 H' → H' D = some (.lst ((M.map p).map V.bl)) → Qd H') :
    ∃ W : Nat → Nat → Hp → Prop, (∃ m, W 0 m (upd H1 D (.lst []))) ∧ ∀ i m H, W i m H →
      ((Itk d o (setZ M)).stop i H ∧ Qd H) ∨ ((Itk d o (setZ M)).go i H ∧ ∃ Nx : Hp → Prop, (∀ H', Nx H' → ∃ m', m' < m ∧ W (i + 1) m' H') ∧ ∀ x H', (Itk d o (setZ M)).yld i H x H' → tg x (wipe σ vs) H' fun σ2 H2 => wipe σ2 vs = wipe σ vs ∧ tYes σ2 H2 fun b H3 =>
        if b = true then te σ2 H3 fun y H4 => ∃ acc, H4 D = some (.lst acc) ∧ acc.length < sizeLine ∧ Nx (upd H4 D (.lst (acc ++ [y]))) else Nx H3) := by
  refine lc_it (walk_keys (d := d) (o := o) (kvs := setZ M)) (fun i H' => Same H1 H' ∧ H' D = some (.lst (((M.take i).map p).map V.bl))) ⟨same_two (.refl _) hD, upd_same⟩ (fun i H' _ q => q.1 _ _ hd) (fun i x H' H2 hi q y => ?_) (fun H' q => ?_)
  · obtain ⟨sm, eD⟩ := q
    obtain ⟨rfl, kk, v, hk, rfl⟩ := y
    rw [setZ_len] at hi
    have e : M[i]? = some M[i] := List.getElem?_eq_getElem hi
    have e2 : (setZ M)[i]? = some (Sum.inl M[i], .bl true) := by unfold setZ; rw [List.getElem?_map, e]; rfl
    rw [e2] at hk
    cases hk
    refine hs M[i] H2 _ _ (List.getElem_mem _) sm (fun H4 s4 => ⟨_, s4 _ _ eD, ?_, same_two (sm.trans s4) hD, ?_⟩)
    · rw [List.length_map, List.length_map, List.length_take]
      exact len1000 (by omega)
    · rw [upd_same, take_snoc e, List.map_append, List.map_append]
      rfl
  · obtain ⟨sm, eD⟩ := q
    rw [setZ_len, List.take_length] at eD
    exact hq H' sm eD
end Bf

set_option Elab.async false
set_option linter.all false
set_option maxRecDepth 100000
set_option maxHeartbeats 4000000
namespace Bf
open PySem PySem.Spec PyProof.Rows L2
/-! ### len(set(numbers)) -/
def rLenSetO (w : World) : List V → Hp → VK → Prop := fun vs H Q => ∃ (a : Addr) (S : Int → Bool) (n : Nat), vs = [.ref a] ∧ H a = some (SetO w a S n) ∧ ∀ ks : List Int, ks.Nodup → (∀ k, k ∈ ks ↔ S k = true) → ks.length = n → Q (.int (n : Int)) H
theorem cr_lenSetO {X : Cx} (hc : X.calm = true) : CallR X (.builtin "len") (rLenSetO X.w) := by
  intro pins s σ H vs us Q I r h
  obtain ⟨a, S, n, rfl, ha, q⟩ := h
  rw [Vals.ref1 r]
  obtain ⟨o, es, ep, t, ho, hx, hd, g, nd, hm, hb, hf, hn, _⟩ := setO_get I ha
  have hsz : (es.size : Int) < 2 ^ 63 := by
    have : scanBound < 2 ^ 62 := by unfold scanBound; decide
    omega
  refine call_len_set ho hx hd hf hsz ⟨.int (n : Int), H, I.tok _, ⟨_, by rw [hn]⟩, q (es.toList.map keyOf) nd (fun k => (hm k).symm) (by rw [List.length_map, Array.length_toList, hn])⟩
theorem nodup_len : ∀ (xs ks : List Int), ks.Nodup → (∀ k, k ∈ ks ↔ k ∈ xs) → ks.length ≤ xs.length ∧ (ks.length = xs.length → xs.Nodup)
  | [], ks, _, hm => by
    have : ks = [] := List.eq_nil_iff_forall_not_mem.mpr fun k hk => by have := (hm k).mp hk; cases this
    subst this
    exact ⟨Nat.le_refl _, fun _ => .nil⟩
  | a :: r, ks, nd, hm => by
    by_cases ha : a ∈ r
    · obtain ⟨h1, h2⟩ := nodup_len r ks nd fun k => by rw [hm k, List.mem_cons]; exact ⟨fun h => h.elim (fun e => e ▸ ha) id, .inr⟩
      refine ⟨by rw [List.length_cons]; omega, fun e => ?_⟩
      rw [List.length_cons] at e
      omega
    · have hak : a ∈ ks := (hm a).mpr (by simp)
      obtain ⟨h1, h2⟩ := nodup_len r (ks.erase a) (nd.erase a) fun k => by
        rw [nd.mem_erase_iff, hm k, List.mem_cons]
        constructor
        · rintro ⟨h0, h | h⟩
          · exact absurd h h0
          · exact h
        · intro h
          exact ⟨fun e => ha (e ▸ h), .inr h⟩
      have hl := List.length_erase_of_mem hak
      have h0 : 1 ≤ ks.length := List.length_pos_of_mem hak
      refine ⟨by rw [List.length_cons]; omega, fun e => List.nodup_cons.mpr ⟨ha, h2 ?_⟩⟩
      rw [List.length_cons] at e
      omega
theorem nodup_iff_len {xs ks : List Int} (nd : ks.Nodup) (hm : ∀ k, k ∈ ks ↔ k ∈ xs) : ks.length = xs.length ↔ xs.Nodup := by
  refine ⟨(nodup_len xs ks nd hm).2, fun h => ?_⟩
  have h1 := (nodup_len xs ks nd hm).1
  have h2 := (nodup_len ks xs h fun k => (hm k).symm).1
  omega
end Bf

set_option Elab.async false
set_option linter.all false
set_option maxRecDepth 100000
set_option maxHeartbeats 4000000
namespace Bf
open PySem PySem.Spec PyProof.Rows L2
/-! ### tuple * int, any number of times -/
theorem tuple_mul1 (l : Addr) (items : Array Value) (n : Nat) (dd : Option Addr) (sl : Array (Option Value)) (u : Tok) (hne : items.isEmpty = false) :
    Meets (Builtin.«tuple.__mul__» ⟨[.ref l, .int 1 u], []⟩) (fun _ R s => s.heap.get? l = some { cls := .type "tuple", dict := dd, data := .seq items n, slots := sl } ∧ R (.ok (.ret (Value.ref l))) s) :=
  .of_wp fun prog w A R s h => by
    obtain ⟨hp, g, d, tk, os⟩ := s
    obtain ⟨hl, h⟩ := h
    have f1 := AutoSeq1.idx_int
    have c1 : (items.isEmpty || (1 : Int) == 1) = true := by rw [hne]; rfl
    wp_walk using wpAny_loadPart' hl
    repeat (first
      | (refine wpAny_ite_false (by decide) ?_; wp_walk using wpAny_loadPart' hl)
      | (refine wpAny_ite_true (by simp) ?_; wp_walk using wpAny_loadPart' hl))
    exact ⟨_, rfl, h⟩
theorem tuple_mul0 (l : Addr) (items : Array Value) (n : Nat) (dd : Option Addr) (sl : Array (Option Value)) (u : Tok) (hne : items.isEmpty = false) :
    Meets (Builtin.«tuple.__mul__» ⟨[.ref l, .int 0 u], []⟩) (fun _ R s => s.heap.get? l = some { cls := .type "tuple", dict := dd, data := .seq items n, slots := sl } ∧
      R (.ok (.ret (Value.ref s.heap.objs.size))) { s with heap := s.heap.push { cls := Value.type "tuple", data := Data.seq #[] }, toks := s.toks }) :=
  .of_wp fun prog w A R s h => by
    obtain ⟨hp, g, d, tk, os⟩ := s
    obtain ⟨hl, h⟩ := h
    have f1 := AutoSeq1.idx_int
    have c1 : (items.isEmpty || (0 : Int) == 1) = false := by rw [hne]; rfl
    wp_walk using wpAny_loadPart' hl
    repeat (first
      | (refine wpAny_ite_false (decide_eq_false (by rw [c1]; exact Bool.false_ne_true)) ?_; wp_walk using wpAny_loadPart' hl)
      | (refine wpAny_ite_false (by decide) ?_; wp_walk using wpAny_loadPart' hl)
      | (refine wpAny_ite_true (by simp) ?_; wp_walk using wpAny_loadPart' hl))
    exact ⟨_, rfl, h⟩
def rRepTA (K : PySem.W.Frag) : R2 := fun x y H Q => ∃ (l : Addr) (k : Nat) (xs : List V), x = .ref l ∧ y = .int (k : Int) ∧ H l = some (.tup xs) ∧ xs ≠ [] ∧ k ≤ 1000 ∧ xs.length ≤ 1000 ∧ ∀ (t : Addr) (H' : Hp), Same H H' → H' t = some (.tup (List.replicate k xs).flatten) → Q (.ref t) H'
section
variable {X : Cx}
theorem op_repTA : OpR X (binaryOp .Mult) (rRepTA X.K) := by
  intro pins s σ H x y v u Q I rx ry h
  obtain ⟨l, k, xs, rfl, rfl, hT, hne, hk, hz, q⟩ := h
  by_cases h2 : 2 ≤ k
  · exact op_repT pins s σ H _ _ v u Q I rx ry ⟨l, (k : Int), xs, rfl, rfl, SqT.of hT, hne, by omega, by omega, hz, fun p hp => by
      have e : ((k : Int)).toNat = k := by omega
      rw [e]
      exact q p _ (fun b o z => by rw [upd_ne (ne_of_none z hp)]; exact z) upd_same⟩
  cases rx
  obtain ⟨t, rfl⟩ := ry
  obtain ⟨its, r, ⟨⟨cls, dd, data, sl⟩, ho, hc, n, hd⟩, hs⟩ := I.tuple (SqT.of hT)
  simp only at hc hd
  subst hc hd
  have hle : its.length = xs.length := r.length.symm
  have hn : its ≠ [] := fun e => hne (by
    rw [e] at hle
    exact List.eq_nil_of_length_eq_zero hle.symm)
  have hi : its.toArray.isEmpty = false := by
    cases its with
    | nil => exact absurd rfl hn
    | cons a b => rfl
  have hk2 : k = 0 ∨ k = 1 := by omega
  rcases hk2 with rfl | rfl
  · refine wpAny_binaryOp_repeat_ref (T := "tuple") (U := "int") (by decide) ⟨_, ho, rfl⟩ (fun s' => typeIs_int s' 0 t) noFill_tuple_mul F.fills_int_mul F.slot_int_rmul repeat_tuple F.slot_int_index.lookup
      (call_meets F.slot_int_rmul (typeIs_int s 0 t) F.entry_int_rmul (F.args_int_rmul_2 _ _) (int_rmul_tuple 0 t l its.toArray n dd sl)
        ⟨ho, rfl, ⟨_, ho, rfl⟩, call_meets F.slot_tuple_mul ⟨_, ho, rfl⟩ F.entry_tuple_mul (F.args_tuple_mul_2 _ _) (tuple_mul0 l its.toArray n dd sl t hi) ⟨ho, ?_⟩⟩)
    have hf := I.hok.fresh (Nat.le_refl _)
    refine ⟨.ref s.heap.objs.size, _, I.laid (t' := s.toks) (o := .tup []) (fun b ob q => Heap.get?_push_of_some _ q) (Nat.le_refl _) ⟨Nat.zero_le _, [], .nil, IsTup.new _ _⟩, rfl, q _ _ (fun b o z => by rw [upd_ne (ne_of_none z hf)]; exact z) upd_same⟩
  · refine wpAny_binaryOp_repeat_ref (T := "tuple") (U := "int") (by decide) ⟨_, ho, rfl⟩ (fun s' => typeIs_int s' 1 t) noFill_tuple_mul F.fills_int_mul F.slot_int_rmul repeat_tuple F.slot_int_index.lookup
      (call_meets F.slot_int_rmul (typeIs_int s 1 t) F.entry_int_rmul (F.args_int_rmul_2 _ _) (int_rmul_tuple 1 t l its.toArray n dd sl)
        ⟨ho, rfl, ⟨_, ho, rfl⟩, call_meets F.slot_tuple_mul ⟨_, ho, rfl⟩ F.entry_tuple_mul (F.args_tuple_mul_2 _ _) (tuple_mul1 l its.toArray n dd sl t hi) ⟨ho, ?_⟩⟩)
    refine ⟨.ref l, H, I, rfl, q l H (.refl _) ?_⟩
    rw [show List.replicate 1 xs = [xs] from rfl, List.flatten_singleton]
    exact hT
end
end Bf

set_option Elab.async false
set_option linter.all false
set_option maxRecDepth 100000
set_option maxHeartbeats 4000000
namespace Bf
open PySem PySem.Spec PyProof.Rows L2
/-! ### sorted of a list of data that are alike, any number of them -/
theorem each_of {H : Hp} {β : Type} {enc : β → PyData} : ∀ {vs : List V} {its : List Value} {bs : List β}, Vals vs its → LayAll H vs (bs.map enc) → PySem.W.EachIs (fun (u : Value) (b : β) => ∃ x : V, RelV x u ∧ Lay H x (enc b)) its bs
  | [], its, [], r, _ => by cases r; exact .nil
  | v :: vs, its, b :: bs, r, .cons a l => by
    cases r with
    | cons ra rl => exact .cons ⟨v, ra, a⟩ (each_of rl l)
theorem each_back {H : Hp} {β : Type} {enc : β → PyData} : ∀ {its : List Value} {bs : List β}, PySem.W.EachIs (fun (u : Value) (b : β) => ∃ x : V, RelV x u ∧ Lay H x (enc b)) its bs → ∃ vs : List V, Vals vs its ∧ LayAll H vs (bs.map enc)
  | _, _, .nil => ⟨[], .nil, .nil⟩
  | _, _, .cons ⟨x, r, l⟩ t => by
    obtain ⟨vs, r2, l2⟩ := each_back t
    exact ⟨x :: vs, .cons r r2, .cons l l2⟩
def rSortedD (K : PySem.W.Frag) : List V → Hp → VK → Prop := fun xs H Q => ∃ (β : Type) (a : Addr) (vs : List V) (bs : List β) (enc : β → PyData), xs = [V.ref a] ∧ SqL K H a vs ∧ LayAll H vs (bs.map enc) ∧ PySem.W.AllAlike (bs.map enc) ∧ PySem.W.Sortable (bs.map enc) ∧ (∀ b ∈ bs, (enc b).depth ≤ 32) ∧
  ∀ us p, LayAll H us ((bs.mergeSort (PySem.W.dataLe false enc)).map enc) → H p = none → Q (.ref p) (upd H p (.lst us))
section
variable {X : Cx}
theorem cr_sortedD (hu : X.A.units + 64 < cLine) : CallR X (.builtin "sorted") (rSortedD X.K) := by
  intro pins s σ H vs us Q I r h
  obtain ⟨β, a, xs, bs, enc, rfl, hs, hl, hal, hk, hd, q⟩ := h
  obtain ⟨its, rv, hpl, hz⟩ := I.list hs
  obtain ⟨u, rfl, ru⟩ := vals1 r
  obtain rfl : u = Value.ref a := ru
  have e := each_of rv hl
  have hlen : xs.length = bs.length := by simpa using hl.len
  refine PySem.W.sorted_data (R := fun (u : Value) (b : β) => ∃ x : V, RelV x u ∧ Lay H x (enc b)) hpl.isList e (e.mono fun u b ⟨x, rx, lx⟩ => Dp.reads I _ _ _ lx.dp' rx) hal hk (by omega) (fun b hb => by have := hd b hb; omega) fun out hol ho => ?_
  obtain ⟨ys, ry, ly⟩ := each_back ho
  obtain ⟨n, hn⟩ := sortedAll_at s.heap its (List.toArray out)
  have hyl : ys.length ≤ sizeLine := by
    have e1 : ys.length = out.length := ry.length
    omega
  refine ⟨.ref (s.heap.objs.size + 1), upd H (s.heap.objs.size + 1) (.lst ys), I.laid (t' := s.toks) (fun b o e => sortedAll_old e) (Nat.le_succ _) ⟨hyl, out, n, ry, hn⟩, rfl, q _ _ ly (I.hok.fresh (Nat.le_succ _))⟩
end
/-- what was sorted is the same, in an order -/
theorem sortD_perm {β : Type} (enc : β → PyData) (bs : List β) : (bs.mergeSort (PySem.W.dataLe false enc)).Perm bs := List.mergeSort_perm _ _
end Bf

set_option Elab.async false
set_option linter.all false
set_option maxRecDepth 100000
set_option maxHeartbeats 4000000
namespace Bf
open PySem PySem.Spec PyProof.Rows L2
section
variable {X : Cx}
/-- sorted(d), d a dict with int keys, of any length -/
theorem cr_sortedKeysI (hcalm : X.calm = true) : CallR X (.builtin "sorted") (fun xs H Q => ∃ (a : Addr) (kvs : List (Key × V)) (ks : List Int), xs = [.ref a] ∧ Rd H a (.dK kvs) ∧ kvs.map (·.1) = ks.map Sum.inl ∧
    ∀ (ys : List Int) (p : Addr), ys.Perm ks → ys.Pairwise (· ≤ ·) → H p = none → Q (.ref p) (upd H p (.lst (ys.map V.int)))) := by
  intro pins s σ H xs us Q I r q
  obtain ⟨a, kvs, ks, ex, hd, hks, q⟩ := q
  subst ex
  obtain ⟨u, eu, rx⟩ := vals1 r
  subst eu
  cases rx
  obtain ⟨z, lo, vs, rel, dd⟩ := dk_rd I.hok hd
  obtain ⟨ep, hat⟩ := dd.dictAt
  have hkeys : vs.map (·.1) = ks.map Sum.inl := rel.keys.symm.trans hks
  have hl : vs.length = ks.length := by
    have e := congrArg List.length hkeys
    rw [List.length_map, List.length_map] at e
    exact e
  have h16 : vs.length ≤ sizeLine := by
    rw [← Paired.length rel]
    exact z
  refine Calls.call_function_entry PyProof.Rows.kind_sorted PyProof.Rows.plain_sorted PyProof.Rows.entry_sorted (PyProof.Rows.args_sorted1 _) ?_
  unfold Builtin.«sorted»
  refine wpAny_bind (m := checkCount "sorted" 1 1 _) (wpAny_pure ?_)
  refine wpAny_bind (PySem.W.kdu_collect (A := X.A.in1) (PySem.W.kdl_dict (knd := mixKind X.prog X.w) (kvs := vs) (ep := ep) lo) (I.ok.hd hcalm) hat h16 fun h' tk acc hk hacc => ?_)
  have hal : acc.toList.length = ks.length := by rw [Array.length_toList, hacc.1, hl]
  have hS : IntsAre acc.toList ks := ints_each hal fun j v e => by
    obtain ⟨k, x, e1, e2⟩ := hacc.2 j v (by rw [← Array.getElem?_toList]; exact e)
    have e3 : (vs.map (·.1))[j]? = some k := by rw [List.getElem?_map, e1]; rfl
    rw [hkeys, List.getElem?_map] at e3
    cases e4 : ks[j]? with
    | none => rw [e4] at e3; cases e3
    | some y =>
      rw [e4] at e3
      have e5 : Sum.inl y = k := Option.some.inj e3
      subst e5
      rcases keyIs_shape (show keyIs (Sum.inl y) v = true from e2) with ⟨i, t, ek, ev⟩ | ⟨z, t, ek, ev⟩
      · cases ek
        exact ⟨y, t, rfl, ev⟩
      · cases ek
  have I1 : Inv X pins σ H { s with heap := h', toks := tk } := I.kept hk
  have hal2 : acc.toList.length ≤ sizeLine := by rw [hal, ← hl]; exact h16
  refine wpAny_bind (wpAny_newList ?_ (by rw [hal, ← hl]; exact h16))
  have hoL : (h'.push (seqObj "list" acc.toList.toArray 0)).get? h'.objs.size = some (seqObj "list" acc.toList.toArray 0) := Heap.get?_push_size _ rfl
  show wpAny _ _ _ _ _ { s with heap := h'.push (seqObj "list" acc.toList.toArray 0), toks := tk }
  refine wpAny_bind (wpAny_holding (wpAny_call_entry PyProof.Rows.slot_list_sort ⟨_, hoL, rfl⟩ PyProof.Rows.entry_list_sort
    (SrtO.list_sort_ord (s := { s with heap := h'.push (seqObj "list" acc.toList.toArray 0), toks := tk }) SrtO.swo_int hoL hal2 (fun h2 => SrtO.ints_sortable hS h2) fun out h1 h2 => ⟨_, rfl, ?_⟩) (PyProof.Rows.args_list_sort _)))
  obtain ⟨g1, g2, g3⟩ := SrtO.ints_out hS h1 h2
  obtain ⟨e', he'⟩ := PyProof.Rows.sortedHeap_at (vs := acc.toList) (out := out.toArray) hoL
  have hlen : ((out.map SrtO.iv).map V.int).length ≤ sizeLine := by
    rw [List.length_map, g2.length_eq, ← hl]
    exact h16
  refine wpAny_pure ⟨_, rfl, .ref h'.objs.size, upd H h'.objs.size (.lst ((out.map SrtO.iv).map V.int)), I1.laid (t' := tk) (fun b u e => ?_) (Nat.le_refl _)
    (show ObjOk X.prog X.w _ _ _ (.lst ((out.map SrtO.iv).map V.int)) from ⟨hlen, out, e', vals_of_ints g1, he'⟩), rfl, q _ _ g2 g3 (I1.hok.fresh (Nat.le_refl _))⟩
  have hb : b < h'.objs.size := Heap.lt_size e
  rw [PyProof.Rows.sortedHeap_old (Nat.ne_of_lt hb) (by rw [size_push']; exact Nat.lt_succ_of_lt hb)]
  exact Heap.get?_push_of_some _ e
end
/-- two ascending lists of the same numbers are one -/
theorem sorted_same {xs ys : List Int} (hx : xs.Pairwise (· ≤ ·)) (hy : ys.Pairwise (· ≤ ·)) (h : xs.Perm ys) : xs = ys :=
  h.eq_of_pairwise (fun a b _ _ h1 h2 => Int.le_antisymm h1 h2) hx hy
end Bf

set_option Elab.async false
set_option linter.all false
set_option maxRecDepth 100000
set_option maxHeartbeats 4000000
namespace Bf
open PySem PySem.Spec PyProof.Rows L2
def topS (i : Nat) : Stmt := PySem.Challenge.pw_beatfabric_k64_level_bars_judged.main.body.getD i (.Pass ⟨0, 0, 0, 0⟩)
abbrev s_first_and : Stmt := topS 1
abbrev s_operand_nodes : Stmt := topS 2
abbrev s_is_path : Stmt := topS 4
abbrev s_are_apart : Stmt := topS 5
abbrev s_is_part : Stmt := topS 6
abbrev s_judge_level_bars : Stmt := topS 7
abbrev s_law_begin : Stmt := topS 9
abbrev s_law_draw : Stmt := topS 10
abbrev s_law_pick : Stmt := topS 11
abbrev s_law_pop : Stmt := topS 12
abbrev s_law_rare : Stmt := topS 13
abbrev s_law_shuffled : Stmt := topS 14
abbrev s_law_pool : Stmt := topS 15
abbrev s_law_lit : Stmt := topS 16
abbrev s_law_drawn_literal : Stmt := topS 17
abbrev s_law_net : Stmt := topS 18
abbrev s_law_tidied : Stmt := topS 19
abbrev s_law_closed_up : Stmt := topS 20
abbrev s_law_first : Stmt := topS 21
abbrev s_law_says : Stmt := topS 22
abbrev s_law_woven : Stmt := topS 23
abbrev s_law_some_net : Stmt := topS 24
abbrev s_law_is_path : Stmt := topS 25
abbrev s_law_part_fits : Stmt := topS 26
abbrev s_law_bars_fit : Stmt := topS 27
abbrev s_law_way_down : Stmt := topS 28
abbrev s_law_found_part : Stmt := topS 29
abbrev s_law_made_bars : Stmt := topS 30
abbrev s_law_bent_path : Stmt := topS 31
abbrev s_law_bent_part : Stmt := topS 32
abbrev s_law_bent_bars : Stmt := topS 33
abbrev s_law : Stmt := topS 34
theorem sc_first_and : FnScope ["net"] ["net"] (defScope s_first_and) := ⟨rfl, rfl, rfl, by decide +kernel, rfl, by decide +kernel, by decide +kernel⟩
theorem sc_operand_nodes : FnScope ["net", "node", "first", "left", "right"] ["net", "node"] (defScope s_operand_nodes) := ⟨rfl, rfl, rfl, by decide +kernel, rfl, by decide +kernel, by decide +kernel⟩
theorem sc_is_path : FnScope ["net", "node", "path", "low", "high"] ["net", "node", "path"] (defScope s_is_path) := ⟨rfl, rfl, rfl, by decide +kernel, rfl, by decide +kernel, by decide +kernel⟩
theorem sc_are_apart : FnScope ["rows", "paths", "bound", "met", "path", "node"] ["rows", "paths", "bound"] (defScope s_are_apart) := ⟨rfl, rfl, rfl, by decide +kernel, rfl, by decide +kernel, by decide +kernel⟩
theorem sc_is_part : FnScope ["net", "k", "rows", "node", "part", "path"] ["net", "k", "rows", "node", "part"] (defScope s_is_part) := ⟨rfl, rfl, rfl, by decide +kernel, rfl, by decide +kernel, by decide +kernel⟩
theorem sc_judge_level_bars : FnScope ["net", "k", "levels", "bars", "rows", "at", "part", "level"] ["net", "k", "levels", "bars"] (defScope s_judge_level_bars) := ⟨rfl, rfl, rfl, by decide +kernel, rfl, by decide +kernel, by decide +kernel⟩
theorem sc_law_begin : FnScope ["_law_script", "_law_cell"] ["_law_script"] (defScope s_law_begin) := ⟨rfl, rfl, rfl, by decide +kernel, rfl, by decide +kernel, by decide +kernel⟩
theorem sc_law_draw : FnScope ["_law_d", "_law_many", "_law_found", "_law_size", "_law_cell"] ["_law_d", "_law_many"] (defScope s_law_draw) := ⟨rfl, rfl, rfl, by decide +kernel, rfl, by decide +kernel, by decide +kernel⟩
theorem sc_law_pick : FnScope ["_law_d", "_law_row"] ["_law_d", "_law_row"] (defScope s_law_pick) := ⟨rfl, rfl, rfl, by decide +kernel, rfl, by decide +kernel, by decide +kernel⟩
theorem sc_law_pop : FnScope ["_law_d", "_law_row"] ["_law_d", "_law_row"] (defScope s_law_pop) := ⟨rfl, rfl, rfl, by decide +kernel, rfl, by decide +kernel, by decide +kernel⟩
theorem sc_law_rare : FnScope ["_law_d", "_law_many"] ["_law_d", "_law_many"] (defScope s_law_rare) := ⟨rfl, rfl, rfl, by decide +kernel, rfl, by decide +kernel, by decide +kernel⟩
theorem sc_law_shuffled : FnScope ["_law_d", "_law_row", "_law_left", "_law_found", "_law_k"] ["_law_d", "_law_row"] (defScope s_law_shuffled) := ⟨rfl, rfl, rfl, by decide +kernel, rfl, by decide +kernel, by decide +kernel⟩
theorem sc_law_pool : FnScope ["_law_text"] [] (defScope s_law_pool) := ⟨rfl, rfl, rfl, by decide +kernel, rfl, by decide +kernel, by decide +kernel⟩
theorem sc_law_lit : FnScope ["_law_bits", "_law_literal"] ["_law_bits", "_law_literal"] (defScope s_law_lit) := ⟨rfl, rfl, rfl, by decide +kernel, rfl, by decide +kernel, by decide +kernel⟩
theorem sc_law_drawn_literal : FnScope ["_law_d", "_law_size", "_law_node"] ["_law_d", "_law_size"] (defScope s_law_drawn_literal) := ⟨rfl, rfl, rfl, by decide +kernel, rfl, by decide +kernel, by decide +kernel⟩
theorem sc_law_net : FnScope ["_law_d", "_law_inputs", "_law_regs", "_law_ands", "_law_outputs", "_law_claims", "_law_names", "_law_first_here", "_law_pairs", "_law_size", "_law_given", "_law_rows", "_law_shown", "_law_asked", "_law_k"] ["_law_d", "_law_inputs", "_law_regs", "_law_ands", "_law_outputs", "_law_claims"] (defScope s_law_net) := ⟨rfl, rfl, rfl, by decide +kernel, rfl, by decide +kernel, by decide +kernel⟩
theorem sc_law_tidied : FnScope ["_law_net_here", "_law_first_here", "_law_news", "_law_pairs", "_law_known", "_law_left", "_law_right", "_law_low", "_law_high", "_law_rows", "_law_shown", "_law_asked", "_law_node", "_law_row"] ["_law_net_here"] (defScope s_law_tidied) := ⟨rfl, rfl, rfl, by decide +kernel, rfl, by decide +kernel, by decide +kernel⟩
theorem sc_law_closed_up : FnScope ["_law_given", "_law_rows", "_law_pairs", "_law_shown", "_law_asked", "_law_first_here", "_law_needed", "_law_literal", "_law_k", "_law_news", "_law_kept", "_law_node", "_law_row"] ["_law_given", "_law_rows", "_law_pairs", "_law_shown", "_law_asked"] (defScope s_law_closed_up) := ⟨rfl, rfl, rfl, by decide +kernel, rfl, by decide +kernel, by decide +kernel⟩
theorem sc_law_first : FnScope ["_law_net_here"] ["_law_net_here"] (defScope s_law_first) := ⟨rfl, rfl, rfl, by decide +kernel, rfl, by decide +kernel, by decide +kernel⟩
theorem sc_law_says : FnScope ["_law_told", "_law_due"] ["_law_told", "_law_due"] (defScope s_law_says) := ⟨rfl, rfl, rfl, by decide +kernel, rfl, by decide +kernel, by decide +kernel⟩
theorem sc_law_woven : FnScope ["_law_d", "_law_inputs", "_law_regs", "_law_strands", "_law_steps", "_law_first_here", "_law_nodes", "_law_k", "_law_line", "_law_pairs", "_law_at", "_law_other", "_law_right", "_law_names", "_law_size", "_law_given", "_law_rows", "_law_shown", "_law_asked"] ["_law_d", "_law_inputs", "_law_regs", "_law_strands", "_law_steps"] (defScope s_law_woven) := ⟨rfl, rfl, rfl, by decide +kernel, rfl, by decide +kernel, by decide +kernel⟩
theorem sc_law_some_net : FnScope ["_law_d", "_law_least", "_law_k", "_law_most", "_law_inputs", "_law_regs", "_law_strands", "_law_net_here", "_law_top"] ["_law_d", "_law_least", "_law_k", "_law_most"] (defScope s_law_some_net) := ⟨rfl, rfl, rfl, by decide +kernel, rfl, by decide +kernel, by decide +kernel⟩
theorem sc_law_is_path : FnScope ["_law_net_here", "_law_path", "_law_node", "_law_first_here", "_law_one", "_law_other", "_law_literal"] ["_law_net_here", "_law_path", "_law_node"] (defScope s_law_is_path) := ⟨rfl, rfl, rfl, by decide +kernel, rfl, by decide +kernel, by decide +kernel⟩
theorem sc_law_part_fits : FnScope ["_law_net_here", "_law_k", "_law_told", "_law_node", "_law_paths", "_law_path", "_law_low", "_law_at"] ["_law_net_here", "_law_k", "_law_told", "_law_node", "_law_paths"] (defScope s_law_part_fits) := ⟨rfl, rfl, rfl, by decide +kernel, rfl, by decide +kernel, by decide +kernel⟩
theorem sc_law_bars_fit : FnScope ["_law_net_here", "_law_k", "_law_told", "_law_parts", "_law_first_here", "_law_known", "_law_at", "_law_level"] ["_law_net_here", "_law_k", "_law_told", "_law_parts"] (defScope s_law_bars_fit) := ⟨rfl, rfl, rfl, by decide +kernel, rfl, by decide +kernel, by decide +kernel⟩
theorem sc_law_way_down : FnScope ["_law_d", "_law_net_here", "_law_told", "_law_node", "_law_most", "_law_used", "_law_first_here", "_law_came", "_law_waiting", "_law_turn", "_law_at", "_law_path", "_law_literal", "_law_side"] ["_law_d", "_law_net_here", "_law_told", "_law_node", "_law_most", "_law_used"] (defScope s_law_way_down) := ⟨rfl, rfl, rfl, by decide +kernel, rfl, by decide +kernel, by decide +kernel⟩
theorem sc_law_found_part : FnScope ["_law_d", "_law_net_here", "_law_k", "_law_told", "_law_node", "_law_level", "_law_used", "_law_paths", "_law_turn", "_law_path", "_law_at"] ["_law_d", "_law_net_here", "_law_k", "_law_told", "_law_node", "_law_level"] (defScope s_law_found_part) := ⟨rfl, rfl, rfl, by decide +kernel, rfl, by decide +kernel, by decide +kernel⟩
theorem sc_law_made_bars : FnScope ["_law_d", "_law_net_here", "_law_k", "_law_first_here", "_law_told", "_law_parts", "_law_left", "_law_right", "_law_node", "_law_top", "_law_part", "_law_level", "_law_high", "_law_literal", "_law_path"] ["_law_d", "_law_net_here", "_law_k"] (defScope s_law_made_bars) := ⟨rfl, rfl, rfl, by decide +kernel, rfl, by decide +kernel, by decide +kernel⟩
theorem sc_law_bent_path : FnScope ["_law_d", "_law_net_here", "_law_path", "_law_found", "_law_turn", "_law_at", "_law_size", "_law_odd"] ["_law_d", "_law_net_here", "_law_path"] (defScope s_law_bent_path) := ⟨rfl, rfl, rfl, by decide +kernel, rfl, by decide +kernel, by decide +kernel⟩
theorem sc_law_bent_part : FnScope ["_law_d", "_law_net_here", "_law_part", "_law_turn", "_law_at", "_law_other"] ["_law_d", "_law_net_here", "_law_part"] (defScope s_law_bent_part) := ⟨rfl, rfl, rfl, by decide +kernel, rfl, by decide +kernel, by decide +kernel⟩
theorem sc_law_bent_bars : FnScope ["_law_d", "_law_net_here", "_law_told", "_law_parts", "_law_turn", "_law_more", "_law_at", "_law_level", "_law_other", "_law_rich", "_law_k"] ["_law_d", "_law_net_here", "_law_told", "_law_parts"] (defScope s_law_bent_bars) := ⟨rfl, rfl, rfl, by decide +kernel, rfl, by decide +kernel, by decide +kernel⟩
theorem sc_law : FnScope ["_law_script", "_law_d", "_law_k", "_law_net_here", "_law_told", "_law_parts", "_law_many", "_law_one", "_law_two", "_law_turn", "_law_few"] ["_law_script"] (defScope s_law) := ⟨rfl, rfl, rfl, by decide +kernel, rfl, by decide +kernel, by decide +kernel⟩
structure Txt (mg : Str → Option Value) : Prop where
  n_int : mg "int" = none
  n_len : mg "len" = none
  n_abs : mg "abs" = none
  n_isinstance : mg "isinstance" = none
  n_range : mg "range" = none
  n_tuple : mg "tuple" = none
  n_all : mg "all" = none
  n_list : mg "list" = none
  n_max : mg "max" = none
  n_min : mg "min" = none
  n_sorted : mg "sorted" = none
  n_set : mg "set" = none
  n_reversed : mg "reversed" = none
  n_bool : mg "bool" = none
  n_zip : mg "zip" = none
  n_enumerate : mg "enumerate" = none
/-! ### the draws -/
/-- what stood elsewhere stands -/
def Keep (S : List Addr) (H H' : Hp) : Prop := ∀ b o, b ∉ S → H b = some o → H' b = some o
theorem Keep.refl (S : List Addr) (H : Hp) : Keep S H H := fun _ _ _ h => h
theorem Keep.trans {S : List Addr} {H H1 H2 : Hp} (a : Keep S H H1) (b : Keep S H1 H2) : Keep S H H2 := fun c o n h => b c o n (a c o n h)
theorem Keep.of_same {S : List Addr} {H H1 : Hp} (a : Same H H1) : Keep S H H1 := fun c o _ h => a c o h
theorem Keep.wide {S S' : List Addr} {H H1 : Hp} (a : Keep S H H1) (h : ∀ b, b ∈ S → b ∈ S') : Keep S' H H1 := fun c o n e => a c o (fun q => n (h c q)) e
theorem Keep.upd {S : List Addr} {H : Hp} {a : Addr} {o : HO} (h : a ∈ S) : Keep S H (upd H a o) := fun b u n e => by
  rw [upd_ne (fun q => n (by rw [q]; exact h))]
  exact e
theorem Keep.new {S : List Addr} {H : Hp} {a : Addr} {o : HO} (h : H a = none) : Keep S H (L2.upd H a o) := fun b u n e => by
  rw [upd_ne (ne_of_none e h)]
  exact e
/-- the state of the draws -/
def DS (H : Hp) (a c : Addr) : Prop := ∃ (at_ left st : Int) (cells : List Int), H a = some (.lst [.ref c, .int at_, .int left, .int st, .int 3]) ∧ 0 ≤ at_ ∧ H c = some (.lst (cells.map V.int))
theorem DS.ne {H : Hp} {a c : Addr} {x : V} {xs : List V} {cells : List Int} (h : H a = some (.lst (.ref c :: xs))) (hc : H c = some (.lst (cells.map V.int))) : c ≠ a := by
  intro e
  rw [e, h] at hc
  have q := HO.lst.inj (Option.some.inj hc)
  cases cells with
  | nil => cases q
  | cons x r => cases (List.cons.inj q).1
theorem DS.keep {S : List Addr} {H H' : Hp} {a c : Addr} (h : DS H a c) (k : Keep S H H') (ha : a ∉ S) (hc : c ∉ S) : DS H' a c := by
  obtain ⟨at_, left, st, cells, h1, h2, h3⟩ := h
  exact ⟨at_, left, st, cells, k _ _ ha h1, h2, k _ _ hc h3⟩
theorem DS.same {H H' : Hp} {a c : Addr} (h : DS H a c) (k : Same H H') : DS H' a c := h.keep (S := []) (Keep.of_same k) (by simp) (by simp)
theorem DS.new {H : Hp} {a c l : Addr} (h : DS H a c) (hl : H l = none) : l ≠ a ∧ l ≠ c := by
  obtain ⟨at_, left, st, cells, h1, h2, h3⟩ := h
  exact ⟨(ne_of_none h1 hl).symm, (ne_of_none h3 hl).symm⟩
theorem pow6000 : (0 : Int) < 1 * 2 ^ (6000 : Int).toNat := by
  rw [Int.one_mul]
  exact Int.pow_pos (by decide)
def spDraw : Sp := fun vs H Q _ => ∃ (a c : Addr) (m : Int), vs = [.ref a, .int m] ∧ DS H a c ∧ 1 ≤ m ∧ m < 1073741824 ∧ ∀ (r : Int) (H' : Hp), 0 ≤ r → r < m → DS H' a c → Keep [a] H H' → Q (.int r) H'
section
variable {P : Program} {w : World} {K : PySem.W.Frag} {mg : Str → Option Value} {base : Heap}
theorem ok_draw {f : Addr} {fd : FuncData} (F : Fun K "_law_draw" "_law_draw" s_law_draw f fd) (T : Txt mg) : FnOk P w K mg base CX0 1 f fd ["_law_d", "_law_many"] spDraw := by
  refine F.ok sc_law_draw (fun vs H Q E h => ?_) (fun cdv A outer s H vs Q E hr h => ?_)
  · obtain ⟨a, c, m, rfl, _⟩ := h
    rfl
  obtain ⟨a, c, m, rfl, ⟨at_, left, st, cells, ha, h0, hc⟩, m1, m2, q⟩ := h
  have hca : c ≠ a := DS.ne (x := .non) ha hc
  refine ⟨_, (pss_cons (ps_if (pt_cmpR op_gt (pe_ix ix_list (pv 0) pe_int (fun _ _ => rfl)) pe_int (nomark _)) (pss_cons (ps_set (i := 2) sc_law_draw.nd rfl (Or.inl rfl) (pe_ix ix_list (pv 0) pe_int (fun _ _ => rfl)))
      (pss_cons (ps_asg (pe_op op_fdiv (pv 2) (pv 1)) (pg_sub (pv 0) pe_int set_list))
      (pss_one (ps_ret (pe_op op_mod (pe_callTy call_int1 (by rfl) T.n_int (by decide +kernel) (pa_cons (pv 2) pa_nil)) (pv 1)))))) pss_nil)
      (pss_cons (ps_set (i := 3) sc_law_draw.nd rfl (Or.inl rfl) pe_int)
      (C8.pss_cut (ps_if (pt_cmpR op_lt (pe_ix ix_list (pv 0) pe_int (fun _ _ => rfl)) (pe_callB call_len_seq (by rfl) T.n_len (by decide +kernel) (pa_cons (pe_ix ix_list (pv 0) pe_int (fun _ _ => rfl)) pa_nil)) (nomark _)) (pss_cons (ps_set (i := 4) sc_law_draw.nd rfl (Or.inl rfl) (pe_ix ix_list (pe_ix ix_list (pv 0) pe_int (fun _ _ => rfl)) (pe_ix ix_list (pv 0) pe_int (fun _ _ => rfl)) (fun _ _ => rfl)))
      (pss_one (ps_set (i := 3) sc_law_draw.nd rfl (Or.inl rfl) (pe_op op_add (pe_op op_mul pe_int (pe_callB call_abs (by rfl) T.n_abs (by decide +kernel) (pa_cons (pv 4) pa_nil))) (pe_callTy call_int1 (by rfl) T.n_int (by decide +kernel) (pa_cons (pe_cmpR op_lt (pv 4) pe_int (nomark _)) pa_nil)))))) pss_nil)
      (C8.pss_cut (ps_augS (pv 0) pe_int get_list pe_int ip_add set_list)
      (pss_cons (ps_if (pt_cmpR op_ge (pv 3) (pe_op op_mul pe_int (pe_op op_pow pe_int pe_int)) (nomark _)) (pss_cons (ps_set (i := 2) sc_law_draw.nd rfl (Or.inl rfl) (pe_op op_mod (pe_callTy call_int1 (by rfl) T.n_int (by decide +kernel) (pa_cons (pe_op op_fdiv (pv 3) pe_int) pa_nil)) (pe_op op_shl pe_int pe_int)))
      (pss_cons (ps_asg (pe_op op_fdiv (pv 2) (pv 1)) (pg_sub (pv 0) pe_int set_list))
      (pss_one (ps_ret (pe_op op_mod (pe_callTy call_int1 (by rfl) T.n_int (by decide +kernel) (pa_cons (pv 2) pa_nil)) (pv 1)))))) pss_nil)
      (pss_cons (ps_asg (pe_op op_mod (pe_callTy call_int1 (by rfl) T.n_int (by decide +kernel) (pa_cons (pe_op op_add (pe_op op_add (pe_op op_add (pe_op op_mul (pe_ix ix_list (pv 0) pe_int (fun _ _ => rfl)) pe_int) (pe_op op_mul (pe_op op_mod (pe_callTy call_int1 (by rfl) T.n_int (by decide +kernel) (pa_cons (pv 3) pa_nil)) pe_int) pe_int)) (pe_op op_mul (pe_ix ix_list (pv 0) pe_int (fun _ _ => rfl)) pe_int)) pe_int) pa_nil)) pe_int) (pg_sub (pv 0) pe_int set_list))
      (pss_one (ps_ret (pe_op op_mod (pe_callTy call_int1 (by rfl) T.n_int (by decide +kernel) (pa_cons (pe_op op_fdiv (pe_ix ix_list (pv 0) pe_int (fun _ _ => rfl)) pe_int) pa_nil)) (pv 1)))))))))), ?_⟩
  refine ⟨_, rfl, a, _, _, _, rfl, rfl, SqL.of ha, atI_nat (j := 2) rfl, _, _, rfl, rfl, _, rfl, ?_⟩
  refine ite2 (fun e => ?_) (fun e => ?_)
  · refine ⟨_, rfl, a, _, _, _, rfl, rfl, SqL.of ha, atI_nat (j := 2) rfl, ?_⟩
    refine ⟨_, rfl, _, rfl, left, m, rfl, rfl, ⟨by omega, by omega⟩, _, rfl, a, _, 2, 2, rfl, rfl, ha, rfl, ?_⟩
    refine ⟨_, rfl, .inl ⟨_, rfl, _, rfl, _, _, rfl, rfl, (by omega), ?_⟩⟩
    exact q _ _ (Int.emod_nonneg _ (by omega)) (Int.emod_lt_of_pos _ (by omega)) ⟨at_, left / m, st, cells, upd_same, h0, by rw [upd_ne hca]; exact hc⟩ (Keep.upd (by simp))
  · refine ⟨fun σ' H' => ∃ (z : Int) (v4 : Option V), σ' = [some (.ref a), some (.int m), none, some (.int z), v4] ∧ H' = H, ?_, ?_⟩
    · refine ⟨_, rfl, a, _, _, _, rfl, rfl, SqL.of ha, atI_nat (j := 1) rfl, _, rfl, a, _, _, _, rfl, rfl, SqL.of ha, atI_nat (j := 0) rfl, c, _, rfl, .inl (SqL.of hc), _, _, rfl, rfl, _, rfl, ?_⟩
      refine ite2 (fun e1 => ?_) (fun e1 => ?_)
      · have e2 : at_ < ((cells.map V.int).length : Nat) := of_decide_eq_true e1
        rw [List.length_map] at e2
        have hk : at_.toNat < cells.length := by omega
        have ek : ((at_.toNat : Nat) : Int) = at_ := by omega
        have q1 : atI (cells.map V.int) ((at_.toNat : Nat) : Int) = some (.int cells[at_.toNat]) := atI_nat (by rw [List.getElem?_map, List.getElem?_eq_getElem hk] <;> rfl)
        rw [ek] at q1
        refine ⟨_, rfl, a, _, _, _, rfl, rfl, SqL.of ha, atI_nat (j := 0) rfl, _, rfl, a, _, _, _, rfl, rfl, SqL.of ha, atI_nat (j := 1) rfl, c, _, _, _, rfl, rfl, SqL.of hc, q1, ?_⟩
        refine ⟨_, rfl, _, rfl, _, _, rfl, rfl, .inl ⟨by decide, by decide⟩, _, rfl, _, _, rfl, rfl, .inr ⟨_, rfl, _, _, rfl, rfl, ?_⟩⟩
        exact ⟨_, _, rfl, rfl⟩
      · exact ⟨_, _, rfl, rfl⟩
    · rintro σ' H' ⟨z, v4, rfl, rfl⟩
      refine ⟨fun σ' H1 => σ' = [some (.ref a), some (.int m), none, some (.int z), v4] ∧ H1 a = some (.lst [.ref c, .int (at_ + 1), .int left, .int st, .int 3]) ∧ H1 c = some (.lst (cells.map V.int)) ∧ Keep [a] H' H1, ?_, ?_⟩
      · exact ⟨_, rfl, a, _, 1, .int at_, rfl, rfl, ha, atI_nat (j := 1) rfl, at_, 1, rfl, rfl, a, _, 1, 1, rfl, rfl, ha, rfl, rfl, upd_same, by rw [upd_ne hca]; exact hc, Keep.upd (by simp)⟩
      rintro σ' H1 ⟨rfl, h1, h2, k1⟩
      refine ⟨_, rfl, _, _, rfl, rfl, ⟨by decide, by decide, by decide⟩, _, _, rfl, rfl, .inl ⟨by decide, by decide⟩, _, _, rfl, rfl, _, rfl, ?_⟩
      refine ite2 (fun e3 => ?_) (fun e3 => ?_)
      · refine ⟨_, rfl, z, 2, rfl, rfl, ⟨by decide, by decide⟩, .inl ⟨_, rfl, 1, 6000, rfl, rfl, ⟨by decide, by decide, by decide⟩, _, _, rfl, rfl, pow6000, ?_⟩⟩
        refine ⟨_, rfl, _, rfl, _, m, rfl, rfl, ⟨by omega, by omega⟩, _, rfl, a, _, 2, 2, rfl, rfl, h1, rfl, ?_⟩
        refine ⟨_, rfl, .inl ⟨_, rfl, _, rfl, _, _, rfl, rfl, (by omega), ?_⟩⟩
        refine q _ _ (Int.emod_nonneg _ (by omega)) (Int.emod_lt_of_pos _ (by omega)) ⟨at_ + 1, _, st, cells, upd_same, by omega, by rw [upd_ne hca]; exact h2⟩ (k1.trans (Keep.upd (by simp)))
      · refine ⟨_, rfl, a, _, _, _, rfl, rfl, SqL.of h1, atI_nat (j := 3) rfl, _, _, rfl, rfl, .inr ⟨by decide, by decide⟩, ?_⟩
        refine ⟨_, rfl, .inl ⟨_, rfl, _, _, rfl, rfl, (by show (0 : Int) < 2147483629; decide), _, _, rfl, rfl, .inr ⟨by decide, by decide⟩, _, _, rfl, rfl, ?_⟩⟩
        refine ⟨_, rfl, a, _, _, _, rfl, rfl, SqL.of h1, atI_nat (j := 1) rfl, _, _, rfl, rfl, .inr ⟨by decide, by decide⟩, _, _, rfl, rfl, _, _, rfl, rfl, .inl ⟨_, rfl, _, _, rfl, rfl, (by show (0 : Int) < 2147483647; decide), ?_⟩⟩
        refine ⟨_, rfl, a, _, 3, 3, rfl, rfl, h1, rfl, ?_⟩
        refine ⟨_, rfl, a, _, _, _, rfl, rfl, SqL.of upd_same, atI_nat (j := 3) rfl, _, _, rfl, rfl, ⟨by decide, by decide⟩, .inl ⟨_, rfl, _, rfl, _, _, rfl, rfl, (by omega), ?_⟩⟩
        exact q _ _ (Int.emod_nonneg _ (by omega)) (Int.emod_lt_of_pos _ (by omega)) ⟨at_ + 1, left, _, cells, upd_same, by omega, by rw [upd_ne hca]; exact h2⟩ (k1.trans (Keep.upd (by simp)))
end

/-! ### the beginning of the draws; a draw out of a list; is it an int -/
theorem same_new {H : Hp} {p : Addr} (h : H p = none) (o : HO) : Same H (upd H p o) := fun b u q => by rw [upd_ne (ne_of_none q h)]; exact q
theorem intAt {xs : List Int} {i : Nat} {x : V} (h : (xs.map V.int)[i]? = some x) : ∃ k, xs[i]? = some k ∧ x = V.int k := by
  rw [List.getElem?_map] at h
  cases e : xs[i]? with
  | none => rw [e] at h; cases h
  | some k => rw [e] at h; exact ⟨k, rfl, (Option.some.inj h).symm⟩
def spBegin (K : PySem.W.Frag) : Sp := fun vs H Q _ => ∃ (a : Addr) (ns : List Int), vs = [.ref a] ∧ SqL K H a (ns.map V.int) ∧ ns.length ≤ 63 ∧ ∀ (d c : Addr) (H' : Hp), H d = none → H c = none → DS H' d c → Same H H' → Q (.ref d) H'
section
variable {P : Program} {w : World} {K : PySem.W.Frag} {mg : Str → Option Value} {base : Heap}
theorem ok_begin {f : Addr} {fd : FuncData} (F : Fun K "_law_begin" "_law_begin" s_law_begin f fd) (T : Txt mg) : FnOk P w K mg base CX0 1 f fd ["_law_script"] (spBegin K) := by
  refine F.ok sc_law_begin (fun vs H Q E h => ?_) (fun cdv A outer s H vs Q E hr h => ?_)
  · obtain ⟨a, ns, rfl, _⟩ := h
    rfl
  obtain ⟨a, ns, rfl, hS, h63, q⟩ := h
  refine ⟨_, (pss_one (ps_ret (pe_lst (pa_cons (pe_lc (own := [("_law_cell", 1)]) (g := (gName 1)) (tt := tYes) rfl sc_law_begin.nd (pi_list (pv 0)) (blkOk_by (N := ["_law_script", "_law_cell"]) (sc := defScope s_law_begin) (by decide +kernel)) (fun _ _ _ _ _ => (pg_name (i := 1) sc_law_begin.nd rfl (Or.inl rfl))) (fun _ _ _ _ _ => pts_nil) (fun _ _ _ _ _ => (pe_callTy call_int1 (by rfl) T.n_int (by decide +kernel) (pa_cons (pv 1) pa_nil)))) (pa_cons pe_int (pa_cons pe_int (pa_cons pe_int (pa_cons pe_int pa_nil)))))))), ?_⟩
  refine ⟨_, rfl, a, rfl, ⟨_, hS⟩, fun D hD => lc_list (K := K) (a := a) (xs := ns.map V.int) (fun i H' => Same H H' ∧ H' D = some (.lst ((ns.take i).map V.int)))
    ⟨same_new hD _, upd_same⟩ (fun i H' _ p => p.1.seq hS) (fun i x H' hx p => ?_) (fun H' p => ?_)⟩
  · obtain ⟨k, hk, rfl⟩ := intAt hx
    refine ⟨rfl, _, rfl, .inl ⟨_, rfl, _, p.2, ?_, ?_, ?_⟩⟩
    · rw [List.length_map, List.length_take]
      exact small1000 (by omega)
    · intro b o e
      rw [upd_ne (ne_of_none e hD)]
      exact p.1 b o e
    · rw [upd_same, List.take_add_one, hk, List.map_append]
      rfl
  · rw [List.length_map, List.take_length] at p
    refine ⟨(by show 5 ≤ sizeLine; decide), fun l hl => ?_⟩
    have nDl : D ≠ l := ne_of_none p.2 hl
    refine q l D _ (p.1.free hl) hD ⟨0, 0, 7, ns, upd_same, Int.le_refl 0, by rw [upd_ne nDl]; exact p.2⟩ (p.1.trans (same_new hl _))
end

/-- a draw of an item of a list, which is taken out -/
def spPop : Sp := fun vs H Q _ => ∃ (d c l : Addr) (xs : List V), vs = [.ref d, .ref l] ∧ DS H d c ∧ H l = some (.lst xs) ∧ l ≠ d ∧ l ≠ c ∧ 1 ≤ xs.length ∧ xs.length ≤ 1000 ∧
  ∀ (k : Nat) (y : V) (H' : Hp), xs[k]? = some y → DS H' d c → H' l = some (.lst (xs.eraseIdx k)) → Keep [d, l] H H' → Q y H'
section
variable {P : Program} {w : World} {K : PySem.W.Frag} {mg : Str → Option Value} {base : Heap}
theorem ok_pop {f : Addr} {fd : FuncData} (F : Fun K "_law_pop" "_law_pop" s_law_pop f fd) (T : Txt mg) (D_law_draw : Dn P w K mg base "_law_draw" ["_law_d", "_law_many"] 1 spDraw) :
    FnOk P w K mg base CX0 2 f fd ["_law_d", "_law_row"] spPop := by
  refine F.ok sc_law_pop (fun vs H Q E h => ?_) (fun cdv A outer s H vs Q E hr h => ?_)
  · obtain ⟨d, c, l, xs, rfl, _⟩ := h
    rfl
  obtain ⟨d, c, l, xs, rfl, hd, hl, nld, nlc, h1, h2, q⟩ := h
  refine ⟨_, (pss_one (ps_ret (pe_bm PySem.F.plainAttrs_list PySem.F.slot_list_pop PySem.F.type_list_pop mt_popAt (pv 1) (pa_cons (pe_dn D_law_draw (hr.mono (by omega)) (by rfl) (pa_cons (pv 0) (pa_cons (pe_callB call_len_seq (by rfl) T.n_len (by decide +kernel) (pa_cons (pv 1) pa_nil)) pa_nil))) pa_nil)))), ?_⟩
  refine ⟨_, rfl, .inl ⟨rfl, _, SqL.of hl⟩, _, rfl, _, rfl, l, _, rfl, .inl (SqL.of hl), d, c, _, rfl, hd, (by omega), (by omega), fun r H' r0 r1 hd' k1 => ?_⟩
  have hl' : H' l = some (.lst xs) := k1 _ _ (by simp [nld]) hl
  have hk : r.toNat < xs.length := by omega
  refine ⟨l, xs, r, r.toNat, xs[r.toNat], rfl, rfl, hl', by omega, by omega, seqIndex_of r0 (by omega), List.getElem?_eq_getElem hk, ?_⟩
  refine q _ _ _ (List.getElem?_eq_getElem hk) (hd'.keep (S := [l]) (Keep.upd (by simp)) (by simp [nld.symm]) (by simp [nlc.symm])) upd_same ((k1.wide (by simp)).trans (Keep.upd (by simp)))
end

end Bf

set_option Elab.async false
set_option linter.all false
set_option maxRecDepth 100000
set_option maxHeartbeats 4000000
namespace Bf
open PySem PySem.Spec PyProof.Rows L2
/-! ### nets, as they lie -/
def intD (n : Nat) : PyData := .int (n : Int)
def regD (r : Str × Nat × Nat) : PyData := .tuple [.str r.1, intD r.2.1, intD r.2.2]
def pairD (p : Nat × Nat) : PyData := .tuple [intD p.1, intD p.2]
def namD (p : Str × Nat) : PyData := .tuple [.str p.1, intD p.2]
def netD (N : Net) : PyData := .tuple [.str "net", .tuple (N.ins.map PyData.str), .tuple (N.regs.map regD), .tuple (N.ands.map pairD), .tuple (N.outs.map namD), .tuple (N.cls.map namD)]
structure NetAt (H : Hp) (p pi pr pa po pc : Addr) (vr va vo vc : List V) (N : Net) : Prop where
  top : H p = some (.tup [.str "net", .ref pi, .ref pr, .ref pa, .ref po, .ref pc])
  hi : H pi = some (.tup (N.ins.map V.str))
  hr : H pr = some (.tup vr)
  lr : LayAll H vr (N.regs.map regD)
  ha : H pa = some (.tup va)
  la : LayAll H va (N.ands.map pairD)
  ho : H po = some (.tup vo)
  lo : LayAll H vo (N.outs.map namD)
  hc : H pc = some (.tup vc)
  lc : LayAll H vc (N.cls.map namD)
theorem NetAt.keep {H H' : Hp} {p pi pr pa po pc : Addr} {vr va vo vc : List V} {N : Net} (h : NetAt H p pi pr pa po pc vr va vo vc N) (k : KeepT H H') : NetAt H' p pi pr pa po pc vr va vo vc N :=
  ⟨k _ _ h.top, k _ _ h.hi, k _ _ h.hr, h.lr.keep' k, k _ _ h.ha, h.la.keep' k, k _ _ h.ho, h.lo.keep' k, k _ _ h.hc, h.lc.keep' k⟩
theorem NetAt.lay {H : Hp} {p pi pr pa po pc : Addr} {vr va vo vc : List V} {N : Net} (h : NetAt H p pi pr pa po pc vr va vo vc N) : Lay H (.ref p) (netD N) :=
  .tup h.top (.cons (.str _) (.cons (.tup h.hi (.strs _)) (.cons (.tup h.hr h.lr) (.cons (.tup h.ha h.la) (.cons (.tup h.ho h.lo) (.cons (.tup h.hc h.lc) .nil))))))
theorem Lay.net {H : Hp} {v : V} {N : Net} (h : Lay H v (netD N)) : ∃ (p pi pr pa po pc : Addr) (vr va vo vc : List V), v = .ref p ∧ NetAt H p pi pr pa po pc vr va vo vc N := by
  obtain ⟨p, vs, rfl, e, l⟩ := h.tup_inv
  obtain ⟨v0, u0, rfl, l0, l⟩ := l.cons_inv
  obtain ⟨v1, u1, rfl, l1, l⟩ := l.cons_inv
  obtain ⟨v2, u2, rfl, l2, l⟩ := l.cons_inv
  obtain ⟨v3, u3, rfl, l3, l⟩ := l.cons_inv
  obtain ⟨v4, u4, rfl, l4, l⟩ := l.cons_inv
  obtain ⟨v5, u5, rfl, l5, l⟩ := l.cons_inv
  obtain rfl := l.nil_inv
  obtain rfl := l0.str_inv
  obtain ⟨p1, w1, rfl, e1, m1⟩ := l1.tup_inv
  obtain ⟨p2, w2, rfl, e2, m2⟩ := l2.tup_inv
  obtain ⟨p3, w3, rfl, e3, m3⟩ := l3.tup_inv
  obtain ⟨p4, w4, rfl, e4, m4⟩ := l4.tup_inv
  obtain ⟨p5, w5, rfl, e5, m5⟩ := l5.tup_inv
  obtain rfl := m1.strs_inv
  exact ⟨p, p1, p2, p3, p4, p5, w2, w3, w4, w5, rfl, ⟨e, e1, e2, m2, e3, m3, e4, m4, e5, m5⟩⟩
theorem NetAt.lens {H : Hp} {p pi pr pa po pc : Addr} {vr va vo vc : List V} {N : Net} (h : NetAt H p pi pr pa po pc vr va vo vc N) : vr.length = N.regs.length ∧ va.length = N.ands.length ∧ vo.length = N.outs.length ∧ vc.length = N.cls.length :=
  ⟨by simpa using h.lr.len, by simpa using h.la.len, by simpa using h.lo.len, by simpa using h.lc.len⟩
theorem Lay.pair {H : Hp} {v : V} {p : Nat × Nat} (h : Lay H v (pairD p)) : ∃ q, v = .ref q ∧ H q = some (.tup [vI p.1, vI p.2]) := by
  obtain ⟨q, vs, rfl, e, l⟩ := h.tup_inv
  obtain ⟨v0, u0, rfl, l0, l⟩ := l.cons_inv
  obtain ⟨v1, u1, rfl, l1, l⟩ := l.cons_inv
  obtain rfl := l.nil_inv
  obtain rfl := l0.int_inv
  obtain rfl := l1.int_inv
  exact ⟨q, rfl, e⟩
theorem Lay.reg {H : Hp} {v : V} {r : Str × Nat × Nat} (h : Lay H v (regD r)) : ∃ q, v = .ref q ∧ H q = some (.tup [.str r.1, vI r.2.1, vI r.2.2]) := by
  obtain ⟨q, vs, rfl, e, l⟩ := h.tup_inv
  obtain ⟨v0, u0, rfl, l0, l⟩ := l.cons_inv
  obtain ⟨v1, u1, rfl, l1, l⟩ := l.cons_inv
  obtain ⟨v2, u2, rfl, l2, l⟩ := l.cons_inv
  obtain rfl := l.nil_inv
  obtain rfl := l0.str_inv
  obtain rfl := l1.int_inv
  obtain rfl := l2.int_inv
  exact ⟨q, rfl, e⟩
theorem Lay.nam {H : Hp} {v : V} {r : Str × Nat} (h : Lay H v (namD r)) : ∃ q, v = .ref q ∧ H q = some (.tup [.str r.1, vI r.2]) := by
  obtain ⟨q, vs, rfl, e, l⟩ := h.tup_inv
  obtain ⟨v0, u0, rfl, l0, l⟩ := l.cons_inv
  obtain ⟨v1, u1, rfl, l1, l⟩ := l.cons_inv
  obtain rfl := l.nil_inv
  obtain rfl := l0.str_inv
  obtain rfl := l1.int_inv
  exact ⟨q, rfl, e⟩
theorem Lay.mkPair {H : Hp} {q : Addr} {a b : Nat} (e : H q = some (.tup [vI a, vI b])) : Lay H (.ref q) (pairD (a, b)) := .tup e (.cons (.int _) (.cons (.int _) .nil))
theorem Lay.mkReg {H : Hp} {q : Addr} {z : Str} {a b : Nat} (e : H q = some (.tup [.str z, vI a, vI b])) : Lay H (.ref q) (regD (z, a, b)) := .tup e (.cons (.str _) (.cons (.int _) (.cons (.int _) .nil)))
theorem Lay.mkNam {H : Hp} {q : Addr} {z : Str} {a : Nat} (e : H q = some (.tup [.str z, vI a])) : Lay H (.ref q) (namD (z, a)) := .tup e (.cons (.str _) (.cons (.int _) .nil))
theorem NetAt.and_ {H : Hp} {p pi pr pa po pc : Addr} {vr va vo vc : List V} {N : Net} (h : NetAt H p pi pr pa po pc vr va vo vc N) {i : Nat} {x : V} (e : va[i]? = some x) : ∃ q p, x = .ref q ∧ N.ands[i]? = some p ∧ H q = some (.tup [vI p.1, vI p.2]) := by
  obtain ⟨d, hd, l⟩ := h.la.get i e
  obtain ⟨p, hp, rfl⟩ := mapAtD hd
  obtain ⟨q, rfl, hq⟩ := l.pair
  exact ⟨q, p, rfl, hp, hq⟩
end Bf

set_option Elab.async false
set_option linter.all false
set_option maxRecDepth 100000
set_option maxHeartbeats 4000000
namespace Bf
open PySem PySem.Spec PyProof.Rows L2
/-! ### drawn nets -/
def spRare : Sp := fun vs H Q _ => ∃ (d c : Addr) (m : Int), vs = [.ref d, .int m] ∧ DS H d c ∧ 1 ≤ m ∧ m < 1000 ∧ ∀ (b : Bool) (H' : Hp), DS H' d c → Keep [d] H H' → Q (.bl b) H'
def spPool : Sp := fun vs H Q _ => vs = [] ∧ ∀ (p : Addr) (xs : List Str), H p = none → xs.length = 61 → Q (.ref p) (upd H p (.lst (xs.map V.str)))
def spLit : Sp := fun vs H Q _ => ∃ (d c : Addr) (i : Int) (n : Nat), vs = [.ref d, .int i] ∧ i = (n : Int) ∧ DS H d c ∧ 1 ≤ n ∧ n ≤ 1000 ∧ ∀ (l : Nat) (H' : Hp), l < 2 * n → DS H' d c → Keep [d] H H' → Q (vI l) H'
theorem DS.at_ {H : Hp} {d c : Addr} (h : DS H d c) : ∃ l, H d = some (.lst l) := let ⟨_, _, _, _, e, _⟩ := h; ⟨_, e⟩
theorem Keep.tups {S : List Addr} {H H' : Hp} (k : Keep S H H') (n : ∀ b ∈ S, ∃ l, H b = some (.lst l)) : KeepT H H' := fun b xs h => k _ _ (fun m => by
  obtain ⟨l, q⟩ := n b m
  rw [q] at h
  cases h) h
theorem Keep.tup1 {H H' : Hp} {d c : Addr} (k : Keep [d] H H') (h : DS H d c) : KeepT H H' := k.tups fun b hb => by rw [List.mem_singleton.mp hb]; exact h.at_
theorem Keep.tup2 {H H' : Hp} {d c l : Addr} {xs : List V} (k : Keep [d, l] H H') (h : DS H d c) (hl : H l = some (.lst xs)) : KeepT H H' := k.tups fun b hb => by
  rcases List.mem_cons.mp hb with e | hb
  · rw [e]; exact h.at_
  · rw [List.mem_singleton.mp hb]; exact ⟨_, hl⟩
section
variable {P : Program} {w : World} {K : PySem.W.Frag} {mg : Str → Option Value} {base : Heap} {f : Addr} {fd : FuncData}
theorem ok_rare (F : Fun K "_law_rare" "_law_rare" s_law_rare f fd) (T : Txt mg) (D_law_draw : Dn P w K mg base "_law_draw" ["_law_d", "_law_many"] 1 spDraw) : FnOk P w K mg base CX0 2 f fd ["_law_d", "_law_many"] spRare := by
  refine F.ok sc_law_rare (fun vs H Q E h => ?_) (fun cdv A outer s H vs Q E hr h => ?_)
  · obtain ⟨d, c, m, rfl, _⟩ := h
    rfl
  obtain ⟨d, c, m, rfl, hd, h1, h2, q⟩ := h
  refine ⟨_, (pss_one (ps_ret (pe_cmpR op_eq (pe_dn D_law_draw (hr.mono (by omega)) (by rfl) (pa_cons (pv 0) (pa_cons (pv 1) pa_nil))) (pe_op op_fdiv (pv 1) pe_int) (nomark _)))), ?_⟩
  refine ⟨_, rfl, _, rfl, d, c, m, rfl, hd, h1, by omega, fun r H' r0 r1 hd' k1 => ?_⟩
  exact ⟨_, rfl, m, 2, rfl, rfl, ⟨by decide, by decide⟩, rfl, q _ _ hd' k1⟩
theorem ok_pool (F : Fun K "_law_pool" "_law_pool" s_law_pool f fd) : FnOk P w K mg base CX0 1 f fd [] spPool := by
  refine F.ok sc_law_pool (fun vs H Q E h => ?_) (fun cdv A outer s H vs Q E hr h => ?_)
  · rw [h.1]
    rfl
  obtain ⟨rfl, q⟩ := h
  refine ⟨_, (pss_cons (ps_set (i := 0) sc_law_pool.nd rfl (Or.inl rfl) pe_str)
      (pss_cons (ps_set (i := 0) sc_law_pool.nd rfl (Or.inl rfl) (pe_op op_add_str (pv 0) pe_str))
      (pss_one (ps_ret (pe_split (pe_op op_add_str (pv 0) pe_str) pe_str))))), ?_⟩
  refine ⟨_, rfl, _, _, rfl, rfl, (by decide +kernel), _, rfl, _, _, rfl, rfl, (by decide +kernel), ?_⟩
  exact ⟨⟨_, rfl⟩, _, _, rfl, rfl, (by decide +kernel), (by decide +kernel), fun p hp => q p _ hp (by decide +kernel)⟩
theorem ok_lit (F : Fun K "_law_drawn_literal" "_law_drawn_literal" s_law_drawn_literal f fd) (T : Txt mg) (D_law_draw : Dn P w K mg base "_law_draw" ["_law_d", "_law_many"] 1 spDraw) : FnOk P w K mg base CX0 2 f fd ["_law_d", "_law_size"] spLit := by
  refine F.ok sc_law_drawn_literal (fun vs H Q E h => ?_) (fun cdv A outer s H vs Q E hr h => ?_)
  · obtain ⟨d, c, i, n, rfl, _⟩ := h
    rfl
  obtain ⟨d, c, i, n, rfl, rfl, hd, h1, h2, q⟩ := h
  refine ⟨_, (pss_cons (ps_set (i := 2) sc_law_drawn_literal.nd rfl (Or.inl rfl) (pe_callB (cr_maxN rfl) (by rfl) T.n_max (by decide +kernel) (pa_cons (pe_dn D_law_draw (hr.mono (by omega)) (by rfl) (pa_cons (pv 0) (pa_cons (pv 1) pa_nil))) (pa_cons (pe_dn D_law_draw (hr.mono (by omega)) (by rfl) (pa_cons (pv 0) (pa_cons (pv 1) pa_nil))) pa_nil))))
      (pss_one (ps_ret (pe_op op_add (pe_op op_mul pe_int (pv 2)) (pe_dn D_law_draw (hr.mono (by omega)) (by rfl) (pa_cons (pv 0) (pa_cons pe_int pa_nil))))))), ?_⟩
  refine ⟨_, rfl, _, rfl, d, c, _, rfl, hd, by omega, by omega, fun r H1 r0 r1 hd1 k1 => ?_⟩
  obtain ⟨x, rfl⟩ := Int.eq_ofNat_of_zero_le r0
  refine ⟨_, rfl, _, rfl, d, c, _, rfl, hd1, by omega, by omega, fun r H2 r0 r1 hd2 k2 => ?_⟩
  obtain ⟨y, rfl⟩ := Int.eq_ofNat_of_zero_le r0
  refine ⟨x, y, rfl, _, rfl, _, _, rfl, rfl, .inl ⟨by decide, by decide⟩, ?_⟩
  refine ⟨_, rfl, d, c, _, rfl, hd2, by decide, by decide, fun r H3 r0 r1 hd3 k3 => ?_⟩
  obtain ⟨z, rfl⟩ := Int.eq_ofNat_of_zero_le r0
  refine ⟨_, _, rfl, rfl, ?_⟩
  have e : (2 : Int) * ((max x y : Nat) : Int) + (z : Int) = ((2 * max x y + z : Nat) : Int) := by omega
  show Q (V.int ((2 : Int) * ((max x y : Nat) : Int) + (z : Int))) H3
  rw [e]
  exact q _ _ (by omega) hd3 ((k1.trans k2).trans k3)
end

end Bf

set_option Elab.async false
set_option linter.all false
set_option maxRecDepth 100000
set_option maxHeartbeats 4000000
namespace Bf
open PySem PySem.Spec PyProof.Rows L2
/-! ### a drawn net -/
/-- the names that are left -/
def Nms (H : Hp) (l : Addr) (n : Nat) : Prop := ∃ names : List V, H l = some (.lst names) ∧ (∀ v ∈ names, ∃ z : Str, v = .str z) ∧ names.length = n
theorem Nms.keep {S : List Addr} {H H' : Hp} {l : Addr} {n : Nat} (h : Nms H l n) (k : Keep S H H') (hl : l ∉ S) : Nms H' l n := let ⟨x, a, b, e⟩ := h; ⟨x, k _ _ hl a, b, e⟩
theorem Nms.same {H H' : Hp} {l : Addr} {n : Nat} (h : Nms H l n) (k : Same H H') : Nms H' l n := let ⟨x, a, b, e⟩ := h; ⟨x, k _ _ a, b, e⟩
theorem Nms.cast {H : Hp} {l : Addr} {n m : Nat} (h : Nms H l n) (e : n = m) : Nms H l m := e ▸ h
theorem Keep.thin {S S' : List Addr} {H H' : Hp} (k : Keep S' H H') (h : ∀ b ∈ S', b ∈ S ∨ H b = none) : Keep S H H' := fun b o n e => k b o (fun m => by
  rcases h b m with q | q
  · exact n q
  · rw [q] at e; cases e) e
theorem Keep.cat {S S' : List Addr} {H H1 H2 : Hp} (a : Keep S H H1) (b : Keep S' H1 H2) : Keep (S ++ S') H H2 := fun c o n h => b c o (fun m => n (List.mem_append_right _ m)) (a c o (fun m => n (List.mem_append_left _ m)) h)
theorem Keep.free {S : List Addr} {H H' : Hp} {l : Addr} (k : Keep S H H') (h : H' l = none) (n : l ∉ S) : H l = none := by
  cases e : H l with
  | none => rfl
  | some o => rw [k l o n e] at h; cases h
theorem Keep.sm {H H' : Hp} (k : Same H H') : Keep [] H H' := .of_same k
theorem Keep.at1 {H : Hp} {a : Addr} {o : HO} : Keep [a] H (L2.upd H a o) := .upd (by simp)
/-- the list at D: data of acc -/
def Acc {α : Type} (D : Addr) (f : α → PyData) (acc : List α) (H : Hp) : Prop := ∃ vs : List V, H D = some (.lst vs) ∧ LayAll H vs (acc.map f)
theorem Acc.nil {α : Type} {D : Addr} {f : α → PyData} {H : Hp} : Acc D f [] (upd H D (.lst [])) := ⟨[], upd_same, .nil⟩
theorem Acc.keep {α : Type} {D : Addr} {f : α → PyData} {acc : List α} {S : List Addr} {H H' : Hp} (h : Acc D f acc H) (k : Keep S H H') (t : KeepT H H') (n : D ∉ S) : Acc D f acc H' := let ⟨vs, a, b⟩ := h; ⟨vs, k _ _ n a, b.keep' t⟩
theorem Acc.same {α : Type} {D : Addr} {f : α → PyData} {acc : List α} {H H' : Hp} (h : Acc D f acc H) (k : Same H H') : Acc D f acc H' := let ⟨vs, a, b⟩ := h; ⟨vs, k _ _ a, b.keep' (.same k)⟩
theorem Acc.push {α : Type} {D : Addr} {f : α → PyData} {acc : List α} {H : Hp} {y : V} {x : α} (h : Acc D f acc H) (l : Lay H y (f x)) (n : acc.length ≤ 1000) :
    ∃ vs, H D = some (.lst vs) ∧ vs.length < sizeLine ∧ Acc D f (acc ++ [x]) (upd H D (.lst (vs ++ [y]))) ∧ KeepT H (upd H D (.lst (vs ++ [y]))) := by
  obtain ⟨vs, a, b⟩ := h
  have e := b.len
  rw [List.length_map] at e
  have kt : KeepT H (upd H D (.lst (vs ++ [y]))) := .lst a
  refine ⟨vs, a, by rw [e]; exact small1000 n, ⟨_, upd_same, ?_⟩, kt⟩
  rw [List.map_append]
  exact (b.snoc l).keep' kt
theorem Acc.at_ {α : Type} {D : Addr} {f : α → PyData} {acc : List α} {H : Hp} (h : Acc D f acc H) : ∃ l, H D = some (.lst l) := let ⟨vs, a, _⟩ := h; ⟨vs, a⟩
def spNet : Sp := fun vs H Q _ => ∃ (d c : Addr) (a b m o k : Nat), vs = [.ref d, vI a, vI b, vI m, vI o, vI k] ∧ DS H d c ∧ a + b + o + k ≤ 61 ∧ m ≤ 100 ∧
  ∀ (v : V) (N : Net) (H' : Hp), Lay H' v (netD N) → N.Right → N.ins.length = a → N.regs.length = b → N.ands.length = m → N.outs.length = o → N.cls.length = k → DS H' d c → Keep [d] H H' → Q v H'
section
variable {P : Program} {w : World} {K : PySem.W.Frag} {mg : Str → Option Value} {base : Heap} {f : Addr} {fd : FuncData}
theorem ok_net (F : Fun K "_law_net" "_law_net" s_law_net f fd) (T : Txt mg) (D_law_draw : Dn P w K mg base "_law_draw" ["_law_d", "_law_many"] 1 spDraw) (D_law_pop : Dn P w K mg base "_law_pop" ["_law_d", "_law_row"] 2 spPop)
    (D_law_pool : Dn P w K mg base "_law_pool" [] 1 spPool) (D_law_drawn_literal : Dn P w K mg base "_law_drawn_literal" ["_law_d", "_law_size"] 2 spLit) :
    FnOk P w K mg base CX0 3 f fd ["_law_d", "_law_inputs", "_law_regs", "_law_ands", "_law_outputs", "_law_claims"] spNet := by
  refine F.ok sc_law_net (fun vs H Q E h => ?_) (fun cdv A outer s H vs Q E hr h => ?_)
  · obtain ⟨d, c, a, b, m, o, k, rfl, _⟩ := h
    rfl
  obtain ⟨d, c, a, b, m, o, k, rfl, hd, h61, h100, q⟩ := h
  refine ⟨_, (pss_cons (ps_set (i := 6) sc_law_net.nd rfl (Or.inr rfl) (pe_dn0 D_law_pool (hr.mono (by omega)) (by rfl)))
      (pss_cons (ps_set (i := 7) sc_law_net.nd rfl (Or.inr rfl) (pe_op op_add (pe_op op_add pe_int (pv 1)) (pv 2)))
      (pss_cons (ps_setLc (i := 8) (own := [("_law_k", 14)]) (g := (gName 14)) (tt := tYes) rfl sc_law_net.nd rfl rfl (sw_true rfl rfl rfl (by decide +kernel)) (pi_range1 rfl T.n_range (pa_cons (pv 3) pa_nil)) (blkOk_by (N := ["_law_d", "_law_inputs", "_law_regs", "_law_ands", "_law_outputs", "_law_claims", "_law_names", "_law_first_here", "_law_pairs", "_law_size", "_law_given", "_law_rows", "_law_shown", "_law_asked", "_law_k"]) (sc := defScope s_law_net) (by decide +kernel)) (fun _ _ _ _ _ => (pg_name (i := 14) sc_law_net.nd rfl (Or.inl rfl))) (fun _ _ _ _ _ => pts_nil) (fun _ _ _ _ _ => (pe_tup (pa_cons (pe_dn D_law_drawn_literal (hr.mono (by omega)) (by rfl) (pa_cons (pv 0) (pa_cons (pe_op op_add (pv 7) (pv 14)) pa_nil))) (pa_cons (pe_dn D_law_drawn_literal (hr.mono (by omega)) (by rfl) (pa_cons (pv 0) (pa_cons (pe_op op_add (pv 7) (pv 14)) pa_nil))) pa_nil)))))
      (pss_cons (ps_set (i := 9) sc_law_net.nd rfl (Or.inr rfl) (pe_op op_add (pv 7) (pv 3)))
      (pss_cons (ps_set (i := 10) sc_law_net.nd rfl (Or.inl rfl) (pe_callTy call_tuple_of (by rfl) T.n_tuple (by decide +kernel) (pa_cons (pe_lc (own := [("_law_k", 14)]) (g := (gName 14)) (tt := tYes) rfl sc_law_net.nd (pi_range1 rfl T.n_range (pa_cons (pv 1) pa_nil)) (blkOk_by (N := ["_law_d", "_law_inputs", "_law_regs", "_law_ands", "_law_outputs", "_law_claims", "_law_names", "_law_first_here", "_law_pairs", "_law_size", "_law_given", "_law_rows", "_law_shown", "_law_asked", "_law_k"]) (sc := defScope s_law_net) (by decide +kernel)) (fun _ _ _ _ _ => (pg_name (i := 14) sc_law_net.nd rfl (Or.inl rfl))) (fun _ _ _ _ _ => pts_nil) (fun _ _ _ _ _ => (pe_dn D_law_pop (hr.mono (by omega)) (by rfl) (pa_cons (pv 0) (pa_cons (pv 6) pa_nil))))) pa_nil)))
      (pss_cons (ps_setLc (i := 11) (own := [("_law_k", 14)]) (g := (gName 14)) (tt := tYes) rfl sc_law_net.nd rfl rfl (sw_true rfl rfl rfl (by decide +kernel)) (pi_range1 rfl T.n_range (pa_cons (pv 2) pa_nil)) (blkOk_by (N := ["_law_d", "_law_inputs", "_law_regs", "_law_ands", "_law_outputs", "_law_claims", "_law_names", "_law_first_here", "_law_pairs", "_law_size", "_law_given", "_law_rows", "_law_shown", "_law_asked", "_law_k"]) (sc := defScope s_law_net) (by decide +kernel)) (fun _ _ _ _ _ => (pg_name (i := 14) sc_law_net.nd rfl (Or.inl rfl))) (fun _ _ _ _ _ => pts_nil) (fun _ _ _ _ _ => (pe_tup (pa_cons (pe_dn D_law_pop (hr.mono (by omega)) (by rfl) (pa_cons (pv 0) (pa_cons (pv 6) pa_nil))) (pa_cons (pe_dn D_law_draw (hr.mono (by omega)) (by rfl) (pa_cons (pv 0) (pa_cons pe_int pa_nil))) (pa_cons (pe_dn D_law_drawn_literal (hr.mono (by omega)) (by rfl) (pa_cons (pv 0) (pa_cons (pv 9) pa_nil))) pa_nil))))))
      (pss_cons (ps_setLc (i := 12) (own := [("_law_k", 14)]) (g := (gName 14)) (tt := tYes) rfl sc_law_net.nd rfl rfl (sw_true rfl rfl rfl (by decide +kernel)) (pi_range1 rfl T.n_range (pa_cons (pv 4) pa_nil)) (blkOk_by (N := ["_law_d", "_law_inputs", "_law_regs", "_law_ands", "_law_outputs", "_law_claims", "_law_names", "_law_first_here", "_law_pairs", "_law_size", "_law_given", "_law_rows", "_law_shown", "_law_asked", "_law_k"]) (sc := defScope s_law_net) (by decide +kernel)) (fun _ _ _ _ _ => (pg_name (i := 14) sc_law_net.nd rfl (Or.inl rfl))) (fun _ _ _ _ _ => pts_nil) (fun _ _ _ _ _ => (pe_tup (pa_cons (pe_dn D_law_pop (hr.mono (by omega)) (by rfl) (pa_cons (pv 0) (pa_cons (pv 6) pa_nil))) (pa_cons (pe_dn D_law_drawn_literal (hr.mono (by omega)) (by rfl) (pa_cons (pv 0) (pa_cons (pv 9) pa_nil))) pa_nil)))))
      (pss_cons (ps_setLc (i := 13) (own := [("_law_k", 14)]) (g := (gName 14)) (tt := tYes) rfl sc_law_net.nd rfl rfl (sw_true rfl rfl rfl (by decide +kernel)) (pi_range1 rfl T.n_range (pa_cons (pv 5) pa_nil)) (blkOk_by (N := ["_law_d", "_law_inputs", "_law_regs", "_law_ands", "_law_outputs", "_law_claims", "_law_names", "_law_first_here", "_law_pairs", "_law_size", "_law_given", "_law_rows", "_law_shown", "_law_asked", "_law_k"]) (sc := defScope s_law_net) (by decide +kernel)) (fun _ _ _ _ _ => (pg_name (i := 14) sc_law_net.nd rfl (Or.inl rfl))) (fun _ _ _ _ _ => pts_nil) (fun _ _ _ _ _ => (pe_tup (pa_cons (pe_dn D_law_pop (hr.mono (by omega)) (by rfl) (pa_cons (pv 0) (pa_cons (pv 6) pa_nil))) (pa_cons (pe_dn D_law_drawn_literal (hr.mono (by omega)) (by rfl) (pa_cons (pv 0) (pa_cons (pv 9) pa_nil))) pa_nil)))))
      (pss_one (ps_ret (pe_tup (pa_cons pe_str (pa_cons (pv 10) (pa_cons (pe_callTy call_tuple_of (by rfl) T.n_tuple (by decide +kernel) (pa_cons (pv 11) pa_nil)) (pa_cons (pe_callTy call_tuple_of (by rfl) T.n_tuple (by decide +kernel) (pa_cons (pv 8) pa_nil)) (pa_cons (pe_callTy call_tuple_of (by rfl) T.n_tuple (by decide +kernel) (pa_cons (pv 12) pa_nil)) (pa_cons (pe_callTy call_tuple_of (by rfl) T.n_tuple (by decide +kernel) (pa_cons (pv 13) pa_nil)) pa_nil))))))))))))))))), ?_⟩
  refine ⟨rfl, fun pn xs hpn hx => ?_⟩
  have hd1 := hd.same (same_new hpn (.lst (xs.map V.str)))
  obtain ⟨nnd, nnc⟩ := hd.new hpn
  have hn1 : Nms (upd H pn (.lst (xs.map V.str))) pn 61 := ⟨_, upd_same, fun v hv => (let ⟨z, _, e⟩ := List.mem_map.mp hv; ⟨z, e.symm⟩), by rw [List.length_map, hx]⟩
  have k1 : Keep [d] H (upd H pn (.lst (xs.map V.str))) := Keep.new hpn
  generalize upd H pn (.lst (xs.map V.str)) = H1 at hd1 hn1 k1 ⊢
  refine ⟨_, rfl, _, _, rfl, rfl, _, rfl, _, _, rfl, rfl, ?_⟩
  -- the ands
  refine ⟨_, rfl, (m : Int), rfl, (i62 (by omega)).1, (i62 (by omega)).2, fun D1 hD1 => ?_⟩
  obtain ⟨nDd, nDc⟩ := hd1.new hD1
  have nDn : D1 ≠ pn := let ⟨x, e, _⟩ := hn1; (ne_of_none e hD1).symm
  refine lc_range (lo := 0) (n := m) (fun i H' => ∃ acc : List (Nat × Nat), Acc D1 pairD acc H' ∧ acc.length = i ∧ (∀ j p, acc[j]? = some p → p.1 < 2 * (1 + a + b + j) ∧ p.2 < 2 * (1 + a + b + j)) ∧ DS H' d c ∧ Nms H' pn 61 ∧ Keep [d] H H')
    ⟨[], .nil, rfl, fun j p e => by simp at e, hd1.same (same_new hD1 _), hn1.same (same_new hD1 _), k1.trans (Keep.new hD1)⟩ (fun i H2 hi p => ?_) (fun H2 p => ?_)
  · obtain ⟨acc, hA, hl, hb, hd2, hn2, k2⟩ := p
    have hi : i < m := hi
    refine ⟨rfl, _, rfl, _, rfl, _, rfl, _, _, rfl, rfl, d, c, _, 1 + a + b + i, rfl, by omega, hd2, by omega, by omega, fun l1 H3 hl1 hd3 k3 => ?_⟩
    refine ⟨_, rfl, _, rfl, _, rfl, _, _, rfl, rfl, d, c, _, 1 + a + b + i, rfl, by omega, hd3, by omega, by omega, fun l2 H4 hl2 hd4 k4 => ?_⟩
    refine ⟨(by show 2 ≤ sizeLine; decide), fun t ht => ?_⟩
    have st := same_new ht (.tup [vI l1, vI l2])
    have hA5 := ((hA.keep k3 (k3.tup1 hd2) (by simp [nDd])).keep k4 (k4.tup1 hd3) (by simp [nDd])).same st
    have hn5 := ((hn2.keep k3 (by simp [nnd])).keep k4 (by simp [nnd])).same st
    obtain ⟨vs, e, hlen, hA6, _⟩ := hA5.push (x := (l1, l2)) (.mkPair upd_same) (by omega)
    refine ⟨vs, e, hlen, acc ++ [(l1, l2)], hA6, by rw [List.length_append, hl]; rfl, fun j p hp => ?_, ?_, ?_, ?_⟩
    · by_cases hj : j < acc.length
      · rw [List.getElem?_append_left hj] at hp
        exact hb j p hp
      · rw [List.getElem?_append_right (by omega)] at hp
        have hj0 : j - acc.length = 0 := by
          cases z : j - acc.length with
          | zero => rfl
          | succ n => rw [z] at hp; simp at hp
        rw [hj0] at hp
        obtain rfl : (l1, l2) = p := Option.some.inj hp
        exact ⟨by show l1 < _; omega, by show l2 < _; omega⟩
    · exact (hd4.same st).keep (S := [D1]) (Keep.upd (by simp)) (by simp [nDd.symm]) (by simp [nDc.symm])
    · exact hn5.keep (S := [D1]) (Keep.upd (by simp)) (by simp [nDn.symm])
    · exact ((((k2.cat k3).cat k4).cat (.sm st)).cat .at1).thin (by simp [k1.free hD1 (by simp [nDd])])
  obtain ⟨an, hA, hal, hab, hd2, hn2, k2⟩ := p
  clear hd1 hn1 k1
  refine ⟨_, rfl, _, rfl, _, _, rfl, rfl, ?_⟩
  -- the inputs
  refine ⟨_, rfl, (a : Int), rfl, (i62 (by omega)).1, (i62 (by omega)).2, fun D2 hD2 => ?_⟩
  obtain ⟨n2d, n2c⟩ := hd2.new hD2
  have n2n : D2 ≠ pn := let ⟨x, e, _⟩ := hn2; (ne_of_none e hD2).symm
  have n21 : D2 ≠ D1 := let ⟨x, e⟩ := hA.at_; (ne_of_none e hD2).symm
  have f2 : H D2 = none := k2.free hD2 (by simp [n2d])
  refine lc_range (lo := 0) (n := a) (fun i H' => ∃ acc : List Str, Acc D2 PyData.str acc H' ∧ acc.length = i ∧ DS H' d c ∧ Nms H' pn (61 - i) ∧ Acc D1 pairD an H' ∧ Keep [d] H H')
    ⟨[], .nil, rfl, hd2.same (same_new hD2 _), hn2.same (same_new hD2 _), hA.same (same_new hD2 _), k2.trans (Keep.new hD2)⟩ (fun i H3 hi p => ?_) (fun H3 p => ?_)
  · obtain ⟨acc, hB, hl, hd3, hn3, hA3, k3⟩ := p
    have hi : i < a := hi
    obtain ⟨names, hn, hz, h61'⟩ := hn3
    refine ⟨rfl, _, rfl, _, rfl, d, c, pn, names, rfl, hd3, hn, nnd, nnc, by omega, by omega, fun j y H4 hy hd4 hn4 k4 => ?_⟩
    obtain ⟨z, rfl⟩ := hz y (List.mem_of_getElem? hy)
    have t4 := k4.tup2 hd3 hn
    have hB4 := hB.keep k4 t4 (by simp [n2d, n2n])
    obtain ⟨vs, e, hlen, hB5, t5⟩ := hB4.push (x := z) (.str z) (by omega)
    refine ⟨vs, e, hlen, acc ++ [z], hB5, by rw [List.length_append, hl]; rfl, hd4.keep (S := [D2]) Keep.at1 (by simp [n2d.symm]) (by simp [n2c.symm]), ⟨names.eraseIdx j, ?_, fun v hv => hz v (List.mem_of_mem_eraseIdx hv), ?_⟩, ?_, ?_⟩
    · rw [upd_ne n2n.symm]; exact hn4
    · rw [List.length_eraseIdx, if_pos (List.getElem?_eq_some_iff.mp hy).1]; omega
    · exact (hA3.keep k4 t4 (by simp [nDd, nDn])).keep Keep.at1 t5 (by simp [n21.symm])
    · exact ((k3.cat k4).cat .at1).thin (by simp [hpn, f2])
  -- behind the inputs
  obtain ⟨is, ⟨vs, hB, lB⟩, hil, hdS, hnS, hAS, kS⟩ := p
  obtain rfl := lB.strs_inv
  refine ⟨D2, _, rfl, .inl ⟨SqL.of hB, fun pi hpi => ?_⟩⟩
  have st := same_new hpi (.tup (is.map V.str))
  have hP : upd H3 pi (.tup (is.map V.str)) pi = some (.tup (is.map V.str)) := upd_same
  replace hdS := hdS.same st
  replace hnS := hnS.same st
  replace hAS := hAS.same st
  replace kS : Keep [d] H (upd H3 pi (.tup (is.map V.str))) := kS.trans (.of_same st)
  generalize upd H3 pi (.tup (is.map V.str)) = Ht at hP hdS hnS hAS kS ⊢
  have ktS : KeepT Ht Ht := .refl _
  have m1 : D1 ∉ [d, pn] := by simp [nDd, nDn]
  clear hB lB hpi st hd2 hn2 hA k2 hD2 hD1
  -- the regs
  refine ⟨_, rfl, (b : Int), rfl, (i62 (by omega)).1, (i62 (by omega)).2, fun D3 hD => ?_⟩
  obtain ⟨ndD3, ncD3⟩ := hdS.new hD
  have nnD3 : D3 ≠ pn := let ⟨x, e, _⟩ := hnS; (ne_of_none e hD).symm
  have nD3D1 : D3 ≠ D1 := let ⟨x, e⟩ := hAS.at_; (ne_of_none e hD).symm
  have fD3 : H D3 = none := kS.free hD (by simp [ndD3])
  refine lc_range (lo := 0) (n := b) (fun i H' => ∃ acc : List (Str × Nat × Nat), Acc D3 regD acc H' ∧ acc.length = i ∧ (∀ r ∈ acc, r.2.1 < 2 ∧ r.2.2 < 2 * (1 + a + b + m)) ∧ DS H' d c ∧ Nms H' pn (61 - (a) - i) ∧ KeepT Ht H' ∧ Keep [d] H H' ∧ Acc D1 pairD an H')
    ⟨[], .nil, rfl, fun r hr => by simp at hr, hdS.same (same_new hD _), (hnS.same (same_new hD _)).cast (by omega), ktS.trans (.new hD), kS.trans (Keep.new hD), hAS.same (same_new hD _)⟩ (fun i H3 hi p => ?_) (fun H3 p => ?_)
  · obtain ⟨acc, hB, hl, hg, hd3, ⟨names, hn, hz, h61'⟩, kt3, k3, hAS3⟩ := p
    have hi : i < b := hi
    refine ⟨rfl, _, rfl, _, rfl, d, c, pn, names, rfl, hd3, hn, nnd, nnc, by omega, by omega, fun j y H4 hy hd4 hn4 k4 => ?_⟩
    obtain ⟨z, rfl⟩ := hz y (List.mem_of_getElem? hy)
    have t4 := k4.tup2 hd3 hn
    refine ⟨_, rfl, d, c, 2, rfl, hd4, by decide, by decide, fun r H5 r0 r1 hd5 k5 => ?_⟩
    obtain ⟨u, rfl⟩ := Int.eq_ofNat_of_zero_le r0
    have t5 := k5.tup1 hd4
    refine ⟨_, rfl, _, rfl, d, c, _, 1 + a + b + m, rfl, by omega, hd5, by omega, by omega, fun l H6 hl6 hd6 k6 => ?_⟩
    have t6 := k6.tup1 hd5
    refine ⟨(by show 3 ≤ sizeLine; decide), fun t ht => ?_⟩
    have st := same_new ht (.tup [.str z, vI u, vI l])
    have kc : Keep [d, pn] H3 (upd H6 t (.tup [.str z, vI u, vI l])) := (((k4.cat k5).cat k6).cat (.sm st)).wide (by simp)
    have tc : KeepT H3 (upd H6 t (.tup [.str z, vI u, vI l])) := ((t4.trans t5).trans t6).trans (.same st)
    have hn6 : (upd H6 t (.tup [.str z, vI u, vI l])) pn = some (.lst (names.eraseIdx j)) := st _ _ (k6 _ _ (by simp [nnd]) (k5 _ _ (by simp [nnd]) hn4))
    obtain ⟨vs, e, hlen, hB7, t7⟩ := (hB.keep kc tc (by simp [ndD3, nnD3])).push (x := (z, u, l)) (.mkReg upd_same) (by omega)
    refine ⟨vs, e, hlen, acc ++ [(z, u, l)], hB7, by rw [List.length_append, hl]; rfl, fun r hr => ?_, (hd6.same st).keep (S := [D3]) Keep.at1 (by simp [ndD3.symm]) (by simp [ncD3.symm]), ⟨names.eraseIdx j, ?_, fun v hv => hz v (List.mem_of_mem_eraseIdx hv), ?_⟩, (kt3.trans tc).trans t7, ((k3.cat kc).cat .at1).thin (by simp [hpn, fD3]), (hAS3.keep kc tc (by simp [*])).keep Keep.at1 t7 (by simp [nD3D1.symm])⟩
    · rcases List.mem_append.mp hr with q | q
      · exact hg r q
      · rw [List.mem_singleton.mp q]
        exact ⟨by show u < 2; omega, hl6⟩
    · rw [upd_ne nnD3.symm]; exact hn6
    · rw [List.length_eraseIdx, if_pos (List.getElem?_eq_some_iff.mp hy).1]; omega
  obtain ⟨rs, hRS, hrl, hrg, hdS, hnS, ktS, kS, hAS⟩ := p
  -- the outs
  refine ⟨_, rfl, (o : Int), rfl, (i62 (by omega)).1, (i62 (by omega)).2, fun D4 hD => ?_⟩
  obtain ⟨ndD4, ncD4⟩ := hdS.new hD
  have nnD4 : D4 ≠ pn := let ⟨x, e, _⟩ := hnS; (ne_of_none e hD).symm
  have nD4D1 : D4 ≠ D1 := let ⟨x, e⟩ := hAS.at_; (ne_of_none e hD).symm
  have nD4D3 : D4 ≠ D3 := let ⟨x, e⟩ := hRS.at_; (ne_of_none e hD).symm
  have fD4 : H D4 = none := kS.free hD (by simp [ndD4])
  refine lc_range (lo := 0) (n := o) (fun i H' => ∃ acc : List (Str × Nat), Acc D4 namD acc H' ∧ acc.length = i ∧ (∀ r ∈ acc, r.2 < 2 * (1 + a + b + m)) ∧ DS H' d c ∧ Nms H' pn (61 - (a + b) - i) ∧ KeepT Ht H' ∧ Keep [d] H H' ∧ Acc D1 pairD an H' ∧ Acc D3 regD rs H')
    ⟨[], .nil, rfl, fun r hr => by simp at hr, hdS.same (same_new hD _), (hnS.same (same_new hD _)).cast (by omega), ktS.trans (.new hD), kS.trans (Keep.new hD), hAS.same (same_new hD _), hRS.same (same_new hD _)⟩ (fun i H3 hi p => ?_) (fun H3 p => ?_)
  · obtain ⟨acc, hB, hl, hg, hd3, ⟨names, hn, hz, h61'⟩, kt3, k3, hAS3, hRS3⟩ := p
    have hi : i < o := hi
    refine ⟨rfl, _, rfl, _, rfl, d, c, pn, names, rfl, hd3, hn, nnd, nnc, by omega, by omega, fun j y H4 hy hd4 hn4 k4 => ?_⟩
    obtain ⟨z, rfl⟩ := hz y (List.mem_of_getElem? hy)
    have t4 := k4.tup2 hd3 hn
    refine ⟨_, rfl, _, rfl, d, c, _, 1 + a + b + m, rfl, by omega, hd4, by omega, by omega, fun l H6 hl6 hd6 k6 => ?_⟩
    have t6 := k6.tup1 hd4
    refine ⟨(by show 2 ≤ sizeLine; decide), fun t ht => ?_⟩
    have st := same_new ht (.tup [.str z, vI l])
    have kc : Keep [d, pn] H3 (upd H6 t (.tup [.str z, vI l])) := ((k4.cat k6).cat (.sm st)).wide (by simp)
    have tc : KeepT H3 (upd H6 t (.tup [.str z, vI l])) := (t4.trans t6).trans (.same st)
    have hn6 : (upd H6 t (.tup [.str z, vI l])) pn = some (.lst (names.eraseIdx j)) := st _ _ (k6 _ _ (by simp [nnd]) hn4)
    obtain ⟨vs, e, hlen, hB7, t7⟩ := (hB.keep kc tc (by simp [ndD4, nnD4])).push (x := (z, l)) (.mkNam upd_same) (by omega)
    refine ⟨vs, e, hlen, acc ++ [(z, l)], hB7, by rw [List.length_append, hl]; rfl, fun r hr => ?_, (hd6.same st).keep (S := [D4]) Keep.at1 (by simp [ndD4.symm]) (by simp [ncD4.symm]), ⟨names.eraseIdx j, ?_, fun v hv => hz v (List.mem_of_mem_eraseIdx hv), ?_⟩, (kt3.trans tc).trans t7, ((k3.cat kc).cat .at1).thin (by simp [hpn, fD4]), (hAS3.keep kc tc (by simp [*])).keep Keep.at1 t7 (by simp [nD4D1.symm]), (hRS3.keep kc tc (by simp [*])).keep Keep.at1 t7 (by simp [nD4D3.symm])⟩
    · rcases List.mem_append.mp hr with q | q
      · exact hg r q
      · rw [List.mem_singleton.mp q]
        exact hl6
    · rw [upd_ne nnD4.symm]; exact hn6
    · rw [List.length_eraseIdx, if_pos (List.getElem?_eq_some_iff.mp hy).1]; omega
  obtain ⟨os, hOS, hol, hog, hdS, hnS, ktS, kS, hAS, hRS⟩ := p
  -- the cls
  refine ⟨_, rfl, (k : Int), rfl, (i62 (by omega)).1, (i62 (by omega)).2, fun D5 hD => ?_⟩
  obtain ⟨ndD5, ncD5⟩ := hdS.new hD
  have nnD5 : D5 ≠ pn := let ⟨x, e, _⟩ := hnS; (ne_of_none e hD).symm
  have nD5D1 : D5 ≠ D1 := let ⟨x, e⟩ := hAS.at_; (ne_of_none e hD).symm
  have nD5D3 : D5 ≠ D3 := let ⟨x, e⟩ := hRS.at_; (ne_of_none e hD).symm
  have nD5D4 : D5 ≠ D4 := let ⟨x, e⟩ := hOS.at_; (ne_of_none e hD).symm
  have fD5 : H D5 = none := kS.free hD (by simp [ndD5])
  refine lc_range (lo := 0) (n := k) (fun i H' => ∃ acc : List (Str × Nat), Acc D5 namD acc H' ∧ acc.length = i ∧ (∀ r ∈ acc, r.2 < 2 * (1 + a + b + m)) ∧ DS H' d c ∧ Nms H' pn (61 - (a + b + o) - i) ∧ KeepT Ht H' ∧ Keep [d] H H' ∧ Acc D1 pairD an H' ∧ Acc D3 regD rs H' ∧ Acc D4 namD os H')
    ⟨[], .nil, rfl, fun r hr => by simp at hr, hdS.same (same_new hD _), (hnS.same (same_new hD _)).cast (by omega), ktS.trans (.new hD), kS.trans (Keep.new hD), hAS.same (same_new hD _), hRS.same (same_new hD _), hOS.same (same_new hD _)⟩ (fun i H3 hi p => ?_) (fun H3 p => ?_)
  · obtain ⟨acc, hB, hl, hg, hd3, ⟨names, hn, hz, h61'⟩, kt3, k3, hAS3, hRS3, hOS3⟩ := p
    have hi : i < k := hi
    refine ⟨rfl, _, rfl, _, rfl, d, c, pn, names, rfl, hd3, hn, nnd, nnc, by omega, by omega, fun j y H4 hy hd4 hn4 k4 => ?_⟩
    obtain ⟨z, rfl⟩ := hz y (List.mem_of_getElem? hy)
    have t4 := k4.tup2 hd3 hn
    refine ⟨_, rfl, _, rfl, d, c, _, 1 + a + b + m, rfl, by omega, hd4, by omega, by omega, fun l H6 hl6 hd6 k6 => ?_⟩
    have t6 := k6.tup1 hd4
    refine ⟨(by show 2 ≤ sizeLine; decide), fun t ht => ?_⟩
    have st := same_new ht (.tup [.str z, vI l])
    have kc : Keep [d, pn] H3 (upd H6 t (.tup [.str z, vI l])) := ((k4.cat k6).cat (.sm st)).wide (by simp)
    have tc : KeepT H3 (upd H6 t (.tup [.str z, vI l])) := (t4.trans t6).trans (.same st)
    have hn6 : (upd H6 t (.tup [.str z, vI l])) pn = some (.lst (names.eraseIdx j)) := st _ _ (k6 _ _ (by simp [nnd]) hn4)
    obtain ⟨vs, e, hlen, hB7, t7⟩ := (hB.keep kc tc (by simp [ndD5, nnD5])).push (x := (z, l)) (.mkNam upd_same) (by omega)
    refine ⟨vs, e, hlen, acc ++ [(z, l)], hB7, by rw [List.length_append, hl]; rfl, fun r hr => ?_, (hd6.same st).keep (S := [D5]) Keep.at1 (by simp [ndD5.symm]) (by simp [ncD5.symm]), ⟨names.eraseIdx j, ?_, fun v hv => hz v (List.mem_of_mem_eraseIdx hv), ?_⟩, (kt3.trans tc).trans t7, ((k3.cat kc).cat .at1).thin (by simp [hpn, fD5]), (hAS3.keep kc tc (by simp [*])).keep Keep.at1 t7 (by simp [nD5D1.symm]), (hRS3.keep kc tc (by simp [*])).keep Keep.at1 t7 (by simp [nD5D3.symm]), (hOS3.keep kc tc (by simp [*])).keep Keep.at1 t7 (by simp [nD5D4.symm])⟩
    · rcases List.mem_append.mp hr with q | q
      · exact hg r q
      · rw [List.mem_singleton.mp q]
        exact hl6
    · rw [upd_ne nnD5.symm]; exact hn6
    · rw [List.length_eraseIdx, if_pos (List.getElem?_eq_some_iff.mp hy).1]; omega
  obtain ⟨cs, hCS, hcl, hcg, hdS, hnS, ktS, kS, hAS, hRS, hOS⟩ := p
  obtain ⟨va, ea, la⟩ := hAS
  obtain ⟨vr, er, lr⟩ := hRS
  obtain ⟨vo, eo, lo⟩ := hOS
  obtain ⟨vc, ec, lc⟩ := hCS
  refine ⟨_, rfl, _, rfl, D3, _, rfl, .inl ⟨SqL.of er, fun pr hpr => ?_⟩⟩
  have s1 := same_new hpr (.tup vr)
  refine ⟨_, rfl, D1, _, rfl, .inl ⟨SqL.of (s1 _ _ ea), fun pa hpa => ?_⟩⟩
  have s2 := s1.trans (same_new hpa (.tup va))
  refine ⟨_, rfl, D4, _, rfl, .inl ⟨SqL.of (s2 _ _ eo), fun po hpo => ?_⟩⟩
  have s3 := s2.trans (same_new hpo (.tup vo))
  refine ⟨_, rfl, D5, _, rfl, .inl ⟨SqL.of (s3 _ _ ec), fun pc hpc => ?_⟩⟩
  have s4 := s3.trans (same_new hpc (.tup vc))
  refine ⟨(by show 6 ≤ sizeLine; decide), fun p hp => ?_⟩
  have s5 := s4.trans (same_new hp (.tup [.str "net", .ref pi, .ref pr, .ref pa, .ref po, .ref pc]))
  have g1 := same_new hpa (.tup va)
  have g2 := same_new hpo (.tup vo)
  have g3 := same_new hpc (.tup vc)
  have g4 := same_new hp (.tup [.str "net", .ref pi, .ref pr, .ref pa, .ref po, .ref pc])
  have hN : NetAt _ p pi pr pa po pc vr va vo vc ⟨is, rs, an, os, cs⟩ := ⟨upd_same, s5 _ _ (ktS _ _ hP), g4 _ _ (g3 _ _ (g2 _ _ (g1 _ _ upd_same))), lr.keep' (.same s5), g4 _ _ (g3 _ _ (g2 _ _ upd_same)), la.keep' (.same s5), g4 _ _ (g3 _ _ upd_same), lo.keep' (.same s5), g4 _ _ upd_same, lc.keep' (.same s5)⟩
  have e1 : (Net.mk is rs an os cs).first = 1 + a + b := by
    show 1 + is.length + rs.length = _
    rw [hil, hrl]
  have e2 : (Net.mk is rs an os cs).size = 1 + a + b + m := by
    show (Net.mk is rs an os cs).first + an.length = _
    rw [e1, hal]
  exact q _ ⟨is, rs, an, os, cs⟩ _ hN.lay ⟨fun r hr => by rw [e2]; exact hrg r hr, fun i p h => by rw [e1]; exact hab i p h, fun r hr => by rw [e2]; exact hog r hr, fun r hr => by rw [e2]; exact hcg r hr⟩ hil hrl hal hol hcl (hdS.same s5) (kS.trans (.of_same s5))
end

end Bf

set_option Elab.async false
set_option linter.all false
set_option maxRecDepth 100000
set_option maxHeartbeats 4000000
namespace Bf
open PySem PySem.Spec PyProof.Rows L2
/-! ### an item of a list or a tuple by draws -/
def spPick (K : PySem.W.Frag) : Sp := fun vs H Q _ => ∃ (d c l : Addr) (xs : List V), vs = [.ref d, .ref l] ∧ DS H d c ∧ l ≠ d ∧ SqL K H l xs ∧ 1 ≤ xs.length ∧ xs.length ≤ 1000 ∧
  ∀ (k : Nat) (y : V) (H' : Hp), xs[k]? = some y → DS H' d c → Keep [d] H H' → Q y H'
def spPickA (K : PySem.W.Frag) : Sp := fun vs H Q _ => ∃ (d c l : Addr) (xs : List V), vs = [.ref d, .ref l] ∧ DS H d c ∧ l ≠ d ∧ (SqL K H l xs ∨ SqT K H l xs) ∧ 1 ≤ xs.length ∧ xs.length ≤ 1000 ∧
  ∀ (k : Nat) (y : V) (H' : Hp), xs[k]? = some y → DS H' d c → Keep [d] H H' → Q y H'
theorem Keep.seqL {S : List Addr} {K : PySem.W.Frag} {H H' : Hp} {a : Addr} {xs : List V} (k : Keep S H H') (n : a ∉ S) (h : SqL K H a xs) : SqL K H' a xs := by
  rcases h with (h | ⟨u, h⟩) | h
  · exact .inl (.inl (k _ _ n h))
  · exact .inl (.inr ⟨u, k _ _ n h⟩)
  · exact .inr h
theorem Keep.seqT {S : List Addr} {K : PySem.W.Frag} {H H' : Hp} {a : Addr} {xs : List V} (k : Keep S H H') (n : a ∉ S) (h : SqT K H a xs) : SqT K H' a xs := by
  rcases h with (h | ⟨u, h⟩) | h
  · exact .inl (.inl (k _ _ n h))
  · exact .inl (.inr ⟨u, k _ _ n h⟩)
  · exact .inr h
section
variable {P : Program} {w : World} {K : PySem.W.Frag} {mg : Str → Option Value} {base : Heap} {f : Addr} {fd : FuncData}
theorem ok_pickA (F : Fun K "_law_pick" "_law_pick" s_law_pick f fd) (T : Txt mg) (D_law_draw : Dn P w K mg base "_law_draw" ["_law_d", "_law_many"] 1 spDraw) : FnOk P w K mg base CX0 2 f fd ["_law_d", "_law_row"] (spPickA K) := by
  refine F.ok sc_law_pick (fun vs H Q E h => ?_) (fun cdv A outer s H vs Q E hr h => ?_)
  · obtain ⟨d, c, l, xs, rfl, _⟩ := h
    rfl
  obtain ⟨d, c, l, xs, rfl, hd, nld, hl, h1, h2, q⟩ := h
  refine ⟨_, (pss_one (ps_ret (pe_ix ix_seq (pv 1) (pe_dn D_law_draw (hr.mono (by omega)) (by rfl) (pa_cons (pv 0) (pa_cons (pe_callB call_len_seq (by rfl) T.n_len (by decide +kernel) (pa_cons (pv 1) pa_nil)) pa_nil))) (fun _ _ => rfl)))), ?_⟩
  refine ⟨_, rfl, _, rfl, _, rfl, l, _, rfl, hl, d, c, _, rfl, hd, by omega, by omega, fun r H' r0 r1 hd' k1 => ?_⟩
  obtain ⟨x, rfl⟩ := Int.eq_ofNat_of_zero_le r0
  have hx : x < xs.length := by omega
  rcases hl with hl | hl
  · exact .inl ⟨l, xs, _, _, rfl, rfl, k1.seqL (by simp [nld]) hl, atI_nat (List.getElem?_eq_getElem hx), q _ _ _ (List.getElem?_eq_getElem hx) hd' k1⟩
  · exact .inr (.inl ⟨l, xs, _, _, rfl, rfl, k1.seqT (by simp [nld]) hl, atI_nat (List.getElem?_eq_getElem hx), q _ _ _ (List.getElem?_eq_getElem hx) hd' k1⟩)
end
/-- the same, of a list -/
theorem Dn.pick {P : Program} {w : World} {K : PySem.W.Frag} {mg : Str → Option Value} {base : Heap} {x : Str} {ps : List Str} {k : Nat} (D : Dn P w K mg base x ps k (spPickA K)) : Dn P w K mg base x ps k (spPick K) := by
  obtain ⟨f, fd, ok, r⟩ := D.ex
  refine ⟨f, fd, ok.imp fun vs H Q E h => ?_, r⟩
  obtain ⟨d, c, l, xs, e, hd, n, hl, h⟩ := h
  exact ⟨d, c, l, xs, e, hd, n, .inl hl, h⟩

theorem erase_perm : ∀ (zs : List V) (k : Nat) (y : V), zs[k]? = some y → (y :: zs.eraseIdx k).Perm zs
  | [], _, _, h => by simp at h
  | z :: zs, 0, y, h => by
    cases h
    exact .refl _
  | z :: zs, k + 1, y, h => (List.Perm.swap z y _).trans (.cons z (erase_perm zs k y (by simpa using h)))
def spShuf (K : PySem.W.Frag) : Sp := fun vs H Q _ => ∃ (d c l : Addr) (xs : List V), vs = [.ref d, .ref l] ∧ DS H d c ∧ l ≠ d ∧ (SqL K H l xs ∨ SqT K H l xs) ∧ xs.length ≤ 1000 ∧
  ∀ (p : Addr) (ys : List V) (H' : Hp), ys.Perm xs → H p = none → H' p = some (.lst ys) → DS H' d c → Keep [d] H H' → Q (.ref p) H'
section
variable {P : Program} {w : World} {K : PySem.W.Frag} {mg : Str → Option Value} {base : Heap} {f : Addr} {fd : FuncData}
theorem ok_shuf (F : Fun K "_law_shuffled" "_law_shuffled" s_law_shuffled f fd) (T : Txt mg) (D_law_draw : Dn P w K mg base "_law_draw" ["_law_d", "_law_many"] 1 spDraw) : FnOk P w K mg base CX0 2 f fd ["_law_d", "_law_row"] (spShuf K) := by
  refine F.ok sc_law_shuffled (fun vs H Q E h => ?_) (fun cdv A outer s H vs Q E hr h => ?_)
  · obtain ⟨d, c, l, xs, rfl, _⟩ := h
    rfl
  obtain ⟨d, c, l, xs, rfl, hd, nld, hl, h2, q⟩ := h
  refine ⟨_, (pss_cons (ps_set (i := 2) sc_law_shuffled.nd rfl (Or.inl rfl) (pe_callTy call_list_of (by rfl) T.n_list (by decide +kernel) (pa_cons (pv 1) pa_nil)))
      (pss_cons (ps_set (i := 3) sc_law_shuffled.nd rfl (Or.inl rfl) (pe_lst pa_nil))
      (pss_cons (ps_for PassesOwn.never rfl (pi_range1 rfl T.n_range (pa_cons (pe_callB call_len_seq (by rfl) T.n_len (by decide +kernel) (pa_cons (pv 2) pa_nil)) pa_nil)) (pg_name (i := 4) sc_law_shuffled.nd rfl (Or.inl rfl)) (pss_one (ps_expr (pe_bm PySem.F.plainAttrs_list PySem.F.slot_list_append PySem.F.type_list_append mt_append (pv 3) (pa_cons (pe_bm PySem.F.plainAttrs_list PySem.F.slot_list_pop PySem.F.type_list_pop mt_popAt (pv 2) (pa_cons (pe_dn D_law_draw (hr.mono (by omega)) (by rfl) (pa_cons (pv 0) (pa_cons (pe_callB call_len_seq (by rfl) T.n_len (by decide +kernel) (pa_cons (pv 2) pa_nil)) pa_nil))) pa_nil)) pa_nil)))))
      (pss_one (ps_ret (pv 3)))))), ?_⟩
  refine ⟨_, rfl, l, xs, rfl, hl, fun L hL => ?_⟩
  obtain ⟨nLd, nLc⟩ := hd.new hL
  have hd1 := hd.same (same_new hL (.lst xs))
  refine ⟨Nat.zero_le _, fun F hF => ?_⟩
  obtain ⟨nFd, nFc⟩ := hd1.new hF
  have nFL : F ≠ L := (ne_of_none upd_same hF).symm
  have s2 := (same_new hL (.lst xs)).trans (same_new hF (.lst []))
  refine ⟨_, rfl, L, xs, rfl, .inl (SqL.of (same_new hF _ _ _ upd_same)), ?_⟩
  have f0 : H F = none := (same_new hL _).free hF
  refine ⟨(xs.length : Int), rfl, (i62 (by omega)).1, (i62 (by omega)).2, for_it walk_range (fun i σ' H' => ∃ (v4 : Option V) (zs ys : List V), σ' = [some (.ref d), some (.ref l), some (.ref L), some (.ref F), v4] ∧ DS H' d c ∧ H' L = some (.lst zs) ∧ H' F = some (.lst ys) ∧ (ys ++ zs).Perm xs ∧ ys.length = i ∧ Keep [d] H H')
    ⟨_, xs, [], rfl, hd1.same (same_new hF _), same_new hF _ _ _ upd_same, upd_same, .refl _, rfl, Keep.of_same s2⟩ (fun _ _ _ _ _ => trivial) (fun i x σ' H' H3 hi p y => ?_) (fun σ' H' p => ?_)⟩
  · obtain ⟨v4, zs, ys, rfl, hd3, hL3, hF3, hp, hyl, k3⟩ := p
    obtain ⟨rfl, rfl⟩ := y
    have hi : i < xs.length := by simpa using hi
    have ln := hp.length_eq
    rw [List.length_append] at ln
    refine ⟨_, rfl, .inl ⟨rfl, _, SqL.of hF3⟩, ?_⟩
    refine ⟨_, rfl, .inl ⟨rfl, _, SqL.of hL3⟩, _, rfl, _, rfl, L, zs, rfl, .inl (SqL.of hL3), d, c, _, rfl, hd3, by omega, by omega, fun r H4 r0 r1 hd4 k4 => ?_⟩
    obtain ⟨x, rfl⟩ := Int.eq_ofNat_of_zero_le r0
    have hx : x < zs.length := by omega
    have hL4 := k4 _ _ (by simp [nLd]) hL3
    have hF4 := k4 _ _ (by simp [nFd]) hF3
    refine ⟨L, zs, _, x, zs[x], rfl, rfl, hL4, by omega, by omega, seqIndex_of r0 (by omega), List.getElem?_eq_getElem hx, ?_⟩
    have hF5 : (upd H4 L (.lst (zs.eraseIdx x))) F = some (.lst ys) := by rw [upd_ne nFL]; exact hF4
    refine ⟨F, ys, _, rfl, rfl, hF5, len1000 (by omega), _, zs.eraseIdx x, ys ++ [zs[x]], rfl, ?_, ?_, upd_same, ?_, by rw [List.length_append, hyl]; rfl, ?_⟩
    · exact (hd4.keep (S := [L]) Keep.at1 (by simp [nLd.symm]) (by simp [nLc.symm])).keep (S := [F]) Keep.at1 (by simp [nFd.symm]) (by simp [nFc.symm])
    · rw [upd_ne nFL.symm, upd_same]
    · rw [List.append_assoc]
      exact (List.Perm.append_left ys (erase_perm zs x _ (List.getElem?_eq_getElem hx))).trans hp
    · exact (((k3.cat k4).cat (Keep.at1 (a := L))).cat (Keep.at1 (a := F))).thin (by simp [hL, f0])
  · obtain ⟨v4, zs, ys, rfl, hd3, hL3, hF3, hp, hyl, k3⟩ := p
    have ln := hp.length_eq
    rw [List.length_append] at ln
    have hz : zs = [] := List.eq_nil_of_length_eq_zero (by omega)
    rw [hz, List.append_nil] at hp
    exact ⟨_, rfl, q F ys _ hp f0 hF3 hd3 k3⟩
end

end Bf

set_option Elab.async false
set_option linter.all false
set_option maxRecDepth 100000
set_option maxHeartbeats 4000000
namespace Bf
open PySem
/-! ### tidy nets -/
def litN (news : List Nat) (l : Nat) : Nat := news.getD (l / 2) 0 ^^^ (l % 2)
def tyStep (first : Nat) (s : List Nat × List (Nat × Nat)) (p : Nat × Nat) : List Nat × List (Nat × Nat) :=
  let x := litN s.1 p.1
  let y := litN s.1 p.2
  let lo := min x y
  let hi := max x y
  if lo = 0 ∨ lo ^^^ 1 = hi then (s.1 ++ [0], s.2) else if lo = 1 ∨ lo = hi then (s.1 ++ [hi], s.2)
  else if (lo, hi) ∈ s.2 then (s.1 ++ [2 * (first + s.2.idxOf (lo, hi))], s.2) else (s.1 ++ [2 * (first + s.2.length)], s.2 ++ [(lo, hi)])
def evens (n : Nat) : List Nat := (List.range n).map (2 * ·)
def tyTo (first : Nat) (ands : List (Nat × Nat)) (i : Nat) : List Nat × List (Nat × Nat) := (ands.take i).foldl (tyStep first) (evens first, [])
def markAll (l : List Nat) (ends : List Nat) : List Nat := ends.foldl (fun l e => l.set (e / 2) 1) l
def needStep (first : Nat) (pairs : List (Nat × Nat)) (l : List Nat) (k : Nat) : List Nat :=
  if l.getD (first + k) 0 = 1 then (l.set ((pairs.getD k (0, 0)).1 / 2) 1).set ((pairs.getD k (0, 0)).2 / 2) 1 else l
def needTo (first : Nat) (pairs : List (Nat × Nat)) (l : List Nat) : Nat → List Nat
  | 0 => l
  | t + 1 => needStep first pairs (needTo first pairs l t) (pairs.length - 1 - t)
def keepTo (first : Nat) (need : List Nat) (pairs : List (Nat × Nat)) : Nat → List Nat × List (Nat × Nat)
  | 0 => (evens first, [])
  | k + 1 =>
    let s := keepTo first need pairs k
    let news := s.1 ++ [2 * (first + s.2.length)]
    if need.getD (first + k) 0 = 1 then (news, s.2 ++ [(litN news (pairs.getD k (0, 0)).1, litN news (pairs.getD k (0, 0)).2)]) else (news, s.2)
def mapR (news : List Nat) (r : Str × Nat × Nat) : Str × Nat × Nat := (r.1, r.2.1, litN news r.2.2)
def mapN (news : List Nat) (r : Str × Nat) : Str × Nat := (r.1, litN news r.2)
def endsL (rows : List (Str × Nat × Nat)) (shown asked : List (Str × Nat)) : List Nat := rows.map (fun r => r.2.2) ++ shown.map (fun r => r.2) ++ asked.map fun r => r.2
def needL (first : Nat) (rows : List (Str × Nat × Nat)) (pairs : List (Nat × Nat)) (shown asked : List (Str × Nat)) : List Nat := needTo first pairs (markAll (List.replicate (first + pairs.length) 0) (endsL rows shown asked)) pairs.length
def closeN (given : List Str) (rows : List (Str × Nat × Nat)) (pairs : List (Nat × Nat)) (shown asked : List (Str × Nat)) : Net :=
  let first := 1 + given.length + rows.length
  let s := keepTo first (needL first rows pairs shown asked) pairs pairs.length
  ⟨given, rows.map (mapR s.1), s.2, shown.map (mapN s.1), asked.map (mapN s.1)⟩
def tidyN (N : Net) : Net :=
  let s := tyTo N.first N.ands N.ands.length
  closeN N.ins (N.regs.map (mapR s.1)) s.2 (N.outs.map (mapN s.1)) (N.cls.map (mapN s.1))
/-! ### literals -/
theorem xor_one (n b : Nat) (h : b < 2) : 2 * n ^^^ b = 2 * n + b := by
  have := @Nat.two_pow_add_eq_or_of_lt
  refine Nat.eq_of_testBit_eq fun j => ?_
  rw [Nat.testBit_xor]
  cases j with
  | zero => simp [Nat.testBit_zero]
  | succ j =>
    rw [Nat.testBit_succ, Nat.testBit_succ, Nat.testBit_succ, show 2 * n / 2 = n by omega, show (2 * n + b) / 2 = n by omega, show b / 2 = 0 by omega]
    simp
theorem lit_lt {x m b : Nat} (h : x < 2 * m) (hb : b < 2) : x ^^^ b < 2 * m := by
  have e : x = 2 * (x / 2) + x % 2 := by omega
  rw [e, ← xor_one (x / 2) (x % 2) (by omega), Nat.xor_assoc]
  have h2 : x % 2 ^^^ b < 2 := Nat.xor_lt_two_pow (n := 1) (by omega) hb
  rw [xor_one _ _ h2]
  omega
def Below (news : List Nat) (m : Nat) : Prop := ∀ x ∈ news, x < 2 * m
theorem Below.getD {news : List Nat} {m n : Nat} (h : Below news m) (hm : 1 ≤ m) : news.getD n 0 < 2 * m := by
  rw [List.getD_eq_getElem?_getD]
  cases e : news[n]? with
  | none => show 0 < _; omega
  | some x => exact h x (List.mem_of_getElem? e)
theorem Below.lit {news : List Nat} {m l : Nat} (h : Below news m) (hm : 1 ≤ m) : litN news l < 2 * m := lit_lt (h.getD hm) (Nat.mod_lt _ (by decide))
theorem Below.mono {news : List Nat} {m m' : Nat} (h : Below news m) (hm : m ≤ m') : Below news m' := fun x hx => by
  have := h x hx
  omega
theorem below_evens (n : Nat) : Below (evens n) n := fun x hx => by
  obtain ⟨k, hk, rfl⟩ := List.mem_map.mp hx
  have := List.mem_range.mp hk
  show 2 * k < _
  omega
theorem evens_len (n : Nat) : (evens n).length = n := by simp [evens]
theorem evens_succ (n : Nat) : evens (n + 1) = evens n ++ [2 * n] := by
  unfold evens
  rw [List.range_succ, List.map_append]
  rfl
def PairsOk (first : Nat) (pairs : List (Nat × Nat)) : Prop := ∀ (i : Nat) (p : Nat × Nat), pairs[i]? = some p → p.1 < 2 * (first + i) ∧ p.2 < 2 * (first + i)
theorem PairsOk.snoc {first : Nat} {pairs : List (Nat × Nat)} {p : Nat × Nat} (h : PairsOk first pairs) (h1 : p.1 < 2 * (first + pairs.length)) (h2 : p.2 < 2 * (first + pairs.length)) : PairsOk first (pairs ++ [p]) := fun i q e => by
  by_cases hi : i < pairs.length
  · rw [List.getElem?_append_left hi] at e
    exact h i q e
  · rw [List.getElem?_append_right (by omega)] at e
    have e0 : i - pairs.length = 0 := by
      cases z : i - pairs.length with
      | zero => rfl
      | succ m => rw [z] at e; simp at e
    rw [e0] at e
    obtain rfl : p = q := Option.some.inj e
    have : i = pairs.length := by omega
    subst this
    exact ⟨h1, h2⟩
theorem tyTo_succ {first : Nat} {ands : List (Nat × Nat)} {i : Nat} {p : Nat × Nat} (h : ands[i]? = some p) : tyTo first ands (i + 1) = tyStep first (tyTo first ands i) p := by
  unfold tyTo
  rw [List.take_add_one, h]
  simp [List.foldl_append]
/-- what a walk of tidying keeps -/
structure TyOk (first : Nat) (s : List Nat × List (Nat × Nat)) (i : Nat) : Prop where
  len : s.1.length = first + i
  below : Below s.1 (first + s.2.length)
  pairs : PairsOk first s.2
  many : s.2.length ≤ i
theorem TyOk.step {first : Nat} {s : List Nat × List (Nat × Nat)} {i : Nat} {p : Nat × Nat} (h : TyOk first s i) (hf : 1 ≤ first) : TyOk first (tyStep first s p) (i + 1) := by
  have hx : litN s.1 p.1 < 2 * (first + s.2.length) := h.below.lit (by omega)
  have hy : litN s.1 p.2 < 2 * (first + s.2.length) := h.below.lit (by omega)
  have push : ∀ v, v < 2 * (first + s.2.length) → TyOk first (s.1 ++ [v], s.2) (i + 1) := fun v hv =>
    ⟨by rw [List.length_append, h.len]; rfl, fun x hm => by
      rcases List.mem_append.mp hm with q | q
      · exact h.below x q
      · rw [List.mem_singleton.mp q]; exact hv, h.pairs, Nat.le_succ_of_le h.many⟩
  unfold tyStep
  simp only []
  split
  · exact push 0 (by omega)
  · split
    · exact push _ (by omega)
    · split
      · rename_i hm
        have := List.idxOf_lt_length_iff.mpr hm
        exact push _ (by omega)
      · refine ⟨by rw [List.length_append, h.len]; rfl, fun x hm => ?_, h.pairs.snoc ?_ ?_, by rw [List.length_append]; have := h.many; show _ + 1 ≤ _; omega⟩
        · have e : (s.2 ++ [(min (litN s.1 p.1) (litN s.1 p.2), max (litN s.1 p.1) (litN s.1 p.2))]).length = s.2.length + 1 := by simp
          rw [e]
          rcases List.mem_append.mp hm with q | q
          · have := h.below x q
            omega
          · rw [List.mem_singleton.mp q]; omega
        · show min _ _ < _
          omega
        · show max _ _ < _
          omega
theorem TyOk.all {first : Nat} {ands : List (Nat × Nat)} (hf : 1 ≤ first) : ∀ i, i ≤ ands.length → TyOk first (tyTo first ands i) i
  | 0, _ => ⟨by simp [tyTo, evens_len], by simpa [tyTo] using below_evens first, fun i p e => by simp [tyTo] at e, by simp [tyTo]⟩
  | i + 1, h => by
    have e : ands[i]? = some ands[i] := List.getElem?_eq_getElem (by omega)
    rw [tyTo_succ e]
    exact (TyOk.all hf i (by omega)).step hf
/-! ### what is needed -/
theorem getD_set (l : List Nat) (i n : Nat) : (l.set i 1).getD n 0 = if n = i ∧ i < l.length then 1 else l.getD n 0 := by
  rw [List.getD_eq_getElem?_getD, List.getD_eq_getElem?_getD, List.getElem?_set]
  by_cases h : i = n
  · subst h
    by_cases hl : i < l.length
    · simp [hl]
    · simp [hl]
  · have : n ≠ i := fun e => h e.symm
    simp [h, this]
def Fl (l : List Nat) (n : Nat) : Prop := l.getD n 0 = 1
theorem Fl.set {l : List Nat} {n : Nat} (h : Fl l n) (i : Nat) : Fl (l.set i 1) n := by
  unfold Fl at *
  rw [getD_set]
  split
  · rfl
  · exact h
theorem Fl.here {l : List Nat} {i : Nat} (h : i < l.length) : Fl (l.set i 1) i := by
  unfold Fl
  rw [getD_set, if_pos ⟨rfl, h⟩]
theorem Fl.of_set {l : List Nat} {i n : Nat} (h : Fl (l.set i 1) n) (hn : n ≠ i) : Fl l n := by
  unfold Fl at *
  rw [getD_set, if_neg (fun z => hn z.1)] at h
  exact h
theorem markAll_len : ∀ (ends l : List Nat), (markAll l ends).length = l.length
  | [], _ => rfl
  | e :: r, l => by
    show (markAll (l.set (e / 2) 1) r).length = _
    rw [markAll_len r, List.length_set]
theorem markAll_fl {n : Nat} : ∀ (ends l : List Nat), Fl l n → Fl (markAll l ends) n
  | [], _, h => h
  | e :: r, l, h => markAll_fl r _ (h.set _)
theorem markAll_end {e : Nat} : ∀ (ends l : List Nat), e ∈ ends → e / 2 < l.length → Fl (markAll l ends) (e / 2)
  | x :: r, l, h, hl => by
    rcases List.mem_cons.mp h with rfl | h
    · exact markAll_fl r _ (Fl.here hl)
    · exact markAll_end r _ h (by rw [List.length_set]; exact hl)
theorem needTo_len (first : Nat) (pairs : List (Nat × Nat)) (l : List Nat) : ∀ t, (needTo first pairs l t).length = l.length
  | 0 => rfl
  | t + 1 => by
    rw [needTo, needStep]
    split
    · rw [List.length_set, List.length_set, needTo_len first pairs l t]
    · exact needTo_len first pairs l t
theorem needTo_fl {first : Nat} {pairs : List (Nat × Nat)} {l : List Nat} {n : Nat} (t : Nat) (h : Fl (needTo first pairs l t) n) : Fl (needTo first pairs l (t + 1)) n := by
  rw [needTo, needStep]
  split
  · exact (h.set _).set _
  · exact h
theorem needTo_mono {first : Nat} {pairs : List (Nat × Nat)} {l : List Nat} {n t : Nat} : ∀ d, Fl (needTo first pairs l t) n → Fl (needTo first pairs l (t + d)) n
  | 0, h => h
  | d + 1, h => needTo_fl (t + d) (needTo_mono d h)
/-- a later step marks no node that is not ahead of its own -/
theorem needTo_back {first : Nat} {pairs : List (Nat × Nat)} {l : List Nat} (ok : PairsOk first pairs) {k t : Nat} (hk : k < pairs.length) (ht : pairs.length - 1 - k ≤ t) (ht2 : t + 1 ≤ pairs.length) (h : Fl (needTo first pairs l (t + 1)) (first + k)) : Fl (needTo first pairs l t) (first + k) := by
  rw [needTo, needStep] at h
  split at h
  · have hlt : pairs.length - 1 - t < pairs.length := by omega
    have e : pairs[pairs.length - 1 - t]? = some pairs[pairs.length - 1 - t] := List.getElem?_eq_getElem hlt
    have o := ok _ _ e
    have eg : pairs.getD (pairs.length - 1 - t) (0, 0) = pairs[pairs.length - 1 - t] := by rw [List.getD_eq_getElem?_getD, e]; rfl
    rw [eg] at h
    exact (h.of_set (by omega)).of_set (by omega)
  · exact h
theorem needTo_at {first : Nat} {pairs : List (Nat × Nat)} {l : List Nat} (ok : PairsOk first pairs) {k : Nat} (hk : k < pairs.length) : ∀ d, pairs.length - 1 - k + d ≤ pairs.length → Fl (needTo first pairs l (pairs.length - 1 - k + d)) (first + k) → Fl (needTo first pairs l (pairs.length - 1 - k)) (first + k)
  | 0, _, h => h
  | d + 1, hd, h => needTo_at ok hk d (by omega) (needTo_back ok hk (by omega) (by omega) h)
theorem need_closed {first : Nat} {pairs : List (Nat × Nat)} {l : List Nat} (ok : PairsOk first pairs) (hl : l.length = first + pairs.length) {k : Nat} {p : Nat × Nat} (e : pairs[k]? = some p) (h : Fl (needTo first pairs l pairs.length) (first + k)) :
    Fl (needTo first pairs l pairs.length) (p.1 / 2) ∧ Fl (needTo first pairs l pairs.length) (p.2 / 2) := by
  have hk : k < pairs.length := (List.getElem?_eq_some_iff.mp e).1
  have o := ok _ _ e
  have h0 : Fl (needTo first pairs l (pairs.length - 1 - k)) (first + k) := needTo_at ok hk (k + 1) (by omega) (by rw [show pairs.length - 1 - k + (k + 1) = pairs.length by omega]; exact h)
  have eg : pairs.getD k (0, 0) = p := by rw [List.getD_eq_getElem?_getD, e]; rfl
  have h1 : needTo first pairs l (pairs.length - 1 - k + 1) = ((needTo first pairs l (pairs.length - 1 - k)).set (p.1 / 2) 1).set (p.2 / 2) 1 := by
    rw [needTo, show pairs.length - 1 - (pairs.length - 1 - k) = k by omega, needStep, if_pos (show _ = 1 from h0), eg]
  have ln := needTo_len first pairs l (pairs.length - 1 - k)
  have a1 : Fl (needTo first pairs l (pairs.length - 1 - k + 1)) (p.1 / 2) := by rw [h1]; exact (Fl.here (by rw [ln, hl]; omega)).set _
  have a2 : Fl (needTo first pairs l (pairs.length - 1 - k + 1)) (p.2 / 2) := by rw [h1]; exact Fl.here (by rw [List.length_set, ln, hl]; omega)
  have b1 := needTo_mono k a1
  have b2 := needTo_mono k a2
  rw [show pairs.length - 1 - k + 1 + k = pairs.length by omega] at b1 b2
  exact ⟨b1, b2⟩
/-! ### what is kept -/
structure KpOk (first : Nat) (need : List Nat) (s : List Nat × List (Nat × Nat)) (k : Nat) : Prop where
  len : s.1.length = first + k
  low : ∀ n, n < first → s.1.getD n 0 < 2 * (first + s.2.length)
  good : ∀ n, n < first + k → Fl need n → s.1.getD n 0 < 2 * (first + s.2.length)
  pairs : PairsOk first s.2
  many : s.2.length ≤ k
theorem getD_app {l : List Nat} {x n : Nat} (h : n < l.length) : (l ++ [x]).getD n 0 = l.getD n 0 := by
  rw [List.getD_eq_getElem?_getD, List.getD_eq_getElem?_getD, List.getElem?_append_left h]
theorem getD_last {l : List Nat} {x : Nat} : (l ++ [x]).getD l.length 0 = x := by
  rw [List.getD_eq_getElem?_getD, List.getElem?_append_right (Nat.le_refl _), Nat.sub_self]
  rfl
theorem KpOk.all {first : Nat} {need : List Nat} {pairs : List (Nat × Nat)} (ok : PairsOk first pairs) (hc : ∀ (k : Nat) (p : Nat × Nat), pairs[k]? = some p → Fl need (first + k) → Fl need (p.1 / 2) ∧ Fl need (p.2 / 2)) :
    ∀ k, k ≤ pairs.length → KpOk first need (keepTo first need pairs k) k
  | 0, _ => by
    have lw : ∀ n, n < first → (evens first).getD n 0 < 2 * (first + 0) := fun n hn => by
      have := below_evens first
      exact this.getD (by omega)
    exact ⟨by simp [keepTo, evens_len], lw, fun n hn _ => lw n (by omega), fun i p e => by simp [keepTo] at e, by simp [keepTo]⟩
  | k + 1, h => by
    have ih := KpOk.all ok hc k (by omega)
    have e : pairs[k]? = some pairs[k] := List.getElem?_eq_getElem (by omega)
    have eg : pairs.getD k (0, 0) = pairs[k] := by rw [List.getD_eq_getElem?_getD, e]; rfl
    have o := ok _ _ e
    rw [keepTo]
    simp only [eg]
    generalize keepTo first need pairs k = s at *
    have lk := ih.len
    split
    · rename_i hn
      have cl := hc k _ e hn
      have g : ∀ l, l < 2 * (first + k) → Fl need (l / 2) → litN (s.1 ++ [2 * (first + s.2.length)]) l < 2 * (first + s.2.length) := fun l hl hf => by
        refine lit_lt ?_ (Nat.mod_lt _ (by decide))
        rw [getD_app (by omega)]
        exact ih.good _ (by omega) hf
      refine ⟨by rw [List.length_append, lk]; rfl, fun n hn' => ?_, fun n hn' hf => ?_, ih.pairs.snoc (g _ o.1 cl.1) (g _ o.2 cl.2), by rw [List.length_append]; have := ih.many; show _ + 1 ≤ _; omega⟩
      · have := ih.low n hn'
        rw [getD_app (by omega), List.length_append]
        show _ < 2 * (first + (s.2.length + 1))
        omega
      · rw [List.length_append]
        show _ < 2 * (first + (s.2.length + 1))
        by_cases hk : n < first + k
        · have := ih.good n hk hf
          rw [getD_app (by omega)]
          omega
        · have : n = s.1.length := by omega
          rw [this, getD_last]
          omega
    · rename_i hn
      refine ⟨by rw [List.length_append, lk]; rfl, fun n hn' => ?_, fun n hn' hf => ?_, ih.pairs, Nat.le_succ_of_le ih.many⟩
      · have := ih.low n hn'
        rw [getD_app (by omega)]
        exact this
      · by_cases hk : n < first + k
        · have := ih.good n hk hf
          rw [getD_app (by omega)]
          exact this
        · have : n = first + k := by omega
          rw [this] at hf
          exact absurd hf hn
/-- the rows are of the pairs -/
structure RowsOk (m : Nat) (rows : List (Str × Nat × Nat)) (shown asked : List (Str × Nat)) : Prop where
  regs : ∀ r ∈ rows, r.2.1 < 2 ∧ r.2.2 < 2 * m
  outs : ∀ r ∈ shown, r.2 < 2 * m
  cls : ∀ r ∈ asked, r.2 < 2 * m
theorem RowsOk.ends {m : Nat} {rows : List (Str × Nat × Nat)} {shown asked : List (Str × Nat)} (h : RowsOk m rows shown asked) : ∀ e ∈ endsL rows shown asked, e < 2 * m := fun e he => by
  rcases List.mem_append.mp he with he | he
  · rcases List.mem_append.mp he with he | he
    · obtain ⟨r, hr, rfl⟩ := List.mem_map.mp he
      exact (h.regs r hr).2
    · obtain ⟨r, hr, rfl⟩ := List.mem_map.mp he
      exact h.outs r hr
  · obtain ⟨r, hr, rfl⟩ := List.mem_map.mp he
    exact h.cls r hr
theorem need_len {first : Nat} (rows : List (Str × Nat × Nat)) (pairs : List (Nat × Nat)) (shown asked : List (Str × Nat)) : (needL first rows pairs shown asked).length = first + pairs.length := by
  rw [needL, needTo_len, markAll_len, List.length_replicate]
theorem close_right {given : List Str} {rows : List (Str × Nat × Nat)} {pairs : List (Nat × Nat)} {shown asked : List (Str × Nat)} (ok : PairsOk (1 + given.length + rows.length) pairs) (R : RowsOk (1 + given.length + rows.length + pairs.length) rows shown asked) :
    (closeN given rows pairs shown asked).Right ∧ (closeN given rows pairs shown asked).ands.length ≤ pairs.length := by
  have hm : (markAll (List.replicate (1 + given.length + rows.length + pairs.length) 0) (endsL rows shown asked)).length = 1 + given.length + rows.length + pairs.length := by rw [markAll_len, List.length_replicate]
  have kp := KpOk.all (need := needL (1 + given.length + rows.length) rows pairs shown asked) ok (fun k p e h => need_closed ok hm e h) pairs.length (Nat.le_refl _)
  have fe : ∀ e ∈ endsL rows shown asked, litN (keepTo (1 + given.length + rows.length) (needL (1 + given.length + rows.length) rows pairs shown asked) pairs pairs.length).1 e < 2 * (1 + given.length + rows.length + (keepTo (1 + given.length + rows.length) (needL (1 + given.length + rows.length) rows pairs shown asked) pairs pairs.length).2.length) := fun e he => by
    have hl := R.ends e he
    refine lit_lt (kp.good _ (by omega) ?_) (Nat.mod_lt _ (by decide))
    have := markAll_end (endsL rows shown asked) (List.replicate (1 + given.length + rows.length + pairs.length) 0) he (by rw [List.length_replicate]; omega)
    have := needTo_mono (first := 1 + given.length + rows.length) (pairs := pairs) (t := 0) pairs.length this
    rw [Nat.zero_add] at this
    exact this
  have fz : (closeN given rows pairs shown asked).first = 1 + given.length + rows.length := by
    show 1 + given.length + (rows.map _).length = _
    rw [List.length_map]
  refine ⟨⟨fun r hr => ?_, fun i p e => ?_, fun r hr => ?_, fun r hr => ?_⟩, kp.many⟩
  · obtain ⟨r0, hr0, rfl⟩ := List.mem_map.mp hr
    refine ⟨(R.regs r0 hr0).1, ?_⟩
    unfold Net.size
    rw [fz]
    exact fe _ (List.mem_append_left _ (List.mem_append_left _ (List.mem_map_of_mem hr0)))
  · rw [fz]
    exact kp.pairs i p e
  · obtain ⟨r0, hr0, rfl⟩ := List.mem_map.mp hr
    unfold Net.size
    rw [fz]
    exact fe _ (List.mem_append_left _ (List.mem_append_right _ (List.mem_map_of_mem hr0)))
  · obtain ⟨r0, hr0, rfl⟩ := List.mem_map.mp hr
    unfold Net.size
    rw [fz]
    exact fe _ (List.mem_append_right _ (List.mem_map_of_mem hr0))
theorem tidy_right {N : Net} (R : N.Right) : (tidyN N).Right ∧ (tidyN N).ands.length ≤ N.ands.length ∧ (tidyN N).first = N.first := by
  have ty := TyOk.all (first := N.first) (ands := N.ands) (by unfold Net.first; omega) N.ands.length (Nat.le_refl _)
  have ef : 1 + N.ins.length + (N.regs.map (mapR (tyTo N.first N.ands N.ands.length).1)).length = N.first := by rw [List.length_map]; rfl
  have lw : ∀ l, litN (tyTo N.first N.ands N.ands.length).1 l < 2 * (N.first + (tyTo N.first N.ands N.ands.length).2.length) := fun l => ty.below.lit (by unfold Net.first; omega)
  have := close_right (given := N.ins) (rows := N.regs.map (mapR (tyTo N.first N.ands N.ands.length).1)) (pairs := (tyTo N.first N.ands N.ands.length).2) (shown := N.outs.map (mapN (tyTo N.first N.ands N.ands.length).1)) (asked := N.cls.map (mapN (tyTo N.first N.ands N.ands.length).1))
    (by rw [ef]; exact ty.pairs) ⟨fun r hr => by
      obtain ⟨r0, hr0, rfl⟩ := List.mem_map.mp hr
      rw [ef]
      exact ⟨(R.regs r0 hr0).1, lw _⟩, fun r hr => by
      obtain ⟨r0, hr0, rfl⟩ := List.mem_map.mp hr
      rw [ef]
      exact lw _, fun r hr => by
      obtain ⟨r0, hr0, rfl⟩ := List.mem_map.mp hr
      rw [ef]
      exact lw _⟩
  refine ⟨this.1, Nat.le_trans this.2 ty.many, ?_⟩
  show 1 + N.ins.length + ((N.regs.map _).map _).length = _
  rw [List.length_map, List.length_map]
  rfl
end Bf

set_option Elab.async false
set_option linter.all false
set_option maxRecDepth 100000
set_option maxHeartbeats 4000000
namespace Bf
open PySem PySem.Spec PyProof.Rows L2
/-! ### a dict of pairs -/
def pkey (p : Nat × Nat) : List Key := [Sum.inl (p.1 : Int), Sum.inl (p.2 : Int)]
def kvP : Nat → List (Nat × Nat) → List (List Key × V)
  | _, [] => []
  | n, p :: r => (pkey p, vI (2 * n)) :: kvP (n + 1) r
theorem pkey_inj {p q : Nat × Nat} (h : pkey p = pkey q) : p = q := by
  unfold pkey at h
  have h1 := Sum.inl.inj (List.cons.inj h).1
  have h2 := Sum.inl.inj (List.cons.inj (List.cons.inj h).2).1
  exact Prod.ext (by omega) (by omega)
theorem kvP_len : ∀ (ps : List (Nat × Nat)) (n : Nat), (kvP n ps).length = ps.length
  | [], _ => rfl
  | _ :: r, n => by rw [kvP, List.length_cons, kvP_len r, List.length_cons]
theorem kvP_get : ∀ (ps : List (Nat × Nat)) (n : Nat) (q : Nat × Nat), valV (kvP n ps) (pkey q) = if q ∈ ps then some (vI (2 * (n + ps.idxOf q))) else none
  | [], _, _ => rfl
  | p :: r, n, q => by
    by_cases h : p = q
    · subst h
      rw [kvP, valV_pos rfl, if_pos (by simp), List.idxOf_cons_self]
      rfl
    · have hn : pkey p ≠ pkey q := fun e => h (pkey_inj e)
      have e1 : valV ((pkey p, vI (2 * n)) :: kvP (n + 1) r) (pkey q) = valV (kvP (n + 1) r) (pkey q) := by
        simp [valV, List.find?_cons, hn]
      have e2 : (q ∈ p :: r) ↔ q ∈ r := by
        simp
        intro z
        exact absurd z.symm h
      rw [kvP, e1, kvP_get r (n + 1) q]
      by_cases hq : q ∈ r
      · have hb : (p == q) = false := by simpa using h
        rw [if_pos hq, if_pos (e2.mpr hq), List.idxOf_cons, hb]
        show some (vI (2 * (n + 1 + r.idxOf q))) = some (vI (2 * (n + (r.idxOf q + 1))))
        rw [show n + 1 + r.idxOf q = n + (r.idxOf q + 1) by omega]
      · rw [if_neg hq, if_neg (fun z => hq (e2.mp z))]
theorem kvP_snoc : ∀ (ps : List (Nat × Nat)) (n : Nat) (q : Nat × Nat), kvP n (ps ++ [q]) = kvP n ps ++ [(pkey q, vI (2 * (n + ps.length)))]
  | [], n, q => rfl
  | p :: r, n, q => by
    rw [List.cons_append, kvP, kvP_snoc r, kvP, List.cons_append, List.length_cons]
    congr 4
    congr 2
    omega
theorem kvP_put {ps : List (Nat × Nat)} {n : Nat} {q : Nat × Nat} (h : q ∉ ps) : putK (kvP n ps) (pkey q) (vI (2 * (n + ps.length))) = kvP n (ps ++ [q]) := by
  have na : ((kvP n ps).any fun kv => decide (kv.1 = pkey q)) = false := by
    have e := kvP_get ps n q
    rw [if_neg h] at e
    unfold valV at e
    rw [List.any_eq_false]
    intro kv hkv
    cases hf : (kvP n ps).find? fun kv => decide (kv.1 = pkey q) with
    | none => exact List.find?_eq_none.mp hf kv hkv
    | some z => rw [hf] at e; cases e
  unfold putK
  rw [na, kvP_snoc]
  rfl
theorem pkey_tup (p : Nat × Nat) : (pkey p).map kV = [vI p.1, vI p.2] := rfl
/-! ### two numbers in order -/
theorem minmax_sorted {x y : Nat} {ns : List Int} (hp : ns.Perm [(x : Int), (y : Int)]) (hs : ns.Pairwise (· ≤ ·)) : ns = [((min x y : Nat) : Int), ((max x y : Nat) : Int)] := by
  have hl := hp.length_eq
  match ns, hl with
  | [a, b], _ =>
    have hab : a ≤ b := by
      have := List.pairwise_cons.mp hs
      exact this.1 b (by simp)
    have ha : a ∈ [(x : Int), (y : Int)] := hp.mem_iff.mp (by simp)
    simp only [List.mem_cons, List.not_mem_nil, or_false] at ha
    rcases ha with rfl | rfl
    · have hb : b = (y : Int) := List.singleton_inj.mp (List.perm_singleton.mp hp.cons_inv)
      subst hb
      rw [Nat.min_eq_left (by omega), Nat.max_eq_right (by omega)]
    · have hb : b = (x : Int) := List.singleton_inj.mp (List.perm_singleton.mp (hp.trans (List.Perm.swap _ _ _)).cons_inv)
      subst hb
      rw [Nat.min_eq_right (by omega), Nat.max_eq_left (by omega)]
end Bf

set_option Elab.async false
set_option linter.all false
set_option maxRecDepth 100000
set_option maxHeartbeats 4000000
namespace Bf
open PySem PySem.Spec PyProof.Rows L2
/-! ### literals, the first and, tidying -/
def spLitV (K : PySem.W.Frag) : Sp := fun vs H Q _ => ∃ (b : Addr) (news : List Nat) (l : Nat), vs = [.ref b, vI l] ∧ SqL K H b (news.map vI) ∧ l / 2 < news.length ∧ Q (vI (litN news l)) H
def spFirst : Sp := fun vs H Q _ => ∃ (v : V) (N : Net), vs = [v] ∧ Lay H v (netD N) ∧ Q (vI N.first) H
def spClosed : Sp := fun vs H Q _ => ∃ (ag ar ap as_ aa : Addr) (vr vp vs_ va : List V) (given : List Str) (rows : List (Str × Nat × Nat)) (pairs : List (Nat × Nat)) (shown asked : List (Str × Nat)), vs = [.ref ag, .ref ar, .ref ap, .ref as_, .ref aa] ∧
  H ag = some (.tup (given.map V.str)) ∧ H ar = some (.lst vr) ∧ LayAll H vr (rows.map regD) ∧ H ap = some (.lst vp) ∧ LayAll H vp (pairs.map pairD) ∧ H as_ = some (.lst vs_) ∧ LayAll H vs_ (shown.map namD) ∧ H aa = some (.lst va) ∧ LayAll H va (asked.map namD) ∧
  PairsOk (1 + given.length + rows.length) pairs ∧ RowsOk (1 + given.length + rows.length + pairs.length) rows shown asked ∧ given.length ≤ 100 ∧ rows.length ≤ 100 ∧ pairs.length ≤ 400 ∧ shown.length ≤ 100 ∧ asked.length ≤ 100 ∧
  ∀ (v : V) (H' : Hp), Same H H' → Lay H' v (netD (closeN given rows pairs shown asked)) → Q v H'
def spTidied : Sp := fun vs H Q _ => ∃ (v : V) (N : Net), vs = [v] ∧ Lay H v (netD N) ∧ N.Right ∧ N.ins.length ≤ 100 ∧ N.regs.length ≤ 100 ∧ N.ands.length ≤ 400 ∧ N.outs.length ≤ 100 ∧ N.cls.length ≤ 100 ∧ ∀ (u : V) (H' : Hp), Same H H' → Lay H' u (netD (tidyN N)) → Q u H'
theorem col2 {H : Hp} {x : V} {r : Str × Nat} (h : Lay H x (namD r)) : ∃ q, x = .ref q ∧ H q = some (.tup [.str r.1, vI r.2]) := h.nam
theorem list_len {H : Hp} {vs : List V} {α : Type} {f : α → PyData} {xs : List α} (h : LayAll H vs (xs.map f)) : vs.length = xs.length := by simpa using h.len
theorem lay_intD {H : Hp} {us : List V} {ns : List Nat} (h : LayAll H us (ns.map intD)) : us = ns.map vI := LayAll.ints_inv h
theorem vI_mul2 (n : Nat) : V.int (2 * (n : Int)) = vI (2 * n) := congrArg V.int (by omega)
section
variable {P : Program} {w : World} {K : PySem.W.Frag} {mg : Str → Option Value} {base : Heap} {f : Addr} {fd : FuncData}
theorem ok_litV (F : Fun K "_law_lit" "_law_lit" s_law_lit f fd) (T : Txt mg) : FnOk P w K mg base CX0 1 f fd ["_law_bits", "_law_literal"] (spLitV K) := by
  refine F.ok sc_law_lit (fun vs H Q E h => ?_) (fun cdv A outer s H vs Q E hr h => ?_)
  · obtain ⟨b, news, l, rfl, _⟩ := h
    rfl
  obtain ⟨b, news, l, rfl, hb, hl, q⟩ := h
  refine ⟨_, (pss_one (ps_ret (pe_op op_xorB (pe_ix ix_list (pv 0) (pe_op op_halfN (pv 1) pe_int) (fun _ _ => rfl)) (pe_op op_odd (pv 1) pe_int)))), ?_⟩
  have e : news[l / 2]? = some news[l / 2] := List.getElem?_eq_getElem hl
  refine ⟨_, rfl, _, rfl, l, rfl, rfl, b, _, _, vI news[l / 2], rfl, rfl, hb, atI_nat (by rw [List.getElem?_map, e]; rfl), _, rfl, l, rfl, rfl, news[l / 2], l % 2, rfl, rfl, ?_⟩
  have e2 : litN news l = news[l / 2] ^^^ (l % 2) := by
    unfold litN
    rw [List.getD_eq_getElem?_getD, e]
    rfl
  rw [e2] at q
  exact q
theorem ok_lfirst (F : Fun K "_law_first" "_law_first" s_law_first f fd) (T : Txt mg) : FnOk P w K mg base CX0 1 f fd ["_law_net_here"] spFirst := by
  refine F.ok sc_law_first (fun vs H Q E h => ?_) (fun cdv A outer s H vs Q E hr h => ?_)
  · obtain ⟨v, N, rfl, _⟩ := h
    rfl
  obtain ⟨v, N, rfl, hv, q⟩ := h
  refine ⟨_, (pss_one (ps_ret (pe_op op_add (pe_op op_add pe_int (pe_callB call_len_seq (by rfl) T.n_len (by decide +kernel) (pa_cons (pe_ix ix_tup (pv 0) pe_int (fun _ _ => rfl)) pa_nil))) (pe_callB call_len_seq (by rfl) T.n_len (by decide +kernel) (pa_cons (pe_ix ix_tup (pv 0) pe_int (fun _ _ => rfl)) pa_nil))))), ?_⟩
  obtain ⟨p, pi, pr, pa, po, pc, vr, va, vo, vc, rfl, hN⟩ := hv.net
  have hl := hN.lens
  refine ⟨_, rfl, p, _, _, _, rfl, rfl, SqT.of hN.top, atI_nat (j := 1) rfl, pi, _, rfl, .inr (SqT.of hN.hi), _, _, rfl, rfl, _, rfl, p, _, _, _, rfl, rfl, SqT.of hN.top, atI_nat (j := 2) rfl, pr, _, rfl, .inr (SqT.of hN.hr), _, _, rfl, rfl, ?_⟩
  refine qI (Q := Q) ?_ q
  rw [List.length_map, hl.1]
  unfold Net.first
  omega
end

end Bf

set_option Elab.async false
set_option linter.all false
set_option maxRecDepth 100000
set_option maxHeartbeats 4000000
namespace Bf
open PySem PySem.Spec PyProof.Rows L2
/-! ### what is closed up -/
theorem markAll_snoc (l : List Nat) (es : List Nat) (e : Nat) : markAll l (es ++ [e]) = (markAll l es).set (e / 2) 1 := by
  unfold markAll
  rw [List.foldl_append]
  rfl
section
variable {P : Program} {w : World} {K : PySem.W.Frag} {mg : Str → Option Value} {base : Heap} {f : Addr} {fd : FuncData}
theorem ok_closed (F : Fun K "_law_closed_up" "_law_closed_up" s_law_closed_up f fd) (T : Txt mg) (D_law_lit : Dn P w K mg base "_law_lit" ["_law_bits", "_law_literal"] 1 (spLitV K)) :
    FnOk P w K mg base CX0 2 f fd ["_law_given", "_law_rows", "_law_pairs", "_law_shown", "_law_asked"] spClosed := by
  refine F.ok sc_law_closed_up (fun vs H Q E h => ?_) (fun cdv A outer s H vs Q E hr h => ?_)
  · obtain ⟨_, _, _, _, _, _, _, _, _, _, _, _, _, _, rfl, _⟩ := h
    rfl
  obtain ⟨ag, ar, ap, as_, aa, vr, vp, vs_, va, given, rows, pairs, shown, asked, rfl, eg, er, lr, ep, lp, es, ls, ea, la, pok, rok, g100, r100, p400, s100, a100, q⟩ := h
  refine ⟨_, (C8.pss_cut (ps_set (i := 5) sc_law_closed_up.nd rfl (Or.inl rfl) (pe_op op_add (pe_op op_add pe_int (pe_callB call_len_seq (by rfl) T.n_len (by decide +kernel) (pa_cons (pv 0) pa_nil))) (pe_callB call_len_seq (by rfl) T.n_len (by decide +kernel) (pa_cons (pv 1) pa_nil))))
      (pss_cons (ps_set (i := 6) sc_law_closed_up.nd rfl (Or.inl rfl) (pe_op op_rep (pe_lst (pa_cons pe_int pa_nil)) (pe_op op_add (pv 5) (pe_callB call_len_seq (by rfl) T.n_len (by decide +kernel) (pa_cons (pv 2) pa_nil)))))
      (pss_cons (ps_for PassesOwn.never rfl (pi_list (pe_op op_cat (pe_op op_cat (pe_lc (own := [("_law_row", 12)]) (g := (gName 12)) (tt := tYes) rfl sc_law_closed_up.nd (pi_list (pv 1)) (blkOk_by (N := ["_law_given", "_law_rows", "_law_pairs", "_law_shown", "_law_asked", "_law_first_here", "_law_needed", "_law_literal", "_law_k", "_law_news", "_law_kept", "_law_node", "_law_row"]) (sc := defScope s_law_closed_up) (by decide +kernel)) (fun _ _ _ _ _ => (pg_name (i := 12) sc_law_closed_up.nd rfl (Or.inl rfl))) (fun _ _ _ _ _ => pts_nil) (fun _ _ _ _ _ => (pe_ix (ix_tup : IxR _ (rIxT K)) (pv 12) pe_int (fun _ _ => rfl)))) (pe_lc (own := [("_law_row", 12)]) (g := (gName 12)) (tt := tYes) rfl sc_law_closed_up.nd (pi_list (pv 3)) (blkOk_by (N := ["_law_given", "_law_rows", "_law_pairs", "_law_shown", "_law_asked", "_law_first_here", "_law_needed", "_law_literal", "_law_k", "_law_news", "_law_kept", "_law_node", "_law_row"]) (sc := defScope s_law_closed_up) (by decide +kernel)) (fun _ _ _ _ _ => (pg_name (i := 12) sc_law_closed_up.nd rfl (Or.inl rfl))) (fun _ _ _ _ _ => pts_nil) (fun _ _ _ _ _ => (pe_ix (ix_tup : IxR _ (rIxT K)) (pv 12) pe_int (fun _ _ => rfl))))) (pe_lc (own := [("_law_row", 12)]) (g := (gName 12)) (tt := tYes) rfl sc_law_closed_up.nd (pi_list (pv 4)) (blkOk_by (N := ["_law_given", "_law_rows", "_law_pairs", "_law_shown", "_law_asked", "_law_first_here", "_law_needed", "_law_literal", "_law_k", "_law_news", "_law_kept", "_law_node", "_law_row"]) (sc := defScope s_law_closed_up) (by decide +kernel)) (fun _ _ _ _ _ => (pg_name (i := 12) sc_law_closed_up.nd rfl (Or.inl rfl))) (fun _ _ _ _ _ => pts_nil) (fun _ _ _ _ _ => (pe_ix (ix_tup : IxR _ (rIxT K)) (pv 12) pe_int (fun _ _ => rfl)))))) (pg_name (i := 7) sc_law_closed_up.nd rfl (Or.inl rfl)) (pss_one (ps_asg pe_int (pg_sub (pv 6) (pe_op op_halfN (pv 7) pe_int) set_list))))
      (pss_cons (ps_for PassesOwn.never rfl (pi_reversed (by rfl) T.n_reversed (pa_cons (pe_listRg rfl (by rfl) T.n_list (prg_1 (by rfl) T.n_range (pe_callB call_len_seq (by rfl) T.n_len (by decide +kernel) (pa_cons (pv 2) pa_nil)))) pa_nil)) (pg_name (i := 8) sc_law_closed_up.nd rfl (Or.inl rfl)) (pss_one (ps_if (pt_cmpR op_eq (pe_ix ix_list (pv 6) (pe_op op_add (pv 5) (pv 8)) (fun _ _ => rfl)) pe_int (nomark _)) (pss_cons (ps_asg pe_int (pg_sub (pv 6) (pe_op op_halfN (pe_ix ix_tup (pe_ix ix_list (pv 2) (pv 8) (fun _ _ => rfl)) pe_int (fun _ _ => rfl)) pe_int) set_list))
      (pss_one (ps_asg pe_int (pg_sub (pv 6) (pe_op op_halfN (pe_ix ix_tup (pe_ix ix_list (pv 2) (pv 8) (fun _ _ => rfl)) pe_int (fun _ _ => rfl)) pe_int) set_list)))) pss_nil)))
      (pss_cons (ps_set (i := 9) sc_law_closed_up.nd rfl (Or.inr rfl) (pe_lc (own := [("_law_node", 11)]) (g := (gName 11)) (tt := tYes) rfl sc_law_closed_up.nd (pi_range1 rfl T.n_range (pa_cons (pv 5) pa_nil)) (blkOk_by (N := ["_law_given", "_law_rows", "_law_pairs", "_law_shown", "_law_asked", "_law_first_here", "_law_needed", "_law_literal", "_law_k", "_law_news", "_law_kept", "_law_node", "_law_row"]) (sc := defScope s_law_closed_up) (by decide +kernel)) (fun _ _ _ _ _ => (pg_name (i := 11) sc_law_closed_up.nd rfl (Or.inl rfl))) (fun _ _ _ _ _ => pts_nil) (fun _ _ _ _ _ => (pe_op op_mul pe_int (pv 11)))))
      (pss_cons (ps_set (i := 10) sc_law_closed_up.nd rfl (Or.inl rfl) (pe_lst pa_nil))
      (pss_cons (ps_for PassesOwn.never rfl (pi_range1 rfl T.n_range (pa_cons (pe_callB call_len_seq (by rfl) T.n_len (by decide +kernel) (pa_cons (pv 2) pa_nil)) pa_nil)) (pg_name (i := 8) sc_law_closed_up.nd rfl (Or.inl rfl)) (pss_cons (ps_expr (pe_bm PySem.F.plainAttrs_list PySem.F.slot_list_append PySem.F.type_list_append mt_append (pv 9) (pa_cons (pe_op op_mul pe_int (pe_op op_add (pv 5) (pe_callB call_len_seq (by rfl) T.n_len (by decide +kernel) (pa_cons (pv 10) pa_nil)))) pa_nil)))
      (pss_one (ps_if (pt_cmpR op_eq (pe_ix ix_list (pv 6) (pe_op op_add (pv 5) (pv 8)) (fun _ _ => rfl)) pe_int (nomark _)) (pss_one (ps_expr (pe_bm PySem.F.plainAttrs_list PySem.F.slot_list_append PySem.F.type_list_append mt_append (pv 10) (pa_cons (pe_tup (pa_cons (pe_dn D_law_lit (hr.mono (by omega)) (by rfl) (pa_cons (pv 9) (pa_cons (pe_ix ix_tup (pe_ix ix_list (pv 2) (pv 8) (fun _ _ => rfl)) pe_int (fun _ _ => rfl)) pa_nil))) (pa_cons (pe_dn D_law_lit (hr.mono (by omega)) (by rfl) (pa_cons (pv 9) (pa_cons (pe_ix ix_tup (pe_ix ix_list (pv 2) (pv 8) (fun _ _ => rfl)) pe_int (fun _ _ => rfl)) pa_nil))) pa_nil))) pa_nil)))) pss_nil))))
      (pss_cons (ps_setLc (i := 1) (own := [("_law_row", 12)]) (g := (gName 12)) (tt := tYes) rfl sc_law_closed_up.nd rfl rfl (sw_true rfl rfl rfl (by decide +kernel)) (pi_list (pv 1)) (blkOk_by (N := ["_law_given", "_law_rows", "_law_pairs", "_law_shown", "_law_asked", "_law_first_here", "_law_needed", "_law_literal", "_law_k", "_law_news", "_law_kept", "_law_node", "_law_row"]) (sc := defScope s_law_closed_up) (by decide +kernel)) (fun _ _ _ _ _ => (pg_name (i := 12) sc_law_closed_up.nd rfl (Or.inl rfl))) (fun _ _ _ _ _ => pts_nil) (fun _ _ _ _ _ => (pe_tup (pa_cons (pe_ix (ix_tup : IxR _ (rIxT K)) (pv 12) pe_int (fun _ _ => rfl)) (pa_cons (pe_ix (ix_tup : IxR _ (rIxT K)) (pv 12) pe_int (fun _ _ => rfl)) (pa_cons (pe_dn D_law_lit (hr.mono (by omega)) (by rfl) (pa_cons (pv 9) (pa_cons (pe_ix (ix_tup : IxR _ (rIxT K)) (pv 12) pe_int (fun _ _ => rfl)) pa_nil))) pa_nil))))))
      (pss_cons (ps_setLc (i := 3) (own := [("_law_row", 12)]) (g := (gName 12)) (tt := tYes) rfl sc_law_closed_up.nd rfl rfl (sw_true rfl rfl rfl (by decide +kernel)) (pi_list (pv 3)) (blkOk_by (N := ["_law_given", "_law_rows", "_law_pairs", "_law_shown", "_law_asked", "_law_first_here", "_law_needed", "_law_literal", "_law_k", "_law_news", "_law_kept", "_law_node", "_law_row"]) (sc := defScope s_law_closed_up) (by decide +kernel)) (fun _ _ _ _ _ => (pg_name (i := 12) sc_law_closed_up.nd rfl (Or.inl rfl))) (fun _ _ _ _ _ => pts_nil) (fun _ _ _ _ _ => (pe_tup (pa_cons (pe_ix (ix_tup : IxR _ (rIxT K)) (pv 12) pe_int (fun _ _ => rfl)) (pa_cons (pe_dn D_law_lit (hr.mono (by omega)) (by rfl) (pa_cons (pv 9) (pa_cons (pe_ix (ix_tup : IxR _ (rIxT K)) (pv 12) pe_int (fun _ _ => rfl)) pa_nil))) pa_nil)))))
      (pss_cons (ps_setLc (i := 4) (own := [("_law_row", 12)]) (g := (gName 12)) (tt := tYes) rfl sc_law_closed_up.nd rfl rfl (sw_true rfl rfl rfl (by decide +kernel)) (pi_list (pv 4)) (blkOk_by (N := ["_law_given", "_law_rows", "_law_pairs", "_law_shown", "_law_asked", "_law_first_here", "_law_needed", "_law_literal", "_law_k", "_law_news", "_law_kept", "_law_node", "_law_row"]) (sc := defScope s_law_closed_up) (by decide +kernel)) (fun _ _ _ _ _ => (pg_name (i := 12) sc_law_closed_up.nd rfl (Or.inl rfl))) (fun _ _ _ _ _ => pts_nil) (fun _ _ _ _ _ => (pe_tup (pa_cons (pe_ix (ix_tup : IxR _ (rIxT K)) (pv 12) pe_int (fun _ _ => rfl)) (pa_cons (pe_dn D_law_lit (hr.mono (by omega)) (by rfl) (pa_cons (pv 9) (pa_cons (pe_ix (ix_tup : IxR _ (rIxT K)) (pv 12) pe_int (fun _ _ => rfl)) pa_nil))) pa_nil)))))
      (pss_one (ps_ret (pe_tup (pa_cons pe_str (pa_cons (pe_callTy call_tuple_of (by rfl) T.n_tuple (by decide +kernel) (pa_cons (pv 0) pa_nil)) (pa_cons (pe_callTy call_tuple_of (by rfl) T.n_tuple (by decide +kernel) (pa_cons (pv 1) pa_nil)) (pa_cons (pe_callTy call_tuple_of (by rfl) T.n_tuple (by decide +kernel) (pa_cons (pv 10) pa_nil)) (pa_cons (pe_callTy call_tuple_of (by rfl) T.n_tuple (by decide +kernel) (pa_cons (pv 3) pa_nil)) (pa_cons (pe_callTy call_tuple_of (by rfl) T.n_tuple (by decide +kernel) (pa_cons (pv 4) pa_nil)) pa_nil))))))))))))))))))), ?_⟩
  have lvr := list_len lr
  have lvp := list_len lp
  obtain ⟨first, hfirst⟩ : ∃ n, n = 1 + given.length + rows.length := ⟨_, rfl⟩
  refine ⟨fun σ' H' => σ' = [some (.ref ag), some (.ref ar), some (.ref ap), some (.ref as_), some (.ref aa), some (vI first), none, none, none, none, none, none, none] ∧ H' = H, ?_, ?_⟩
  · refine ⟨_, rfl, ag, _, rfl, .inr (SqT.of eg), _, _, rfl, rfl, _, rfl, ar, _, rfl, .inl (SqL.of er), _, _, rfl, rfl, ?_, rfl⟩
    show [some (V.ref ag), some (.ref ar), some (.ref ap), some (.ref as_), some (.ref aa), some (V.int (1 + ((given.map V.str).length : Int) + (vr.length : Int))), none, none, none, none, none, none, none] = _
    rw [show V.int (1 + ((given.map V.str).length : Int) + (vr.length : Int)) = vI first from congrArg V.int (by rw [List.length_map]; omega)]
  rintro σ' H' ⟨rfl, rfl⟩
  rw [← hfirst] at pok rok
  refine ⟨by show 1 ≤ sizeLine; decide, fun z0 hz0 => ?_⟩
  have s0 := same_new hz0 (.lst [V.int 0])
  refine ⟨_, rfl, _, rfl, ap, _, rfl, .inl (SqL.of (s0 _ _ ep)), _, _, rfl, rfl, z0, _, [V.int 0], rfl, rfl, upd_same, by omega, by omega, ?_, fun NL hNL => ?_⟩
  · rw [show ((first : Int) + (vp.length : Int)).toNat = first + vp.length by omega]
    show 1 * _ ≤ _
    exact le1000 (by omega)
  have hNL0 := s0.free hNL
  have s1 := s0.trans (same_new hNL (.lst (List.replicate ((first : Int) + (vp.length : Int)).toNat [V.int 0]).flatten))
  have eNL := upd_same (H := upd H' z0 (.lst [V.int 0])) (a := NL) (o := .lst (List.replicate ((first : Int) + (vp.length : Int)).toNat [V.int 0]).flatten)
  rw [show ((first : Int) + (vp.length : Int)).toNat = first + pairs.length by omega, flat_rep] at s1 eNL ⊢
  generalize upd (upd H' z0 (.lst [V.int 0])) NL (.lst ((List.replicate (first + pairs.length) 0).map vI)) = H1 at s1 eNL ⊢
  -- the ends
  refine ⟨_, rfl, ar, rfl, ⟨_, SqL.of (s1 _ _ er)⟩, fun D1 hD1 => ?_⟩
  refine lc_rows (walk_list (xs := vr)) (rows := rows) (f := regD) (g := fun r => r.2.2) (h := intD) (fun H' sm => SqL.of (sm _ _ (s1 _ _ er))) hD1 (lr.keep' (.same s1)) (by omega) (fun i x r H' R Z hr sm lx k => ?_) (fun us1 H2 s2 eD1 lu1 => ?_)
  · obtain ⟨q, rfl, eq⟩ := lx.reg
    exact ⟨rfl, _, rfl, q, _, _, _, rfl, rfl, SqT.of eq, atI_nat (j := 2) rfl, k _ _ (.refl _) (.int _)⟩
  rw [lay_intD lu1] at eD1
  have s12 := s1.trans s2
  refine ⟨_, rfl, as_, rfl, ⟨_, SqL.of (s12 _ _ es)⟩, fun D2 hD2 => ?_⟩
  refine lc_rows (walk_list (xs := vs_)) (rows := shown) (f := namD) (g := fun r => r.2) (h := intD) (fun H' sm => SqL.of (sm _ _ (s12 _ _ es))) hD2 (ls.keep' (.same s12)) (by omega) (fun i x r H' R Z hr sm lx k => ?_) (fun us2 H3 s3 eD2 lu2 => ?_)
  · obtain ⟨q, rfl, eq⟩ := lx.nam
    exact ⟨rfl, _, rfl, q, _, _, _, rfl, rfl, SqT.of eq, atI_nat (j := 1) rfl, k _ _ (.refl _) (.int _)⟩
  rw [lay_intD lu2] at eD2
  have s13 := s12.trans s3
  refine ⟨D1, D2, _, _, rfl, rfl, s3 _ _ eD1, eD2, by rw [List.length_map, List.length_map, List.length_map, List.length_map]; exact le1000 (by omega), fun Z1 hZ1 => ?_⟩
  have s14 := s13.trans (same_new hZ1 (.lst ((rows.map fun r => r.2.2).map vI ++ (shown.map fun r => r.2).map vI)))
  have eZ1 := upd_same (H := H3) (a := Z1) (o := .lst ((rows.map fun r => r.2.2).map vI ++ (shown.map fun r => r.2).map vI))
  have s24 := (s2.trans s3).trans (same_new hZ1 (.lst ((rows.map fun r => r.2.2).map vI ++ (shown.map fun r => r.2).map vI)))
  refine ⟨_, rfl, aa, rfl, ⟨_, SqL.of (s14 _ _ ea)⟩, fun D3 hD3 => ?_⟩
  refine lc_rows (walk_list (xs := va)) (rows := asked) (f := namD) (g := fun r => r.2) (h := intD) (fun H' sm => SqL.of (sm _ _ (s14 _ _ ea))) hD3 (la.keep' (.same s14)) (by omega) (fun i x r H' R Z hr sm lx k => ?_) (fun us3 H5 s5 eD3 lu3 => ?_)
  · obtain ⟨q, rfl, eq⟩ := lx.nam
    exact ⟨rfl, _, rfl, q, _, _, _, rfl, rfl, SqT.of eq, atI_nat (j := 1) rfl, k _ _ (.refl _) (.int _)⟩
  rw [lay_intD lu3] at eD3
  have s15 := s14.trans s5
  refine ⟨Z1, D3, _, _, rfl, rfl, s5 _ _ eZ1, eD3, by rw [List.length_append, List.length_map, List.length_map, List.length_map, List.length_map, List.length_map, List.length_map]; exact le1000 (by omega), fun Z hZ => ?_⟩
  have eEnds : (rows.map fun r => r.2.2).map vI ++ (shown.map fun r => r.2).map vI ++ (asked.map fun r => r.2).map vI = (endsL rows shown asked).map vI := by
    unfold endsL
    rw [List.map_append, List.map_append]
  rw [eEnds]
  have s16 := s15.trans (same_new hZ (.lst ((endsL rows shown asked).map vI)))
  have eZ := upd_same (H := H5) (a := Z) (o := .lst ((endsL rows shown asked).map vI))
  have eNL6 := ((s24.trans s5).trans (same_new hZ (.lst ((endsL rows shown asked).map vI)))) _ _ eNL
  have nZ : NL ≠ Z := ne_of_none ((s24.trans s5) _ _ eNL) hZ
  generalize upd H5 Z (.lst ((endsL rows shown asked).map vI)) = H6 at s16 eZ eNL6 ⊢
  clear eZ1 eD3 eD2 eD1 lu1 lu2 lu3 s24 s15 s14 s13 s12 s5 s3 s2 hZ hZ1 hD3 hD2 hD1 eNL s1 hNL s0 hz0
  refine ⟨Z, rfl, ⟨_, SqL.of eZ⟩, for_it (walk_list (xs := (endsL rows shown asked).map vI)) (fun i σ' H'' => ∃ v7 : Option V, σ' = [some (.ref ag), some (.ref ar), some (.ref ap), some (.ref as_), some (.ref aa), some (vI first), some (.ref NL), v7, none, none, none, none, none] ∧ Same H' H'' ∧ H'' Z = some (.lst ((endsL rows shown asked).map vI)) ∧ H'' NL = some (.lst ((markAll (List.replicate (first + pairs.length) 0) ((endsL rows shown asked).take i)).map vI)))
    ⟨_, rfl, s16, eZ, eNL6⟩ (fun i σ' H' hi p => ?_) (fun i x σ' H7 H8 hi pv y => ?_) (fun σ' H7 pv => ?_)⟩
  · obtain ⟨_, _, _, e, _⟩ := p
    exact SqL.of e
  · obtain ⟨v7, rfl, sm, eZ7, eN7⟩ := pv
    obtain ⟨rfl, hx⟩ := y
    obtain ⟨l, hl, rfl⟩ := natAt hx
    have hlt := rok.ends l (List.mem_of_getElem? hl)
    have hlen : (markAll (List.replicate (first + pairs.length) 0) ((endsL rows shown asked).take i)).length = first + pairs.length := by rw [markAll_len, List.length_replicate]
    refine ⟨_, rfl, _, rfl, l, rfl, rfl, NL, _, _, l / 2, rfl, rfl, eN7, by rw [List.length_map, hlen]; exact ixN_nat (by omega), some (vI l), rfl, same_two sm hNL0, by rw [upd_ne nZ.symm]; exact eZ7, ?_⟩
    rw [upd_same, take_snoc hl, markAll_snoc]
    exact congrArg (fun l => some (HO.lst l)) (set_vI _ _ 1)
  obtain ⟨v7, rfl, sm7, _, eN7⟩ := pv
  rw [List.length_map, List.take_length] at eN7
  generalize eL0 : markAll (List.replicate (first + pairs.length) 0) (endsL rows shown asked) = l0 at eN7
  have ll0 : l0.length = first + pairs.length := by rw [← eL0, markAll_len, List.length_replicate]
  clear s16 eZ eNL6 nZ
  -- what is needed, from the last pair on
  refine ⟨_, rfl, ap, _, rfl, .inl (SqL.of (sm7 _ _ ep)), _, rfl, .of_le (by decide) (by omega) (by decide) (by omega), fun B hB => ?_⟩
  have sB := same_new hB (.lst (rgV 0 (vp.length : Int)))
  have eRg : rgV 0 (vp.length : Int) = (List.range vp.length).map vI := by
    unfold rgV
    rw [show ((vp.length : Int) - 0).toNat = vp.length by omega]
    refine List.map_congr_left fun i _ => ?_
    show V.int _ = V.int _
    congr 1
    omega
  rw [eRg] at sB ⊢
  have eB := upd_same (H := H7) (a := B) (o := .lst ((List.range vp.length).map vI))
  have nB : NL ≠ B := ne_of_none eN7 hB
  have eN8 := sB _ _ eN7
  have s8 := sm7.trans sB
  generalize upd H7 B (.lst ((List.range vp.length).map vI)) = H8 at eB eN8 s8 ⊢
  refine ⟨B, _, rfl, SqL.of eB, for_it (walk_rev (xs := (List.range vp.length).map vI)) (fun i σ' H'' => ∃ v8 : Option V, σ' = [some (.ref ag), some (.ref ar), some (.ref ap), some (.ref as_), some (.ref aa), some (vI first), some (.ref NL), v7, v8, none, none, none, none] ∧ Same H' H'' ∧ H'' B = some (.lst ((List.range vp.length).map vI)) ∧ H'' NL = some (.lst ((needTo first pairs l0 i).map vI)))
    ⟨_, rfl, s8, eB, eN8⟩ (fun i σ' H' hi p => ?_) (fun i x σ' H9 H10 hi pv y => ?_) (fun σ' H9 pv => ?_)⟩
  · obtain ⟨_, _, _, e, _⟩ := p
    exact SqL.of e
  · obtain ⟨v8, rfl, sm, eB9, eN9⟩ := pv
    obtain ⟨rfl, hx⟩ := y
    rw [List.length_map, List.length_range] at hx hi
    obtain ⟨k, hk, rfl⟩ := natAt hx
    have hk2 : k = vp.length - 1 - i := by
      rw [List.getElem?_range (by omega)] at hk
      exact (Option.some.inj hk).symm
    have hkl : k < pairs.length := by omega
    have ln := needTo_len first pairs l0 i
    obtain ⟨pp, hpp⟩ : ∃ p, pairs[k]? = some p := ⟨_, List.getElem?_eq_getElem hkl⟩
    have epg : pairs.getD k (0, 0) = pp := by rw [List.getD_eq_getElem?_getD, hpp]; rfl
    have po := pok k pp hpp
    obtain ⟨vv, hvv, lvv⟩ := (lp.keep' (.same sm)).at_ (d := pairD pp) k (by rw [List.getElem?_map, hpp]; rfl)
    obtain ⟨qq, rfl, eqq⟩ := lvv.pair
    have hfk : (needTo first pairs l0 i)[first + k]? = some (needTo first pairs l0 i)[first + k] := List.getElem?_eq_getElem (by omega)
    have efk : (needTo first pairs l0 i).getD (first + k) 0 = (needTo first pairs l0 i)[first + k] := by rw [List.getD_eq_getElem?_getD, hfk]; rfl
    have est : needTo first pairs l0 (i + 1) = needStep first pairs (needTo first pairs l0 i) k := by rw [needTo, hk2, lvp]
    have hat : atI ((needTo first pairs l0 i).map vI) ((first : Int) + (k : Int)) = some (vI (needTo first pairs l0 i)[first + k]) := by
      rw [show (first : Int) + (k : Int) = ((first + k : Nat) : Int) by omega]
      exact atI_nat (by rw [List.getElem?_map, hfk]; rfl)
    refine ⟨_, rfl, _, rfl, _, rfl, _, _, rfl, rfl, NL, _, _, _, rfl, rfl, SqL.of eN9, hat, rfl, _, rfl, ite2 (fun z => ?_) (fun z => ?_)⟩
    · have e1 : (needTo first pairs l0 i)[first + k] = 1 := by have := V.int.inj (of_decide_eq_true z); omega
      refine ⟨_, rfl, _, rfl, _, rfl, ap, _, _, _, rfl, rfl, SqL.of (sm _ _ ep), atI_nat hvv, qq, _, _, _, rfl, rfl, SqT.of eqq, atI_nat (j := 0) rfl, pp.1, rfl, rfl, NL, _, _, pp.1 / 2, rfl, rfl, eN9, by rw [List.length_map, ln, ll0]; exact ixN_nat (by omega), ?_⟩
      have eN10 : upd H10 NL (.lst (((needTo first pairs l0 i).map vI).set (pp.1 / 2) (V.int 1))) NL = some (.lst (((needTo first pairs l0 i).set (pp.1 / 2) 1).map vI)) := by
        rw [upd_same]
        exact congrArg (fun l => some (HO.lst l)) (set_vI _ _ 1)
      have s10 := same_two (o := .lst (((needTo first pairs l0 i).map vI).set (pp.1 / 2) (V.int 1))) sm hNL0
      have eB10 : upd H10 NL (.lst (((needTo first pairs l0 i).map vI).set (pp.1 / 2) (V.int 1))) B = some (.lst ((List.range vp.length).map vI)) := by rw [upd_ne nB.symm]; exact eB9
      have eqq10 : upd H10 NL (.lst (((needTo first pairs l0 i).map vI).set (pp.1 / 2) (V.int 1))) qq = some (.tup [vI pp.1, vI pp.2]) := by rw [upd_ne (fun z => by rw [z, eN9] at eqq; cases eqq)]; exact eqq
      generalize upd H10 NL (.lst (((needTo first pairs l0 i).map vI).set (pp.1 / 2) (V.int 1))) = H11 at eN10 s10 eB10 eqq10 ⊢
      refine ⟨_, rfl, _, rfl, _, rfl, ap, _, _, _, rfl, rfl, SqL.of (s10 _ _ ep), atI_nat hvv, qq, _, _, _, rfl, rfl, SqT.of eqq10, atI_nat (j := 1) rfl, pp.2, rfl, rfl, NL, _, _, pp.2 / 2, rfl, rfl, eN10, by rw [List.length_map, List.length_set, ln, ll0]; exact ixN_nat (by omega), some (vI k), rfl, same_two s10 hNL0, by rw [upd_ne nB.symm]; exact eB10, ?_⟩
      rw [upd_same, est, needStep, if_pos (by rw [efk, e1]), epg]
      exact congrArg (fun l => some (HO.lst l)) (set_vI _ _ 1)
    · have e1 : ¬ (needTo first pairs l0 i)[first + k] = 1 := fun e => z (decide_eq_true (by rw [e]; rfl))
      refine ⟨some (vI k), rfl, sm, eB9, ?_⟩
      rw [est, needStep, if_neg (by rw [efk]; exact e1)]
      exact eN9
  obtain ⟨v8, rfl, sm9, _, eN9⟩ := pv
  rw [List.length_map, List.length_range, lvp] at eN9
  have eNeed : needTo first pairs l0 pairs.length = needL first rows pairs shown asked := by rw [needL, eL0]
  rw [eNeed] at eN9
  have lneed := need_len (first := first) rows pairs shown asked
  have hc : ∀ (k : Nat) (p : Nat × Nat), pairs[k]? = some p → Fl (needL first rows pairs shown asked) (first + k) → Fl (needL first rows pairs shown asked) (p.1 / 2) ∧ Fl (needL first rows pairs shown asked) (p.2 / 2) := fun k p e h => by
    rw [← eNeed] at h ⊢
    exact need_closed pok ll0 e h
  generalize eND : needL first rows pairs shown asked = need at eN9 lneed hc
  clear eNeed eN8 s8 eB nB sB eRg hB sm7
  -- the news
  refine ⟨_, rfl, (first : Int), rfl, by omega, by omega, fun NW hNW => ?_⟩
  refine lc_rangeL (n := first) (g := fun i => 2 * i) (h := intD) hNW (by omega) (fun i H' R Z hi sm k => ?_) (fun us H10 s10 eNW lus => ?_)
  · refine ⟨rfl, _, rfl, _, _, rfl, rfl, .inl ⟨by decide, by decide⟩, k _ _ (.refl _) ?_⟩
    show Lay _ (V.int (2 * (0 + (i : Int)))) (PyData.int ((2 * i : Nat) : Int))
    rw [show (2 * (0 + (i : Int))) = ((2 * i : Nat) : Int) by omega]
    exact .int _
  rw [lay_intD lus] at eNW
  have s910 := sm9.trans s10
  have eN10 := s10 _ _ eN9
  have hNW0 := sm9.free hNW
  refine ⟨Nat.zero_le _, fun KP hKP => ?_⟩
  have hKP0 := s910.free hKP
  have s11 := s910.trans (same_new hKP (.lst []))
  have eNW11 := same_new hKP (.lst []) _ _ eNW
  have eN11 := same_new hKP (.lst []) _ _ eN10
  have eKP11 := upd_same (H := H10) (a := KP) (o := .lst [])
  have nNW_N : NW ≠ NL := fun z => by rw [z, eN9] at hNW; cases hNW
  have nKP_NW : KP ≠ NW := (ne_of_none eNW hKP).symm
  have nKP_N : KP ≠ NL := (ne_of_none eN10 hKP).symm
  generalize upd H10 KP (.lst []) = H11 at s11 eNW11 eN11 eKP11 ⊢
  refine ⟨_, rfl, ap, _, rfl, .inl (SqL.of (s11 _ _ ep)), (vp.length : Int), rfl, by omega, by omega, for_it walk_range (fun i σ' H'' => ∃ (v8 : Option V) (kp : List V), σ' = [some (.ref ag), some (.ref ar), some (.ref ap), some (.ref as_), some (.ref aa), some (vI first), some (.ref NL), v7, v8, some (.ref NW), some (.ref KP), none, none] ∧ Same H' H'' ∧
      H'' NL = some (.lst (need.map vI)) ∧ H'' NW = some (.lst ((keepTo first need pairs i).1.map vI)) ∧ H'' KP = some (.lst kp) ∧ LayAll H'' kp ((keepTo first need pairs i).2.map pairD))
    ⟨_, [], rfl, s11, eN11, eNW11, eKP11, .nil⟩ (fun _ _ _ _ _ => trivial) (fun i x σ' H12 H13 hi pv y => ?_) (fun σ' H12 pv => ?_)⟩
  · obtain ⟨v8, kp, rfl, sm, eN12, eNW12, eKP12, lkp⟩ := pv
    obtain ⟨rfl, rfl⟩ := y
    have hi' : i < pairs.length := by have : i < vp.length := by simpa using hi
                                      omega
    have kok := KpOk.all (need := need) pok hc i (by omega)
    have lkl := list_len lkp
    have km := kok.many
    obtain ⟨pp, hpp⟩ : ∃ p, pairs[i]? = some p := ⟨_, List.getElem?_eq_getElem hi'⟩
    have epg : pairs.getD i (0, 0) = pp := by rw [List.getD_eq_getElem?_getD, hpp]; rfl
    have po := pok i pp hpp
    have hfk : need[first + i]? = some need[first + i] := List.getElem?_eq_getElem (by omega)
    have efk : need.getD (first + i) 0 = need[first + i] := by rw [List.getD_eq_getElem?_getD, hfk]; rfl
    have hat : atI (need.map vI) ((first : Int) + (0 + (i : Int))) = some (vI need[first + i]) := by
      rw [show (first : Int) + (0 + (i : Int)) = ((first + i : Nat) : Int) by omega]
      exact atI_nat (by rw [List.getElem?_map, hfk]; rfl)
    refine ⟨_, rfl, .inl ⟨rfl, _, SqL.of eNW12⟩, _, rfl, _, rfl, KP, _, rfl, .inl (SqL.of eKP12), _, _, rfl, rfl, _, _, rfl, rfl, .inl ⟨by decide, by decide⟩, NW, _, _, rfl, rfl, eNW12, by rw [List.length_map, kok.len]; exact small1000 (by omega), ?_⟩
    have eV : V.int (2 * ((first : Int) + (kp.length : Int))) = vI (2 * (first + (keepTo first need pairs i).2.length)) := congrArg V.int (by rw [lkl]; omega)
    have eLst : (keepTo first need pairs i).1.map vI ++ [V.int (2 * ((first : Int) + (kp.length : Int)))] = ((keepTo first need pairs i).1 ++ [2 * (first + (keepTo first need pairs i).2.length)]).map vI := by rw [eV, List.map_append]; rfl
    have s13 := same_two (o := .lst ((keepTo first need pairs i).1.map vI ++ [V.int (2 * ((first : Int) + (kp.length : Int)))])) sm hNW0
    have eNW13 := upd_same (H := H13) (a := NW) (o := .lst ((keepTo first need pairs i).1.map vI ++ [V.int (2 * ((first : Int) + (kp.length : Int)))]))
    have eN13 : upd H13 NW (.lst ((keepTo first need pairs i).1.map vI ++ [V.int (2 * ((first : Int) + (kp.length : Int)))])) NL = _ := (upd_ne nNW_N.symm).trans eN12
    have eKP13 : upd H13 NW (.lst ((keepTo first need pairs i).1.map vI ++ [V.int (2 * ((first : Int) + (kp.length : Int)))])) KP = _ := (upd_ne nKP_NW).trans eKP12
    have lkp13 := lkp.keep' (.lst (o := .lst ((keepTo first need pairs i).1.map vI ++ [V.int (2 * ((first : Int) + (kp.length : Int)))])) eNW12)
    have llp13 := (lp.keep' (.same sm)).keep' (.lst (o := .lst ((keepTo first need pairs i).1.map vI ++ [V.int (2 * ((first : Int) + (kp.length : Int)))])) eNW12)
    rw [eLst] at s13 eNW13 eN13 eKP13 lkp13 llp13 ⊢
    generalize upd H13 NW (.lst (((keepTo first need pairs i).1 ++ [2 * (first + (keepTo first need pairs i).2.length)]).map vI)) = H14 at s13 eNW13 eN13 eKP13 lkp13 llp13 ⊢
    obtain ⟨vv, hvv, lvv⟩ := llp13.at_ (d := pairD pp) i (by rw [List.getElem?_map, hpp]; rfl)
    obtain ⟨qq, rfl, eqq⟩ := lvv.pair
    have hvp : atI vp (0 + (i : Int)) = some (.ref qq) := by rw [Int.zero_add]; exact atI_nat hvv
    refine ⟨_, rfl, _, rfl, _, rfl, _, _, rfl, rfl, NL, _, _, _, rfl, rfl, SqL.of eN13, hat, rfl, _, rfl, ite2 (fun z => ?_) (fun z => ?_)⟩
    · have e1 : need[first + i] = 1 := by have := V.int.inj (of_decide_eq_true z); omega
      have eK : keepTo first need pairs (i + 1) = ((keepTo first need pairs i).1 ++ [2 * (first + (keepTo first need pairs i).2.length)], (keepTo first need pairs i).2 ++ [(litN ((keepTo first need pairs i).1 ++ [2 * (first + (keepTo first need pairs i).2.length)]) pp.1, litN ((keepTo first need pairs i).1 ++ [2 * (first + (keepTo first need pairs i).2.length)]) pp.2)]) := by
        rw [keepTo]
        simp only [epg]
        rw [if_pos (by rw [efk]; exact e1)]
      have ln14 : ((keepTo first need pairs i).1 ++ [2 * (first + (keepTo first need pairs i).2.length)]).length = first + i + 1 := by rw [List.length_append, kok.len]; rfl
      refine ⟨_, rfl, .inl ⟨rfl, _, SqL.of eKP13⟩, ?_⟩
      refine ⟨_, rfl, _, rfl, _, rfl, ap, _, _, _, rfl, rfl, SqL.of (s13 _ _ ep), hvp, qq, _, _, _, rfl, rfl, SqT.of eqq, atI_nat (j := 0) rfl, NW, _, pp.1, rfl, SqL.of eNW13, by omega, ?_⟩
      refine ⟨_, rfl, _, rfl, _, rfl, ap, _, _, _, rfl, rfl, SqL.of (s13 _ _ ep), hvp, qq, _, _, _, rfl, rfl, SqT.of eqq, atI_nat (j := 1) rfl, NW, _, pp.2, rfl, SqL.of eNW13, by omega, ?_⟩
      refine ⟨by show 2 ≤ sizeLine; decide, fun u hu => ?_⟩
      have su := same_new hu (.tup [vI (litN ((keepTo first need pairs i).1 ++ [2 * (first + (keepTo first need pairs i).2.length)]) pp.1), vI (litN ((keepTo first need pairs i).1 ++ [2 * (first + (keepTo first need pairs i).2.length)]) pp.2)])
      refine ⟨KP, _, _, rfl, rfl, su _ _ eKP13, len1000 (by omega), some (.int (0 + (i : Int))), kp ++ [.ref u], rfl, same_two (s13.trans su) hKP0, by rw [upd_ne nKP_N.symm]; exact su _ _ eN13, by rw [upd_ne nKP_NW.symm, eK]; exact su _ _ eNW13, upd_same, ?_⟩
      rw [eK, List.map_append]
      exact ((lkp13.keep' (.same su)).snoc (.mkPair upd_same)).keep' (.lst (su _ _ eKP13))
    · have e1 : ¬ need[first + i] = 1 := fun e => z (decide_eq_true (by rw [e]; rfl))
      have eK : keepTo first need pairs (i + 1) = ((keepTo first need pairs i).1 ++ [2 * (first + (keepTo first need pairs i).2.length)], (keepTo first need pairs i).2) := by
        rw [keepTo]
        exact if_neg (by rw [efk]; exact e1)
      refine ⟨some (.int (0 + (i : Int))), kp, rfl, s13, eN13, ?_, eKP13, ?_⟩
      · rw [eK]; exact eNW13
      · rw [eK]; exact lkp13
  obtain ⟨v8', kp, rfl, sm12, eN12, eNW12, eKP12, lkp⟩ := pv
  rw [show ((vp.length : Int)).toNat = pairs.length by omega] at eNW12 lkp
  have kok := KpOk.all (need := need) pok hc pairs.length (Nat.le_refl _)
  have lnw := kok.len
  have kml := kok.many
  have lkl := list_len lkp
  generalize eKK : keepTo first need pairs pairs.length = KK at eNW12 lkp kok lnw kml lkl
  obtain ⟨news, kept⟩ := KK
  clear s11 eNW11 eN11 eKP11 s910 eN10 eNW lus
  -- the rows
  refine ⟨_, rfl, ar, rfl, ⟨_, SqL.of (sm12 _ _ er)⟩, fun D1 hD1 => ?_⟩
  refine lc_rows (walk_list (xs := vr)) (rows := rows) (f := regD) (g := mapR news) (h := regD) (fun H' sm => SqL.of (sm _ _ (sm12 _ _ er))) hD1 (lr.keep' (.same sm12)) (by omega) (fun i x r H' R Z hr sm lx k => ?_) (fun us1 H2 s2 eD1 lu1 => ?_)
  · obtain ⟨q, rfl, eq⟩ := lx.reg
    have hrl := (rok.regs r (List.mem_of_getElem? hr)).2
    refine ⟨rfl, _, rfl, q, _, _, _, rfl, rfl, SqT.of eq, atI_nat (j := 0) rfl, _, rfl, q, _, _, _, rfl, rfl, SqT.of eq, atI_nat (j := 1) rfl, _, rfl, _, rfl, q, _, _, _, rfl, rfl, SqT.of eq, atI_nat (j := 2) rfl, NW, news, r.2.2, rfl, SqL.of (sm _ _ eNW12), by simp only [] at lnw; omega, by show 3 ≤ sizeLine; decide, fun u hu => k _ _ (same_new hu _) (.mkReg upd_same)⟩
  have s12 := sm12.trans s2
  have eNW2 := s2 _ _ eNW12
  refine ⟨_, rfl, as_, rfl, ⟨_, SqL.of (s12 _ _ es)⟩, fun D2 hD2 => ?_⟩
  refine lc_rows (walk_list (xs := vs_)) (rows := shown) (f := namD) (g := mapN news) (h := namD) (fun H' sm => SqL.of (sm _ _ (s12 _ _ es))) hD2 (ls.keep' (.same s12)) (by omega) (fun i x r H' R Z hr sm lx k => ?_) (fun us2 H3 s3 eD2 lu2 => ?_)
  · obtain ⟨q, rfl, eq⟩ := lx.nam
    have hrl := rok.outs r (List.mem_of_getElem? hr)
    refine ⟨rfl, _, rfl, q, _, _, _, rfl, rfl, SqT.of eq, atI_nat (j := 0) rfl, _, rfl, _, rfl, q, _, _, _, rfl, rfl, SqT.of eq, atI_nat (j := 1) rfl, NW, news, r.2, rfl, SqL.of (sm _ _ eNW2), by simp only [] at lnw; omega, by show 2 ≤ sizeLine; decide, fun u hu => k _ _ (same_new hu _) (.mkNam upd_same)⟩
  have s13 := s12.trans s3
  have eNW3 := s3 _ _ eNW2
  refine ⟨_, rfl, aa, rfl, ⟨_, SqL.of (s13 _ _ ea)⟩, fun D3 hD3 => ?_⟩
  refine lc_rows (walk_list (xs := va)) (rows := asked) (f := namD) (g := mapN news) (h := namD) (fun H' sm => SqL.of (sm _ _ (s13 _ _ ea))) hD3 (la.keep' (.same s13)) (by omega) (fun i x r H' R Z hr sm lx k => ?_) (fun us3 H4 s4 eD3 lu3 => ?_)
  · obtain ⟨q, rfl, eq⟩ := lx.nam
    have hrl := rok.cls r (List.mem_of_getElem? hr)
    refine ⟨rfl, _, rfl, q, _, _, _, rfl, rfl, SqT.of eq, atI_nat (j := 0) rfl, _, rfl, _, rfl, q, _, _, _, rfl, rfl, SqT.of eq, atI_nat (j := 1) rfl, NW, news, r.2, rfl, SqL.of (sm _ _ eNW3), by simp only [] at lnw; omega, by show 2 ≤ sizeLine; decide, fun u hu => k _ _ (same_new hu _) (.mkNam upd_same)⟩
  have s14 := s13.trans s4
  have eD1' := s4 _ _ (s3 _ _ eD1)
  have eD2' := s4 _ _ eD2
  have eKP4 := s4 _ _ (s3 _ _ (s2 _ _ eKP12))
  have lu1' := lu1.keep' (.same (s3.trans s4))
  have lu2' := lu2.keep' (.same s4)
  have lkp4 := lkp.keep' (.same ((s2.trans s3).trans s4))
  clear s2 s3 s4 s12 s13 eD1 eD2 lu1 lu2 lkp eKP12 eNW12 eNW2 eNW3 eN12 sm12 hD1 hD2 hD3
  refine ⟨_, rfl, ag, _, rfl, .inr ⟨SqT.of (s14 _ _ eg), ?_⟩⟩
  refine ⟨_, rfl, D1, _, rfl, .inl ⟨SqL.of eD1', fun t1 h1 => ?_⟩⟩
  have q1 := same_new h1 (.tup us1)
  refine ⟨_, rfl, KP, _, rfl, .inl ⟨SqL.of (q1 _ _ eKP4), fun t2 h2 => ?_⟩⟩
  have q2 := same_new h2 (.tup kp)
  refine ⟨_, rfl, D2, _, rfl, .inl ⟨SqL.of ((q1.trans q2) _ _ eD2'), fun t3 h3 => ?_⟩⟩
  have q3 := same_new h3 (.tup us2)
  refine ⟨_, rfl, D3, _, rfl, .inl ⟨SqL.of (((q1.trans q2).trans q3) _ _ eD3), fun t4 h4 => ?_⟩⟩
  have q4 := same_new h4 (.tup us3)
  refine ⟨by show 6 ≤ sizeLine; decide, fun tt ht => ?_⟩
  have q5 := same_new ht (.tup [.str "net", .ref ag, .ref t1, .ref t2, .ref t3, .ref t4])
  have q15 := (((q1.trans q2).trans q3).trans q4).trans q5
  have eClose : closeN given rows pairs shown asked = ⟨given, rows.map (mapR news), kept, shown.map (mapN news), asked.map (mapN news)⟩ := by
    unfold closeN
    simp only [← hfirst, eND, eKK]
  rw [eClose] at q
  refine q _ _ (s14.trans q15) (NetAt.lay ⟨upd_same, (s14.trans q15) _ _ eg, ((((q2.trans q3).trans q4).trans q5) _ _ upd_same), lu1'.keep' (.same q15), (((q3.trans q4).trans q5) _ _ upd_same), lkp4.keep' (.same q15), ((q4.trans q5) _ _ upd_same), lu2'.keep' (.same q15), q5 _ _ upd_same, lu3.keep' (.same q15)⟩)
end

end Bf

set_option Elab.async false
set_option linter.all false
set_option maxRecDepth 100000
set_option maxHeartbeats 4000000
namespace Bf
open PySem PySem.Spec PyProof.Rows L2
/-! ### the tidy net -/
section
variable {P : Program} {w : World} {K : PySem.W.Frag} {mg : Str → Option Value} {base : Heap} {f : Addr} {fd : FuncData}
theorem lit_at {news : List Nat} {l first i : Nat} (hl : news.length = first + i) (h : l < 2 * (first + i)) : l / 2 < news.length := by omega
theorem ok_tidied (F : Fun K "_law_tidied" "_law_tidied" s_law_tidied f fd) (T : Txt mg) (D_law_lit : Dn P w K mg base "_law_lit" ["_law_bits", "_law_literal"] 1 (spLitV K))
    (D_law_closed_up : Dn P w K mg base "_law_closed_up" ["_law_given", "_law_rows", "_law_pairs", "_law_shown", "_law_asked"] 2 spClosed) :
    FnOk P w K mg base CX0 3 f fd ["_law_net_here"] spTidied := by
  refine F.ok sc_law_tidied (fun vs H Q E h => ?_) (fun cdv A outer s H vs Q E hr h => ?_)
  · obtain ⟨_, _, rfl, _⟩ := h
    rfl
  obtain ⟨v, N, rfl, hv, R, i100, r100, a400, o100, c100, q⟩ := h
  refine ⟨_, (C8.pss_cut (ps_set (i := 1) sc_law_tidied.nd rfl (Or.inl rfl) (pe_op op_add (pe_op op_add pe_int (pe_callB call_len_seq (by rfl) T.n_len (by decide +kernel) (pa_cons (pe_ix ix_tup (pv 0) pe_int (fun _ _ => rfl)) pa_nil))) (pe_callB call_len_seq (by rfl) T.n_len (by decide +kernel) (pa_cons (pe_ix ix_tup (pv 0) pe_int (fun _ _ => rfl)) pa_nil))))
      (pss_cons (ps_set (i := 2) sc_law_tidied.nd rfl (Or.inr rfl) (pe_lc (own := [("_law_node", 12)]) (g := (gName 12)) (tt := tYes) rfl sc_law_tidied.nd (pi_range1 rfl T.n_range (pa_cons (pv 1) pa_nil)) (blkOk_by (N := ["_law_net_here", "_law_first_here", "_law_news", "_law_pairs", "_law_known", "_law_left", "_law_right", "_law_low", "_law_high", "_law_rows", "_law_shown", "_law_asked", "_law_node", "_law_row"]) (sc := defScope s_law_tidied) (by decide +kernel)) (fun _ _ _ _ _ => (pg_name (i := 12) sc_law_tidied.nd rfl (Or.inl rfl))) (fun _ _ _ _ _ => pts_nil) (fun _ _ _ _ _ => (pe_op op_mul pe_int (pv 12)))))
      (pss_cons (ps_set (i := 3) sc_law_tidied.nd rfl (Or.inl rfl) (pe_lst pa_nil))
      (pss_cons (ps_set (i := 4) sc_law_tidied.nd rfl (Or.inl rfl) pe_dnewT)
      (pss_cons (ps_for PassesOwn.never rfl (pi_tup (pe_ix ix_tup (pv 0) pe_int (fun _ _ => rfl))) (pg_tup rfl (pgs_cons (pg_name (i := 5) sc_law_tidied.nd rfl (Or.inl rfl)) (pgs_cons (pg_name (i := 6) sc_law_tidied.nd rfl (Or.inl rfl)) pgs_nil))) (pss_cons (ps_asg (pe_callB cr_sortedI (by rfl) T.n_sorted (by decide +kernel) (pa_cons (pe_lst (pa_cons (pe_dn D_law_lit (hr.mono (by omega)) (by rfl) (pa_cons (pv 2) (pa_cons (pv 5) pa_nil))) (pa_cons (pe_dn D_law_lit (hr.mono (by omega)) (by rfl) (pa_cons (pv 2) (pa_cons (pv 6) pa_nil))) pa_nil))) pa_nil)) (pg_unl rfl (pgs_cons (pg_name (i := 7) sc_law_tidied.nd rfl (Or.inl rfl)) (pgs_cons (pg_name (i := 8) sc_law_tidied.nd rfl (Or.inl rfl)) pgs_nil))))
      (pss_one (ps_if (PW.pt (pw_or (pt_cmpR op_eq (pv 7) pe_int (nomark _)) (pw_or1 (pt_cmpR op_eq (pe_op op_xorB (pv 7) pe_int) (pv 8) (nomark _))))) (pss_one (ps_expr (pe_bm PySem.F.plainAttrs_list PySem.F.slot_list_append PySem.F.type_list_append mt_append (pv 2) (pa_cons pe_int pa_nil)))) (pss_one (ps_if (PW.pt (pw_or (pt_cmpR op_eq (pv 7) pe_int (nomark _)) (pw_or1 (pt_cmpR op_eq (pv 7) (pv 8) (nomark _))))) (pss_one (ps_expr (pe_bm PySem.F.plainAttrs_list PySem.F.slot_list_append PySem.F.type_list_append mt_append (pv 2) (pa_cons (pv 8) pa_nil)))) (C8.pss_cut (ps_if (pt_cmp (pc_dnotin (hu_of hr) (pe_tup (pa_cons (pv 7) (pa_cons (pv 8) pa_nil))) (pv 4))) (pss_cons (ps_dput (hu_of hr) (pv 4) (pe_tup (pa_cons (pv 7) (pa_cons (pv 8) pa_nil))) (pe_op op_mul pe_int (pe_op op_add (pv 1) (pe_callB call_len_seq (by rfl) T.n_len (by decide +kernel) (pa_cons (pv 3) pa_nil)))) rfl)
      (pss_one (ps_expr (pe_bm PySem.F.plainAttrs_list PySem.F.slot_list_append PySem.F.type_list_append mt_append (pv 3) (pa_cons (pe_tup (pa_cons (pv 7) (pa_cons (pv 8) pa_nil))) pa_nil))))) pss_nil)
      (pss_one (ps_expr (pe_bm PySem.F.plainAttrs_list PySem.F.slot_list_append PySem.F.type_list_append mt_append (pv 2) (pa_cons (pe_dget (hu_of hr) (pv 4) (pe_tup (pa_cons (pv 7) (pa_cons (pv 8) pa_nil))) (fun _ _ => rfl)) pa_nil)))))))))))
      (pss_cons (ps_setLc (i := 9) (own := [("_law_row", 13)]) (g := (gName 13)) (tt := tYes) rfl sc_law_tidied.nd rfl rfl (sw_true rfl rfl rfl (by decide +kernel)) (pi_tup (pe_ix ix_tup (pv 0) pe_int (fun _ _ => rfl))) (blkOk_by (N := ["_law_net_here", "_law_first_here", "_law_news", "_law_pairs", "_law_known", "_law_left", "_law_right", "_law_low", "_law_high", "_law_rows", "_law_shown", "_law_asked", "_law_node", "_law_row"]) (sc := defScope s_law_tidied) (by decide +kernel)) (fun _ _ _ _ _ => (pg_name (i := 13) sc_law_tidied.nd rfl (Or.inl rfl))) (fun _ _ _ _ _ => pts_nil) (fun _ _ _ _ _ => (pe_tup (pa_cons (pe_ix (ix_tup : IxR _ (rIxT K)) (pv 13) pe_int (fun _ _ => rfl)) (pa_cons (pe_ix (ix_tup : IxR _ (rIxT K)) (pv 13) pe_int (fun _ _ => rfl)) (pa_cons (pe_dn D_law_lit (hr.mono (by omega)) (by rfl) (pa_cons (pv 2) (pa_cons (pe_ix (ix_tup : IxR _ (rIxT K)) (pv 13) pe_int (fun _ _ => rfl)) pa_nil))) pa_nil))))))
      (pss_cons (ps_setLc (i := 10) (own := [("_law_row", 13)]) (g := (gName 13)) (tt := tYes) rfl sc_law_tidied.nd rfl rfl (sw_true rfl rfl rfl (by decide +kernel)) (pi_tup (pe_ix ix_tup (pv 0) pe_int (fun _ _ => rfl))) (blkOk_by (N := ["_law_net_here", "_law_first_here", "_law_news", "_law_pairs", "_law_known", "_law_left", "_law_right", "_law_low", "_law_high", "_law_rows", "_law_shown", "_law_asked", "_law_node", "_law_row"]) (sc := defScope s_law_tidied) (by decide +kernel)) (fun _ _ _ _ _ => (pg_name (i := 13) sc_law_tidied.nd rfl (Or.inl rfl))) (fun _ _ _ _ _ => pts_nil) (fun _ _ _ _ _ => (pe_tup (pa_cons (pe_ix (ix_tup : IxR _ (rIxT K)) (pv 13) pe_int (fun _ _ => rfl)) (pa_cons (pe_dn D_law_lit (hr.mono (by omega)) (by rfl) (pa_cons (pv 2) (pa_cons (pe_ix (ix_tup : IxR _ (rIxT K)) (pv 13) pe_int (fun _ _ => rfl)) pa_nil))) pa_nil)))))
      (pss_cons (ps_setLc (i := 11) (own := [("_law_row", 13)]) (g := (gName 13)) (tt := tYes) rfl sc_law_tidied.nd rfl rfl (sw_true rfl rfl rfl (by decide +kernel)) (pi_tup (pe_ix ix_tup (pv 0) pe_int (fun _ _ => rfl))) (blkOk_by (N := ["_law_net_here", "_law_first_here", "_law_news", "_law_pairs", "_law_known", "_law_left", "_law_right", "_law_low", "_law_high", "_law_rows", "_law_shown", "_law_asked", "_law_node", "_law_row"]) (sc := defScope s_law_tidied) (by decide +kernel)) (fun _ _ _ _ _ => (pg_name (i := 13) sc_law_tidied.nd rfl (Or.inl rfl))) (fun _ _ _ _ _ => pts_nil) (fun _ _ _ _ _ => (pe_tup (pa_cons (pe_ix (ix_tup : IxR _ (rIxT K)) (pv 13) pe_int (fun _ _ => rfl)) (pa_cons (pe_dn D_law_lit (hr.mono (by omega)) (by rfl) (pa_cons (pv 2) (pa_cons (pe_ix (ix_tup : IxR _ (rIxT K)) (pv 13) pe_int (fun _ _ => rfl)) pa_nil))) pa_nil)))))
      (pss_one (ps_ret (pe_dn D_law_closed_up (hr.mono (by omega)) (by rfl) (pa_cons (pe_ix ix_tup (pv 0) pe_int (fun _ _ => rfl)) (pa_cons (pv 9) (pa_cons (pv 3) (pa_cons (pv 10) (pa_cons (pv 11) pa_nil)))))))))))))))), ?_⟩
  obtain ⟨p, pi, pr, pa, po, pc, vr, va, vo, vc, rfl, hN⟩ := hv.net
  have hl := hN.lens
  have hf1 : N.first ≤ 201 := by unfold Net.first; omega
  refine ⟨fun σ' H' => σ' = [some (.ref p), some (vI N.first), none, none, none, none, none, none, none, none, none, none, none, none] ∧ H' = H, ?_, ?_⟩
  · refine ⟨_, rfl, p, _, _, _, rfl, rfl, SqT.of hN.top, atI_nat (j := 1) rfl, pi, _, rfl, .inr (SqT.of hN.hi), _, _, rfl, rfl, _, rfl, p, _, _, _, rfl, rfl, SqT.of hN.top, atI_nat (j := 2) rfl, pr, _, rfl, .inr (SqT.of hN.hr), _, _, rfl, rfl, ?_, rfl⟩
    show [some (V.ref p), some (V.int (1 + ((N.ins.map V.str).length : Int) + (vr.length : Int))), none, none, none, none, none, none, none, none, none, none, none, none] = _
    rw [show V.int (1 + ((N.ins.map V.str).length : Int) + (vr.length : Int)) = vI N.first from congrArg V.int (by rw [List.length_map, hl.1]; unfold Net.first; omega)]
  rintro σ' H' ⟨rfl, rfl⟩
  refine ⟨_, rfl, (N.first : Int), rfl, by omega, by omega, fun NW hNW => ?_⟩
  refine lc_rangeL (n := N.first) (g := fun i => 2 * i) (h := intD) hNW (by omega) (fun i H' R Z hi sm k => ?_) (fun us H1 s1 eNW lus => ?_)
  · refine ⟨rfl, _, rfl, _, _, rfl, rfl, .inl ⟨by decide, by decide⟩, k _ _ (.refl _) ?_⟩
    show Lay _ (V.int (2 * (0 + (i : Int)))) (PyData.int ((2 * i : Nat) : Int))
    rw [show (2 * (0 + (i : Int))) = ((2 * i : Nat) : Int) by omega]
    exact .int _
  rw [lay_intD lus] at eNW
  refine ⟨Nat.zero_le _, fun PR hPR => ?_⟩
  have hPR0 := s1.free hPR
  have s2 := s1.trans (same_new hPR (.lst []))
  refine fun KN hKN => ?_
  have hKN0 := s2.free hKN
  have s3 := s2.trans (same_new hKN (.dT []))
  have eNW3 := same_new hKN (.dT []) _ _ (same_new hPR (.lst []) _ _ eNW)
  have ePR3 := same_new hKN (.dT []) _ _ (upd_same (H := H1) (a := PR) (o := .lst []))
  have eKN3 := upd_same (H := upd H1 PR (.lst [])) (a := KN) (o := .dT [])
  have nNP : NW ≠ PR := ne_of_none eNW hPR
  generalize upd (upd H1 PR (.lst [])) KN (.dT []) = H3 at s3 eNW3 ePR3 eKN3 ⊢
  have hN3 := hN.keep (.same s3)
  refine ⟨_, rfl, p, _, _, _, rfl, rfl, SqT.of hN3.top, atI_nat (j := 3) rfl, pa, rfl, ⟨_, SqT.of hN3.ha⟩, for_it (walk_tup (xs := va)) (fun i σ' H'' => ∃ (v5 v6 v7 v8 : Option V) (vp : List V), σ' = [some (.ref p), some (vI N.first), some (.ref NW), some (.ref PR), some (.ref KN), v5, v6, v7, v8, none, none, none, none, none] ∧ Same H' H'' ∧
      H'' NW = some (.lst ((tyTo N.first N.ands i).1.map vI)) ∧ H'' PR = some (.lst vp) ∧ LayAll H'' vp ((tyTo N.first N.ands i).2.map pairD) ∧ H'' KN = some (.dT (kvP N.first (tyTo N.first N.ands i).2)))
    ⟨_, _, _, _, [], rfl, s3, eNW3, ePR3, .nil, eKN3⟩ (fun i σ' H'' hi pv => ?_) (fun i x σ' H4 H5 hi pv y => ?_) (fun σ' H4 pv => ?_)⟩
  · obtain ⟨_, _, _, _, _, _, sm, _⟩ := pv
    exact SqT.of (sm _ _ hN.ha)
  · obtain ⟨v5, v6, v7, v8, vp, rfl, sm, eN, eP, lP, eK⟩ := pv
    obtain ⟨rfl, hx⟩ := y
    have hi' : i < N.ands.length := by omega
    have tok := TyOk.all (first := N.first) (ands := N.ands) (by unfold Net.first; omega) i (by omega)
    obtain ⟨qq, pp, rfl, hpp, eqq⟩ := (hN.keep (.same sm)).and_ hx
    have po := R.ands i pp hpp
    have lPl := list_len lP
    have tm := tok.many
    rw [tyTo_succ hpp]
    have tln := tok.len
    generalize tyTo N.first N.ands i = S at *
    obtain ⟨news, prs⟩ := S
    have tln : news.length = N.first + i := tln
    have tm : prs.length ≤ i := tm
    have nPK : PR ≠ KN := fun z => by rw [z, eK] at eP; cases eP
    have nNK : NW ≠ KN := fun z => by rw [z, eK] at eN; cases eN
    refine ⟨qq, _, rfl, SqT.of eqq, rfl, _, _, rfl, _, _, rfl, rfl, ?_⟩
    refine ⟨_, rfl, _, rfl, NW, news, pp.1, rfl, SqL.of eN, by omega, ?_⟩
    refine ⟨_, rfl, _, rfl, NW, news, pp.2, rfl, SqL.of eN, by omega, by show 2 ≤ sizeLine; decide, fun L hL => ?_⟩
    have sL := same_new hL (.lst [vI (litN news pp.1), vI (litN news pp.2)])
    refine ⟨L, [(litN news pp.1 : Int), (litN news pp.2 : Int)], rfl, SqL.of upd_same, fun ns' M hperm hsort hM => ?_⟩
    rw [minmax_sorted hperm hsort]
    have sM := sL.trans (same_new hM (.lst [vI (min (litN news pp.1) (litN news pp.2)), vI (max (litN news pp.1) (litN news pp.2))]))
    have eM := upd_same (H := upd H5 L (.lst [vI (litN news pp.1), vI (litN news pp.2)])) (a := M) (o := .lst [vI (min (litN news pp.1) (litN news pp.2)), vI (max (litN news pp.1) (litN news pp.2))])
    generalize elo : min (litN news pp.1) (litN news pp.2) = lo at *
    generalize ehi : max (litN news pp.1) (litN news pp.2) = hi at *
    have s6 := sm.trans sM
    have e6N := sM _ _ eN
    have e6P := sM _ _ eP
    have l6P := lP.keep' (.same sM)
    have e6K := sM _ _ eK
    rw [show List.map V.int [(lo : Int), (hi : Int)] = [vI lo, vI hi] from rfl]
    generalize upd (upd H5 L (.lst [vI (litN news pp.1), vI (litN news pp.2)])) M (.lst [vI lo, vI hi]) = H6 at s6 e6N e6P l6P e6K eM ⊢
    have eStep : tyStep N.first (news, prs) pp = if lo = 0 ∨ lo ^^^ 1 = hi then (news ++ [0], prs) else if lo = 1 ∨ lo = hi then (news ++ [hi], prs)
        else if (lo, hi) ∈ prs then (news ++ [2 * (N.first + prs.idxOf (lo, hi))], prs) else (news ++ [2 * (N.first + prs.length)], prs ++ [(lo, hi)]) := by
      unfold tyStep
      simp only [elo, ehi]
    have lnN : (news.map vI).length < sizeLine := by rw [List.length_map, tln]; exact small1000 (by omega)
    have fin : ∀ (H7 : Hp) (x : V) (v : Nat) (prs' : List (Nat × Nat)) (vp' : List V), x = vI v → tyStep N.first (news, prs) pp = (news ++ [v], prs') → Same H' H7 → H7 NW = some (.lst (news.map vI)) → H7 PR = some (.lst vp') → LayAll H7 vp' (prs'.map pairD) → H7 KN = some (.dT (kvP N.first prs')) →
        ∃ (v5 v6 v7 v8 : Option V) (vp : List V), [some (.ref p), some (vI N.first), some (.ref NW), some (.ref PR), some (.ref KN), some (vI pp.1), some (vI pp.2), some (vI lo), some (vI hi), none, none, none, none, none] = [some (.ref p), some (vI N.first), some (.ref NW), some (.ref PR), some (.ref KN), v5, v6, v7, v8, none, none, none, none, none] ∧
          Same H' (upd H7 NW (.lst (news.map vI ++ [x]))) ∧ upd H7 NW (.lst (news.map vI ++ [x])) NW = some (.lst ((tyStep N.first (news, prs) pp).1.map vI)) ∧ upd H7 NW (.lst (news.map vI ++ [x])) PR = some (.lst vp) ∧
          LayAll (upd H7 NW (.lst (news.map vI ++ [x]))) vp ((tyStep N.first (news, prs) pp).2.map pairD) ∧ upd H7 NW (.lst (news.map vI ++ [x])) KN = some (.dT (kvP N.first (tyStep N.first (news, prs) pp).2)) := by
      intro H7 x v prs' vp' ex e sm7 e7N e7P l7P e7K
      subst ex
      refine ⟨_, _, _, _, vp', rfl, same_two sm7 hNW, ?_, (upd_ne nNP.symm).trans e7P, ?_, ?_⟩
      · rw [upd_same, e, List.map_append]; rfl
      · rw [e]; exact l7P.keep' (.lst e7N)
      · rw [e]; exact (upd_ne nNK.symm).trans e7K
    refine ⟨M, _, rfl, SqL.of eM, rfl, _, _, rfl, _, _, rfl, rfl, ?_⟩
    have app : ∀ {c : Bool}, c = true → c = true := id
    refine ⟨_, rfl, rfl, _, rfl, ite2 (fun z => ?_) (fun z => ?_)⟩
    · have e0 : lo = 0 := by have := V.int.inj (of_decide_eq_true z); omega
      exact ⟨_, rfl, .inl ⟨rfl, _, SqL.of e6N⟩, NW, _, _, rfl, rfl, e6N, lnN, fin H6 _ 0 prs vp rfl (by rw [eStep, if_pos (.inl e0)]) s6 e6N e6P l6P e6K⟩
    have n0 : lo ≠ 0 := fun e => z (decide_eq_true (by rw [e]; rfl))
    refine ⟨_, rfl, lo, 1, rfl, rfl, _, rfl, rfl, _, rfl, ite2 (fun z => ?_) (fun z => ?_)⟩
    · have e0 : lo ^^^ 1 = hi := by have := V.int.inj (of_decide_eq_true z); omega
      exact ⟨_, rfl, .inl ⟨rfl, _, SqL.of e6N⟩, NW, _, _, rfl, rfl, e6N, lnN, fin H6 _ 0 prs vp rfl (by rw [eStep, if_pos (.inr e0)]) s6 e6N e6P l6P e6K⟩
    have nx : lo ^^^ 1 ≠ hi := fun e => z (decide_eq_true (by rw [e]))
    have nn : ¬ (lo = 0 ∨ lo ^^^ 1 = hi) := fun h => h.elim n0 nx
    refine ⟨_, rfl, rfl, _, rfl, ite2 (fun z => ?_) (fun z => ?_)⟩
    · have e0 : lo = 1 := by have := V.int.inj (of_decide_eq_true z); omega
      exact ⟨_, rfl, .inl ⟨rfl, _, SqL.of e6N⟩, _, rfl, NW, _, _, rfl, rfl, e6N, lnN, fin H6 _ hi prs vp rfl (by rw [eStep, if_neg nn, if_pos (.inl e0)]) s6 e6N e6P l6P e6K⟩
    have n1 : lo ≠ 1 := fun e => z (decide_eq_true (by rw [e]; rfl))
    refine ⟨_, rfl, _, rfl, rfl, _, rfl, ite2 (fun z => ?_) (fun z => ?_)⟩
    · have e0 : lo = hi := by have := V.int.inj (of_decide_eq_true z); omega
      exact ⟨_, rfl, .inl ⟨rfl, _, SqL.of e6N⟩, _, rfl, NW, _, _, rfl, rfl, e6N, lnN, fin H6 _ hi prs vp rfl (by rw [eStep, if_neg nn, if_pos (.inr e0)]) s6 e6N e6P l6P e6K⟩
    have n2 : lo ≠ hi := fun e => z (decide_eq_true (by rw [e]))
    have n12 : ¬ (lo = 1 ∨ lo = hi) := fun h => h.elim n1 n2
    rw [if_neg nn, if_neg n12] at eStep
    refine ⟨fun σ' H8 => ∃ (prs' : List (Nat × Nat)) (vp' : List V), σ' = [some (.ref p), some (vI N.first), some (.ref NW), some (.ref PR), some (.ref KN), some (vI pp.1), some (vI pp.2), some (vI lo), some (vI hi), none, none, none, none, none] ∧ Same H' H8 ∧ H8 NW = some (.lst (news.map vI)) ∧ H8 PR = some (.lst vp') ∧ LayAll H8 vp' (prs'.map pairD) ∧
      H8 KN = some (.dT (kvP N.first prs')) ∧ (lo, hi) ∈ prs' ∧ tyStep N.first (news, prs) pp = (news ++ [2 * (N.first + prs'.idxOf (lo, hi))], prs'), ?_, ?_⟩
    · refine ⟨_, rfl, _, rfl, by show 2 ≤ sizeLine; decide, fun t ht => ?_⟩
      have st := same_new ht (.tup [vI lo, vI hi])
      refine ⟨_, rfl, KN, _, rfl, DGet.t (k := pkey (lo, hi)) (st _ _ e6K) upd_same, _, rfl, ?_⟩
      rw [kvP_get]
      by_cases hm : (lo, hi) ∈ prs
      · rw [if_pos hm]
        refine iteF ?_
        exact ⟨prs, vp, rfl, s6.trans st, st _ _ e6N, st _ _ e6P, l6P.keep' (.same st), st _ _ e6K, hm, by rw [eStep, if_pos hm]⟩
      · rw [if_neg hm]
        refine iteT ?_
        have e7P := st _ _ e6P
        have e7K := st _ _ e6K
        have e7N := st _ _ e6N
        have l7P := l6P.keep' (.same st)
        have s7 := s6.trans st
        generalize upd H6 t (.tup [vI lo, vI hi]) = H7 at e7P e7K e7N l7P s7 ⊢
        have l7l : vp.length = prs.length := list_len l7P
        refine ⟨_, rfl, _, rfl, PR, _, rfl, .inl (SqL.of e7P), _, _, rfl, rfl, _, _, rfl, rfl, .inl ⟨by decide, by decide⟩, _, rfl, _, rfl, _, rfl, by show 2 ≤ sizeLine; decide, fun t2 ht2 => ?_⟩
        have st2 := same_new ht2 (.tup [vI lo, vI hi])
        refine ⟨KN, _, rfl, DPut.t (k := pkey (lo, hi)) (st2 _ _ e7K) upd_same (by rw [kvP_len]; exact small1000 (by omega)), ?_⟩
        have eV : (fun i j => V.int (i * j)) 2 ((N.first : Int) + (vp.length : Int)) = vI (2 * (N.first + prs.length)) := congrArg V.int (by rw [l7l]; omega)
        rw [eV, kvP_put hm]
        have s8 := same_two (o := .dT (kvP N.first (prs ++ [(lo, hi)]))) (s7.trans st2) hKN0
        have e8K := upd_same (H := upd H7 t2 (.tup [vI lo, vI hi])) (a := KN) (o := .dT (kvP N.first (prs ++ [(lo, hi)])))
        have e8P : upd (upd H7 t2 (.tup [vI lo, vI hi])) KN (.dT (kvP N.first (prs ++ [(lo, hi)]))) PR = _ := (upd_ne nPK).trans (st2 _ _ e7P)
        have e8N : upd (upd H7 t2 (.tup [vI lo, vI hi])) KN (.dT (kvP N.first (prs ++ [(lo, hi)]))) NW = _ := (upd_ne nNK).trans (st2 _ _ e7N)
        have l8P : LayAll (upd (upd H7 t2 (.tup [vI lo, vI hi])) KN (.dT (kvP N.first (prs ++ [(lo, hi)])))) vp (prs.map pairD) := (l7P.keep' (.same st2)).keep' fun b xs h => by
          rw [upd_ne (fun z => by rw [z, st2 _ _ e7K] at h; cases h)]
          exact h
        generalize upd (upd H7 t2 (.tup [vI lo, vI hi])) KN (.dT (kvP N.first (prs ++ [(lo, hi)]))) = H8 at s8 e8K e8P e8N l8P ⊢
        refine ⟨_, rfl, .inl ⟨rfl, _, SqL.of e8P⟩, _, rfl, _, rfl, by show 2 ≤ sizeLine; decide, fun u hu => ?_⟩
        have su := same_new hu (.tup [vI lo, vI hi])
        refine ⟨PR, _, _, rfl, rfl, su _ _ e8P, len1000 (by omega), prs ++ [(lo, hi)], vp ++ [.ref u], rfl, same_two (s8.trans su) hPR0, (upd_ne nNP).trans (su _ _ e8N), upd_same, ?_, (upd_ne nPK.symm).trans (su _ _ e8K), by simp, ?_⟩
        · rw [List.map_append]
          exact ((l8P.keep' (.same su)).snoc (.mkPair upd_same)).keep' (.lst (su _ _ e8P))
        · rw [eStep, if_neg hm, List.idxOf_append, if_neg hm]
          simp
    rintro σ' H8 ⟨prs', vp', rfl, s8, e8N, e8P, l8P, e8K, hm, e8⟩
    refine ⟨_, rfl, .inl ⟨rfl, _, SqL.of e8N⟩, _, rfl, _, rfl, _, rfl, by show 2 ≤ sizeLine; decide, fun t3 ht3 => ?_⟩
    have st3 := same_new ht3 (.tup [vI lo, vI hi])
    have g := DGet.t (k := pkey (lo, hi)) (st3 _ _ e8K) (upd_same (H := H8) (a := t3) (o := .tup [vI lo, vI hi]))
    rw [kvP_get, if_pos hm] at g
    exact ⟨KN, _, rfl, g, NW, _, _, rfl, rfl, st3 _ _ e8N, lnN, fin _ _ _ prs' vp' rfl e8 (s8.trans st3) (st3 _ _ e8N) (st3 _ _ e8P) (l8P.keep' (.same st3)) (st3 _ _ e8K)⟩
  obtain ⟨v5, v6, v7, v8, vp, rfl, sm, eN, eP, lP, eK⟩ := pv
  have tok := TyOk.all (first := N.first) (ands := N.ands) (by unfold Net.first; omega) N.ands.length (Nat.le_refl _)
  have eT : tidyN N = closeN N.ins (N.regs.map (mapR (tyTo N.first N.ands N.ands.length).1)) (tyTo N.first N.ands N.ands.length).2 (N.outs.map (mapN (tyTo N.first N.ands N.ands.length).1)) (N.cls.map (mapN (tyTo N.first N.ands N.ands.length).1)) := rfl
  rw [eT] at q
  rw [hl.2.1] at eN lP
  have tln := tok.len
  have tm := tok.many
  have tb := tok.below
  have tp := tok.pairs
  generalize tyTo N.first N.ands N.ands.length = S at *
  obtain ⟨news, prs⟩ := S
  have tln : news.length = N.first + N.ands.length := tln
  have tm : prs.length ≤ N.ands.length := tm
  have hsz : N.size = N.first + N.ands.length := rfl
  have hN4 := hN.keep (.same sm)
  refine ⟨_, rfl, p, _, _, _, rfl, rfl, SqT.of hN4.top, atI_nat (j := 2) rfl, pr, rfl, ⟨_, SqT.of hN4.hr⟩, fun D1 hD1 => ?_⟩
  refine lc_rows (walk_tup (xs := vr)) (rows := N.regs) (f := regD) (g := mapR news) (h := regD) (fun H' sm' => SqT.of (sm' _ _ hN4.hr)) hD1 hN4.lr (by omega) (fun i x r H' R' Z hr sm' lx k => ?_) (fun us1 H5 s5 eD1 lu1 => ?_)
  · obtain ⟨q, rfl, eq⟩ := lx.reg
    have hrl := (R.regs r (List.mem_of_getElem? hr)).2
    refine ⟨rfl, _, rfl, q, _, _, _, rfl, rfl, SqT.of eq, atI_nat (j := 0) rfl, _, rfl, q, _, _, _, rfl, rfl, SqT.of eq, atI_nat (j := 1) rfl, _, rfl, _, rfl, q, _, _, _, rfl, rfl, SqT.of eq, atI_nat (j := 2) rfl, NW, news, r.2.2, rfl, SqL.of (sm' _ _ eN), by omega, by show 3 ≤ sizeLine; decide, fun u hu => k _ _ (same_new hu _) (.mkReg upd_same)⟩
  have hN5 := hN4.keep (.same s5)
  have eN5 := s5 _ _ eN
  refine ⟨_, rfl, p, _, _, _, rfl, rfl, SqT.of hN5.top, atI_nat (j := 4) rfl, po, rfl, ⟨_, SqT.of hN5.ho⟩, fun D2 hD2 => ?_⟩
  refine lc_rows (walk_tup (xs := vo)) (rows := N.outs) (f := namD) (g := mapN news) (h := namD) (fun H' sm' => SqT.of (sm' _ _ hN5.ho)) hD2 hN5.lo (by omega) (fun i x r H' R' Z hr sm' lx k => ?_) (fun us2 H6 s6 eD2 lu2 => ?_)
  · obtain ⟨q, rfl, eq⟩ := lx.nam
    have hrl := R.outs r (List.mem_of_getElem? hr)
    refine ⟨rfl, _, rfl, q, _, _, _, rfl, rfl, SqT.of eq, atI_nat (j := 0) rfl, _, rfl, _, rfl, q, _, _, _, rfl, rfl, SqT.of eq, atI_nat (j := 1) rfl, NW, news, r.2, rfl, SqL.of (sm' _ _ eN5), by omega, by show 2 ≤ sizeLine; decide, fun u hu => k _ _ (same_new hu _) (.mkNam upd_same)⟩
  have hN6 := hN5.keep (.same s6)
  have eN6 := s6 _ _ eN5
  refine ⟨_, rfl, p, _, _, _, rfl, rfl, SqT.of hN6.top, atI_nat (j := 5) rfl, pc, rfl, ⟨_, SqT.of hN6.hc⟩, fun D3 hD3 => ?_⟩
  refine lc_rows (walk_tup (xs := vc)) (rows := N.cls) (f := namD) (g := mapN news) (h := namD) (fun H' sm' => SqT.of (sm' _ _ hN6.hc)) hD3 hN6.lc (by omega) (fun i x r H' R' Z hr sm' lx k => ?_) (fun us3 H7 s7 eD3 lu3 => ?_)
  · obtain ⟨q, rfl, eq⟩ := lx.nam
    have hrl := R.cls r (List.mem_of_getElem? hr)
    refine ⟨rfl, _, rfl, q, _, _, _, rfl, rfl, SqT.of eq, atI_nat (j := 0) rfl, _, rfl, _, rfl, q, _, _, _, rfl, rfl, SqT.of eq, atI_nat (j := 1) rfl, NW, news, r.2, rfl, SqL.of (sm' _ _ eN6), by omega, by show 2 ≤ sizeLine; decide, fun u hu => k _ _ (same_new hu _) (.mkNam upd_same)⟩
  have hN7 := hN6.keep (.same s7)
  have s47 := (s5.trans s6).trans s7
  have eF : 1 + N.ins.length + (N.regs.map (mapR news)).length = N.first := by rw [List.length_map]; rfl
  have lw : ∀ l, litN news l < 2 * (N.first + prs.length) := fun l => tb.lit (by unfold Net.first; omega)
  refine ⟨_, rfl, p, _, _, _, rfl, rfl, SqT.of hN7.top, atI_nat (j := 1) rfl, _, rfl, _, rfl, _, rfl, _, rfl, ?_⟩
  refine ⟨pi, D1, PR, D2, D3, us1, vp, us2, us3, N.ins, N.regs.map (mapR news), prs, N.outs.map (mapN news), N.cls.map (mapN news), rfl, hN7.hi, s7 _ _ (s6 _ _ eD1), lu1.keep' (.same (s6.trans s7)), s47 _ _ eP, lP.keep' (.same s47), s7 _ _ eD2, lu2.keep' (.same s7), eD3, lu3, by rw [eF]; exact tp, ?_, i100, by rw [List.length_map]; exact r100, by omega, by rw [List.length_map]; exact o100, by rw [List.length_map]; exact c100, fun u H8 s8 lu => q u H8 ((sm.trans s47).trans s8) lu⟩
  rw [eF]
  refine ⟨fun r hr => ?_, fun r hr => ?_, fun r hr => ?_⟩
  · obtain ⟨r0, hr0, rfl⟩ := List.mem_map.mp hr
    exact ⟨(R.regs r0 hr0).1, lw _⟩
  · obtain ⟨r0, hr0, rfl⟩ := List.mem_map.mp hr
    exact lw _
  · obtain ⟨r0, hr0, rfl⟩ := List.mem_map.mp hr
    exact lw _
end

end Bf

set_option Elab.async false
set_option linter.all false
set_option maxRecDepth 100000
set_option maxHeartbeats 4000000
namespace Bf
open PySem PySem.Spec PyProof.Rows L2
theorem kfree {S : List Addr} {H H' : Hp} {l : Addr} (k : Keep S H H') (h : H' l = none) (n : l ∉ S) : H l = none := k.free h n
theorem keep_two {S : List Addr} {H H' : Hp} {p : Addr} {o : HO} (k : Keep S H H') (hp : H p = none) : Keep S H (upd H' p o) := fun b u n q => by
  rw [upd_ne (ne_of_none q hp)]
  exact k _ _ n q
def LI (ps : List Nat) : HO := .lst (ps.map vI)
theorem DS.ne_ints {H : Hp} {d c r : Addr} {ps : List Nat} (h : DS H d c) (e : H r = some (LI ps)) : r ≠ d := by
  rintro rfl
  obtain ⟨_, _, _, _, e1, _⟩ := h
  rw [e] at e1
  have q := HO.lst.inj (Option.some.inj e1)
  cases ps with
  | nil => cases q
  | cons a l => cases (List.cons.inj q).1
/-! ### woven nets -/
def nOf : V → Nat
  | .int i => i.toNat
  | _ => 0
theorem perm_vI {ys : List V} {xs : List Nat} (h : ys.Perm (xs.map vI)) : ∃ zs : List Nat, ys = zs.map vI ∧ zs.Perm xs := by
  refine ⟨ys.map nOf, ?_, ?_⟩
  · rw [List.map_map]
    have : ys.map (vI ∘ nOf) = ys.map id := List.map_congr_left fun y hy => by
      obtain ⟨x, _, rfl⟩ := List.mem_map.mp (h.mem_iff.mp hy)
      rfl
    rw [this, List.map_id]
  · have := h.map nOf
    rw [List.map_map] at this
    refine this.trans ?_
    have e : xs.map (nOf ∘ vI) = xs.map id := List.map_congr_left fun x _ => rfl
    rw [e, List.map_id]
theorem range1_vI (n : Nat) : rgV 1 (n : Int) = ((List.range (n - 1)).map (· + 1)).map vI := by
  unfold rgV
  rw [show ((n : Int) - 1).toNat = n - 1 by omega, List.map_map]
  refine List.map_congr_left fun i _ => ?_
  show V.int _ = V.int _
  congr 1
  simp
  omega
def spWoven : Sp := fun vs H Q _ => ∃ (d c : Addr) (a b s t : Nat), vs = [.ref d, vI a, vI b, vI s, vI t] ∧ DS H d c ∧ 2 ≤ a + b ∧ a + b ≤ 20 ∧ 2 ≤ s ∧ s ≤ 10 ∧ t ≤ 60 ∧
  ∀ (v : V) (N : Net) (H' : Hp), Lay H' v (netD N) → N.Right → N.ins.length = a → N.regs.length = b → N.ands.length + 1 = t + s → N.outs.length = 2 → N.cls.length = 1 → DS H' d c → Keep [d] H H' → Q v H'
section
variable {P : Program} {w : World} {K : PySem.W.Frag} {mg : Str → Option Value} {base : Heap} {f : Addr} {fd : FuncData}
theorem ok_woven (F : Fun K "_law_woven" "_law_woven" s_law_woven f fd) (T : Txt mg) (D_law_draw : Dn P w K mg base "_law_draw" ["_law_d", "_law_many"] 1 spDraw) (D_law_pop : Dn P w K mg base "_law_pop" ["_law_d", "_law_row"] 2 spPop)
    (D_law_pick : Dn P w K mg base "_law_pick" ["_law_d", "_law_row"] 2 (spPick K)) (D_law_shuffled : Dn P w K mg base "_law_shuffled" ["_law_d", "_law_row"] 2 (spShuf K))
    (D_law_pool : Dn P w K mg base "_law_pool" [] 1 spPool) (D_law_drawn_literal : Dn P w K mg base "_law_drawn_literal" ["_law_d", "_law_size"] 2 spLit) :
    FnOk P w K mg base CX0 3 f fd ["_law_d", "_law_inputs", "_law_regs", "_law_strands", "_law_steps"] spWoven := by
  refine F.ok sc_law_woven (fun vs H Q E h => ?_) (fun cdv A outer s H vs Q E hr h => ?_)
  · obtain ⟨d, c, a, b, s, t, rfl, _⟩ := h
    rfl
  obtain ⟨d, c, a, b, sd, tt, rfl, hd, ab2, ab20, s2, s10, t60, q⟩ := h
  refine ⟨_, (C8.pss_cut (ps_set (i := 5) sc_law_woven.nd rfl (Or.inl rfl) (pe_op op_add (pe_op op_add pe_int (pv 1)) (pv 2)))
      (pss_cons (ps_set (i := 6) sc_law_woven.nd rfl (Or.inr rfl) (pe_dn D_law_shuffled (hr.mono (by omega)) (by rfl) (pa_cons (pv 0) (pa_cons (pe_listRg rfl (by rfl) T.n_list (prg_2 (by rfl) T.n_range pe_int (pv 5))) pa_nil))))
      (pss_cons (ps_setLc (i := 8) (own := [("_law_k", 7)]) (g := (gName 7)) (tt := tYes) rfl sc_law_woven.nd rfl rfl (sw_true rfl rfl rfl (by decide +kernel)) (pi_range1 rfl T.n_range (pa_cons (pv 3) pa_nil)) (blkOk_by (N := ["_law_d", "_law_inputs", "_law_regs", "_law_strands", "_law_steps", "_law_first_here", "_law_nodes", "_law_k", "_law_line", "_law_pairs", "_law_at", "_law_other", "_law_right", "_law_names", "_law_size", "_law_given", "_law_rows", "_law_shown", "_law_asked"]) (sc := defScope s_law_woven) (by decide +kernel)) (fun _ _ _ _ _ => (pg_name (i := 7) sc_law_woven.nd rfl (Or.inl rfl))) (fun _ _ _ _ _ => pts_nil) (fun _ _ _ _ _ => (pe_op op_mul pe_int (pe_ix (ix_list : IxR _ (rIxL K)) (pv 6) (pe_op op_mod (pe_callTy call_int1 (by rfl) T.n_int (by decide +kernel) (pa_cons (pv 7) pa_nil)) (pe_callB (call_lenK : CallR _ (.builtin "len") (rLenK K)) (by rfl) T.n_len (by decide +kernel) (pa_cons (pv 6) pa_nil))) (fun _ _ => rfl)))))
      (pss_cons (ps_set (i := 9) sc_law_woven.nd rfl (Or.inl rfl) (pe_lst pa_nil))
      (pss_cons (ps_for PassesOwn.never rfl (pi_range1 rfl T.n_range (pa_cons (pe_op op_sub (pe_op op_add (pv 4) (pv 3)) pe_int) pa_nil)) (pg_name (i := 7) sc_law_woven.nd rfl (Or.inl rfl)) (pss_cons (ps_par (i := 10) (j := 11) (by rfl) sc_law_woven.nd rfl rfl (by decide) rfl rfl (pa_cons pe_int (pa_cons (pe_op op_sub (pe_op op_add pe_int (pv 7)) (pv 4)) pa_nil)) (by rfl))
      (C8.pss_cut (ps_if (pt_cmpR op_lt (pv 7) (pv 4) (nomark _)) (pss_cons (ps_set (i := 10) sc_law_woven.nd rfl (Or.inl rfl) (pe_dn D_law_draw (hr.mono (by omega)) (by rfl) (pa_cons (pv 0) (pa_cons (pv 3) pa_nil))))
      (pss_one (ps_set (i := 11) sc_law_woven.nd rfl (Or.inl rfl) (pe_op op_mod (pe_callTy call_int1 (by rfl) T.n_int (by decide +kernel) (pa_cons (pe_op op_add (pe_op op_add (pv 10) pe_int) (pe_dn D_law_draw (hr.mono (by omega)) (by rfl) (pa_cons (pv 0) (pa_cons (pe_op op_sub (pv 3) pe_int) pa_nil)))) pa_nil)) (pv 3))))) pss_nil)
      (pss_cons (ps_set (i := 12) sc_law_woven.nd rfl (Or.inl rfl) (pe_ix ix_list (pv 8) (pv 11) (fun _ _ => rfl)))
      (C8.pss_cut (ps_if (PW.pt (pw_and (pt_cmpR op_lt (pv 7) (pv 4) (nomark _)) (pw_and1 (pt_cmpR op_eq (pe_dn D_law_draw (hr.mono (by omega)) (by rfl) (pa_cons (pv 0) (pa_cons pe_int pa_nil))) pe_int (nomark _))))) (pss_one (ps_set (i := 12) sc_law_woven.nd rfl (Or.inl rfl) (pe_op op_mul pe_int (pe_dn D_law_pick (hr.mono (by omega)) (by rfl) (pa_cons (pv 0) (pa_cons (pv 6) pa_nil)))))) pss_nil)
      (pss_cons (ps_expr (pe_bm PySem.F.plainAttrs_list PySem.F.slot_list_append PySem.F.type_list_append mt_append (pv 9) (pa_cons (pe_tup (pa_cons (pe_op op_xorB (pe_ix ix_list (pv 8) (pv 10) (fun _ _ => rfl)) (pe_dn D_law_draw (hr.mono (by omega)) (by rfl) (pa_cons (pv 0) (pa_cons pe_int pa_nil)))) (pa_cons (pe_op op_xorB (pv 12) (pe_dn D_law_draw (hr.mono (by omega)) (by rfl) (pa_cons (pv 0) (pa_cons pe_int pa_nil)))) pa_nil))) pa_nil)))
      (pss_one (ps_asg (pe_op op_mul pe_int (pe_op op_add (pv 5) (pv 7))) (pg_sub (pv 8) (pv 10) set_list)))))))))
      (C8.pss_cut (ps_set (i := 13) sc_law_woven.nd rfl (Or.inr rfl) (pe_dn0 D_law_pool (hr.mono (by omega)) (by rfl)))
      (C8.pss_cut (ps_set (i := 14) sc_law_woven.nd rfl (Or.inr rfl) (pe_op op_add (pv 5) (pe_callB call_len_seq (by rfl) T.n_len (by decide +kernel) (pa_cons (pv 9) pa_nil))))
      (pss_cons (ps_set (i := 15) sc_law_woven.nd rfl (Or.inl rfl) (pe_callTy call_tuple_of (by rfl) T.n_tuple (by decide +kernel) (pa_cons (pe_lc (own := [("_law_k", 7)]) (g := (gName 7)) (tt := tYes) rfl sc_law_woven.nd (pi_range1 rfl T.n_range (pa_cons (pv 1) pa_nil)) (blkOk_by (N := ["_law_d", "_law_inputs", "_law_regs", "_law_strands", "_law_steps", "_law_first_here", "_law_nodes", "_law_k", "_law_line", "_law_pairs", "_law_at", "_law_other", "_law_right", "_law_names", "_law_size", "_law_given", "_law_rows", "_law_shown", "_law_asked"]) (sc := defScope s_law_woven) (by decide +kernel)) (fun _ _ _ _ _ => (pg_name (i := 7) sc_law_woven.nd rfl (Or.inl rfl))) (fun _ _ _ _ _ => pts_nil) (fun _ _ _ _ _ => (pe_dn D_law_pop (hr.mono (by omega)) (by rfl) (pa_cons (pv 0) (pa_cons (pv 13) pa_nil))))) pa_nil)))
      (pss_cons (ps_setLc (i := 16) (own := [("_law_k", 7)]) (g := (gName 7)) (tt := tYes) rfl sc_law_woven.nd rfl rfl (sw_true rfl rfl rfl (by decide +kernel)) (pi_range1 rfl T.n_range (pa_cons (pv 2) pa_nil)) (blkOk_by (N := ["_law_d", "_law_inputs", "_law_regs", "_law_strands", "_law_steps", "_law_first_here", "_law_nodes", "_law_k", "_law_line", "_law_pairs", "_law_at", "_law_other", "_law_right", "_law_names", "_law_size", "_law_given", "_law_rows", "_law_shown", "_law_asked"]) (sc := defScope s_law_woven) (by decide +kernel)) (fun _ _ _ _ _ => (pg_name (i := 7) sc_law_woven.nd rfl (Or.inl rfl))) (fun _ _ _ _ _ => pts_nil) (fun _ _ _ _ _ => (pe_tup (pa_cons (pe_dn D_law_pop (hr.mono (by omega)) (by rfl) (pa_cons (pv 0) (pa_cons (pv 13) pa_nil))) (pa_cons (pe_dn D_law_draw (hr.mono (by omega)) (by rfl) (pa_cons (pv 0) (pa_cons pe_int pa_nil))) (pa_cons (pe_dn D_law_drawn_literal (hr.mono (by omega)) (by rfl) (pa_cons (pv 0) (pa_cons (pv 14) pa_nil))) pa_nil))))))
      (pss_cons (ps_set (i := 17) sc_law_woven.nd rfl (Or.inl rfl) (pe_lst (pa_cons (pe_tup (pa_cons (pe_dn D_law_pop (hr.mono (by omega)) (by rfl) (pa_cons (pv 0) (pa_cons (pv 13) pa_nil))) (pa_cons (pe_op op_xorB (pe_ix ix_list (pv 8) pe_int (fun _ _ => rfl)) (pe_dn D_law_draw (hr.mono (by omega)) (by rfl) (pa_cons (pv 0) (pa_cons pe_int pa_nil)))) pa_nil))) (pa_cons (pe_tup (pa_cons (pe_dn D_law_pop (hr.mono (by omega)) (by rfl) (pa_cons (pv 0) (pa_cons (pv 13) pa_nil))) (pa_cons (pe_dn D_law_drawn_literal (hr.mono (by omega)) (by rfl) (pa_cons (pv 0) (pa_cons (pv 14) pa_nil))) pa_nil))) pa_nil))))
      (pss_cons (ps_set (i := 18) sc_law_woven.nd rfl (Or.inl rfl) (pe_lst (pa_cons (pe_tup (pa_cons (pe_dn D_law_pop (hr.mono (by omega)) (by rfl) (pa_cons (pv 0) (pa_cons (pv 13) pa_nil))) (pa_cons (pe_dn D_law_drawn_literal (hr.mono (by omega)) (by rfl) (pa_cons (pv 0) (pa_cons (pv 14) pa_nil))) pa_nil))) pa_nil)))
      (pss_one (ps_ret (pe_tup (pa_cons pe_str (pa_cons (pv 15) (pa_cons (pe_callTy call_tuple_of (by rfl) T.n_tuple (by decide +kernel) (pa_cons (pv 16) pa_nil)) (pa_cons (pe_callTy call_tuple_of (by rfl) T.n_tuple (by decide +kernel) (pa_cons (pv 9) pa_nil)) (pa_cons (pe_callTy call_tuple_of (by rfl) T.n_tuple (by decide +kernel) (pa_cons (pv 17) pa_nil)) (pa_cons (pe_callTy call_tuple_of (by rfl) T.n_tuple (by decide +kernel) (pa_cons (pv 18) pa_nil)) pa_nil)))))))))))))))))))), ?_⟩
  obtain ⟨first, hfirst⟩ : ∃ n, n = 1 + a + b := ⟨_, rfl⟩
  refine ⟨fun σ' H' => σ' = [some (.ref d), some (vI a), some (vI b), some (vI sd), some (vI tt), some (vI first), none, none, none, none, none, none, none, none, none, none, none, none, none] ∧ H = H', ?_, ?_⟩
  · refine ⟨_, rfl, _, _, rfl, rfl, _, rfl, _, _, rfl, rfl, ?_, rfl⟩
    show [some (V.ref d), some (vI a), some (vI b), some (vI sd), some (vI tt), some (V.int (1 + (a : Int) + (b : Int))), none, none, none, none, none, none, none, none, none, none, none, none, none] = _
    rw [show V.int (1 + (a : Int) + (b : Int)) = vI first from congrArg V.int (by omega)]
  rintro σ' H' ⟨rfl, rfl⟩
  -- the nodes in some order
  refine ⟨_, rfl, _, rfl, _, _, rfl, rfl, .of_le (by decide) (by omega) (by decide) (by omega), fun L0 hL0 => ?_⟩
  rw [range1_vI]
  have sL := same_new hL0 (.lst (((List.range (first - 1)).map (· + 1)).map vI))
  have nL := hd.new hL0
  refine ⟨d, c, L0, _, rfl, hd.same sL, nL.1, .inl (SqL.of upd_same), by rw [List.length_map, List.length_map, List.length_range]; omega, fun ND ys H1 hperm hND eND hd1 k1 => ?_⟩
  obtain ⟨nodes, rfl, hnp⟩ := perm_vI hperm
  have nlen : nodes.length = first - 1 := by rw [hnp.length_eq, List.length_map, List.length_range]
  have nlt : ∀ x ∈ nodes, 1 ≤ x ∧ x < first := fun x hx => by
    obtain ⟨y, hy, rfl⟩ := List.mem_map.mp (hnp.mem_iff.mp hx)
    have := List.mem_range.mp hy
    show 1 ≤ y + 1 ∧ y + 1 < first
    omega
  have kH1 : Keep [d] H H1 := (Keep.of_same sL).trans k1
  have nND : ND ≠ d := hd1.ne_ints (ps := nodes) eND
  clear sL nL k1 hND hperm hL0
  -- the line
  refine ⟨_, rfl, (sd : Int), rfl, by omega, by omega, fun LN hLN => ?_⟩
  obtain ⟨nLNd, nLNc⟩ := hd1.new hLN
  have hLN0 := kfree kH1 hLN (by simp [nLNd])
  refine lc_rangeL (n := sd) (g := fun i => 2 * nodes.getD (i % nodes.length) 0) (h := intD) hLN (by omega) (fun i H' R Z hi sm k => ?_) (fun us H2 s2' eLN lus => ?_)
  · have hm : i % nodes.length < nodes.length := Nat.mod_lt _ (by omega)
    have em : nodes[i % nodes.length]? = some nodes[i % nodes.length] := List.getElem?_eq_getElem hm
    have hat : atI (nodes.map vI) ((0 + (i : Int)) % ((nodes.map vI).length : Int)) = some (vI nodes[i % nodes.length]) := by
      rw [show (0 + (i : Int)) % ((nodes.map vI).length : Int) = ((i % nodes.length : Nat) : Int) by rw [List.length_map, Int.zero_add]; exact (Int.natCast_emod _ _).symm]
      exact atI_nat (by rw [List.getElem?_map, em]; rfl)
    refine ⟨rfl, _, rfl, _, rfl, .inl ⟨_, rfl, _, rfl, ND, _, rfl, .inl (SqL.of (sm _ _ eND)), _, _, rfl, rfl, by rw [List.length_map]; omega, ND, _, _, _, rfl, rfl, SqL.of (sm _ _ eND), hat, _, _, rfl, rfl, .inl ⟨by decide, by decide⟩, k _ _ (.refl _) ?_⟩⟩
    show Lay _ (V.int (2 * ((nodes[i % nodes.length] : Nat) : Int))) (PyData.int ((2 * nodes.getD (i % nodes.length) 0 : Nat) : Int))
    rw [show (2 * ((nodes[i % nodes.length] : Nat) : Int)) = ((2 * nodes.getD (i % nodes.length) 0 : Nat) : Int) by rw [List.getD_eq_getElem?_getD, em]; show _ = ((2 * nodes[i % nodes.length] : Nat) : Int); omega]
    exact .int _
  rw [lay_intD lus] at eLN
  obtain ⟨line, hline⟩ : ∃ l, l = (List.range sd).map fun i => 2 * nodes.getD (i % nodes.length) 0 := ⟨_, rfl⟩
  rw [← hline] at eLN
  have lln : line.length = sd := by rw [hline, List.length_map, List.length_range]
  have llt : ∀ x ∈ line, x < 2 * (first + 0) := fun x hx => by
    rw [hline] at hx
    obtain ⟨i, _, rfl⟩ := List.mem_map.mp hx
    have hm : i % nodes.length < nodes.length := Nat.mod_lt _ (by omega)
    have := nlt _ (List.getElem_mem hm)
    show 2 * nodes.getD (i % nodes.length) 0 < _
    rw [List.getD_eq_getElem?_getD, List.getElem?_eq_getElem hm]
    show 2 * nodes[i % nodes.length] < _
    omega
  clear hline lus
  have kH2 : Keep [d] H H2 := kH1.trans (.of_same s2')
  have hd2 := hd1.same s2'
  have eND2 := s2' _ _ eND
  refine ⟨Nat.zero_le _, fun PR hPR => ?_⟩
  obtain ⟨nPRd, nPRc⟩ := hd2.new hPR
  have hPR0 := kfree kH2 hPR (by simp [nPRd])
  have sP := same_new hPR (.lst [])
  have nPL : PR ≠ LN := (ne_of_none eLN hPR).symm
  have nPN : PR ≠ ND := (ne_of_none eND2 hPR).symm
  have nLN_ND : LN ≠ ND := (ne_of_none eND hLN).symm
  refine ⟨_, rfl, _, rfl, _, _, rfl, rfl, _, _, rfl, rfl, ((tt : Int) + (sd : Int) - 1), rfl, by omega, by omega, for_it walk_range (fun i σ' H'' => ∃ (v7 v10 v11 v12 : Option V) (ln : List Nat) (an : List (Nat × Nat)), σ' = [some (.ref d), some (vI a), some (vI b), some (vI sd), some (vI tt), some (vI first), some (.ref ND), v7, some (.ref LN), some (.ref PR), v10, v11, v12, none, none, none, none, none, none] ∧
      DS H'' d c ∧ Keep [d] H H'' ∧ H'' ND = some (.lst (nodes.map vI)) ∧ H'' LN = some (.lst (ln.map vI)) ∧ ln.length = sd ∧ (∀ x ∈ ln, x < 2 * (first + i)) ∧ Acc PR pairD an H'' ∧ an.length = i ∧ PairsOk first an)
    ⟨_, _, _, _, line, [], rfl, hd2.same sP, kH2.trans (.of_same sP), sP _ _ eND2, sP _ _ eLN, lln, llt, .nil, rfl, fun i p e => by simp at e⟩ (fun _ _ _ _ _ => trivial) (fun i x σ' H3 H4 hi pv y => ?_) (fun σ' H3 pv => ?_)⟩
  · obtain ⟨v7, v10, v11, v12, ln, an, rfl, hd3, k3, eN3, eL3, ll3, lt3, hA3, la3, po3⟩ := pv
    obtain ⟨rfl, rfl⟩ := y
    have hi' : i + 1 < tt + sd := by omega
    refine ⟨_, rfl, _, _, rfl, rfl, _, rfl, _, _, rfl, rfl, _, _, rfl, ?_⟩
    refine ⟨fun σ' H5 => ∃ (at_ ot : Nat), σ' = [some (.ref d), some (vI a), some (vI b), some (vI sd), some (vI tt), some (vI first), some (.ref ND), some (.int (0 + (i : Int))), some (.ref LN), some (.ref PR), some (vI at_), some (vI ot), v12, none, none, none, none, none, none] ∧ at_ < sd ∧ ot < sd ∧ DS H5 d c ∧ Keep [d] H4 H5, ?_, ?_⟩
    · refine ⟨_, rfl, _, rfl, _, _, rfl, rfl, _, rfl, ite2 (fun z => ?_) (fun z => ?_)⟩
      · refine ⟨_, rfl, _, rfl, d, c, sd, rfl, hd3, by omega, by omega, fun r H5 r0 r1 hd5 k5 => ?_⟩
        obtain ⟨x1, rfl⟩ := Int.eq_ofNat_of_zero_le r0
        refine ⟨_, rfl, _, _, rfl, rfl, _, rfl, _, rfl, _, _, rfl, rfl, d, c, (sd : Int) - 1, rfl, hd5, by omega, by omega, fun r H6 r0 r2 hd6 k6 => ?_⟩
        obtain ⟨x2, rfl⟩ := Int.eq_ofNat_of_zero_le r0
        refine ⟨_, _, rfl, rfl, .inl ⟨_, rfl, _, rfl, _, _, rfl, rfl, (by omega), ?_⟩⟩
        have hp : 0 < sd := by omega
        refine ⟨x1, (x1 + 1 + x2) % sd, ?_, by omega, Nat.mod_lt _ hp, hd6, k5.trans k6⟩
        show [some (V.ref d), some (vI a), some (vI b), some (vI sd), some (vI tt), some (vI first), some (.ref ND), some (.int (0 + (i : Int))), some (.ref LN), some (.ref PR), some (vI x1), some (V.int (((x1 : Int) + 1 + (x2 : Int)) % (sd : Int))), v12, none, none, none, none, none, none] = _
        rw [show V.int (((x1 : Int) + 1 + (x2 : Int)) % (sd : Int)) = vI ((x1 + 1 + x2) % sd) from congrArg V.int (by rw [Int.natCast_emod]; congr 1)]
      · have : ¬ (0 + (i : Int) < (tt : Int)) := fun e => z (decide_eq_true e)
        refine ⟨0, 1 + i - tt, ?_, by omega, by omega, hd3, .refl _ _⟩
        show [some (V.ref d), some (vI a), some (vI b), some (vI sd), some (vI tt), some (vI first), some (.ref ND), some (.int (0 + (i : Int))), some (.ref LN), some (.ref PR), some (V.int 0), some (V.int (1 + (0 + (i : Int)) - (tt : Int))), v12, none, none, none, none, none, none] = _
        rw [show V.int (1 + (0 + (i : Int)) - (tt : Int)) = vI (1 + i - tt) from congrArg V.int (by omega)]
        rfl
    rintro σ' H5 ⟨at_, ot, rfl, hat, hot, hd5, k5⟩
    have eL5 := k5 _ _ (by simp [nLNd]) eL3
    have eN5 := k5 _ _ (by simp [nND]) eN3
    have hA5 := hA3.keep k5 (k5.tup1 hd3) (by simp [nPRd])
    have eot : ln[ot]? = some ln[ot] := List.getElem?_eq_getElem (by omega)
    refine ⟨_, rfl, _, rfl, LN, _, _, vI ln[ot], rfl, rfl, SqL.of eL5, atI_nat (by rw [List.getElem?_map, eot]; rfl), ?_⟩
    refine ⟨fun σ' H6 => ∃ rt : Nat, σ' = [some (.ref d), some (vI a), some (vI b), some (vI sd), some (vI tt), some (vI first), some (.ref ND), some (.int (0 + (i : Int))), some (.ref LN), some (.ref PR), some (vI at_), some (vI ot), some (vI rt), none, none, none, none, none, none] ∧ rt < 2 * (first + i) ∧ DS H6 d c ∧ Keep [d] H5 H6, ?_, ?_⟩
    · refine ⟨_, rfl, _, rfl, _, _, rfl, rfl, _, rfl, ite2 (fun z => ?_) (fun z => ?_)⟩
      · refine ⟨_, rfl, d, c, 3, rfl, hd5, by decide, by decide, fun r H6 r0 r1 hd6 k6 => ?_⟩
        refine ⟨rfl, _, rfl, ite2 (fun z => ?_) (fun z => ?_)⟩
        · refine ⟨_, rfl, _, rfl, d, c, ND, _, rfl, hd6, nND, SqL.of (k6 _ _ (by simp [nND]) eN5), by rw [List.length_map]; omega, by rw [List.length_map]; omega, fun j y H7 hy hd7 k7 => ?_⟩
          obtain ⟨m, hm, rfl⟩ := natAt hy
          have := nlt m (List.mem_of_getElem? hm)
          refine ⟨_, _, rfl, rfl, .inl ⟨by decide, by decide⟩, 2 * m, ?_, by omega, hd7, k6.trans k7⟩
          show [some (V.ref d), some (vI a), some (vI b), some (vI sd), some (vI tt), some (vI first), some (.ref ND), some (.int (0 + (i : Int))), some (.ref LN), some (.ref PR), some (vI at_), some (vI ot), some (V.int (2 * (m : Int))), none, none, none, none, none, none] = _
          rw [vI_mul2]
        · exact ⟨ln[ot], rfl, lt3 _ (List.getElem_mem _), hd6, k6⟩
      · exact ⟨ln[ot], rfl, lt3 _ (List.getElem_mem _), hd5, .refl _ _⟩
    rintro σ' H6 ⟨rt, rfl, hrt, hd6, k6⟩
    have eL6 := k6 _ _ (by simp [nLNd]) eL5
    have eN6 := k6 _ _ (by simp [nND]) eN5
    have hA6 := hA5.keep k6 (k6.tup1 hd5) (by simp [nPRd])
    obtain ⟨ac6, ea6⟩ := hA6.at_
    have eat : ln[at_]? = some ln[at_] := List.getElem?_eq_getElem (by omega)
    have hx0 := lt3 _ (List.getElem_mem (show at_ < ln.length by omega))
    refine ⟨_, rfl, .inl ⟨rfl, _, SqL.of ea6⟩, ?_⟩
    refine ⟨_, rfl, _, rfl, LN, _, _, vI ln[at_], rfl, rfl, SqL.of eL6, atI_nat (by rw [List.getElem?_map, eat]; rfl), _, rfl, d, c, 2, rfl, hd6, by decide, by decide, fun r H7 r0 r1 hd7 k7 => ?_⟩
    obtain ⟨u1, rfl⟩ := Int.eq_ofNat_of_zero_le r0
    refine ⟨_, u1, rfl, rfl, _, rfl, _, rfl, d, c, 2, rfl, hd7, by decide, by decide, fun r H8 r0 r2 hd8 k8 => ?_⟩
    obtain ⟨u2, rfl⟩ := Int.eq_ofNat_of_zero_le r0
    refine ⟨_, u2, rfl, rfl, by show 2 ≤ sizeLine; decide, fun t ht => ?_⟩
    have st := same_new ht (.tup [vI (ln[at_] ^^^ u1), vI (rt ^^^ u2)])
    have k48 : Keep [d] H4 (upd H8 t (.tup [vI (ln[at_] ^^^ u1), vI (rt ^^^ u2)])) := (((k5.trans k6).trans k7).trans k8).trans (.of_same st)
    have hA9 := ((hA6.keep k7 (k7.tup1 hd6) (by simp [nPRd])).keep k8 (k8.tup1 hd7) (by simp [nPRd])).same st
    have eL9 := st _ _ (k8 _ _ (by simp [nLNd]) (k7 _ _ (by simp [nLNd]) eL6))
    have eN9 := st _ _ (k8 _ _ (by simp [nND]) (k7 _ _ (by simp [nND]) eN6))
    have hd9 := hd8.same st
    obtain ⟨vs, e, hlen, hA10, _⟩ := hA9.push (x := (ln[at_] ^^^ u1, rt ^^^ u2)) (.mkPair upd_same) (by omega)
    refine ⟨PR, vs, _, rfl, rfl, e, hlen, ?_⟩
    have eL10 : upd (upd H8 t (.tup [vI (ln[at_] ^^^ u1), vI (rt ^^^ u2)])) PR (.lst (vs ++ [.ref t])) LN = _ := (upd_ne nPL.symm).trans eL9
    have eN10 : upd (upd H8 t (.tup [vI (ln[at_] ^^^ u1), vI (rt ^^^ u2)])) PR (.lst (vs ++ [.ref t])) ND = _ := (upd_ne nPN.symm).trans eN9
    have hd10 := hd9.keep (S := [PR]) (Keep.at1 (o := .lst (vs ++ [.ref t]))) (by simp [nPRd.symm]) (by simp [nPRc.symm])
    have k10 := keep_two (o := .lst (vs ++ [.ref t])) (k3.trans k48) hPR0
    generalize upd (upd H8 t (.tup [vI (ln[at_] ^^^ u1), vI (rt ^^^ u2)])) PR (.lst (vs ++ [.ref t])) = H10 at eL10 eN10 hd10 k10 hA10 ⊢
    refine ⟨_, rfl, _, rfl, _, _, rfl, rfl, _, _, rfl, rfl, .inl ⟨by decide, by decide⟩, _, rfl, _, rfl, LN, _, _, at_, rfl, rfl, eL10, by rw [List.length_map]; exact ixN_nat (by omega), ?_⟩
    have eset : (ln.map vI).set at_ (V.int (2 * ((first : Int) + (0 + (i : Int))))) = (ln.set at_ (2 * (first + i))).map vI := by
      rw [show V.int (2 * ((first : Int) + (0 + (i : Int)))) = vI (2 * (first + i)) from congrArg V.int (by omega), set_vI]
    refine ⟨some (.int (0 + (i : Int))), some (vI at_), some (vI ot), some (vI rt), ln.set at_ (2 * (first + i)), an ++ [(ln[at_] ^^^ u1, rt ^^^ u2)], rfl, hd10.keep (S := [LN]) Keep.at1 (by simp [nLNd.symm]) (by simp [nLNc.symm]), keep_two k10 hLN0, (upd_ne nLN_ND.symm).trans eN10, ?_, by rw [List.length_set]; exact ll3, fun x hx => ?_, hA10.keep Keep.at1 (.lst eL10) (by simp [nPL]), by rw [List.length_append, la3]; rfl, ?_⟩
    · rw [upd_same]
      exact congrArg (fun l => some (HO.lst l)) eset
    · rcases List.mem_or_eq_of_mem_set hx with h | h
      · have := lt3 x h
        omega
      · omega
    · exact po3.snoc (by rw [la3]; exact lit_lt hx0 (by omega)) (by rw [la3]; exact lit_lt hrt (by omega))
  obtain ⟨v7, v10, v11, v12, ln, an, rfl, hd3, k3, eN3, eL3, ll3, lt3, hA3, la3, po3⟩ := pv
  have lan : an.length + 1 = tt + sd := by rw [la3]; omega
  rw [← la3] at lt3
  clear eN3 kH2 hd2 eND2 s2' lln llt eND hd1 kH1 la3
  refine ⟨fun σ' H' => ∃ pn : Addr, σ' = [some (.ref d), some (vI a), some (vI b), some (vI sd), some (vI tt), some (vI first), some (.ref ND), v7, some (.ref LN), some (.ref PR), v10, v11, v12, some (.ref pn), none, none, none, none, none] ∧ DS H' d c ∧ Nms H' pn 61 ∧ Acc PR pairD an H' ∧ Keep [d] H H' ∧ H' LN = some (.lst (ln.map vI)) ∧ pn ≠ d ∧ pn ≠ c ∧ PR ≠ pn ∧ LN ≠ pn ∧ H pn = none, ?_, ?_⟩
  · refine ⟨rfl, fun pn xs hpn hx => ?_⟩
    have s4 := same_new hpn (.lst (xs.map V.str))
    obtain ⟨nnd, nnc⟩ := hd3.new hpn
    refine ⟨pn, rfl, hd3.same s4, ⟨_, upd_same, fun v hv => (let ⟨z, _, e⟩ := List.mem_map.mp hv; ⟨z, e.symm⟩), by rw [List.length_map, hx]⟩, hA3.same s4, k3.trans (.of_same s4), s4 _ _ eL3, nnd, nnc, ?_, ne_of_none eL3 hpn, kfree k3 hpn (by simp [nnd])⟩
    obtain ⟨x, e⟩ := hA3.at_
    exact ne_of_none e hpn
  rintro σ' H2 ⟨pn, rfl, hd2, hn2, hA, k2, eL2, nnd, nnc, nPRn, nLn, hpn⟩
  refine ⟨fun σ' H' => σ' = [some (.ref d), some (vI a), some (vI b), some (vI sd), some (vI tt), some (vI first), some (.ref ND), v7, some (.ref LN), some (.ref PR), v10, v11, v12, some (.ref pn), some (vI (first + an.length)), none, none, none, none] ∧ H2 = H', ?_, ?_⟩
  · obtain ⟨va, ea, la⟩ := hA
    refine ⟨_, rfl, _, rfl, PR, _, rfl, .inl (SqL.of ea), _, _, rfl, rfl, ?_, rfl⟩
    show [some (V.ref d), some (vI a), some (vI b), some (vI sd), some (vI tt), some (vI first), some (.ref ND), v7, some (.ref LN), some (.ref PR), v10, v11, v12, some (.ref pn), some (V.int ((first : Int) + (va.length : Int))), none, none, none, none] = _
    rw [show V.int ((first : Int) + (va.length : Int)) = vI (first + an.length) from congrArg V.int (by rw [list_len la]; omega)]
  rintro σ' H' ⟨rfl, e⟩
  subst e
  have hal : an.length ≤ 70 := by omega
  -- the inputs
  refine ⟨_, rfl, (a : Int), rfl, (i62 (by omega)).1, (i62 (by omega)).2, fun D2 hD2 => ?_⟩
  obtain ⟨n2d, n2c⟩ := hd2.new hD2
  have n2n : D2 ≠ pn := let ⟨x, e, _⟩ := hn2; (ne_of_none e hD2).symm
  have n21 : D2 ≠ PR := let ⟨x, e⟩ := hA.at_; (ne_of_none e hD2).symm
  have nL2 : LN ≠ D2 := ne_of_none eL2 hD2
  have f2 : H D2 = none := k2.free hD2 (by simp [n2d])
  refine lc_range (lo := 0) (n := a) (fun i H' => ∃ acc : List Str, Acc D2 PyData.str acc H' ∧ acc.length = i ∧ DS H' d c ∧ Nms H' pn (61 - i) ∧ Acc PR pairD an H' ∧ Keep [d] H H' ∧ H' LN = some (.lst (ln.map vI)))
    ⟨[], .nil, rfl, hd2.same (same_new hD2 _), hn2.same (same_new hD2 _), hA.same (same_new hD2 _), k2.trans (Keep.new hD2), same_new hD2 _ _ _ eL2⟩ (fun i H3 hi p => ?_) (fun H3 p => ?_)
  · obtain ⟨acc, hB, hl, hd3, hn3, hA3, k3, eL3⟩ := p
    have hi : i < a := hi
    obtain ⟨names, hn, hz, h61'⟩ := hn3
    refine ⟨rfl, _, rfl, _, rfl, d, c, pn, names, rfl, hd3, hn, nnd, nnc, by omega, by omega, fun j y H4 hy hd4 hn4 k4 => ?_⟩
    obtain ⟨z, rfl⟩ := hz y (List.mem_of_getElem? hy)
    have t4 := k4.tup2 hd3 hn
    have hB4 := hB.keep k4 t4 (by simp [n2d, n2n])
    obtain ⟨vs, e, hlen, hB5, t5⟩ := hB4.push (x := z) (.str z) (by omega)
    refine ⟨vs, e, hlen, acc ++ [z], hB5, by rw [List.length_append, hl]; rfl, hd4.keep (S := [D2]) Keep.at1 (by simp [n2d.symm]) (by simp [n2c.symm]), ⟨names.eraseIdx j, ?_, fun v hv => hz v (List.mem_of_mem_eraseIdx hv), ?_⟩, ?_, ?_, (upd_ne nL2).trans (k4 _ _ (by simp [nLNd, nLn]) eL3)⟩
    · rw [upd_ne n2n.symm]; exact hn4
    · rw [List.length_eraseIdx, if_pos (List.getElem?_eq_some_iff.mp hy).1]; omega
    · exact (hA3.keep k4 t4 (by simp [nPRd, nPRn])).keep Keep.at1 t5 (by simp [n21.symm])
    · exact ((k3.cat k4).cat .at1).thin (by simp [hpn, f2])
  -- behind the inputs
  obtain ⟨is, ⟨vs, hB, lB⟩, hil, hdS, hnS, hAS, kS, eLS⟩ := p
  obtain rfl := lB.strs_inv
  refine ⟨D2, _, rfl, .inl ⟨SqL.of hB, fun pi hpi => ?_⟩⟩
  have st := same_new hpi (.tup (is.map V.str))
  have hP : upd H3 pi (.tup (is.map V.str)) pi = some (.tup (is.map V.str)) := upd_same
  replace hdS := hdS.same st
  replace eLS := st _ _ eLS
  replace hnS := hnS.same st
  replace hAS := hAS.same st
  replace kS : Keep [d] H (upd H3 pi (.tup (is.map V.str))) := kS.trans (.of_same st)
  generalize upd H3 pi (.tup (is.map V.str)) = Ht at hP hdS hnS hAS kS eLS ⊢
  have ktS : KeepT Ht Ht := .refl _
  have m1 : PR ∉ [d, pn] := by simp [nPRd, nPRn]
  clear hB lB hpi st hd2 hn2 hA k2 hD2
  -- the regs
  refine ⟨_, rfl, (b : Int), rfl, (i62 (by omega)).1, (i62 (by omega)).2, fun D3 hD => ?_⟩
  obtain ⟨ndD3, ncD3⟩ := hdS.new hD
  have nnD3 : D3 ≠ pn := let ⟨x, e, _⟩ := hnS; (ne_of_none e hD).symm
  have nD3D1 : D3 ≠ PR := let ⟨x, e⟩ := hAS.at_; (ne_of_none e hD).symm
  have nL3 : LN ≠ D3 := ne_of_none eLS hD
  have fD3 : H D3 = none := kS.free hD (by simp [ndD3])
  refine lc_range (lo := 0) (n := b) (fun i H' => ∃ acc : List (Str × Nat × Nat), Acc D3 regD acc H' ∧ acc.length = i ∧ (∀ r ∈ acc, r.2.1 < 2 ∧ r.2.2 < 2 * (1 + a + b + an.length)) ∧ DS H' d c ∧ Nms H' pn (61 - (a) - i) ∧ KeepT Ht H' ∧ Keep [d] H H' ∧ Acc PR pairD an H' ∧ H' LN = some (.lst (ln.map vI)))
    ⟨[], .nil, rfl, fun r hr => by simp at hr, hdS.same (same_new hD _), (hnS.same (same_new hD _)).cast (by omega), ktS.trans (.new hD), kS.trans (Keep.new hD), hAS.same (same_new hD _), same_new hD _ _ _ eLS⟩ (fun i H3 hi p => ?_) (fun H3 p => ?_)
  · obtain ⟨acc, hB, hl, hg, hd3, ⟨names, hn, hz, h61'⟩, kt3, k3, hAS3, eL3⟩ := p
    have hi : i < b := hi
    refine ⟨rfl, _, rfl, _, rfl, d, c, pn, names, rfl, hd3, hn, nnd, nnc, by omega, by omega, fun j y H4 hy hd4 hn4 k4 => ?_⟩
    obtain ⟨z, rfl⟩ := hz y (List.mem_of_getElem? hy)
    have t4 := k4.tup2 hd3 hn
    refine ⟨_, rfl, d, c, 2, rfl, hd4, by decide, by decide, fun r H5 r0 r1 hd5 k5 => ?_⟩
    obtain ⟨u, rfl⟩ := Int.eq_ofNat_of_zero_le r0
    have t5 := k5.tup1 hd4
    refine ⟨_, rfl, _, rfl, d, c, _, 1 + a + b + an.length, rfl, by omega, hd5, by omega, by omega, fun l H6 hl6 hd6 k6 => ?_⟩
    have t6 := k6.tup1 hd5
    refine ⟨(by show 3 ≤ sizeLine; decide), fun t ht => ?_⟩
    have st := same_new ht (.tup [.str z, vI u, vI l])
    have kc : Keep [d, pn] H3 (upd H6 t (.tup [.str z, vI u, vI l])) := (((k4.cat k5).cat k6).cat (.sm st)).wide (by simp)
    have tc : KeepT H3 (upd H6 t (.tup [.str z, vI u, vI l])) := ((t4.trans t5).trans t6).trans (.same st)
    have hn6 : (upd H6 t (.tup [.str z, vI u, vI l])) pn = some (.lst (names.eraseIdx j)) := st _ _ (k6 _ _ (by simp [nnd]) (k5 _ _ (by simp [nnd]) hn4))
    obtain ⟨vs, e, hlen, hB7, t7⟩ := (hB.keep kc tc (by simp [ndD3, nnD3])).push (x := (z, u, l)) (.mkReg upd_same) (by omega)
    refine ⟨vs, e, hlen, acc ++ [(z, u, l)], hB7, by rw [List.length_append, hl]; rfl, fun r hr => ?_, (hd6.same st).keep (S := [D3]) Keep.at1 (by simp [ndD3.symm]) (by simp [ncD3.symm]), ⟨names.eraseIdx j, ?_, fun v hv => hz v (List.mem_of_mem_eraseIdx hv), ?_⟩, (kt3.trans tc).trans t7, ((k3.cat kc).cat .at1).thin (by simp [hpn, fD3]), (hAS3.keep kc tc (by simp [*])).keep Keep.at1 t7 (by simp [nD3D1.symm]), (upd_ne nL3).trans (kc _ _ (by simp [nLNd, nLn]) eL3)⟩
    · rcases List.mem_append.mp hr with q | q
      · exact hg r q
      · rw [List.mem_singleton.mp q]
        exact ⟨by show u < 2; omega, hl6⟩
    · rw [upd_ne nnD3.symm]; exact hn6
    · rw [List.length_eraseIdx, if_pos (List.getElem?_eq_some_iff.mp hy).1]; omega
  obtain ⟨rs, hRS, hrl, hrg, hdS, hnS, ktS, kS, hAS, eLS⟩ := p
  -- what is shown
  have hn0 : 0 < ln.length := by omega
  have el0 : ln[0]? = some ln[0] := List.getElem?_eq_getElem hn0
  have hl0 := lt3 _ (List.getElem_mem hn0)
  have mPR : PR ∉ [d, pn] := by simp [nPRd, nPRn]
  have mD3 : D3 ∉ [d, pn] := by simp [ndD3, nnD3]
  have mLN : LN ∉ [d, pn] := by simp [nLNd, nLn]
  obtain ⟨names, hn, hz, h61'⟩ := hnS
  refine ⟨_, rfl, _, rfl, d, c, pn, names, rfl, hdS, hn, nnd, nnc, by omega, by omega, fun j y H4 hy hd4 hn4 k4 => ?_⟩
  obtain ⟨z1, rfl⟩ := hz y (List.mem_of_getElem? hy)
  have t4 := k4.tup2 hdS hn
  have eL4 := k4 _ _ mLN eLS
  refine ⟨_, rfl, LN, _, _, vI ln[0], rfl, rfl, SqL.of eL4, atI_nat (j := 0) (by rw [List.getElem?_map, el0]; rfl), _, rfl, d, c, 2, rfl, hd4, by decide, by decide, fun r H5 r0 r1 hd5 k5 => ?_⟩
  obtain ⟨u1, rfl⟩ := Int.eq_ofNat_of_zero_le r0
  have t5 := k5.tup1 hd4
  have hn5 := k5 _ _ (by simp [nnd]) hn4
  refine ⟨_, u1, rfl, rfl, by show 2 ≤ sizeLine; decide, fun q1 hq1 => ?_⟩
  have st6 := same_new hq1 (.tup [.str z1, vI (ln[0] ^^^ u1)])
  have e6 : (names.eraseIdx j).length + 1 = names.length := by
    have := (List.getElem?_eq_some_iff.mp hy).1
    rw [List.length_eraseIdx, if_pos this]; omega
  have hd6 := hd5.same st6
  have hn6 := st6 _ _ hn5
  have eq6 := upd_same (H := H5) (a := q1) (o := .tup [.str z1, vI (ln[0] ^^^ u1)])
  have k46 : Keep [d, pn] H3 (upd H5 q1 (.tup [.str z1, vI (ln[0] ^^^ u1)])) := ((k4.cat k5).cat (.sm st6)).wide (by simp)
  have t46 : KeepT H3 (upd H5 q1 (.tup [.str z1, vI (ln[0] ^^^ u1)])) := (t4.trans t5).trans (.same st6)
  generalize upd H5 q1 (.tup [.str z1, vI (ln[0] ^^^ u1)]) = H6 at hd6 hn6 eq6 k46 t46 ⊢
  clear st6 hn5 t5 k5 hd5 eL4 t4 k4 hn4 hd4
  refine ⟨_, rfl, _, rfl, d, c, pn, _, rfl, hd6, hn6, nnd, nnc, by omega, by omega, fun j2 y2 H7 hy2 hd7 hn7 k7 => ?_⟩
  obtain ⟨z2, rfl⟩ := hz y2 (List.mem_of_mem_eraseIdx (List.mem_of_getElem? hy2))
  have t7 := k7.tup2 hd6 hn6
  refine ⟨_, rfl, _, rfl, d, c, _, first + an.length, rfl, by omega, hd7, by omega, by omega, fun l2 H8 hl2 hd8 k8 => ?_⟩
  have t8 := k8.tup1 hd7
  refine ⟨by show 2 ≤ sizeLine; decide, fun q2 hq2 => ?_⟩
  have st9 := same_new hq2 (.tup [.str z2, vI l2])
  refine ⟨by show 2 ≤ sizeLine; decide, fun S hS => ?_⟩
  have stS := same_new hS (.lst [.ref q1, .ref q2])
  have e7 : ((names.eraseIdx j).eraseIdx j2).length + 1 = (names.eraseIdx j).length := by
    have := (List.getElem?_eq_some_iff.mp hy2).1
    rw [List.length_eraseIdx, if_pos this]; omega
  have s89 := st9.trans stS
  have hd9 := hd8.same s89
  have hn9 := s89 _ _ (k8 _ _ (by simp [nnd]) hn7)
  have eS9 := upd_same (H := upd H8 q2 (.tup [.str z2, vI l2])) (a := S) (o := .lst [.ref q1, .ref q2])
  have eq9 := stS _ _ (upd_same (H := H8) (a := q2) (o := .tup [.str z2, vI l2]))
  have eq19 := s89 _ _ (t8 _ _ (t7 _ _ eq6))
  have k69 : Keep [d, pn] H6 _ := ((k7.cat k8).cat (.sm s89)).wide (by simp)
  have t69 : KeepT H6 _ := (t7.trans t8).trans (.same s89)
  generalize upd (upd H8 q2 (.tup [.str z2, vI l2])) S (.lst [.ref q1, .ref q2]) = H9 at hd9 hn9 eS9 eq9 eq19 k69 t69 ⊢
  clear stS st9 s89 t8 k8 hd8 t7 k7 hn7 hd7 hS hq2
  refine ⟨_, rfl, _, rfl, d, c, pn, _, rfl, hd9, hn9, nnd, nnc, by omega, by omega, fun j3 y3 H10 hy3 hd10 hn10 k10 => ?_⟩
  obtain ⟨z3, rfl⟩ := hz y3 (List.mem_of_mem_eraseIdx (List.mem_of_mem_eraseIdx (List.mem_of_getElem? hy3)))
  have t10 := k10.tup2 hd9 hn9
  have nSn : S ≠ pn := fun z => by
    rw [z, hn9] at eS9
    have q := HO.lst.inj (Option.some.inj eS9)
    have m : (V.ref q1) ∈ (names.eraseIdx j).eraseIdx j2 := by rw [q]; simp
    obtain ⟨zz, hzz⟩ := hz _ (List.mem_of_mem_eraseIdx (List.mem_of_mem_eraseIdx m))
    cases hzz
  have nSd : S ≠ d := fun z => by
    obtain ⟨a1, a2, a3, a4, a5, _⟩ := hd9
    rw [z, a5] at eS9
    have q := HO.lst.inj (Option.some.inj eS9)
    cases (List.cons.inj (List.cons.inj q).2).1
  refine ⟨_, rfl, _, rfl, d, c, _, first + an.length, rfl, by omega, hd10, by omega, by omega, fun l3 H11 hl3 hd11 k11 => ?_⟩
  have t11 := k11.tup1 hd10
  refine ⟨by show 2 ≤ sizeLine; decide, fun q3 hq3 => ?_⟩
  have st12 := same_new hq3 (.tup [.str z3, vI l3])
  refine ⟨by show 1 ≤ sizeLine; decide, fun A1 hA1 => ?_⟩
  have stA := same_new hA1 (.lst [.ref q3])
  have s12 := st12.trans stA
  have hd12 := hd11.same s12
  have eA12 := upd_same (H := upd H11 q3 (.tup [.str z3, vI l3])) (a := A1) (o := .lst [.ref q3])
  have eq12 := stA _ _ (upd_same (H := H11) (a := q3) (o := .tup [.str z3, vI l3]))
  have k912 : Keep [d, pn] H9 _ := ((k10.cat k11).cat (.sm s12)).wide (by simp)
  have t912 : KeepT H9 _ := (t10.trans t11).trans (.same s12)
  generalize upd (upd H11 q3 (.tup [.str z3, vI l3])) A1 (.lst [.ref q3]) = H12 at hd12 eA12 eq12 k912 t912 ⊢
  clear stA st12 s12 t11 k11 hd11 t10 k10 hn10 hd10 hA1 hq3
  have kAll : Keep [d, pn] H3 H12 := ((k46.cat k69).cat k912).wide (by simp)
  have tAll : KeepT H3 H12 := (t46.trans t69).trans t912
  have eS12 := k912 _ _ (by simp [nSd, nSn]) eS9
  have hA12 := hAS.keep kAll tAll mPR
  have hR12 := hRS.keep kAll tAll mD3
  have kF : Keep [d] H H12 := (kS.cat kAll).thin (by simp [hpn])
  have lo12 : LayAll H12 [.ref q1, .ref q2] ([(z1, ln[0] ^^^ u1), (z2, l2)].map namD) := .cons (.mkNam (t912 _ _ eq19)) (.cons (.mkNam (t912 _ _ eq9)) .nil)
  have lc12 : LayAll H12 [.ref q3] ([(z3, l3)].map namD) := .cons (.mkNam eq12) .nil
  have hP12 := tAll _ _ (ktS _ _ hP)
  obtain ⟨va, ea, la⟩ := hA12
  obtain ⟨vr, er, lr⟩ := hR12
  refine ⟨_, rfl, _, rfl, D3, _, rfl, .inl ⟨SqL.of er, fun pr hpr => ?_⟩⟩
  have s1 := same_new hpr (.tup vr)
  refine ⟨_, rfl, PR, _, rfl, .inl ⟨SqL.of (s1 _ _ ea), fun pa hpa => ?_⟩⟩
  have s2 := s1.trans (same_new hpa (.tup va))
  refine ⟨_, rfl, S, _, rfl, .inl ⟨SqL.of (s2 _ _ eS12), fun po hpo => ?_⟩⟩
  have s3 := s2.trans (same_new hpo (.tup [.ref q1, .ref q2]))
  refine ⟨_, rfl, A1, _, rfl, .inl ⟨SqL.of (s3 _ _ eA12), fun pc hpc => ?_⟩⟩
  have s4 := s3.trans (same_new hpc (.tup [.ref q3]))
  refine ⟨(by show 6 ≤ sizeLine; decide), fun p hp => ?_⟩
  have s5 := s4.trans (same_new hp (.tup [.str "net", .ref pi, .ref pr, .ref pa, .ref po, .ref pc]))
  have g1 := same_new hpa (.tup va)
  have g2 := same_new hpo (.tup [.ref q1, .ref q2])
  have g3 := same_new hpc (.tup [.ref q3])
  have g4 := same_new hp (.tup [.str "net", .ref pi, .ref pr, .ref pa, .ref po, .ref pc])
  have hN : NetAt _ p pi pr pa po pc vr va [.ref q1, .ref q2] [.ref q3] ⟨is, rs, an, [(z1, ln[0] ^^^ u1), (z2, l2)], [(z3, l3)]⟩ := ⟨upd_same, s5 _ _ hP12, g4 _ _ (g3 _ _ (g2 _ _ (g1 _ _ upd_same))), lr.keep' (.same s5), g4 _ _ (g3 _ _ (g2 _ _ upd_same)), la.keep' (.same s5), g4 _ _ (g3 _ _ upd_same), lo12.keep' (.same s5), g4 _ _ upd_same, lc12.keep' (.same s5)⟩
  have e1 : (Net.mk is rs an [(z1, ln[0] ^^^ u1), (z2, l2)] [(z3, l3)]).first = 1 + a + b := by
    show 1 + is.length + rs.length = _
    rw [hil, hrl]
  have e2 : (Net.mk is rs an [(z1, ln[0] ^^^ u1), (z2, l2)] [(z3, l3)]).size = 1 + a + b + an.length := by
    show (Net.mk is rs an _ _).first + an.length = _
    rw [show (Net.mk is rs an [(z1, ln[0] ^^^ u1), (z2, l2)] [(z3, l3)]).first = 1 + a + b from e1]
  have hu1 : ln[0] ^^^ u1 < 2 * (first + an.length) := lit_lt hl0 (by omega)
  refine q _ ⟨is, rs, an, [(z1, ln[0] ^^^ u1), (z2, l2)], [(z3, l3)]⟩ _ hN.lay ⟨fun r hr => by rw [e2]; exact hrg r hr, fun i p h => by rw [e1, ← hfirst]; exact po3 i p h, fun r hr => ?_, fun r hr => ?_⟩ hil hrl lan rfl rfl (hd12.same s5) (kF.trans (.of_same s5))
  · rw [e2, ← hfirst]
    simp only [List.mem_cons, List.not_mem_nil, or_false] at hr
    rcases hr with rfl | rfl
    · exact hu1
    · exact hl2
  · rw [e2, ← hfirst]
    rw [List.mem_singleton.mp hr]
    exact hl3
end

end Bf

set_option Elab.async false
set_option linter.all false
set_option maxRecDepth 100000
set_option maxHeartbeats 4000000
namespace Bf
open PySem PySem.Spec PyProof.Rows L2
/-! ### some net -/
def SomeOk (N : Net) (most : Nat) : Prop := N.Right ∧ N.ins.length ≤ 10 ∧ N.regs.length ≤ 2 ∧ N.ands.length < most ∧ N.outs.length ≤ 3 ∧ N.cls.length ≤ 3
def spSome : Sp := fun vs H Q _ => ∃ (d c : Addr) (least k most : Nat), vs = [.ref d, vI least, vI k, vI most] ∧ DS H d c ∧ least ≤ k + 2 ∧ 2 ≤ k ∧ k ≤ 4 ∧ k + 2 ≤ most ∧ most ≤ 60 ∧
  ∀ (v : V) (N : Net) (H' : Hp), Lay H' v (netD N) → SomeOk N most → N.ins.length + N.regs.length ≤ k + 4 → DS H' d c → Keep [d] H H' → Q v H'
section
variable {P : Program} {w : World} {K : PySem.W.Frag} {mg : Str → Option Value} {base : Heap} {f : Addr} {fd : FuncData}
theorem ok_some (F : Fun K "_law_some_net" "_law_some_net" s_law_some_net f fd) (T : Txt mg) (D_law_draw : Dn P w K mg base "_law_draw" ["_law_d", "_law_many"] 1 spDraw) (D_law_rare : Dn P w K mg base "_law_rare" ["_law_d", "_law_many"] 2 spRare)
    (D_law_woven : Dn P w K mg base "_law_woven" ["_law_d", "_law_inputs", "_law_regs", "_law_strands", "_law_steps"] 3 spWoven) (D_law_net : Dn P w K mg base "_law_net" ["_law_d", "_law_inputs", "_law_regs", "_law_ands", "_law_outputs", "_law_claims"] 3 spNet)
    (D_law_first : Dn P w K mg base "_law_first" ["_law_net_here"] 1 spFirst) (D_law_pick : Dn P w K mg base "_law_pick" ["_law_d", "_law_row"] 2 (spPick K)) :
    FnOk P w K mg base CX0 4 f fd ["_law_d", "_law_least", "_law_k", "_law_most"] spSome := by
  refine F.ok sc_law_some_net (fun vs H Q E h => ?_) (fun cdv A outer s H vs Q E hr h => ?_)
  · obtain ⟨d, c, l, k, m, rfl, _⟩ := h
    rfl
  obtain ⟨d, c, least, k, most, rfl, hd, hlk, k2, k4, hm1, hm2, q⟩ := h
  refine ⟨_, (pss_cons (ps_par (i := 4) (j := 5) (by rfl) sc_law_some_net.nd rfl rfl (by decide) rfl rfl (pa_cons (pe_op op_add (pv 1) (pe_dn D_law_draw (hr.mono (by omega)) (by rfl) (pa_cons (pv 0) (pa_cons (pe_op op_sub (pe_op op_add (pv 2) pe_int) (pv 1)) pa_nil)))) (pa_cons (pe_dn D_law_draw (hr.mono (by omega)) (by rfl) (pa_cons (pv 0) (pa_cons pe_int pa_nil))) pa_nil)) (by rfl))
      (C8.pss_cut (ps_if (pt_val (pe_dn D_law_rare (hr.mono (by omega)) (by rfl) (pa_cons (pv 0) (pa_cons pe_int pa_nil)))) (pss_one (ps_set (i := 4) sc_law_some_net.nd rfl (Or.inl rfl) (pe_dn D_law_draw (hr.mono (by omega)) (by rfl) (pa_cons (pv 0) (pa_cons pe_int pa_nil))))) pss_nil)
      (pss_cons (ps_set (i := 6) sc_law_some_net.nd rfl (Or.inl rfl) (pe_op op_add pe_int (pe_dn D_law_draw (hr.mono (by omega)) (by rfl) (pa_cons (pv 0) (pa_cons (pv 2) pa_nil)))))
      (C8.pss_cut (ps_if (PW.pt (pw_and (pt_cmpR op_gt (pe_op op_add (pv 4) (pv 5)) pe_int (nomark _)) (pw_and1 (pt_cmpR op_eq (pe_dn D_law_draw (hr.mono (by omega)) (by rfl) (pa_cons (pv 0) (pa_cons pe_int pa_nil))) pe_int (nomark _))))) (pss_one (ps_set (i := 7) sc_law_some_net.nd rfl (Or.inl rfl) (pe_dn D_law_woven (hr.mono (by omega)) (by rfl) (pa_cons (pv 0) (pa_cons (pv 4) (pa_cons (pv 5) (pa_cons (pv 6) (pa_cons (pe_dn D_law_draw (hr.mono (by omega)) (by rfl) (pa_cons (pv 0) (pa_cons (pe_op op_sub (pv 3) (pv 6)) pa_nil))) pa_nil)))))))) (pss_one (ps_set (i := 7) sc_law_some_net.nd rfl (Or.inl rfl) (pe_dn D_law_net (hr.mono (by omega)) (by rfl) (pa_cons (pv 0) (pa_cons (pv 4) (pa_cons (pv 5) (pa_cons (pe_dn D_law_draw (hr.mono (by omega)) (by rfl) (pa_cons (pv 0) (pa_cons (pv 3) pa_nil))) (pa_cons (pe_dn D_law_draw (hr.mono (by omega)) (by rfl) (pa_cons (pv 0) (pa_cons pe_int pa_nil))) (pa_cons (pe_dn D_law_draw (hr.mono (by omega)) (by rfl) (pa_cons (pv 0) (pa_cons pe_int pa_nil))) pa_nil))))))))))
      (C8.pss_cut (ps_if (pt_cmpR op_eq (pe_dn D_law_draw (hr.mono (by omega)) (by rfl) (pa_cons (pv 0) (pa_cons pe_int pa_nil))) pe_int (nomark _)) (pss_cons (ps_set (i := 8) sc_law_some_net.nd rfl (Or.inl rfl) (pe_op op_sub (pe_op op_mul pe_int (pe_dn D_law_first (hr.mono (by omega)) (by rfl) (pa_cons (pv 7) pa_nil))) pe_int))
      (pss_one (ps_set (i := 7) sc_law_some_net.nd rfl (Or.inl rfl) (pe_op op_catA (pe_slice sl_tupA (pv 7) po_none (po_some pe_int)) (pe_tup (pa_cons (pe_op op_catA (pe_ix ix_tup (pv 7) pe_int (fun _ _ => rfl)) (pe_tup (pa_cons (pe_tup (pa_cons pe_str (pa_cons (pe_dn D_law_pick (hr.mono (by omega)) (by rfl) (pa_cons (pv 0) (pa_cons (pe_lst (pa_cons pe_int (pa_cons pe_int (pa_cons (pe_callB (cr_minN rfl) (by rfl) T.n_min (by decide +kernel) (pa_cons pe_int (pa_cons (pv 8) pa_nil))) (pa_cons (pv 8) (pa_cons (pe_op op_sub (pv 8) pe_int) pa_nil)))))) pa_nil))) pa_nil))) pa_nil))) pa_nil)))))) pss_nil)
      (pss_one (ps_ret (pv 7)))))))), ?_⟩
  refine ⟨_, rfl, _, rfl, _, rfl, _, _, rfl, rfl, _, rfl, _, _, rfl, rfl, d, c, _, rfl, hd, by omega, by omega, fun r H1 r0 r1 hd1 k1 => ?_⟩
  obtain ⟨x1, rfl⟩ := Int.eq_ofNat_of_zero_le r0
  refine ⟨_, _, rfl, rfl, _, rfl, d, c, 3, rfl, hd1, by decide, by decide, fun r H2 r0 r2 hd2 k2' => ?_⟩
  obtain ⟨b, rfl⟩ := Int.eq_ofNat_of_zero_le r0
  refine ⟨_, _, rfl, ?_⟩
  have k12 := k1.trans k2'
  refine ⟨fun σ' H' => ∃ a : Nat, σ' = [some (.ref d), some (vI least), some (vI k), some (vI most), some (vI a), some (vI b), none, none, none] ∧ a ≤ k + 2 ∧ DS H' d c ∧ Keep [d] H H', ?_, ?_⟩
  · refine ⟨_, rfl, d, c, 9, rfl, hd2, by decide, by decide, fun bb H3 hd3 k3 => ⟨bb, rfl, ?_⟩⟩
    cases bb with
    | true =>
      refine iteT ⟨_, rfl, d, c, 2, rfl, hd3, by decide, by decide, fun r H4 r0 r3 hd4 k4' => ?_⟩
      obtain ⟨a, rfl⟩ := Int.eq_ofNat_of_zero_le r0
      exact ⟨a, rfl, by omega, hd4, (k12.trans k3).trans k4'⟩
    | false =>
      refine iteF ⟨least + x1, ?_, by omega, hd3, k12.trans k3⟩
      show [some (V.ref d), some (vI least), some (vI k), some (vI most), some (V.int ((least : Int) + (x1 : Int))), some (vI b), none, none, none] = _
      rw [show V.int ((least : Int) + (x1 : Int)) = vI (least + x1) from congrArg V.int (by omega)]
  rintro σ' H3 ⟨a, rfl, ha, hd3, k3⟩
  refine ⟨_, rfl, _, rfl, d, c, k, rfl, hd3, by omega, by omega, fun r H4 r0 r4 hd4 k4' => ?_⟩
  obtain ⟨x2, rfl⟩ := Int.eq_ofNat_of_zero_le r0
  refine ⟨_, _, rfl, rfl, ?_⟩
  have eS : (fun i j => V.int (i + j)) 2 (x2 : Int) = vI (2 + x2) := congrArg V.int (by omega)
  refine ⟨fun σ' H' => ∃ (v : V) (N : Net) (v6 : Option V), σ' = [some (.ref d), some (vI least), some (vI k), some (vI most), some (vI a), some (vI b), v6, some v, none] ∧ Lay H' v (netD N) ∧ N.Right ∧ N.ins.length = a ∧ N.regs.length = b ∧ N.ands.length < most ∧ N.outs.length ≤ 3 ∧ N.cls.length ≤ 2 ∧ DS H' d c ∧ Keep [d] H H', ?_, ?_⟩
  · have kk := k3.trans k4'
    refine ⟨_, rfl, _, rfl, _, _, rfl, rfl, _, _, rfl, rfl, _, rfl, ite2 (fun z => ?_) (fun z => ?_)⟩
    · have hab : 1 < (a : Int) + (b : Int) := of_decide_eq_true z
      refine ⟨_, rfl, d, c, 2, rfl, hd4, by decide, by decide, fun r H5 r0 r5 hd5 k5 => ?_⟩
      refine ⟨rfl, _, rfl, ite2 (fun z => ?_) (fun z => ?_)⟩
      · refine ⟨_, rfl, _, rfl, _, rfl, _, rfl, _, rfl, _, rfl, _, rfl, _, _, rfl, rfl, d, c, _, rfl, hd5, by omega, by omega, fun r H6 r0 r6 hd6 k6 => ?_⟩
        obtain ⟨t, rfl⟩ := Int.eq_ofNat_of_zero_le r0
        refine ⟨d, c, a, b, 2 + x2, t, by rw [← eS]; rfl, hd6, by omega, by omega, by omega, by omega, by omega, fun v N H7 lv R e1 e2 e3 e4 e5 hd7 k7 => ?_⟩
        exact ⟨v, N, _, rfl, lv, R, e1, e2, by omega, by omega, by omega, hd7, ((kk.trans k5).trans k6).trans k7⟩
      · refine ⟨_, rfl, _, rfl, _, rfl, _, rfl, _, rfl, d, c, most, rfl, hd5, by omega, by omega, fun r H6 r0 r6 hd6 k6 => ?_⟩
        obtain ⟨m, rfl⟩ := Int.eq_ofNat_of_zero_le r0
        refine ⟨_, rfl, d, c, 4, rfl, hd6, by decide, by decide, fun r H7 r0 r7 hd7 k7 => ?_⟩
        obtain ⟨o, rfl⟩ := Int.eq_ofNat_of_zero_le r0
        refine ⟨_, rfl, d, c, 3, rfl, hd7, by decide, by decide, fun r H8 r0 r8 hd8 k8 => ?_⟩
        obtain ⟨cc, rfl⟩ := Int.eq_ofNat_of_zero_le r0
        refine ⟨d, c, a, b, m, o, cc, rfl, hd8, by omega, by omega, fun v N H9 lv R e1 e2 e3 e4 e5 hd9 k9 => ?_⟩
        exact ⟨v, N, _, rfl, lv, R, e1, e2, by omega, by omega, by omega, hd9, ((((kk.trans k5).trans k6).trans k7).trans k8).trans k9⟩
    · refine ⟨_, rfl, _, rfl, _, rfl, _, rfl, _, rfl, d, c, most, rfl, hd4, by omega, by omega, fun r H6 r0 r6 hd6 k6 => ?_⟩
      obtain ⟨m, rfl⟩ := Int.eq_ofNat_of_zero_le r0
      refine ⟨_, rfl, d, c, 4, rfl, hd6, by decide, by decide, fun r H7 r0 r7 hd7 k7 => ?_⟩
      obtain ⟨o, rfl⟩ := Int.eq_ofNat_of_zero_le r0
      refine ⟨_, rfl, d, c, 3, rfl, hd7, by decide, by decide, fun r H8 r0 r8 hd8 k8 => ?_⟩
      obtain ⟨cc, rfl⟩ := Int.eq_ofNat_of_zero_le r0
      refine ⟨d, c, a, b, m, o, cc, rfl, hd8, by omega, by omega, fun v N H9 lv R e1 e2 e3 e4 e5 hd9 k9 => ?_⟩
      exact ⟨v, N, _, rfl, lv, R, e1, e2, by omega, by omega, by omega, hd9, (((kk.trans k6).trans k7).trans k8).trans k9⟩
  rintro σ' H5 ⟨v, N, v6, rfl, lv, R, e1, e2, e3, e4, e5, hd5, k5⟩
  refine ⟨fun σ' H' => ∃ (v : V) (N : Net) (v8 : Option V), σ' = [some (.ref d), some (vI least), some (vI k), some (vI most), some (vI a), some (vI b), v6, some v, v8] ∧ Lay H' v (netD N) ∧ N.Right ∧ N.ins.length = a ∧ N.regs.length = b ∧ N.ands.length < most ∧ N.outs.length ≤ 3 ∧ N.cls.length ≤ 3 ∧ DS H' d c ∧ Keep [d] H H', ?_, ?_⟩
  · refine ⟨_, rfl, d, c, 3, rfl, hd5, by decide, by decide, fun r H6 r0 r6 hd6 k6 => ?_⟩
    have lv6 := lv.keep' (k6.tup1 hd5)
    have k56 := k5.trans k6
    refine ⟨rfl, _, rfl, ite2 (fun z => ?_) (fun z => ?_)⟩
    · have hf1 : 1 ≤ N.first := by unfold Net.first; omega
      have hf2 : N.first ≤ 20 := by unfold Net.first; omega
      refine ⟨_, rfl, v, N, rfl, lv6, _, _, rfl, rfl, .inl ⟨by decide, by decide⟩, _, _, rfl, rfl, ?_⟩
      have eT : (fun i j => V.int (i - j)) (2 * (N.first : Int)) 1 = vI (2 * N.first - 1) := congrArg V.int (by omega)
      obtain ⟨p, pi, pr, pa, po, pc, vr, va, vo, vc, rfl, hN⟩ := lv6.net
      refine ⟨_, rfl, _, rfl, p, _, rfl, SqT.of hN.top, fun hw => ?_, fun hw sl hsl => ?_⟩
      · have h5 := hw.2
        rw [show (5 : Int) = ((5 : Nat) : Int) from rfl, HT.sIx_nat] at h5
        simp at h5
      have s7 := same_new hsl (.tup (cutV [.str "net", .ref pi, .ref pr, .ref pa, .ref po, .ref pc] none (some 5)))
      have hN7 := hN.keep (.same s7)
      have hd7 := hd6.same s7
      refine ⟨_, rfl, p, _, _, _, rfl, rfl, SqT.of hN7.top, atI_nat (j := 5) rfl, ?_⟩
      have eSl := upd_same (H := H6) (a := sl) (o := .tup (cutV [.str "net", .ref pi, .ref pr, .ref pa, .ref po, .ref pc] none (some 5)))
      have eC : cutV [V.str "net", .ref pi, .ref pr, .ref pa, .ref po, .ref pc] none (some 5) = [.str "net", .ref pi, .ref pr, .ref pa, .ref po] := rfl
      rw [eC] at s7 eSl hN7 hd7 ⊢
      generalize upd H6 sl (.tup [.str "net", .ref pi, .ref pr, .ref pa, .ref po]) = H7 at s7 eSl hN7 hd7 ⊢
      refine ⟨_, rfl, _, rfl, 3, 2 * N.first - 1, by rw [eT]; rfl, _, rfl, _, rfl, _, _, rfl, rfl, by show 5 ≤ sizeLine; decide, fun l hl => ?_⟩
      have nl := hd7.new hl
      have sl8 := same_new hl (.lst [.int 0, .int 1, .int ((min 3 (2 * N.first - 1) : Nat) : Int), (fun i j => V.int (i - j)) (2 * (N.first : Int)) 1, (fun i j => V.int (i - j)) (2 * (N.first : Int) - 1) 1])
      have eLst : ([.int 0, .int 1, .int ((min 3 (2 * N.first - 1) : Nat) : Int), (fun i j => V.int (i - j)) (2 * (N.first : Int)) 1, (fun i j => V.int (i - j)) (2 * (N.first : Int) - 1) 1] : List V) = ([0, 1, min 3 (2 * N.first - 1), 2 * N.first - 1, 2 * N.first - 2] : List Nat).map vI := by
        show [V.int 0, V.int 1, V.int ((min 3 (2 * N.first - 1) : Nat) : Int), V.int (2 * (N.first : Int) - 1), V.int (2 * (N.first : Int) - 1 - 1)] = [V.int ((0 : Nat) : Int), V.int ((1 : Nat) : Int), V.int ((min 3 (2 * N.first - 1) : Nat) : Int), V.int ((2 * N.first - 1 : Nat) : Int), V.int ((2 * N.first - 2 : Nat) : Int)]
        rw [show ((2 * N.first - 1 : Nat) : Int) = 2 * (N.first : Int) - 1 by omega, show ((2 * N.first - 2 : Nat) : Int) = 2 * (N.first : Int) - 1 - 1 by omega]
        rfl
      refine ⟨d, c, l, _, rfl, hd7.same sl8, nl.1, SqL.of upd_same, by show 1 ≤ 5; decide, by show 5 ≤ 1000; decide, fun j y H9 hy hd9 k9 => ?_⟩
      have hy2 : (([0, 1, min 3 (2 * N.first - 1), 2 * N.first - 1, 2 * N.first - 2] : List Nat).map vI)[j]? = some y := by rw [← eLst]; exact hy
      obtain ⟨m, hm, rfl⟩ := natAt hy2
      have hm2 : m < 2 * N.first := by
        have := List.mem_of_getElem? hm
        simp only [List.mem_cons, List.not_mem_nil, or_false] at this
        rcases this with h | h | h | h | h <;> omega
      refine ⟨by show 2 ≤ sizeLine; decide, fun t1 ht1 => ?_⟩
      have s10 := same_new ht1 (.tup [.str "k9", vI m])
      refine ⟨by show 1 ≤ sizeLine; decide, fun t2 ht2 => ?_⟩
      have s11 := same_new ht2 (.tup [.ref t1])
      have kt9 := k9.tup1 (hd7.same sl8)
      have t711 : KeepT H7 _ := ((KeepT.same sl8).trans kt9).trans (.same (s10.trans s11))
      have hN11 := hN7.keep t711
      have eSl11 := t711 _ _ eSl
      have et1 := s11 _ _ (upd_same (H := H9) (a := t1) (o := .tup [.str "k9", vI m]))
      have et2 := upd_same (H := upd H9 t1 (.tup [.str "k9", vI m])) (a := t2) (o := .tup [.ref t1])
      have hd11 := hd9.same (s10.trans s11)
      have k11 : Keep [d] H _ := (((k56.trans (.of_same s7)).trans (.of_same sl8)).trans k9).trans (.of_same (s10.trans s11))
      generalize upd (upd H9 t1 (.tup [.str "k9", vI m])) t2 (.tup [.ref t1]) = H11 at t711 hN11 eSl11 et1 et2 hd11 k11 ⊢
      have lvc := list_len hN11.lc
      refine ⟨pc, t2, _, _, rfl, rfl, SqT.of hN11.hc, SqT.of et2, by show _ + 1 ≤ _; exact le1000 (by omega), fun z => ?_, fun _ z => ?_, fun _ _ u hu => ?_⟩
      · have EU : H11 t2 = some (.tup (vc ++ [.ref t1])) := by rw [z]; exact et2
        have SS := Same.refl H11
        refine ⟨by show 1 ≤ sizeLine; decide, fun w hw => ?_⟩
        have s13 := same_new hw (.tup [.ref t2])
        have sAll := SS.trans s13
        refine ⟨sl, w, _, _, rfl, rfl, SqT.of (sAll _ _ eSl11), SqT.of upd_same, by show 6 ≤ sizeLine; decide, fun z => (by cases z), fun _ z => (by cases z), fun _ _ p2 hp2 => ?_⟩
        have s14 := same_new hp2 (.tup ([.str "net", .ref pi, .ref pr, .ref pa, .ref po] ++ [.ref t2]))
        have sF := sAll.trans s14
        have hN14 := hN11.keep (.same sF)
        refine ⟨.ref p2, ⟨N.ins, N.regs, N.ands, N.outs, N.cls ++ [((Str.ofString "k9", m) : Str × Nat)]⟩, _, rfl, NetAt.lay ⟨upd_same, hN14.hi, hN14.hr, hN14.lr, hN14.ha, hN14.la, hN14.ho, hN14.lo, (s13.trans s14) _ _ EU, ?_⟩, ⟨R.regs, R.ands, R.outs, fun r hr => ?_⟩, e1, e2, e3, e4, by rw [List.length_append]; show _ + 1 ≤ _; omega, hd11.same sF, k11.trans (.of_same sF)⟩
        · rw [List.map_append]
          exact hN14.lc.snoc (.mkNam (sF _ _ et1))
        · rcases List.mem_append.mp hr with h | h
          · exact R.cls r h
          · rw [List.mem_singleton.mp h]
            show m < 2 * (N.first + N.ands.length)
            omega
      · cases z
      · have EU := upd_same (H := H11) (a := u) (o := .tup (vc ++ [.ref t1]))
        have SS := same_new hu (.tup (vc ++ [.ref t1]))
        refine ⟨by show 1 ≤ sizeLine; decide, fun w hw => ?_⟩
        have s13 := same_new hw (.tup [.ref u])
        have sAll := SS.trans s13
        refine ⟨sl, w, _, _, rfl, rfl, SqT.of (sAll _ _ eSl11), SqT.of upd_same, by show 6 ≤ sizeLine; decide, fun z => (by cases z), fun _ z => (by cases z), fun _ _ p2 hp2 => ?_⟩
        have s14 := same_new hp2 (.tup ([.str "net", .ref pi, .ref pr, .ref pa, .ref po] ++ [.ref u]))
        have sF := sAll.trans s14
        have hN14 := hN11.keep (.same sF)
        refine ⟨.ref p2, ⟨N.ins, N.regs, N.ands, N.outs, N.cls ++ [((Str.ofString "k9", m) : Str × Nat)]⟩, _, rfl, NetAt.lay ⟨upd_same, hN14.hi, hN14.hr, hN14.lr, hN14.ha, hN14.la, hN14.ho, hN14.lo, (s13.trans s14) _ _ EU, ?_⟩, ⟨R.regs, R.ands, R.outs, fun r hr => ?_⟩, e1, e2, e3, e4, by rw [List.length_append]; show _ + 1 ≤ _; omega, hd11.same sF, k11.trans (.of_same sF)⟩
        · rw [List.map_append]
          exact hN14.lc.snoc (.mkNam (sF _ _ et1))
        · rcases List.mem_append.mp hr with h | h
          · exact R.cls r h
          · rw [List.mem_singleton.mp h]
            show m < 2 * (N.first + N.ands.length)
            omega
    · exact ⟨v, N, none, rfl, lv6, R, e1, e2, e3, e4, by omega, hd6, k56⟩
  rintro σ' H6 ⟨v, N, v8, rfl, lv, R, e1, e2, e3, e4, e5, hd6, k6⟩
  have hb : b < 3 := by omega
  exact ⟨_, rfl, q v N H6 lv ⟨R, by omega, by omega, e3, e4, e5⟩ (by omega) hd6 k6⟩
end

end Bf

set_option Elab.async false
set_option linter.all false
set_option maxRecDepth 100000
set_option maxHeartbeats 4000000
namespace Bf
open PySem
/-! ### covers and their depths -/
abbrev Cov := List (Nat × List Nat)
def Plain (first l : Nat) : Prop := l % 2 = 0 ∧ 1 ≤ l / 2 ∧ l / 2 < first
structure CovOk (first : Nat) (C : Cov) : Prop where
  asc : (C.map Prod.fst).Pairwise (· < ·)
  cond : ∀ e ∈ C, e.1 % 2 = 1 ∨ first ≤ e.1 / 2 ∨ e.1 = 0
  leaf : ∀ e ∈ C, ∀ l ∈ e.2, l < e.1 ∧ (l ∈ C.map Prod.fst ∨ Plain first l)
def look (m : List (Nat × Nat)) (l : Nat) : Nat := ((m.find? fun p => decide (p.1 = l)).map Prod.snd).getD 0
def mx (l : List Nat) : Nat := l.foldr max 0
def dstep (m : List (Nat × Nat)) (e : Nat × List Nat) : List (Nat × Nat) := m ++ [(e.1, 1 + mx (e.2.map (look m)))]
def depTo (C : Cov) (i : Nat) : List (Nat × Nat) := (C.take i).foldl dstep []
def dp (C : Cov) (l : Nat) : Nat := look (depTo C C.length) l
def depth (C : Cov) : Nat := mx ((depTo C C.length).map Prod.snd)
theorem depTo_succ {C : Cov} {i : Nat} {e : Nat × List Nat} (h : C[i]? = some e) : depTo C (i + 1) = dstep (depTo C i) e := by
  unfold depTo
  rw [List.take_add_one, h]
  simp [List.foldl_append]
theorem depTo_fst {C : Cov} : ∀ i, i ≤ C.length → (depTo C i).map Prod.fst = (C.take i).map Prod.fst
  | 0, _ => by simp [depTo]
  | i + 1, h => by
    have e : C[i]? = some C[i] := List.getElem?_eq_getElem (by omega)
    rw [depTo_succ e, dstep, List.map_append, depTo_fst i (by omega), List.take_add_one, e, List.map_append]
    rfl
theorem depTo_len {C : Cov} {i : Nat} (h : i ≤ C.length) : (depTo C i).length = i := by
  have := congrArg List.length (depTo_fst i h)
  rw [List.length_map, List.length_map, List.length_take] at this
  omega
theorem look_app {m r : List (Nat × Nat)} {l : Nat} (h : ∀ p ∈ r, p.1 ≠ l) : look (m ++ r) l = look m l := by
  unfold look
  rw [List.find?_append]
  cases e : m.find? fun p => decide (p.1 = l) with
  | some p => rfl
  | none =>
    have : (r.find? fun p => decide (p.1 = l)) = none := List.find?_eq_none.mpr fun p hp => by simpa using h p hp
    rw [this]
    rfl
theorem look_none {m : List (Nat × Nat)} {l : Nat} (h : l ∉ m.map Prod.fst) : look m l = 0 := by
  unfold look
  have : (m.find? fun p => decide (p.1 = l)) = none := List.find?_eq_none.mpr fun p hp => by
    simp
    exact fun e => h (e ▸ List.mem_map_of_mem hp)
  rw [this]
  rfl
theorem look_last {m : List (Nat × Nat)} {l v : Nat} (h : l ∉ m.map Prod.fst) : look (m ++ [(l, v)]) l = v := by
  unfold look
  have : (m.find? fun p => decide (p.1 = l)) = none := List.find?_eq_none.mpr fun p hp => by
    simp
    exact fun e => h (e ▸ List.mem_map_of_mem hp)
  rw [List.find?_append, this]
  simp
theorem asc_get {C : Cov} (h : (C.map Prod.fst).Pairwise (· < ·)) {i j : Nat} {a b : Nat × List Nat} (hi : C[i]? = some a) (hj : C[j]? = some b) (hij : i < j) : a.1 < b.1 := by
  have e1 : (C.map Prod.fst)[i]? = some a.1 := by rw [List.getElem?_map, hi]; rfl
  have e2 : (C.map Prod.fst)[j]? = some b.1 := by rw [List.getElem?_map, hj]; rfl
  obtain ⟨h1, g1⟩ := List.getElem?_eq_some_iff.mp e1
  obtain ⟨h2, g2⟩ := List.getElem?_eq_some_iff.mp e2
  have := List.pairwise_iff_getElem.mp h i j h1 h2 hij
  omega
theorem take_fst {C : Cov} {i l : Nat} (h : l ∈ (C.take i).map Prod.fst) : ∃ (j : Nat) (e : Nat × List Nat), j < i ∧ C[j]? = some e ∧ e.1 = l := by
  obtain ⟨e, he, rfl⟩ := List.mem_map.mp h
  obtain ⟨j, hj⟩ := List.mem_iff_getElem?.mp he
  have h1 := (List.getElem?_eq_some_iff.mp hj).1
  rw [List.length_take] at h1
  rw [List.getElem?_take, if_pos (by omega)] at hj
  exact ⟨j, e, by omega, hj, rfl⟩
/-- what is looked up ahead stays -/
theorem look_stay {C : Cov} (h : (C.map Prod.fst).Pairwise (· < ·)) {i l : Nat} {e : Nat × List Nat} (he : C[i]? = some e) (hl : l < e.1) : ∀ d, i + d ≤ C.length → look (depTo C (i + d)) l = look (depTo C i) l
  | 0, _ => rfl
  | d + 1, hd => by
    have e2 : C[i + d]? = some C[i + d] := List.getElem?_eq_getElem (by omega)
    rw [show i + (d + 1) = i + d + 1 from rfl, depTo_succ e2, dstep, look_app (fun p hp => ?_), look_stay h he hl d (by omega)]
    rw [List.mem_singleton.mp hp]
    show C[i + d].1 ≠ l
    by_cases z : d = 0
    · subst z
      have : C[i + 0] = e := by
        have e3 : C[i + 0]? = some e := he
        rw [e3] at e2
        exact (Option.some.inj e2).symm
      rw [this]
      omega
    · have := asc_get h he e2 (by omega)
      omega
theorem dp_entry {first : Nat} {C : Cov} (h : CovOk first C) {i : Nat} {e : Nat × List Nat} (he : C[i]? = some e) : dp C e.1 = 1 + mx (e.2.map (dp C)) := by
  have hi := (List.getElem?_eq_some_iff.mp he).1
  have em : e ∈ C := List.mem_of_getElem? he
  have e1 : e.2.map (dp C) = e.2.map (look (depTo C i)) := List.map_congr_left fun l hl => by
    have := look_stay h.asc he ((h.leaf e em l hl).1) (C.length - i) (by omega)
    rw [show i + (C.length - i) = C.length by omega] at this
    exact this
  rw [e1]
  have nk : e.1 ∉ (depTo C i).map Prod.fst := fun hm => by
    rw [depTo_fst i (by omega)] at hm
    obtain ⟨j, e', hj, ej, eq⟩ := take_fst hm
    have := asc_get h.asc ej he hj
    omega
  have k : ∀ d, i + 1 + d ≤ C.length → look (depTo C (i + 1 + d)) e.1 = 1 + mx (e.2.map (look (depTo C i))) := fun d => by
    induction d with
    | zero =>
      intro _
      rw [Nat.add_zero, depTo_succ he, dstep, look_last nk]
    | succ d ih =>
      intro hd
      have e2 : C[i + 1 + d]? = some C[i + 1 + d] := List.getElem?_eq_getElem (by omega)
      rw [show i + 1 + (d + 1) = i + 1 + d + 1 from rfl, depTo_succ e2, dstep, look_app (fun p hp => ?_), ih (by omega)]
      rw [List.mem_singleton.mp hp]
      have := asc_get h.asc he e2 (by omega)
      show C[i + 1 + d].1 ≠ e.1
      omega
  have := k (C.length - (i + 1)) (by omega)
  rw [show i + 1 + (C.length - (i + 1)) = C.length by omega] at this
  exact this
theorem dp_none {C : Cov} {l : Nat} (h : l ∉ C.map Prod.fst) : dp C l = 0 := by
  refine look_none ?_
  rw [depTo_fst _ (Nat.le_refl _), List.take_length]
  exact h
theorem not_plain {first : Nat} {C : Cov} (h : CovOk first C) {l : Nat} (hl : l ∈ C.map Prod.fst) : ¬ Plain first l := by
  obtain ⟨e, he, rfl⟩ := List.mem_map.mp hl
  rintro ⟨a, b, c⟩
  rcases h.cond e he with z | z | z <;> omega
theorem mx_le {l : List Nat} {n : Nat} : mx l ≤ n ↔ ∀ x ∈ l, x ≤ n := by
  induction l with
  | nil => simp [mx]
  | cons a r ih =>
    show max a (mx r) ≤ n ↔ _
    constructor
    · intro h x hx
      rcases List.mem_cons.mp hx with rfl | hx
      · omega
      · exact ih.mp (by omega) x hx
    · intro h
      have := ih.mpr fun x hx => h x (by simp [hx])
      have := h a (by simp)
      omega
theorem le_mx {l : List Nat} {x : Nat} (h : x ∈ l) : x ≤ mx l := mx_le.mp (Nat.le_refl _) x h
theorem depTo_snd {first : Nat} {C : Cov} (h : CovOk first C) : (depTo C C.length).map Prod.snd = (C.map Prod.fst).map (dp C) := by
  have key : ∀ i, i ≤ C.length → (depTo C i).map Prod.snd = ((C.take i).map Prod.fst).map (dp C) := fun i => by
    induction i with
    | zero => simp [depTo]
    | succ i ih =>
      intro hi
      have e : C[i]? = some C[i] := List.getElem?_eq_getElem (by omega)
      have em : C[i] ∈ C := List.getElem_mem _
      rw [depTo_succ e, dstep, List.map_append, ih (by omega), List.take_add_one, e, List.map_append, List.map_append]
      congr 1
      show [1 + mx (C[i].2.map (look (depTo C i)))] = [dp C C[i].1]
      rw [dp_entry h e]
      congr 3
      refine List.map_congr_left fun l hl => ?_
      have := look_stay h.asc e ((h.leaf _ em l hl).1) (C.length - i) (by omega)
      rw [show i + (C.length - i) = C.length by omega] at this
      exact this.symm
  have := key C.length (Nat.le_refl _)
  rwa [List.take_length] at this
theorem depth_eq {first : Nat} {C : Cov} (h : CovOk first C) : depth C = mx ((C.map Prod.fst).map (dp C)) := by
  unfold depth
  rw [depTo_snd h]
theorem dp_le {first : Nat} {C : Cov} (h : CovOk first C) : ∀ (i : Nat) (e : Nat × List Nat), C[i]? = some e → dp C e.1 ≤ i + 1 := by
  intro i
  induction i using Nat.strongRecOn with
  | _ i ih =>
    intro e he
    have em := List.mem_of_getElem? he
    rw [dp_entry h he]
    have : mx (e.2.map (dp C)) ≤ i := mx_le.mpr fun x hx => by
      obtain ⟨l, hl, rfl⟩ := List.mem_map.mp hx
      obtain ⟨h1, h2⟩ := h.leaf e em l hl
      by_cases z : l ∈ C.map Prod.fst
      · obtain ⟨e', he', rfl⟩ := List.mem_map.mp z
        obtain ⟨j, hj⟩ := List.mem_iff_getElem?.mp he'
        have hji : j < i := by
          rcases Nat.lt_trichotomy j i with a | a | a
          · exact a
          · subst a
            rw [he] at hj
            rw [Option.some.inj hj] at h1
            omega
          · have := asc_get h.asc he hj a
            omega
        have := ih j hji e' hj
        omega
      · rw [dp_none z]
        omega
    omega
theorem depth_le {first : Nat} {C : Cov} (h : CovOk first C) : depth C ≤ C.length := by
  rw [depth_eq h]
  refine mx_le.mpr fun x hx => ?_
  obtain ⟨l, hl, rfl⟩ := List.mem_map.mp hx
  obtain ⟨e, he, rfl⟩ := List.mem_map.mp hl
  obtain ⟨j, hj⟩ := List.mem_iff_getElem?.mp he
  have := dp_le h j e hj
  have := (List.getElem?_eq_some_iff.mp hj).1
  omega
/-! ### rounds -/
def Known (first : Nat) (C : Cov) (t l : Nat) : Prop := Plain first l ∨ (l ∈ C.map Prod.fst ∧ dp C l ≤ t)
theorem known_leaves {first : Nat} {C : Cov} (h : CovOk first C) {t : Nat} {e : Nat × List Nat} (he : e ∈ C) : (∀ l ∈ e.2, Known first C t l) ↔ dp C e.1 ≤ t + 1 := by
  obtain ⟨i, hi⟩ := List.mem_iff_getElem?.mp he
  rw [dp_entry h hi]
  constructor
  · intro k
    have : mx (e.2.map (dp C)) ≤ t := mx_le.mpr fun x hx => by
      obtain ⟨l, hl, rfl⟩ := List.mem_map.mp hx
      rcases k l hl with z | z
      · by_cases hm : l ∈ C.map Prod.fst
        · exact absurd z (not_plain h hm)
        · rw [dp_none hm]; omega
      · exact z.2
    omega
  · intro k l hl
    have := le_mx (List.mem_map_of_mem (f := dp C) hl)
    rcases (h.leaf e he l hl).2 with z | z
    · exact .inr ⟨z, by omega⟩
    · exact .inl z
theorem known_step {first : Nat} {C : Cov} (h : CovOk first C) {t : Nat} {ks : List Nat} {p : Nat × List Nat → Bool} (hk : ∀ l, l ∈ ks ↔ Known first C t l) (hp : ∀ e ∈ C, p e = true ↔ ∀ l ∈ e.2, l ∈ ks) :
    ∀ l, l ∈ ks ++ ((C.filter fun e => decide (t < dp C e.1)).filter p).map Prod.fst ↔ Known first C (t + 1) l := by
  intro l
  rw [List.mem_append, hk l]
  constructor
  · rintro (z | z)
    · rcases z with z | z
      · exact .inl z
      · exact .inr ⟨z.1, by omega⟩
    · obtain ⟨e, he, rfl⟩ := List.mem_map.mp z
      have h1 := List.mem_filter.mp he
      have h2 := List.mem_filter.mp h1.1
      have h3 := (hp e h2.1).mp h1.2
      exact .inr ⟨List.mem_map_of_mem h2.1, (known_leaves h h2.1).mp fun l hl => (hk l).mp (h3 l hl)⟩
  · rintro (z | ⟨z1, z2⟩)
    · exact .inl (.inl z)
    · by_cases hd : dp C l ≤ t
      · exact .inl (.inr ⟨z1, hd⟩)
      · obtain ⟨e, he, rfl⟩ := List.mem_map.mp z1
        refine .inr (List.mem_map_of_mem (List.mem_filter.mpr ⟨List.mem_filter.mpr ⟨he, decide_eq_true (by omega)⟩, (hp e he).mpr fun l hl => (hk l).mpr ?_⟩))
        exact (known_leaves h he).mpr z2 l hl
theorem left_step {first : Nat} {C : Cov} (h : CovOk first C) {t : Nat} {ks : List Nat} (hk : ∀ l, l ∈ ks ↔ Known first C (t + 1) l) :
    (C.filter fun e => decide (t < dp C e.1)).filter (fun e => decide (e.1 ∉ ks)) = C.filter fun e => decide (t + 1 < dp C e.1) := by
  rw [List.filter_filter]
  refine List.filter_congr fun e he => ?_
  have hm : e.1 ∈ C.map Prod.fst := List.mem_map_of_mem he
  have : e.1 ∉ ks ↔ t + 1 < dp C e.1 := by
    rw [hk]
    constructor
    · intro z
      rcases Nat.lt_or_ge (t + 1) (dp C e.1) with a | a
      · exact a
      · exact absurd (.inr ⟨hm, a⟩) z
    · rintro z (y | y)
      · exact not_plain h hm y
      · omega
  by_cases z : t + 1 < dp C e.1
  · rw [decide_eq_true (this.mpr z), decide_eq_true z, decide_eq_true (show t < dp C e.1 by omega)]
    rfl
  · rw [decide_eq_false (fun y => z (this.mp y)), decide_eq_false z]
    rfl
end Bf

set_option Elab.async false
set_option linter.all false
set_option maxRecDepth 100000
set_option maxHeartbeats 4000000
namespace Bf
open PySem
/-! ### what is reached, by a stack -/
inductive Rs (nx : Nat → List Nat) (S : List Nat) : Nat → Prop
  | base {x : Nat} : x ∈ S → Rs nx S x
  | step {x y : Nat} : Rs nx S x → y ∈ nx x → Rs nx S y
theorem Rs.first {nx : Nat → List Nat} {s x : Nat} (h : Rs nx [s] x) : x = s ∨ ∃ y ∈ nx s, Rs nx [y] x := by
  induction h with
  | base h => exact .inl (List.mem_singleton.mp h)
  | step _ hy ih =>
    rcases ih with rfl | ⟨z, hz, hr⟩
    · exact .inr ⟨_, hy, .base (by simp)⟩
    · exact .inr ⟨z, hz, .step hr hy⟩
theorem Rs.stop {nx : Nat → List Nat} {s x : Nat} (h : Rs nx [s] x) (e : nx s = []) : x = s := by
  rcases h.first with h | ⟨y, hy, _⟩
  · exact h
  · rw [e] at hy; cases hy
theorem Rs.inv {nx : Nat → List Nat} {S : List Nat} {P : Nat → Prop} (hs : ∀ s ∈ S, P s) (hn : ∀ x y, P x → y ∈ nx x → P y) {x : Nat} (h : Rs nx S x) : P x := by
  induction h with
  | base h => exact hs _ h
  | step _ hy ih => exact hn _ _ ih hy
structure DI (nx : Nat → List Nat) (S M T : List Nat) : Prop where
  m : ∀ x ∈ M, Rs nx S x
  t : ∀ x ∈ T, Rs nx S x
  b : ∀ s ∈ S, s ∈ M ∨ s ∈ T
  cl : ∀ x ∈ M, ∀ y ∈ nx x, y ∈ M ∨ y ∈ T
theorem DI.start (nx : Nat → List Nat) (S : List Nat) : DI nx S [] S := ⟨fun x h => (by cases h), fun x h => .base h, fun s h => .inr h, fun x h => (by cases h)⟩
theorem DI.skip {nx : Nat → List Nat} {S M T : List Nat} {x : Nat} (h : DI nx S M (T ++ [x])) (hx : x ∈ M) : DI nx S M T := by
  have k : ∀ z, z ∈ M ∨ z ∈ T ++ [x] → z ∈ M ∨ z ∈ T := fun z hz => by
    rcases hz with hz | hz
    · exact .inl hz
    · rcases List.mem_append.mp hz with hz | hz
      · exact .inr hz
      · rw [List.mem_singleton.mp hz]; exact .inl hx
  exact ⟨h.m, fun y hy => h.t y (by simp [hy]), fun s hs => k s (h.b s hs), fun y hy z hz => k z (h.cl y hy z hz)⟩
theorem DI.visit {nx : Nat → List Nat} {S M T : List Nat} {x : Nat} (h : DI nx S M (T ++ [x])) : DI nx S (M ++ [x]) (T ++ nx x) := by
  have k : ∀ z, z ∈ M ∨ z ∈ T ++ [x] → z ∈ M ++ [x] ∨ z ∈ T ++ nx x := fun z hz => by
    rcases hz with hz | hz
    · exact .inl (by simp [hz])
    · rcases List.mem_append.mp hz with hz | hz
      · exact .inr (by simp [hz])
      · exact .inl (by rw [List.mem_singleton.mp hz]; simp)
  refine ⟨fun y hy => ?_, fun y hy => ?_, fun s hs => k s (h.b s hs), fun y hy z hz => ?_⟩
  · rcases List.mem_append.mp hy with q | q
    · exact h.m y q
    · rw [List.mem_singleton.mp q]; exact h.t x (by simp)
  · rcases List.mem_append.mp hy with q | q
    · exact h.t y (by simp [q])
    · exact .step (h.t x (by simp)) q
  · rcases List.mem_append.mp hy with q | q
    · exact k z (h.cl y q z hz)
    · rw [List.mem_singleton.mp q] at hz
      exact .inr (by simp [hz])
theorem DI.done {nx : Nat → List Nat} {S M : List Nat} (h : DI nx S M []) (x : Nat) : x ∈ M ↔ Rs nx S x := by
  have z : ∀ y, y ∈ M ∨ y ∈ ([] : List Nat) → y ∈ M := fun y hy => by
    rcases hy with q | q
    · exact q
    · cases q
  refine ⟨h.m x, fun r => ?_⟩
  induction r with
  | base h' => exact z _ (h.b _ h')
  | step _ hy ih => exact z _ (h.cl _ ih _ hy)
/-- what has not been met -/
def unm (M : List Nat) : Nat → Nat
  | 0 => 0
  | n + 1 => unm M n + if n ∈ M then 0 else 1
theorem unm_le (M : List Nat) (x : Nat) : ∀ n, unm (M ++ [x]) n ≤ unm M n
  | 0 => Nat.le_refl _
  | n + 1 => by
    have := unm_le M x n
    unfold unm
    by_cases h : n ∈ M
    · rw [if_pos h, if_pos (by simp [h])]; omega
    · rw [if_neg h]
      split <;> omega
theorem unm_lt {M : List Nat} {x : Nat} (h : x ∉ M) : ∀ n, x < n → unm (M ++ [x]) n + 1 ≤ unm M n
  | 0, k => absurd k (Nat.not_lt_zero _)
  | n + 1, k => by
    unfold unm
    by_cases e : x = n
    · subst e
      rw [if_neg h, if_pos (by simp)]
      have := unm_le M x x
      omega
    · have := unm_lt h n (by omega)
      by_cases q : n ∈ M
      · rw [if_pos q, if_pos (by simp [q])]; omega
      · rw [if_neg q]
        split <;> omega
theorem unm_nil : ∀ n, unm [] n = n
  | 0 => rfl
  | n + 1 => by
    unfold unm
    rw [unm_nil n, if_neg (by simp)]
/-! ### operands, cuts -/
def Net.ops (N : Net) (x : Nat) : List Nat := if x < N.first then [] else match N.ands[x - N.first]? with
  | some p => [p.1 / 2, p.2 / 2]
  | none => []
def Net.opsTo (N : Net) (L : Nat → Bool) (x : Nat) : List Nat := if L x = true then [] else N.ops x
theorem ops_low {N : Net} {x : Nat} (h : x < N.first) : N.ops x = [] := if_pos h
theorem ops_and {N : Net} {x : Nat} {p : Nat × Nat} (h : N.first ≤ x) (e : N.ands[x - N.first]? = some p) : N.ops x = [p.1 / 2, p.2 / 2] := by
  unfold Net.ops
  rw [if_neg (by omega), e]
theorem ops_lt {N : Net} (R : N.Right) {x y : Nat} (h : y ∈ N.ops x) : y < x := by
  unfold Net.ops at h
  split at h
  · cases h
  · split at h
    · rename_i p e
      have o := R.ands _ _ e
      simp only [List.mem_cons, List.not_mem_nil, or_false] at h
      rcases h with rfl | rfl <;> omega
    · cases h
theorem ops_len (N : Net) (x : Nat) : (N.ops x).length ≤ 2 := by
  unfold Net.ops
  split
  · exact Nat.zero_le _
  · split
    · exact Nat.le_refl _
    · exact Nat.zero_le _
theorem opsTo_len (N : Net) (L : Nat → Bool) (x : Nat) : (N.opsTo L x).length ≤ 2 := by
  unfold Net.opsTo
  split
  · exact Nat.zero_le _
  · exact ops_len N x
theorem opsTo_sub {N : Net} {L : Nat → Bool} {x y : Nat} (h : y ∈ N.opsTo L x) : L x = false ∧ y ∈ N.ops x := by
  unfold Net.opsTo at h
  split at h
  · cases h
  · rename_i z
    exact ⟨by simpa using z, h⟩
theorem opsTo_in {N : Net} {L : Nat → Bool} {x y : Nat} (h1 : L x = false) (h2 : y ∈ N.ops x) : y ∈ N.opsTo L x := by
  unfold Net.opsTo
  rw [if_neg (by simp [h1])]
  exact h2
theorem Rs.le {N : Net} (R : N.Right) {L : Nat → Bool} {s x : Nat} (h : Rs (N.opsTo L) [s] x) : x ≤ s := by
  refine Rs.inv (P := fun x => x ≤ s) (fun y hy => ?_) (fun x y hx hy => ?_) h
  · rw [List.mem_singleton.mp hy]; exact Nat.le_refl _
  · have := ops_lt R (opsTo_sub hy).2
    omega
def Cut (N : Net) (L : Nat → Bool) (s : Nat) : Prop := ∀ x, Rs (N.opsTo L) [s] x → x = 0 ∨ N.first ≤ x ∨ L x = true
def CutL (N : Net) (L : List Nat) (s : Nat) : Prop := Cut N (fun x => decide (x ∈ L)) s
theorem Cut.mono {N : Net} {L L' : Nat → Bool} {s : Nat} (h : Cut N L s) (hl : ∀ x, L x = true → L' x = true) : Cut N L' s := fun x r => by
  have r' : Rs (N.opsTo L) [s] x := Rs.inv (P := Rs (N.opsTo L) [s]) (fun y hy => .base hy) (fun y z hy hz => by
    obtain ⟨h1, h2⟩ := opsTo_sub hz
    refine .step hy (opsTo_in ?_ h2)
    cases e : L y with
    | false => rfl
    | true => rw [hl y e] at h1; cases h1) r
  rcases h x r' with q | q | q
  · exact .inl q
  · exact .inr (.inl q)
  · exact .inr (.inr (hl x q))
theorem CutL.mono {N : Net} {L L' : List Nat} {s : Nat} (h : CutL N L s) (hl : ∀ x ∈ L, x ∈ L') : CutL N L' s := Cut.mono h fun x hx => decide_eq_true (hl x (of_decide_eq_true hx))
theorem CutL.self {N : Net} {L : List Nat} {s : Nat} (h : s ∈ L) : CutL N L s := fun x r => by
  have : N.opsTo (fun x => decide (x ∈ L)) s = [] := if_pos (decide_eq_true h)
  rw [r.stop this]
  exact .inr (.inr (decide_eq_true h))
theorem CutL.zero {N : Net} {L : List Nat} : CutL N L 0 := fun x r => by
  have : N.opsTo (fun x => decide (x ∈ L)) 0 = [] := by
    unfold Net.opsTo
    split
    · rfl
    · exact ops_low (by unfold Net.first; omega)
  exact .inl (r.stop this)
theorem Cut.base {N : Net} {L : Nat → Bool} {s : Nat} {p : Nat × Nat} (hs : N.first ≤ s) (e : N.ands[s - N.first]? = some p) (hl : ∀ y ∈ [p.1 / 2, p.2 / 2], 0 < y → L y = true) : Cut N L s := fun x r => by
  rcases r.first with rfl | ⟨y, hy, ry⟩
  · exact .inr (.inl hs)
  · have hy2 := (opsTo_sub hy).2
    rw [ops_and hs e] at hy2
    have st : N.opsTo L y = [] := by
      unfold Net.opsTo
      split
      · rfl
      · rename_i z
        by_cases h0 : 0 < y
        · exact absurd (hl y hy2 h0) z
        · exact ops_low (by unfold Net.first; omega)
    rw [ry.stop st]
    by_cases h0 : 0 < y
    · exact .inr (.inr (hl y hy2 h0))
    · exact .inl (by omega)
theorem Cut.opened {N : Net} {L : Nat → Bool} {s g : Nat} {p : Nat × Nat} (hg : N.first ≤ g) (e : N.ands[g - N.first]? = some p) (hl : ∀ y ∈ [p.1 / 2, p.2 / 2], 0 < y → L y = true) (h : Cut N (fun x => L x || decide (x = g)) s) : Cut N L s := fun x r => by
  have key : ∀ x, Rs (N.opsTo L) [s] x → Rs (N.opsTo fun x => L x || decide (x = g)) [s] x ∨ x = 0 ∨ L x = true := fun x r => by
    induction r with
    | base h => exact .inl (.base h)
    | step rx hy ih =>
      rename_i x y
      obtain ⟨h1, h2⟩ := opsTo_sub hy
      rcases ih with q | q | q
      · by_cases hxg : x = g
        · subst hxg
          rw [ops_and hg e] at h2
          by_cases h0 : 0 < y
          · exact .inr (.inr (hl y h2 h0))
          · exact .inr (.inl (by omega))
        · exact .inl (.step q (opsTo_in (by show (L x || decide (x = g)) = false; rw [h1, decide_eq_false hxg]; rfl) h2))
      · subst q
        rw [ops_low (by unfold Net.first; omega)] at h2
        cases h2
      · rw [h1] at q; cases q
  rcases key x r with q | q | q
  · rcases h x q with z | z | z
    · exact .inl z
    · exact .inr (.inl z)
    · have z : (L x || decide (x = g)) = true := z
      rw [Bool.or_eq_true] at z
      rcases z with z | z
      · exact .inr (.inr z)
      · rw [of_decide_eq_true z]
        exact .inr (.inl hg)
  · exact .inl q
  · exact .inr (.inr q)
/-! ### a sweep from above over flags -/
structure SI (N : Net) (L : Nat → Bool) (s : Nat) (fl : List Nat) (k : Nat) : Prop where
  len : fl.length = s + 1
  m : ∀ x, Fl fl x → Rs (N.opsTo L) [s] x
  b : Fl fl s
  cl : ∀ x, k ≤ x → 1 ≤ x → Fl fl x → (L x = true ∨ N.first ≤ x) ∧ ∀ y ∈ N.opsTo L x, Fl fl y
theorem SI.start (N : Net) (L : Nat → Bool) (s : Nat) : SI N L s ((List.replicate (s + 1) 0).set s 1) (s + 1) := by
  have hz : ∀ x, Fl ((List.replicate (s + 1) 0).set s 1) x → x = s := fun x h => by
    by_cases e : x = s
    · exact e
    · have h2 := h.of_set e
      unfold Fl at h2
      rw [List.getD_eq_getElem?_getD, List.getElem?_replicate] at h2
      split at h2 <;> simp at h2
  refine ⟨by simp, fun x h => by rw [hz x h]; exact .base (by simp), Fl.here (by simp), fun x hk _ h => ?_⟩
  have := hz x h
  omega
theorem SI.skip {N : Net} {L : Nat → Bool} {s k : Nat} {fl : List Nat} (h : SI N L s fl (k + 1)) (hk : ¬ (Fl fl k ∧ L k = false)) : SI N L s fl k := ⟨h.len, h.m, h.b, fun x hx h1 hf => by
  by_cases e : x = k
  · subst e
    have : L x = true := by
      cases q : L x with
      | true => rfl
      | false => exact absurd ⟨hf, q⟩ hk
    exact ⟨.inl this, fun y hy => by rw [(opsTo_sub hy).1] at this; cases this⟩
  · exact h.cl x (by omega) h1 hf⟩
theorem SI.open_ {N : Net} {L : Nat → Bool} {s k : Nat} {fl : List Nat} {p : Nat × Nat} (R : N.Right) (h : SI N L s fl (k + 1)) (hks : k ≤ s) (hf : Fl fl k) (hl : L k = false) (hn : N.first ≤ k) (e : N.ands[k - N.first]? = some p) : SI N L s ((fl.set (p.1 / 2) 1).set (p.2 / 2) 1) k := by
  have o := R.ands _ _ e
  have eo := ops_and hn e
  have hin : ∀ y ∈ [p.1 / 2, p.2 / 2], y ∈ N.opsTo L k := fun y hy => opsTo_in hl (by rw [eo]; exact hy)
  have back : ∀ x, Fl ((fl.set (p.1 / 2) 1).set (p.2 / 2) 1) x → Fl fl x ∨ x ∈ [p.1 / 2, p.2 / 2] := fun x hx => by
    by_cases e2 : x = p.2 / 2
    · exact .inr (by simp [e2])
    · by_cases e1 : x = p.1 / 2
      · exact .inr (by simp [e1])
      · exact .inl ((hx.of_set e2).of_set e1)
  have up : ∀ x, Fl fl x → Fl ((fl.set (p.1 / 2) 1).set (p.2 / 2) 1) x := fun x hx => (hx.set _).set _
  refine ⟨by simp [h.len], fun x hx => ?_, up _ h.b, fun x hx h1 hfx => ?_⟩
  · rcases back x hx with q | q
    · exact h.m x q
    · exact .step (h.m k hf) (hin x q)
  · by_cases ek : x = k
    · subst ek
      refine ⟨.inr hn, fun y hy => ?_⟩
      have hy2 := (opsTo_sub hy).2
      rw [eo] at hy2
      simp only [List.mem_cons, List.not_mem_nil, or_false] at hy2
      have hl := h.len
      rcases hy2 with rfl | rfl
      · exact (Fl.here (by omega)).set _
      · exact Fl.here (by simp; omega)
    · rcases back x hfx with q | q
      · obtain ⟨z1, z2⟩ := h.cl x (by omega) h1 q
        exact ⟨z1, fun y hy => up y (z2 y hy)⟩
      · simp only [List.mem_cons, List.not_mem_nil, or_false] at q
        rcases q with q | q <;> omega
theorem SI.done {N : Net} {L : Nat → Bool} {s : Nat} {fl : List Nat} (h : SI N L s fl 1) : Cut N L s := fun x r => by
  have hf : Fl fl x := Rs.inv (P := Fl fl) (fun y hy => by rw [List.mem_singleton.mp hy]; exact h.b) (fun y z hy hz => by
    by_cases h0 : 1 ≤ y
    · exact (h.cl y h0 h0 hy).2 z hz
    · have e0 : y = 0 := by omega
      subst e0
      have := (opsTo_sub hz).2
      rw [ops_low (by unfold Net.first; omega)] at this
      cases this) r
  by_cases h0 : 1 ≤ x
  · rcases (h.cl x h0 h0 hf).1 with q | q
    · exact .inr (.inr q)
    · exact .inr (.inl q)
  · exact .inl (by omega)
/-! ### covers of whole numbers -/
abbrev CovZ := List (Int × List Int)
def PlainZ (first : Nat) (l : Int) : Prop := l % 2 = 0 ∧ 0 < l / 2 ∧ l / 2 < (first : Int)
def halves (ls : List Int) : List Int := ls.map (· / 2)
def inZ (ls : List Int) (x : Nat) : Bool := decide ((x : Int) ∈ ls)
def Net.ends (N : Net) : List Nat := N.outs.map (·.2) ++ N.cls.map (·.2) ++ N.regs.map fun r => r.2.2
/-- what a row must keep, its place among the others aside -/
structure RowOk (N : Net) (k : Nat) (told : List Int) (e : Int × List Int) : Prop where
  np : ¬ PlainZ N.first e.1
  few : (e.2.length : Int) ≤ (k : Int)
  asc : (halves e.2).Pairwise (· < ·)
  leaf : ∀ l ∈ e.2, 1 < l ∧ l < e.1 ∧ (PlainZ N.first l ∨ l ∈ told)
  cut : Cut N (inZ (halves e.2)) (e.1 / 2).toNat
structure GoodCov (N : Net) (k : Nat) (C : CovZ) : Prop where
  asc : (C.map Prod.fst).Pairwise (· < ·)
  rng : ∀ e ∈ C, 0 ≤ e.1 ∧ e.1 < 2 * (N.size : Int)
  row : ∀ e ∈ C, RowOk N k (C.map Prod.fst) e
  ends : ∀ l ∈ N.ends, PlainZ N.first (l : Int) ∨ (l : Int) ∈ C.map Prod.fst
  need : ∀ t ∈ C.map Prod.fst, (∃ l ∈ N.ends, (l : Int) = t) ∨ ∃ e ∈ C, t ∈ e.2
/-- the law's own reading -/
structure LRow (N : Net) (k : Nat) (e : Int × List Int) : Prop where
  rng : 0 ≤ e.1 ∧ e.1 < 2 * (N.size : Int)
  np : ¬ PlainZ N.first e.1
  few : ¬ (e.2.length : Int) > (k : Int)
  asc : (halves e.2).Pairwise (· < ·)
  nz : (0 : Int) ∉ halves e.2
  low : ∀ l ∈ e.2, l < e.1
  cut : Cut N (inZ (halves e.2)) (e.1 / 2).toNat
def wantZ (N : Net) (C : CovZ) : List Int := N.ends.map (fun n : Nat => (n : Int)) ++ (C.map Prod.snd).flatten
theorem good_iff {N : Net} {k : Nat} {C : CovZ} : GoodCov N k C ↔ (C.map Prod.fst).Pairwise (· < ·) ∧ (∀ e ∈ C, LRow N k e) ∧ (∀ l ∈ wantZ N C, PlainZ N.first l ∨ l ∈ C.map Prod.fst) ∧ ∀ t ∈ C.map Prod.fst, t ∈ wantZ N C := by
  constructor
  · intro h
    refine ⟨h.asc, fun e he => ?_, fun l hl => ?_, fun t ht => ?_⟩
    · have r := h.row e he
      refine ⟨h.rng e he, r.np, Int.not_lt.mpr r.few, r.asc, fun hz => ?_, fun l hl => (r.leaf l hl).2.1, r.cut⟩
      obtain ⟨l, hl, e0⟩ := List.mem_map.mp hz
      have := (r.leaf l hl).1
      have e0 : l / 2 = 0 := e0
      omega
    · rcases List.mem_append.mp hl with q | q
      · obtain ⟨n, hn, rfl⟩ := List.mem_map.mp q
        exact h.ends n hn
      · obtain ⟨ls, hls, hl2⟩ := List.mem_flatten.mp q
        obtain ⟨e, he, rfl⟩ := List.mem_map.mp hls
        exact ((h.row e he).leaf l hl2).2.2
    · rcases h.need t ht with ⟨n, hn, rfl⟩ | ⟨e, he, hte⟩
      · exact List.mem_append_left _ (List.mem_map.mpr ⟨n, hn, rfl⟩)
      · exact List.mem_append_right _ (List.mem_flatten.mpr ⟨e.2, List.mem_map_of_mem he, hte⟩)
  · rintro ⟨ha, hr, hw, ht⟩
    have hleaf : ∀ e ∈ C, ∀ l ∈ e.2, PlainZ N.first l ∨ l ∈ C.map Prod.fst := fun e he l hl => hw l (List.mem_append_right _ (List.mem_flatten.mpr ⟨e.2, List.mem_map_of_mem he, hl⟩))
    refine ⟨ha, fun e he => (hr e he).rng, fun e he => ?_, fun l hl => hw _ (List.mem_append_left _ (List.mem_map.mpr ⟨l, hl, rfl⟩)), fun t h => ?_⟩
    · have r := hr e he
      refine ⟨r.np, Int.not_lt.mp r.few, r.asc, fun l hl => ⟨?_, r.low l hl, hleaf e he l hl⟩, r.cut⟩
      have hn : l / 2 ≠ 0 := fun e0 => r.nz (List.mem_map.mpr ⟨l, hl, e0⟩)
      rcases hleaf e he l hl with q | q
      · have := q.2.1
        omega
      · obtain ⟨e', he', rfl⟩ := List.mem_map.mp q
        have := (hr e' he').rng.1
        omega
    · rcases List.mem_append.mp (ht t h) with q | q
      · obtain ⟨n, hn, rfl⟩ := List.mem_map.mp q
        exact .inl ⟨n, hn, rfl⟩
      · obtain ⟨ls, hls, hl2⟩ := List.mem_flatten.mp q
        obtain ⟨e, he, rfl⟩ := List.mem_map.mp hls
        exact .inr ⟨e, he, hl2⟩
/-- a leaf ahead of a literal -/
theorem leaf_lt {l e : Int} : (l / 2 < e / 2 ∨ l / 2 = e / 2 ∧ l < e) ↔ l < e := by omega
/-- a made cover -/
structure MadeOk (N : Net) (k : Nat) (C : Cov) : Prop where
  cov : CovOk N.first C
  len : C.length ≤ 2 * N.size
  row : ∀ e ∈ C, e.2.length ≤ k ∧ e.1 < 2 * N.size ∧ (∀ l ∈ e.2, 2 ≤ l) ∧ (e.2.map (· / 2)).Pairwise (· < ·) ∧ CutL N (e.2.map (· / 2)) (e.1 / 2)
  ends : ∀ l ∈ N.ends, Plain N.first l ∨ l ∈ C.map Prod.fst
  need : ∀ t ∈ C.map Prod.fst, t ∈ N.ends ∨ ∃ e ∈ C, t ∈ e.2
def castC (C : Cov) : CovZ := C.map fun e => ((e.1 : Int), e.2.map fun n : Nat => (n : Int))
theorem castC_fst (C : Cov) : (castC C).map Prod.fst = (C.map Prod.fst).map fun n : Nat => (n : Int) := by unfold castC; rw [List.map_map, List.map_map]; rfl
theorem mem_cast {xs : List Nat} {x : Nat} : ((x : Int) ∈ xs.map fun n : Nat => (n : Int)) ↔ x ∈ xs := by
  rw [List.mem_map]
  constructor
  · rintro ⟨y, hy, e⟩
    have : y = x := by omega
    rwa [← this]
  · intro h
    exact ⟨x, h, rfl⟩
theorem plain_cast {first l : Nat} : PlainZ first (l : Int) ↔ Plain first l := by
  unfold PlainZ Plain
  omega
theorem halves_cast (ls : List Nat) : halves (ls.map fun n : Nat => (n : Int)) = (ls.map (· / 2)).map fun n : Nat => (n : Int) := by
  unfold halves
  rw [List.map_map, List.map_map]
  refine List.map_congr_left fun l _ => ?_
  show (l : Int) / 2 = ((l / 2 : Nat) : Int)
  omega
theorem MadeOk.good {N : Net} {k : Nat} {C : Cov} (h : MadeOk N k C) : GoodCov N k (castC C) := by
  have mem : ∀ e ∈ castC C, ∃ e' ∈ C, e = ((e'.1 : Int), e'.2.map fun n : Nat => (n : Int)) := fun e he => by
    obtain ⟨e', he', rfl⟩ := List.mem_map.mp he
    exact ⟨e', he', rfl⟩
  refine ⟨?_, fun e he => ?_, fun e he => ?_, fun l hl => ?_, fun t ht => ?_⟩
  · rw [castC_fst]
    exact List.pairwise_map.mpr (h.cov.asc.imp fun hab => by omega)
  · obtain ⟨e', he', rfl⟩ := mem e he
    have := (h.row e' he').2.1
    exact ⟨Int.natCast_nonneg _, by show (e'.1 : Int) < _; omega⟩
  · obtain ⟨e', he', rfl⟩ := mem e he
    obtain ⟨h1, h2, h3, h4, h5⟩ := h.row e' he'
    refine ⟨fun hp => ?_, by show ((List.length _ : Nat) : Int) ≤ _; rw [List.length_map]; omega, ?_, fun l hl => ?_, ?_⟩
    · exact not_plain h.cov (List.mem_map_of_mem he') (plain_cast.mp hp)
    · show (halves (e'.2.map _)).Pairwise _
      rw [halves_cast]
      exact List.pairwise_map.mpr (h4.imp fun hab => by omega)
    · obtain ⟨n, hn, rfl⟩ := List.mem_map.mp hl
      have c := h.cov.leaf e' he' n hn
      have := h3 n hn
      refine ⟨by omega, by show (n : Int) < (e'.1 : Int); omega, ?_⟩
      rcases c.2 with q | q
      · rw [castC_fst]
        exact .inr (mem_cast.mpr q)
      · exact .inl (plain_cast.mpr q)
    · show Cut N (inZ (halves (e'.2.map _))) ((e'.1 : Int) / 2).toNat
      rw [show ((e'.1 : Int) / 2).toNat = e'.1 / 2 by omega, halves_cast]
      exact Cut.mono h5 fun x hx => decide_eq_true (mem_cast.mpr (of_decide_eq_true hx))
  · rw [castC_fst]
    rcases h.ends l hl with q | q
    · exact .inl (plain_cast.mpr q)
    · exact .inr (mem_cast.mpr q)
  · rw [castC_fst] at ht
    obtain ⟨n, hn, rfl⟩ := List.mem_map.mp ht
    rcases h.need n hn with q | ⟨e, he, q⟩
    · exact .inl ⟨n, q, rfl⟩
    · exact .inr ⟨_, List.mem_map_of_mem he, mem_cast.mpr q⟩
end Bf

set_option Elab.async false
set_option linter.all false
set_option maxRecDepth 100000
set_option maxHeartbeats 4000000
namespace Bf
open PySem
/-! ### paths up to a node -/
def StepZ (N : Net) (a b : Int) : Prop := 0 ≤ a ∧ 0 ≤ b ∧ a.toNat ∈ N.ops b.toNat
theorem ops_rng {N : Net} {x y : Nat} (h : y ∈ N.ops x) : N.first ≤ x ∧ x < N.size := by
  unfold Net.ops at h
  split at h
  · cases h
  · rename_i hx
    split at h
    · rename_i p e
      have := (List.getElem?_eq_some_iff.mp e).1
      unfold Net.size
      omega
    · cases h
theorem StepZ.lt {N : Net} (R : N.Right) {a b : Int} (h : StepZ N a b) : a < b ∧ (N.first : Int) ≤ b ∧ b < (N.size : Int) := by
  obtain ⟨h1, h2, h3⟩ := h
  have := ops_lt R h3
  have := ops_rng h3
  omega
structure GoodPath (N : Net) (node : Int) (p : List Int) : Prop where
  head : ∃ a, p[0]? = some a ∧ 0 < a ∧ a < (N.first : Int)
  last : p[p.length - 1]? = some node
  st : ∀ (i : Nat) (a b : Int), p[i]? = some a → p[i + 1]? = some b → StepZ N a b
theorem GoodPath.asc {N : Net} (R : N.Right) {p : List Int} (st : ∀ (i : Nat) (a b : Int), p[i]? = some a → p[i + 1]? = some b → StepZ N a b) {i : Nat} : ∀ (d : Nat) {a b : Int}, p[i]? = some a → p[i + 1 + d]? = some b → a < b
  | 0, a, b, ha, hb => ((st i a b ha hb).lt R).1
  | d + 1, a, b, ha, hb => by
    have hl := (List.getElem?_eq_some_iff.mp hb).1
    have e : p[i + 1 + d]? = some p[i + 1 + d] := List.getElem?_eq_getElem (by omega)
    have h1 := GoodPath.asc R st d ha e
    have h2 := ((st (i + 1 + d) _ b e hb).lt R).1
    omega
theorem GoodPath.le {N : Net} (R : N.Right) {node : Int} {p : List Int} (h : GoodPath N node p) {i : Nat} {a : Int} (ha : p[i]? = some a) : a ≤ node := by
  have hi := (List.getElem?_eq_some_iff.mp ha).1
  by_cases e : i = p.length - 1
  · rw [e, h.last] at ha
    cases ha
    exact Int.le_refl _
  · have hl := h.last
    obtain ⟨d, hd⟩ : ∃ d, p.length - 1 = i + 1 + d := ⟨p.length - 1 - (i + 1), by omega⟩
    rw [hd] at hl
    have := GoodPath.asc R h.st d ha hl
    omega
theorem GoodPath.pos {N : Net} (R : N.Right) {node : Int} {p : List Int} (h : GoodPath N node p) {i : Nat} {a : Int} (ha : p[i]? = some a) : 0 < a := by
  cases i with
  | zero =>
    obtain ⟨a', h1, h2, _⟩ := h.head
    rw [h1] at ha
    cases ha
    exact h2
  | succ i =>
    have hi := (List.getElem?_eq_some_iff.mp ha).1
    have e : p[i]? = some p[i] := List.getElem?_eq_getElem (by omega)
    have := (h.st i _ a e ha).lt R
    unfold Net.first at this
    omega
theorem GoodPath.nodup {N : Net} (R : N.Right) {node : Int} {p : List Int} (h : GoodPath N node p) : p.Nodup := by
  refine List.pairwise_iff_getElem.mpr fun i j hi hj hij => ?_
  obtain ⟨d, hd⟩ : ∃ d, j = i + 1 + d := ⟨j - (i + 1), by omega⟩
  subst hd
  have := GoodPath.asc R h.st d (List.getElem?_eq_getElem hi) (List.getElem?_eq_getElem hj)
  omega
theorem GoodPath.mem {N : Net} (R : N.Right) {node : Int} {p : List Int} (h : GoodPath N node p) {a : Int} (ha : a ∈ p) : 0 < a ∧ a ≤ node := by
  obtain ⟨i, hi⟩ := List.mem_iff_getElem?.mp ha
  exact ⟨h.pos R hi, h.le R hi⟩
theorem GoodPath.ne {N : Net} {node : Int} {p : List Int} (h : GoodPath N node p) : p ≠ [] := by
  rintro rfl
  obtain ⟨a, h1, _⟩ := h.head
  cases h1
theorem GoodPath.snoc {N : Net} {high node : Int} {p : List Int} (h : GoodPath N high p) (s : StepZ N high node) : GoodPath N node (p ++ [node]) := by
  have hp : 0 < p.length := List.length_pos_iff.mpr h.ne
  refine ⟨?_, ?_, fun i a b ha hb => ?_⟩
  · obtain ⟨a, h1, h2⟩ := h.head
    exact ⟨a, by rw [List.getElem?_append_left hp]; exact h1, h2⟩
  · rw [List.length_append, List.length_singleton, List.getElem?_append_right (by omega)]
    simp
  · by_cases hi : i + 1 < p.length
    · rw [List.getElem?_append_left hi] at hb
      rw [List.getElem?_append_left (by omega)] at ha
      exact h.st i a b ha hb
    · have hbl := (List.getElem?_eq_some_iff.mp hb).1
      rw [List.length_append, List.length_singleton] at hbl
      have e : i + 1 = p.length := by omega
      rw [List.getElem?_append_right (by omega)] at hb
      rw [List.getElem?_append_left (by omega)] at ha
      have e2 : i = p.length - 1 := by omega
      rw [e2, h.last] at ha
      cases ha
      rw [e, Nat.sub_self] at hb
      cases hb
      exact s
/-! ### parts -/
def rowAt (rows : List Int) (x : Int) : Int := rows.getD x.toNat 0
def lowL (rows : List Int) (bound : Int) (xs : List Int) : List Int := xs.filter fun x => decide (rowAt rows x ≤ bound)
def PartOk (N : Net) (k : Nat) (rows : List Int) (node : Nat) (part : List (List Int)) : Prop :=
  if rowAt rows node = 1 then part = [] else part.length = k + 1 ∧ (∀ p ∈ part, GoodPath N node p) ∧ (lowL rows (rowAt rows node - 2) part.flatten).Nodup
structure BarsOk (N : Net) (k : Nat) (lv : List Int) (parts : List (List (List Int))) : Prop where
  l1 : lv.length = N.ands.length
  l2 : parts.length = N.ands.length
  pos : ∀ l ∈ lv, 1 ≤ l
  part : ∀ (i : Nat) (part : List (List Int)), parts[i]? = some part → PartOk N k (List.replicate N.first 0 ++ lv) (N.first + i) part
theorem lowL_congr {rows rows' : List Int} {bound : Int} {xs : List Int} (h : ∀ x ∈ xs, rowAt rows x = rowAt rows' x) : lowL rows bound xs = lowL rows' bound xs :=
  List.filter_congr fun x hx => by rw [h x hx]
theorem PartOk.keep {N : Net} (R : N.Right) {k node : Nat} {rows rows' : List Int} {part : List (List Int)} (h : PartOk N k rows node part) (e : ∀ x : Nat, x ≤ node → rowAt rows x = rowAt rows' x) : PartOk N k rows' node part := by
  unfold PartOk at *
  rw [← e node (Nat.le_refl _)]
  split at h
  · rename_i h1
    rw [if_pos h1]
    exact h
  · rename_i h1
    rw [if_neg h1]
    obtain ⟨h2, h3, h4⟩ := h
    refine ⟨h2, h3, ?_⟩
    rw [← lowL_congr fun x hx => ?_]
    · exact h4
    · obtain ⟨p, hp, hxp⟩ := List.mem_flatten.mp hx
      have m := (h3 p hp).mem R hxp
      have := e x.toNat (by omega)
      rw [show ((x.toNat : Nat) : Int) = x by omega] at this
      exact this
theorem lowL_snocs {rows : List Int} {bound node : Int} (hn : ¬ rowAt rows node ≤ bound) : ∀ part : List (List Int), lowL rows bound (part.map fun p => p ++ [node]).flatten = lowL rows bound part.flatten
  | [] => rfl
  | p :: r => by
    have ih := lowL_snocs hn r
    unfold lowL at ih ⊢
    rw [List.map_cons, List.flatten_cons, List.flatten_cons, List.filter_append, List.filter_append, List.filter_append, ih]
    congr 1
    rw [List.filter_cons_of_neg (by simpa using hn), List.filter_nil, List.append_nil]
theorem PartOk.up {N : Net} {k high node : Nat} {rows : List Int} {part : List (List Int)} (h : PartOk N k rows high part) (s : StepZ N high node) (e : rowAt rows high = rowAt rows node) : PartOk N k rows node (part.map fun p => p ++ [(node : Int)]) := by
  unfold PartOk at *
  rw [← e]
  split at h
  · rename_i h1
    rw [if_pos h1, h]
    rfl
  · rename_i h1
    rw [if_neg h1]
    obtain ⟨h2, h3, h4⟩ := h
    refine ⟨by rw [List.length_map]; exact h2, fun p hp => ?_, ?_⟩
    · obtain ⟨p', hp', rfl⟩ := List.mem_map.mp hp
      exact (h3 p' hp').snoc s
    · rw [lowL_snocs (by rw [← e]; omega)]
      exact h4
/-! ### nodes met twice -/
theorem lowL_snoc {rows : List Int} {bound x : Int} {xs : List Int} : lowL rows bound (xs ++ [x]) = if rowAt rows x ≤ bound then lowL rows bound xs ++ [x] else lowL rows bound xs := by
  unfold lowL
  rw [List.filter_append]
  by_cases h : rowAt rows x ≤ bound
  · rw [if_pos h, List.filter_cons_of_pos (by simpa using h)]
    rfl
  · rw [if_neg h, List.filter_cons_of_neg (by simpa using h), List.filter_nil, List.append_nil]
theorem low_twice {rows : List Int} {bound x : Int} {xs ys : List Int} (h1 : rowAt rows x ≤ bound) (h2 : x ∈ xs) : ¬ (lowL rows bound (xs ++ x :: ys)).Nodup := by
  intro h
  have e : xs ++ x :: ys = (xs ++ [x]) ++ ys := by simp
  rw [e] at h
  unfold lowL at h
  rw [List.filter_append, List.filter_append, List.filter_cons_of_pos (by simpa using h1)] at h
  have h3 := (List.nodup_append.mp h).1
  exact (List.nodup_append.mp h3).2.2 x (List.mem_filter.mpr ⟨h2, by simpa using h1⟩) x (by simp) rfl
theorem low_once {rows : List Int} {bound x : Int} {xs : List Int} (h : (lowL rows bound xs).Nodup) (hn : ¬ (rowAt rows x ≤ bound ∧ x ∈ xs)) : (lowL rows bound (xs ++ [x])).Nodup := by
  rw [lowL_snoc]
  split
  · rename_i h1
    refine List.nodup_append.mpr ⟨h, by simp, fun a ha b hb e => hn ⟨h1, ?_⟩⟩
    rw [← List.mem_singleton.mp hb, ← e]
    exact (List.mem_filter.mp ha).1
  · exact h
/-- one path more -/
theorem low_path {rows : List Int} {bound : Int} {xs p : List Int} (h : (lowL rows bound xs).Nodup) (hp : p.Nodup) (hd : ∀ x ∈ p, rowAt rows x ≤ bound → x ∉ xs) : (lowL rows bound (xs ++ p)).Nodup := by
  unfold lowL at *
  rw [List.filter_append]
  refine List.nodup_append.mpr ⟨h, hp.filter _, fun a ha b hb e => ?_⟩
  have h1 := List.mem_filter.mp hb
  exact hd b h1.1 (by simpa using h1.2) (e ▸ (List.mem_filter.mp ha).1)
/-- all levels 1, no paths -/
theorem bars_ones (N : Net) (k : Nat) : BarsOk N k (List.replicate N.ands.length 1) (List.replicate N.ands.length []) := by
  refine ⟨by simp, by simp, fun l hl => by rw [List.eq_of_mem_replicate hl]; exact Int.le_refl _, fun i part hp => ?_⟩
  have hi : i < N.ands.length := by simpa using (List.getElem?_eq_some_iff.mp hp).1
  rw [List.getElem?_replicate, if_pos hi] at hp
  cases hp
  unfold PartOk
  rw [if_pos]
  unfold rowAt
  rw [List.getD_eq_getElem?_getD, show ((N.first + i : Nat) : Int).toNat = N.first + i from rfl, List.getElem?_append_right (by simp), List.length_replicate, List.getElem?_replicate, if_pos (by omega)]
  rfl
end Bf

set_option Elab.async false
set_option linter.all false
set_option maxRecDepth 100000
set_option maxHeartbeats 4000000
namespace Bf
open PySem PySem.Spec PyProof.Rows L2
/-! ### zip of a list and a shorter one -/
theorem walk_zipMin (S1 S2 : Src) {K : PySem.W.Frag} {a b : Addr} {xs ys : List V} (h : ys.length ≤ xs.length) : Walk (ItZ S1 S2 K a b) ys.length (fun H => S1.sq K H a xs ∧ S2.sq K H b ys) (YPair (fun i => xs[i]?) (fun i => ys[i]?)) := by
  refine ⟨fun i _ hi q => ⟨xs, ys, xs[i], ys[i], q.1, q.2, by simp [show i < xs.length by omega], by simp [hi]⟩, fun _ q => ⟨xs, ys, q.1, q.2, h, Nat.le_refl _, .inr rfl⟩, fun i H v H' _ q y => ?_⟩
  obtain ⟨T, x, y, h1, h2, h3, h4, h5⟩ := y
  exact ⟨T, x, y, h1, h2, h3, h4 xs q.1, h5 ys q.2⟩
/-! ### slices -/
theorem cutV_from (xs : List V) (k : Nat) : cutV xs (some (k : Int)) none = xs.drop k := by
  unfold cutV
  rw [HT.sIx_nat, HT.sIx_none]
  by_cases h : k ≤ xs.length
  · rw [Nat.min_eq_left h]
    exact List.take_of_length_le (by rw [List.length_drop]; exact Nat.le_refl _)
  · rw [Nat.min_eq_right (by omega), Nat.sub_self, List.take_zero, List.drop_eq_nil_of_le (by omega)]
theorem cutV_to (xs : List V) (k : Nat) : cutV xs none (some (k : Int)) = xs.take k := by
  unfold cutV
  rw [HT.sIx_nat, HT.sIx_none, List.drop_zero, Nat.sub_zero]
  by_cases h : k ≤ xs.length
  · rw [Nat.min_eq_left h]
  · rw [Nat.min_eq_right (by omega), List.take_of_length_le (Nat.le_refl _), List.take_of_length_le (by omega)]
/-- a tuple's slice, as a list of values -/
theorem rdSl {K : PySem.W.Frag} {H : Hp} {b : Addr} {xs : List V} {lo hi : Option Int} {Q : VK} (hb : SqT K H b xs) (k : ∀ (t : Addr) (H' : Hp), Same H H' → SqT K H' t (cutV xs lo hi) → Q (.ref t) H') : rSlA K (.ref b) lo hi H Q := by
  refine ⟨b, xs, rfl, hb, fun hw => ?_, fun hw p hp => k p _ (fun b u q => by rw [upd_ne (ne_of_none q hp)]; exact q) (SqT.of upd_same)⟩
  refine k b H (Same.refl _) ?_
  unfold cutV
  rw [hw.1, hw.2, List.drop_zero, Nat.sub_zero, List.take_length]
  exact hb
/-! ### whole numbers as data -/
def zD (i : Int) : PyData := .int i
theorem lay_zs {H : Hp} : ∀ {ns : List Int} {us : List V}, LayAll H us (ns.map zD) → us = ns.map V.int
  | [], _, h => by cases h; rfl
  | n :: r, _, h => by
    cases h with
    | cons a t =>
      rw [lay_zs t]
      cases a
      rfl
theorem zs_lay {H : Hp} : ∀ ns : List Int, LayAll H (ns.map V.int) (ns.map zD)
  | [] => .nil
  | n :: r => .cons (.int _) (zs_lay r)
theorem dp_zs {K : PySem.W.Frag} {H : Hp} (ns : List Int) : DpAll K H (ns.map V.int) (ns.map zD) := (zs_lay ns).dp
theorem eqv_zs : ∀ ns ms : List Int, PyData.eqvAll (ns.map zD) (ms.map zD) = decide (ns = ms)
  | [], [] => by simp [PyData.eqvAll]
  | [], _ :: _ => by simp [PyData.eqvAll]
  | _ :: _, [] => by simp [PyData.eqvAll]
  | n :: ns, m :: ms => by
    rw [List.map_cons, List.map_cons, PyData.eqvAll, eqv_zs ns ms]
    by_cases h : n = m
    · subst h
      simp [PyData.eqv, zD]
    · simp [PyData.eqv, zD, h]
theorem sh_zs (ns : List Int) : Sh 1 (.list (ns.map zD)) := Sh.lst fun d hd => by
  obtain ⟨n, _, rfl⟩ := List.mem_map.mp hd
  exact Sh.int _ _
theorem sh_zt (ns : List Int) : Sh 1 (.tuple (ns.map zD)) := Sh.tup fun d hd => by
  obtain ⟨n, _, rfl⟩ := List.mem_map.mp hd
  exact Sh.int _ _
/-- two lists of numbers, != -/
theorem rdNeZ {K : PySem.W.Frag} {H : Hp} {a b : Addr} {ns ms : List Int} {Q : VK} (ha : SqL K H a (ns.map V.int)) (hb : SqL K H b (ms.map V.int)) (q : Q (.bl (!decide (ns = ms))) H) : rNeD K (.ref a) (.ref b) H Q := by
  refine ⟨.list (ns.map zD), .list (ms.map zD), .lst ha (dp_zs ns), .lst hb (dp_zs ms), (sh_zs ns).shaped (by decide), (sh_zs ms).shaped (by decide), ?_⟩
  rw [PyData.eqv, eqv_zs]
  exact q
theorem inV_z (x : Int) : ∀ xs : List Int, inV (.int x) (xs.map V.int) = decide (x ∈ xs)
  | [] => rfl
  | y :: xs => by
    have ih := inV_z x xs
    show (eqV (.int y) (.int x) || inV (.int x) (xs.map V.int)) = _
    rw [ih]
    have e : eqV (.int y) (.int x) = decide (y = x) := by
      show (y == x) = decide (y = x)
      by_cases h : y = x
      · subst h; simp
      · rw [decide_eq_false h]
        exact beq_eq_false_iff_ne.mpr h
    rw [e]
    by_cases q : y = x
    · subst q; simp
    · have : ¬ x = y := fun h => q h.symm
      simp [q, this]
theorem flat_zs : ∀ xs : List Int, (xs.map V.int).all flatV = true
  | [] => rfl
  | a :: r => by
    rw [List.map_cons, List.all_cons, flat_zs r]
    rfl
theorem rdInZ {K : PySem.W.Frag} {H : Hp} {a : Addr} {xs : List Int} {x : Int} {Q : VK} (h : SqL K H a (xs.map V.int)) (q : Q (.bl (decide (x ∈ xs))) H) : rIn K false (.int x) (.ref a) H Q := by
  refine ⟨a, _, rfl, .inl h, rfl, flat_zs xs, ?_⟩
  rw [if_neg (by decide), inV_z]
  exact q
theorem rdNotInZ {K : PySem.W.Frag} {H : Hp} {a : Addr} {xs : List Int} {x : Int} {Q : VK} (h : SqL K H a (xs.map V.int)) (q : Q (.bl (!decide (x ∈ xs))) H) : rIn K true (.int x) (.ref a) H Q := by
  refine ⟨a, _, rfl, .inl h, rfl, flat_zs xs, ?_⟩
  rw [if_pos rfl, inV_z]
  exact q
/-- ascending lists of the same numbers -/
theorem ascZ_same {xs ys : List Int} (hx : xs.Pairwise (· < ·)) (hy : ys.Pairwise (· < ·)) (h : ∀ v, v ∈ xs ↔ v ∈ ys) : xs = ys := by
  have nx : xs.Nodup := hx.imp fun h => Int.ne_of_lt h
  have ny : ys.Nodup := hy.imp fun h => Int.ne_of_lt h
  exact ((List.perm_ext_iff_of_nodup nx ny).mpr h).eq_of_pairwise (fun a b _ _ h1 h2 => absurd h1 (Int.lt_asymm h2)) hx hy
theorem sorted_eq {xs ns : List Int} (pw : ns.Pairwise (· < ·)) (h : ∀ v, v ∈ ns ↔ v ∈ xs) : xs = ns ↔ xs.Pairwise (· < ·) := by
  constructor
  · intro e
    rw [e]
    exact pw
  · intro hx
    exact ascZ_same hx pw fun v => (h v).symm
/-! ### ascending? -/
def ascB (xs : List Int) : List Bool := (xs.zip xs.tail).map fun p => decide (p.1 < p.2)
theorem ascB_iff : ∀ xs : List Int, (ascB xs).all id = true ↔ xs.Pairwise (· < ·)
  | [] => by simp [ascB]
  | [a] => by simp [ascB]
  | a :: b :: r => by
    have ih := ascB_iff (b :: r)
    have e : ascB (a :: b :: r) = decide (a < b) :: ascB (b :: r) := rfl
    rw [e, List.all_cons, Bool.and_eq_true, ih]
    constructor
    · rintro ⟨h1, h2⟩
      refine List.pairwise_cons.mpr ⟨fun c hc => ?_, h2⟩
      have h1 : a < b := of_decide_eq_true h1
      rcases List.mem_cons.mp hc with rfl | hc
      · exact h1
      · have := (List.pairwise_cons.mp h2).1 c hc
        omega
    · intro h
      obtain ⟨h1, h2⟩ := List.pairwise_cons.mp h
      exact ⟨decide_eq_true (h1 b (by simp)), h2⟩
theorem ascB_at {xs : List Int} {i : Nat} {a b : Int} (h1 : xs[i]? = some a) (h2 : xs.tail[i]? = some b) : (ascB xs)[i]? = some (decide (a < b)) := by
  unfold ascB
  rw [List.getElem?_map]
  have : (xs.zip xs.tail)[i]? = some (a, b) := List.getElem?_zip_eq_some.mpr ⟨h1, h2⟩
  rw [this]
  rfl
theorem ascB_len (xs : List Int) : (ascB xs).length = xs.tail.length := by
  unfold ascB
  rw [List.length_map, List.length_zip, List.length_tail]
  omega
/-- a bool as it is told -/
theorem qB {Q : VK} {H : Hp} {b c : Bool} (h : b = c) (q : Q (.bl c) H) : Q (V.bl b) H := by
  rw [h]
  exact q
theorem decB {P : Prop} [Decidable P] {b : Bool} (h : b = true ↔ P) : b = decide P := by
  rw [Bool.eq_iff_iff, decide_eq_true_iff]
  exact h
theorem all_map_dec {α : Type} {p : α → Prop} [DecidablePred p] (xs : List α) : ((xs.map fun x => decide (p x)).all id = true) ↔ ∀ x ∈ xs, p x := by
  rw [List.all_map, List.all_eq_true]
  constructor
  · intro h x hx
    exact of_decide_eq_true (h x hx)
  · intro h x hx
    exact decide_eq_true (h x hx)
/-- [p x for x in rows]: bools -/
theorem lc_rowsB {J : It} {xs : List V} {G : Hp → Prop} (w : Walk J xs.length G (YAt xs)) {α : Type} {rows : List α} {f : α → PyData} {p : α → Bool} {tg : TG} {te : TE} {vs : List Nat} {σ : L2.St} {H1 : Hp} {D : Addr} {Qd : Hp → Prop}
    (hG : ∀ H', Same H1 H' → G H') (hD : H1 D = none) (lay : LayAll H1 xs (rows.map f)) (hl : rows.length ≤ 1000)
    (hs : ∀ (x : V) (r : α) (H' : Hp) (R : V → Hp → Prop) (Z : Hp → Prop), r ∈ rows → Same H1 H' → Lay H' x (f r) → (∀ H4, Same H' H4 → R (.bl (p r)) H4) →
      tg x (wipe σ vs) H' fun σ2 H2 => wipe σ2 vs = wipe σ vs ∧ tYes σ2 H2 fun b H3 => if b = true then te σ2 H3 R else Z H3)
    (hd : ∀ H', Same H1 H' → H' D = some (.lst ((rows.map p).map V.bl)) → Qd H') :
    ∃ W : Nat → Nat → Hp → Prop, (∃ m, W 0 m (upd H1 D (.lst []))) ∧ ∀ i m H, W i m H →
      (J.stop i H ∧ Qd H) ∨ (J.go i H ∧ ∃ Nx : Hp → Prop, (∀ H', Nx H' → ∃ m', m' < m ∧ W (i + 1) m' H') ∧ ∀ x H', J.yld i H x H' → tg x (wipe σ vs) H' fun σ2 H2 => wipe σ2 vs = wipe σ vs ∧ tYes σ2 H2 fun b H3 =>
        if b = true then te σ2 H3 fun y H4 => ∃ acc, H4 D = some (.lst acc) ∧ acc.length < sizeLine ∧ Nx (upd H4 D (.lst (acc ++ [y]))) else Nx H3) :=
  lc_rows w hG hD lay hl (g := p) (h := blD) (fun i x r H' R Z hr sm lx k => hs x r H' R Z (List.mem_of_getElem? hr) sm lx fun H4 s4 => k _ _ s4 (.bl _)) fun us H' sm eD lus => hd H' sm (by rw [← lay_bls lus]; exact eD)
theorem useB {R : V → Hp → Prop} {H : Hp} {b c : Bool} (k : R (.bl b) H) (e : b = c) : R (.bl c) H := e ▸ k
theorem rdCatT {K : PySem.W.Frag} {H : Hp} {a b : Addr} {xs ys : List V} {Q : VK} (ha : SqT K H a xs) (hb : SqT K H b ys) (hl : xs.length + ys.length ≤ 1000) (k : ∀ (t : Addr) (H' : Hp), Same H H' → SqT K H' t (xs ++ ys) → Q (.ref t) H') : rCatA K (.ref a) (.ref b) H Q := by
  refine ⟨a, b, xs, ys, rfl, rfl, ha, hb, le1000 hl, fun e => ?_, fun _ e => ?_, fun _ _ p hp => k p _ (fun b u q => by rw [upd_ne (ne_of_none q hp)]; exact q) (SqT.of upd_same)⟩
  · subst e
    exact k b H (.refl _) hb
  · subst e
    exact k a H (.refl _) (by rw [List.append_nil]; exact ha)
theorem vInt_eq (i j : Int) : decide (V.int i = V.int j) = decide (i = j) := by
  by_cases h : i = j
  · subst h; simp
  · rw [decide_eq_false h, decide_eq_false fun e => h (V.int.inj e)]
theorem sortedN {M : List Nat} {ys : List Int} (h : ys.Perm (castL M)) (hp : ys.Pairwise (· ≤ ·)) (nd : M.Nodup) : ∃ zs : List Nat, ys.map V.int = zs.map vI ∧ zs.Pairwise (· < ·) ∧ (∀ v, v ∈ zs ↔ v ∈ M) ∧ zs.length = M.length := by
  have e : ∀ y ∈ ys, y = ((y.toNat : Nat) : Int) := fun y hy => by
    obtain ⟨x, _, rfl⟩ := List.mem_map.mp (h.mem_iff.mp hy)
    simp
  have pz : (ys.map Int.toNat).Perm M := by
    have := h.map Int.toNat
    unfold castL at this
    rw [List.map_map] at this
    have q : M.map (Int.toNat ∘ fun x : Nat => (x : Int)) = M := by
      conv => rhs; rw [← List.map_id M]
      exact List.map_congr_left fun x _ => by simp
    rwa [q] at this
  refine ⟨ys.map Int.toNat, ?_, ?_, fun v => pz.mem_iff, pz.length_eq⟩
  · rw [List.map_map]
    exact List.map_congr_left fun y hy => congrArg V.int (e y hy)
  · have n : (ys.map Int.toNat).Pairwise (· ≠ ·) := pz.nodup_iff.mpr nd
    have l : (ys.map Int.toNat).Pairwise (· ≤ ·) := List.pairwise_map.mpr (hp.imp fun h => Int.toNat_le_toNat h)
    exact (l.and n).imp fun h => Nat.lt_of_le_of_ne h.1 h.2
theorem setZ_keys (M : List Int) : (setZ M).map (·.1) = M.map Sum.inl := by unfold setZ; rw [List.map_map]; rfl
theorem mem_castL {M : List Nat} {x : Nat} : ((x : Int) ∈ castL M) ↔ x ∈ M := by
  unfold castL
  rw [List.mem_map]
  constructor
  · rintro ⟨y, hy, e⟩
    have : y = x := by omega
    rwa [← this]
  · intro h
    exact ⟨x, h, rfl⟩
theorem addZ_cast {M : List Nat} {x : Nat} (h : x ∉ M) : addZ (castL M) (x : Int) = castL (M ++ [x]) := by
  unfold addZ
  rw [if_neg fun q => h (mem_castL.mp q)]
  unfold castL
  rw [List.map_append]
  rfl
end Bf

set_option Elab.async false
set_option linter.all false
set_option maxRecDepth 100000
set_option maxHeartbeats 4000000
namespace Bf
open PySem PySem.Spec PyProof.Rows L2
/-! ### data in lists: stored, cut -/
theorem layAt {H : Hp} {v : V} {d : PyData} (l : Lay H v d) : ∀ (ds : List PyData) (vs : List V) (i : Nat), LayAll H vs ds → LayAll H (vs.set i v) (ds.set i d)
  | [], vs, i, h => by
    obtain rfl := h.nil_inv
    exact h
  | e :: ds, vs, i, h => by
    obtain ⟨u, us, rfl, l0, l1⟩ := h.cons_inv
    cases i with
    | zero => exact .cons l l1
    | succ i => exact .cons l0 (layAt l ds us i l1)
theorem layTake {H : Hp} : ∀ (ds : List PyData) (vs : List V) (n : Nat), LayAll H vs ds → LayAll H (vs.take n) (ds.take n)
  | _, _, 0, _ => by rw [List.take_zero, List.take_zero]; exact .nil
  | [], vs, n + 1, h => by
    obtain rfl := h.nil_inv
    rw [List.take_nil, List.take_nil]
    exact .nil
  | e :: ds, vs, n + 1, h => by
    obtain ⟨u, us, rfl, l0, l1⟩ := h.cons_inv
    rw [List.take_succ_cons, List.take_succ_cons]
    exact .cons l0 (layTake ds us n l1)
theorem layDrop {H : Hp} : ∀ (ds : List PyData) (vs : List V) (n : Nat), LayAll H vs ds → LayAll H (vs.drop n) (ds.drop n)
  | _, _, 0, h => h
  | [], vs, n + 1, h => by
    obtain rfl := h.nil_inv
    rw [List.drop_nil, List.drop_nil]
    exact .nil
  | e :: ds, vs, n + 1, h => by
    obtain ⟨u, us, rfl, l0, l1⟩ := h.cons_inv
    rw [List.drop_succ_cons, List.drop_succ_cons]
    exact layDrop ds us n l1
theorem rdCatN {K : PySem.W.Frag} {H : Hp} {a b : Addr} {xs ys : List V} {Q : VK} (ha : SqT K H a xs) (hb : SqT K H b ys) (hl : xs.length + ys.length ≤ 1000) (nx : xs ≠ []) (ny : ys ≠ []) (k : ∀ p : Addr, H p = none → Q (.ref p) (upd H p (.tup (xs ++ ys)))) : rCatA K (.ref a) (.ref b) H Q :=
  ⟨a, b, xs, ys, rfl, rfl, ha, hb, le1000 hl, fun e => absurd e nx, fun _ e => absurd e ny, fun _ _ p hp => k p hp⟩
theorem map_erase {α β : Type} (f : α → β) : ∀ (l : List α) (i : Nat), (l.map f).eraseIdx i = (l.eraseIdx i).map f
  | [], _ => rfl
  | _ :: _, 0 => rfl
  | a :: l, i + 1 => by
    show f a :: (l.map f).eraseIdx i = f a :: (l.eraseIdx i).map f
    rw [map_erase f l i]
/-- sorted of data of one kind -/
theorem rdSortD {K : PySem.W.Frag} {H : Hp} {a : Addr} {vs : List V} {β : Type} {bs : List β} {enc : β → PyData} {Q : VK} (h : SqL K H a vs) (l : LayAll H vs (bs.map enc)) (al : ∀ b b', PySem.W.alike (enc b) (enc b') = true) (so : ∀ b, ∃ x r, enc b = .tuple (x :: r)) (de : ∀ b, (enc b).depth ≤ 32)
    (k : ∀ (cs : List β) (us : List V) (p : Addr), cs.Perm bs → LayAll (upd H p (.lst us)) us (cs.map enc) → H p = none → Q (.ref p) (upd H p (.lst us))) : rSortedD K [.ref a] H Q :=
  ⟨β, a, vs, bs, enc, rfl, h, l, PySem.W.AllAlike.of al, PySem.W.Sortable.tuples so, fun b _ => de b, fun us p lu hp => k _ us p (sortD_perm enc bs) (lu.keep' (.same (same_two (.refl _) hp))) hp⟩
theorem alike_zs : ∀ xs ys : List Int, PySem.W.alikeAll (xs.map zD) (ys.map zD) = true
  | [], _ => by simp [PySem.W.alikeAll]
  | _ :: _, [] => by simp [PySem.W.alikeAll]
  | x :: xs, y :: ys => by
    rw [List.map_cons, List.map_cons, PySem.W.alikeAll, alike_zs xs ys]
    simp [PySem.W.alike, zD]
end Bf

set_option Elab.async false
set_option linter.all false
set_option maxRecDepth 100000
set_option maxHeartbeats 4000000
namespace Bf
open PySem PySem.Spec PyProof.Rows L2
section
variable {P : Program} {w : World} {K : PySem.W.Frag} {mg : Str → Option Value} {base : Heap} {f : Addr} {fd : FuncData}
/-! ### the program's cones -/
theorem ok_first (F : Fun K "first_and" "first_and" s_first_and f fd) (T : Txt mg) : FnOk P w K mg base CX0 1 f fd ["net"] spFirst := by
  refine F.ok sc_first_and (fun vs H Q E h => ?_) (fun cdv A outer s H vs Q E hr h => ?_)
  · obtain ⟨v, N, rfl, _⟩ := h
    rfl
  obtain ⟨v, N, rfl, hv, q⟩ := h
  refine ⟨_, (pss_one (ps_ret (pe_op op_add (pe_op op_add pe_int (pe_callB call_len_seq (by rfl) T.n_len (by decide +kernel) (pa_cons (pe_ix ix_tup (pv 0) pe_int (fun _ _ => rfl)) pa_nil))) (pe_callB call_len_seq (by rfl) T.n_len (by decide +kernel) (pa_cons (pe_ix ix_tup (pv 0) pe_int (fun _ _ => rfl)) pa_nil))))), ?_⟩
  obtain ⟨p, pi, pr, pa, po, pc, vr, va, vo, vc, rfl, hN⟩ := hv.net
  have hl := hN.lens
  refine ⟨_, rfl, p, _, _, _, rfl, rfl, SqT.of hN.top, atI_nat (j := 1) rfl, pi, _, rfl, .inr (SqT.of hN.hi), _, _, rfl, rfl, ?_⟩
  refine ⟨_, rfl, p, _, _, _, rfl, rfl, SqT.of hN.top, atI_nat (j := 2) rfl, pr, _, rfl, .inr (SqT.of hN.hr), _, _, rfl, rfl, ?_⟩
  have e : vI N.first = V.int ((1 : Int) + ((N.ins.map V.str).length : Nat) + (vr.length : Nat)) := by
    rw [List.length_map, hl.1]
    show V.int _ = _
    congr 1
  rw [e] at q
  exact q
def spOps : Sp := fun vs H Q _ => ∃ (v : V) (N : Net) (x : Nat), vs = [v, vI x] ∧ Lay H v (netD N) ∧ x < N.size ∧ ∀ (L : Addr) (H' : Hp), Same H H' → H' L = some (.lst ((N.ops x).map vI)) → Q (.ref L) H'
theorem ok_ops (F : Fun K "operand_nodes" "operand_nodes" s_operand_nodes f fd) (T : Txt mg) (D_first_and : Dn P w K mg base "first_and" ["net"] 1 spFirst) :
    FnOk P w K mg base CX0 2 f fd ["net", "node"] spOps := by
  refine F.ok sc_operand_nodes (fun vs H Q E h => ?_) (fun cdv A outer s H vs Q E hr h => ?_)
  · obtain ⟨v, N, x, rfl, _⟩ := h
    rfl
  obtain ⟨v, N, x, rfl, lv, hx, q⟩ := h
  refine ⟨_, (pss_cons (ps_set (i := 2) sc_operand_nodes.nd rfl (Or.inl rfl) (pe_dn D_first_and (hr.mono (by omega)) (by rfl) (pa_cons (pv 0) pa_nil)))
      (pss_cons (ps_if (pt_cmpR op_lt (pv 1) (pv 2) (nomark _)) (pss_one (ps_ret (pe_lst pa_nil))) pss_nil)
      (pss_cons (ps_asg (pe_ix ix_tup (pe_ix ix_tup (pv 0) pe_int (fun _ _ => rfl)) (pe_op op_sub (pv 1) (pv 2)) (fun _ _ => rfl)) (pg_tup rfl (pgs_cons (pg_name (i := 3) sc_operand_nodes.nd rfl (Or.inl rfl)) (pgs_cons (pg_name (i := 4) sc_operand_nodes.nd rfl (Or.inl rfl)) pgs_nil))))
      (pss_one (ps_ret (pe_lst (pa_cons (pe_op op_fdiv (pv 3) pe_int) (pa_cons (pe_op op_fdiv (pv 4) pe_int) pa_nil)))))))), ?_⟩
  refine ⟨_, rfl, v, N, rfl, lv, _, rfl, _, rfl, _, _, rfl, rfl, _, rfl, ite2 (fun z => ?_) (fun z => ?_)⟩
  · have z : (x : Int) < (N.first : Int) := of_decide_eq_true z
    refine ⟨Nat.zero_le _, fun L hL => q L _ (same_new hL _) ?_⟩
    rw [upd_same, ops_low (by omega)]
    rfl
  have z : ¬ (x : Int) < (N.first : Int) := fun h => z (decide_eq_true h)
  obtain ⟨p, pi, pr, pa, po, pc, vr, va, vo, vc, rfl, hN⟩ := lv.net
  have hg : x - N.first < N.ands.length := by unfold Net.size at hx; omega
  have e : N.ands[x - N.first]? = some N.ands[x - N.first] := List.getElem?_eq_getElem hg
  obtain ⟨y, hy, ly⟩ := hN.la.at_ (d := pairD N.ands[x - N.first]) (x - N.first) (by rw [List.getElem?_map, e]; rfl)
  obtain ⟨q0, rfl, eq0⟩ := ly.pair
  have ha0 : atI va ((x : Int) - (N.first : Int)) = some (.ref q0) := by
    rw [show (x : Int) - (N.first : Int) = ((x - N.first : Nat) : Int) by omega]
    exact atI_nat hy
  have eo := ops_and (by omega) e
  generalize N.ands[x - N.first] = pp at eq0 eo
  refine ⟨_, rfl, p, _, _, _, rfl, rfl, SqT.of hN.top, atI_nat (j := 3) rfl, _, rfl, _, rfl, _, _, rfl, rfl, pa, va, _, _, rfl, rfl, SqT.of hN.ha, ha0, q0, _, rfl, SqT.of eq0, rfl, _, _, rfl, _, _, rfl, rfl, ?_⟩
  refine ⟨_, rfl, _, _, rfl, rfl, ⟨by decide, by decide⟩, _, rfl, _, _, rfl, rfl, ⟨by decide, by decide⟩, by show 2 ≤ sizeLine; decide, fun L hL => q L _ (same_new hL _) ?_⟩
  rw [upd_same, eo]
  rfl

end
/-! ### bars of levels, as they lie; the program's judge -/
def pathD (p : List Int) : PyData := .tuple (p.map zD)
def partD (ps : List (List Int)) : PyData := .tuple (ps.map pathD)
def partsD (qs : List (List (List Int))) : PyData := .tuple (qs.map partD)
theorem Lay.path {H : Hp} {v : V} {p : List Int} (h : Lay H v (pathD p)) : ∃ q, v = .ref q ∧ H q = some (.tup (p.map V.int)) := by
  obtain ⟨q, vs, rfl, e, l⟩ := h.tup_inv
  rw [lay_zs l] at e
  exact ⟨q, rfl, e⟩
theorem Lay.mkPath {H : Hp} {q : Addr} {p : List Int} (h : H q = some (.tup (p.map V.int))) : Lay H (.ref q) (pathD p) := .tup h (zs_lay p)
theorem Lay.part {H : Hp} {v : V} {ps : List (List Int)} (h : Lay H v (partD ps)) : ∃ q vs, v = .ref q ∧ H q = some (.tup vs) ∧ LayAll H vs (ps.map pathD) := h.tup_inv
theorem atI_last {xs : List V} {x : V} (h : xs[xs.length - 1]? = some x) : atI xs (-1) = some x := by
  have hl := (List.getElem?_eq_some_iff.mp h).1
  unfold atI ixN
  rw [if_neg (by omega), if_pos (by omega), show ((-1 : Int) + (xs.length : Int)).toNat = xs.length - 1 by omega]
  exact h
theorem vI_nat {i : Int} (h : 0 ≤ i) : V.int i = vI i.toNat := congrArg V.int (by omega)
theorem rowAt_at {rows : List Int} {x : Int} (h : 0 ≤ x) (h2 : x < (rows.length : Int)) : atI (rows.map V.int) x = some (V.int (rowAt rows x)) := by
  have hx : x.toNat < rows.length := by omega
  have : atI (rows.map V.int) ((x.toNat : Nat) : Int) = some (V.int (rowAt rows x)) := atI_nat (by
    unfold rowAt
    rw [List.getElem?_map, List.getD_eq_getElem?_getD, List.getElem?_eq_getElem hx]
    rfl)
  rwa [show ((x.toNat : Nat) : Int) = x by omega] at this
theorem not_pos_nil {N : Net} {node : Int} : ¬ GoodPath N node [] := fun h => h.ne rfl
section
variable {P : Program} {w : World} {K : PySem.W.Frag} {mg : Str → Option Value} {base : Heap} {f : Addr} {fd : FuncData}
def spPathP : Sp := fun vs H Q _ => ∃ (v : V) (N : Net) (node : Nat) (r : Addr) (p : List Int), vs = [v, vI node, .ref r] ∧ Lay H v (netD N) ∧ N.Right ∧ N.size ≤ 400 ∧ node < N.size ∧ H r = some (.tup (p.map V.int)) ∧ p.length ≤ 500 ∧
  ∀ (b : Bool) (H' : Hp), Same H H' → (b = true ↔ GoodPath N node p) → Q (.bl b) H'
theorem ok_pathP (F : Fun K "is_path" "is_path" s_is_path f fd) (T : Txt mg) (D_first_and : Dn P w K mg base "first_and" ["net"] 1 spFirst) (D_operand_nodes : Dn P w K mg base "operand_nodes" ["net", "node"] 2 spOps) :
    FnOk P w K mg base CX0 3 f fd ["net", "node", "path"] spPathP := by
  refine F.ok sc_is_path (fun vs H Q E h => ?_) (fun cdv A outer s H vs Q E hr h => ?_)
  · obtain ⟨v, N, node, r, p, rfl, _⟩ := h
    rfl
  obtain ⟨v, N, node, r, p, rfl, lv, RN, h400, hn, er, hpl, q⟩ := h
  refine ⟨_, (pss_cons (ps_if (PW.pt (pw_or (pt_not (pt_truth (pv 2) (by intro _; rfl))) (pw_or (pt_cmpR op_ne (pe_ix ix_tup (pv 2) (pe_un un_neg pe_int) (fun _ _ => rfl)) (pv 1) (nomark _)) (pw_or1 (pt_not (pt_chain op_lt op_lt pe_int (pe_ix ix_tup (pv 2) pe_int (fun _ _ => rfl)) (pe_dn D_first_and (hr.mono (by omega)) (by rfl) (pa_cons (pv 0) pa_nil)))))))) (pss_one (ps_ret pe_bl)) pss_nil)
      (pss_cons (ps_for PassesOwn.never rfl (pi_zipX (by rfl) T.n_zip (pa_cons (pv 2) (pa_cons (pe_slice sl_tupA (pv 2) (po_some pe_int) po_none) pa_nil))) (pg_tup rfl (pgs_cons (pg_name (i := 3) sc_is_path.nd rfl (Or.inl rfl)) (pgs_cons (pg_name (i := 4) sc_is_path.nd rfl (Or.inl rfl)) pgs_nil))) (pss_one (ps_if (PW.pt (pw_or (pt_not (pt_chain op_lt op_le (pv 3) (pv 4) (pv 1))) (pw_or1 (pt_cmpR op_notIn_seq (pv 3) (pe_dn D_operand_nodes (hr.mono (by omega)) (by rfl) (pa_cons (pv 0) (pa_cons (pv 4) pa_nil))) (by rfl))))) (pss_one (ps_ret pe_bl)) pss_nil)))
      (pss_one (ps_ret pe_bl)))), ?_⟩
  have bad : ∀ H' : Hp, Same H H' → ¬ GoodPath N node p → Q (.bl false) H' := fun H' s n => q false H' s ⟨fun h => (by cases h), fun h => absurd h n⟩
  refine ⟨_, rfl, _, .inr (.inl ⟨_, SqT.of er, rfl⟩), ?_⟩
  rcases p with _ | ⟨a, rr⟩
  · exact iteT (iteT (bad _ (.refl _) not_pos_nil))
  refine iteF ?_
  obtain ⟨z, hz⟩ : ∃ z, (a :: rr)[(a :: rr).length - 1]? = some z := ⟨_, List.getElem?_eq_getElem (by simp)⟩
  have hzm : ((a :: rr).map V.int)[((a :: rr).map V.int).length - 1]? = some (V.int z) := by rw [List.length_map, List.getElem?_map, hz]; rfl
  refine ⟨_, rfl, _, rfl, r, _, _, _, rfl, rfl, SqT.of er, atI_last hzm, _, rfl, rfl, _, rfl, ?_⟩
  by_cases h1 : z = (node : Int)
  rotate_left
  · refine ifY ?_ (iteT (bad _ (.refl _) fun h => h1 ?_))
    · rw [show decide (V.int z = vI node) = false from decide_eq_false fun e => h1 (V.int.inj e)]; rfl
    · have := h.last
      rw [hz] at this
      exact Option.some.inj this
  subst h1
  refine ifN (by rw [show decide (V.int (node : Int) = vI node) = true from decide_eq_true rfl]; rfl) ?_
  refine ⟨_, rfl, r, _, _, V.int a, rfl, rfl, SqT.of er, atI_nat (j := 0) rfl, _, _, rfl, rfl, _, rfl, ite2 (fun h2 => ?_) (fun h2 => ?_)⟩
  rotate_left
  · have h2 : ¬ 0 < a := fun h => h2 (decide_eq_true h)
    refine ⟨_, rfl, iteT (bad _ (.refl _) fun h => ?_)⟩
    obtain ⟨a', e, h3, _⟩ := h.head
    cases e
    exact h2 h3
  have h2 : 0 < a := of_decide_eq_true h2
  refine ⟨_, rfl, v, N, rfl, lv, _, _, rfl, rfl, _, rfl, ?_⟩
  by_cases h3 : a < (N.first : Int)
  rotate_left
  · rw [decide_eq_false h3]
    refine iteT (bad _ (.refl _) fun h => ?_)
    obtain ⟨a', e, _, h4⟩ := h.head
    cases e
    exact h3 h4
  rw [decide_eq_true h3]
  refine iteF ?_
  have ha0 : (a :: rr)[0]? = some a := rfl
  generalize hp : a :: rr = p at er hpl q bad hz ha0 hzm ⊢
  clear hp
  refine ⟨_, rfl, _, rfl, 1, rfl, ?_⟩
  delta tNoPart
  refine rdSl (SqT.of er) fun t H1 s1 et => ?_
  rw [show cutV (p.map V.int) (some 1) none = p.tail.map V.int by
    have := cutV_from (p.map V.int) 1
    rw [show (some 1 : Option Int) = some ((1 : Nat) : Int) from rfl, this, ← List.map_drop, List.drop_one]] at et
  have er1 := s1 _ _ er
  have tl : (p.tail.map V.int).length ≤ (p.map V.int).length := by rw [List.length_map, List.length_map, List.length_tail]; omega
  refine ⟨srcT, srcT, r, t, _, _, rfl, SqT.of er1, et, for_it (walk_zipMin srcT srcT tl) (fun i σ' H' => ∃ (v3 v4 : Option V), σ' = [some v, some (vI node), some (.ref r), v3, v4] ∧ Same H1 H' ∧ ∀ (j : Nat) (x y : Int), j < i → p[j]? = some x → p[j + 1]? = some y → StepZ N x y)
    ⟨_, _, rfl, .refl _, fun j x y hj => absurd hj (Nat.not_lt_zero _)⟩ (fun i σ' H' _ pp => ?_) (fun i x σ' H2 H3 hi pp y => ?_) (fun σ' H2 pp => ?_)⟩
  · obtain ⟨_, _, _, sm, _⟩ := pp
    exact ⟨SqT.of (sm _ _ er1), seqT_same sm et⟩
  · obtain ⟨v3, v4, rfl, sm, hst⟩ := pp
    obtain ⟨T1, x0, y0, rfl, hT, rfl, e1, e2⟩ := y
    have e1 : (p.map V.int)[i]? = some x0 := e1
    have e2 : (p.tail.map V.int)[i]? = some y0 := e2
    obtain ⟨x, hx, rfl⟩ := mapAt e1
    obtain ⟨y, hy, rfl⟩ := mapAt e2
    rw [List.getElem?_tail] at hy
    have sT := same_new hT (.tup [V.int x, V.int y])
    have x0 : 0 < x := by
      cases i with
      | zero =>
        rw [ha0] at hx
        cases hx
        exact h2
      | succ i =>
        have hi2 := (List.getElem?_eq_some_iff.mp hx).1
        have := (hst i _ x (Nat.lt_succ_self _) (List.getElem?_eq_getElem (by omega)) hx).lt RN
        unfold Net.first at this
        omega
    refine ⟨T1, _, rfl, SqT.of upd_same, rfl, _, _, rfl, _, _, rfl, rfl, ?_⟩
    have smT := sm.trans sT
    have s0T := s1.trans smT
    refine ⟨_, rfl, _, rfl, _, _, rfl, rfl, _, rfl, ite2 (fun z1 => ?_) (fun z1 => ?_)⟩
    rotate_left
    · have z1 : ¬ x < y := fun h => z1 (decide_eq_true h)
      exact ⟨_, rfl, iteT (iteT (bad _ s0T fun h => z1 ((h.st i x y hx hy).lt RN).1))⟩
    have z1 : x < y := of_decide_eq_true z1
    refine ⟨_, rfl, _, _, rfl, rfl, _, rfl, ?_⟩
    by_cases z2 : y ≤ (node : Int)
    rotate_left
    · rw [decide_eq_false z2]
      exact iteT (iteT (bad _ s0T fun h => z2 (h.le RN hy)))
    rw [decide_eq_true z2]
    refine iteF ?_
    refine ⟨_, rfl, _, rfl, _, rfl, v, N, y.toNat, by rw [← vI_nat (by omega)], lv.keep' (.same s0T), by omega, fun L H4 s4 eL => ?_⟩
    rw [← castL_V] at eL
    refine rdNotInZ (SqL.of eL) ⟨_, rfl, ?_⟩
    by_cases z3 : x ∈ castL (N.ops y.toNat)
    rotate_left
    · rw [decide_eq_false z3]
      refine iteT (bad _ (s0T.trans s4) fun h => z3 ?_)
      have := (h.st i x y hx hy).2.2
      rw [show x = ((x.toNat : Nat) : Int) by omega]
      exact mem_castL.mpr this
    rw [decide_eq_true z3]
    refine iteF ⟨_, _, rfl, smT.trans s4, fun j x' y' hj hx' hy' => ?_⟩
    by_cases e : j = i
    · subst e
      rw [hx] at hx'
      rw [hy] at hy'
      cases hx'
      cases hy'
      rw [show x = ((x.toNat : Nat) : Int) by omega] at z3
      exact ⟨by omega, by omega, mem_castL.mp z3⟩
    · exact hst j x' y' (by omega) hx' hy'
  · obtain ⟨v3, v4, rfl, sm, hst⟩ := pp
    refine q _ _ (s1.trans sm) ⟨fun _ => ⟨⟨a, ha0, h2, h3⟩, hz, fun i x y hx hy => hst i x y ?_ hx hy⟩, fun _ => rfl⟩
    have := (List.getElem?_eq_some_iff.mp hy).1
    rw [List.length_map, List.length_tail]
    omega
def spApart : Sp := fun vs H Q _ => ∃ (rl : Addr) (rows : List Int) (xv : V) (part : List (List Int)) (bound : Int), vs = [.ref rl, xv, .int bound] ∧ H rl = some (.lst (rows.map V.int)) ∧ Lay H xv (partD part) ∧ (∀ p ∈ part, ∀ x ∈ p, 0 ≤ x ∧ x < (rows.length : Int)) ∧ part.flatten.length ≤ 1000 ∧
  ∀ (b : Bool) (H' : Hp), Same H H' → (b = true ↔ (lowL rows bound part.flatten).Nodup) → Q (.bl b) H'
theorem ok_apart (F : Fun K "are_apart" "are_apart" s_are_apart f fd) (T : Txt mg) : FnOk P w K mg base CX0 1 f fd ["rows", "paths", "bound"] spApart := by
  refine F.ok sc_are_apart (fun vs H Q E h => ?_) (fun cdv A outer s H vs Q E hr h => ?_)
  · obtain ⟨rl, rows, xv, part, bound, rfl, _⟩ := h
    rfl
  obtain ⟨rl, rows, xv, part, bound, rfl, erl, lp, hin, hfl, q⟩ := h
  refine ⟨_, (pss_cons (ps_set (i := 3) sc_are_apart.nd rfl (Or.inl rfl) pe_dnewK)
      (pss_cons (ps_for PassesOwn.never rfl (pi_tup (pv 1)) (pg_name (i := 4) sc_are_apart.nd rfl (Or.inl rfl)) (pss_one (ps_for PassesOwn.never rfl (pi_tup (pv 4)) (pg_name (i := 5) sc_are_apart.nd rfl (Or.inl rfl)) (pss_cons (ps_if (PW.pt (pw_and (pt_cmpR op_le (pe_ix ix_list (pv 0) (pv 5) (fun _ _ => rfl)) (pv 2) (nomark _)) (pw_and1 (pt_cmp (pc_din (hu_of hr) (pv 5) (pv 3)))))) (pss_one (ps_ret pe_bl)) pss_nil)
      (pss_one (ps_dput (hu_of hr) (pv 3) (pv 5) pe_bl rfl))))))
      (pss_one (ps_ret pe_bl)))), ?_⟩
  obtain ⟨pq, vp, rfl, ep, lpp⟩ := lp.part
  have lvp : vp.length = part.length := by simpa using lpp.len
  refine fun Mt hMt => ?_
  have sM := same_new hMt (.dK [])
  refine ⟨_, rfl, pq, rfl, ⟨_, SqT.of (sM _ _ ep)⟩, for_it (walk_tup (xs := vp)) (fun i σ' H' => ∃ (v4 v5 : Option V) (M : List Int), σ' = [some (.ref rl), some (.ref pq), some (.int bound), some (.ref Mt), v4, v5] ∧ Same H H' ∧ H' Mt = some (.dK (setZ M)) ∧ (∀ x, x ∈ M ↔ x ∈ (part.take i).flatten) ∧ M.length ≤ (part.take i).flatten.length ∧ (lowL rows bound (part.take i).flatten).Nodup)
    ⟨_, _, [], rfl, sM, upd_same, by simp, by simp, by simp [lowL]⟩ (fun i σ' H' _ pp => ?_) (fun i x σ' H2 H3 hi pp y => ?_) (fun σ' H2 pp => ?_)⟩
  · obtain ⟨_, _, _, _, sm, _⟩ := pp
    exact SqT.of (sm _ _ ep)
  · obtain ⟨v4, v5, M, rfl, sm, eM, hM, hMl, hnd⟩ := pp
    obtain ⟨rfl, hx⟩ := y
    obtain ⟨dd, hd1, hd2⟩ := (lpp.keep' (.same sm)).get i hx
    obtain ⟨p, hp, rfl⟩ := mapAtD hd1
    obtain ⟨r, rfl, er⟩ := hd2.path
    have hpm := List.mem_of_getElem? hp
    have pre : (part.take (i + 1)).flatten = (part.take i).flatten ++ p := by rw [take_snoc hp, List.flatten_append, List.flatten_singleton]
    have all : part.flatten = (part.take i).flatten ++ p ++ (part.drop (i + 1)).flatten := by
      rw [← pre, ← List.flatten_append, List.take_append_drop]
    refine ⟨_, rfl, r, rfl, ⟨_, SqT.of er⟩, for_it (walk_tup (xs := p.map V.int)) (fun j σ' H' => ∃ (v5 : Option V) (M : List Int), σ' = [some (.ref rl), some (.ref pq), some (.int bound), some (.ref Mt), some (.ref r), v5] ∧ Same H H' ∧ H' r = some (.tup (p.map V.int)) ∧ H' Mt = some (.dK (setZ M)) ∧ (∀ x, x ∈ M ↔ x ∈ (part.take i).flatten ++ p.take j) ∧ M.length ≤ (part.take i).flatten.length + j ∧ (lowL rows bound ((part.take i).flatten ++ p.take j)).Nodup)
      ⟨_, M, rfl, sm, er, eM, by simpa using hM, by omega, by simpa using hnd⟩ (fun j σ' H' _ pp => ?_) (fun j x σ' H4 H5 hj pp y => ?_) (fun σ' H4 pp => ?_)⟩
    · obtain ⟨_, _, _, _, e, _⟩ := pp
      exact SqT.of e
    · obtain ⟨v5, M, rfl, sm, er, eM, hM, hMl, hnd⟩ := pp
      obtain ⟨rfl, hy⟩ := y
      obtain ⟨n, hn, rfl⟩ := mapAt hy
      obtain ⟨n0, n1⟩ := hin p hpm n (List.mem_of_getElem? hn)
      have hj2 := (List.getElem?_eq_some_iff.mp hn).1
      have lall : (part.take i).flatten.length + p.length ≤ 1000 := by
        have := congrArg List.length all
        rw [List.length_append, List.length_append] at this
        omega
      have spl : part.flatten = ((part.take i).flatten ++ p.take j) ++ n :: (p.drop (j + 1) ++ (part.drop (i + 1)).flatten) := by
        have e1 : p = p.take j ++ n :: p.drop (j + 1) := by
          conv => lhs; rw [← List.take_append_drop j p]
          rw [List.drop_eq_getElem_cons hj2]
          rw [List.getElem?_eq_getElem hj2] at hn
          rw [Option.some.inj hn]
        rw [all]
        conv => lhs; rw [e1]
        simp
      refine ⟨_, rfl, _, rfl, rl, _, _, _, rfl, rfl, SqL.of (sm _ _ erl), rowAt_at n0 n1, _, rfl, _, _, rfl, rfl, _, rfl, ite2 (fun z => ?_) (fun z => ?_)⟩
      · have z : rowAt rows n ≤ bound := of_decide_eq_true z
        refine ⟨_, rfl, _, rfl, Mt, _, rfl, setZ_get eM n, _, rfl, ?_⟩
        rw [setZ_val]
        by_cases hm : n ∈ M
        · rw [decide_eq_true hm]
          refine iteT (q _ _ sm ⟨fun h => (by cases h), fun h => ?_⟩)
          rw [spl] at h
          exact absurd h (low_twice z ((hM n).mp hm))
        · rw [decide_eq_false hm]
          refine iteF ⟨_, rfl, _, rfl, Mt, _, rfl, setZ_dput eM n (by omega), ?_⟩
          refine ⟨_, addZ M n, rfl, same_two sm hMt, ?_, upd_same, fun x => ?_, by have := addZ_len (M := M) (x := n); omega, ?_⟩
          · rw [upd_ne (fun z => by rw [z, eM] at er; cases er)]
            exact er
          · rw [mem_addZ, hM, take_snoc hn, ← List.append_assoc, List.mem_append (s := _ ++ _)]
            simp
          · rw [take_snoc hn, ← List.append_assoc]
            exact low_once hnd fun h => hm ((hM n).mpr h.2)
      · have z : ¬ rowAt rows n ≤ bound := fun h => z (decide_eq_true h)
        refine ⟨_, rfl, _, rfl, Mt, _, rfl, setZ_dput eM n (by omega), ?_⟩
        refine ⟨_, addZ M n, rfl, same_two sm hMt, ?_, upd_same, fun x => ?_, by have := addZ_len (M := M) (x := n); omega, ?_⟩
        · rw [upd_ne (fun z => by rw [z, eM] at er; cases er)]
          exact er
        · rw [mem_addZ, hM, take_snoc hn, ← List.append_assoc, List.mem_append (s := _ ++ _)]
          simp
        · rw [take_snoc hn, ← List.append_assoc]
          exact low_once hnd fun h => z h.1
    · obtain ⟨v5, M, rfl, sm, er, eM, hM, hMl, hnd⟩ := pp
      rw [List.length_map, List.take_length, ← pre] at hM hnd
      rw [List.length_map] at hMl
      exact ⟨_, _, M, rfl, sm, eM, hM, by rw [pre, List.length_append]; exact hMl, hnd⟩
  · obtain ⟨v4, v5, M, rfl, sm, eM, hM, hMl, hnd⟩ := pp
    rw [lvp, List.take_length] at hnd
    exact q _ _ sm ⟨fun _ => hnd, fun _ => rfl⟩
end

end Bf

set_option Elab.async false
set_option linter.all false
set_option maxRecDepth 100000
set_option maxHeartbeats 4000000
namespace Bf
open PySem PySem.Spec PyProof.Rows L2
theorem sh_part (ps : List (List Int)) : Sh 2 (partD ps) := Sh.tup fun d hd => by
  obtain ⟨p, _, rfl⟩ := List.mem_map.mp hd
  exact sh_zt p
theorem eqv_nil (ps : List (List Int)) : PyData.eqv (partD ps) (.tuple []) = ps.isEmpty := by
  cases ps with
  | nil => simp [partD, PyData.eqv, PyData.eqvAll]
  | cons p r => simp [partD, PyData.eqv, PyData.eqvAll]
def sumL (ps : List (List Int)) : Nat := (ps.map List.length).sum
theorem flat_len (ps : List (List Int)) : ps.flatten.length = sumL ps := by simp [sumL, List.length_flatten]
theorem sumL_le (ps : List (List Int)) (n : Nat) (h : ∀ p ∈ ps, p.length ≤ n) : ps.flatten.length ≤ n * ps.length := by
  induction ps with
  | nil => simp
  | cons p r ih =>
    rw [List.flatten_cons, List.length_append, List.length_cons]
    have h1 := h p (by simp)
    have h2 := ih fun q hq => h q (by simp [hq])
    rw [Nat.mul_add, Nat.mul_one]
    omega
theorem rowAt_zero {f : Nat} {lv : List Int} {x : Nat} (h : x < f) : rowAt (List.replicate f 0 ++ lv) (x : Int) = 0 := by
  unfold rowAt
  rw [List.getD_eq_getElem?_getD, show ((x : Int)).toNat = x from rfl, List.getElem?_append_left (by simpa using h), List.getElem?_replicate, if_pos h]
  rfl
theorem rep_zeroZ (n : Nat) : (List.replicate n [V.int 0]).flatten = (List.replicate n (0 : Int)).map V.int := by
  induction n with
  | zero => rfl
  | succ n ih =>
    rw [List.replicate_succ, List.flatten_cons, ih, List.replicate_succ]
    rfl
section
variable {P : Program} {w : World} {K : PySem.W.Frag} {mg : Str → Option Value} {base : Heap} {f : Addr} {fd : FuncData}
def spPart : Sp := fun vs H Q _ => ∃ (v : V) (N : Net) (k : Nat) (rl : Addr) (rows : List Int) (node : Nat) (xv : V) (part : List (List Int)), vs = [v, vI k, .ref rl, vI node, xv] ∧ Lay H v (netD N) ∧ N.Right ∧ N.size ≤ 400 ∧ H rl = some (.lst (rows.map V.int)) ∧ rows.length = N.size ∧ node < N.size ∧ Lay H xv (partD part) ∧ part.length ≤ 20 ∧ (∀ p ∈ part, p.length ≤ 50) ∧
  ∀ (b : Bool) (H' : Hp), Same H H' → (b = true ↔ PartOk N k rows node part) → Q (.bl b) H'
theorem ok_part (F : Fun K "is_part" "is_part" s_is_part f fd) (T : Txt mg) (D_is_path : Dn P w K mg base "is_path" ["net", "node", "path"] 3 spPathP) (D_are_apart : Dn P w K mg base "are_apart" ["rows", "paths", "bound"] 1 spApart) :
    FnOk P w K mg base CX0 4 f fd ["net", "k", "rows", "node", "part"] spPart := by
  classical
  refine F.ok sc_is_part (fun vs H Q E h => ?_) (fun cdv A outer s H vs Q E hr h => ?_)
  · obtain ⟨v, N, k, rl, rows, node, xv, part, rfl, _⟩ := h
    rfl
  obtain ⟨v, N, k, rl, rows, node, xv, part, rfl, lv, RN, h400, erl, hrl, hn, lp, hp20, hp50, q⟩ := h
  refine ⟨_, (pss_cons (ps_if (pt_cmpR op_eq (pe_ix ix_list (pv 2) (pv 3) (fun _ _ => rfl)) pe_int (nomark _)) (pss_one (ps_ret (pe_cmpR (op_eqD hr.units) (pv 4) (pe_tup pa_nil) (nomark _)))) pss_nil)
      (pss_cons (ps_if (PW.pt (pw_or (pt_cmpR op_ne (pe_callB call_len_seq (by rfl) T.n_len (by decide +kernel) (pa_cons (pv 4) pa_nil)) (pe_op op_add (pv 1) pe_int) (nomark _)) (pw_or1 (pt_not (pt_val (pe_callB (cr_all rfl) (by rfl) T.n_all (by decide +kernel) (pa_cons (pe_lc (own := [("path", 5)]) (g := (gName 5)) (tt := tYes) rfl sc_is_part.nd (pi_tup (pv 4)) (blkOk_by (N := ["net", "k", "rows", "node", "part", "path"]) (sc := defScope s_is_part) (by decide +kernel)) (fun _ _ _ _ _ => (pg_name (i := 5) sc_is_part.nd rfl (Or.inl rfl))) (fun _ _ _ _ _ => pts_nil) (fun _ _ _ _ _ => (pe_dn D_is_path (hr.mono (by omega)) (by rfl) (pa_cons (pv 0) (pa_cons (pv 3) (pa_cons (pv 5) pa_nil)))))) pa_nil))))))) (pss_one (ps_ret pe_bl)) pss_nil)
      (pss_one (ps_ret (pe_dn D_are_apart (hr.mono (by omega)) (by rfl) (pa_cons (pv 2) (pa_cons (pv 4) (pa_cons (pe_op op_sub (pe_ix ix_list (pv 2) (pv 3) (fun _ _ => rfl)) pe_int) pa_nil)))))))), ?_⟩
  obtain ⟨pq, vp, rfl, ep, lpp⟩ := id lp.part
  have lvp : vp.length = part.length := by simpa using lpp.len
  have hat := rowAt_at (rows := rows) (x := (node : Int)) (by omega) (by omega)
  refine ⟨_, rfl, _, rfl, rl, _, _, _, rfl, rfl, SqL.of erl, hat, rfl, _, rfl, ite2 (fun z => ?_) (fun z => ?_)⟩
  · have z : rowAt rows node = 1 := V.int.inj (of_decide_eq_true z)
    refine ⟨_, rfl, Nat.zero_le _, fun t ht => ?_⟩
    have st := same_new ht (.tup [])
    refine ⟨partD part, .tuple [], (lp.keep' (.same st)).dp', .tup (SqT.of upd_same) .nil, (sh_part part).shaped (by decide), (Sh.tup (k := 0) (ds := []) (fun d hd => by cases hd)).shaped (by decide), ?_⟩
    rw [eqv_nil]
    refine q _ _ st ?_
    unfold PartOk
    rw [if_pos z, List.isEmpty_iff]
  have z : ¬ rowAt rows node = 1 := fun h => z (decide_eq_true (congrArg V.int h))
  have hPO : PartOk N k rows node part ↔ part.length = k + 1 ∧ (∀ p ∈ part, GoodPath N node p) ∧ (lowL rows (rowAt rows node - 2) part.flatten).Nodup := by
    unfold PartOk
    rw [if_neg z]
  refine ⟨_, rfl, pq, _, rfl, .inr (SqT.of ep), _, rfl, _, _, rfl, rfl, rfl, _, rfl, ?_⟩
  by_cases h1 : part.length = k + 1
  rotate_left
  · refine ifY ?_ (iteT (q _ _ (.refl _) ⟨fun h => (by cases h), fun h => absurd (hPO.mp h).1 h1⟩))
    rw [lvp, show decide (V.int (part.length : Int) = (fun i j => V.int (i + j)) (k : Int) 1) = false from decide_eq_false fun e => h1 (by have := V.int.inj e; omega)]
    rfl
  refine ifN ?_ ?_
  · rw [lvp, show decide (V.int (part.length : Int) = (fun i j => V.int (i + j)) (k : Int) 1) = true from decide_eq_true (congrArg V.int (by omega))]
    rfl
  refine ⟨_, rfl, pq, rfl, ⟨_, SqT.of ep⟩, fun D hD => ?_⟩
  refine lc_rowsB (walk_tup (xs := vp)) (rows := part) (f := pathD) (p := fun p => decide (GoodPath N node p)) (fun H' s => SqT.of (s _ _ ep)) hD lpp (by omega) (fun y p H' R' Z hp s ly kk => ?_) (fun H1 s1 eB => ?_)
  · obtain ⟨r, rfl, er⟩ := ly.path
    exact ⟨rfl, _, rfl, _, rfl, _, rfl, v, N, node, r, p, rfl, lv.keep' (.same s), RN, h400, hn, er, by have := hp50 p hp; omega, fun b H2 s2 hb => useB (kk _ s2) (decB hb).symm⟩
  refine ⟨D, _, rfl, SqL.of eB, _, rfl, ?_⟩
  by_cases hall : ((part.map fun p => decide (GoodPath N node p)).all id) = true
  rotate_left
  · rw [Bool.eq_false_iff.mpr hall]
    exact iteT (q _ _ s1 ⟨fun h => (by cases h), fun h => absurd ((all_map_dec (p := fun p => GoodPath N node p) _).mpr (hPO.mp h).2.1) hall⟩)
  rw [hall]
  have good := (all_map_dec (p := fun p => GoodPath N node p) part).mp hall
  refine iteF ⟨_, rfl, _, rfl, _, rfl, _, rfl, rl, _, _, _, rfl, rfl, SqL.of (s1 _ _ erl), hat, _, _, rfl, rfl, rl, rows, .ref pq, part, rowAt rows node - 2, rfl, s1 _ _ erl, lp.keep' (.same s1), fun p hp x hx => ?_, ?_, fun b H2 s2 hb => q _ _ (s1.trans s2) (hb.trans ?_)⟩
  · have := (good p hp).mem RN hx
    omega
  · have := sumL_le part 50 hp50
    omega
  · rw [hPO]
    exact ⟨fun h => ⟨h1, good, h⟩, fun h => h.2.2⟩
def spJudgeB : Sp := fun vs H Q _ => ∃ (v lw xv : V) (N : Net) (k : Nat) (lv : List Int) (parts : List (List (List Int))), vs = [v, vI k, lw, xv] ∧ Lay H v (netD N) ∧ N.Right ∧ N.size ≤ 400 ∧ Lay H lw (pathD lv) ∧ lv.length ≤ 400 ∧ Lay H xv (partsD parts) ∧ parts.length ≤ 400 ∧ (∀ q ∈ parts, q.length ≤ 20 ∧ ∀ p ∈ q, p.length ≤ 50) ∧
  ∀ (b : Bool) (H' : Hp), Same H H' → (b = true ↔ BarsOk N k lv parts) → Q (.bl b) H'
theorem ok_judgeB (F : Fun K "judge_level_bars" "judge_level_bars" s_judge_level_bars f fd) (T : Txt mg) (D_first_and : Dn P w K mg base "first_and" ["net"] 1 spFirst) (D_is_part : Dn P w K mg base "is_part" ["net", "k", "rows", "node", "part"] 4 spPart) :
    FnOk P w K mg base CX0 5 f fd ["net", "k", "levels", "bars"] spJudgeB := by
  classical
  refine F.ok sc_judge_level_bars (fun vs H Q E h => ?_) (fun cdv A outer s H vs Q E hr h => ?_)
  · obtain ⟨v, lw, xv, N, k, lv, parts, rfl, _⟩ := h
    rfl
  obtain ⟨v, lw, xv, N, k, lv, parts, rfl, lN, RN, h400, llw, hlv, lxv, hpl, hpp, q⟩ := h
  refine ⟨_, (pss_cons (ps_if (PW.pt (pw_or (pt_cmpR op_ne (pe_callB call_len_seq (by rfl) T.n_len (by decide +kernel) (pa_cons (pv 2) pa_nil)) (pe_callB call_len_seq (by rfl) T.n_len (by decide +kernel) (pa_cons (pe_ix ix_tup (pv 0) pe_int (fun _ _ => rfl)) pa_nil)) (nomark _)) (pw_or (pt_cmpR op_ne (pe_callB call_len_seq (by rfl) T.n_len (by decide +kernel) (pa_cons (pv 3) pa_nil)) (pe_callB call_len_seq (by rfl) T.n_len (by decide +kernel) (pa_cons (pe_ix ix_tup (pv 0) pe_int (fun _ _ => rfl)) pa_nil)) (nomark _)) (pw_or1 (pt_not (pt_val (pe_callB (cr_all rfl) (by rfl) T.n_all (by decide +kernel) (pa_cons (pe_lc (own := [("level", 7)]) (g := (gName 7)) (tt := tYes) rfl sc_judge_level_bars.nd (pi_tup (pv 2)) (blkOk_by (N := ["net", "k", "levels", "bars", "rows", "at", "part", "level"]) (sc := defScope s_judge_level_bars) (by decide +kernel)) (fun _ _ _ _ _ => (pg_name (i := 7) sc_judge_level_bars.nd rfl (Or.inl rfl))) (fun _ _ _ _ _ => pts_nil) (fun _ _ _ _ _ => (pe_cmpR op_ge (pv 7) pe_int (nomark _)))) pa_nil)))))))) (pss_one (ps_ret pe_bl)) pss_nil)
      (pss_cons (ps_set (i := 4) sc_judge_level_bars.nd rfl (Or.inr rfl) (pe_op op_cat (pe_op op_rep (pe_lst (pa_cons pe_int pa_nil)) (pe_dn D_first_and (hr.mono (by omega)) (by rfl) (pa_cons (pv 0) pa_nil))) (pe_callTy call_list_of (by rfl) T.n_list (by decide +kernel) (pa_cons (pv 2) pa_nil))))
      (pss_one (ps_ret (pe_callB (cr_all rfl) (by rfl) T.n_all (by decide +kernel) (pa_cons (pe_lc (own := [("at", 5), ("part", 6)]) (g := (gTup K 2 (gCons (gName 5) (gCons (gName 6) gNil)))) (tt := tYes) rfl sc_judge_level_bars.nd (pi_enumX (by rfl) T.n_enumerate (pa_cons (pv 3) pa_nil)) (blkOk_by (N := ["net", "k", "levels", "bars", "rows", "at", "part", "level"]) (sc := defScope s_judge_level_bars) (by decide +kernel)) (fun _ _ _ _ _ => (pg_tup rfl (pgs_cons (pg_name (i := 5) sc_judge_level_bars.nd rfl (Or.inl rfl)) (pgs_cons (pg_name (i := 6) sc_judge_level_bars.nd rfl (Or.inl rfl)) pgs_nil)))) (fun _ _ _ _ _ => pts_nil) (fun _ _ _ _ _ => (pe_dn D_is_part (hr.mono (by omega)) (by rfl) (pa_cons (pv 0) (pa_cons (pv 1) (pa_cons (pv 4) (pa_cons (pe_op op_add (pe_dn D_first_and (hr.mono (by omega)) (by rfl) (pa_cons (pv 0) pa_nil)) (pv 5)) (pa_cons (pv 6) pa_nil)))))))) pa_nil)))))), ?_⟩
  have bad : ∀ H' : Hp, Same H H' → ¬ BarsOk N k lv parts → Q (.bl false) H' := fun H' s n => q false H' s ⟨fun h => (by cases h), fun h => absurd h n⟩
  obtain ⟨lq, rfl, el⟩ := llw.path
  obtain ⟨xq, vx, rfl, ex, lxx⟩ := id lxv.tup_inv
  have lvx : vx.length = parts.length := by simpa using lxx.len
  obtain ⟨p, pi, pr, pa, po, pcl, vr, va, vo, vc, rfl, hN⟩ := lN.net
  have hl := hN.lens
  have hf4 : N.first ≤ 400 := by unfold Net.size at h400; omega
  refine ⟨_, rfl, lq, _, rfl, .inr (SqT.of el), _, rfl, p, _, _, _, rfl, rfl, SqT.of hN.top, atI_nat (j := 3) rfl, pa, _, rfl, .inr (SqT.of hN.ha), rfl, _, rfl, ?_⟩
  rw [List.length_map, hl.2.1]
  by_cases h1 : lv.length = N.ands.length
  rotate_left
  · exact ifY (by rw [decide_eq_false fun e => h1 (by have := V.int.inj e; omega)]; rfl) (iteT (bad _ (.refl _) fun h => h1 h.l1))
  refine ifN (by rw [decide_eq_true (congrArg (fun n : Nat => V.int (n : Int)) h1)]; rfl) ?_
  refine ⟨_, rfl, xq, _, rfl, .inr (SqT.of ex), _, rfl, p, _, _, _, rfl, rfl, SqT.of hN.top, atI_nat (j := 3) rfl, pa, _, rfl, .inr (SqT.of hN.ha), rfl, _, rfl, ?_⟩
  rw [lvx, hl.2.1]
  by_cases h2 : parts.length = N.ands.length
  rotate_left
  · exact ifY (by rw [decide_eq_false fun e => h2 (by have := V.int.inj e; omega)]; rfl) (iteT (bad _ (.refl _) fun h => h2 h.l2))
  refine ifN (by rw [decide_eq_true (congrArg (fun n : Nat => V.int (n : Int)) h2)]; rfl) ?_
  refine ⟨_, rfl, lq, rfl, ⟨_, SqT.of el⟩, fun D hD => ?_⟩
  refine lc_rowsB (walk_tup (xs := lv.map V.int)) (rows := lv) (f := zD) (p := fun l => decide (1 ≤ l)) (fun H' s => SqT.of (s _ _ el)) hD (zs_lay _) (by omega) (fun y l H' R' Z hl s ly kk => ?_) (fun H1 s1 eB => ?_)
  · obtain rfl := ly.int_inv
    exact ⟨rfl, _, rfl, _, _, rfl, rfl, kk _ (.refl _)⟩
  refine ⟨D, _, rfl, SqL.of eB, _, rfl, ?_⟩
  by_cases hall : ((lv.map fun l => decide (1 ≤ l)).all id) = true
  rotate_left
  · rw [Bool.eq_false_iff.mpr hall]
    exact iteT (bad _ s1 fun h => hall ((all_map_dec (p := fun l : Int => 1 ≤ l) _).mpr h.pos))
  rw [hall]
  have pos := (all_map_dec (p := fun l : Int => 1 ≤ l) lv).mp hall
  refine iteF ?_
  -- the rows
  refine ⟨by show 1 ≤ sizeLine; decide, fun z0 hz0 => ?_⟩
  have sz := s1.trans (same_new hz0 (.lst [V.int 0]))
  refine ⟨_, rfl, .ref p, N, rfl, hN.lay.keep' (.same sz), z0, _, [V.int 0], rfl, rfl, upd_same, by omega, by omega, ?_, fun A hA => ?_⟩
  · show 1 * ((N.first : Int)).toNat ≤ _
    exact le1000 (by omega)
  have eA := upd_same (H := upd H1 z0 (.lst [V.int 0])) (a := A) (o := .lst (List.replicate ((N.first : Int)).toNat [V.int 0]).flatten)
  have sA := sz.trans (same_new hA (.lst (List.replicate ((N.first : Int)).toNat [V.int 0]).flatten))
  rw [show ((N.first : Int)).toNat = N.first from rfl, rep_zeroZ] at eA sA ⊢
  generalize upd (upd H1 z0 (.lst [V.int 0])) A (.lst ((List.replicate N.first (0 : Int)).map V.int)) = H2 at eA sA ⊢
  refine ⟨_, rfl, lq, _, rfl, .inr (SqT.of (sA _ _ el)), fun B hB => ?_⟩
  have sB := same_new hB (.lst (lv.map V.int))
  refine ⟨A, B, _, _, rfl, rfl, sB _ _ eA, upd_same, by rw [List.length_map, List.length_map, List.length_replicate]; exact le1000 (by omega), fun Rw hRw => ?_⟩
  rw [← List.map_append]
  have sR := (sA.trans sB).trans (same_new hRw (.lst ((List.replicate N.first (0 : Int) ++ lv).map V.int)))
  have eR := upd_same (H := upd H2 B (.lst (lv.map V.int))) (a := Rw) (o := .lst ((List.replicate N.first (0 : Int) ++ lv).map V.int))
  generalize upd (upd H2 B (.lst (lv.map V.int))) Rw (.lst ((List.replicate N.first (0 : Int) ++ lv).map V.int)) = H3 at sR eR ⊢
  have lrows : (List.replicate N.first (0 : Int) ++ lv).length = N.size := by rw [List.length_append, List.length_replicate, h1]; rfl
  obtain ⟨bs, hbs⟩ : ∃ bs : List Bool, bs = (List.range parts.length).map fun i => decide (PartOk N k (List.replicate N.first 0 ++ lv) (N.first + i) (parts.getD i [])) := ⟨_, rfl⟩
  have lbs : bs.length = parts.length := by rw [hbs]; simp
  refine ⟨_, rfl, srcT, xq, vx, rfl, SqT.of (sR _ _ ex), fun Dm hDm => ?_⟩
  refine lc_it (walk_enumG srcT (xs := vx)) (fun i H' => Same H3 H' ∧ H' Dm = some (.lst ((bs.take i).map V.bl))) ⟨same_new hDm _, upd_same⟩ (fun i H' _ pp => seqT_same pp.1 (SqT.of (sR _ _ ex))) (fun i x H4 H5 hi pp y => ?_) (fun H4 pp => ?_)
  · obtain ⟨sm, eD⟩ := pp
    obtain ⟨T1, x0, y0, rfl, hT, rfl, e1, e2⟩ := y
    cases e1
    have e2 : vx[i]? = some y0 := e2
    have sT := same_new hT (.tup [V.int (i : Int), y0])
    obtain ⟨dd, hd1, hd2⟩ := (lxx.keep' (.same ((sR.trans sm).trans sT))).get i e2
    obtain ⟨part, hpt, rfl⟩ := mapAtD hd1
    obtain ⟨hq20, hq50⟩ := hpp part (List.mem_of_getElem? hpt)
    have hi2 : i < parts.length := (List.getElem?_eq_some_iff.mp hpt).1
    have s3 := (sR.trans sm).trans sT
    refine ⟨T1, _, rfl, SqT.of upd_same, rfl, _, _, rfl, _, _, rfl, rfl, rfl, _, rfl, _, rfl, _, rfl, _, rfl, .ref p, N, rfl, hN.lay.keep' (.same s3), _, rfl, _, _, rfl, rfl, _, rfl, .ref p, N, k, Rw, List.replicate N.first 0 ++ lv, N.first + i, y0, part, ?_, hN.lay.keep' (.same s3), RN, h400, (sm.trans sT) _ _ eR, lrows, by unfold Net.size; omega, hd2, hq20, hq50, fun b H6 s6 hb => ?_⟩
    · dsimp only
      rw [show V.int ((N.first : Int) + (i : Int)) = vI (N.first + i) from congrArg V.int (by omega)]
    have hbi : bs[i]? = some b := by
      rw [hbs, List.getElem?_map, List.getElem?_range hi2]
      show some (decide (PartOk N k (List.replicate N.first 0 ++ lv) (N.first + i) (parts.getD i []))) = some b
      rw [List.getD_eq_getElem?_getD, hpt]
      exact congrArg some (decB hb).symm
    refine ⟨_, s6 _ _ (sT _ _ eD), ?_, same_two ((sm.trans sT).trans s6) hDm, ?_⟩
    · rw [List.length_map, List.length_take]
      exact len1000 (by omega)
    · rw [upd_same, take_snoc hbi, List.map_append]
      rfl
  · obtain ⟨sm, eD⟩ := pp
    rw [lvx, ← lbs, List.take_length] at eD
    refine ⟨Dm, bs, rfl, SqL.of eD, q _ _ (sR.trans sm) ?_⟩
    rw [hbs, all_map_dec]
    constructor
    · intro h
      refine ⟨h1, h2, pos, fun i part hp => ?_⟩
      have hi := (List.getElem?_eq_some_iff.mp hp).1
      have := h i (List.mem_range.mpr hi)
      rw [List.getD_eq_getElem?_getD, hp] at this
      exact this
    · intro h i hi
      have hi := List.mem_range.mp hi
      have e : parts[i]? = some parts[i] := List.getElem?_eq_getElem hi
      rw [List.getD_eq_getElem?_getD, e]
      exact h.part i _ e
end

end Bf

set_option Elab.async false
set_option linter.all false
set_option maxRecDepth 100000
set_option maxHeartbeats 4000000
namespace Bf
open PySem PySem.Spec PyProof.Rows L2
theorem cutV_init (xs : List V) : cutV xs none (some (-1)) = xs.dropLast := by
  unfold cutV
  rw [show (some (-1) : Option Int) = some (-((1 : Nat) : Int)) from rfl, sIx_neg (by decide), HT.sIx_none, List.drop_zero, Nat.sub_zero, List.dropLast_eq_take]
section
variable {P : Program} {w : World} {K : PySem.W.Frag} {mg : Str → Option Value} {base : Heap} {f : Addr} {fd : FuncData}
def spSays : Sp := fun vs H Q _ => ∃ a b : Bool, vs = [.bl a, .bl b] ∧ (a = b → Q (.bl true) H) ∧ a = b
theorem ok_says (F : Fun K "_law_says" "_law_says" s_law_says f fd) (T : Txt mg) : FnOk P w K mg base CX0 1 f fd ["_law_told", "_law_due"] spSays := by
  refine F.ok sc_law_says (fun vs H Q E h => ?_) (fun cdv A outer s H vs Q E hr h => ?_)
  · obtain ⟨a, b, rfl, _⟩ := h
    rfl
  obtain ⟨a, b, rfl, q, rfl⟩ := h
  refine ⟨_, (pss_one (ps_ret (pe_and (pe_callB (call_isi : CallR _ _ (rIsi K)) (by rfl) T.n_isinstance (by decide +kernel) (pa_cons (pv 0) (pa_cons (pe_bltn rfl T.n_bool (by decide +kernel) (v := .ty "bool") rfl) pa_nil))) (pe_one (pe_cmpR op_eq (pv 0) (pv 1) (nomark _)))))), ?_⟩
  refine ⟨_, rfl, _, _, .type "bool", .type "bool", true, rfl, .ty "bool", .base (.bl a), kit_ty (by decide +kernel), true, rfl, iteT ⟨_, rfl, _, rfl, rfl, ?_⟩⟩
  rw [decide_eq_true rfl]
  exact q rfl

def spPathL : Sp := fun vs H Q _ => ∃ (v : V) (N : Net) (node : Nat) (r : Addr) (p : List Int), vs = [v, .ref r, vI node] ∧ Lay H v (netD N) ∧ N.Right ∧ N.size ≤ 400 ∧ N.first ≤ node ∧ node < N.size ∧ H r = some (.tup (p.map V.int)) ∧ p.length ≤ 500 ∧
  ∀ (b : Bool) (H' : Hp), Same H H' → (b = true ↔ GoodPath N node p) → Q (.bl b) H'
theorem ok_pathL (F : Fun K "_law_is_path" "_law_is_path" s_law_is_path f fd) (T : Txt mg) (D_law_first : Dn P w K mg base "_law_first" ["_law_net_here"] 1 spFirst) :
    FnOk P w K mg base CX0 2 f fd ["_law_net_here", "_law_path", "_law_node"] spPathL := by
  refine F.ok sc_law_is_path (fun vs H Q E h => ?_) (fun cdv A outer s H vs Q E hr h => ?_)
  · obtain ⟨v, N, node, r, p, rfl, _⟩ := h
    rfl
  obtain ⟨v, N, node, r, p, rfl, lv, RN, h400, hf, hn, er, hpl, q⟩ := h
  refine ⟨_, (pss_cons (ps_set (i := 3) sc_law_is_path.nd rfl (Or.inl rfl) (pe_dn D_law_first (hr.mono (by omega)) (by rfl) (pa_cons (pv 0) pa_nil)))
      (pss_cons (ps_if (PW.pt (pw_or (pt_cmpR op_lt (pe_callB call_len_seq (by rfl) T.n_len (by decide +kernel) (pa_cons (pv 1) pa_nil)) pe_int (nomark _)) (pw_or (pt_not (pt_chain op_lt op_lt pe_int (pe_ix ix_tup (pv 1) pe_int (fun _ _ => rfl)) (pv 3))) (pw_or1 (pt_cmpR op_ne (pe_ix ix_tup (pv 1) (pe_un un_neg pe_int) (fun _ _ => rfl)) (pv 2) (nomark _)))))) (pss_one (ps_ret pe_bl)) pss_nil)
      (pss_cons (ps_for PassesOwn.never rfl (pi_zipX (by rfl) T.n_zip (pa_cons (pe_slice sl_tupA (pv 1) po_none (po_some (pe_un un_neg pe_int))) (pa_cons (pe_slice sl_tupA (pv 1) (po_some pe_int) po_none) pa_nil))) (pg_tup rfl (pgs_cons (pg_name (i := 4) sc_law_is_path.nd rfl (Or.inl rfl)) (pgs_cons (pg_name (i := 5) sc_law_is_path.nd rfl (Or.inl rfl)) pgs_nil))) (pss_cons (ps_if (pt_not (pt_chain op_le op_lt (pv 3) (pv 5) (pe_op op_add (pv 3) (pe_callB call_len_seq (by rfl) T.n_len (by decide +kernel) (pa_cons (pe_ix ix_tup (pv 0) pe_int (fun _ _ => rfl)) pa_nil))))) (pss_one (ps_ret pe_bl)) pss_nil)
      (pss_one (ps_if (pt_cmpR op_notIn_seq (pv 4) (pe_lc (own := [("_law_literal", 6)]) (g := (gName 6)) (tt := tYes) rfl sc_law_is_path.nd (pi_tup (pe_ix ix_tup (pe_ix ix_tup (pv 0) pe_int (fun _ _ => rfl)) (pe_op op_sub (pv 5) (pv 3)) (fun _ _ => rfl))) (blkOk_by (N := ["_law_net_here", "_law_path", "_law_node", "_law_first_here", "_law_one", "_law_other", "_law_literal"]) (sc := defScope s_law_is_path) (by decide +kernel)) (fun _ _ _ _ _ => (pg_name (i := 6) sc_law_is_path.nd rfl (Or.inl rfl))) (fun _ _ _ _ _ => pts_nil) (fun _ _ _ _ _ => (pe_op op_halfN (pv 6) pe_int))) (by rfl)) (pss_one (ps_ret pe_bl)) pss_nil))))
      (pss_one (ps_ret pe_bl))))), ?_⟩
  have bad : ∀ H' : Hp, Same H H' → ¬ GoodPath N node p → Q (.bl false) H' := fun H' s n => q false H' s ⟨fun h => (by cases h), fun h => absurd h n⟩
  refine ⟨_, rfl, v, N, rfl, lv, ?_⟩
  obtain ⟨pp0, pi, pr, pa, po, pc, vr, va, vo, vc, rfl, hN⟩ := lv.net
  have hl := hN.lens
  refine ⟨_, rfl, r, _, rfl, .inr (SqT.of er), _, _, rfl, rfl, _, rfl, ?_⟩
  rw [List.length_map]
  by_cases h0 : (p.length : Int) < 2
  · rw [decide_eq_true h0]
    refine iteT (iteT (bad _ (.refl _) fun h => ?_))
    obtain ⟨a, ha, h1, h2⟩ := h.head
    have := h.last
    have hp1 := (List.getElem?_eq_some_iff.mp ha).1
    rw [show p.length - 1 = 0 by omega, ha] at this
    cases this
    omega
  rw [decide_eq_false h0]
  refine iteF ?_
  obtain ⟨a, ha0⟩ : ∃ a, p[0]? = some a := ⟨_, List.getElem?_eq_getElem (by omega)⟩
  obtain ⟨z, hz⟩ : ∃ z, p[p.length - 1]? = some z := ⟨_, List.getElem?_eq_getElem (by omega)⟩
  have ham : (p.map V.int)[0]? = some (V.int a) := by rw [List.getElem?_map, ha0]; rfl
  have hzm : (p.map V.int)[(p.map V.int).length - 1]? = some (V.int z) := by rw [List.length_map, List.getElem?_map, hz]; rfl
  refine ⟨_, rfl, r, _, _, V.int a, rfl, rfl, SqT.of er, atI_nat (j := 0) ham, _, _, rfl, rfl, _, rfl, ite2 (fun h2 => ?_) (fun h2 => ?_)⟩
  rotate_left
  · have h2 : ¬ 0 < a := fun h => h2 (decide_eq_true h)
    refine ⟨_, rfl, iteT (iteT (bad _ (.refl _) fun h => ?_))⟩
    obtain ⟨a', e, h3, _⟩ := h.head
    rw [ha0] at e
    cases e
    exact h2 h3
  have h2 : 0 < a := of_decide_eq_true h2
  refine ⟨_, rfl, _, _, rfl, rfl, _, rfl, ?_⟩
  by_cases h3 : a < (N.first : Int)
  rotate_left
  · rw [decide_eq_false h3]
    refine iteT (iteT (bad _ (.refl _) fun h => ?_))
    obtain ⟨a', e, _, h4⟩ := h.head
    rw [ha0] at e
    cases e
    exact h3 h4
  rw [decide_eq_true h3]
  refine iteF ⟨_, rfl, _, rfl, r, _, _, _, rfl, rfl, SqT.of er, atI_last hzm, _, rfl, rfl, _, rfl, ?_⟩
  by_cases h1 : z = (node : Int)
  rotate_left
  · refine ifY ?_ (bad _ (.refl _) fun h => h1 ?_)
    · rw [show decide (V.int z = vI node) = false from decide_eq_false fun e => h1 (V.int.inj e)]; rfl
    · have := h.last
      rw [hz] at this
      exact Option.some.inj this
  subst h1
  refine ifN (by rw [show decide (V.int (node : Int) = vI node) = true from decide_eq_true rfl]; rfl) ?_
  refine ⟨_, rfl, _, rfl, _, rfl, ?_⟩
  refine rdSl (SqT.of er) fun t0 H0 s0 et0 => ?_
  rw [cutV_init] at et0
  have er0 := s0 _ _ er
  refine ⟨_, rfl, 1, rfl, ?_⟩
  delta tNoPart
  refine rdSl (SqT.of er0) fun t H1 s01 et => ?_
  rw [show cutV (p.map V.int) (some 1) none = p.tail.map V.int by
    have := cutV_from (p.map V.int) 1
    rw [show (some 1 : Option Int) = some ((1 : Nat) : Int) from rfl, this, ← List.map_drop, List.drop_one]] at et
  rw [show (p.map V.int).dropLast = p.dropLast.map V.int from (List.map_dropLast ..).symm] at et0
  have s1 := s0.trans s01
  have et1 := seqT_same s01 et0
  have tl : (p.tail.map V.int).length ≤ (p.dropLast.map V.int).length := by rw [List.length_map, List.length_map, List.length_tail, List.length_dropLast]; omega
  refine ⟨srcT, srcT, t0, t, _, _, rfl, et1, et, for_it (walk_zipMin srcT srcT tl) (fun i σ' H' => ∃ (v4 v5 : Option V), σ' = [some (.ref pp0), some (.ref r), some (vI node), some (vI N.first), v4, v5, none] ∧ Same H1 H' ∧ ∀ (j : Nat) (x y : Int), j < i → p[j]? = some x → p[j + 1]? = some y → StepZ N x y)
    ⟨_, _, rfl, .refl _, fun j x y hj => absurd hj (Nat.not_lt_zero _)⟩ (fun i σ' H' _ pp => ?_) (fun i x σ' H2 H3 hi pp y => ?_) (fun σ' H2 pp => ?_)⟩
  · obtain ⟨_, _, _, sm, _⟩ := pp
    exact ⟨seqT_same sm et1, seqT_same sm et⟩
  · obtain ⟨v4, v5, rfl, sm, hst⟩ := pp
    obtain ⟨T1, x0, y0, rfl, hT, rfl, e1, e2⟩ := y
    have e1 : (p.dropLast.map V.int)[i]? = some x0 := e1
    have e2 : (p.tail.map V.int)[i]? = some y0 := e2
    obtain ⟨x, hx, rfl⟩ := mapAt e1
    obtain ⟨y, hy, rfl⟩ := mapAt e2
    rw [List.getElem?_tail] at hy
    have hyl := (List.getElem?_eq_some_iff.mp hy).1
    rw [List.getElem?_dropLast, if_pos (by omega)] at hx
    have sT := same_new hT (.tup [V.int x, V.int y])
    refine ⟨T1, _, rfl, SqT.of upd_same, rfl, _, _, rfl, _, _, rfl, rfl, ?_⟩
    have smT := sm.trans sT
    have s0T := s1.trans smT
    have hNT := hN.keep (.same s0T)
    refine ⟨_, rfl, _, rfl, _, _, rfl, rfl, _, rfl, ite2 (fun z1 => ?_) (fun z1 => ?_)⟩
    rotate_left
    · have z1 : ¬ (N.first : Int) ≤ y := fun h => z1 (decide_eq_true h)
      exact ⟨_, rfl, iteT (bad _ s0T fun h => z1 ((h.st i x y hx hy).lt RN).2.1)⟩
    have z1 : (N.first : Int) ≤ y := of_decide_eq_true z1
    refine ⟨_, rfl, _, rfl, pp0, _, _, _, rfl, rfl, SqT.of hNT.top, atI_nat (j := 3) rfl, pa, _, rfl, .inr (SqT.of hNT.ha), _, _, rfl, rfl, _, _, rfl, rfl, _, rfl, ?_⟩
    have em : ((N.first : Int) + (va.length : Int)) = (N.size : Int) := by rw [hl.2.1]; unfold Net.size; omega
    rw [em]
    by_cases z2 : y < (N.size : Int)
    rotate_left
    · rw [decide_eq_false z2]
      exact iteT (bad _ s0T fun h => z2 ((h.st i x y hx hy).lt RN).2.2)
    rw [decide_eq_true z2]
    refine iteF ?_
    have hg : y.toNat - N.first < N.ands.length := by unfold Net.size at z2; omega
    have e : N.ands[y.toNat - N.first]? = some N.ands[y.toNat - N.first] := List.getElem?_eq_getElem hg
    obtain ⟨yy, hyy, ly⟩ := hNT.la.at_ (d := pairD N.ands[y.toNat - N.first]) (y.toNat - N.first) (by rw [List.getElem?_map, e]; rfl)
    obtain ⟨q0, rfl, eq0⟩ := ly.pair
    have ha0' : atI va (y - (N.first : Int)) = some (.ref q0) := by
      rw [show y - (N.first : Int) = ((y.toNat - N.first : Nat) : Int) by omega]
      exact atI_nat hyy
    have eo := ops_and (N := N) (x := y.toNat) (by omega) e
    generalize N.ands[y.toNat - N.first] = pq at eq0 eo
    refine ⟨_, rfl, _, rfl, pp0, _, _, _, rfl, rfl, SqT.of hNT.top, atI_nat (j := 3) rfl, _, rfl, _, rfl, _, _, rfl, rfl, pa, va, _, _, rfl, rfl, SqT.of hNT.ha, ha0', q0, rfl, ⟨_, SqT.of eq0⟩, fun D hD => ?_⟩
    refine lc_rows (walk_tup (xs := [vI pq.1, vI pq.2])) (rows := [pq.1, pq.2]) (f := intD) (g := fun x => x / 2) (h := intD) (fun H' sm => SqT.of (sm _ _ eq0)) hD (.cons (.int _) (.cons (.int _) .nil)) (by show 2 ≤ 1000; decide) (fun i x r H' R' Z hr sm lx kk => ?_) (fun us H4 s4 eD lus => ?_)
    · obtain rfl := lx.int_inv
      exact ⟨rfl, _, rfl, r, rfl, rfl, kk _ _ (.refl _) (.int _)⟩
    rw [lay_intD lus, show ([pq.1, pq.2].map fun x => x / 2) = N.ops y.toNat from eo.symm, ← castL_V] at eD
    refine rdNotInZ (SqL.of eD) ⟨_, rfl, ?_⟩
    by_cases z3 : x ∈ castL (N.ops y.toNat)
    rotate_left
    · rw [decide_eq_false z3]
      refine iteT (bad _ (s0T.trans s4) fun h => z3 ?_)
      have st := h.st i x y hx hy
      have := st.1
      rw [show x = ((x.toNat : Nat) : Int) by omega]
      exact mem_castL.mpr st.2.2
    rw [decide_eq_true z3]
    refine iteF ⟨_, _, rfl, smT.trans s4, fun j x' y' hj hx' hy' => ?_⟩
    by_cases e : j = i
    · subst e
      rw [hx] at hx'
      rw [hy] at hy'
      cases hx'
      cases hy'
      have x0 : 0 ≤ x := by
        unfold castL at z3
        obtain ⟨n, _, e⟩ := List.mem_map.mp z3
        have e : (n : Int) = x := e
        omega
      rw [show x = ((x.toNat : Nat) : Int) by omega] at z3
      exact ⟨x0, by omega, mem_castL.mp z3⟩
    · exact hst j x' y' (by omega) hx' hy'
  · obtain ⟨v4, v5, rfl, sm, hst⟩ := pp
    refine q _ _ (s1.trans sm) ⟨fun _ => ⟨⟨a, ha0, h2, h3⟩, hz, fun i x y hx hy => hst i x y ?_ hx hy⟩, fun _ => rfl⟩
    have := (List.getElem?_eq_some_iff.mp hy).1
    rw [List.length_map, List.length_tail]
    omega
def spFits : Sp := fun vs H Q _ => ∃ (v : V) (N : Net) (k : Nat) (rl : Addr) (rows : List Int) (node : Nat) (xv : V) (part : List (List Int)), vs = [v, vI k, .ref rl, vI node, xv] ∧ Lay H v (netD N) ∧ N.Right ∧ N.size ≤ 400 ∧ H rl = some (.lst (rows.map V.int)) ∧ rows.length = N.size ∧ N.first ≤ node ∧ node < N.size ∧ Lay H xv (partD part) ∧ part.length ≤ 20 ∧ (∀ p ∈ part, p.length ≤ 50) ∧
  ∀ (b : Bool) (H' : Hp), Same H H' → (b = true ↔ PartOk N k rows node part) → Q (.bl b) H'
theorem ok_fits (F : Fun K "_law_part_fits" "_law_part_fits" s_law_part_fits f fd) (T : Txt mg) (D_law_is_path : Dn P w K mg base "_law_is_path" ["_law_net_here", "_law_path", "_law_node"] 2 spPathL) :
    FnOk P w K mg base CX0 3 f fd ["_law_net_here", "_law_k", "_law_told", "_law_node", "_law_paths"] spFits := by
  classical
  refine F.ok sc_law_part_fits (fun vs H Q E h => ?_) (fun cdv A outer s H vs Q E hr h => ?_)
  · obtain ⟨v, N, k, rl, rows, node, xv, part, rfl, _⟩ := h
    rfl
  obtain ⟨v, N, k, rl, rows, node, xv, part, rfl, lv, RN, h400, erl, hrl, hf, hn, lp, hp20, hp50, q⟩ := h
  refine ⟨_, (pss_cons (ps_if (pt_cmpR op_eq (pe_ix ix_list (pv 2) (pv 3) (fun _ _ => rfl)) pe_int (nomark _)) (pss_one (ps_ret (pe_cmpR op_eq (pe_callB call_len_seq (by rfl) T.n_len (by decide +kernel) (pa_cons (pv 4) pa_nil)) pe_int (nomark _)))) pss_nil)
      (pss_cons (ps_if (PW.pt (pw_or (pt_cmpR op_ne (pe_callB call_len_seq (by rfl) T.n_len (by decide +kernel) (pa_cons (pv 4) pa_nil)) (pe_op op_add (pv 1) pe_int) (nomark _)) (pw_or1 (pt_not (pt_val (pe_callB (cr_all rfl) (by rfl) T.n_all (by decide +kernel) (pa_cons (pe_lc (own := [("_law_path", 5)]) (g := (gName 5)) (tt := tYes) rfl sc_law_part_fits.nd (pi_tup (pv 4)) (blkOk_by (N := ["_law_net_here", "_law_k", "_law_told", "_law_node", "_law_paths", "_law_path", "_law_low", "_law_at"]) (sc := defScope s_law_part_fits) (by decide +kernel)) (fun _ _ _ _ _ => (pg_name (i := 5) sc_law_part_fits.nd rfl (Or.inl rfl))) (fun _ _ _ _ _ => pts_nil) (fun _ _ _ _ _ => (pe_dn D_law_is_path (hr.mono (by omega)) (by rfl) (pa_cons (pv 0) (pa_cons (pv 5) (pa_cons (pv 3) pa_nil)))))) pa_nil))))))) (pss_one (ps_ret pe_bl)) pss_nil)
      (pss_cons (ps_set (i := 6) sc_law_part_fits.nd rfl (Or.inl rfl) (pe_lst pa_nil))
      (pss_cons (ps_for PassesOwn.never rfl (pi_tup (pv 4)) (pg_name (i := 5) sc_law_part_fits.nd rfl (Or.inl rfl)) (pss_one (ps_set (i := 6) sc_law_part_fits.nd rfl (Or.inl rfl) (pe_op op_cat (pv 6) (pe_lc (own := [("_law_at", 7)]) (g := (gName 7)) rfl sc_law_part_fits.nd (pi_tup (pv 5)) (blkOk_by (N := ["_law_net_here", "_law_k", "_law_told", "_law_node", "_law_paths", "_law_path", "_law_low", "_law_at"]) (sc := defScope s_law_part_fits) (by decide +kernel)) (fun _ _ _ _ _ => (pg_name (i := 7) sc_law_part_fits.nd rfl (Or.inl rfl))) (fun _ _ _ _ _ => (pts_one (pt_cmpR op_le (pe_ix (ix_list : IxR _ (rIxL K)) (pv 2) (pv 7) (fun _ _ => rfl)) (pe_op op_sub (pe_ix (ix_list : IxR _ (rIxL K)) (pv 2) (pv 3) (fun _ _ => rfl)) pe_int) (nomark _)))) (fun _ _ _ _ _ => (pv 7)))))))
      (pss_one (ps_ret (pe_cmpR op_eq (pe_callB (cr_lenSetO rfl) (by rfl) T.n_len (by decide +kernel) (pa_cons (pe_callTy (cr_setI rfl) (by rfl) T.n_set (by decide +kernel) (pa_cons (pv 6) pa_nil)) pa_nil)) (pe_callB call_len_seq (by rfl) T.n_len (by decide +kernel) (pa_cons (pv 6) pa_nil)) (nomark _)))))))), ?_⟩
  obtain ⟨pq, vp, rfl, ep, lpp⟩ := id lp.part
  have lvp : vp.length = part.length := by simpa using lpp.len
  have hat := rowAt_at (rows := rows) (x := (node : Int)) (by omega) (by omega)
  refine ⟨_, rfl, _, rfl, rl, _, _, _, rfl, rfl, SqL.of erl, hat, rfl, _, rfl, ite2 (fun z => ?_) (fun z => ?_)⟩
  · have z : rowAt rows node = 1 := V.int.inj (of_decide_eq_true z)
    refine ⟨_, rfl, pq, _, rfl, .inr (SqT.of ep), rfl, q _ _ (.refl _) ?_⟩
    unfold PartOk
    rw [if_pos z, decide_eq_true_iff, lvp]
    constructor
    · intro h
      have := V.int.inj h
      exact List.eq_nil_of_length_eq_zero (by omega)
    · rintro rfl
      rfl
  have z : ¬ rowAt rows node = 1 := fun h => z (decide_eq_true (congrArg V.int h))
  have hPO : PartOk N k rows node part ↔ part.length = k + 1 ∧ (∀ p ∈ part, GoodPath N node p) ∧ (lowL rows (rowAt rows node - 2) part.flatten).Nodup := by
    unfold PartOk
    rw [if_neg z]
  refine ⟨_, rfl, pq, _, rfl, .inr (SqT.of ep), _, rfl, _, _, rfl, rfl, rfl, _, rfl, ?_⟩
  by_cases h1 : part.length = k + 1
  rotate_left
  · refine ifY ?_ (iteT (q _ _ (.refl _) ⟨fun h => (by cases h), fun h => absurd (hPO.mp h).1 h1⟩))
    rw [lvp, show decide (V.int (part.length : Int) = (fun i j => V.int (i + j)) (k : Int) 1) = false from decide_eq_false fun e => h1 (by have := V.int.inj e; omega)]
    rfl
  refine ifN ?_ ?_
  · rw [lvp, show decide (V.int (part.length : Int) = (fun i j => V.int (i + j)) (k : Int) 1) = true from decide_eq_true (congrArg V.int (by omega))]
    rfl
  refine ⟨_, rfl, pq, rfl, ⟨_, SqT.of ep⟩, fun D hD => ?_⟩
  refine lc_rowsB (walk_tup (xs := vp)) (rows := part) (f := pathD) (p := fun p => decide (GoodPath N node p)) (fun H' s => SqT.of (s _ _ ep)) hD lpp (by omega) (fun y p H' R' Z hp s ly kk => ?_) (fun H1 s1 eB => ?_)
  · obtain ⟨r, rfl, er⟩ := ly.path
    exact ⟨rfl, _, rfl, _, rfl, _, rfl, v, N, node, r, p, rfl, lv.keep' (.same s), RN, h400, hf, hn, er, by have := hp50 p hp; omega, fun b H2 s2 hb => useB (kk _ s2) (decB hb).symm⟩
  refine ⟨D, _, rfl, SqL.of eB, _, rfl, ?_⟩
  by_cases hall : ((part.map fun p => decide (GoodPath N node p)).all id) = true
  rotate_left
  · rw [Bool.eq_false_iff.mpr hall]
    exact iteT (q _ _ s1 ⟨fun h => (by cases h), fun h => absurd ((all_map_dec (p := fun p => GoodPath N node p) _).mpr (hPO.mp h).2.1) hall⟩)
  rw [hall]
  have good := (all_map_dec (p := fun p => GoodPath N node p) part).mp hall
  refine iteF ?_
  have hfl : part.flatten.length ≤ 1000 := by
    have := sumL_le part 50 hp50
    omega
  refine ⟨Nat.zero_le _, fun L0 hL0 => ?_⟩
  have sL := s1.trans (same_new hL0 (.lst []))
  refine ⟨_, rfl, pq, rfl, ⟨_, SqT.of (sL _ _ ep)⟩, for_it (walk_tup (xs := vp)) (fun i σ' H' => ∃ (v5 : Option V) (Lw : Addr), σ' = [some v, some (vI k), some (.ref rl), some (vI node), some (.ref pq), v5, some (.ref Lw), none] ∧ Same H H' ∧ H' Lw = some (.lst ((lowL rows (rowAt rows node - 2) (part.take i).flatten).map V.int)))
    ⟨_, L0, rfl, sL, by rw [upd_same]; rfl⟩ (fun i σ' H' _ pp => ?_) (fun i x σ' H2 H3 hi pp y => ?_) (fun σ' H2 pp => ?_)⟩
  · obtain ⟨_, _, _, sm, _⟩ := pp
    exact SqT.of (sm _ _ ep)
  · obtain ⟨v5, Lw, rfl, sm, eW⟩ := pp
    obtain ⟨rfl, hx⟩ := y
    obtain ⟨dd, hd1, hd2⟩ := (lpp.keep' (.same sm)).get i hx
    obtain ⟨p, hp, rfl⟩ := mapAtD hd1
    obtain ⟨r, rfl, er⟩ := hd2.path
    have hpm := List.mem_of_getElem? hp
    have pre : (part.take (i + 1)).flatten = (part.take i).flatten ++ p := by rw [take_snoc hp, List.flatten_append, List.flatten_singleton]
    have lpre : (part.take i).flatten.length + p.length ≤ 1000 := by
      have e : part.flatten = (part.take (i + 1)).flatten ++ (part.drop (i + 1)).flatten := by rw [← List.flatten_append, List.take_append_drop]
      have := congrArg List.length e
      rw [pre, List.length_append, List.length_append] at this
      omega
    refine ⟨_, rfl, _, rfl, r, rfl, ⟨_, SqT.of er⟩, fun D2 hD2 => ?_⟩
    refine lc_frows (walk_tup (xs := p.map V.int)) (rows := p) (f := zD) (g := fun x => x) (h := zD) (p := fun x => decide (rowAt rows x ≤ rowAt rows node - 2)) (fun H' s => SqT.of (s _ _ er)) hD2 (zs_lay _) (by omega) (fun y n H' R' Z hn' s ly ky kn => ?_) (fun us H4 s4 eD lus => ?_)
    · obtain rfl := ly.int_inv
      have hm := (good p hpm).mem RN hn'
      have erl' := s _ _ (sm _ _ erl)
      refine ⟨rfl, _, rfl, _, rfl, rl, _, _, _, rfl, rfl, SqL.of erl', rowAt_at (by omega) (by omega), _, rfl, _, rfl, rl, _, _, _, rfl, rfl, SqL.of erl', hat, _, _, rfl, rfl, _, _, rfl, rfl, _, rfl, ite2 (fun z => ?_) (fun z => ?_)⟩
      · have z : rowAt rows n ≤ rowAt rows node - 2 := of_decide_eq_true z
        exact ⟨_, rfl, ky (decide_eq_true z) _ _ (.refl _) (.int _)⟩
      · have z : ¬ rowAt rows n ≤ rowAt rows node - 2 := fun h => z (decide_eq_true h)
        exact kn (decide_eq_false z) _ (.refl _)
    rw [List.map_id'] at lus; rw [lay_zs lus] at eD
    have l1 : (lowL rows (rowAt rows node - 2) (part.take i).flatten).length ≤ (part.take i).flatten.length := List.length_filter_le _ _
    have l2 : (p.filter fun x => decide (rowAt rows x ≤ rowAt rows node - 2)).length ≤ p.length := List.length_filter_le _ _
    refine ⟨Lw, D2, _, _, rfl, rfl, s4 _ _ eW, eD, by rw [List.length_map, List.length_map]; exact le1000 (by omega), fun Z hZ => ?_⟩
    refine ⟨_, Z, rfl, (sm.trans s4).trans (same_new hZ _), ?_⟩
    rw [upd_same, pre, ← List.map_append]
    unfold lowL
    rw [List.filter_append]
  · obtain ⟨v5, Lw, rfl, sm, eW⟩ := pp
    rw [lvp, List.take_length] at eW
    have l1 : (lowL rows (rowAt rows node - 2) part.flatten).length ≤ part.flatten.length := List.length_filter_le _ _
    refine ⟨_, rfl, Lw, _, rfl, SqL.of eW, by omega, fun p0 Sb m hp0 hm hS => ⟨p0, Sb, m, rfl, upd_same, fun ks nd hk hlk => ?_⟩⟩
    have s5 := same_new hp0 (SetO w p0 Sb m)
    refine ⟨_, rfl, Lw, _, rfl, .inl (SqL.of (s5 _ _ eW)), rfl, q _ _ (sm.trans s5) ?_⟩
    rw [hPO, decide_eq_true_iff, List.length_map, ← hlk]
    have hnl := nodup_iff_len nd fun x => (hk x).trans (hS x)
    constructor
    · intro h
      have := V.int.inj h
      exact ⟨h1, good, hnl.mp (by omega)⟩
    · intro h
      exact congrArg (fun n : Nat => V.int (n : Int)) (hnl.mpr h.2.2)
def spBarsFit : Sp := fun vs H Q _ => ∃ (v lw xv : V) (N : Net) (k : Nat) (lv : List Int) (parts : List (List (List Int))), vs = [v, vI k, lw, xv] ∧ Lay H v (netD N) ∧ N.Right ∧ N.size ≤ 400 ∧ Lay H lw (pathD lv) ∧ lv.length ≤ 400 ∧ Lay H xv (partsD parts) ∧ parts.length ≤ 400 ∧ (∀ q ∈ parts, q.length ≤ 20 ∧ ∀ p ∈ q, p.length ≤ 50) ∧
  ∀ (b : Bool) (H' : Hp), Same H H' → (b = true ↔ BarsOk N k lv parts) → Q (.bl b) H'
theorem ok_barsFit (F : Fun K "_law_bars_fit" "_law_bars_fit" s_law_bars_fit f fd) (T : Txt mg) (D_law_first : Dn P w K mg base "_law_first" ["_law_net_here"] 1 spFirst) (D_law_part_fits : Dn P w K mg base "_law_part_fits" ["_law_net_here", "_law_k", "_law_told", "_law_node", "_law_paths"] 3 spFits) :
    FnOk P w K mg base CX0 4 f fd ["_law_net_here", "_law_k", "_law_told", "_law_parts"] spBarsFit := by
  refine F.ok sc_law_bars_fit (fun vs H Q E h => ?_) (fun cdv A outer s H vs Q E hr h => ?_)
  · obtain ⟨v, lw, xv, N, k, lv, parts, rfl, _⟩ := h
    rfl
  obtain ⟨v, lw, xv, N, k, lv, parts, rfl, lN, RN, h400, llw, hlv, lxv, hpl, hpp, q⟩ := h
  refine ⟨_, (pss_cons (ps_set (i := 4) sc_law_bars_fit.nd rfl (Or.inl rfl) (pe_dn D_law_first (hr.mono (by omega)) (by rfl) (pa_cons (pv 0) pa_nil)))
      (pss_cons (ps_if (PW.pt (pw_or (pt_cmpR op_ne (pe_callB call_len_seq (by rfl) T.n_len (by decide +kernel) (pa_cons (pv 2) pa_nil)) (pe_callB call_len_seq (by rfl) T.n_len (by decide +kernel) (pa_cons (pe_ix ix_tup (pv 0) pe_int (fun _ _ => rfl)) pa_nil)) (nomark _)) (pw_or (pt_cmpR op_ne (pe_callB call_len_seq (by rfl) T.n_len (by decide +kernel) (pa_cons (pv 3) pa_nil)) (pe_callB call_len_seq (by rfl) T.n_len (by decide +kernel) (pa_cons (pe_ix ix_tup (pv 0) pe_int (fun _ _ => rfl)) pa_nil)) (nomark _)) (pw_or1 (pt_not (pt_val (pe_callB (cr_all rfl) (by rfl) T.n_all (by decide +kernel) (pa_cons (pe_lc (own := [("_law_level", 7)]) (g := (gName 7)) (tt := tYes) rfl sc_law_bars_fit.nd (pi_tup (pv 2)) (blkOk_by (N := ["_law_net_here", "_law_k", "_law_told", "_law_parts", "_law_first_here", "_law_known", "_law_at", "_law_level"]) (sc := defScope s_law_bars_fit) (by decide +kernel)) (fun _ _ _ _ _ => (pg_name (i := 7) sc_law_bars_fit.nd rfl (Or.inl rfl))) (fun _ _ _ _ _ => pts_nil) (fun _ _ _ _ _ => (pe_cmpR op_ge (pv 7) pe_int (nomark _)))) pa_nil)))))))) (pss_one (ps_ret pe_bl)) pss_nil)
      (pss_cons (ps_set (i := 5) sc_law_bars_fit.nd rfl (Or.inl rfl) (pe_op op_cat (pe_op op_rep (pe_lst (pa_cons pe_int pa_nil)) (pv 4)) (pe_callTy call_list_of (by rfl) T.n_list (by decide +kernel) (pa_cons (pv 2) pa_nil))))
      (pss_cons (ps_for PassesOwn.never rfl (pi_range1 rfl T.n_range (pa_cons (pe_callB call_len_seq (by rfl) T.n_len (by decide +kernel) (pa_cons (pv 3) pa_nil)) pa_nil)) (pg_name (i := 6) sc_law_bars_fit.nd rfl (Or.inl rfl)) (pss_one (ps_if (pt_not (pt_val (pe_dn D_law_part_fits (hr.mono (by omega)) (by rfl) (pa_cons (pv 0) (pa_cons (pv 1) (pa_cons (pv 5) (pa_cons (pe_op op_add (pv 4) (pv 6)) (pa_cons (pe_ix ix_tup (pv 3) (pv 6) (fun _ _ => rfl)) pa_nil)))))))) (pss_one (ps_ret pe_bl)) pss_nil)))
      (pss_one (ps_ret pe_bl)))))), ?_⟩
  have bad : ∀ H' : Hp, Same H H' → ¬ BarsOk N k lv parts → Q (.bl false) H' := fun H' s n => q false H' s ⟨fun h => (by cases h), fun h => absurd h n⟩
  obtain ⟨lq, rfl, el⟩ := llw.path
  obtain ⟨xq, vx, rfl, ex, lxx⟩ := id lxv.tup_inv
  have lvx : vx.length = parts.length := by simpa using lxx.len
  refine ⟨_, rfl, v, N, rfl, lN, ?_⟩
  obtain ⟨p, pi, pr, pa, po, pcl, vr, va, vo, vc, rfl, hN⟩ := lN.net
  have hl := hN.lens
  have hf4 : N.first ≤ 400 := by unfold Net.size at h400; omega
  refine ⟨_, rfl, lq, _, rfl, .inr (SqT.of el), _, rfl, p, _, _, _, rfl, rfl, SqT.of hN.top, atI_nat (j := 3) rfl, pa, _, rfl, .inr (SqT.of hN.ha), rfl, _, rfl, ?_⟩
  rw [List.length_map, hl.2.1]
  by_cases h1 : lv.length = N.ands.length
  rotate_left
  · exact ifY (by rw [decide_eq_false fun e => h1 (by have := V.int.inj e; omega)]; rfl) (iteT (bad _ (.refl _) fun h => h1 h.l1))
  refine ifN (by rw [decide_eq_true (congrArg (fun n : Nat => V.int (n : Int)) h1)]; rfl) ?_
  refine ⟨_, rfl, xq, _, rfl, .inr (SqT.of ex), _, rfl, p, _, _, _, rfl, rfl, SqT.of hN.top, atI_nat (j := 3) rfl, pa, _, rfl, .inr (SqT.of hN.ha), rfl, _, rfl, ?_⟩
  rw [lvx, hl.2.1]
  by_cases h2 : parts.length = N.ands.length
  rotate_left
  · exact ifY (by rw [decide_eq_false fun e => h2 (by have := V.int.inj e; omega)]; rfl) (iteT (bad _ (.refl _) fun h => h2 h.l2))
  refine ifN (by rw [decide_eq_true (congrArg (fun n : Nat => V.int (n : Int)) h2)]; rfl) ?_
  refine ⟨_, rfl, lq, rfl, ⟨_, SqT.of el⟩, fun D hD => ?_⟩
  refine lc_rowsB (walk_tup (xs := lv.map V.int)) (rows := lv) (f := zD) (p := fun l => decide (1 ≤ l)) (fun H' s => SqT.of (s _ _ el)) hD (zs_lay _) (by omega) (fun y l H' R' Z hl s ly kk => ?_) (fun H1 s1 eB => ?_)
  · obtain rfl := ly.int_inv
    exact ⟨rfl, _, rfl, _, _, rfl, rfl, kk _ (.refl _)⟩
  refine ⟨D, _, rfl, SqL.of eB, _, rfl, ?_⟩
  by_cases hall : ((lv.map fun l => decide (1 ≤ l)).all id) = true
  rotate_left
  · rw [Bool.eq_false_iff.mpr hall]
    exact iteT (bad _ s1 fun h => hall ((all_map_dec (p := fun l : Int => 1 ≤ l) _).mpr h.pos))
  rw [hall]
  have pos := (all_map_dec (p := fun l : Int => 1 ≤ l) lv).mp hall
  refine iteF ?_
  refine ⟨by show 1 ≤ sizeLine; decide, fun z0 hz0 => ?_⟩
  have sz := s1.trans (same_new hz0 (.lst [V.int 0]))
  refine ⟨_, rfl, z0, _, [V.int 0], rfl, rfl, upd_same, by omega, by omega, ?_, fun A hA => ?_⟩
  · show 1 * ((N.first : Int)).toNat ≤ _
    exact le1000 (by omega)
  have eA := upd_same (H := upd H1 z0 (.lst [V.int 0])) (a := A) (o := .lst (List.replicate ((N.first : Int)).toNat [V.int 0]).flatten)
  have sA := sz.trans (same_new hA (.lst (List.replicate ((N.first : Int)).toNat [V.int 0]).flatten))
  rw [show ((N.first : Int)).toNat = N.first from rfl, rep_zeroZ] at eA sA ⊢
  generalize upd (upd H1 z0 (.lst [V.int 0])) A (.lst ((List.replicate N.first (0 : Int)).map V.int)) = H2 at eA sA ⊢
  refine ⟨_, rfl, lq, _, rfl, .inr (SqT.of (sA _ _ el)), fun B hB => ?_⟩
  have sB := same_new hB (.lst (lv.map V.int))
  refine ⟨A, B, _, _, rfl, rfl, sB _ _ eA, upd_same, by rw [List.length_map, List.length_map, List.length_replicate]; exact le1000 (by omega), fun Rw hRw => ?_⟩
  rw [← List.map_append]
  have sR := (sA.trans sB).trans (same_new hRw (.lst ((List.replicate N.first (0 : Int) ++ lv).map V.int)))
  have eR := upd_same (H := upd H2 B (.lst (lv.map V.int))) (a := Rw) (o := .lst ((List.replicate N.first (0 : Int) ++ lv).map V.int))
  generalize upd (upd H2 B (.lst (lv.map V.int))) Rw (.lst ((List.replicate N.first (0 : Int) ++ lv).map V.int)) = H3 at sR eR ⊢
  have lrows : (List.replicate N.first (0 : Int) ++ lv).length = N.size := by rw [List.length_append, List.length_replicate, h1]; rfl
  refine ⟨_, rfl, xq, _, rfl, .inr (SqT.of (sR _ _ ex)), _, rfl, by omega, by omega, for_it walk_range (fun i σ' H' => ∃ (v6 : Option V), σ' = [some (.ref p), some (vI k), some (.ref lq), some (.ref xq), some (vI N.first), some (.ref Rw), v6, none] ∧ Same H3 H' ∧ ∀ (j : Nat) (part : List (List Int)), j < i → parts[j]? = some part → PartOk N k (List.replicate N.first 0 ++ lv) (N.first + j) part)
    ⟨_, rfl, .refl _, fun j part hj => absurd hj (Nat.not_lt_zero _)⟩ (fun _ _ _ _ _ => trivial) (fun i x σ' H4 H5 hi pp y => ?_) (fun σ' H4 pp => ?_)⟩
  · obtain ⟨v6, rfl, sm, hok⟩ := pp
    obtain ⟨rfl, rfl⟩ := y
    have hi : i < parts.length := by omega
    have e : parts[i]? = some parts[i] := List.getElem?_eq_getElem hi
    obtain ⟨y0, hy0, ly0⟩ := (lxx.keep' (.same (sR.trans sm))).at_ (d := partD parts[i]) i (by rw [List.getElem?_map, e]; rfl)
    obtain ⟨hq20, hq50⟩ := hpp parts[i] (List.getElem_mem _)
    have s3 := sR.trans sm
    refine ⟨_, rfl, _, rfl, _, rfl, _, rfl, _, rfl, _, _, rfl, rfl, _, rfl, _, rfl, xq, _, _, y0, rfl, rfl, SqT.of (s3 _ _ ex), ?_, .ref p, N, k, Rw, List.replicate N.first 0 ++ lv, N.first + i, y0, parts[i], ?_, hN.lay.keep' (.same s3), RN, h400, sm _ _ eR, lrows, by omega, by unfold Net.size; omega, ly0, hq20, hq50, fun b H6 s6 hb => ⟨b, rfl, ?_⟩⟩
    · rw [Int.zero_add]
      exact atI_nat hy0
    · dsimp only
      rw [show V.int ((N.first : Int) + (0 + (i : Int))) = vI (N.first + i) from congrArg V.int (by omega)]
    cases b with
    | false => exact iteT (bad _ (s3.trans s6) fun h => by have := hb.mpr (h.part i _ e); cases this)
    | true =>
      refine iteF ⟨_, rfl, sm.trans s6, fun j part hj hpj => ?_⟩
      by_cases ej : j = i
      · subst ej
        rw [e] at hpj
        cases hpj
        exact hb.mp rfl
      · exact hok j part (by omega) hpj
  · obtain ⟨v6, rfl, sm, hok⟩ := pp
    refine q _ _ (sR.trans sm) ⟨fun _ => ⟨h1, h2, pos, fun i part hp => hok i part ?_ hp⟩, fun _ => rfl⟩
    have := (List.getElem?_eq_some_iff.mp hp).1
    rw [lvx]
    omega
end

end Bf

set_option Elab.async false
set_option linter.all false
set_option maxRecDepth 100000
set_option maxHeartbeats 4000000
namespace Bf
open PySem
/-! ### a way down, found by a stack -/
theorem nodup_sub_len : ∀ {xs ys : List Nat}, xs.Nodup → (∀ x ∈ xs, x ∈ ys) → xs.length ≤ ys.length
  | [], _, _, _ => Nat.zero_le _
  | x :: r, ys, h, hs => by
    obtain ⟨h1, h2⟩ := List.nodup_cons.mp h
    have hx := hs x (by simp)
    have hl := List.length_erase_of_mem hx
    have hp := List.length_pos_of_mem hx
    have := nodup_sub_len (ys := ys.erase x) h2 fun y hy => (List.mem_erase_of_ne fun e => h1 (by rw [← e]; exact hy)).mpr (hs y (by simp [hy]))
    rw [List.length_cons]
    omega
structure WayI (N : Net) (node : Nat) (B : Nat → Prop) (cm : List (Nat × Nat)) (T : List Nat) : Prop where
  nd : (cm.map Prod.fst).Nodup
  rng : ∀ x ∈ cm.map Prod.fst, 0 < x ∧ x ≤ node
  root : node ∈ cm.map Prod.fst
  par : ∀ x ∈ cm.map Prod.fst, x ≠ node → look cm x ∈ cm.map Prod.fst ∧ x ∈ N.ops (look cm x) ∧ ¬ B x
  tin : ∀ x ∈ T, x ∈ cm.map Prod.fst
  tl : T.length ≤ cm.length
theorem WayI.start {N : Net} {node : Nat} {B : Nat → Prop} (h : 0 < node) : WayI N node B [(node, 0)] [node] where
  nd := by simp
  rng := fun x hx => by
    have : x = node := by simpa using hx
    omega
  root := by simp
  par := fun x hx h => absurd (by simpa using hx) h
  tin := fun x hx => by simpa using hx
  tl := Nat.le_refl _
theorem WayI.pop {N : Net} {node : Nat} {B : Nat → Prop} {cm : List (Nat × Nat)} {T : List Nat} {x : Nat} (h : WayI N node B cm (T ++ [x])) : WayI N node B cm T :=
  { h with
    tin := fun y hy => h.tin y (by simp [hy])
    tl := by
      have := h.tl
      rw [List.length_append] at this
      omega }
theorem WayI.len {N : Net} {node : Nat} {B : Nat → Prop} {cm : List (Nat × Nat)} {T : List Nat} (h : WayI N node B cm T) : cm.length ≤ node := by
  have e : (cm.map Prod.fst).length ≤ ((List.range node).map (· + 1)).length := by
    refine nodup_sub_len h.nd fun x hx => ?_
    have := h.rng x hx
    exact List.mem_map.mpr ⟨x - 1, List.mem_range.mpr (by omega), by omega⟩
  simpa using e
theorem WayI.push {N : Net} (R : N.Right) {node : Nat} {B : Nat → Prop} {cm : List (Nat × Nat)} {T : List Nat} {s y : Nat} (h : WayI N node B cm T) (hy : y ∈ cm.map Prod.fst) (hs : s ∈ N.ops y) (h0 : 0 < s) (hn : s ∉ cm.map Prod.fst) (hB : ¬ B s) : WayI N node B (cm ++ [(s, y)]) (T ++ [s]) := by
  have hlt := ops_lt R hs
  have hyr := h.rng y hy
  have fst : (cm ++ [(s, y)]).map Prod.fst = cm.map Prod.fst ++ [s] := by rw [List.map_append]; rfl
  refine ⟨?_, fun x hx => ?_, ?_, fun x hx hne => ?_, fun x hx => ?_, ?_⟩
  · rw [fst]
    exact List.nodup_append.mpr ⟨h.nd, by simp, fun a ha b hb e => hn (by rw [← List.mem_singleton.mp hb, ← e]; exact ha)⟩
  · rw [fst] at hx
    rcases List.mem_append.mp hx with hx | hx
    · exact h.rng x hx
    · rw [List.mem_singleton.mp hx]
      omega
  · rw [fst]
    exact List.mem_append_left _ h.root
  · rw [fst] at hx ⊢
    rcases List.mem_append.mp hx with hx | hx
    · have e : look (cm ++ [(s, y)]) x = look cm x := look_app fun p hp => by
        rw [List.mem_singleton.mp hp]
        exact fun e => hn (by rw [show s = x from e]; exact hx)
      rw [e]
      have := h.par x hx hne
      exact ⟨List.mem_append_left _ this.1, this.2⟩
    · rw [List.mem_singleton.mp hx, look_last hn]
      exact ⟨List.mem_append_left _ hy, hs, hB⟩
  · rw [fst]
    rcases List.mem_append.mp hx with hx | hx
    · exact List.mem_append_left _ (h.tin x hx)
    · exact List.mem_append_right _ hx
  · have := h.tl
    rw [List.length_append, List.length_append]
    show T.length + 1 ≤ cm.length + 1
    omega
structure Climb (N : Net) (node : Nat) (cm : List (Nat × Nat)) (q : List Nat) (z : Nat) : Prop where
  head : ∃ a, q[0]? = some a ∧ 0 < a ∧ a < N.first
  last : q[q.length - 1]? = some z
  ne : q ≠ []
  st : ∀ (i a b : Nat), q[i]? = some a → q[i + 1]? = some b → a ∈ N.ops b
  ks : ∀ x ∈ q, x ∈ cm.map Prod.fst
  len : q.length ≤ z
theorem Climb.start {N : Net} {node : Nat} {cm : List (Nat × Nat)} {x : Nat} (h0 : 0 < x) (hf : x < N.first) (hk : x ∈ cm.map Prod.fst) : Climb N node cm [x] x where
  head := ⟨x, rfl, h0, hf⟩
  last := rfl
  ne := by simp
  st := fun i a b _ hb => by
    have := (List.getElem?_eq_some_iff.mp hb).1
    simp at this
  ks := fun y hy => by rw [List.mem_singleton.mp hy]; exact hk
  len := h0
theorem Climb.key {N : Net} {node : Nat} {cm : List (Nat × Nat)} {q : List Nat} {z : Nat} (h : Climb N node cm q z) : z ∈ cm.map Prod.fst := h.ks z (List.mem_of_getElem? h.last)
theorem Climb.step {N : Net} (R : N.Right) {node : Nat} {B : Nat → Prop} {cm : List (Nat × Nat)} {T : List Nat} {q : List Nat} {z : Nat} (W : WayI N node B cm T) (h : Climb N node cm q z) (hz : z ≠ node) : Climb N node cm (q ++ [look cm z]) (look cm z) ∧ z < look cm z ∧ look cm z ≤ node := by
  have hp := W.par z h.key hz
  have hlt := ops_lt R hp.2.1
  have hq : 0 < q.length := List.length_pos_iff.mpr h.ne
  refine ⟨⟨?_, ?_, by simp, fun i a b ha hb => ?_, fun x hx => ?_, ?_⟩, hlt, (W.rng _ hp.1).2⟩
  · obtain ⟨a, h1, h2⟩ := h.head
    exact ⟨a, by rw [List.getElem?_append_left hq]; exact h1, h2⟩
  · rw [List.length_append, List.length_singleton, List.getElem?_append_right (by omega)]
    simp
  · by_cases hi : i + 1 < q.length
    · rw [List.getElem?_append_left hi] at hb
      rw [List.getElem?_append_left (by omega)] at ha
      exact h.st i a b ha hb
    · have hbl := (List.getElem?_eq_some_iff.mp hb).1
      rw [List.length_append, List.length_singleton] at hbl
      have e : i + 1 = q.length := by omega
      rw [List.getElem?_append_right (by omega)] at hb
      rw [List.getElem?_append_left (by omega)] at ha
      have e2 : i = q.length - 1 := by omega
      rw [e2, h.last] at ha
      cases ha
      rw [e, Nat.sub_self] at hb
      cases hb
      exact hp.2.1
  · rcases List.mem_append.mp hx with hx | hx
    · exact h.ks x hx
    · rw [List.mem_singleton.mp hx]
      exact hp.1
  · have := h.len
    rw [List.length_append, List.length_singleton]
    omega
theorem castL_get {q : List Nat} {i : Nat} {a : Int} (h : (castL q)[i]? = some a) : ∃ n : Nat, q[i]? = some n ∧ a = (n : Int) := by
  unfold castL at h
  rw [List.getElem?_map] at h
  cases e : q[i]? with
  | none => rw [e] at h; cases h
  | some n => rw [e] at h; exact ⟨n, rfl, (Option.some.inj h).symm⟩
theorem castL_at {q : List Nat} {i n : Nat} (h : q[i]? = some n) : (castL q)[i]? = some (n : Int) := by
  unfold castL
  rw [List.getElem?_map, h]
  rfl
theorem Climb.good {N : Net} {node : Nat} {cm : List (Nat × Nat)} {q : List Nat} (h : Climb N node cm q node) : GoodPath N (node : Int) (castL q) := by
  refine ⟨?_, ?_, fun i a b ha hb => ?_⟩
  · obtain ⟨a, h1, h2, h3⟩ := h.head
    exact ⟨(a : Int), castL_at h1, by omega, by omega⟩
  · rw [castL_len]
    exact castL_at h.last
  · obtain ⟨m, h1, rfl⟩ := castL_get ha
    obtain ⟨n, h2, rfl⟩ := castL_get hb
    exact ⟨by omega, by omega, h.st i m n h1 h2⟩
theorem GoodPath.up {N : Net} (R : N.Right) {node : Int} {p : List Int} (h : GoodPath N node p) : ∀ (i : Nat) (a : Int), p[i]? = some a → ((i : Nat) : Int) + 1 ≤ a
  | 0, a, ha => by
    have := h.pos R ha
    omega
  | i + 1, a, ha => by
    have hi := (List.getElem?_eq_some_iff.mp ha).1
    have e : p[i]? = some p[i] := List.getElem?_eq_getElem (by omega)
    have h1 := GoodPath.up R h i _ e
    have h2 := ((h.st i _ a e ha).lt R).1
    omega
theorem GoodPath.len {N : Net} (R : N.Right) {node : Int} {p : List Int} (h : GoodPath N node p) : (p.length : Int) ≤ node := by
  have := h.up R _ _ h.last
  have := List.length_pos_iff.mpr h.ne
  omega
end Bf

set_option Elab.async false
set_option linter.all false
set_option maxRecDepth 100000
set_option maxHeartbeats 4000000
namespace Bf
open PySem PySem.Spec PyProof.Rows L2
/-! ### a way down -/
def kvM (m : List (Nat × Nat)) : List (Key × V) := m.map fun p => (Sum.inl (p.1 : Int), vI p.2)
theorem kvM_get (l : Nat) : ∀ m : List (Nat × Nat), (valV (kvM m) (Sum.inl (l : Int))).getD (.int 0) = vI (look m l)
  | [] => rfl
  | p :: r => by
    by_cases h : p.1 = l
    · have e : valV (kvM (p :: r)) (Sum.inl (l : Int)) = some (vI p.2) := valV_pos (by show (Sum.inl (p.1 : Int) : Key) = _; rw [h])
      rw [e]
      unfold look
      simp [List.find?_cons, h]
    · have hn : (Sum.inl (p.1 : Int) : Key) ≠ Sum.inl (l : Int) := fun e => h (by have := Sum.inl.inj e; omega)
      have e1 : valV (kvM (p :: r)) (Sum.inl (l : Int)) = valV (kvM r) (Sum.inl (l : Int)) := by
        simp [kvM, valV, List.find?_cons, hn]
      rw [e1, kvM_get l r]
      unfold look
      simp [List.find?_cons, h]
theorem kvM_put {m : List (Nat × Nat)} {l v : Nat} (h : l ∉ m.map Prod.fst) : putK (kvM m) (Sum.inl (l : Int)) (vI v) = kvM (m ++ [(l, v)]) := by
  have na : ((kvM m).any fun kv => decide (kv.1 = (Sum.inl (l : Int) : Key))) = false := by
    rw [List.any_eq_false]
    intro kv hkv
    obtain ⟨p, hp, rfl⟩ := List.mem_map.mp hkv
    simp
    intro e
    exact h (by rw [← show p.1 = l by omega]; exact List.mem_map_of_mem hp)
  unfold putK
  rw [na]
  unfold kvM
  rw [List.map_append]
  rfl
theorem kvM_has {m : List (Nat × Nat)} {x : Nat} : (valV (kvM m) (Sum.inl (x : Int))).isSome = decide (x ∈ m.map Prod.fst) := by
  induction m with
  | nil => simp [kvM, valV]
  | cons p r ih =>
    by_cases h : p.1 = x
    · have e : valV (kvM (p :: r)) (Sum.inl (x : Int)) = some (vI p.2) := valV_pos (by show (Sum.inl (p.1 : Int) : Key) = _; rw [h])
      rw [e]
      simp [h]
    · have hn : (Sum.inl (p.1 : Int) : Key) ≠ Sum.inl (x : Int) := fun e => h (by have := Sum.inl.inj e; omega)
      have e1 : valV (kvM (p :: r)) (Sum.inl (x : Int)) = valV (kvM r) (Sum.inl (x : Int)) := by
        simp [kvM, valV, List.find?_cons, hn]
      rw [e1, ih]
      have : ¬ x = p.1 := fun e => h e.symm
      simp [this]
theorem kvM_at {m : List (Nat × Nat)} {x : Nat} (h : x ∈ m.map Prod.fst) : valV (kvM m) (Sum.inl (x : Int)) = some (vI (look m x)) := by
  have h1 := kvM_has (m := m) (x := x)
  rw [decide_eq_true h] at h1
  have h2 := kvM_get x m
  cases e : valV (kvM m) (Sum.inl (x : Int)) with
  | none => rw [e] at h1; cases h1
  | some y => rw [e] at h2; exact congrArg some h2
def spWay : Sp := fun vs H Q _ => ∃ (d c a u : Addr) (v : V) (N : Net) (rows : List Int) (node : Nat) (most : Int) (M : List Int), vs = [.ref d, v, .ref a, vI node, .int most, .ref u] ∧ DS H d c ∧ Lay H v (netD N) ∧ N.Right ∧ N.size ≤ 400 ∧ N.first ≤ node ∧ node < N.size ∧ a ≠ d ∧ H a = some (.lst (rows.map V.int)) ∧ rows.length = node ∧ H u = some (.dK (setZ M)) ∧
  ∀ (r : Addr) (ps : List Int) (H' : Hp), H r = none → H' r = some (.tup (ps.map V.int)) → (ps = [] ∨ GoodPath N node ps ∧ ∀ x ∈ ps, x ≠ (node : Int) → ¬ (rowAt rows x ≤ most ∧ x ∈ M)) → DS H' d c → Keep [d] H H' → Q (.ref r) H'
section
variable {P : Program} {w : World} {K : PySem.W.Frag} {mg : Str → Option Value} {base : Heap} {f : Addr} {fd : FuncData}
theorem ok_way (F : Fun K "_law_way_down" "_law_way_down" s_law_way_down f fd) (T : Txt mg) (D_law_first : Dn P w K mg base "_law_first" ["_law_net_here"] 1 spFirst) (D_law_shuffled : Dn P w K mg base "_law_shuffled" ["_law_d", "_law_row"] 2 (spShuf K)) :
    FnOk P w K mg base CX0 3 f fd ["_law_d", "_law_net_here", "_law_told", "_law_node", "_law_most", "_law_used"] spWay := by
  refine F.ok sc_law_way_down (fun vs H Q E h => ?_) (fun cdv A outer s H vs Q E hr h => ?_)
  · obtain ⟨d, c, a, u, v, N, rows, node, most, M, rfl, _⟩ := h
    rfl
  obtain ⟨d, c, a, u, v, N, rows, node, most, M, rfl, hd, lN, RN, h400, hf, hn, nad, ea, hrl, eu, q⟩ := h
  refine ⟨_, (pss_cons (ps_set (i := 6) sc_law_way_down.nd rfl (Or.inl rfl) (pe_dn D_law_first (hr.mono (by omega)) (by rfl) (pa_cons (pv 1) pa_nil)))
      (pss_cons (ps_set (i := 7) sc_law_way_down.nd rfl (Or.inl rfl) (pe_disp (pps_cons (pv 3) pe_int pps_nil) rfl rfl (by simp) (by simp)))
      (pss_cons (ps_set (i := 8) sc_law_way_down.nd rfl (Or.inl rfl) (pe_lst (pa_cons (pv 3) pa_nil)))
      (pss_cons (ps_for PassesOwn.never rfl (pi_range1 rfl T.n_range (pa_cons (pe_op op_add (pv 3) pe_int) pa_nil)) (pg_name (i := 9) sc_law_way_down.nd rfl (Or.inl rfl)) (pss_cons (ps_if (pt_cmpR op_eq (pe_callB call_len_seq (by rfl) T.n_len (by decide +kernel) (pa_cons (pv 8) pa_nil)) pe_int (nomark _)) (pss_one (ps_ret (pe_tup pa_nil))) pss_nil)
      (pss_cons (ps_set (i := 10) sc_law_way_down.nd rfl (Or.inl rfl) (pe_bm0 PySem.F.plainAttrs_list PySem.F.slot_list_pop PySem.F.type_list_pop mt_pop (pv 8)))
      (pss_cons (ps_if (pt_cmpR op_lt (pv 10) (pv 6) (nomark _)) (pss_cons (ps_set (i := 11) sc_law_way_down.nd rfl (Or.inl rfl) (pe_lst (pa_cons (pv 10) pa_nil)))
      (pss_cons (ps_while PassesOwn.never (pt_cmpR op_ne (pe_ix ix_list (pv 11) (pe_un un_neg pe_int) (fun _ _ => rfl)) (pv 3) (nomark _)) (pss_one (ps_expr (pe_bm PySem.F.plainAttrs_list PySem.F.slot_list_append PySem.F.type_list_append mt_append (pv 11) (pa_cons (pe_dget (hu_of hr) (pv 7) (pe_ix ix_list (pv 11) (pe_un un_neg pe_int) (fun _ _ => rfl)) (fun _ _ => rfl)) pa_nil)))))
      (pss_one (ps_ret (pe_callTy call_tuple_of (by rfl) T.n_tuple (by decide +kernel) (pa_cons (pv 11) pa_nil)))))) pss_nil)
      (pss_one (ps_for PassesOwn.never rfl (pi_list (pe_dn D_law_shuffled (hr.mono (by omega)) (by rfl) (pa_cons (pv 0) (pa_cons (pe_callTy call_list_of (by rfl) T.n_list (by decide +kernel) (pa_cons (pe_ix ix_tup (pe_ix ix_tup (pv 1) pe_int (fun _ _ => rfl)) (pe_op op_sub (pv 10) (pv 6)) (fun _ _ => rfl)) pa_nil)) pa_nil)))) (pg_name (i := 12) sc_law_way_down.nd rfl (Or.inl rfl)) (pss_cons (ps_set (i := 13) sc_law_way_down.nd rfl (Or.inl rfl) (pe_op op_halfN (pv 12) pe_int))
      (pss_one (ps_if (PW.pt (pw_and (pt_cmpR op_gt (pv 13) pe_int (nomark _)) (pw_and (pt_cmp (pc_dnotin (hu_of hr) (pv 13) (pv 7))) (pw_and1 (pt_not (PW.pt (pw_and (pt_cmpR op_le (pe_ix ix_list (pv 2) (pv 13) (fun _ _ => rfl)) (pv 4) (nomark _)) (pw_and1 (pt_cmp (pc_din (hu_of hr) (pv 13) (pv 5))))))))))) (pss_cons (ps_dput (hu_of hr) (pv 7) (pv 13) (pv 10) rfl)
      (pss_one (ps_expr (pe_bm PySem.F.plainAttrs_list PySem.F.slot_list_append PySem.F.type_list_append mt_append (pv 8) (pa_cons (pv 13) pa_nil))))) pss_nil)))))))))
      (pss_one (ps_ret (pe_tup pa_nil))))))), ?_⟩
  have nud : u ≠ d := fun e => by
    obtain ⟨l, el⟩ := hd.at_
    rw [e, el] at eu
    cases eu
  have hf1 : 1 ≤ N.first := by unfold Net.first; omega
  have lv := id lN
  refine ⟨_, rfl, v, N, rfl, lN, ?_⟩
  obtain ⟨p, pi, pr, pa, po, pcl, vr, va, vo, vc, rfl, hN⟩ := lN.net
  have hl := hN.lens
  refine fun R hR => ?_
  refine ⟨_, rfl, upd_same, [(Sum.inl (node : Int), vI 0)], rfl, by show 1 ≤ 15; decide, ?_⟩
  rw [show mergeK [] [(Sum.inl (node : Int), vI 0)] = kvM [(node, 0)] from rfl]
  have s1 : Same H (upd (upd H R (.dK [])) R (.dK (kvM [(node, 0)]))) := same_two (same_new hR (.dK [])) hR
  have eR := upd_same (H := upd H R (.dK [])) (a := R) (o := .dK (kvM [(node, 0)]))
  generalize upd (upd H R (.dK [])) R (.dK (kvM [(node, 0)])) = H1 at s1 eR ⊢
  refine ⟨_, rfl, by show 1 ≤ sizeLine; decide, fun Wl hW => ?_⟩
  have hW0 : H Wl = none := s1.free hW
  have nWR : Wl ≠ R := (ne_of_none eR hW).symm
  have s2 := s1.trans (same_new hW (.lst [vI node]))
  have eR2 := same_new hW (.lst [vI node]) _ _ eR
  have eW2 := upd_same (H := H1) (a := Wl) (o := .lst [vI node])
  generalize upd H1 Wl (.lst [vI node]) = H2 at s2 eR2 eW2 ⊢
  obtain ⟨nRd, nRc⟩ := hd.new hR
  obtain ⟨nWd, nWc⟩ := hd.new hW0
  have B : Nat → Prop := fun n => rowAt rows n ≤ most ∧ (n : Int) ∈ M
  refine ⟨_, rfl, _, _, rfl, rfl, ((node : Int) + 1), rfl, by omega, by omega, for_it walk_range (fun i σ' H' => ∃ (v9 v10 v12 v13 : Option V) (cm : List (Nat × Nat)) (tt : List Nat), σ' = [some (.ref d), some (.ref p), some (.ref a), some (vI node), some (.int most), some (.ref u), some (vI N.first), some (.ref R), some (.ref Wl), v9, v10, none, v12, v13] ∧ DS H' d c ∧ Keep [d] H H' ∧ H' R = some (.dK (kvM cm)) ∧ H' Wl = some (.lst (tt.map vI)) ∧ WayI N node (fun n => rowAt rows n ≤ most ∧ (n : Int) ∈ M) cm tt)
    ⟨_, _, _, _, [(node, 0)], [node], rfl, hd.same s2, .of_same s2, eR2, eW2, .start (by omega)⟩ (fun _ _ _ _ _ => trivial) (fun i x σ' H3 H4 hi pp y => ?_) (fun σ' H3 pp => ?_)⟩
  · obtain ⟨v9, v10, v12, v13, cm, tt, rfl, hd3, k3, eR3, eW3, W⟩ := pp
    obtain ⟨rfl, rfl⟩ := y
    refine ⟨_, rfl, Wl, _, rfl, .inl (SqL.of eW3), rfl, _, rfl, ite2 (fun z => ?_) (fun z => ?_)⟩
    · refine ⟨Nat.zero_le _, fun r hr => ?_⟩
      exact q r [] _ (k3.free hr (by simp [(hd3.new hr).1])) upd_same (.inl rfl) (hd3.same (same_new hr _)) (k3.trans (.of_same (same_new hr _)))
    rcases List.eq_nil_or_concat tt with rfl | ⟨T', x, e⟩
    · exact absurd (decide_eq_true rfl) z
    rw [List.concat_eq_append] at e
    subst e
    have eT : (T' ++ [x]).map vI = T'.map vI ++ [vI x] := by rw [List.map_append]; rfl
    rw [eT] at eW3
    have hx := W.tin x (by simp)
    have hxr := W.rng x hx
    have W1 := W.pop
    refine ⟨_, rfl, .inl ⟨rfl, _, SqL.of eW3⟩, Wl, _, vI x, rfl, rfl, eW3, by simp, ?_⟩
    rw [List.dropLast_concat]
    have k4 : Keep [d] H (upd H4 Wl (.lst (T'.map vI))) := (k3.cat (Keep.at1 (a := Wl))).thin (by simp [hW0])
    have hd4 : DS (upd H4 Wl (.lst (T'.map vI))) d c := hd3.keep (S := [Wl]) Keep.at1 (by simp [nWd.symm]) (by simp [nWc.symm])
    have eR4 : upd H4 Wl (.lst (T'.map vI)) R = some (.dK (kvM cm)) := by rw [upd_ne nWR.symm]; exact eR3
    have eW4 := upd_same (H := H4) (a := Wl) (o := .lst (T'.map vI))
    generalize upd H4 Wl (.lst (T'.map vI)) = H5 at k4 hd4 eR4 eW4 ⊢
    refine ⟨_, rfl, _, rfl, _, _, rfl, rfl, _, rfl, ite2 (fun z1 => ?_) (fun z1 => ?_)⟩
    · have z1 : (x : Int) < (N.first : Int) := of_decide_eq_true z1
      refine ⟨_, rfl, by show 1 ≤ sizeLine; decide, fun Pp hP => ?_⟩
      have nPd := hd4.new hP
      have nPR : Pp ≠ R := (ne_of_none eR4 hP).symm
      have sP := same_new hP (.lst [vI x])
      refine ⟨fun m σ' H' => ∃ (z : Nat) (g : List Nat), σ' = [some (.ref d), some (.ref p), some (.ref a), some (vI node), some (.int most), some (.ref u), some (vI N.first), some (.ref R), some (.ref Wl), some (.int (0 + (i : Int))), some (vI x), some (.ref Pp), v12, v13] ∧ Same H5 H' ∧ H' Pp = some (.lst (g.map vI)) ∧ Climb N node cm g z ∧ z ≤ node ∧ m = node - z,
        ⟨_, x, [x], rfl, sP, upd_same, .start hxr.1 (by omega) hx, hxr.2, rfl⟩, fun m σ' H' pp => ?_⟩
      obtain ⟨z, g, rfl, sm, eP, C, hz, rfl⟩ := pp
      have hg := C.last
      have hgm : (g.map vI)[(g.map vI).length - 1]? = some (vI z) := by rw [List.length_map, List.getElem?_map, hg]; rfl
      refine ⟨_, rfl, _, rfl, Pp, _, _, _, rfl, rfl, SqL.of eP, atI_last hgm, _, rfl, rfl, _, rfl, ?_⟩
      have eR6 := sm _ _ eR4
      by_cases h1 : z = node
      · refine ifN (by rw [show decide (vI z = vI node) = true from decide_eq_true (by rw [h1])]; rfl) ?_
        subst h1
        refine ⟨_, rfl, Pp, _, rfl, .inl ⟨SqL.of eP, fun t ht => ?_⟩⟩
        have st := sm.trans (same_new ht (.tup (g.map vI)))
        refine q t (castL g) _ (k4.free (sm.free ht) (by simp [(hd4.new (sm.free ht)).1])) (by rw [castL_V]; exact upd_same) (.inr ⟨C.good, fun y hy hne => ?_⟩) (hd4.same st) (k4.trans (.of_same st))
        obtain ⟨n, hn, rfl⟩ := List.mem_map.mp hy
        exact (W.par n (C.ks n hn) fun e => hne (by rw [e])).2.2
      · obtain ⟨C2, lt, le⟩ := C.step RN W h1
        refine ifY (by rw [show decide (vI z = vI node) = false from decide_eq_false fun e => h1 (by have := V.int.inj e; omega)]; rfl) ⟨_, fun _ _ h => h, ?_⟩
        refine ⟨_, rfl, .inl ⟨rfl, _, SqL.of eP⟩, _, rfl, _, rfl, _, rfl, Pp, _, _, _, rfl, rfl, SqL.of eP, atI_last hgm, R, vI (look cm z), rfl, ?_, Pp, _, _, rfl, rfl, eP, len1000 (by rw [List.length_map]; have := C.len; omega), ?_⟩
        · rw [← kvM_at C.key]
          exact DGet.k (k := Sum.inl (z : Int)) eR6
        refine ⟨node - look cm z, by omega, look cm z, g ++ [look cm z], rfl, same_two sm hP, ?_, C2, le, rfl⟩
        rw [upd_same, List.map_append]
        rfl
    · have z1 : ¬ (x : Int) < (N.first : Int) := fun h => z1 (decide_eq_true h)
      have hN5 := hN.lay.keep' (k4.tup1 hd)
      obtain ⟨p', pi', pr', pa', po', pcl', vr', va', vo', vc', ep', hN'⟩ := hN5.net
      cases ep'
      have hg : x - N.first < N.ands.length := by unfold Net.size at hn; omega
      have e : N.ands[x - N.first]? = some N.ands[x - N.first] := List.getElem?_eq_getElem hg
      obtain ⟨yy, hyy, ly⟩ := hN'.la.at_ (d := pairD N.ands[x - N.first]) (x - N.first) (by rw [List.getElem?_map, e]; rfl)
      obtain ⟨q0, rfl, eq0⟩ := ly.pair
      have ha0' : atI va' ((x : Int) - (N.first : Int)) = some (.ref q0) := by
        rw [show (x : Int) - (N.first : Int) = ((x - N.first : Nat) : Int) by omega]
        exact atI_nat hyy
      have eo := ops_and (N := N) (x := x) (by omega) e
      generalize N.ands[x - N.first] = pq at eq0 eo
      refine ⟨_, rfl, _, rfl, p, _, _, _, rfl, rfl, SqT.of hN'.top, atI_nat (j := 3) rfl, _, rfl, _, rfl, _, _, rfl, rfl, pa', va', _, _, rfl, rfl, SqT.of hN'.ha, ha0', q0, _, rfl, .inr (SqT.of eq0), fun Ls hLs => ?_⟩
      have sL := same_new hLs (.lst [vI pq.1, vI pq.2])
      refine ⟨d, c, Ls, _, rfl, hd4.same sL, (hd4.new hLs).1, .inl (SqL.of upd_same), by show 2 ≤ 1000; decide, fun Sp ys H7 hperm hSp eSp hd7 k7 => ?_⟩
      have k5 := (k4.trans (.of_same sL)).trans k7
      have eR7 := k7 _ _ (by simp [nRd]) (sL _ _ eR4)
      have eW7 := k7 _ _ (by simp [nWd]) (sL _ _ eW4)
      have nSR : Sp ≠ R := (ne_of_none (sL _ _ eR4) hSp).symm
      have nSW : Sp ≠ Wl := (ne_of_none (sL _ _ eW4) hSp).symm
      have lys : ys.length ≤ 2 := by rw [hperm.length_eq]; exact Nat.le_refl _
      refine ⟨Sp, rfl, ⟨_, SqL.of eSp⟩, for_it (walk_list (xs := ys)) (fun i' σ' H' => ∃ (v12 v13 : Option V) (cm : List (Nat × Nat)) (tt : List Nat), σ' = [some (.ref d), some (.ref p), some (.ref a), some (vI node), some (.int most), some (.ref u), some (vI N.first), some (.ref R), some (.ref Wl), some (.int (0 + (i : Int))), some (vI x), none, v12, v13] ∧ Keep [R, Wl] H7 H' ∧ H' R = some (.dK (kvM cm)) ∧ H' Wl = some (.lst (tt.map vI)) ∧ WayI N node (fun n => rowAt rows n ≤ most ∧ (n : Int) ∈ M) cm tt ∧ x ∈ cm.map Prod.fst)
        ⟨_, _, cm, T', rfl, .refl _ _, eR7, eW7, W1, hx⟩ (fun i' σ' H' hi' pp => ?_) (fun i' y σ' H8 H9 hi' pp yy' => ?_) (fun σ' H8 pp => ?_)⟩
      · obtain ⟨_, _, _, _, _, kk, _⟩ := pp
        exact SqL.of (kk _ _ (by simp [nSR, nSW]) eSp)
      · obtain ⟨v12', v13', cm', tt', rfl, kk, eR8, eW8, W8, hx8⟩ := pp
        obtain ⟨rfl, hy⟩ := yy'
        obtain ⟨l, rfl, hl2⟩ : ∃ l : Nat, y = vI l ∧ l / 2 ∈ N.ops x := by
          have := hperm.mem_iff.mp (List.mem_of_getElem? hy)
          rw [eo]
          rcases List.mem_cons.mp this with h | h
          · exact ⟨pq.1, h, by simp⟩
          · exact ⟨pq.2, List.mem_singleton.mp h, by simp⟩
        obtain ⟨s, hs⟩ : ∃ s, s = l / 2 := ⟨_, rfl⟩
        refine ⟨_, rfl, l, rfl, rfl, ?_⟩
        rw [← hs] at hl2 ⊢
        have hlt := ops_lt RN hl2
        have hk8 : s < node := by omega
        have kk8 : Keep [d] H H9 := (k5.cat kk).thin (by simp [hR, hW0])
        have ea8 := kk8 _ _ (by simp [nad]) ea
        have eu8 := kk8 _ _ (by simp [nud]) eu
        refine ⟨_, rfl, _, _, rfl, rfl, _, rfl, ite2 (fun z2 => ?_) (fun z2 => ?_)⟩
        rotate_left
        · exact iteF ⟨_, _, cm', tt', rfl, kk, eR8, eW8, W8, hx8⟩
        have z2 : (0 : Int) < (s : Int) := of_decide_eq_true z2
        refine ⟨_, rfl, _, rfl, R, _, rfl, DGet.k (k := Sum.inl (s : Int)) eR8, _, rfl, ?_⟩
        rw [kvM_has]
        by_cases hin : s ∈ cm'.map Prod.fst
        · rw [decide_eq_true hin]
          exact iteF (iteF ⟨_, _, cm', tt', rfl, kk, eR8, eW8, W8, hx8⟩)
        rw [decide_eq_false hin]
        refine iteT ?_
        refine ⟨_, rfl, _, rfl, a, _, _, _, rfl, rfl, SqL.of ea8, rowAt_at (by omega) (by omega), _, rfl, _, _, rfl, rfl, _, rfl, ite2 (fun z3 => ?_) (fun z3 => ?_)⟩
        · refine ⟨_, rfl, _, rfl, u, _, rfl, setZ_get eu8 s, _, rfl, ?_⟩
          rw [setZ_val]
          by_cases hm : (s : Int) ∈ M
          · rw [decide_eq_true hm]
            exact iteF ⟨_, _, cm', tt', rfl, kk, eR8, eW8, W8, hx8⟩
          rw [decide_eq_false hm]
          refine iteT ?_
          have nB : ¬ (rowAt rows s ≤ most ∧ (s : Int) ∈ M) := fun h => hm h.2
          have W9 := W8.push RN hx8 hl2 (by omega) hin nB
          refine ⟨_, rfl, _, rfl, _, rfl, R, _, rfl, DPut.k (k := Sum.inl (s : Int)) (v := vI x) eR8 (by unfold kvM; rw [List.length_map]; exact small1000 (by have := W8.len; omega)), ?_⟩
          rw [kvM_put hin]
          refine ⟨_, rfl, .inl ⟨rfl, _, SqL.of (by rw [upd_ne nWR]; exact eW8)⟩, _, rfl, Wl, _, _, rfl, rfl, (by rw [upd_ne nWR]; exact eW8), len1000 (by rw [List.length_map]; have := W8.len; have := W8.tl; omega), ?_⟩
          refine ⟨_, _, cm' ++ [(s, x)], tt' ++ [s], rfl, ((kk.cat (Keep.at1 (a := R))).cat (Keep.at1 (a := Wl))).thin (by simp), by rw [upd_ne nWR.symm]; exact upd_same, by rw [upd_same, List.map_append]; rfl, W9, by rw [List.map_append]; exact List.mem_append_left _ hx8⟩
        · have z3 : ¬ rowAt rows s ≤ most := fun h => z3 (decide_eq_true h)
          refine iteT ?_
          have nB : ¬ (rowAt rows s ≤ most ∧ (s : Int) ∈ M) := fun h => z3 h.1
          have W9 := W8.push RN hx8 hl2 (by omega) hin nB
          refine ⟨_, rfl, _, rfl, _, rfl, R, _, rfl, DPut.k (k := Sum.inl (s : Int)) (v := vI x) eR8 (by unfold kvM; rw [List.length_map]; exact small1000 (by have := W8.len; omega)), ?_⟩
          rw [kvM_put hin]
          refine ⟨_, rfl, .inl ⟨rfl, _, SqL.of (by rw [upd_ne nWR]; exact eW8)⟩, _, rfl, Wl, _, _, rfl, rfl, (by rw [upd_ne nWR]; exact eW8), len1000 (by rw [List.length_map]; have := W8.len; have := W8.tl; omega), ?_⟩
          refine ⟨_, _, cm' ++ [(s, x)], tt' ++ [s], rfl, ((kk.cat (Keep.at1 (a := R))).cat (Keep.at1 (a := Wl))).thin (by simp), by rw [upd_ne nWR.symm]; exact upd_same, by rw [upd_same, List.map_append]; rfl, W9, by rw [List.map_append]; exact List.mem_append_left _ hx8⟩
      · obtain ⟨v12', v13', cm', tt', rfl, kk, eR8, eW8, W8, hx8⟩ := pp
        exact ⟨_, _, _, _, cm', tt', rfl, hd7.keep kk (by simp [nRd.symm, nWd.symm]) (by simp [nRc.symm, nWc.symm]), (k5.cat kk).thin (by simp [hR, hW0]), eR8, eW8, W8⟩
  · obtain ⟨v9, v10, v12, v13, cm, tt, rfl, hd3, k3, eR3, eW3, W⟩ := pp
    refine ⟨Nat.zero_le _, fun r hr => ?_⟩
    exact q r [] _ (k3.free hr (by simp [(hd3.new hr).1])) upd_same (.inl rfl) (hd3.same (same_new hr _)) (k3.trans (.of_same (same_new hr _)))
end
/-! ### a part, found -/
theorem rowAt_snoc {rows : List Int} {l x : Int} (h0 : 0 ≤ x) (h : x < (rows.length : Int)) : rowAt (rows ++ [l]) x = rowAt rows x := by
  unfold rowAt
  rw [List.getD_eq_getElem?_getD, List.getD_eq_getElem?_getD, List.getElem?_append_left (by omega)]
theorem rowAt_end {rows : List Int} {l : Int} {n : Nat} (h : rows.length = n) : rowAt (rows ++ [l]) n = l := by
  unfold rowAt
  rw [List.getD_eq_getElem?_getD, show ((n : Int)).toNat = n from rfl, List.getElem?_append_right (by omega), h, Nat.sub_self]
  rfl
def FoundI (N : Net) (rows : List Int) (node : Nat) (level : Int) (ps : List (List Int)) (M : List Int) : Prop :=
  (∀ p ∈ ps, GoodPath N node p) ∧ (∀ x, x ∈ M ↔ x ∈ ps.flatten) ∧ (lowL (rows ++ [level]) (level - 2) ps.flatten).Nodup
theorem FoundI.more {N : Net} (RN : N.Right) {rows : List Int} {node : Nat} {level : Int} {ps : List (List Int)} {M M' p : List Int} (h : FoundI N rows node level ps M) (hl : rows.length = node) (g : GoodPath N node p) (hb : ∀ x ∈ p, x ≠ (node : Int) → ¬ (rowAt rows x ≤ level - 2 ∧ x ∈ M)) (hM : ∀ x, x ∈ M' ↔ x ∈ M ∨ x ∈ p) : FoundI N rows node level (ps ++ [p]) M' := by
  obtain ⟨h1, h2, h3⟩ := h
  refine ⟨fun q hq => ?_, fun x => ?_, ?_⟩
  · rcases List.mem_append.mp hq with hq | hq
    · exact h1 q hq
    · rw [List.mem_singleton.mp hq]
      exact g
  · rw [hM, h2]
    simp
  · rw [List.flatten_append, List.flatten_cons, List.flatten_nil, List.append_nil]
    refine low_path h3 (g.nodup RN) fun x hx hr hm => ?_
    have hr2 := g.mem RN hx
    by_cases e : x = (node : Int)
    · rw [e, rowAt_end hl] at hr
      omega
    · rw [rowAt_snoc (by omega) (by omega)] at hr
      exact hb x hx e ⟨hr, (h2 x).mpr hm⟩
def spFound : Sp := fun vs H Q _ => ∃ (d c a : Addr) (v : V) (N : Net) (k : Nat) (rows : List Int) (node : Nat) (level : Int), vs = [.ref d, v, vI k, .ref a, vI node, .int level] ∧ DS H d c ∧ Lay H v (netD N) ∧ N.Right ∧ N.size ≤ 400 ∧ k ≤ 4 ∧ N.first ≤ node ∧ node < N.size ∧ a ≠ d ∧ H a = some (.lst (rows.map V.int)) ∧ rows.length = node ∧
  ∀ (r : Addr) (ps : List (List Int)) (H' : Hp), Lay H' (.ref r) (partD ps) → (ps = [] ∨ ps.length = k + 1 ∧ ∃ M, FoundI N rows node level ps M) → DS H' d c → Keep [d] H H' → Q (.ref r) H'
section
variable {P : Program} {w : World} {K : PySem.W.Frag} {mg : Str → Option Value} {base : Heap} {f : Addr} {fd : FuncData}
theorem ok_found (F : Fun K "_law_found_part" "_law_found_part" s_law_found_part f fd) (T : Txt mg) (D_law_way_down : Dn P w K mg base "_law_way_down" ["_law_d", "_law_net_here", "_law_told", "_law_node", "_law_most", "_law_used"] 3 spWay) :
    FnOk P w K mg base CX0 4 f fd ["_law_d", "_law_net_here", "_law_k", "_law_told", "_law_node", "_law_level"] spFound := by
  refine F.ok sc_law_found_part (fun vs H Q E h => ?_) (fun cdv A outer s H vs Q E hr h => ?_)
  · obtain ⟨d, c, a, v, N, k, rows, node, level, rfl, _⟩ := h
    rfl
  obtain ⟨d, c, a, v, N, k, rows, node, level, rfl, hd, lN, RN, h400, hk, hf, hn, nad, ea, hrl, q⟩ := h
  refine ⟨_, (pss_cons (ps_set (i := 6) sc_law_found_part.nd rfl (Or.inl rfl) pe_dnewK)
      (pss_cons (ps_set (i := 7) sc_law_found_part.nd rfl (Or.inl rfl) (pe_lst pa_nil))
      (pss_cons (ps_for PassesOwn.never rfl (pi_range1 rfl T.n_range (pa_cons (pe_op op_add (pv 2) pe_int) pa_nil)) (pg_name (i := 8) sc_law_found_part.nd rfl (Or.inl rfl)) (pss_cons (ps_set (i := 9) sc_law_found_part.nd rfl (Or.inl rfl) (pe_dn D_law_way_down (hr.mono (by omega)) (by rfl) (pa_cons (pv 0) (pa_cons (pv 1) (pa_cons (pv 3) (pa_cons (pv 4) (pa_cons (pe_op op_sub (pv 5) pe_int) (pa_cons (pv 6) pa_nil))))))))
      (pss_cons (ps_if (pt_cmpR op_eq (pe_callB call_len_seq (by rfl) T.n_len (by decide +kernel) (pa_cons (pv 9) pa_nil)) pe_int (nomark _)) (pss_one (ps_ret (pe_tup pa_nil))) pss_nil)
      (pss_cons (ps_for PassesOwn.never rfl (pi_tup (pv 9)) (pg_name (i := 10) sc_law_found_part.nd rfl (Or.inl rfl)) (pss_one (ps_dput (hu_of hr) (pv 6) (pv 10) pe_bl rfl)))
      (pss_one (ps_expr (pe_bm PySem.F.plainAttrs_list PySem.F.slot_list_append PySem.F.type_list_append mt_append (pv 7) (pa_cons (pv 9) pa_nil))))))))
      (pss_one (ps_ret (pe_callTy call_tuple_of (by rfl) T.n_tuple (by decide +kernel) (pa_cons (pv 7) pa_nil))))))), ?_⟩
  refine fun U hU => ?_
  have sU := same_new hU (.dK [])
  obtain ⟨nUd, nUc⟩ := hd.new hU
  refine ⟨Nat.zero_le _, fun A hA => ?_⟩
  have hA0 := sU.free hA
  obtain ⟨nAd, nAc⟩ := hd.new hA0
  have nAU : A ≠ U := (ne_of_none upd_same hA).symm
  have s2 := sU.trans (same_new hA (.lst []))
  refine ⟨_, rfl, _, _, rfl, rfl, ((k : Int) + 1), rfl, by omega, by omega, for_it walk_range (fun i σ' H' => ∃ (v8 v9 v10 : Option V) (ps : List (List Int)) (M : List Int), σ' = [some (.ref d), some v, some (vI k), some (.ref a), some (vI node), some (.int level), some (.ref U), some (.ref A), v8, v9, v10] ∧ DS H' d c ∧ Keep [d] H H' ∧ H' U = some (.dK (setZ M)) ∧ Acc A pathD ps H' ∧ ps.length = i ∧ M.length ≤ i * 400 ∧ FoundI N rows node level ps M)
    ⟨_, _, _, [], [], rfl, hd.same s2, .of_same s2, same_new hA _ _ _ upd_same, .nil, rfl, by simp, fun _ h => (by cases h), fun x => Iff.rfl, by simp [lowL]⟩ (fun _ _ _ _ _ => trivial) (fun i x σ' H3 H4 hi pp y => ?_) (fun σ' H3 pp => ?_)⟩
  · obtain ⟨v8, v9, v10, ps, M, rfl, hd3, k3, eU3, hA3, hpl, hM, FI⟩ := pp
    obtain ⟨rfl, rfl⟩ := y
    refine ⟨_, rfl, _, rfl, _, rfl, _, rfl, _, rfl, _, _, rfl, rfl, _, rfl, d, c, a, U, v, N, rows, node, level - 2, M, rfl, hd3, lN.keep' (k3.tup1 hd), RN, h400, hf, hn, nad, k3 _ _ (by simp [nad]) ea, hrl, eU3, fun r p H5 hr er hp hd5 k5 => ?_⟩
    have eU5 := k5 _ _ (by simp [nUd]) eU3
    have hA5 := hA3.keep k5 (k5.tup1 hd3) (by simp [nAd])
    have nrU : r ≠ U := (ne_of_none eU3 hr).symm
    obtain ⟨vs3, eA3, _⟩ := hA3
    have nrA : r ≠ A := (ne_of_none eA3 hr).symm
    refine ⟨_, rfl, r, _, rfl, .inr (SqT.of er), rfl, _, rfl, ite2 (fun z => ?_) (fun z => ?_)⟩
    · refine ⟨Nat.zero_le _, fun t ht => ?_⟩
      exact q t [] _ (.tup upd_same .nil) (.inl rfl) (hd5.same (same_new ht _)) ((k3.trans k5).trans (.of_same (same_new ht _)))
    rcases hp with rfl | ⟨g, hb⟩
    · exact absurd (decide_eq_true rfl) z
    have gl := g.len RN
    refine ⟨_, rfl, r, rfl, ⟨_, SqT.of er⟩, for_it (walk_tup (xs := p.map V.int)) (fun j σ' H' => ∃ (v10 : Option V) (M' : List Int), σ' = [some (.ref d), some v, some (vI k), some (.ref a), some (vI node), some (.int level), some (.ref U), some (.ref A), some (.int (0 + (i : Int))), some (.ref r), v10] ∧ Keep [U] H5 H' ∧ H' U = some (.dK (setZ M')) ∧ M'.length ≤ i * 400 + j ∧ (∀ x, x ∈ M' ↔ x ∈ M ∨ x ∈ p.take j))
      ⟨_, M, rfl, .refl _ _, eU5, hM, fun x => by simp⟩ (fun j σ' H' hj pp => ?_) (fun j x σ' H6 H7 hj pp y => ?_) (fun σ' H6 pp => ?_)⟩
    · obtain ⟨_, _, _, kk, _⟩ := pp
      exact SqT.of (kk _ _ (by simp [nrU]) er)
    · obtain ⟨v10', M', rfl, kk, eU6, hl6, hm6⟩ := pp
      obtain ⟨rfl, hx⟩ := y
      rw [List.getElem?_map] at hx
      obtain ⟨y, hy, rfl⟩ := Option.map_eq_some_iff.mp hx
      have hjl := (List.getElem?_eq_some_iff.mp hy).1
      refine ⟨_, rfl, _, rfl, U, _, rfl, setZ_dput eU6 y (by have : i * 400 ≤ 4 * 400 := Nat.mul_le_mul_right _ (by omega); omega), _, addZ M' y, rfl, kk.trans (.upd (by simp)), upd_same, ?_, fun x => ?_⟩
      · have := addZ_len (M := M') (x := y)
        omega
      · rw [mem_addZ, hm6, List.take_succ, hy]
        simp [or_assoc]
    · obtain ⟨v10', M', rfl, kk, eU6, hl6, hm6⟩ := pp
      rw [List.length_map, List.take_length] at hm6
      have hd6 := hd5.keep kk (by simp [nUd.symm]) (by simp [nUc.symm])
      have kT : KeepT H5 H6 := fun b xs hb => kk _ _ (by simp; exact fun e => by rw [e, eU5] at hb; cases hb) hb
      have hA6 := hA5.keep kk kT (by simp [nAU])
      have er6 := kk _ _ (by simp [nrU]) er
      obtain ⟨vs, eA, la, hAp, kp⟩ := hA6.push (y := .ref r) (x := p) (Lay.mkPath er6) (by omega)
      refine ⟨_, rfl, .inl ⟨rfl, _, SqL.of eA⟩, _, rfl, A, _, _, rfl, rfl, eA, la, ?_⟩
      refine ⟨_, _, _, ps ++ [p], M', rfl, hd6.keep (S := [A]) Keep.at1 (by simp [nAd.symm]) (by simp [nAc.symm]), ((((k3.trans k5).cat kk).cat (Keep.at1 (a := A))).thin (by simp [hU, hA0])), by rw [upd_ne nAU.symm]; exact eU6, hAp, by rw [List.length_append, hpl]; rfl, ?_, FI.more RN hrl g hb hm6⟩
      rw [List.length_map] at hl6
      omega
  · obtain ⟨v8, v9, v10, ps, M, rfl, hd3, k3, eU3, ⟨vs, eA, lA⟩, hpl, hM, FI⟩ := pp
    refine ⟨_, rfl, A, _, rfl, .inl ⟨SqL.of eA, fun t ht => ?_⟩⟩
    have st := same_new ht (.tup vs)
    exact q t ps _ (.tup upd_same (lA.keep' (.same st))) (.inr ⟨by omega, M, FI⟩) (hd3.same st) (k3.trans (.of_same st))
end

end Bf

set_option Elab.async false
set_option linter.all false
set_option maxRecDepth 100000
set_option maxHeartbeats 4000000
namespace Bf
open PySem
/-! ### bars, made node by node -/
theorem rowAt_snoc' {rows : List Int} {l x : Int} (h0 : 0 ≤ x) (h : x < (rows.length : Int)) : rowAt (rows ++ [l]) x = rowAt rows x := by
  unfold rowAt
  rw [List.getD_eq_getElem?_getD, List.getD_eq_getElem?_getD, List.getElem?_append_left (by omega)]
theorem rowAt_end' {rows : List Int} {l : Int} {n : Nat} (h : rows.length = n) : rowAt (rows ++ [l]) n = l := by
  unfold rowAt
  rw [List.getD_eq_getElem?_getD, show ((n : Int)).toNat = n from rfl, List.getElem?_append_right (by omega), h, Nat.sub_self]
  rfl
def rowsOf (N : Net) (lv : List Int) : List Int := List.replicate N.first 0 ++ lv
theorem rowsOf_len {N : Net} {lv : List Int} : (rowsOf N lv).length = N.first + lv.length := by simp [rowsOf]
theorem rowsOf_snoc {N : Net} {lv : List Int} {l : Int} : rowsOf N (lv ++ [l]) = rowsOf N lv ++ [l] := by simp [rowsOf]
theorem rowAt_low {N : Net} {lv : List Int} {x : Nat} (h : x < N.first) : rowAt (rowsOf N lv) x = 0 := by
  unfold rowAt rowsOf
  rw [List.getD_eq_getElem?_getD, show ((x : Int)).toNat = x from rfl, List.getElem?_append_left (by simpa using h), List.getElem?_replicate, if_pos h]
  rfl
theorem rowAt_mem {rows : List Int} {x : Nat} (h : x < rows.length) : rowAt rows x ∈ rows := by
  unfold rowAt
  rw [List.getD_eq_getElem?_getD, show ((x : Int)).toNat = x from rfl, List.getElem?_eq_getElem h]
  exact List.getElem_mem _
structure BarsI (N : Net) (k : Nat) (lv : List Int) (parts : List (List (List Int))) (i : Nat) : Prop where
  l1 : lv.length = i
  l2 : parts.length = i
  pos : ∀ l ∈ lv, 1 ≤ l
  part : ∀ (j : Nat) (part : List (List Int)), parts[j]? = some part → PartOk N k (rowsOf N lv) (N.first + j) part
theorem BarsI.start {N : Net} {k : Nat} : BarsI N k [] [] 0 := ⟨rfl, rfl, fun l h => (by cases h), fun j part h => by simp at h⟩
theorem BarsI.nn {N : Net} {k : Nat} {lv : List Int} {parts : List (List (List Int))} {i : Nat} (h : BarsI N k lv parts i) : ∀ l ∈ rowsOf N lv, 0 ≤ l := fun l hl => by
  rcases List.mem_append.mp hl with hl | hl
  · rw [List.eq_of_mem_replicate hl]
    exact Int.le_refl _
  · have := h.pos l hl
    omega
theorem BarsI.push {N : Net} (R : N.Right) {k : Nat} {lv : List Int} {parts : List (List (List Int))} {i : Nat} {level : Int} {part : List (List Int)} (h : BarsI N k lv parts i) (h1 : 1 ≤ level) (hp : PartOk N k (rowsOf N lv ++ [level]) (N.first + i) part) : BarsI N k (lv ++ [level]) (parts ++ [part]) (i + 1) := by
  refine ⟨by rw [List.length_append, h.l1]; rfl, by rw [List.length_append, h.l2]; rfl, fun l hl => ?_, fun j q hq => ?_⟩
  · rcases List.mem_append.mp hl with hl | hl
    · exact h.pos l hl
    · rw [List.mem_singleton.mp hl]
      exact h1
  · rw [rowsOf_snoc]
    have hj := (List.getElem?_eq_some_iff.mp hq).1
    rw [List.length_append, h.l2] at hj
    by_cases e : j = i
    · rw [e, List.getElem?_append_right (by rw [h.l2]; exact Nat.le_refl _), h.l2, Nat.sub_self] at hq
      cases hq
      rw [e]
      exact hp
    · have hj' : j < i := by simp at hj; omega
      rw [List.getElem?_append_left (by rw [h.l2]; exact hj')] at hq
      exact (h.part j q hq).keep R fun x hx => (rowAt_snoc' (by omega) (by rw [rowsOf_len, h.l1]; omega)).symm
theorem BarsI.one {N : Net} {k : Nat} {lv : List Int} {parts : List (List (List Int))} {i : Nat} (h : BarsI N k lv parts i) : PartOk N k (rowsOf N lv ++ [1]) (N.first + i) [] := by
  unfold PartOk
  rw [if_pos (rowAt_end' (by rw [rowsOf_len, h.l1]))]
theorem BarsI.up {N : Net} (R : N.Right) {k : Nat} {lv : List Int} {parts : List (List (List Int))} {i s : Nat} {top : Int} (h : BarsI N k lv parts i) (hs : s ∈ N.ops (N.first + i)) (ht : rowAt (rowsOf N lv) s = top) (h0 : 0 < top) :
    N.first ≤ s ∧ s - N.first < i ∧ ∀ part, parts[s - N.first]? = some part → PartOk N k (rowsOf N lv ++ [top]) (N.first + i) (part.map fun p => p ++ [((N.first + i : Nat) : Int)]) := by
  have hlt := ops_lt R hs
  have hf : N.first ≤ s := by
    rcases Nat.lt_or_ge s N.first with hh | hh
    · rw [rowAt_low hh] at ht
      omega
    · exact hh
  refine ⟨hf, by omega, fun part hp => ?_⟩
  have hq := h.part _ part hp
  rw [show N.first + (s - N.first) = s by omega] at hq
  have hl : (rowsOf N lv).length = N.first + i := by rw [rowsOf_len, h.l1]
  have e1 : rowAt (rowsOf N lv ++ [top]) s = top := by rw [rowAt_snoc' (by omega) (by omega), ht]
  refine PartOk.up (high := s) (hq.keep R fun x hx => (rowAt_snoc' (by omega) (by omega)).symm) ⟨by omega, by omega, hs⟩ ?_
  rw [e1, rowAt_end' hl]
theorem BarsI.done {N : Net} {k : Nat} {lv : List Int} {parts : List (List (List Int))} (h : BarsI N k lv parts N.ands.length) : BarsOk N k lv parts :=
  ⟨h.l1, h.l2, h.pos, h.part⟩
theorem BarsOk.small {N : Net} (R : N.Right) {k : Nat} {lv : List Int} {parts : List (List (List Int))} (h : BarsOk N k lv parts) : ∀ q ∈ parts, q.length ≤ k + 1 ∧ ∀ p ∈ q, p.length ≤ N.size := fun q hq => by
  obtain ⟨i, hi⟩ := List.mem_iff_getElem?.mp hq
  have hil := (List.getElem?_eq_some_iff.mp hi).1
  have hp := h.part i q hi
  unfold PartOk at hp
  split at hp
  · rw [hp]
    exact ⟨Nat.zero_le _, fun p h => by cases h⟩
  · obtain ⟨h1, h2, _⟩ := hp
    refine ⟨by omega, fun p hp => ?_⟩
    have := (h2 p hp).len R
    have := h.l2
    unfold Net.size
    omega
end Bf

set_option Elab.async false
set_option linter.all false
set_option maxRecDepth 100000
set_option maxHeartbeats 4000000
namespace Bf
open PySem PySem.Spec PyProof.Rows L2
/-! ### bars, made -/
theorem DS.ne_tup {H : Hp} {d c r : Addr} {xs : List V} (h : DS H d c) (e : H r = some (.tup xs)) : r ≠ d := fun z => by
  obtain ⟨l, el⟩ := h.at_
  rw [z, el] at e
  cases e
def spMade : Sp := fun vs H Q _ => ∃ (d c : Addr) (v : V) (N : Net) (k : Nat), vs = [.ref d, v, vI k] ∧ DS H d c ∧ Lay H v (netD N) ∧ N.Right ∧ N.size ≤ 400 ∧ k ≤ 4 ∧
  ∀ (r lw xv : Addr) (lv : List Int) (parts : List (List (List Int))) (H' : Hp), H' r = some (.tup [.ref lw, .ref xv]) → Lay H' (.ref lw) (pathD lv) → Lay H' (.ref xv) (partsD parts) → BarsOk N k lv parts → DS H' d c → Keep [d] H H' → Q (.ref r) H'
section
variable {P : Program} {w : World} {K : PySem.W.Frag} {mg : Str → Option Value} {base : Heap} {f : Addr} {fd : FuncData}
theorem ok_made (F : Fun K "_law_made_bars" "_law_made_bars" s_law_made_bars f fd) (T : Txt mg) (D_law_first : Dn P w K mg base "_law_first" ["_law_net_here"] 1 spFirst) (D_law_draw : Dn P w K mg base "_law_draw" ["_law_d", "_law_many"] 1 spDraw)
    (D_law_found_part : Dn P w K mg base "_law_found_part" ["_law_d", "_law_net_here", "_law_k", "_law_told", "_law_node", "_law_level"] 4 spFound) :
    FnOk P w K mg base CX0 5 f fd ["_law_d", "_law_net_here", "_law_k"] spMade := by
  refine F.ok sc_law_made_bars (fun vs H Q E h => ?_) (fun cdv AA outer s H vs Q E hr h => ?_)
  · obtain ⟨d, c, v, N, k, rfl, _⟩ := h
    rfl
  obtain ⟨d, c, v, N, k, rfl, hd, lN, RN, h400, hk, q⟩ := h
  refine ⟨_, (pss_cons (ps_set (i := 3) sc_law_made_bars.nd rfl (Or.inl rfl) (pe_dn D_law_first (hr.mono (by omega)) (by rfl) (pa_cons (pv 1) pa_nil)))
      (pss_cons (ps_set (i := 4) sc_law_made_bars.nd rfl (Or.inr rfl) (pe_op op_rep (pe_lst (pa_cons pe_int pa_nil)) (pv 3)))
      (pss_cons (ps_set (i := 5) sc_law_made_bars.nd rfl (Or.inl rfl) (pe_lst pa_nil))
      (pss_cons (ps_for PassesOwn.never rfl (pi_tup (pe_ix ix_tup (pv 1) pe_int (fun _ _ => rfl))) (pg_tup rfl (pgs_cons (pg_name (i := 6) sc_law_made_bars.nd rfl (Or.inl rfl)) (pgs_cons (pg_name (i := 7) sc_law_made_bars.nd rfl (Or.inl rfl)) pgs_nil))) (pss_cons (ps_asg (pe_tup (pa_cons (pe_callB call_len_seq (by rfl) T.n_len (by decide +kernel) (pa_cons (pv 4) pa_nil)) (pa_cons (pe_callB (cr_maxN rfl) (by rfl) T.n_max (by decide +kernel) (pa_cons (pe_ix ix_list (pv 4) (pe_op op_halfN (pv 6) pe_int) (fun _ _ => rfl)) (pa_cons (pe_ix ix_list (pv 4) (pe_op op_halfN (pv 7) pe_int) (fun _ _ => rfl)) pa_nil))) pa_nil))) (pg_tup rfl (pgs_cons (pg_name (i := 8) sc_law_made_bars.nd rfl (Or.inr rfl)) (pgs_cons (pg_name (i := 9) sc_law_made_bars.nd rfl (Or.inr rfl)) pgs_nil))))
      (pss_cons (ps_asg (pe_tup (pa_cons (pe_tup pa_nil) (pa_cons pe_int pa_nil))) (pg_tup rfl (pgs_cons (pg_name (i := 10) sc_law_made_bars.nd rfl (Or.inl rfl)) (pgs_cons (pg_name (i := 11) sc_law_made_bars.nd rfl (Or.inl rfl)) pgs_nil))))
      (C8.pss_cut (ps_if (PW.pt (pw_and (pt_cmpR op_gt (pv 9) pe_int (nomark _)) (pw_and1 (pt_cmpR op_ne (pe_dn D_law_draw (hr.mono (by omega)) (by rfl) (pa_cons (pv 0) (pa_cons pe_int pa_nil))) pe_int (nomark _))))) (pss_cons (ps_set (i := 11) sc_law_made_bars.nd rfl (Or.inl rfl) (pe_op op_add (pv 9) pe_int))
      (pss_cons (ps_set (i := 10) sc_law_made_bars.nd rfl (Or.inl rfl) (pe_dn D_law_found_part (hr.mono (by omega)) (by rfl) (pa_cons (pv 0) (pa_cons (pv 1) (pa_cons (pv 2) (pa_cons (pv 4) (pa_cons (pv 8) (pa_cons (pv 11) pa_nil))))))))
      (pss_one (ps_if (pt_cmpR op_eq (pe_callB call_len_seq (by rfl) T.n_len (by decide +kernel) (pa_cons (pv 10) pa_nil)) pe_int (nomark _)) (pss_cons (ps_set (i := 11) sc_law_made_bars.nd rfl (Or.inl rfl) (pv 9))
      (pss_cons (ps_set (i := 12) sc_law_made_bars.nd rfl (Or.inl rfl) (pe_ix ix_list (pe_lc (own := [("_law_literal", 13)]) (g := (gName 13)) rfl sc_law_made_bars.nd (pi_tup (pe_tup (pa_cons (pv 6) (pa_cons (pv 7) pa_nil)))) (blkOk_by (N := ["_law_d", "_law_net_here", "_law_k", "_law_first_here", "_law_told", "_law_parts", "_law_left", "_law_right", "_law_node", "_law_top", "_law_part", "_law_level", "_law_high", "_law_literal", "_law_path"]) (sc := defScope s_law_made_bars) (by decide +kernel)) (fun _ _ _ _ _ => (pg_name (i := 13) sc_law_made_bars.nd rfl (Or.inl rfl))) (fun _ _ _ _ _ => (pts_one (pt_cmpR op_eq (pe_ix (ix_list : IxR _ (rIxL K)) (pv 4) (pe_op op_halfN (pv 13) pe_int) (fun _ _ => rfl)) (pv 9) (nomark _)))) (fun _ _ _ _ _ => (pe_op op_halfN (pv 13) pe_int))) pe_int (fun _ _ => rfl)))
      (pss_one (ps_set (i := 10) sc_law_made_bars.nd rfl (Or.inl rfl) (pe_callTy call_tuple_of (by rfl) T.n_tuple (by decide +kernel) (pa_cons (pe_lc (own := [("_law_path", 14)]) (g := (gName 14)) (tt := tYes) rfl sc_law_made_bars.nd (pi_tup (pe_ix ix_list (pv 5) (pe_op op_sub (pv 12) (pv 3)) (fun _ _ => rfl))) (blkOk_by (N := ["_law_d", "_law_net_here", "_law_k", "_law_first_here", "_law_told", "_law_parts", "_law_left", "_law_right", "_law_node", "_law_top", "_law_part", "_law_level", "_law_high", "_law_literal", "_law_path"]) (sc := defScope s_law_made_bars) (by decide +kernel)) (fun _ _ _ _ _ => (pg_name (i := 14) sc_law_made_bars.nd rfl (Or.inl rfl))) (fun _ _ _ _ _ => pts_nil) (fun _ _ _ _ _ => (pe_op (op_catA : OpR _ _ (rCatA K)) (pv 14) (pe_tup (pa_cons (pv 8) pa_nil))))) pa_nil)))))) pss_nil)))) pss_nil)
      (pss_cons (ps_expr (pe_bm PySem.F.plainAttrs_list PySem.F.slot_list_append PySem.F.type_list_append mt_append (pv 4) (pa_cons (pv 11) pa_nil)))
      (pss_one (ps_expr (pe_bm PySem.F.plainAttrs_list PySem.F.slot_list_append PySem.F.type_list_append mt_append (pv 5) (pa_cons (pv 10) pa_nil)))))))))
      (pss_one (ps_ret (pe_tup (pa_cons (pe_callTy call_tuple_of (by rfl) T.n_tuple (by decide +kernel) (pa_cons (pe_slice sl_list (pv 4) (po_some (pv 3)) po_none) pa_nil)) (pa_cons (pe_callTy call_tuple_of (by rfl) T.n_tuple (by decide +kernel) (pa_cons (pv 5) pa_nil)) pa_nil))))))))), ?_⟩
  refine ⟨_, rfl, v, N, rfl, lN, ?_⟩
  obtain ⟨p, pi, pr, pa, po, pcl, vr, va, vo, vc, rfl, hN⟩ := lN.net
  have hl := hN.lens
  have hf4 : N.first ≤ 400 := by unfold Net.size at h400; omega
  refine ⟨by show 1 ≤ sizeLine; decide, fun z0 hz0 => ?_⟩
  have sz := same_new hz0 (.lst [V.int 0])
  refine ⟨_, rfl, z0, _, [V.int 0], rfl, rfl, upd_same, by omega, by omega, ?_, fun A hA => ?_⟩
  · show 1 * ((N.first : Int)).toNat ≤ _
    exact le1000 (by omega)
  have eA := upd_same (H := upd H z0 (.lst [V.int 0])) (a := A) (o := .lst (List.replicate ((N.first : Int)).toNat [V.int 0]).flatten)
  have sA := sz.trans (same_new hA (.lst (List.replicate ((N.first : Int)).toNat [V.int 0]).flatten))
  have hA0 : H A = none := sz.free hA
  rw [show ((N.first : Int)).toNat = N.first from rfl, rep_zeroZ] at eA sA ⊢
  generalize upd (upd H z0 (.lst [V.int 0])) A (.lst ((List.replicate N.first (0 : Int)).map V.int)) = H2 at eA sA ⊢
  refine ⟨Nat.zero_le _, fun B hB => ?_⟩
  have hB0 : H B = none := sA.free hB
  have nBA : B ≠ A := (ne_of_none eA hB).symm
  have sB := sA.trans (same_new hB (.lst []))
  have eA2 := same_new hB (.lst []) _ _ eA
  have eB2 : Acc B partD [] (upd H2 B (.lst [])) := .nil
  generalize upd H2 B (.lst []) = H3 at sB eA2 eB2 ⊢
  have hd3 := hd.same sB
  obtain ⟨nAd, nAc⟩ := hd.new hA0
  obtain ⟨nBd, nBc⟩ := hd.new hB0
  have hN3 := hN.keep (.same sB)
  refine ⟨_, rfl, p, _, _, _, rfl, rfl, SqT.of hN3.top, atI_nat (j := 3) rfl, pa, rfl, ⟨_, SqT.of hN3.ha⟩, for_it (walk_tup (xs := va)) (fun i σ' H' => ∃ (v6 v7 v8 v9 v10 v11 v12 : Option V) (lv : List Int) (parts : List (List (List Int))), σ' = [some (.ref d), some (.ref p), some (vI k), some (vI N.first), some (.ref A), some (.ref B), v6, v7, v8, v9, v10, v11, v12, none, none] ∧ DS H' d c ∧ Keep [d] H H' ∧ H' A = some (.lst ((rowsOf N lv).map V.int)) ∧ Acc B partD parts H' ∧ BarsI N k lv parts i)
    ⟨_, _, _, _, _, _, _, [], [], rfl, hd3, .of_same sB, by rw [eA2]; unfold rowsOf; rw [List.append_nil], eB2, .start⟩ (fun i σ' H' hi pv => ?_) (fun i x σ' H4 H5 hi pv y => ?_) (fun σ' H4 pv => ?_)⟩
  · obtain ⟨_, _, _, _, _, _, _, _, _, _, hd4, k4, _⟩ := pv
    exact SqT.of (hN.keep (k4.tup1 hd)).ha
  · obtain ⟨v6, v7, v8, v9, v10, v11, v12, lv, parts, rfl, hd4, k4, eA4, hB4, BI⟩ := pv
    obtain ⟨rfl, hx⟩ := y
    have hi' : i < N.ands.length := by omega
    obtain ⟨qq, pp, rfl, hpp, eqq⟩ := (hN.keep (k4.tup1 hd)).and_ hx
    have po := RN.ands i pp hpp
    have eo := ops_and (N := N) (x := N.first + i) (by omega) (by rw [show N.first + i - N.first = i by omega]; exact hpp)
    refine ⟨qq, _, rfl, SqT.of eqq, rfl, _, _, rfl, _, _, rfl, rfl, ?_⟩
    have hlr : (rowsOf N lv).length = N.first + i := by rw [rowsOf_len, BI.l1]
    have o1 : pp.1 / 2 ∈ N.ops (N.first + i) := by rw [eo]; simp
    have o2 : pp.2 / 2 ∈ N.ops (N.first + i) := by rw [eo]; simp
    have lt1 := ops_lt RN o1
    have lt2 := ops_lt RN o2
    obtain ⟨ta, hta⟩ : ∃ n : Nat, rowAt (rowsOf N lv) ((pp.1 / 2 : Nat) : Int) = (n : Int) := ⟨_, (Int.toNat_of_nonneg (BI.nn _ (rowAt_mem (by omega)))).symm⟩
    obtain ⟨tb, htb⟩ : ∃ n : Nat, rowAt (rowsOf N lv) ((pp.2 / 2 : Nat) : Int) = (n : Int) := ⟨_, (Int.toNat_of_nonneg (BI.nn _ (rowAt_mem (by omega)))).symm⟩
    have at1 := rowAt_at (rows := rowsOf N lv) (x := ((pp.1 / 2 : Nat) : Int)) (by omega) (by omega)
    have at2 := rowAt_at (rows := rowsOf N lv) (x := ((pp.2 / 2 : Nat) : Int)) (by omega) (by omega)
    rw [hta] at at1
    rw [htb] at at2
    refine ⟨_, rfl, A, _, rfl, .inl (SqL.of eA4), _, rfl, _, rfl, pp.1, rfl, rfl, A, _, _, _, rfl, rfl, SqL.of eA4, at1, _, rfl, _, rfl, pp.2, rfl, rfl, A, _, _, _, rfl, rfl, SqL.of eA4, at2, ta, tb, rfl, by show 2 ≤ sizeLine; decide, fun t0 ht0 => ?_⟩
    have st0 := same_new ht0 (.tup [V.int (((rowsOf N lv).map V.int).length : Int), V.int ((max ta tb : Nat) : Int)])
    rw [List.length_map, hlr] at st0 ⊢
    have et0 := upd_same (H := H5) (a := t0) (o := .tup [V.int ((N.first + i : Nat) : Int), V.int ((max ta tb : Nat) : Int)])
    refine ⟨t0, _, rfl, SqT.of et0, rfl, _, _, rfl, _, _, rfl, rfl, ?_⟩
    obtain ⟨node, hnode⟩ : ∃ n, n = N.first + i := ⟨_, rfl⟩
    obtain ⟨top, htop⟩ : ∃ n, n = max ta tb := ⟨_, rfl⟩
    rw [← hnode, ← htop] at st0 ⊢
    rw [← hnode] at hlr o1 o2 lt1 lt2 eo
    clear et0
    generalize upd H5 t0 (.tup [V.int ((node : Nat) : Int), V.int ((top : Nat) : Int)]) = H6 at st0 ⊢
    refine ⟨Nat.zero_le _, fun e0 he0 => ⟨by show 2 ≤ sizeLine; decide, fun t1 ht1 => ?_⟩⟩
    have se := st0.trans (same_new he0 (.tup []))
    have e0e := same_new ht1 (.tup [.ref e0, V.int 1]) _ _ (upd_same (H := H6) (a := e0) (o := .tup []))
    have s7 := se.trans (same_new ht1 (.tup [.ref e0, V.int 1]))
    have et1 := upd_same (H := upd H6 e0 (.tup [])) (a := t1) (o := .tup [.ref e0, V.int 1])
    refine ⟨t1, _, rfl, SqT.of et1, rfl, _, _, rfl, _, _, rfl, rfl, ?_⟩
    clear et1
    generalize upd (upd H6 e0 (.tup [])) t1 (.tup [.ref e0, V.int 1]) = H7 at e0e s7 ⊢
    refine ⟨fun σ' H' => ∃ (v12 : Option V) (e : Addr) (level : Int) (part : List (List Int)), σ' = [some (.ref d), some (.ref p), some (vI k), some (vI N.first), some (.ref A), some (.ref B), some (vI pp.1), some (vI pp.2), some (vI node), some (vI top), some (.ref e), some (.int level), v12, none, none] ∧ DS H' d c ∧ Keep [d] H5 H' ∧ Lay H' (.ref e) (partD part) ∧ 1 ≤ level ∧ PartOk N k (rowsOf N lv ++ [level]) (N.first + i) part, ?_, ?_⟩
    · refine ⟨_, rfl, _, _, rfl, rfl, _, rfl, ite2 (fun z => ?_) (fun z => ?_)⟩
      rotate_left
      · exact iteF ⟨v12, e0, 1, [], rfl, hd4.same s7, .of_same s7, .tup e0e .nil, by omega, BI.one⟩
      have z : (0 : Int) < (top : Int) := of_decide_eq_true z
      refine ⟨_, rfl, d, c, 6, rfl, hd4.same s7, by omega, by omega, fun r H8 r0 r1 hd8 k8 => ?_⟩
      have k8' : Keep [d] H5 H8 := (Keep.of_same s7).trans k8
      have e0e8 := k8 _ _ (by simp [(hd4.same s7).ne_tup e0e]) e0e
      refine ⟨rfl, _, rfl, ite2 (fun z2 => ?_) (fun z2 => ?_)⟩
      rotate_left
      · exact ⟨v12, e0, 1, [], rfl, hd8, k8', .tup e0e8 .nil, by omega, BI.one⟩
      refine ⟨_, rfl, _, _, rfl, rfl, ?_⟩
      refine ⟨_, rfl, _, rfl, _, rfl, _, rfl, _, rfl, _, rfl, d, c, A, .ref p, N, k, rowsOf N lv, node, (top : Int) + 1, rfl, hd8, hN.lay.keep' ((k4.trans k8').tup1 hd), RN, h400, hk, by omega, by unfold Net.size; omega, nAd, k8' _ _ (by simp [nAd]) eA4, hlr, fun r2 ps H9 lps hps hd9 k9 => ?_⟩
      have k9' := k8'.trans k9
      obtain ⟨r2', vps, er2', er2, lvps⟩ := id lps.part
      cases er2'
      have lvl : vps.length = ps.length := by simpa using lvps.len
      refine ⟨_, rfl, r2, _, rfl, .inr (SqT.of er2), rfl, _, rfl, ite2 (fun z3 => ?_) (fun z3 => ?_)⟩
      rotate_left
      · rcases hps with rfl | ⟨hpl, M, hp1, hp2, hp3⟩
        · exact absurd (decide_eq_true (by rw [lvl]; rfl)) z3
        refine ⟨v12, r2, (top : Int) + 1, ps, rfl, hd9, k9', lps, by omega, ?_⟩
        unfold PartOk
        rw [← hnode, rowAt_end' hlr, if_neg (by omega)]
        exact ⟨hpl, hp1, hp3⟩
      refine ⟨_, rfl, ?_⟩
      refine ⟨_, rfl, _, rfl, by show 2 ≤ sizeLine; decide, fun t2 ht2 => ?_⟩
      have s2' := same_new ht2 (.tup [vI pp.1, vI pp.2])
      refine ⟨t2, rfl, ⟨_, SqT.of upd_same⟩, fun D hD => ?_⟩
      have k10 := k9'.trans (.of_same s2')
      have et2 := upd_same (H := H9) (a := t2) (o := .tup [vI pp.1, vI pp.2])
      have hd10 := hd9.same s2'
      generalize upd H9 t2 (.tup [vI pp.1, vI pp.2]) = H10 at hD k10 et2 hd10 ⊢
      have eA10 := k10 _ _ (by simp [nAd]) eA4
      refine lc_frows (walk_tup (xs := [vI pp.1, vI pp.2])) (rows := [pp.1, pp.2]) (f := intD) (g := fun x => x / 2) (h := intD) (p := fun x => decide (rowAt (rowsOf N lv) ((x / 2 : Nat) : Int) = (top : Int))) (fun H' s => SqT.of (s _ _ et2)) hD (LayAll.ints [pp.1, pp.2]) (by show 2 ≤ 1000; decide) (fun y n H' R' Z hn' s ly ky kn => ?_) (fun us H11 s11 eD lus => ?_)
      · obtain rfl := ly.int_inv
        have hlt : n / 2 < node := by
          rcases List.mem_cons.mp hn' with h | h
          · rw [h]; exact lt1
          · rw [List.mem_singleton.mp h]; exact lt2
        refine ⟨rfl, _, rfl, _, rfl, n, rfl, rfl, A, _, _, _, rfl, rfl, SqL.of (s _ _ eA10), rowAt_at (by omega) (by omega), _, rfl, rfl, _, rfl, ite2 (fun z => ?_) (fun z => ?_)⟩
        · have z := V.int.inj (of_decide_eq_true z)
          exact ⟨_, rfl, n, rfl, rfl, ky (decide_eq_true z) _ _ (.refl _) (.int _)⟩
        · exact kn (decide_eq_false fun e => z (decide_eq_true (congrArg V.int e))) _ (.refl _)
      rw [lay_intD lus] at eD
      have hex : ∃ (s : Nat) (rest : List Nat), ([pp.1, pp.2].filter fun x => decide (rowAt (rowsOf N lv) ((x / 2 : Nat) : Int) = (top : Int))).map (fun x => x / 2) = s :: rest := by
        by_cases ha : ta = top
        · exact ⟨_, _, by rw [List.filter_cons_of_pos (by rw [hta, ha]; simp)]; rfl⟩
        · have hb : tb = top := by omega
          exact ⟨pp.2 / 2, [], by rw [List.filter_cons_of_neg (by rw [hta]; simp; omega), List.filter_cons_of_pos (by rw [htb, hb]; simp)]; rfl⟩
      obtain ⟨s, rest, hsr⟩ := hex
      have hsm : s ∈ ([pp.1, pp.2].filter fun x => decide (rowAt (rowsOf N lv) ((x / 2 : Nat) : Int) = (top : Int))).map (fun x => x / 2) := by rw [hsr]; simp
      obtain ⟨n, hn1, rfl⟩ := List.mem_map.mp hsm
      obtain ⟨hn2, hn3⟩ := List.mem_filter.mp hn1
      have hn3 : rowAt (rowsOf N lv) ((n / 2 : Nat) : Int) = (top : Int) := of_decide_eq_true hn3
      have hno : n / 2 ∈ N.ops node := by
        rcases List.mem_cons.mp hn2 with h | h
        · rw [h]; exact o1
        · rw [List.mem_singleton.mp h]; exact o2
      generalize n / 2 = s at hsr hn3 hno
      rw [hsr] at eD
      obtain ⟨u1, u2, u3⟩ := BI.up RN (by rw [← hnode]; exact hno) hn3 z
      have hpi : s - N.first < parts.length := by rw [BI.l2]; exact u2
      have hpe : parts[s - N.first]? = some parts[s - N.first] := List.getElem?_eq_getElem hpi
      have hok := u3 _ hpe
      have hbo := BI.part _ _ hpe
      refine ⟨D, _, _, _, rfl, rfl, SqL.of eD, atI_nat (j := 0) rfl, ?_⟩
      generalize parts[s - N.first] = part0 at hpe hok hbo
      have k11 := k10.trans (.of_same s11)
      have hd11 := hd10.same s11
      obtain ⟨vsB, eB, lB⟩ := hB4.keep k11 (k11.tup1 hd4) (by simp [nBd])
      obtain ⟨y0, hy0, ly0⟩ := lB.at_ (d := partD part0) (s - N.first) (by rw [List.getElem?_map, hpe]; rfl)
      obtain ⟨pq, vp, rfl, ep, lpp⟩ := ly0.part
      have hat : atI vsB ((s : Int) - (N.first : Int)) = some (.ref pq) := by
        rw [show (s : Int) - (N.first : Int) = ((s - N.first : Nat) : Int) by omega]
        exact atI_nat hy0
      have hsm : part0.length ≤ 5 ∧ ∀ q ∈ part0, q.length ≤ 400 ∧ q ≠ [] := by
        unfold PartOk at hbo
        split at hbo
        · rw [hbo]
          exact ⟨Nat.zero_le _, fun q hq => by cases hq⟩
        · obtain ⟨b1, b2, _⟩ := hbo
          refine ⟨by omega, fun q hq => ⟨?_, (b2 q hq).ne⟩⟩
          have := (b2 q hq).len RN
          unfold Net.size at h400
          omega
      refine ⟨_, rfl, _, rfl, _, rfl, _, _, rfl, rfl, B, _, _, _, rfl, rfl, SqL.of eB, hat, pq, rfl, ⟨_, SqT.of ep⟩, fun D3 hD3 => ?_⟩
      refine lc_rows (walk_tup (xs := vp)) (rows := part0) (f := pathD) (g := fun q => q ++ [(node : Int)]) (h := pathD) (fun H' s => SqT.of (s _ _ ep)) hD3 lpp (by omega) (fun j y q0 H' R' Z hq s ly kk => ?_) (fun us3 H12 s12 eD3 lus3 => ?_)
      · obtain ⟨rr, rfl, er⟩ := ly.path
        have hqs := hsm.2 q0 (List.mem_of_getElem? hq)
        refine ⟨rfl, _, rfl, _, rfl, by show 1 ≤ sizeLine; decide, fun u hu => ?_⟩
        have su := same_new hu (.tup [vI node])
        refine rdCatN (SqT.of (su _ _ er)) (SqT.of upd_same) (by rw [List.length_map]; show _ + 1 ≤ 1000; omega) (by simpa using hqs.2) (by simp) fun pth hpth => kk _ _ (su.trans (same_new hpth _)) (Lay.mkPath ?_)
        rw [upd_same, List.map_append]
        rfl
      refine ⟨D3, _, rfl, .inl ⟨SqL.of eD3, fun t ht => ?_⟩⟩
      have st := s12.trans (same_new ht (.tup us3))
      exact ⟨_, t, (top : Int), part0.map fun q => q ++ [(node : Int)], rfl, hd11.same st, k11.trans (.of_same st), .tup upd_same (lus3.keep' (.same (same_new ht _))), by omega, by rw [hnode]; exact hok⟩
    · rintro σ' H8 ⟨v12', e, level, part, rfl, hd8, k8, lpt, hlev, hpok⟩
      have eA8 := k8 _ _ (by simp [nAd]) eA4
      have hB8 := hB4.keep k8 (k8.tup1 hd4) (by simp [nBd])
      refine ⟨_, rfl, .inl ⟨rfl, _, SqL.of eA8⟩, _, rfl, A, _, _, rfl, rfl, eA8, len1000 (by rw [List.length_map]; unfold Net.size at h400; omega), ?_⟩
      have kA : Keep [A] H8 (upd H8 A (.lst ((rowsOf N lv).map V.int ++ [V.int level]))) := Keep.at1
      have tA : KeepT H8 (upd H8 A (.lst ((rowsOf N lv).map V.int ++ [V.int level]))) := .lst eA8
      have eA9 := upd_same (H := H8) (a := A) (o := .lst ((rowsOf N lv).map V.int ++ [V.int level]))
      generalize upd H8 A (.lst ((rowsOf N lv).map V.int ++ [V.int level])) = H9 at kA tA eA9 ⊢
      have hd9 := hd8.keep kA (by simp [nAd.symm]) (by simp [nAc.symm])
      obtain ⟨vs, eB, la, hBp, kp⟩ := (hB8.keep kA tA (by simp [nBA])).push (lpt.keep' tA) (by rw [BI.l2]; unfold Net.size at h400; omega)
      refine ⟨_, rfl, .inl ⟨rfl, _, SqL.of eB⟩, _, rfl, B, _, _, rfl, rfl, eB, la, ?_⟩
      refine ⟨_, _, _, _, _, _, _, lv ++ [level], parts ++ [part], rfl, hd9.keep (S := [B]) Keep.at1 (by simp [nBd.symm]) (by simp [nBc.symm]), ((((k4.trans k8).cat kA).cat (Keep.at1 (a := B))).thin (by simp [hA0, hB0])), ?_, hBp, BI.push RN hlev hpok⟩
      rw [upd_ne nBA.symm, eA9, rowsOf_snoc, List.map_append]
      rfl
  · obtain ⟨v6, v7, v8, v9, v10, v11, v12, lv, parts, rfl, hd4, k4, eA4, hB4, BI⟩ := pv
    rw [hl.2.1] at BI
    obtain ⟨vsB, eB, lB⟩ := hB4
    refine ⟨_, rfl, _, rfl, _, rfl, A, _, rfl, SqL.of eA4, fun S hS => ?_⟩
    have ecut : cutV ((rowsOf N lv).map V.int) (some (N.first : Int)) none = lv.map V.int := by
      rw [cutV_from]
      unfold rowsOf
      rw [List.map_append, List.drop_left' (by simp)]
    rw [ecut]
    have sS := same_new hS (.lst (lv.map V.int))
    refine ⟨S, _, rfl, .inl ⟨SqL.of upd_same, fun t1 ht1 => ?_⟩⟩
    have s1 := sS.trans (same_new ht1 (.tup (lv.map V.int)))
    have e1 := upd_same (H := upd H4 S (.lst (lv.map V.int))) (a := t1) (o := .tup (lv.map V.int))
    generalize upd (upd H4 S (.lst (lv.map V.int))) t1 (.tup (lv.map V.int)) = H5 at s1 e1 ⊢
    refine ⟨_, rfl, B, _, rfl, .inl ⟨SqL.of (s1 _ _ eB), fun t2 ht2 => ?_⟩⟩
    have s2 := s1.trans (same_new ht2 (.tup vsB))
    refine ⟨by show 2 ≤ sizeLine; decide, fun r hr => ?_⟩
    have s3 := s2.trans (same_new hr (.tup [.ref t1, .ref t2]))
    exact q r t1 t2 lv parts _ upd_same (Lay.mkPath (same_new hr _ _ _ (same_new ht2 _ _ _ e1))) (.tup (same_new hr _ _ _ upd_same) (lB.keep' (.same s3))) BI.done (hd4.same s3) (k4.trans (.of_same s3))
end

end Bf

set_option Elab.async false
set_option linter.all false
set_option maxRecDepth 100000
set_option maxHeartbeats 4000000
namespace Bf
open PySem PySem.Spec PyProof.Rows L2
/-! ### slices and sums of tuples, as they lie -/
theorem rdSlX {K : PySem.W.Frag} {H : Hp} {b : Addr} {xs : List V} {lo hi : Option Int} {Q : VK} (hb : H b = some (.tup xs)) (k : ∀ (t : Addr) (H' : Hp), Same H H' → H' t = some (.tup (cutV xs lo hi)) → Q (.ref t) H') : rSlA K (.ref b) lo hi H Q := by
  refine ⟨b, xs, rfl, SqT.of hb, fun hw => ?_, fun hw p hp => k p _ (fun b u q => by rw [upd_ne (ne_of_none q hp)]; exact q) upd_same⟩
  refine k b H (Same.refl _) ?_
  unfold cutV
  rw [hw.1, hw.2, List.drop_zero, Nat.sub_zero, List.take_length]
  exact hb
theorem rdCatX {K : PySem.W.Frag} {H : Hp} {a b : Addr} {xs ys : List V} {Q : VK} (ha : H a = some (.tup xs)) (hb : H b = some (.tup ys)) (hl : xs.length + ys.length ≤ 1000) (k : ∀ (t : Addr) (H' : Hp), Same H H' → H' t = some (.tup (xs ++ ys)) → Q (.ref t) H') : rCatA K (.ref a) (.ref b) H Q := by
  refine ⟨a, b, xs, ys, rfl, rfl, SqT.of ha, SqT.of hb, le1000 hl, fun e => ?_, fun _ e => ?_, fun _ _ p hp => k p _ (fun b u q => by rw [upd_ne (ne_of_none q hp)]; exact q) upd_same⟩
  · subst e
    exact k b H (.refl _) hb
  · subst e
    exact k a H (.refl _) (by rw [List.append_nil]; exact ha)
theorem cutV_succ (xs : List V) (k : Nat) : cutV xs (some ((k : Int) + 1)) none = xs.drop (k + 1) := cutV_from xs (k + 1)
end Bf

set_option Elab.async false
set_option linter.all false
set_option maxRecDepth 100000
set_option maxHeartbeats 4000000
namespace Bf
open PySem PySem.Spec PyProof.Rows L2
/-! ### bent bars -/
section
variable {P : Program} {w : World} {K : PySem.W.Frag} {mg : Str → Option Value} {base : Heap} {f : Addr} {fd : FuncData}
def spBentP : Sp := fun vs H Q _ => ∃ (d c : Addr) (v pw : V) (N : Net) (p : List Int), vs = [.ref d, v, pw] ∧ DS H d c ∧ Lay H v (netD N) ∧ N.size ≤ 400 ∧ Lay H pw (pathD p) ∧ 1 ≤ p.length ∧ p.length ≤ 400 ∧
  ∀ (r : Addr) (p' : List Int) (H' : Hp), Lay H' (.ref r) (pathD p') → p'.length ≤ p.length + 1 → DS H' d c → Keep [d] H H' → Q (.ref r) H'
theorem ok_bentP (F : Fun K "_law_bent_path" "_law_bent_path" s_law_bent_path f fd) (T : Txt mg) (D_law_draw : Dn P w K mg base "_law_draw" ["_law_d", "_law_many"] 1 spDraw) (D_law_first : Dn P w K mg base "_law_first" ["_law_net_here"] 1 spFirst)
    (D_law_pick : Dn P w K mg base "_law_pick" ["_law_d", "_law_row"] 2 (spPickA K)) :
    FnOk P w K mg base CX0 3 f fd ["_law_d", "_law_net_here", "_law_path"] spBentP := by
  refine F.ok sc_law_bent_path (fun vs H Q E h => ?_) (fun cdv A outer s H vs Q E hr h => ?_)
  · obtain ⟨d, c, v, pw, N, p, rfl, _⟩ := h
    rfl
  obtain ⟨d, c, v, pw, N, p, rfl, hd, lN, h400, lp, hp1, hp4, q⟩ := h
  refine ⟨_, (pss_cons (ps_set (i := 3) sc_law_bent_path.nd rfl (Or.inl rfl) (pe_callTy call_list_of (by rfl) T.n_list (by decide +kernel) (pa_cons (pv 2) pa_nil)))
      (pss_cons (ps_set (i := 4) sc_law_bent_path.nd rfl (Or.inl rfl) (pe_dn D_law_draw (hr.mono (by omega)) (by rfl) (pa_cons (pv 0) (pa_cons pe_int pa_nil))))
      (pss_cons (ps_if (pt_cmpR op_eq (pv 4) pe_int (nomark _)) (pss_one (ps_ret (pe_slice sl_tupA (pv 2) (po_some pe_int) po_none))) pss_nil)
      (pss_cons (ps_if (pt_cmpR op_eq (pv 4) pe_int (nomark _)) (pss_one (ps_ret (pe_slice sl_tupA (pv 2) po_none (po_some (pe_un un_neg pe_int))))) pss_nil)
      (pss_cons (ps_set (i := 5) sc_law_bent_path.nd rfl (Or.inl rfl) (pe_dn D_law_draw (hr.mono (by omega)) (by rfl) (pa_cons (pv 0) (pa_cons (pe_callB call_len_seq (by rfl) T.n_len (by decide +kernel) (pa_cons (pv 3) pa_nil)) pa_nil))))
      (pss_cons (ps_set (i := 6) sc_law_bent_path.nd rfl (Or.inl rfl) (pe_op op_add (pe_dn D_law_first (hr.mono (by omega)) (by rfl) (pa_cons (pv 1) pa_nil)) (pe_callB call_len_seq (by rfl) T.n_len (by decide +kernel) (pa_cons (pe_ix ix_tup (pv 1) pe_int (fun _ _ => rfl)) pa_nil))))
      (pss_cons (ps_set (i := 7) sc_law_bent_path.nd rfl (Or.inl rfl) (pe_lst (pa_cons (pe_op op_add (pe_ix ix_list (pv 3) (pv 5) (fun _ _ => rfl)) pe_int) (pa_cons (pe_op op_sub (pe_ix ix_list (pv 3) (pv 5) (fun _ _ => rfl)) pe_int) (pa_cons pe_int (pa_cons (pe_un un_neg pe_int) (pa_cons (pv 6) (pa_cons pe_int (pa_cons (pe_dn D_law_draw (hr.mono (by omega)) (by rfl) (pa_cons (pv 0) (pa_cons (pv 6) pa_nil))) pa_nil)))))))))
      (C8.pss_cut (ps_if (pt_cmpR op_eq (pv 4) pe_int (nomark _)) (pss_one (ps_asg (pe_dn D_law_pick (hr.mono (by omega)) (by rfl) (pa_cons (pv 0) (pa_cons (pv 7) pa_nil))) (pg_sub (pv 3) (pv 5) set_list))) (pss_one (ps_expr (pe_bm PySem.F.plainAttrs_list PySem.F.slot_list_insert PySem.F.type_list_insert mt_insert (pv 3) (pa_cons (pv 5) (pa_cons (pe_ix ix_list (pv 3) (pv 5) (fun _ _ => rfl)) pa_nil))))))
      (pss_one (ps_ret (pe_callTy call_tuple_of (by rfl) T.n_tuple (by decide +kernel) (pa_cons (pv 3) pa_nil)))))))))))), ?_⟩
  obtain ⟨r, rfl, er⟩ := lp.path
  refine ⟨_, rfl, r, _, rfl, .inr (SqT.of er), fun L hL => ?_⟩
  have sL := same_new hL (.lst (p.map V.int))
  obtain ⟨nLd, nLc⟩ := hd.new hL
  refine ⟨_, rfl, d, c, 4, rfl, hd.same sL, by omega, by omega, fun tn H2 t0 t1 hd2 k2 => ?_⟩
  have k02 := (Keep.of_same sL).trans k2
  have er2 := k02 _ _ (by simp [hd.ne_tup er]) er
  have eL2 := k2 _ _ (by simp [nLd]) (upd_same (H := H) (a := L) (o := .lst (p.map V.int)))
  refine ⟨_, rfl, rfl, _, rfl, ite2 (fun z => ?_) (fun z => ?_)⟩
  · refine ⟨_, rfl, 1, rfl, ?_⟩
    delta tNoPart
    refine rdSlX er2 fun t H3 s3 et => ?_
    rw [show cutV (p.map V.int) (some 1) none = (p.drop 1).map V.int by
      have := cutV_from (p.map V.int) 1
      rw [show (some 1 : Option Int) = some ((1 : Nat) : Int) from rfl, this, ← List.map_drop]] at et
    exact q t (p.drop 1) _ (Lay.mkPath et) (by rw [List.length_drop]; omega) (hd2.same s3) (k02.trans (.of_same s3))
  refine ⟨_, rfl, rfl, _, rfl, ite2 (fun z => ?_) (fun z => ?_)⟩
  · refine ⟨_, rfl, _, rfl, _, rfl, ?_⟩
    refine rdSlX er2 fun t H3 s3 et => ?_
    rw [cutV_init, show (p.map V.int).dropLast = p.dropLast.map V.int from (List.map_dropLast ..).symm] at et
    exact q t p.dropLast _ (Lay.mkPath et) (by rw [List.length_dropLast]; omega) (hd2.same s3) (k02.trans (.of_same s3))
  refine ⟨_, rfl, _, rfl, L, _, rfl, .inl (SqL.of eL2), d, c, _, rfl, hd2, by rw [List.length_map]; omega, by rw [List.length_map]; omega, fun x H3 x0 x1 hd3 k3 => ?_⟩
  obtain ⟨at_, rfl⟩ := Int.eq_ofNat_of_zero_le x0
  rw [List.length_map] at x1
  have hat : p[at_]? = some p[at_] := List.getElem?_eq_getElem (by omega)
  have hatm : atI (p.map V.int) (at_ : Int) = some (V.int p[at_]) := atI_nat (by rw [List.getElem?_map, hat]; rfl)
  generalize p[at_] = pa0 at hatm
  have k03 := k02.trans k3
  have eL3 := k3 _ _ (by simp [nLd]) eL2
  have lv := lN.keep' (k03.tup1 hd)
  obtain ⟨pp, pi, pr, pa, po, pcl, vr, va, vo, vc, rfl, hN⟩ := lv.net
  have hl := hN.lens
  refine ⟨_, rfl, .ref pp, N, rfl, lv, _, rfl, pp, _, _, _, rfl, rfl, SqT.of hN.top, atI_nat (j := 3) rfl, pa, _, rfl, .inr (SqT.of hN.ha), _, _, rfl, rfl, ?_⟩
  have em : V.int ((N.first : Int) + (va.length : Int)) = vI N.size := congrArg V.int (by rw [hl.2.1]; unfold Net.size; omega)
  dsimp only
  rw [em]
  refine ⟨_, rfl, _, rfl, L, _, _, _, rfl, rfl, SqL.of eL3, hatm, _, _, rfl, rfl, _, rfl, _, rfl, L, _, _, _, rfl, rfl, SqL.of eL3, hatm, _, _, rfl, rfl, _, rfl, _, rfl, _, rfl, _, rfl, d, c, _, rfl, hd3, by unfold Net.size Net.first; omega, by omega, fun u H4 u0 u1 hd4 k4 => ⟨by show 7 ≤ sizeLine; decide, fun O hO => ?_⟩⟩
  have k04 := k03.trans k4
  have eL4 := k4 _ _ (by simp [nLd]) eL3
  have sO := same_new hO (.lst [V.int (pa0 + 1), V.int (pa0 - 1), V.int 0, V.int (-1), vI N.size, V.int 1000000, V.int u])
  have eO := upd_same (H := H4) (a := O) (o := .lst [V.int (pa0 + 1), V.int (pa0 - 1), V.int 0, V.int (-1), vI N.size, V.int 1000000, V.int u])
  obtain ⟨nOd, nOc⟩ := hd4.new hO
  have eL5 := sO _ _ eL4
  have hd5 := hd4.same sO
  have k05 := k04.trans (.of_same sO)
  generalize upd H4 O (.lst [V.int (pa0 + 1), V.int (pa0 - 1), V.int 0, V.int (-1), vI N.size, V.int 1000000, V.int u]) = H5 at sO eO eL5 hd5 k05 ⊢
  refine ⟨fun σ' H' => ∃ p' : List Int, σ' = [some (.ref d), some (.ref pp), some (.ref r), some (.ref L), some (.int tn), some (vI at_), some (vI N.size), some (.ref O)] ∧ DS H' d c ∧ Keep [d] H H' ∧ H' L = some (.lst (p'.map V.int)) ∧ p'.length ≤ p.length + 1, ?_, ?_⟩
  · refine ⟨_, rfl, rfl, _, rfl, ite2 (fun z => ?_) (fun z => ?_)⟩
    · refine ⟨_, rfl, _, rfl, d, c, O, ([pa0 + 1, pa0 - 1, 0, -1, (N.size : Int), 1000000, u] : List Int).map V.int, rfl, hd5, nOd, .inl (SqL.of eO), by show 1 ≤ 7; decide, by show 7 ≤ 1000; decide, fun ko y H6 hy hd6 k6 => ?_⟩
      obtain ⟨g, _, rfl⟩ := mapAt hy
      have eL6 := k6 _ _ (by simp [nLd]) eL5
      refine ⟨_, rfl, _, rfl, L, _, _, at_, rfl, rfl, eL6, ixN_nat (by rw [List.length_map]; omega), ?_⟩
      refine ⟨p.set at_ g, rfl, hd6.keep (S := [L]) Keep.at1 (by simp [nLd.symm]) (by simp [nLc.symm]), ((k05.trans k6).cat (Keep.at1 (a := L))).thin (by simp [hL]), ?_, by rw [List.length_set]; omega⟩
      rw [upd_same, List.map_set]
    · refine ⟨_, rfl, .inl ⟨rfl, _, SqL.of eL5⟩, _, rfl, _, rfl, _, rfl, L, _, _, _, rfl, rfl, SqL.of eL5, hatm, L, _, _, _, rfl, rfl, eL5, len1000 (by rw [List.length_map]; omega), by omega, by omega, ?_⟩
      refine ⟨p.take at_ ++ [pa0] ++ p.drop at_, rfl, hd5.keep (S := [L]) Keep.at1 (by simp [nLd.symm]) (by simp [nLc.symm]), (k05.cat (Keep.at1 (a := L))).thin (by simp [hL]), ?_, ?_⟩
      · rw [upd_same, List.map_append, List.map_append, List.map_take, List.map_drop]
        rfl
      · rw [List.length_append, List.length_append, List.length_take, List.length_drop, List.length_singleton]
        omega
  rintro σ' H6 ⟨p', rfl, hd6, k6, eL6, hl6⟩
  refine ⟨_, rfl, L, _, rfl, .inl ⟨SqL.of eL6, fun t ht => ?_⟩⟩
  exact q t p' _ (Lay.mkPath upd_same) hl6 (hd6.same (same_new ht _)) (k6.trans (.of_same (same_new ht _)))
end

section
variable {P : Program} {w : World} {K : PySem.W.Frag} {mg : Str → Option Value} {base : Heap} {f : Addr} {fd : FuncData}
def spBentQ : Sp := fun vs H Q _ => ∃ (d c : Addr) (v xv : V) (N : Net) (ps : List (List Int)), vs = [.ref d, v, xv] ∧ DS H d c ∧ Lay H v (netD N) ∧ N.size ≤ 400 ∧ Lay H xv (partD ps) ∧ ps.length ≤ 10 ∧ (∀ p ∈ ps, 1 ≤ p.length ∧ p.length ≤ 25) ∧
  ∀ (r : Addr) (ps' : List (List Int)) (H' : Hp), Lay H' (.ref r) (partD ps') → ps'.length ≤ 11 → (∀ p ∈ ps', p.length ≤ 50) → DS H' d c → Keep [d] H H' → Q (.ref r) H'
theorem ok_bentQ (F : Fun K "_law_bent_part" "_law_bent_part" s_law_bent_part f fd) (T : Txt mg) (D_law_draw : Dn P w K mg base "_law_draw" ["_law_d", "_law_many"] 1 spDraw)
    (D_law_pick : Dn P w K mg base "_law_pick" ["_law_d", "_law_row"] 2 (spPickA K)) (D_law_bent_path : Dn P w K mg base "_law_bent_path" ["_law_d", "_law_net_here", "_law_path"] 3 spBentP) :
    FnOk P w K mg base CX0 4 f fd ["_law_d", "_law_net_here", "_law_part"] spBentQ := by
  refine F.ok sc_law_bent_part (fun vs H Q E h => ?_) (fun cdv A outer s H vs Q E hr h => ?_)
  · obtain ⟨d, c, v, xv, N, ps, rfl, _⟩ := h
    rfl
  obtain ⟨d, c, v, xv, N, ps, rfl, hd, lN, h400, lx, hpl, hps, q⟩ := h
  refine ⟨_, (pss_cons (ps_set (i := 3) sc_law_bent_part.nd rfl (Or.inl rfl) (pe_dn D_law_draw (hr.mono (by omega)) (by rfl) (pa_cons (pv 0) (pa_cons pe_int pa_nil))))
      (pss_cons (ps_if (pt_cmpR op_eq (pe_callB call_len_seq (by rfl) T.n_len (by decide +kernel) (pa_cons (pv 2) pa_nil)) pe_int (nomark _)) (pss_one (ps_ret (pe_dn D_law_pick (hr.mono (by omega)) (by rfl) (pa_cons (pv 0) (pa_cons (pe_lst (pa_cons (pe_tup (pa_cons (pe_tup pa_nil) pa_nil)) (pa_cons (pe_tup (pa_cons (pe_tup (pa_cons pe_int pa_nil)) pa_nil)) (pa_cons (pe_tup (pa_cons (pe_tup pa_nil) (pa_cons (pe_tup pa_nil) (pa_cons (pe_tup pa_nil) pa_nil)))) pa_nil)))) pa_nil))))) pss_nil)
      (pss_cons (ps_par (i := 4) (j := 5) (by rfl) sc_law_bent_part.nd rfl rfl (by decide) rfl rfl (pa_cons (pe_dn D_law_draw (hr.mono (by omega)) (by rfl) (pa_cons (pv 0) (pa_cons (pe_callB call_len_seq (by rfl) T.n_len (by decide +kernel) (pa_cons (pv 2) pa_nil)) pa_nil))) (pa_cons (pe_dn D_law_draw (hr.mono (by omega)) (by rfl) (pa_cons (pv 0) (pa_cons (pe_callB call_len_seq (by rfl) T.n_len (by decide +kernel) (pa_cons (pv 2) pa_nil)) pa_nil))) pa_nil)) (by rfl))
      (pss_cons (ps_if (pt_cmpR op_eq (pv 3) pe_int (nomark _)) (pss_one (ps_ret (pe_op op_catA (pe_slice sl_tupA (pv 2) po_none (po_some (pv 4))) (pe_slice sl_tupA (pv 2) (po_some (pe_op op_add (pv 4) pe_int)) po_none)))) pss_nil)
      (pss_cons (ps_if (pt_cmpR op_eq (pv 3) pe_int (nomark _)) (pss_one (ps_ret (pe_op op_catA (pv 2) (pe_tup (pa_cons (pe_ix ix_tup (pv 2) (pv 4) (fun _ _ => rfl)) pa_nil))))) pss_nil)
      (pss_cons (ps_if (pt_cmpR op_eq (pv 3) pe_int (nomark _)) (pss_one (ps_ret (pe_op op_catA (pe_op op_catA (pe_slice sl_tupA (pv 2) po_none (po_some (pv 4))) (pe_tup (pa_cons (pe_ix ix_tup (pv 2) (pv 5) (fun _ _ => rfl)) pa_nil))) (pe_slice sl_tupA (pv 2) (po_some (pe_op op_add (pv 4) pe_int)) po_none)))) pss_nil)
      (pss_cons (ps_if (pt_cmpR op_eq (pv 3) pe_int (nomark _)) (pss_one (ps_ret (pe_tup pa_nil))) pss_nil)
      (pss_cons (ps_if (PW.pt (pw_and (pt_cmpR op_eq (pv 3) pe_int (nomark _)) (pw_and1 (pt_cmpR op_ne (pv 4) (pv 5) (nomark _))))) (pss_one (ps_ret (pe_op op_catA (pe_op op_catA (pe_slice sl_tupA (pv 2) po_none (po_some (pv 4))) (pe_tup (pa_cons (pe_op op_catA (pe_slice sl_tupA (pe_ix ix_tup (pv 2) (pv 4) (fun _ _ => rfl)) po_none (po_some (pe_un un_neg pe_int))) (pe_ix ix_tup (pv 2) (pv 5) (fun _ _ => rfl))) pa_nil))) (pe_slice sl_tupA (pv 2) (po_some (pe_op op_add (pv 4) pe_int)) po_none)))) pss_nil)
      (pss_one (ps_ret (pe_op op_catA (pe_op op_catA (pe_slice sl_tupA (pv 2) po_none (po_some (pv 4))) (pe_tup (pa_cons (pe_dn D_law_bent_path (hr.mono (by omega)) (by rfl) (pa_cons (pv 0) (pa_cons (pv 1) (pa_cons (pe_ix ix_tup (pv 2) (pv 4) (fun _ _ => rfl)) pa_nil)))) pa_nil))) (pe_slice sl_tupA (pv 2) (po_some (pe_op op_add (pv 4) pe_int)) po_none)))))))))))), ?_⟩
  obtain ⟨xq, vx, rfl, ex, lxx⟩ := id lx.part
  have lvx : vx.length = ps.length := by simpa using lxx.len
  refine ⟨_, rfl, d, c, 7, rfl, hd, by omega, by omega, fun tn H1 t0 t1 hd1 k1 => ?_⟩
  have nxd := hd.ne_tup ex
  have ex1 := k1 _ _ (by simp [nxd]) ex
  refine ⟨_, rfl, xq, _, rfl, .inr (SqT.of ex1), rfl, _, rfl, ite2 (fun z => ?_) (fun z => ?_)⟩
  · refine ⟨_, rfl, ?_⟩
    refine ⟨Nat.zero_le _, fun a1 ha1 => ?_⟩
    have sa1 := same_new ha1 (.tup [])
    have ea1 := upd_same (H := H1) (a := a1) (o := .tup [])
    have st1 := sa1
    generalize upd H1 a1 (.tup []) = G1 at sa1 ea1 st1  ⊢
    refine ⟨by show 1 ≤ sizeLine; decide, fun a2 ha2 => ?_⟩
    have sa2 := same_new ha2 (.tup [.ref a1])
    have ea2 := upd_same (H := G1) (a := a2) (o := .tup [.ref a1])
    have ea1 := sa2 _ _ ea1
    have st2 := st1.trans sa2
    generalize upd G1 a2 (.tup [.ref a1]) = G2 at sa2 ea2 st2 ea1 ⊢
    refine ⟨by show 1 ≤ sizeLine; decide, fun a3 ha3 => ?_⟩
    have sa3 := same_new ha3 (.tup [V.int 1])
    have ea3 := upd_same (H := G2) (a := a3) (o := .tup [V.int 1])
    have ea1 := sa3 _ _ ea1
    have ea2 := sa3 _ _ ea2
    have st3 := st2.trans sa3
    generalize upd G2 a3 (.tup [V.int 1]) = G3 at sa3 ea3 st3 ea1 ea2 ⊢
    refine ⟨by show 1 ≤ sizeLine; decide, fun a4 ha4 => ?_⟩
    have sa4 := same_new ha4 (.tup [.ref a3])
    have ea4 := upd_same (H := G3) (a := a4) (o := .tup [.ref a3])
    have ea1 := sa4 _ _ ea1
    have ea2 := sa4 _ _ ea2
    have ea3 := sa4 _ _ ea3
    have st4 := st3.trans sa4
    generalize upd G3 a4 (.tup [.ref a3]) = G4 at sa4 ea4 st4 ea1 ea2 ea3 ⊢
    refine ⟨Nat.zero_le _, fun a5 ha5 => ?_⟩
    have sa5 := same_new ha5 (.tup [])
    have ea5 := upd_same (H := G4) (a := a5) (o := .tup [])
    have ea1 := sa5 _ _ ea1
    have ea2 := sa5 _ _ ea2
    have ea3 := sa5 _ _ ea3
    have ea4 := sa5 _ _ ea4
    have st5 := st4.trans sa5
    generalize upd G4 a5 (.tup []) = G5 at sa5 ea5 st5 ea1 ea2 ea3 ea4 ⊢
    refine ⟨Nat.zero_le _, fun a6 ha6 => ?_⟩
    have sa6 := same_new ha6 (.tup [])
    have ea6 := upd_same (H := G5) (a := a6) (o := .tup [])
    have ea1 := sa6 _ _ ea1
    have ea2 := sa6 _ _ ea2
    have ea3 := sa6 _ _ ea3
    have ea4 := sa6 _ _ ea4
    have ea5 := sa6 _ _ ea5
    have st6 := st5.trans sa6
    generalize upd G5 a6 (.tup []) = G6 at sa6 ea6 st6 ea1 ea2 ea3 ea4 ea5 ⊢
    refine ⟨Nat.zero_le _, fun a7 ha7 => ?_⟩
    have sa7 := same_new ha7 (.tup [])
    have ea7 := upd_same (H := G6) (a := a7) (o := .tup [])
    have ea1 := sa7 _ _ ea1
    have ea2 := sa7 _ _ ea2
    have ea3 := sa7 _ _ ea3
    have ea4 := sa7 _ _ ea4
    have ea5 := sa7 _ _ ea5
    have ea6 := sa7 _ _ ea6
    have st7 := st6.trans sa7
    generalize upd G6 a7 (.tup []) = G7 at sa7 ea7 st7 ea1 ea2 ea3 ea4 ea5 ea6 ⊢
    refine ⟨by show 3 ≤ sizeLine; decide, fun a8 ha8 => ?_⟩
    have sa8 := same_new ha8 (.tup [.ref a5, .ref a6, .ref a7])
    have ea8 := upd_same (H := G7) (a := a8) (o := .tup [.ref a5, .ref a6, .ref a7])
    have ea1 := sa8 _ _ ea1
    have ea2 := sa8 _ _ ea2
    have ea3 := sa8 _ _ ea3
    have ea4 := sa8 _ _ ea4
    have ea5 := sa8 _ _ ea5
    have ea6 := sa8 _ _ ea6
    have ea7 := sa8 _ _ ea7
    have st8 := st7.trans sa8
    generalize upd G7 a8 (.tup [.ref a5, .ref a6, .ref a7]) = G8 at sa8 ea8 st8 ea1 ea2 ea3 ea4 ea5 ea6 ea7 ⊢
    refine ⟨by show 3 ≤ sizeLine; decide, fun O hO => ?_⟩
    have sO := same_new hO (.lst [.ref a2, .ref a4, .ref a8])
    have st := st8.trans sO
    refine ⟨d, c, O, [.ref a2, .ref a4, .ref a8], rfl, hd1.same st, ((hd1.same st8).new hO).1, .inl (SqL.of upd_same), by show 1 ≤ 3; decide, by show 3 ≤ 1000; decide, fun ko y H9 hy hd9 k9 => ?_⟩
    have kk := (k1.trans (.of_same st)).trans k9
    have kt := (k9.tup1 (hd1.same st))
    have L1 : Lay H9 (.ref a2) (partD [[]]) := .tup (kt _ _ (sO _ _ ea2)) (.cons (.tup (kt _ _ (sO _ _ ea1)) .nil) .nil)
    have L2 : Lay H9 (.ref a4) (partD [[1]]) := .tup (kt _ _ (sO _ _ ea4)) (.cons (Lay.mkPath (kt _ _ (sO _ _ ea3))) .nil)
    have L3 : Lay H9 (.ref a8) (partD [[], [], []]) := .tup (kt _ _ (sO _ _ ea8)) (.cons (.tup (kt _ _ (sO _ _ ea5)) .nil) (.cons (.tup (kt _ _ (sO _ _ ea6)) .nil) (.cons (.tup (kt _ _ (sO _ _ ea7)) .nil) .nil)))
    rcases ko with _ | _ | _ | ko
    · cases hy
      exact q a2 [[]] _ L1 (by decide) (fun p hp => by simp at hp; rw [hp]; exact Nat.zero_le _) hd9 kk
    · cases hy
      exact q a4 [[1]] _ L2 (by decide) (fun p hp => by simp at hp; rw [hp]; decide) hd9 kk
    · cases hy
      exact q a8 [[], [], []] _ L3 (by decide) (fun p hp => by simp at hp; rw [hp]; exact Nat.zero_le _) hd9 kk
    · cases hy
  have h1 : 1 ≤ ps.length := by
    rcases Nat.eq_zero_or_pos ps.length with h0 | h0
    · exact absurd (decide_eq_true (by rw [lvx, h0]; rfl)) z
    · exact h0
  refine ⟨_, rfl, _, rfl, xq, _, rfl, .inr (SqT.of ex1), d, c, _, rfl, hd1, by omega, by omega, fun x1 H2 x10 x11 hd2 k2 => ?_⟩
  have ex2 := k2 _ _ (by simp [nxd]) ex1
  refine ⟨_, rfl, _, rfl, xq, _, rfl, .inr (SqT.of ex2), d, c, _, rfl, hd2, by omega, by omega, fun x2 H3 x20 x21 hd3 k3 => ?_⟩
  obtain ⟨a1, rfl⟩ := Int.eq_ofNat_of_zero_le x10
  obtain ⟨a2, rfl⟩ := Int.eq_ofNat_of_zero_le x20
  have k03 := (k1.trans k2).trans k3
  have ex3 := k3 _ _ (by simp [nxd]) ex2
  have lx3 := lxx.keep' (k03.tup1 hd)
  have g1 : ps[a1]? = some ps[a1] := List.getElem?_eq_getElem (by omega)
  have g2 : ps[a2]? = some ps[a2] := List.getElem?_eq_getElem (by omega)
  have m1 := List.mem_of_getElem? g1
  have m2 := List.mem_of_getElem? g2
  obtain ⟨w1, hw1, lw1⟩ := lx3.at_ (d := pathD ps[a1]) a1 (by rw [List.getElem?_map, g1]; rfl)
  obtain ⟨w2, hw2, lw2⟩ := lx3.at_ (d := pathD ps[a2]) a2 (by rw [List.getElem?_map, g2]; rfl)
  generalize ps[a1] = p1 at g1 m1 lw1
  generalize ps[a2] = p2 at g2 m2 lw2
  have tkl : (ps.take a1).length ≤ 10 := by rw [List.length_take]; omega
  have dl : ∀ x ∈ ps.take a1, x ∈ ps := fun x hx => List.mem_of_mem_take hx
  have dr : ∀ x ∈ ps.drop (a1 + 1), x ∈ ps := fun x hx => List.mem_of_mem_drop hx
  have fin : ∀ (t : Addr) (us : List V) (qs : List (List Int)) (H' : Hp), H' t = some (.tup us) → LayAll H' us (qs.map pathD) → qs.length ≤ 11 → (∀ p ∈ qs, p.length ≤ 50) → DS H' d c → Keep [d] H3 H' → Q (.ref t) H' := fun t us qs H' e l h1 h2 h3 h4 =>
    q t qs H' (.tup e l) h1 h2 h3 (k03.trans h4)
  have ltk : ∀ H' : Hp, KeepT H3 H' → LayAll H' (vx.take a1) ((ps.take a1).map pathD) := fun H' k => by
    rw [List.map_take]
    exact layTake _ _ _ (lx3.keep' k)
  have ldr : ∀ H' : Hp, KeepT H3 H' → LayAll H' (vx.drop (a1 + 1)) ((ps.drop (a1 + 1)).map pathD) := fun H' k => by
    rw [List.map_drop]
    exact layDrop _ _ _ (lx3.keep' k)
  refine ⟨_, _, rfl, ?_⟩
  refine ⟨_, rfl, rfl, _, rfl, ite2 (fun z1 => ?_) (fun z1 => ?_)⟩
  · refine ⟨_, rfl, _, rfl, _, rfl, ?_⟩
    refine rdSlX ex3 fun t4 H4 s4 e4 => ?_
    rw [cutV_to] at e4
    refine ⟨_, rfl, _, rfl, _, _, rfl, rfl, _, rfl, ?_⟩
    delta tNoPart
    refine rdSlX (s4 _ _ ex3) fun t5 H5 s5 e5 => ?_
    rw [cutV_succ] at e5
    refine rdCatX (s5 _ _ e4) e5 (by rw [List.length_take, List.length_drop]; omega) fun t6 H6 s6 e6 => ?_
    have sm := (s4.trans s5).trans s6
    refine fin t6 _ (ps.take a1 ++ ps.drop (a1 + 1)) _ e6 (by rw [List.map_append]; exact (ltk _ (.same sm)).app (ldr _ (.same sm))) (by rw [List.length_append, List.length_take, List.length_drop]; omega) (fun p hp => ?_) (hd3.same sm) (.of_same sm)
    have : p ∈ ps := by
      rcases List.mem_append.mp hp with h | h
      · exact dl p h
      · exact dr p h
    have := (hps p this).2
    omega
  refine ⟨_, rfl, rfl, _, rfl, ite2 (fun z1 => ?_) (fun z1 => ?_)⟩
  · refine ⟨_, rfl, _, rfl, _, rfl, xq, _, _, _, rfl, rfl, SqT.of ex3, atI_nat hw1, by show 1 ≤ sizeLine; decide, fun tE htE => ?_⟩
    have sE := same_new htE (.tup [w1])
    refine rdCatX (sE _ _ ex3) upd_same (by show _ + 1 ≤ 1000; omega) fun t8 H8 s8 e8 => ?_
    have sm8 := sE.trans s8
    refine fin t8 _ (ps ++ [p1]) _ e8 (by rw [List.map_append]; exact (lx3.keep' (.same sm8)).app (.cons (lw1.keep' (.same sm8)) .nil)) (by rw [List.length_append, List.length_singleton]; omega) (fun p hp => ?_) (hd3.same sm8) (.of_same sm8)
    rcases List.mem_append.mp hp with h | h
    · have := (hps p h).2
      omega
    · rw [List.mem_singleton.mp h]
      have := (hps p1 m1).2
      omega
  refine ⟨_, rfl, rfl, _, rfl, ite2 (fun z1 => ?_) (fun z1 => ?_)⟩
  · refine ⟨_, rfl, _, rfl, _, rfl, ?_⟩
    refine rdSlX ex3 fun t4 H4 s4 e4 => ?_
    rw [cutV_to] at e4
    refine ⟨_, rfl, _, rfl, xq, _, _, _, rfl, rfl, SqT.of (s4 _ _ ex3), atI_nat hw2, ?_⟩
    refine ⟨by show 1 ≤ sizeLine; decide, fun tE htE => ?_⟩
    have sE := same_new htE (.tup [w2])
    refine rdCatX (sE _ _ e4) upd_same (by rw [List.length_take]; show _ + 1 ≤ 1000; omega) fun t6 H6 s6 e6 => ?_
    refine ⟨_, rfl, _, rfl, _, _, rfl, rfl, _, rfl, ?_⟩
    delta tNoPart
    refine rdSlX (s6 _ _ (sE _ _ (s4 _ _ ex3))) fun t7 H7 s7 e7 => ?_
    rw [cutV_succ] at e7
    refine rdCatX (s7 _ _ e6) e7 (by rw [List.length_append, List.length_take, List.length_drop]; show _ + 1 + _ ≤ 1000; omega) fun t8 H8 s8 e8 => ?_
    have sm8 := ((sE.trans s6).trans s7).trans s8
    have kk8 := (Keep.of_same (S := [d]) s4).trans (.of_same (S := [d]) sm8)
    refine fin t8 _ (ps.take a1 ++ [p2] ++ ps.drop (a1 + 1)) _ e8 (by rw [List.map_append, List.map_append]; exact ((ltk _ (kk8.tup1 hd3)).app (.cons (lw2.keep' (kk8.tup1 hd3)) .nil)).app (ldr _ (kk8.tup1 hd3))) (by rw [List.length_append, List.length_append, List.length_take, List.length_drop, List.length_singleton]; omega) (fun p hp => ?_) ((hd3.same s4).same sm8) kk8
    rcases List.mem_append.mp hp with h | h
    · rcases List.mem_append.mp h with h | h
      · have := (hps p (dl p h)).2
        omega
      · rw [List.mem_singleton.mp h]
        have := (hps p2 m2).2
        omega
    · have := (hps p (dr p h)).2
      omega
  refine ⟨_, rfl, rfl, _, rfl, ite2 (fun z1 => ?_) (fun z1 => ?_)⟩
  · refine ⟨Nat.zero_le _, fun t ht => ?_⟩
    exact fin t [] [] _ upd_same .nil (Nat.zero_le _) (fun p hp => by cases hp) (hd3.same (same_new ht _)) (.of_same (same_new ht _))
  refine ⟨_, rfl, rfl, _, rfl, ite2 (fun z1 => ?_) (fun z1 => ?_)⟩
  rotate_left
  · refine iteF ?_
    refine ⟨_, rfl, _, rfl, _, rfl, ?_⟩
    refine rdSlX ex3 fun t4 H4 s4 e4 => ?_
    rw [cutV_to] at e4
    refine ⟨_, rfl, _, rfl, _, rfl, _, rfl, xq, _, _, _, rfl, rfl, SqT.of (s4 _ _ ex3), atI_nat hw1, d, c, v, w1, N, p1, rfl, hd3.same s4, lN.keep' ((k03.trans (.of_same s4)).tup1 hd), h400, lw1.keep' (.same s4), (hps p1 m1).1, by have := (hps p1 m1).2; omega, fun r5 g H5 lg hg hd5 k5 => ?_⟩
    have b1 := (hps p1 m1).2
    have k35 := (Keep.of_same (S := [d]) s4).trans k5
    have e45 := k5 _ _ (by simp [(hd3.same s4).ne_tup e4]) e4
    refine ⟨by show 1 ≤ sizeLine; decide, fun tE htE => ?_⟩
    have sE := same_new htE (.tup [.ref r5])
    refine rdCatX (sE _ _ e45) upd_same (by rw [List.length_take]; show _ + 1 ≤ 1000; omega) fun t6 H6 s6 e6 => ?_
    refine ⟨_, rfl, _, rfl, _, _, rfl, rfl, _, rfl, ?_⟩
    delta tNoPart
    refine rdSlX (s6 _ _ (sE _ _ (k35 _ _ (by simp [nxd]) ex3))) fun t7 H7 s7 e7 => ?_
    rw [cutV_succ] at e7
    refine rdCatX (s7 _ _ e6) e7 (by rw [List.length_append, List.length_take, List.length_drop]; show _ + 1 + _ ≤ 1000; omega) fun t8 H8 s8 e8 => ?_
    have sm8 := ((sE.trans s6).trans s7).trans s8
    have kk8 := k35.trans (.of_same (S := [d]) sm8)
    refine fin t8 _ (ps.take a1 ++ [g] ++ ps.drop (a1 + 1)) _ e8 (by rw [List.map_append, List.map_append]; exact ((ltk _ (kk8.tup1 hd3)).app (.cons (lg.keep' (.same sm8)) .nil)).app (ldr _ (kk8.tup1 hd3))) (by rw [List.length_append, List.length_append, List.length_take, List.length_drop, List.length_singleton]; omega) (fun p hp => ?_) (hd5.same sm8) kk8
    rcases List.mem_append.mp hp with h | h
    · rcases List.mem_append.mp h with h | h
      · have := (hps p (dl p h)).2
        omega
      · rw [List.mem_singleton.mp h]
        omega
    · have := (hps p (dr p h)).2
      omega
  refine ⟨_, rfl, _, rfl, rfl, _, rfl, ite2 (fun z2 => ?_) (fun z2 => ?_)⟩
  · refine ⟨_, rfl, _, rfl, _, rfl, ?_⟩
    refine rdSlX ex3 fun t4 H4 s4 e4 => ?_
    rw [cutV_to] at e4
    obtain ⟨r1, rfl, er1⟩ := lw1.path
    obtain ⟨r2, rfl, er2⟩ := lw2.path
    refine ⟨_, rfl, _, rfl, xq, _, _, _, rfl, rfl, SqT.of (s4 _ _ ex3), atI_nat hw1, _, rfl, _, rfl, ?_⟩
    refine rdSlX (s4 _ _ er1) fun t5 H5 s5 e5 => ?_
    rw [cutV_init, show (p1.map V.int).dropLast = p1.dropLast.map V.int from (List.map_dropLast ..).symm] at e5
    refine ⟨_, rfl, _, rfl, xq, _, _, _, rfl, rfl, SqT.of (s5 _ _ (s4 _ _ ex3)), atI_nat hw2, ?_⟩
    have b1 := (hps p1 m1).2
    have b2 := (hps p2 m2).2
    refine rdCatX e5 (s5 _ _ (s4 _ _ er2)) (by rw [List.length_map, List.length_map, List.length_dropLast]; omega) fun t9 H9 s9 e9 => ?_
    rw [← List.map_append] at e9
    have sm9 := (s4.trans s5).trans s9
    refine ⟨by show 1 ≤ sizeLine; decide, fun tE htE => ?_⟩
    have sE := same_new htE (.tup [.ref t9])
    refine rdCatX (sE _ _ (s9 _ _ (s5 _ _ e4))) upd_same (by rw [List.length_take]; show _ + 1 ≤ 1000; omega) fun t6 H6 s6 e6 => ?_
    refine ⟨_, rfl, _, rfl, _, _, rfl, rfl, _, rfl, ?_⟩
    delta tNoPart
    refine rdSlX (s6 _ _ (sE _ _ (sm9 _ _ ex3))) fun t7 H7 s7 e7 => ?_
    rw [cutV_succ] at e7
    refine rdCatX (s7 _ _ e6) e7 (by rw [List.length_append, List.length_take, List.length_drop]; show _ + 1 + _ ≤ 1000; omega) fun t8 H8 s8 e8 => ?_
    have sm8 := ((sE.trans s6).trans s7).trans s8
    have kk8 := (Keep.of_same (S := [d]) sm9).trans (.of_same (S := [d]) sm8)
    refine fin t8 _ (ps.take a1 ++ [p1.dropLast ++ p2] ++ ps.drop (a1 + 1)) _ e8 (by rw [List.map_append, List.map_append]; exact ((ltk _ (kk8.tup1 hd3)).app (.cons (Lay.mkPath (sm8 _ _ e9)) .nil)).app (ldr _ (kk8.tup1 hd3))) (by rw [List.length_append, List.length_append, List.length_take, List.length_drop, List.length_singleton]; omega) (fun p hp => ?_) ((hd3.same sm9).same sm8) kk8
    rcases List.mem_append.mp hp with h | h
    · rcases List.mem_append.mp h with h | h
      · have := (hps p (dl p h)).2
        omega
      · rw [List.mem_singleton.mp h]
        rw [List.length_append, List.length_dropLast]
        omega
    · have := (hps p (dr p h)).2
      omega
  refine ⟨_, rfl, _, rfl, _, rfl, ?_⟩
  refine rdSlX ex3 fun t4 H4 s4 e4 => ?_
  rw [cutV_to] at e4
  refine ⟨_, rfl, _, rfl, _, rfl, _, rfl, xq, _, _, _, rfl, rfl, SqT.of (s4 _ _ ex3), atI_nat hw1, d, c, v, w1, N, p1, rfl, hd3.same s4, lN.keep' ((k03.trans (.of_same s4)).tup1 hd), h400, lw1.keep' (.same s4), (hps p1 m1).1, by have := (hps p1 m1).2; omega, fun r5 g H5 lg hg hd5 k5 => ?_⟩
  have b1 := (hps p1 m1).2
  have k35 := (Keep.of_same (S := [d]) s4).trans k5
  have e45 := k5 _ _ (by simp [(hd3.same s4).ne_tup e4]) e4
  refine ⟨by show 1 ≤ sizeLine; decide, fun tE htE => ?_⟩
  have sE := same_new htE (.tup [.ref r5])
  refine rdCatX (sE _ _ e45) upd_same (by rw [List.length_take]; show _ + 1 ≤ 1000; omega) fun t6 H6 s6 e6 => ?_
  refine ⟨_, rfl, _, rfl, _, _, rfl, rfl, _, rfl, ?_⟩
  delta tNoPart
  refine rdSlX (s6 _ _ (sE _ _ (k35 _ _ (by simp [nxd]) ex3))) fun t7 H7 s7 e7 => ?_
  rw [cutV_succ] at e7
  refine rdCatX (s7 _ _ e6) e7 (by rw [List.length_append, List.length_take, List.length_drop]; show _ + 1 + _ ≤ 1000; omega) fun t8 H8 s8 e8 => ?_
  have sm8 := ((sE.trans s6).trans s7).trans s8
  have kk8 := k35.trans (.of_same (S := [d]) sm8)
  refine fin t8 _ (ps.take a1 ++ [g] ++ ps.drop (a1 + 1)) _ e8 (by rw [List.map_append, List.map_append]; exact ((ltk _ (kk8.tup1 hd3)).app (.cons (lg.keep' (.same sm8)) .nil)).app (ldr _ (kk8.tup1 hd3))) (by rw [List.length_append, List.length_append, List.length_take, List.length_drop, List.length_singleton]; omega) (fun p hp => ?_) (hd5.same sm8) kk8
  rcases List.mem_append.mp hp with h | h
  · rcases List.mem_append.mp h with h | h
    · have := (hps p (dl p h)).2
      omega
    · rw [List.mem_singleton.mp h]
      omega
  · have := (hps p (dr p h)).2
    omega
end

end Bf

set_option Elab.async false
set_option linter.all false
set_option maxRecDepth 100000
set_option maxHeartbeats 4000000
namespace Bf
open PySem PySem.Spec PyProof.Rows L2
/-! ### bent bars -/
theorem layRep {H : Hp} {y : V} {dd : PyData} (l : Lay H y dd) : ∀ n : Nat, LayAll H (List.replicate n y) (List.replicate n dd)
  | 0 => .nil
  | n + 1 => .cons l (layRep l n)
theorem flatRep {α : Type} (x : α) : ∀ n : Nat, (List.replicate n [x]).flatten = List.replicate n x
  | 0 => rfl
  | n + 1 => by
    rw [List.replicate_succ, List.flatten_cons, flatRep x n]
    rfl
def SmallP (parts : List (List (List Int))) : Prop := ∀ q ∈ parts, q.length ≤ 20 ∧ ∀ p ∈ q, p.length ≤ 50
section
variable {P : Program} {w : World} {K : PySem.W.Frag} {mg : Str → Option Value} {base : Heap} {f : Addr} {fd : FuncData}
def spBentB : Sp := fun vs H Q _ => ∃ (d c lq xq : Addr) (v : V) (N : Net) (lv : List Int) (parts : List (List (List Int))), vs = [.ref d, v, .ref lq, .ref xq] ∧ DS H d c ∧ Lay H v (netD N) ∧ N.size ≤ 400 ∧ Lay H (.ref lq) (pathD lv) ∧ Lay H (.ref xq) (partsD parts) ∧ lv.length = parts.length ∧ parts.length ≤ 100 ∧ (∀ q ∈ parts, q.length ≤ 10 ∧ ∀ p ∈ q, 1 ≤ p.length ∧ p.length ≤ 25) ∧
  ∀ (r tl tx : Addr) (lv' : List Int) (parts' : List (List (List Int))) (H' : Hp), H' r = some (.tup [.ref tl, .ref tx]) → Lay H' (.ref tl) (pathD lv') → Lay H' (.ref tx) (partsD parts') → lv'.length ≤ 200 → parts'.length ≤ 200 → SmallP parts' → DS H' d c → Keep [d] H H' → Q (.ref r) H'
theorem ok_bentB (F : Fun K "_law_bent_bars" "_law_bent_bars" s_law_bent_bars f fd) (T : Txt mg) (D_law_draw : Dn P w K mg base "_law_draw" ["_law_d", "_law_many"] 1 spDraw)
    (D_law_pick : Dn P w K mg base "_law_pick" ["_law_d", "_law_row"] 2 (spPickA K)) (D_law_bent_part : Dn P w K mg base "_law_bent_part" ["_law_d", "_law_net_here", "_law_part"] 4 spBentQ) :
    FnOk P w K mg base CX0 5 f fd ["_law_d", "_law_net_here", "_law_told", "_law_parts"] spBentB := by
  refine F.ok sc_law_bent_bars (fun vs H Q E h => ?_) (fun cdv A outer s H vs Q E hr h => ?_)
  · obtain ⟨d, c, lq, xq, v, N, lv, parts, rfl, _⟩ := h
    rfl
  obtain ⟨d, c, lq, xq, v, N, lv, parts, rfl, hd, lN, h400, ll, lx, hlp, hpl, hsm, q⟩ := h
  refine ⟨_, (pss_cons (ps_set (i := 4) sc_law_bent_bars.nd rfl (Or.inl rfl) (pe_dn D_law_draw (hr.mono (by omega)) (by rfl) (pa_cons (pv 0) (pa_cons pe_int pa_nil))))
      (pss_cons (ps_if (PW.pt (pw_or (pt_cmpR op_eq (pv 4) pe_int (nomark _)) (pw_or1 (pt_cmpR op_eq (pe_callB call_len_seq (by rfl) T.n_len (by decide +kernel) (pa_cons (pv 2) pa_nil)) pe_int (nomark _))))) (pss_cons (ps_set (i := 5) sc_law_bent_bars.nd rfl (Or.inl rfl) (pe_dn D_law_pick (hr.mono (by omega)) (by rfl) (pa_cons (pv 0) (pa_cons (pe_lst (pa_cons pe_int (pa_cons pe_int pa_nil))) pa_nil))))
      (pss_one (ps_ret (pe_tup (pa_cons (pe_op op_catA (pv 2) (pe_op op_repTA (pe_tup (pa_cons pe_int pa_nil)) (pv 5))) (pa_cons (pe_op op_catA (pv 3) (pe_op op_repTA (pe_tup (pa_cons (pe_tup pa_nil) pa_nil)) (pe_op op_sub pe_int (pv 5)))) pa_nil)))))) pss_nil)
      (pss_cons (ps_set (i := 6) sc_law_bent_bars.nd rfl (Or.inl rfl) (pe_dn D_law_draw (hr.mono (by omega)) (by rfl) (pa_cons (pv 0) (pa_cons (pe_callB call_len_seq (by rfl) T.n_len (by decide +kernel) (pa_cons (pv 2) pa_nil)) pa_nil))))
      (pss_cons (ps_if (pt_cmpR op_lt (pv 4) pe_int (nomark _)) (pss_cons (ps_set (i := 7) sc_law_bent_bars.nd rfl (Or.inl rfl) (pe_dn D_law_pick (hr.mono (by omega)) (by rfl) (pa_cons (pv 0) (pa_cons (pe_lst (pa_cons (pe_op op_add (pe_ix ix_tup (pv 2) (pv 6) (fun _ _ => rfl)) pe_int) (pa_cons (pe_op op_sub (pe_ix ix_tup (pv 2) (pv 6) (fun _ _ => rfl)) pe_int) (pa_cons (pe_op op_sub (pe_ix ix_tup (pv 2) (pv 6) (fun _ _ => rfl)) pe_int) (pa_cons (pe_op op_add (pe_ix ix_tup (pv 2) (pv 6) (fun _ _ => rfl)) pe_int) (pa_cons pe_int (pa_cons pe_int (pa_cons pe_int (pa_cons (pe_un un_neg pe_int) (pa_cons pe_int pa_nil)))))))))) pa_nil))))
      (pss_one (ps_ret (pe_tup (pa_cons (pe_op op_catA (pe_op op_catA (pe_slice sl_tupA (pv 2) po_none (po_some (pv 6))) (pe_tup (pa_cons (pv 7) pa_nil))) (pe_slice sl_tupA (pv 2) (po_some (pe_op op_add (pv 6) pe_int)) po_none)) (pa_cons (pv 3) pa_nil)))))) pss_nil)
      (pss_cons (ps_if (pt_cmpR op_eq (pv 4) pe_int (nomark _)) (pss_one (ps_ret (pe_tup (pa_cons (pe_op op_catA (pe_slice sl_tupA (pv 2) po_none (po_some (pv 6))) (pe_slice sl_tupA (pv 2) (po_some (pe_op op_add (pv 6) pe_int)) po_none)) (pa_cons (pe_op op_catA (pe_slice sl_tupA (pv 3) po_none (po_some (pv 6))) (pe_slice sl_tupA (pv 3) (po_some (pe_op op_add (pv 6) pe_int)) po_none)) pa_nil))))) pss_nil)
      (pss_cons (ps_if (pt_cmpR op_eq (pv 4) pe_int (nomark _)) (pss_cons (ps_set (i := 8) sc_law_bent_bars.nd rfl (Or.inl rfl) (pe_dn D_law_draw (hr.mono (by omega)) (by rfl) (pa_cons (pv 0) (pa_cons (pe_callB call_len_seq (by rfl) T.n_len (by decide +kernel) (pa_cons (pv 2) pa_nil)) pa_nil))))
      (pss_one (ps_ret (pe_tup (pa_cons (pv 2) (pa_cons (pe_op op_catA (pe_op op_catA (pe_slice sl_tupA (pv 3) po_none (po_some (pv 6))) (pe_tup (pa_cons (pe_ix ix_tup (pv 3) (pv 8) (fun _ _ => rfl)) pa_nil))) (pe_slice sl_tupA (pv 3) (po_some (pe_op op_add (pv 6) pe_int)) po_none)) pa_nil)))))) pss_nil)
      (pss_cons (ps_setLc (i := 9) (own := [("_law_k", 10)]) (g := (gName 10)) rfl sc_law_bent_bars.nd rfl rfl (sw_true rfl rfl rfl (by decide +kernel)) (pi_range1 rfl T.n_range (pa_cons (pe_callB call_len_seq (by rfl) T.n_len (by decide +kernel) (pa_cons (pv 3) pa_nil)) pa_nil)) (blkOk_by (N := ["_law_d", "_law_net_here", "_law_told", "_law_parts", "_law_turn", "_law_more", "_law_at", "_law_level", "_law_other", "_law_rich", "_law_k"]) (sc := defScope s_law_bent_bars) (by decide +kernel)) (fun _ _ _ _ _ => (pg_name (i := 10) sc_law_bent_bars.nd rfl (Or.inl rfl))) (fun _ _ _ _ _ => (pts_one (pt_cmpR op_gt (pe_callB (call_lenK : CallR _ (.builtin "len") (rLenK K)) (by rfl) T.n_len (by decide +kernel) (pa_cons (pe_ix (ix_tup : IxR _ (rIxT K)) (pv 3) (pv 10) (fun _ _ => rfl)) pa_nil)) pe_int (nomark _)))) (fun _ _ _ _ _ => (pv 10)))
      (C8.pss_cut (ps_if (PW.pt (pw_and (pt_cmpR op_gt (pe_callB call_len_seq (by rfl) T.n_len (by decide +kernel) (pa_cons (pv 9) pa_nil)) pe_int (nomark _)) (pw_and1 (pt_cmpR op_gt (pv 4) pe_int (nomark _))))) (pss_one (ps_set (i := 6) sc_law_bent_bars.nd rfl (Or.inl rfl) (pe_dn D_law_pick (hr.mono (by omega)) (by rfl) (pa_cons (pv 0) (pa_cons (pv 9) pa_nil))))) pss_nil)
      (pss_one (ps_ret (pe_tup (pa_cons (pv 2) (pa_cons (pe_op op_catA (pe_op op_catA (pe_slice sl_tupA (pv 3) po_none (po_some (pv 6))) (pe_tup (pa_cons (pe_dn D_law_bent_part (hr.mono (by omega)) (by rfl) (pa_cons (pv 0) (pa_cons (pv 1) (pa_cons (pe_ix ix_tup (pv 3) (pv 6) (fun _ _ => rfl)) pa_nil)))) pa_nil))) (pe_slice sl_tupA (pv 3) (po_some (pe_op op_add (pv 6) pe_int)) po_none)) pa_nil))))))))))))), ?_⟩
  obtain ⟨lq', elq, el⟩ := ll.path
  cases elq
  obtain ⟨xq', vx, exq, ex, lxx⟩ := id lx.tup_inv
  cases exq
  have lvx : vx.length = parts.length := by simpa using lxx.len
  have nld := hd.ne_tup el
  have nxd := hd.ne_tup ex
  have sm0 : SmallP parts := fun q hq => ⟨by have := (hsm q hq).1; omega, fun p hp => by have := ((hsm q hq).2 p hp).2; omega⟩
  have fin : ∀ (tl tx : Addr) (lv' : List Int) (us : List V) (parts' : List (List (List Int))) (H' : Hp), H' tl = some (.tup (lv'.map V.int)) → H' tx = some (.tup us) → LayAll H' us (parts'.map partD) → lv'.length ≤ 200 → parts'.length ≤ 200 → SmallP parts' → DS H' d c → Keep [d] H H' → ∀ r, H' r = none → Q (.ref r) (upd H' r (.tup [.ref tl, .ref tx])) := fun tl tx lv' us parts' H' e1 e2 l3 h1 h2 h3 h4 h5 r hr =>
    q r tl tx lv' parts' _ upd_same (Lay.mkPath (same_new hr _ _ _ e1)) (.tup (same_new hr _ _ _ e2) (l3.keep' (.same (same_new hr _)))) h1 h2 h3 (h4.same (same_new hr _)) (h5.trans (.of_same (same_new hr _)))
  refine ⟨_, rfl, d, c, 9, rfl, hd, by omega, by omega, fun tn H1 t0 t1 hd1 k1 => ?_⟩
  have el1 := k1 _ _ (by simp [nld]) el
  have ex1 := k1 _ _ (by simp [nxd]) ex
  refine ⟨_, rfl, rfl, _, rfl, ite2 (fun z1 => ?_) (fun z1 => ?_)⟩
  · refine iteT ?_
    refine ⟨_, rfl, by show 2 ≤ sizeLine; decide, fun O hO => ?_⟩
    have sO := same_new hO (.lst [V.int 0, V.int 1])
    refine ⟨d, c, O, [V.int 0, V.int 1], rfl, hd1.same sO, (hd1.new hO).1, .inl (SqL.of upd_same), by show 1 ≤ 2; decide, by show 2 ≤ 1000; decide, fun ko y H2 hy hd2 k2 => ?_⟩
    obtain ⟨m, hm, rfl⟩ : ∃ m : Nat, m ≤ 1 ∧ y = vI m := by
      rcases ko with _ | _ | ko
      · cases hy
        exact ⟨0, by omega, rfl⟩
      · cases hy
        exact ⟨1, by omega, rfl⟩
      · cases hy
    have k02 := (k1.trans (.of_same sO)).trans k2
    refine ⟨_, rfl, by show 1 ≤ sizeLine; decide, fun t1' ht1 => ⟨_, rfl, ?_⟩⟩
    have st1 := same_new ht1 (.tup [V.int 1])
    refine ⟨t1', m, [V.int 1], rfl, rfl, upd_same, by simp, by omega, by show 1 ≤ 1000; decide, fun t3 H3 s3 e3 => ?_⟩
    have s13 := st1.trans s3
    rw [flatRep] at e3
    refine rdCatX (s13 _ _ (k02 _ _ (by simp [nld]) el)) e3 (by rw [List.length_map, List.length_replicate]; omega) fun t4 H4 s4 e4 => ?_
    rw [show List.replicate m (V.int 1) = (List.replicate m (1 : Int)).map V.int by simp, ← List.map_append] at e4
    have s14 := s13.trans s4
    refine ⟨_, rfl, Nat.zero_le _, fun t5 ht5 => ⟨by show 1 ≤ sizeLine; decide, fun t6 ht6 => ⟨_, rfl, _, _, rfl, rfl, ?_⟩⟩⟩
    have st5 := same_new ht5 (.tup [])
    have et5 := same_new ht6 (.tup [.ref t5]) _ _ (upd_same (H := H4) (a := t5) (o := .tup []))
    have st6 := st5.trans (same_new ht6 (.tup [.ref t5]))
    refine ⟨t6, 1 - m, [.ref t5], rfl, congrArg V.int (by omega), upd_same, by simp, by omega, by show 1 ≤ 1000; decide, fun t7 H7 s7 e7 => ?_⟩
    rw [flatRep] at e7
    have s47 := st6.trans s7
    have s17 := s14.trans s47
    refine rdCatX (s17 _ _ (k02 _ _ (by simp [nxd]) ex)) e7 (by rw [List.length_replicate]; omega) fun t8 H8 s8 e8 => ?_
    have s18 := s17.trans s8
    refine ⟨by show 2 ≤ sizeLine; decide, fin t4 t8 (lv ++ List.replicate m 1) _ (parts ++ List.replicate (1 - m) []) _ (s8 _ _ (s47 _ _ e4)) e8 ?_ (by rw [List.length_append, List.length_replicate]; omega) (by rw [List.length_append, List.length_replicate]; omega) (fun q hq => ?_) (hd2.same s18) (k02.trans (.of_same s18))⟩
    · rw [List.map_append, List.map_replicate]
      exact (lxx.keep' ((k02.trans (.of_same s18)).tup1 hd)).app (layRep (.tup (s8 _ _ (s7 _ _ et5)) .nil) _)
    · rcases List.mem_append.mp hq with h | h
      · exact sm0 q h
      · rw [List.eq_of_mem_replicate h]
        exact ⟨Nat.zero_le _, fun p hp => by cases hp⟩
  refine ⟨_, rfl, lq, _, rfl, .inr (SqT.of el1), rfl, _, rfl, ite2 (fun z2 => ?_) (fun z2 => ?_)⟩
  · refine ⟨_, rfl, by show 2 ≤ sizeLine; decide, fun O hO => ?_⟩
    have sO := same_new hO (.lst [V.int 0, V.int 1])
    refine ⟨d, c, O, [V.int 0, V.int 1], rfl, hd1.same sO, (hd1.new hO).1, .inl (SqL.of upd_same), by show 1 ≤ 2; decide, by show 2 ≤ 1000; decide, fun ko y H2 hy hd2 k2 => ?_⟩
    obtain ⟨m, hm, rfl⟩ : ∃ m : Nat, m ≤ 1 ∧ y = vI m := by
      rcases ko with _ | _ | ko
      · cases hy
        exact ⟨0, by omega, rfl⟩
      · cases hy
        exact ⟨1, by omega, rfl⟩
      · cases hy
    have k02 := (k1.trans (.of_same sO)).trans k2
    refine ⟨_, rfl, by show 1 ≤ sizeLine; decide, fun t1' ht1 => ⟨_, rfl, ?_⟩⟩
    have st1 := same_new ht1 (.tup [V.int 1])
    refine ⟨t1', m, [V.int 1], rfl, rfl, upd_same, by simp, by omega, by show 1 ≤ 1000; decide, fun t3 H3 s3 e3 => ?_⟩
    have s13 := st1.trans s3
    rw [flatRep] at e3
    refine rdCatX (s13 _ _ (k02 _ _ (by simp [nld]) el)) e3 (by rw [List.length_map, List.length_replicate]; omega) fun t4 H4 s4 e4 => ?_
    rw [show List.replicate m (V.int 1) = (List.replicate m (1 : Int)).map V.int by simp, ← List.map_append] at e4
    have s14 := s13.trans s4
    refine ⟨_, rfl, Nat.zero_le _, fun t5 ht5 => ⟨by show 1 ≤ sizeLine; decide, fun t6 ht6 => ⟨_, rfl, _, _, rfl, rfl, ?_⟩⟩⟩
    have st5 := same_new ht5 (.tup [])
    have et5 := same_new ht6 (.tup [.ref t5]) _ _ (upd_same (H := H4) (a := t5) (o := .tup []))
    have st6 := st5.trans (same_new ht6 (.tup [.ref t5]))
    refine ⟨t6, 1 - m, [.ref t5], rfl, congrArg V.int (by omega), upd_same, by simp, by omega, by show 1 ≤ 1000; decide, fun t7 H7 s7 e7 => ?_⟩
    rw [flatRep] at e7
    have s47 := st6.trans s7
    have s17 := s14.trans s47
    refine rdCatX (s17 _ _ (k02 _ _ (by simp [nxd]) ex)) e7 (by rw [List.length_replicate]; omega) fun t8 H8 s8 e8 => ?_
    have s18 := s17.trans s8
    refine ⟨by show 2 ≤ sizeLine; decide, fin t4 t8 (lv ++ List.replicate m 1) _ (parts ++ List.replicate (1 - m) []) _ (s8 _ _ (s47 _ _ e4)) e8 ?_ (by rw [List.length_append, List.length_replicate]; omega) (by rw [List.length_append, List.length_replicate]; omega) (fun q hq => ?_) (hd2.same s18) (k02.trans (.of_same s18))⟩
    · rw [List.map_append, List.map_replicate]
      exact (lxx.keep' ((k02.trans (.of_same s18)).tup1 hd)).app (layRep (.tup (s8 _ _ (s7 _ _ et5)) .nil) _)
    · rcases List.mem_append.mp hq with h | h
      · exact sm0 q h
      · rw [List.eq_of_mem_replicate h]
        exact ⟨Nat.zero_le _, fun p hp => by cases hp⟩
  have hl1 : 1 ≤ lv.length := by
    rcases Nat.eq_zero_or_pos lv.length with h0 | h0
    · exact absurd (decide_eq_true (by rw [List.length_map, h0]; rfl)) z2
    · exact h0
  refine ⟨_, rfl, _, rfl, lq, _, rfl, .inr (SqT.of el1), d, c, _, rfl, hd1, by rw [List.length_map]; omega, by rw [List.length_map]; omega, fun x1 H2 x10 x11 hd2 k2 => ?_⟩
  obtain ⟨a1, rfl⟩ := Int.eq_ofNat_of_zero_le x10
  rw [List.length_map] at x11
  have k02 := k1.trans k2
  have el2 := k2 _ _ (by simp [nld]) el1
  have ex2 := k2 _ _ (by simp [nxd]) ex1
  have lx2 := lxx.keep' (k02.tup1 hd)
  have g1 : lv[a1]? = some lv[a1] := List.getElem?_eq_getElem (by omega)
  have hat : atI (lv.map V.int) (a1 : Int) = some (V.int lv[a1]) := atI_nat (by rw [List.getElem?_map, g1]; rfl)
  generalize lv[a1] = l1 at g1 hat
  have q1 : parts[a1]? = some parts[a1] := List.getElem?_eq_getElem (by omega)
  obtain ⟨w1, hw1, lw1⟩ := lx2.at_ (d := partD parts[a1]) a1 (by rw [List.getElem?_map, q1]; rfl)
  have mq1 := List.mem_of_getElem? q1
  generalize parts[a1] = p1 at q1 lw1 mq1
  have dl : ∀ a : Nat, ∀ x ∈ parts.take a, x ∈ parts := fun a x hx => List.mem_of_mem_take hx
  have dr : ∀ a : Nat, ∀ x ∈ parts.drop (a + 1), x ∈ parts := fun a x hx => List.mem_of_mem_drop hx
  have ltk : ∀ (a : Nat) (H' : Hp), KeepT H2 H' → LayAll H' (vx.take a) ((parts.take a).map partD) := fun a H' k => by
    rw [List.map_take]
    exact layTake _ _ _ (lx2.keep' k)
  have ldr : ∀ (a : Nat) (H' : Hp), KeepT H2 H' → LayAll H' (vx.drop (a + 1)) ((parts.drop (a + 1)).map partD) := fun a H' k => by
    rw [List.map_drop]
    exact layDrop _ _ _ (lx2.keep' k)
  refine ⟨_, rfl, _, _, rfl, rfl, _, rfl, ite2 (fun z3 => ?_) (fun z3 => ?_)⟩
  · refine ⟨_, rfl, _, rfl, _, rfl, lq, _, _, _, rfl, rfl, SqT.of el2, hat, _, _, rfl, rfl, _, rfl, _, rfl, lq, _, _, _, rfl, rfl, SqT.of el2, hat, _, _, rfl, rfl, _, rfl, _, rfl, lq, _, _, _, rfl, rfl, SqT.of el2, hat, _, _, rfl, rfl, _, rfl, _, rfl, lq, _, _, _, rfl, rfl, SqT.of el2, hat, _, _, rfl, rfl, _, rfl, by show 9 ≤ sizeLine; decide, fun O hO => ?_⟩
    have sO := same_new hO (.lst [V.int (l1 + 1), V.int (l1 - 1), V.int (l1 - 1), V.int (l1 + 1), V.int 1, V.int 2, V.int 0, V.int (-3), V.int 1000000])
    refine ⟨d, c, O, ([l1 + 1, l1 - 1, l1 - 1, l1 + 1, 1, 2, 0, -3, 1000000] : List Int).map V.int, rfl, hd2.same sO, (hd2.new hO).1, .inl (SqL.of upd_same), by show 1 ≤ 9; decide, by show 9 ≤ 1000; decide, fun ko y H3 hy hd3 k3 => ?_⟩
    obtain ⟨g, _, rfl⟩ := mapAt hy
    have k03 := (k02.trans (.of_same sO)).trans k3
    have el3 := k3 _ _ (by simp [nld]) (sO _ _ el2)
    have ex3 := k03 _ _ (by simp [nxd]) ex
    refine ⟨_, rfl, _, rfl, _, rfl, ?_⟩
    refine rdSlX el3 fun t4 H4 s4 e4 => ?_
    rw [cutV_to] at e4
    refine ⟨_, rfl, by show 1 ≤ sizeLine; decide, fun tE htE => ?_⟩
    have sE := same_new htE (.tup [V.int g])
    refine rdCatX (sE _ _ e4) upd_same (by rw [List.length_take, List.length_map]; show _ + 1 ≤ 1000; omega) fun t6 H6 s6 e6 => ?_
    have s36 := (s4.trans sE).trans s6
    refine ⟨_, rfl, _, rfl, _, _, rfl, rfl, _, rfl, ?_⟩
    try delta tNoPart
    refine rdSlX (s36 _ _ el3) fun t7 H7 s7 e7 => ?_
    rw [cutV_succ] at e7
    refine rdCatX (s7 _ _ e6) e7 (by rw [List.length_append, List.length_take, List.length_drop, List.length_map]; show _ + 1 + _ ≤ 1000; omega) fun t8 H8 s8 e8 => ?_
    have s38 := (s36.trans s7).trans s8
    have k08 := k03.trans (.of_same (S := [d]) s38)
    refine ⟨_, rfl, by show 2 ≤ sizeLine; decide, fin t8 xq (lv.take a1 ++ [g] ++ lv.drop (a1 + 1)) _ parts _ (e8.trans (congrArg (fun l => some (HO.tup l)) (by simp [List.map_take, List.map_drop]))) (s38 _ _ ex3) (lxx.keep' (k08.tup1 hd)) (by rw [List.length_append, List.length_append, List.length_take, List.length_drop, List.length_singleton]; omega) (by omega) sm0 (hd3.same s38) k08⟩
  refine ⟨_, rfl, rfl, _, rfl, ite2 (fun z4 => ?_) (fun z4 => ?_)⟩
  · refine ⟨_, rfl, _, rfl, _, rfl, ?_⟩
    refine rdSlX el2 fun t3 H3 s3 e3 => ?_
    rw [cutV_to] at e3
    refine ⟨_, rfl, _, rfl, _, _, rfl, rfl, _, rfl, ?_⟩
    try delta tNoPart
    refine rdSlX (s3 _ _ el2) fun t4 H4 s4 e4 => ?_
    rw [cutV_succ] at e4
    refine rdCatX (s4 _ _ e3) e4 (by rw [List.length_take, List.length_drop, List.length_map]; omega) fun t5 H5 s5 e5 => ?_
    have s25 := (s3.trans s4).trans s5
    refine ⟨_, rfl, _, rfl, _, rfl, ?_⟩
    refine rdSlX (s25 _ _ ex2) fun t6 H6 s6 e6 => ?_
    rw [cutV_to] at e6
    refine ⟨_, rfl, _, rfl, _, _, rfl, rfl, _, rfl, ?_⟩
    try delta tNoPart
    refine rdSlX (s6 _ _ (s25 _ _ ex2)) fun t7 H7 s7 e7 => ?_
    rw [cutV_succ] at e7
    refine rdCatX (s7 _ _ e6) e7 (by rw [List.length_take, List.length_drop]; omega) fun t8 H8 s8 e8 => ?_
    have s58 := (s6.trans s7).trans s8
    have s28 := s25.trans s58
    refine ⟨by show 2 ≤ sizeLine; decide, fin t5 t8 (lv.take a1 ++ lv.drop (a1 + 1)) _ (parts.take a1 ++ parts.drop (a1 + 1)) _ ((s58 _ _ e5).trans (congrArg (fun l => some (HO.tup l)) (by simp [List.map_take, List.map_drop]))) e8 (by rw [List.map_append]; exact (ltk _ _ (.same s28)).app (ldr _ _ (.same s28))) (by rw [List.length_append, List.length_take, List.length_drop]; omega) (by rw [List.length_append, List.length_take, List.length_drop]; omega) (fun q hq => ?_) (hd2.same s28) (k02.trans (.of_same s28))⟩
    rcases List.mem_append.mp hq with h | h
    · exact sm0 q (dl _ q h)
    · exact sm0 q (dr _ q h)
  refine ⟨_, rfl, rfl, _, rfl, ite2 (fun z5 => ?_) (fun z5 => ?_)⟩
  · refine ⟨_, rfl, _, rfl, lq, _, rfl, .inr (SqT.of el2), d, c, _, rfl, hd2, by rw [List.length_map]; omega, by rw [List.length_map]; omega, fun x2 H3 x20 x21 hd3 k3 => ?_⟩
    obtain ⟨a2, rfl⟩ := Int.eq_ofNat_of_zero_le x20
    rw [List.length_map] at x21
    have ex3 := k3 _ _ (by simp [nxd]) ex2
    have q2 : parts[a2]? = some parts[a2] := List.getElem?_eq_getElem (by omega)
    obtain ⟨w2, hw2, lw2⟩ := (lx2.keep' (k3.tup1 hd2)).at_ (d := partD parts[a2]) a2 (by rw [List.getElem?_map, q2]; rfl)
    have mq2 := List.mem_of_getElem? q2
    generalize parts[a2] = p2 at q2 lw2 mq2
    refine ⟨_, rfl, ?_⟩
    refine ⟨_, rfl, _, rfl, _, rfl, ?_⟩
    refine rdSlX ex3 fun t4 H4 s4 e4 => ?_
    rw [cutV_to] at e4
    refine ⟨_, rfl, _, rfl, xq, _, _, _, rfl, rfl, SqT.of (s4 _ _ ex3), atI_nat hw2, ?_⟩
    have k34 := k3.trans (.of_same (S := [d]) s4)
    refine ⟨by show 1 ≤ sizeLine; decide, fun tE htE => ?_⟩
    have sE := same_new htE (.tup [w2])
    refine rdCatX (sE _ _ e4) upd_same (by rw [List.length_take]; show _ + 1 ≤ 1000; omega) fun t6 H6 s6 e6 => ?_
    refine ⟨_, rfl, _, rfl, _, _, rfl, rfl, _, rfl, ?_⟩
    try delta tNoPart
    refine rdSlX (s6 _ _ (sE _ _ (s4 _ _ ex3))) fun t7 H7 s7 e7 => ?_
    rw [cutV_succ] at e7
    refine rdCatX (s7 _ _ e6) e7 (by rw [List.length_append, List.length_take, List.length_drop]; show _ + 1 + _ ≤ 1000; omega) fun t8 H8 s8 e8 => ?_
    have sm8 := ((sE.trans s6).trans s7).trans s8
    have kk8 := k34.trans (.of_same (S := [d]) sm8)
    refine ⟨by show 2 ≤ sizeLine; decide, fin lq t8 lv _ (parts.take a1 ++ [p2] ++ parts.drop (a1 + 1)) _ (kk8 _ _ (by simp [nld]) el2) e8 (by rw [List.map_append, List.map_append]; exact ((ltk _ _ (kk8.tup1 hd2)).app (.cons (lw2.keep' (.same (s4.trans sm8))) .nil)).app (ldr _ _ (kk8.tup1 hd2))) (by omega) (by rw [List.length_append, List.length_append, List.length_take, List.length_drop, List.length_singleton]; omega) (fun q hq => ?_) ((hd3.same s4).same sm8) (k02.trans kk8)⟩
    rcases List.mem_append.mp hq with h | h
    · rcases List.mem_append.mp h with h | h
      · exact sm0 q (dl _ q h)
      · rw [List.mem_singleton.mp h]
        exact sm0 p2 mq2
    · exact sm0 q (dr _ q h)
  have hnat : ∀ (a : Nat), a < parts.length → ∃ pp : List (List Int), parts[a]? = some pp ∧ pp ∈ parts := fun a ha => ⟨parts[a], List.getElem?_eq_getElem ha, List.getElem_mem _⟩
  refine ⟨_, rfl, xq, _, rfl, .inr (SqT.of ex2), _, rfl, by omega, by omega, fun D hD => ?_⟩
  refine lc_it walk_range (fun i H' => Same H2 H' ∧ ∃ zs : List Nat, H' D = some (.lst (zs.map vI)) ∧ zs.length ≤ i ∧ ∀ z ∈ zs, z < parts.length) ⟨same_new hD _, [], upd_same, Nat.le_refl _, fun z hz => by cases hz⟩ (fun _ _ _ _ => trivial) (fun i x H3 H4 hi pp y => ?_) (fun H3 pp => ?_)
  · obtain ⟨sm, zs, eD, hz1, hz2⟩ := pp
    obtain ⟨rfl, rfl⟩ := y
    have hi : i < parts.length := by omega
    obtain ⟨pp, hpp, _⟩ := hnat i hi
    obtain ⟨w0, hw0, lw0⟩ := (lx2.keep' (.same sm)).at_ (d := partD pp) i (by rw [List.getElem?_map, hpp]; rfl)
    obtain ⟨pq, vp, rfl, ep, _⟩ := lw0.part
    refine ⟨rfl, _, rfl, _, rfl, xq, _, _, _, rfl, rfl, SqT.of (sm _ _ ex2), (by rw [Int.zero_add]; exact atI_nat hw0), pq, _, rfl, .inr (SqT.of ep), _, _, rfl, rfl, _, rfl, ite2 (fun z6 => ?_) (fun z6 => ?_)⟩
    · refine ⟨_, rfl, _, eD, by rw [List.length_map]; exact len1000 (by omega), same_two sm hD, zs ++ [i], ?_, by rw [List.length_append]; exact Nat.succ_le_succ hz1, fun z hz => ?_⟩
      · rw [upd_same, List.map_append]
        show some (HO.lst (zs.map vI ++ [V.int (0 + (i : Int))])) = _
        rw [Int.zero_add]
        rfl
      · rcases List.mem_append.mp hz with h | h
        · exact hz2 z h
        · rw [List.mem_singleton.mp h]
          exact hi
    · exact ⟨sm, zs, eD, Nat.le_succ_of_le hz1, hz2⟩
  obtain ⟨s3, zs, eD, hz1, hz2⟩ := pp
  refine ⟨fun σ' H' => ∃ (a v8 : _), σ' = [some (.ref d), some v, some (.ref lq), some (.ref xq), some (.int tn), none, some (vI a), none, v8, some (.ref D), none] ∧ a < parts.length ∧ DS H' d c ∧ Keep [d] H2 H', ?_, ?_⟩
  · refine ⟨_, rfl, D, _, rfl, .inl (SqL.of eD), _, _, rfl, rfl, _, rfl, ite2 (fun z6 => ?_) (fun z6 => ?_)⟩
    rotate_left
    · exact iteF ⟨a1, _, rfl, by omega, hd2.same s3, .of_same s3⟩
    refine ⟨_, rfl, _, _, rfl, rfl, _, rfl, ite2 (fun z7 => ?_) (fun z7 => ?_)⟩
    rotate_left
    · exact ⟨a1, _, rfl, by omega, hd2.same s3, .of_same s3⟩
    have z6 : (0 : Int) < (((zs.map vI).length : Nat) : Int) := of_decide_eq_true z6
    refine ⟨_, rfl, _, rfl, d, c, D, _, rfl, hd2.same s3, fun e => ?_, .inl (SqL.of eD), by omega, by rw [List.length_map]; omega, fun ko y H4 hy hd4 k4 => ?_⟩
    · obtain ⟨l, el'⟩ := (hd2.same s3).at_
      obtain ⟨_, _, _, _, e1, _⟩ := hd2.same s3
      rw [e, e1] at eD
      rcases zs with _ | ⟨z, zs⟩
      · cases z6
      · cases eD
    obtain ⟨z, hz, rfl⟩ := mapAt hy
    exact ⟨z, _, rfl, hz2 z (List.mem_of_getElem? hz), hd4, (Keep.of_same s3).trans k4⟩
  rintro σ' H3' ⟨a, v8, rfl, ha, hd3, k3⟩
  obtain ⟨pp, hpp, mpp⟩ := hnat a ha
  obtain ⟨w0, hw0, lw0⟩ := (lx2.keep' (k3.tup1 hd2)).at_ (d := partD pp) a (by rw [List.getElem?_map, hpp]; rfl)
  have ex3 := k3 _ _ (by simp [nxd]) ex2
  refine ⟨_, rfl, ?_⟩
  refine ⟨_, rfl, _, rfl, _, rfl, ?_⟩
  refine rdSlX ex3 fun t4 H4 s4 e4 => ?_
  rw [cutV_to] at e4
  refine ⟨_, rfl, _, rfl, _, rfl, _, rfl, xq, _, _, _, rfl, rfl, SqT.of (s4 _ _ ex3), atI_nat hw0, d, c, v, w0, N, pp, rfl, hd3.same s4, lN.keep' (((k02.trans k3).trans (.of_same s4)).tup1 hd), h400, lw0.keep' (.same s4), (hsm pp mpp).1, (hsm pp mpp).2, fun r5 g H5 lg hg1 hg2 hd5 k5 => ?_⟩
  have k24 := k3.trans (.of_same (S := [d]) s4)
  have k25 := k24.trans k5
  have e45 := k5 _ _ (by simp [(hd3.same s4).ne_tup e4]) e4
  refine ⟨by show 1 ≤ sizeLine; decide, fun tE htE => ?_⟩
  have sE := same_new htE (.tup [.ref r5])
  refine rdCatX (sE _ _ e45) upd_same (by rw [List.length_take]; show _ + 1 ≤ 1000; omega) fun t6 H6 s6 e6 => ?_
  refine ⟨_, rfl, _, rfl, _, _, rfl, rfl, _, rfl, ?_⟩
  try delta tNoPart
  refine rdSlX (s6 _ _ (sE _ _ (k25 _ _ (by simp [nxd]) ex2))) fun t7 H7 s7 e7 => ?_
  rw [cutV_succ] at e7
  refine rdCatX (s7 _ _ e6) e7 (by rw [List.length_append, List.length_take, List.length_drop]; show _ + 1 + _ ≤ 1000; omega) fun t8 H8 s8 e8 => ?_
  have sm8 := ((sE.trans s6).trans s7).trans s8
  have kk8 := k25.trans (.of_same (S := [d]) sm8)
  refine ⟨by show 2 ≤ sizeLine; decide, fin lq t8 lv _ (parts.take a ++ [g] ++ parts.drop (a + 1)) _ (kk8 _ _ (by simp [nld]) el2) e8 (by rw [List.map_append, List.map_append]; exact ((ltk _ _ (kk8.tup1 hd2)).app (.cons (lg.keep' (.same sm8)) .nil)).app (ldr _ _ (kk8.tup1 hd2))) (by omega) (by rw [List.length_append, List.length_append, List.length_take, List.length_drop, List.length_singleton]; omega) (fun q hq => ?_) (hd5.same sm8) (k02.trans kk8)⟩
  rcases List.mem_append.mp hq with h | h
  · rcases List.mem_append.mp h with h | h
    · exact sm0 q (dl _ q h)
    · rw [List.mem_singleton.mp h]
      exact ⟨by omega, hg2⟩
  · exact sm0 q (dr _ q h)
end

end Bf

set_option Elab.async false
set_option linter.all false
set_option maxRecDepth 100000
set_option maxHeartbeats 4000000
namespace Bf
open PySem PySem.Spec PyProof.Rows L2
/-! ### the law -/
def SmallNet (N : Net) : Prop := N.Right ∧ N.ins.length ≤ 10 ∧ N.regs.length ≤ 2 ∧ N.ands.length ≤ 60 ∧ N.outs.length ≤ 3 ∧ N.cls.length ≤ 3
theorem SmallNet.tidy {N : Net} (h : SmallNet N) : SmallNet (tidyN N) := by
  obtain ⟨R, h1, h2, h3, h4, h5⟩ := h
  obtain ⟨R', ha, _⟩ := tidy_right R
  refine ⟨R', h1, ?_, by omega, ?_, ?_⟩
  · show ((N.regs.map _).map _).length ≤ 2
    rw [List.length_map, List.length_map]; exact h2
  · show ((N.outs.map _).map _).length ≤ 3
    rw [List.length_map, List.length_map]; exact h4
  · show ((N.cls.map _).map _).length ≤ 3
    rw [List.length_map, List.length_map]; exact h5
theorem BarsOk.small1 {N : Net} (R : N.Right) {k : Nat} {lv : List Int} {parts : List (List (List Int))} (h : BarsOk N k lv parts) : ∀ q ∈ parts, q.length ≤ k + 1 ∧ ∀ p ∈ q, 1 ≤ p.length ∧ p.length ≤ N.size := fun q hq => by
  refine ⟨(h.small R q hq).1, fun p hp => ⟨?_, (h.small R q hq).2 p hp⟩⟩
  obtain ⟨i, hi⟩ := List.mem_iff_getElem?.mp hq
  have hp' := h.part i q hi
  unfold PartOk at hp'
  split at hp'
  · rw [hp'] at hp
    cases hp
  · exact List.length_pos_iff.mpr (hp'.2.1 p hp).ne
section
variable {P : Program} {w : World} {K : PySem.W.Frag} {mg : Str → Option Value} {base : Heap} {f : Addr} {fd : FuncData}
def spLaw (K : PySem.W.Frag) : Sp := fun vs H Q _ => ∃ (a : Addr) (ns : List Int), vs = [.ref a] ∧ SqL K H a (ns.map V.int) ∧ ns.length ≤ 63 ∧ ∀ H', Q (.bl true) H'
theorem ok_law (F : Fun K "law" "law" s_law f fd) (T : Txt mg) (D_law_begin : Dn P w K mg base "_law_begin" ["_law_script"] 1 (spBegin K)) (D_law_draw : Dn P w K mg base "_law_draw" ["_law_d", "_law_many"] 1 spDraw)
    (D_law_some_net : Dn P w K mg base "_law_some_net" ["_law_d", "_law_least", "_law_k", "_law_most"] 4 spSome) (D_law_tidied : Dn P w K mg base "_law_tidied" ["_law_net_here"] 3 spTidied)
    (D_law_made_bars : Dn P w K mg base "_law_made_bars" ["_law_d", "_law_net_here", "_law_k"] 5 spMade) (D_law_says : Dn P w K mg base "_law_says" ["_law_told", "_law_due"] 1 spSays)
    (D_judge_level_bars : Dn P w K mg base "judge_level_bars" ["net", "k", "levels", "bars"] 5 spJudgeB) (D_law_bent_bars : Dn P w K mg base "_law_bent_bars" ["_law_d", "_law_net_here", "_law_told", "_law_parts"] 5 spBentB)
    (D_law_bars_fit : Dn P w K mg base "_law_bars_fit" ["_law_net_here", "_law_k", "_law_told", "_law_parts"] 4 spBarsFit) :
    FnOk P w K mg base CX0 6 f fd ["_law_script"] (spLaw K) := by
  refine F.ok sc_law (fun vs H Q E h => ?_) (fun cdv A outer s H vs Q E hr h => ?_)
  · obtain ⟨a, ns, rfl, _⟩ := h
    rfl
  obtain ⟨a, ns, rfl, hS, h63, q⟩ := h
  refine ⟨_, (pss_cons (ps_set (i := 1) sc_law.nd rfl (Or.inl rfl) (pe_dn D_law_begin (hr.mono (by omega)) (by rfl) (pa_cons (pv 0) pa_nil)))
      (pss_cons (ps_set (i := 2) sc_law.nd rfl (Or.inl rfl) (pe_op op_add pe_int (pe_dn D_law_draw (hr.mono (by omega)) (by rfl) (pa_cons (pv 1) (pa_cons pe_int pa_nil)))))
      (pss_cons (ps_set (i := 3) sc_law.nd rfl (Or.inl rfl) (pe_dn D_law_some_net (hr.mono (by omega)) (by rfl) (pa_cons (pv 1) (pa_cons (pe_op op_sub (pv 2) pe_int) (pa_cons (pv 2) (pa_cons (pe_ix ix_list (pe_lst (pa_cons pe_int (pa_cons pe_int (pa_cons pe_int pa_nil)))) (pe_op op_sub (pv 2) pe_int) (fun _ _ => rfl)) pa_nil))))))
      (C8.pss_cut (ps_if (pt_cmpR op_eq (pe_dn D_law_draw (hr.mono (by omega)) (by rfl) (pa_cons (pv 1) (pa_cons pe_int pa_nil))) pe_int (nomark _)) (pss_one (ps_set (i := 3) sc_law.nd rfl (Or.inl rfl) (pe_dn D_law_tidied (hr.mono (by omega)) (by rfl) (pa_cons (pv 3) pa_nil)))) pss_nil)
      (pss_cons (ps_asg (pe_dn D_law_made_bars (hr.mono (by omega)) (by rfl) (pa_cons (pv 1) (pa_cons (pv 3) (pa_cons (pv 2) pa_nil)))) (pg_tup rfl (pgs_cons (pg_name (i := 4) sc_law.nd rfl (Or.inl rfl)) (pgs_cons (pg_name (i := 5) sc_law.nd rfl (Or.inl rfl)) pgs_nil))))
      (pss_cons (ps_set (i := 6) sc_law.nd rfl (Or.inl rfl) (pe_callB call_len_seq (by rfl) T.n_len (by decide +kernel) (pa_cons (pe_ix ix_tup (pv 3) pe_int (fun _ _ => rfl)) pa_nil)))
      (pss_cons (ps_for PassesOwn.never rfl (pi_list (pe_lst (pa_cons (pe_tup (pa_cons (pv 4) (pa_cons (pv 5) pa_nil))) (pa_cons (pe_tup (pa_cons (pe_op op_repTA (pe_tup (pa_cons pe_int pa_nil)) (pv 6)) (pa_cons (pe_op op_repTA (pe_tup (pa_cons (pe_tup pa_nil) pa_nil)) (pv 6)) pa_nil))) pa_nil)))) (pg_tup rfl (pgs_cons (pg_name (i := 7) sc_law.nd rfl (Or.inl rfl)) (pgs_cons (pg_name (i := 8) sc_law.nd rfl (Or.inl rfl)) pgs_nil))) (pss_one (ps_if (pt_not (pt_val (pe_dn D_law_says (hr.mono (by omega)) (by rfl) (pa_cons (pe_dn D_judge_level_bars (hr.mono (by omega)) (by rfl) (pa_cons (pv 3) (pa_cons (pv 2) (pa_cons (pv 7) (pa_cons (pv 8) pa_nil))))) (pa_cons pe_bl pa_nil))))) (pss_one (ps_ret pe_bl)) pss_nil)))
      (pss_cons (ps_for PassesOwn.never rfl (pi_range1 rfl T.n_range (pa_cons pe_int pa_nil)) (pg_name (i := 9) sc_law.nd rfl (Or.inl rfl)) (pss_cons (ps_asg (pe_dn D_law_bent_bars (hr.mono (by omega)) (by rfl) (pa_cons (pv 1) (pa_cons (pv 3) (pa_cons (pv 4) (pa_cons (pv 5) pa_nil))))) (pg_tup rfl (pgs_cons (pg_name (i := 7) sc_law.nd rfl (Or.inl rfl)) (pgs_cons (pg_name (i := 8) sc_law.nd rfl (Or.inl rfl)) pgs_nil))))
      (pss_one (ps_if (pt_not (pt_val (pe_dn D_law_says (hr.mono (by omega)) (by rfl) (pa_cons (pe_dn D_judge_level_bars (hr.mono (by omega)) (by rfl) (pa_cons (pv 3) (pa_cons (pv 2) (pa_cons (pv 7) (pa_cons (pv 8) pa_nil))))) (pa_cons (pe_dn D_law_bars_fit (hr.mono (by omega)) (by rfl) (pa_cons (pv 3) (pa_cons (pv 2) (pa_cons (pv 7) (pa_cons (pv 8) pa_nil))))) pa_nil))))) (pss_one (ps_ret pe_bl)) pss_nil))))
      (pss_cons (ps_for PassesOwn.never rfl (pi_list (pe_lst (pa_cons pe_int (pa_cons pe_int (pa_cons pe_int pa_nil))))) (pg_name (i := 10) sc_law.nd rfl (Or.inl rfl)) (pss_one (ps_if (pt_not (pt_val (pe_dn D_law_says (hr.mono (by omega)) (by rfl) (pa_cons (pe_dn D_judge_level_bars (hr.mono (by omega)) (by rfl) (pa_cons (pv 3) (pa_cons (pv 10) (pa_cons (pv 4) (pa_cons (pv 5) pa_nil))))) (pa_cons (pe_dn D_law_bars_fit (hr.mono (by omega)) (by rfl) (pa_cons (pv 3) (pa_cons (pv 10) (pa_cons (pv 4) (pa_cons (pv 5) pa_nil))))) pa_nil))))) (pss_one (ps_ret pe_bl)) pss_nil)))
      (pss_one (ps_ret pe_bl))))))))))), ?_⟩
  refine ⟨_, rfl, a, ns, rfl, hS, h63, fun d c H1 nd nc hd1 s1 => ?_⟩
  refine ⟨_, rfl, d, c, 3, rfl, hd1, by decide, by decide, fun r H2 r0 r1 hd2 k2 => ?_⟩
  obtain ⟨x, rfl⟩ := Int.eq_ofNat_of_zero_le r0
  refine ⟨_, _, rfl, rfl, ?_⟩
  obtain ⟨k, hk⟩ : ∃ k, k = 2 + x := ⟨_, rfl⟩
  have ek : (fun i j => V.int (i + j)) 2 (x : Int) = vI k := congrArg V.int (by omega)
  dsimp only at ek ⊢
  rw [ek]
  have kk2 : 2 ≤ k := by omega
  have kk4 : k ≤ 4 := by omega
  clear ek hk
  obtain ⟨most, hmost, hm1, hm2⟩ : ∃ most : Nat, atI [V.int 19, V.int 15, V.int 13] ((k : Int) - 2) = some (vI most) ∧ k + 2 ≤ most ∧ k + most ≤ 21 := by
    have : k = 2 ∨ k = 3 ∨ k = 4 := by omega
    rcases this with rfl | rfl | rfl
    · exact ⟨19, rfl, by omega, by omega⟩
    · exact ⟨15, rfl, by omega, by omega⟩
    · exact ⟨13, rfl, by omega, by omega⟩
  refine ⟨_, rfl, _, rfl, _, _, rfl, rfl, _, rfl, by show 3 ≤ sizeLine; decide, fun L0 hL0 => ?_⟩
  have sL0 := same_new hL0 (.lst [V.int 19, V.int 15, V.int 13])
  refine ⟨_, rfl, _, _, rfl, rfl, L0, _, _, _, rfl, rfl, SqL.of upd_same, hmost, d, c, k - 1, k, most, ?_, hd2.same sL0, by omega, kk2, kk4, by omega, by omega, fun v N H3 lv so hik hd3 k3 => ?_⟩
  · show [V.ref d, V.int ((k : Int) - 1), vI k, vI most] = [V.ref d, vI (k - 1), vI k, vI most]
    rw [show V.int ((k : Int) - 1) = vI (k - 1) from congrArg V.int (by omega)]
  have sn : SmallNet N := ⟨so.1, so.2.1, so.2.2.1, by have := so.2.2.2.1; omega, so.2.2.2.2.1, so.2.2.2.2.2⟩
  have a13 := so.2.2.2.1
  clear so
  refine ⟨fun σ' H' => ∃ (v : V) (N : Net), σ' = [some (.ref a), some (.ref d), some (vI k), some v, none, none, none, none, none, none, none] ∧ Lay H' v (netD N) ∧ N.Right ∧ N.size ≤ 25 ∧ DS H' d c, ?_, ?_⟩
  · refine ⟨_, rfl, d, c, 2, rfl, hd3, by decide, by decide, fun r H4 r0 r1 hd4 k4 => ⟨rfl, _, rfl, ite2 (fun z => ?_) (fun z => ?_)⟩⟩
    · obtain ⟨R, h1, h2, h3, h4, h5⟩ := id sn
      refine ⟨_, rfl, v, N, rfl, lv.keep' (k4.tup1 hd3), R, by omega, by omega, by omega, by omega, by omega, fun u H5 s5 lu => ⟨u, tidyN N, rfl, lu, ?_, ?_, hd4.same s5⟩⟩
      · exact sn.tidy.1
      obtain ⟨_, ha, _⟩ := tidy_right R
      have e1 : (tidyN N).ins = N.ins := rfl
      have e2 : (tidyN N).regs.length = N.regs.length := by
        show ((N.regs.map _).map _).length = _
        rw [List.length_map, List.length_map]
      unfold Net.size Net.first
      rw [e1, e2]
      omega
    · obtain ⟨R, h1, h2, h3, h4, h5⟩ := id sn
      exact ⟨v, N, rfl, lv.keep' (k4.tup1 hd3), R, by unfold Net.size Net.first; omega, hd4⟩
  clear sn a13 hik lv hd3 k3 hd2 k2 hd1 s1
  rintro σ' H4 ⟨v, N, rfl, lv, RN, h25, hd4⟩
  refine ⟨_, rfl, _, rfl, _, rfl, d, c, v, N, k, rfl, hd4, lv, RN, by omega, by omega, fun r lw xv ll pp H5 er llw lxv bok hd5 k5 => ?_⟩
  refine ⟨r, _, rfl, SqT.of er, rfl, _, _, rfl, _, _, rfl, rfl, ?_⟩
  have lv5 := lv.keep' (k5.tup1 hd4)
  have sm1 := bok.small1 RN
  have smp : SmallP pp := fun q hq => ⟨by have := (sm1 q hq).1; omega, fun p hp => by have := ((sm1 q hq).2 p hp).2; omega⟩
  have hands : N.ands.length ≤ 25 := by unfold Net.size at h25; omega
  have hl1 : ll.length ≤ 25 := by rw [bok.l1]; exact hands
  have hl2 : pp.length ≤ 25 := by rw [bok.l2]; exact hands
  obtain ⟨p, pi, pr, pa, po, pc, vr, va, vo, vc, rfl, hN⟩ := (id lv5).net
  have hl := hN.lens
  refine ⟨_, rfl, p, _, _, _, rfl, rfl, SqT.of hN.top, atI_nat (j := 3) rfl, pa, _, rfl, .inr (SqT.of hN.ha), ?_⟩
  rw [hl.2.1]
  clear lv k5 hd4 er
  -- the bars made, and all levels 1
  refine ⟨_, rfl, _, rfl, by show 2 ≤ sizeLine; decide, fun t1 ht1 => ⟨by show 1 ≤ sizeLine; decide, fun t2 ht2 => ⟨_, rfl, t2, N.ands.length, [V.int 1], rfl, rfl, upd_same, by simp, by omega, by show 1 ≤ 1000; decide, fun t3 H6 s6 e3 => ?_⟩⟩⟩
  rw [flatRep, show List.replicate N.ands.length (V.int 1) = (List.replicate N.ands.length (1 : Int)).map V.int by simp] at e3
  have st1 := same_new ht1 (.tup [.ref lw, .ref xv])
  have s56 := (st1.trans (same_new ht2 (.tup [V.int 1]))).trans s6
  have e1 := ((same_new ht2 (.tup [V.int 1])).trans s6) _ _ (upd_same (H := H5) (a := t1) (o := .tup [.ref lw, .ref xv]))
  refine ⟨Nat.zero_le _, fun t4 ht4 => ⟨by show 1 ≤ sizeLine; decide, fun t5 ht5 => ⟨_, rfl, t5, N.ands.length, [.ref t4], rfl, rfl, upd_same, by simp, by omega, by show 1 ≤ 1000; decide, fun t6 H7 s7 e6 => ?_⟩⟩⟩
  rw [flatRep] at e6
  have st4 := same_new ht4 (.tup [])
  have st5 := same_new ht5 (.tup [.ref t4])
  have e4 := s7 _ _ (st5 _ _ (upd_same (H := H6) (a := t4) (o := .tup [])))
  have s67 := (st4.trans st5).trans s7
  have s57 := s56.trans s67
  refine ⟨by show 2 ≤ sizeLine; decide, fun t7 ht7 => ⟨by show 2 ≤ sizeLine; decide, fun L hL => ?_⟩⟩
  have st7 := same_new ht7 (.tup [.ref t3, .ref t6])
  have stL := same_new hL (.lst [.ref t1, .ref t7])
  have s78 := st7.trans stL
  have s58 := s57.trans s78
  have e7 := stL _ _ (upd_same (H := H7) (a := t7) (o := .tup [.ref t3, .ref t6]))
  have eL := upd_same (H := upd H7 t7 (.tup [.ref t3, .ref t6])) (a := L) (o := .lst [.ref t1, .ref t7])
  have e1' := s78 _ _ (s67 _ _ e1)
  have e3' := s78 _ _ (s67 _ _ e3)
  have e4' := s78 _ _ e4
  have e6' := s78 _ _ e6
  generalize upd (upd H7 t7 (.tup [.ref t3, .ref t6])) L (.lst [.ref t1, .ref t7]) = H8 at s78 s58 e7 eL e1' e3' e4' e6' ⊢
  have lv8 := lv5.keep' (.same s58)
  have llw8 := llw.keep' (.same s58)
  have lxv8 := lxv.keep' (.same s58)
  have hd8 := hd5.same s58
  have both : ∀ x ∈ [V.ref t1, V.ref t7], ∃ (t l1 x1 : Addr) (lv1 : List Int) (pp1 : List (List (List Int))), x = .ref t ∧ H8 t = some (.tup [.ref l1, .ref x1]) ∧ Lay H8 (.ref l1) (pathD lv1) ∧ Lay H8 (.ref x1) (partsD pp1) ∧ BarsOk N k lv1 pp1 ∧ lv1.length ≤ 400 ∧ pp1.length ≤ 400 ∧ SmallP pp1 := fun x hx => by
    rcases List.mem_cons.mp hx with rfl | hx
    · exact ⟨t1, lw, xv, ll, pp, rfl, e1', llw8, lxv8, bok, by omega, by omega, smp⟩
    · rw [List.mem_singleton.mp hx]
      refine ⟨t7, t3, t6, List.replicate N.ands.length 1, List.replicate N.ands.length [], rfl, e7, Lay.mkPath e3', .tup e6' ?_, bars_ones N k, by rw [List.length_replicate]; omega, by rw [List.length_replicate]; omega, fun q hq => ?_⟩
      · rw [List.map_replicate]
        exact layRep (.tup e4' .nil) _
      · rw [List.eq_of_mem_replicate hq]
        exact ⟨Nat.zero_le _, fun p hp => by cases hp⟩
  refine ⟨L, rfl, ⟨_, SqL.of eL⟩, for_it (walk_list (xs := [V.ref t1, V.ref t7])) (fun i σ' H' => ∃ (v7 v8 : Option V), σ' = [some (.ref a), some (.ref d), some (vI k), some (.ref p), some (.ref lw), some (.ref xv), some (vI N.ands.length), v7, v8, none, none] ∧ Same H8 H')
    ⟨_, _, rfl, .refl _⟩ (fun i σ' H' _ qq => ?_) (fun i x σ' H9 H10 hi qq y => ?_) (fun σ' H9 qq => ?_)⟩
  · obtain ⟨_, _, _, sm⟩ := qq
    exact SqL.of (sm _ _ eL)
  · obtain ⟨v7, v8, rfl, sm⟩ := qq
    obtain ⟨rfl, hx⟩ := y
    obtain ⟨t, l1, x1, lv1, pp1, rfl, et, ll1, lx1, ok1, b1, b2, sp1⟩ := both x (List.mem_of_getElem? hx)
    refine ⟨t, _, rfl, SqT.of (sm _ _ et), rfl, _, _, rfl, _, _, rfl, rfl, ?_⟩
    refine ⟨_, rfl, _, rfl, _, rfl, _, rfl, .ref p, .ref l1, .ref x1, N, k, lv1, pp1, rfl, lv8.keep' (.same sm), RN, by omega, ll1.keep' (.same sm), b1, lx1.keep' (.same sm), b2, sp1, fun b H11 s11 hb => ⟨b, true, rfl, fun _ => ⟨true, rfl, iteF ⟨_, _, rfl, sm.trans s11⟩⟩, hb.mpr ok1⟩⟩
  obtain ⟨v7, v8, rfl, sm⟩ := qq
  have hd9 := hd8.same sm
  have lv9 := lv8.keep' (.same sm)
  have lw9 := llw8.keep' (.same sm)
  have lx9 := lxv8.keep' (.same sm)
  refine ⟨8, rfl, by decide, by decide, for_it walk_range (fun i σ' H' => ∃ (v7 v8 v9 : Option V), σ' = [some (.ref a), some (.ref d), some (vI k), some (.ref p), some (.ref lw), some (.ref xv), some (vI N.ands.length), v7, v8, v9, none] ∧ DS H' d c ∧ Lay H' (.ref p) (netD N) ∧ Lay H' (.ref lw) (pathD ll) ∧ Lay H' (.ref xv) (partsD pp))
    ⟨_, _, _, rfl, hd9, lv9, lw9, lx9⟩ (fun _ _ _ _ _ => trivial) (fun i x σ' H10 H11 hi qq y => ?_) (fun σ' H10 qq => ?_)⟩
  · obtain ⟨v7, v8, v9, rfl, hd10, lv10, lw10, lx10⟩ := qq
    obtain ⟨rfl, rfl⟩ := y
    refine ⟨_, rfl, _, rfl, _, rfl, _, rfl, d, c, lw, xv, .ref p, N, ll, pp, rfl, hd10, lv10, by omega, lw10, lx10, by rw [bok.l1, bok.l2], by omega, fun q hq => ⟨by have := (sm1 q hq).1; omega, fun p hp => ⟨((sm1 q hq).2 p hp).1, by have := ((sm1 q hq).2 p hp).2; omega⟩⟩, fun r tl tx lv' pp' H12 er l1 l2 b1 b2 sp hd12 k12 => ?_⟩
    refine ⟨r, _, rfl, SqT.of er, rfl, _, _, rfl, _, _, rfl, rfl, ?_⟩
    have kt := k12.tup1 hd10
    refine ⟨_, rfl, _, rfl, _, rfl, _, rfl, .ref p, .ref tl, .ref tx, N, k, lv', pp', rfl, lv10.keep' kt, RN, by omega, l1, by omega, l2, by omega, sp, fun c1 H13 s13 hc1 => ?_⟩
    refine ⟨_, rfl, _, rfl, _, rfl, _, rfl, .ref p, .ref tl, .ref tx, N, k, lv', pp', rfl, (lv10.keep' kt).keep' (.same s13), RN, by omega, l1.keep' (.same s13), by omega, l2.keep' (.same s13), by omega, sp, fun c2 H14 s14 hc2 => ?_⟩
    have s := s13.trans s14
    exact ⟨c1, c2, rfl, fun _ => ⟨true, rfl, iteF ⟨_, _, _, rfl, hd12.same s, (lv10.keep' kt).keep' (.same s), (lw10.keep' kt).keep' (.same s), (lx10.keep' kt).keep' (.same s)⟩⟩, Bool.eq_iff_iff.mpr (hc1.trans hc2.symm)⟩
  obtain ⟨v7, v8, v9, rfl, hd10, lv10, lw10, lx10⟩ := qq
  refine ⟨by show 3 ≤ sizeLine; decide, fun L2 hL2 => ?_⟩
  have sL2 := same_new hL2 (.lst [V.int 2, V.int 3, V.int 4])
  refine ⟨L2, rfl, ⟨_, SqL.of upd_same⟩, for_it (walk_list (xs := [V.int 2, V.int 3, V.int 4])) (fun i σ' H' => ∃ (v10 : Option V), σ' = [some (.ref a), some (.ref d), some (vI k), some (.ref p), some (.ref lw), some (.ref xv), some (vI N.ands.length), v7, v8, v9, v10] ∧ DS H' d c ∧ Lay H' (.ref p) (netD N) ∧ Lay H' (.ref lw) (pathD ll) ∧ Lay H' (.ref xv) (partsD pp) ∧ H' L2 = some (.lst [V.int 2, V.int 3, V.int 4]))
    ⟨_, rfl, hd10.same sL2, lv10.keep' (.same sL2), lw10.keep' (.same sL2), lx10.keep' (.same sL2), upd_same⟩ (fun i σ' H' _ qq => ?_) (fun i x σ' H11 H12 hi qq y => ?_) (fun σ' H11 qq => ?_)⟩
  · obtain ⟨_, _, _, _, _, _, e⟩ := qq
    exact SqL.of e
  · obtain ⟨v10, rfl, hd11, lv11, lw11, lx11, eL2⟩ := qq
    obtain ⟨rfl, hx⟩ := y
    obtain ⟨n, hn, rfl⟩ : ∃ n : Nat, n ≤ 4 ∧ x = vI n := by
      have hm := List.mem_of_getElem? hx
      simp only [List.mem_cons, List.not_mem_nil, or_false] at hm
      rcases hm with rfl | rfl | rfl
      · exact ⟨2, by decide, rfl⟩
      · exact ⟨3, by decide, rfl⟩
      · exact ⟨4, by decide, rfl⟩
    refine ⟨_, rfl, _, rfl, _, rfl, _, rfl, .ref p, .ref lw, .ref xv, N, n, ll, pp, rfl, lv11, RN, by omega, lw11, by omega, lx11, by omega, smp, fun c1 H13 s13 hc1 => ?_⟩
    refine ⟨_, rfl, _, rfl, _, rfl, _, rfl, .ref p, .ref lw, .ref xv, N, n, ll, pp, rfl, lv11.keep' (.same s13), RN, by omega, lw11.keep' (.same s13), by omega, lx11.keep' (.same s13), by omega, smp, fun c2 H14 s14 hc2 => ?_⟩
    have s := s13.trans s14
    exact ⟨c1, c2, rfl, fun _ => ⟨true, rfl, iteF ⟨_, rfl, hd11.same s, lv11.keep' (.same s), lw11.keep' (.same s), lx11.keep' (.same s), s _ _ eL2⟩⟩, Bool.eq_iff_iff.mpr (hc1.trans hc2.symm)⟩
  exact q _
end

end Bf

set_option Elab.async false
set_option linter.all false
set_option maxRecDepth 100000
set_option maxHeartbeats 4000000
namespace Bf
open PySem PySem.Spec PyProof.Rows L2
/-! ### what the top has written -/
theorem all_mk {l : PySem.W.OpenLaw} {w : World} {K : PySem.W.Frag} {h : Heap} {mg : Str → Option Value} {fa f__law_draw f__law_begin f__law_pop f__law_pick f__law_rare f__law_shuffled f__law_pool f__law_lit f__law_drawn_literal f__law_net f__law_closed_up f__law_tidied f__law_first f__law_woven f__law_some_net f_first_and f_operand_nodes f_is_path f_are_apart f_is_part f_judge_level_bars f__law_says f__law_is_path f__law_part_fits f__law_bars_fit f__law_way_down f__law_found_part f__law_made_bars f__law_bent_path f__law_bent_part f__law_bent_bars f_law : Addr} (X : K.In h) (G : h.Ns mainGlobals mg) (hfa : mg "law" = some (.ref fa))
    {od2 an2 : Option Addr} {sl2 : Array (Option Value)} {oc2 kV2 dc2 pm2 cd2 ct2 : Value}
    {od4 an4 : Option Addr} {sl4 : Array (Option Value)} {oc4 kV4 dc4 pm4 cd4 ct4 : Value}
    {od6 an6 : Option Addr} {sl6 : Array (Option Value)} {oc6 kV6 dc6 pm6 cd6 ct6 : Value}
    {od8 an8 : Option Addr} {sl8 : Array (Option Value)} {oc8 kV8 dc8 pm8 cd8 ct8 : Value}
    {od10 an10 : Option Addr} {sl10 : Array (Option Value)} {oc10 kV10 dc10 pm10 cd10 ct10 : Value}
    {od12 an12 : Option Addr} {sl12 : Array (Option Value)} {oc12 kV12 dc12 pm12 cd12 ct12 : Value}
    {od14 an14 : Option Addr} {sl14 : Array (Option Value)} {oc14 kV14 dc14 pm14 cd14 ct14 : Value}
    {od16 an16 : Option Addr} {sl16 : Array (Option Value)} {oc16 kV16 dc16 pm16 cd16 ct16 : Value}
    {od18 an18 : Option Addr} {sl18 : Array (Option Value)} {oc18 kV18 dc18 pm18 cd18 ct18 : Value}
    {od20 an20 : Option Addr} {sl20 : Array (Option Value)} {oc20 kV20 dc20 pm20 cd20 ct20 : Value}
    {od22 an22 : Option Addr} {sl22 : Array (Option Value)} {oc22 kV22 dc22 pm22 cd22 ct22 : Value}
    {od24 an24 : Option Addr} {sl24 : Array (Option Value)} {oc24 kV24 dc24 pm24 cd24 ct24 : Value}
    {od26 an26 : Option Addr} {sl26 : Array (Option Value)} {oc26 kV26 dc26 pm26 cd26 ct26 : Value}
    {od28 an28 : Option Addr} {sl28 : Array (Option Value)} {oc28 kV28 dc28 pm28 cd28 ct28 : Value}
    {od30 an30 : Option Addr} {sl30 : Array (Option Value)} {oc30 kV30 dc30 pm30 cd30 ct30 : Value}
    {od32 an32 : Option Addr} {sl32 : Array (Option Value)} {oc32 kV32 dc32 pm32 cd32 ct32 : Value}
    {od34 an34 : Option Addr} {sl34 : Array (Option Value)} {oc34 kV34 dc34 pm34 cd34 ct34 : Value}
    {od36 an36 : Option Addr} {sl36 : Array (Option Value)} {oc36 kV36 dc36 pm36 cd36 ct36 : Value}
    {od38 an38 : Option Addr} {sl38 : Array (Option Value)} {oc38 kV38 dc38 pm38 cd38 ct38 : Value}
    {od40 an40 : Option Addr} {sl40 : Array (Option Value)} {oc40 kV40 dc40 pm40 cd40 ct40 : Value}
    {od42 an42 : Option Addr} {sl42 : Array (Option Value)} {oc42 kV42 dc42 pm42 cd42 ct42 : Value}
    {od44 an44 : Option Addr} {sl44 : Array (Option Value)} {oc44 kV44 dc44 pm44 cd44 ct44 : Value}
    {od46 an46 : Option Addr} {sl46 : Array (Option Value)} {oc46 kV46 dc46 pm46 cd46 ct46 : Value}
    {od48 an48 : Option Addr} {sl48 : Array (Option Value)} {oc48 kV48 dc48 pm48 cd48 ct48 : Value}
    {od50 an50 : Option Addr} {sl50 : Array (Option Value)} {oc50 kV50 dc50 pm50 cd50 ct50 : Value}
    {od52 an52 : Option Addr} {sl52 : Array (Option Value)} {oc52 kV52 dc52 pm52 cd52 ct52 : Value}
    {od54 an54 : Option Addr} {sl54 : Array (Option Value)} {oc54 kV54 dc54 pm54 cd54 ct54 : Value}
    {od56 an56 : Option Addr} {sl56 : Array (Option Value)} {oc56 kV56 dc56 pm56 cd56 ct56 : Value}
    {od58 an58 : Option Addr} {sl58 : Array (Option Value)} {oc58 kV58 dc58 pm58 cd58 ct58 : Value}
    {od60 an60 : Option Addr} {sl60 : Array (Option Value)} {oc60 kV60 dc60 pm60 cd60 ct60 : Value}
    {od62 an62 : Option Addr} {sl62 : Array (Option Value)} {oc62 kV62 dc62 pm62 cd62 ct62 : Value}
    {od64 an64 : Option Addr} {sl64 : Array (Option Value)} {oc64 kV64 dc64 pm64 cd64 ct64 : Value}
    (a1 : PySem.W.nsIn K mainGlobals "_law_draw" = some (some (.ref f__law_draw)))
    (l2 : K.lookup f__law_draw = some ⟨oc2, od2, .func (PySem.W.fnOf "_law_draw" "_law_draw" (defArgs s_law_draw) (defBody s_law_draw) (defScope s_law_draw) .none kV2 dc2 pm2 an2 cd2 ct2), sl2⟩) (c2 : PySem.W.codeIn K cd2 "_law_draw" = true) (k2 : PySem.W.keepIn K (.ref f__law_draw) = true)
    (a3 : PySem.W.nsIn K mainGlobals "_law_begin" = some (some (.ref f__law_begin)))
    (l4 : K.lookup f__law_begin = some ⟨oc4, od4, .func (PySem.W.fnOf "_law_begin" "_law_begin" (defArgs s_law_begin) (defBody s_law_begin) (defScope s_law_begin) .none kV4 dc4 pm4 an4 cd4 ct4), sl4⟩) (c4 : PySem.W.codeIn K cd4 "_law_begin" = true) (k4 : PySem.W.keepIn K (.ref f__law_begin) = true)
    (a5 : PySem.W.nsIn K mainGlobals "_law_pop" = some (some (.ref f__law_pop)))
    (l6 : K.lookup f__law_pop = some ⟨oc6, od6, .func (PySem.W.fnOf "_law_pop" "_law_pop" (defArgs s_law_pop) (defBody s_law_pop) (defScope s_law_pop) .none kV6 dc6 pm6 an6 cd6 ct6), sl6⟩) (c6 : PySem.W.codeIn K cd6 "_law_pop" = true) (k6 : PySem.W.keepIn K (.ref f__law_pop) = true)
    (a7 : PySem.W.nsIn K mainGlobals "_law_pick" = some (some (.ref f__law_pick)))
    (l8 : K.lookup f__law_pick = some ⟨oc8, od8, .func (PySem.W.fnOf "_law_pick" "_law_pick" (defArgs s_law_pick) (defBody s_law_pick) (defScope s_law_pick) .none kV8 dc8 pm8 an8 cd8 ct8), sl8⟩) (c8 : PySem.W.codeIn K cd8 "_law_pick" = true) (k8 : PySem.W.keepIn K (.ref f__law_pick) = true)
    (a9 : PySem.W.nsIn K mainGlobals "_law_rare" = some (some (.ref f__law_rare)))
    (l10 : K.lookup f__law_rare = some ⟨oc10, od10, .func (PySem.W.fnOf "_law_rare" "_law_rare" (defArgs s_law_rare) (defBody s_law_rare) (defScope s_law_rare) .none kV10 dc10 pm10 an10 cd10 ct10), sl10⟩) (c10 : PySem.W.codeIn K cd10 "_law_rare" = true) (k10 : PySem.W.keepIn K (.ref f__law_rare) = true)
    (a11 : PySem.W.nsIn K mainGlobals "_law_shuffled" = some (some (.ref f__law_shuffled)))
    (l12 : K.lookup f__law_shuffled = some ⟨oc12, od12, .func (PySem.W.fnOf "_law_shuffled" "_law_shuffled" (defArgs s_law_shuffled) (defBody s_law_shuffled) (defScope s_law_shuffled) .none kV12 dc12 pm12 an12 cd12 ct12), sl12⟩) (c12 : PySem.W.codeIn K cd12 "_law_shuffled" = true) (k12 : PySem.W.keepIn K (.ref f__law_shuffled) = true)
    (a13 : PySem.W.nsIn K mainGlobals "_law_pool" = some (some (.ref f__law_pool)))
    (l14 : K.lookup f__law_pool = some ⟨oc14, od14, .func (PySem.W.fnOf "_law_pool" "_law_pool" (defArgs s_law_pool) (defBody s_law_pool) (defScope s_law_pool) .none kV14 dc14 pm14 an14 cd14 ct14), sl14⟩) (c14 : PySem.W.codeIn K cd14 "_law_pool" = true) (k14 : PySem.W.keepIn K (.ref f__law_pool) = true)
    (a15 : PySem.W.nsIn K mainGlobals "_law_lit" = some (some (.ref f__law_lit)))
    (l16 : K.lookup f__law_lit = some ⟨oc16, od16, .func (PySem.W.fnOf "_law_lit" "_law_lit" (defArgs s_law_lit) (defBody s_law_lit) (defScope s_law_lit) .none kV16 dc16 pm16 an16 cd16 ct16), sl16⟩) (c16 : PySem.W.codeIn K cd16 "_law_lit" = true) (k16 : PySem.W.keepIn K (.ref f__law_lit) = true)
    (a17 : PySem.W.nsIn K mainGlobals "_law_drawn_literal" = some (some (.ref f__law_drawn_literal)))
    (l18 : K.lookup f__law_drawn_literal = some ⟨oc18, od18, .func (PySem.W.fnOf "_law_drawn_literal" "_law_drawn_literal" (defArgs s_law_drawn_literal) (defBody s_law_drawn_literal) (defScope s_law_drawn_literal) .none kV18 dc18 pm18 an18 cd18 ct18), sl18⟩) (c18 : PySem.W.codeIn K cd18 "_law_drawn_literal" = true) (k18 : PySem.W.keepIn K (.ref f__law_drawn_literal) = true)
    (a19 : PySem.W.nsIn K mainGlobals "_law_net" = some (some (.ref f__law_net)))
    (l20 : K.lookup f__law_net = some ⟨oc20, od20, .func (PySem.W.fnOf "_law_net" "_law_net" (defArgs s_law_net) (defBody s_law_net) (defScope s_law_net) .none kV20 dc20 pm20 an20 cd20 ct20), sl20⟩) (c20 : PySem.W.codeIn K cd20 "_law_net" = true) (k20 : PySem.W.keepIn K (.ref f__law_net) = true)
    (a21 : PySem.W.nsIn K mainGlobals "_law_closed_up" = some (some (.ref f__law_closed_up)))
    (l22 : K.lookup f__law_closed_up = some ⟨oc22, od22, .func (PySem.W.fnOf "_law_closed_up" "_law_closed_up" (defArgs s_law_closed_up) (defBody s_law_closed_up) (defScope s_law_closed_up) .none kV22 dc22 pm22 an22 cd22 ct22), sl22⟩) (c22 : PySem.W.codeIn K cd22 "_law_closed_up" = true) (k22 : PySem.W.keepIn K (.ref f__law_closed_up) = true)
    (a23 : PySem.W.nsIn K mainGlobals "_law_tidied" = some (some (.ref f__law_tidied)))
    (l24 : K.lookup f__law_tidied = some ⟨oc24, od24, .func (PySem.W.fnOf "_law_tidied" "_law_tidied" (defArgs s_law_tidied) (defBody s_law_tidied) (defScope s_law_tidied) .none kV24 dc24 pm24 an24 cd24 ct24), sl24⟩) (c24 : PySem.W.codeIn K cd24 "_law_tidied" = true) (k24 : PySem.W.keepIn K (.ref f__law_tidied) = true)
    (a25 : PySem.W.nsIn K mainGlobals "_law_first" = some (some (.ref f__law_first)))
    (l26 : K.lookup f__law_first = some ⟨oc26, od26, .func (PySem.W.fnOf "_law_first" "_law_first" (defArgs s_law_first) (defBody s_law_first) (defScope s_law_first) .none kV26 dc26 pm26 an26 cd26 ct26), sl26⟩) (c26 : PySem.W.codeIn K cd26 "_law_first" = true) (k26 : PySem.W.keepIn K (.ref f__law_first) = true)
    (a27 : PySem.W.nsIn K mainGlobals "_law_woven" = some (some (.ref f__law_woven)))
    (l28 : K.lookup f__law_woven = some ⟨oc28, od28, .func (PySem.W.fnOf "_law_woven" "_law_woven" (defArgs s_law_woven) (defBody s_law_woven) (defScope s_law_woven) .none kV28 dc28 pm28 an28 cd28 ct28), sl28⟩) (c28 : PySem.W.codeIn K cd28 "_law_woven" = true) (k28 : PySem.W.keepIn K (.ref f__law_woven) = true)
    (a29 : PySem.W.nsIn K mainGlobals "_law_some_net" = some (some (.ref f__law_some_net)))
    (l30 : K.lookup f__law_some_net = some ⟨oc30, od30, .func (PySem.W.fnOf "_law_some_net" "_law_some_net" (defArgs s_law_some_net) (defBody s_law_some_net) (defScope s_law_some_net) .none kV30 dc30 pm30 an30 cd30 ct30), sl30⟩) (c30 : PySem.W.codeIn K cd30 "_law_some_net" = true) (k30 : PySem.W.keepIn K (.ref f__law_some_net) = true)
    (a31 : PySem.W.nsIn K mainGlobals "first_and" = some (some (.ref f_first_and)))
    (l32 : K.lookup f_first_and = some ⟨oc32, od32, .func (PySem.W.fnOf "first_and" "first_and" (defArgs s_first_and) (defBody s_first_and) (defScope s_first_and) .none kV32 dc32 pm32 an32 cd32 ct32), sl32⟩) (c32 : PySem.W.codeIn K cd32 "first_and" = true) (k32 : PySem.W.keepIn K (.ref f_first_and) = true)
    (a33 : PySem.W.nsIn K mainGlobals "operand_nodes" = some (some (.ref f_operand_nodes)))
    (l34 : K.lookup f_operand_nodes = some ⟨oc34, od34, .func (PySem.W.fnOf "operand_nodes" "operand_nodes" (defArgs s_operand_nodes) (defBody s_operand_nodes) (defScope s_operand_nodes) .none kV34 dc34 pm34 an34 cd34 ct34), sl34⟩) (c34 : PySem.W.codeIn K cd34 "operand_nodes" = true) (k34 : PySem.W.keepIn K (.ref f_operand_nodes) = true)
    (a35 : PySem.W.nsIn K mainGlobals "is_path" = some (some (.ref f_is_path)))
    (l36 : K.lookup f_is_path = some ⟨oc36, od36, .func (PySem.W.fnOf "is_path" "is_path" (defArgs s_is_path) (defBody s_is_path) (defScope s_is_path) .none kV36 dc36 pm36 an36 cd36 ct36), sl36⟩) (c36 : PySem.W.codeIn K cd36 "is_path" = true) (k36 : PySem.W.keepIn K (.ref f_is_path) = true)
    (a37 : PySem.W.nsIn K mainGlobals "are_apart" = some (some (.ref f_are_apart)))
    (l38 : K.lookup f_are_apart = some ⟨oc38, od38, .func (PySem.W.fnOf "are_apart" "are_apart" (defArgs s_are_apart) (defBody s_are_apart) (defScope s_are_apart) .none kV38 dc38 pm38 an38 cd38 ct38), sl38⟩) (c38 : PySem.W.codeIn K cd38 "are_apart" = true) (k38 : PySem.W.keepIn K (.ref f_are_apart) = true)
    (a39 : PySem.W.nsIn K mainGlobals "is_part" = some (some (.ref f_is_part)))
    (l40 : K.lookup f_is_part = some ⟨oc40, od40, .func (PySem.W.fnOf "is_part" "is_part" (defArgs s_is_part) (defBody s_is_part) (defScope s_is_part) .none kV40 dc40 pm40 an40 cd40 ct40), sl40⟩) (c40 : PySem.W.codeIn K cd40 "is_part" = true) (k40 : PySem.W.keepIn K (.ref f_is_part) = true)
    (a41 : PySem.W.nsIn K mainGlobals "judge_level_bars" = some (some (.ref f_judge_level_bars)))
    (l42 : K.lookup f_judge_level_bars = some ⟨oc42, od42, .func (PySem.W.fnOf "judge_level_bars" "judge_level_bars" (defArgs s_judge_level_bars) (defBody s_judge_level_bars) (defScope s_judge_level_bars) .none kV42 dc42 pm42 an42 cd42 ct42), sl42⟩) (c42 : PySem.W.codeIn K cd42 "judge_level_bars" = true) (k42 : PySem.W.keepIn K (.ref f_judge_level_bars) = true)
    (a43 : PySem.W.nsIn K mainGlobals "_law_says" = some (some (.ref f__law_says)))
    (l44 : K.lookup f__law_says = some ⟨oc44, od44, .func (PySem.W.fnOf "_law_says" "_law_says" (defArgs s_law_says) (defBody s_law_says) (defScope s_law_says) .none kV44 dc44 pm44 an44 cd44 ct44), sl44⟩) (c44 : PySem.W.codeIn K cd44 "_law_says" = true) (k44 : PySem.W.keepIn K (.ref f__law_says) = true)
    (a45 : PySem.W.nsIn K mainGlobals "_law_is_path" = some (some (.ref f__law_is_path)))
    (l46 : K.lookup f__law_is_path = some ⟨oc46, od46, .func (PySem.W.fnOf "_law_is_path" "_law_is_path" (defArgs s_law_is_path) (defBody s_law_is_path) (defScope s_law_is_path) .none kV46 dc46 pm46 an46 cd46 ct46), sl46⟩) (c46 : PySem.W.codeIn K cd46 "_law_is_path" = true) (k46 : PySem.W.keepIn K (.ref f__law_is_path) = true)
    (a47 : PySem.W.nsIn K mainGlobals "_law_part_fits" = some (some (.ref f__law_part_fits)))
    (l48 : K.lookup f__law_part_fits = some ⟨oc48, od48, .func (PySem.W.fnOf "_law_part_fits" "_law_part_fits" (defArgs s_law_part_fits) (defBody s_law_part_fits) (defScope s_law_part_fits) .none kV48 dc48 pm48 an48 cd48 ct48), sl48⟩) (c48 : PySem.W.codeIn K cd48 "_law_part_fits" = true) (k48 : PySem.W.keepIn K (.ref f__law_part_fits) = true)
    (a49 : PySem.W.nsIn K mainGlobals "_law_bars_fit" = some (some (.ref f__law_bars_fit)))
    (l50 : K.lookup f__law_bars_fit = some ⟨oc50, od50, .func (PySem.W.fnOf "_law_bars_fit" "_law_bars_fit" (defArgs s_law_bars_fit) (defBody s_law_bars_fit) (defScope s_law_bars_fit) .none kV50 dc50 pm50 an50 cd50 ct50), sl50⟩) (c50 : PySem.W.codeIn K cd50 "_law_bars_fit" = true) (k50 : PySem.W.keepIn K (.ref f__law_bars_fit) = true)
    (a51 : PySem.W.nsIn K mainGlobals "_law_way_down" = some (some (.ref f__law_way_down)))
    (l52 : K.lookup f__law_way_down = some ⟨oc52, od52, .func (PySem.W.fnOf "_law_way_down" "_law_way_down" (defArgs s_law_way_down) (defBody s_law_way_down) (defScope s_law_way_down) .none kV52 dc52 pm52 an52 cd52 ct52), sl52⟩) (c52 : PySem.W.codeIn K cd52 "_law_way_down" = true) (k52 : PySem.W.keepIn K (.ref f__law_way_down) = true)
    (a53 : PySem.W.nsIn K mainGlobals "_law_found_part" = some (some (.ref f__law_found_part)))
    (l54 : K.lookup f__law_found_part = some ⟨oc54, od54, .func (PySem.W.fnOf "_law_found_part" "_law_found_part" (defArgs s_law_found_part) (defBody s_law_found_part) (defScope s_law_found_part) .none kV54 dc54 pm54 an54 cd54 ct54), sl54⟩) (c54 : PySem.W.codeIn K cd54 "_law_found_part" = true) (k54 : PySem.W.keepIn K (.ref f__law_found_part) = true)
    (a55 : PySem.W.nsIn K mainGlobals "_law_made_bars" = some (some (.ref f__law_made_bars)))
    (l56 : K.lookup f__law_made_bars = some ⟨oc56, od56, .func (PySem.W.fnOf "_law_made_bars" "_law_made_bars" (defArgs s_law_made_bars) (defBody s_law_made_bars) (defScope s_law_made_bars) .none kV56 dc56 pm56 an56 cd56 ct56), sl56⟩) (c56 : PySem.W.codeIn K cd56 "_law_made_bars" = true) (k56 : PySem.W.keepIn K (.ref f__law_made_bars) = true)
    (a57 : PySem.W.nsIn K mainGlobals "_law_bent_path" = some (some (.ref f__law_bent_path)))
    (l58 : K.lookup f__law_bent_path = some ⟨oc58, od58, .func (PySem.W.fnOf "_law_bent_path" "_law_bent_path" (defArgs s_law_bent_path) (defBody s_law_bent_path) (defScope s_law_bent_path) .none kV58 dc58 pm58 an58 cd58 ct58), sl58⟩) (c58 : PySem.W.codeIn K cd58 "_law_bent_path" = true) (k58 : PySem.W.keepIn K (.ref f__law_bent_path) = true)
    (a59 : PySem.W.nsIn K mainGlobals "_law_bent_part" = some (some (.ref f__law_bent_part)))
    (l60 : K.lookup f__law_bent_part = some ⟨oc60, od60, .func (PySem.W.fnOf "_law_bent_part" "_law_bent_part" (defArgs s_law_bent_part) (defBody s_law_bent_part) (defScope s_law_bent_part) .none kV60 dc60 pm60 an60 cd60 ct60), sl60⟩) (c60 : PySem.W.codeIn K cd60 "_law_bent_part" = true) (k60 : PySem.W.keepIn K (.ref f__law_bent_part) = true)
    (a61 : PySem.W.nsIn K mainGlobals "_law_bent_bars" = some (some (.ref f__law_bent_bars)))
    (l62 : K.lookup f__law_bent_bars = some ⟨oc62, od62, .func (PySem.W.fnOf "_law_bent_bars" "_law_bent_bars" (defArgs s_law_bent_bars) (defBody s_law_bent_bars) (defScope s_law_bent_bars) .none kV62 dc62 pm62 an62 cd62 ct62), sl62⟩) (c62 : PySem.W.codeIn K cd62 "_law_bent_bars" = true) (k62 : PySem.W.keepIn K (.ref f__law_bent_bars) = true)
    (a63 : PySem.W.nsIn K mainGlobals "law" = some (some (.ref f_law)))
    (l64 : K.lookup f_law = some ⟨oc64, od64, .func (PySem.W.fnOf "law" "law" (defArgs s_law) (defBody s_law) (defScope s_law) .none kV64 dc64 pm64 an64 cd64 ct64), sl64⟩) (c64 : PySem.W.codeIn K cd64 "law" = true) (k64 : PySem.W.keepIn K (.ref f_law) = true)
    (z65 : PySem.W.nsIn K mainGlobals "int" = some none)
    (z66 : PySem.W.nsIn K mainGlobals "len" = some none)
    (z67 : PySem.W.nsIn K mainGlobals "abs" = some none)
    (z68 : PySem.W.nsIn K mainGlobals "isinstance" = some none)
    (z69 : PySem.W.nsIn K mainGlobals "range" = some none)
    (z70 : PySem.W.nsIn K mainGlobals "tuple" = some none)
    (z71 : PySem.W.nsIn K mainGlobals "all" = some none)
    (z72 : PySem.W.nsIn K mainGlobals "list" = some none)
    (z73 : PySem.W.nsIn K mainGlobals "max" = some none)
    (z74 : PySem.W.nsIn K mainGlobals "min" = some none)
    (z75 : PySem.W.nsIn K mainGlobals "sorted" = some none)
    (z76 : PySem.W.nsIn K mainGlobals "set" = some none)
    (z77 : PySem.W.nsIn K mainGlobals "reversed" = some none)
    (z78 : PySem.W.nsIn K mainGlobals "bool" = some none)
    (z79 : PySem.W.nsIn K mainGlobals "zip" = some none)
    (z80 : PySem.W.nsIn K mainGlobals "enumerate" = some none) :
    ∃ fd : FuncData, (∀ (s : Shared) (v : Value), BindsTo s fd ⟨[v], []⟩ [("_law_script", v)]) ∧ ∀ base : Heap, K.In base → base.Ns mainGlobals mg → FnOk l.prog w K mg base CX0 6 fa fd ["_law_script"] (spLaw K) := by
  have e := hfa.symm.trans (PySem.W.mg_of X G a63)
  cases e
  have T : Txt mg := ⟨PySem.W.mg_none_of X G z65, PySem.W.mg_none_of X G z66, PySem.W.mg_none_of X G z67, PySem.W.mg_none_of X G z68, PySem.W.mg_none_of X G z69, PySem.W.mg_none_of X G z70, PySem.W.mg_none_of X G z71, PySem.W.mg_none_of X G z72, PySem.W.mg_none_of X G z73, PySem.W.mg_none_of X G z74, PySem.W.mg_none_of X G z75, PySem.W.mg_none_of X G z76, PySem.W.mg_none_of X G z77, PySem.W.mg_none_of X G z78, PySem.W.mg_none_of X G z79, PySem.W.mg_none_of X G z80⟩
  have F_law_draw := fun_mk (st := s_law_draw) l2 c2 k2
  have F_law_begin := fun_mk (st := s_law_begin) l4 c4 k4
  have F_law_pop := fun_mk (st := s_law_pop) l6 c6 k6
  have F_law_pick := fun_mk (st := s_law_pick) l8 c8 k8
  have F_law_rare := fun_mk (st := s_law_rare) l10 c10 k10
  have F_law_shuffled := fun_mk (st := s_law_shuffled) l12 c12 k12
  have F_law_pool := fun_mk (st := s_law_pool) l14 c14 k14
  have F_law_lit := fun_mk (st := s_law_lit) l16 c16 k16
  have F_law_drawn_literal := fun_mk (st := s_law_drawn_literal) l18 c18 k18
  have F_law_net := fun_mk (st := s_law_net) l20 c20 k20
  have F_law_closed_up := fun_mk (st := s_law_closed_up) l22 c22 k22
  have F_law_tidied := fun_mk (st := s_law_tidied) l24 c24 k24
  have F_law_first := fun_mk (st := s_law_first) l26 c26 k26
  have F_law_woven := fun_mk (st := s_law_woven) l28 c28 k28
  have F_law_some_net := fun_mk (st := s_law_some_net) l30 c30 k30
  have F_first_and := fun_mk (st := s_first_and) l32 c32 k32
  have F_operand_nodes := fun_mk (st := s_operand_nodes) l34 c34 k34
  have F_is_path := fun_mk (st := s_is_path) l36 c36 k36
  have F_are_apart := fun_mk (st := s_are_apart) l38 c38 k38
  have F_is_part := fun_mk (st := s_is_part) l40 c40 k40
  have F_judge_level_bars := fun_mk (st := s_judge_level_bars) l42 c42 k42
  have F_law_says := fun_mk (st := s_law_says) l44 c44 k44
  have F_law_is_path := fun_mk (st := s_law_is_path) l46 c46 k46
  have F_law_part_fits := fun_mk (st := s_law_part_fits) l48 c48 k48
  have F_law_bars_fit := fun_mk (st := s_law_bars_fit) l50 c50 k50
  have F_law_way_down := fun_mk (st := s_law_way_down) l52 c52 k52
  have F_law_found_part := fun_mk (st := s_law_found_part) l54 c54 k54
  have F_law_made_bars := fun_mk (st := s_law_made_bars) l56 c56 k56
  have F_law_bent_path := fun_mk (st := s_law_bent_path) l58 c58 k58
  have F_law_bent_part := fun_mk (st := s_law_bent_part) l60 c60 k60
  have F_law_bent_bars := fun_mk (st := s_law_bent_bars) l62 c62 k62
  have F_law := fun_mk (st := s_law) l64 c64 k64
  refine ⟨PySem.W.fnOf "law" "law" (defArgs s_law) (defBody s_law) (defScope s_law) .none kV64 dc64 pm64 an64 cd64 ct64, fun s v => .of_eq rfl, fun base _ _ => ?_⟩
  have D_law_draw : Dn l.prog w K mg base "_law_draw" ["_law_d", "_law_many"] 1 spDraw := ⟨f__law_draw, _, ok_draw F_law_draw T, PySem.W.mg_of X G a1, k2, (F_law_draw.binds (ps := ["_law_d", "_law_many"]) fun _ _ _ _ _ _ us hl => match us, hl with | [_, _], _ => rfl)⟩
  have D_law_begin : Dn l.prog w K mg base "_law_begin" ["_law_script"] 1 (spBegin K) := ⟨f__law_begin, _, ok_begin F_law_begin T, PySem.W.mg_of X G a3, k4, (F_law_begin.binds (ps := ["_law_script"]) fun _ _ _ _ _ _ us hl => match us, hl with | [_], _ => rfl)⟩
  have D_law_pop : Dn l.prog w K mg base "_law_pop" ["_law_d", "_law_row"] 2 spPop := ⟨f__law_pop, _, ok_pop F_law_pop T D_law_draw, PySem.W.mg_of X G a5, k6, (F_law_pop.binds (ps := ["_law_d", "_law_row"]) fun _ _ _ _ _ _ us hl => match us, hl with | [_, _], _ => rfl)⟩
  have D_law_pick : Dn l.prog w K mg base "_law_pick" ["_law_d", "_law_row"] 2 (spPickA K) := ⟨f__law_pick, _, ok_pickA F_law_pick T D_law_draw, PySem.W.mg_of X G a7, k8, (F_law_pick.binds (ps := ["_law_d", "_law_row"]) fun _ _ _ _ _ _ us hl => match us, hl with | [_, _], _ => rfl)⟩
  have D_law_rare : Dn l.prog w K mg base "_law_rare" ["_law_d", "_law_many"] 2 spRare := ⟨f__law_rare, _, ok_rare F_law_rare T D_law_draw, PySem.W.mg_of X G a9, k10, (F_law_rare.binds (ps := ["_law_d", "_law_many"]) fun _ _ _ _ _ _ us hl => match us, hl with | [_, _], _ => rfl)⟩
  have D_law_shuffled : Dn l.prog w K mg base "_law_shuffled" ["_law_d", "_law_row"] 2 (spShuf K) := ⟨f__law_shuffled, _, ok_shuf F_law_shuffled T D_law_draw, PySem.W.mg_of X G a11, k12, (F_law_shuffled.binds (ps := ["_law_d", "_law_row"]) fun _ _ _ _ _ _ us hl => match us, hl with | [_, _], _ => rfl)⟩
  have D_law_pool : Dn l.prog w K mg base "_law_pool" [] 1 spPool := ⟨f__law_pool, _, ok_pool F_law_pool , PySem.W.mg_of X G a13, k14, (F_law_pool.binds (ps := []) fun _ _ _ _ _ _ us hl => match us, hl with | [], _ => rfl)⟩
  have D_law_lit : Dn l.prog w K mg base "_law_lit" ["_law_bits", "_law_literal"] 1 (spLitV K) := ⟨f__law_lit, _, ok_litV F_law_lit T, PySem.W.mg_of X G a15, k16, (F_law_lit.binds (ps := ["_law_bits", "_law_literal"]) fun _ _ _ _ _ _ us hl => match us, hl with | [_, _], _ => rfl)⟩
  have D_law_drawn_literal : Dn l.prog w K mg base "_law_drawn_literal" ["_law_d", "_law_size"] 2 spLit := ⟨f__law_drawn_literal, _, ok_lit F_law_drawn_literal T D_law_draw, PySem.W.mg_of X G a17, k18, (F_law_drawn_literal.binds (ps := ["_law_d", "_law_size"]) fun _ _ _ _ _ _ us hl => match us, hl with | [_, _], _ => rfl)⟩
  have D_law_net : Dn l.prog w K mg base "_law_net" ["_law_d", "_law_inputs", "_law_regs", "_law_ands", "_law_outputs", "_law_claims"] 3 spNet := ⟨f__law_net, _, ok_net F_law_net T D_law_draw D_law_pop D_law_pool D_law_drawn_literal, PySem.W.mg_of X G a19, k20, (F_law_net.binds (ps := ["_law_d", "_law_inputs", "_law_regs", "_law_ands", "_law_outputs", "_law_claims"]) fun _ _ _ _ _ _ us hl => match us, hl with | [_, _, _, _, _, _], _ => rfl)⟩
  have D_law_closed_up : Dn l.prog w K mg base "_law_closed_up" ["_law_given", "_law_rows", "_law_pairs", "_law_shown", "_law_asked"] 2 spClosed := ⟨f__law_closed_up, _, ok_closed F_law_closed_up T D_law_lit, PySem.W.mg_of X G a21, k22, (F_law_closed_up.binds (ps := ["_law_given", "_law_rows", "_law_pairs", "_law_shown", "_law_asked"]) fun _ _ _ _ _ _ us hl => match us, hl with | [_, _, _, _, _], _ => rfl)⟩
  have D_law_tidied : Dn l.prog w K mg base "_law_tidied" ["_law_net_here"] 3 spTidied := ⟨f__law_tidied, _, ok_tidied F_law_tidied T D_law_lit D_law_closed_up, PySem.W.mg_of X G a23, k24, (F_law_tidied.binds (ps := ["_law_net_here"]) fun _ _ _ _ _ _ us hl => match us, hl with | [_], _ => rfl)⟩
  have D_law_first : Dn l.prog w K mg base "_law_first" ["_law_net_here"] 1 spFirst := ⟨f__law_first, _, ok_lfirst F_law_first T, PySem.W.mg_of X G a25, k26, (F_law_first.binds (ps := ["_law_net_here"]) fun _ _ _ _ _ _ us hl => match us, hl with | [_], _ => rfl)⟩
  have D_law_woven : Dn l.prog w K mg base "_law_woven" ["_law_d", "_law_inputs", "_law_regs", "_law_strands", "_law_steps"] 3 spWoven := ⟨f__law_woven, _, ok_woven F_law_woven T D_law_draw D_law_pop D_law_pick.pick D_law_shuffled D_law_pool D_law_drawn_literal, PySem.W.mg_of X G a27, k28, (F_law_woven.binds (ps := ["_law_d", "_law_inputs", "_law_regs", "_law_strands", "_law_steps"]) fun _ _ _ _ _ _ us hl => match us, hl with | [_, _, _, _, _], _ => rfl)⟩
  have D_law_some_net : Dn l.prog w K mg base "_law_some_net" ["_law_d", "_law_least", "_law_k", "_law_most"] 4 spSome := ⟨f__law_some_net, _, ok_some F_law_some_net T D_law_draw D_law_rare D_law_woven D_law_net D_law_first D_law_pick.pick, PySem.W.mg_of X G a29, k30, (F_law_some_net.binds (ps := ["_law_d", "_law_least", "_law_k", "_law_most"]) fun _ _ _ _ _ _ us hl => match us, hl with | [_, _, _, _], _ => rfl)⟩
  have D_first_and : Dn l.prog w K mg base "first_and" ["net"] 1 spFirst := ⟨f_first_and, _, ok_first F_first_and T, PySem.W.mg_of X G a31, k32, (F_first_and.binds (ps := ["net"]) fun _ _ _ _ _ _ us hl => match us, hl with | [_], _ => rfl)⟩
  have D_operand_nodes : Dn l.prog w K mg base "operand_nodes" ["net", "node"] 2 spOps := ⟨f_operand_nodes, _, ok_ops F_operand_nodes T D_first_and, PySem.W.mg_of X G a33, k34, (F_operand_nodes.binds (ps := ["net", "node"]) fun _ _ _ _ _ _ us hl => match us, hl with | [_, _], _ => rfl)⟩
  have D_is_path : Dn l.prog w K mg base "is_path" ["net", "node", "path"] 3 spPathP := ⟨f_is_path, _, ok_pathP F_is_path T D_first_and D_operand_nodes, PySem.W.mg_of X G a35, k36, (F_is_path.binds (ps := ["net", "node", "path"]) fun _ _ _ _ _ _ us hl => match us, hl with | [_, _, _], _ => rfl)⟩
  have D_are_apart : Dn l.prog w K mg base "are_apart" ["rows", "paths", "bound"] 1 spApart := ⟨f_are_apart, _, ok_apart F_are_apart T, PySem.W.mg_of X G a37, k38, (F_are_apart.binds (ps := ["rows", "paths", "bound"]) fun _ _ _ _ _ _ us hl => match us, hl with | [_, _, _], _ => rfl)⟩
  have D_is_part : Dn l.prog w K mg base "is_part" ["net", "k", "rows", "node", "part"] 4 spPart := ⟨f_is_part, _, ok_part F_is_part T D_is_path D_are_apart, PySem.W.mg_of X G a39, k40, (F_is_part.binds (ps := ["net", "k", "rows", "node", "part"]) fun _ _ _ _ _ _ us hl => match us, hl with | [_, _, _, _, _], _ => rfl)⟩
  have D_judge_level_bars : Dn l.prog w K mg base "judge_level_bars" ["net", "k", "levels", "bars"] 5 spJudgeB := ⟨f_judge_level_bars, _, ok_judgeB F_judge_level_bars T D_first_and D_is_part, PySem.W.mg_of X G a41, k42, (F_judge_level_bars.binds (ps := ["net", "k", "levels", "bars"]) fun _ _ _ _ _ _ us hl => match us, hl with | [_, _, _, _], _ => rfl)⟩
  have D_law_says : Dn l.prog w K mg base "_law_says" ["_law_told", "_law_due"] 1 spSays := ⟨f__law_says, _, ok_says F_law_says T, PySem.W.mg_of X G a43, k44, (F_law_says.binds (ps := ["_law_told", "_law_due"]) fun _ _ _ _ _ _ us hl => match us, hl with | [_, _], _ => rfl)⟩
  have D_law_is_path : Dn l.prog w K mg base "_law_is_path" ["_law_net_here", "_law_path", "_law_node"] 2 spPathL := ⟨f__law_is_path, _, ok_pathL F_law_is_path T D_law_first, PySem.W.mg_of X G a45, k46, (F_law_is_path.binds (ps := ["_law_net_here", "_law_path", "_law_node"]) fun _ _ _ _ _ _ us hl => match us, hl with | [_, _, _], _ => rfl)⟩
  have D_law_part_fits : Dn l.prog w K mg base "_law_part_fits" ["_law_net_here", "_law_k", "_law_told", "_law_node", "_law_paths"] 3 spFits := ⟨f__law_part_fits, _, ok_fits F_law_part_fits T D_law_is_path, PySem.W.mg_of X G a47, k48, (F_law_part_fits.binds (ps := ["_law_net_here", "_law_k", "_law_told", "_law_node", "_law_paths"]) fun _ _ _ _ _ _ us hl => match us, hl with | [_, _, _, _, _], _ => rfl)⟩
  have D_law_bars_fit : Dn l.prog w K mg base "_law_bars_fit" ["_law_net_here", "_law_k", "_law_told", "_law_parts"] 4 spBarsFit := ⟨f__law_bars_fit, _, ok_barsFit F_law_bars_fit T D_law_first D_law_part_fits, PySem.W.mg_of X G a49, k50, (F_law_bars_fit.binds (ps := ["_law_net_here", "_law_k", "_law_told", "_law_parts"]) fun _ _ _ _ _ _ us hl => match us, hl with | [_, _, _, _], _ => rfl)⟩
  have D_law_way_down : Dn l.prog w K mg base "_law_way_down" ["_law_d", "_law_net_here", "_law_told", "_law_node", "_law_most", "_law_used"] 3 spWay := ⟨f__law_way_down, _, ok_way F_law_way_down T D_law_first D_law_shuffled, PySem.W.mg_of X G a51, k52, (F_law_way_down.binds (ps := ["_law_d", "_law_net_here", "_law_told", "_law_node", "_law_most", "_law_used"]) fun _ _ _ _ _ _ us hl => match us, hl with | [_, _, _, _, _, _], _ => rfl)⟩
  have D_law_found_part : Dn l.prog w K mg base "_law_found_part" ["_law_d", "_law_net_here", "_law_k", "_law_told", "_law_node", "_law_level"] 4 spFound := ⟨f__law_found_part, _, ok_found F_law_found_part T D_law_way_down, PySem.W.mg_of X G a53, k54, (F_law_found_part.binds (ps := ["_law_d", "_law_net_here", "_law_k", "_law_told", "_law_node", "_law_level"]) fun _ _ _ _ _ _ us hl => match us, hl with | [_, _, _, _, _, _], _ => rfl)⟩
  have D_law_made_bars : Dn l.prog w K mg base "_law_made_bars" ["_law_d", "_law_net_here", "_law_k"] 5 spMade := ⟨f__law_made_bars, _, ok_made F_law_made_bars T D_law_first D_law_draw D_law_found_part, PySem.W.mg_of X G a55, k56, (F_law_made_bars.binds (ps := ["_law_d", "_law_net_here", "_law_k"]) fun _ _ _ _ _ _ us hl => match us, hl with | [_, _, _], _ => rfl)⟩
  have D_law_bent_path : Dn l.prog w K mg base "_law_bent_path" ["_law_d", "_law_net_here", "_law_path"] 3 spBentP := ⟨f__law_bent_path, _, ok_bentP F_law_bent_path T D_law_draw D_law_first D_law_pick, PySem.W.mg_of X G a57, k58, (F_law_bent_path.binds (ps := ["_law_d", "_law_net_here", "_law_path"]) fun _ _ _ _ _ _ us hl => match us, hl with | [_, _, _], _ => rfl)⟩
  have D_law_bent_part : Dn l.prog w K mg base "_law_bent_part" ["_law_d", "_law_net_here", "_law_part"] 4 spBentQ := ⟨f__law_bent_part, _, ok_bentQ F_law_bent_part T D_law_draw D_law_pick D_law_bent_path, PySem.W.mg_of X G a59, k60, (F_law_bent_part.binds (ps := ["_law_d", "_law_net_here", "_law_part"]) fun _ _ _ _ _ _ us hl => match us, hl with | [_, _, _], _ => rfl)⟩
  have D_law_bent_bars : Dn l.prog w K mg base "_law_bent_bars" ["_law_d", "_law_net_here", "_law_told", "_law_parts"] 5 spBentB := ⟨f__law_bent_bars, _, ok_bentB F_law_bent_bars T D_law_draw D_law_pick D_law_bent_part, PySem.W.mg_of X G a61, k62, (F_law_bent_bars.binds (ps := ["_law_d", "_law_net_here", "_law_told", "_law_parts"]) fun _ _ _ _ _ _ us hl => match us, hl with | [_, _, _, _], _ => rfl)⟩
  exact ok_law F_law T D_law_begin D_law_draw D_law_some_net D_law_tidied D_law_made_bars D_law_says D_judge_level_bars D_law_bent_bars D_law_bars_fit
end Bf
open PySem PySem.W PyProof.Rows
set_option maxRecDepth 100000 in
set_option maxHeartbeats 0 in
theorem PySem.Challenge.cw_beatfabric_k64_level_bars_judged_holds : PySem.Challenge.rw_beatfabric_k64_level_bars_judged.Holds := by
  w_on; o_law; k_head; (case hw => w_witness2)
  k_fill
  refine L2.walk_of (l := PySem.Challenge.rw_beatfabric_k64_level_bars_judged) (n := 63) (k := 6) (x := "_law_script") (CX := fun _ => L2.CX0) (sp := fun w => Bf.spLaw _) rfl (by decide) rfl ⟨rfl, by decide, by decide⟩ (fun w h Y => PySem.W.kIn_of Y) ?F (fun _ _ a ns hl _ hS => ⟨a, ns, rfl, hS, hl, fun _ => rfl⟩) (fun _ _ _ _ _ h => h)
  case F =>
    intro w mg fa h KX G hmg
    refine' Bf.all_mk KX G hmg ?a1 ?l2 ?c2 ?k2 ?a3 ?l4 ?c4 ?k4 ?a5 ?l6 ?c6 ?k6 ?a7 ?l8 ?c8 ?k8 ?a9 ?l10 ?c10 ?k10 ?a11 ?l12 ?c12 ?k12 ?a13 ?l14 ?c14 ?k14 ?a15 ?l16 ?c16 ?k16 ?a17 ?l18 ?c18 ?k18 ?a19 ?l20 ?c20 ?k20 ?a21 ?l22 ?c22 ?k22 ?a23 ?l24 ?c24 ?k24 ?a25 ?l26 ?c26 ?k26 ?a27 ?l28 ?c28 ?k28 ?a29 ?l30 ?c30 ?k30 ?a31 ?l32 ?c32 ?k32 ?a33 ?l34 ?c34 ?k34 ?a35 ?l36 ?c36 ?k36 ?a37 ?l38 ?c38 ?k38 ?a39 ?l40 ?c40 ?k40 ?a41 ?l42 ?c42 ?k42 ?a43 ?l44 ?c44 ?k44 ?a45 ?l46 ?c46 ?k46 ?a47 ?l48 ?c48 ?k48 ?a49 ?l50 ?c50 ?k50 ?a51 ?l52 ?c52 ?k52 ?a53 ?l54 ?c54 ?k54 ?a55 ?l56 ?c56 ?k56 ?a57 ?l58 ?c58 ?k58 ?a59 ?l60 ?c60 ?k60 ?a61 ?l62 ?c62 ?k62 ?a63 ?l64 ?c64 ?k64 ?z65 ?z66 ?z67 ?z68 ?z69 ?z70 ?z71 ?z72 ?z73 ?z74 ?z75 ?z76 ?z77 ?z78 ?z79 ?z80
    (case a1 => k_is)
    (case l2 => k_is)
    (case c2 => k_is)
    (case k2 => k_is)
    (case a3 => k_is)
    (case l4 => k_is)
    (case c4 => k_is)
    (case k4 => k_is)
    (case a5 => k_is)
    (case l6 => k_is)
    (case c6 => k_is)
    (case k6 => k_is)
    (case a7 => k_is)
    (case l8 => k_is)
    (case c8 => k_is)
    (case k8 => k_is)
    (case a9 => k_is)
    (case l10 => k_is)
    (case c10 => k_is)
    (case k10 => k_is)
    (case a11 => k_is)
    (case l12 => k_is)
    (case c12 => k_is)
    (case k12 => k_is)
    (case a13 => k_is)
    (case l14 => k_is)
    (case c14 => k_is)
    (case k14 => k_is)
    (case a15 => k_is)
    (case l16 => k_is)
    (case c16 => k_is)
    (case k16 => k_is)
    (case a17 => k_is)
    (case l18 => k_is)
    (case c18 => k_is)
    (case k18 => k_is)
    (case a19 => k_is)
    (case l20 => k_is)
    (case c20 => k_is)
    (case k20 => k_is)
    (case a21 => k_is)
    (case l22 => k_is)
    (case c22 => k_is)
    (case k22 => k_is)
    (case a23 => k_is)
    (case l24 => k_is)
    (case c24 => k_is)
    (case k24 => k_is)
    (case a25 => k_is)
    (case l26 => k_is)
    (case c26 => k_is)
    (case k26 => k_is)
    (case a27 => k_is)
    (case l28 => k_is)
    (case c28 => k_is)
    (case k28 => k_is)
    (case a29 => k_is)
    (case l30 => k_is)
    (case c30 => k_is)
    (case k30 => k_is)
    (case a31 => k_is)
    (case l32 => k_is)
    (case c32 => k_is)
    (case k32 => k_is)
    (case a33 => k_is)
    (case l34 => k_is)
    (case c34 => k_is)
    (case k34 => k_is)
    (case a35 => k_is)
    (case l36 => k_is)
    (case c36 => k_is)
    (case k36 => k_is)
    (case a37 => k_is)
    (case l38 => k_is)
    (case c38 => k_is)
    (case k38 => k_is)
    (case a39 => k_is)
    (case l40 => k_is)
    (case c40 => k_is)
    (case k40 => k_is)
    (case a41 => k_is)
    (case l42 => k_is)
    (case c42 => k_is)
    (case k42 => k_is)
    (case a43 => k_is)
    (case l44 => k_is)
    (case c44 => k_is)
    (case k44 => k_is)
    (case a45 => k_is)
    (case l46 => k_is)
    (case c46 => k_is)
    (case k46 => k_is)
    (case a47 => k_is)
    (case l48 => k_is)
    (case c48 => k_is)
    (case k48 => k_is)
    (case a49 => k_is)
    (case l50 => k_is)
    (case c50 => k_is)
    (case k50 => k_is)
    (case a51 => k_is)
    (case l52 => k_is)
    (case c52 => k_is)
    (case k52 => k_is)
    (case a53 => k_is)
    (case l54 => k_is)
    (case c54 => k_is)
    (case k54 => k_is)
    (case a55 => k_is)
    (case l56 => k_is)
    (case c56 => k_is)
    (case k56 => k_is)
    (case a57 => k_is)
    (case l58 => k_is)
    (case c58 => k_is)
    (case k58 => k_is)
    (case a59 => k_is)
    (case l60 => k_is)
    (case c60 => k_is)
    (case k60 => k_is)
    (case a61 => k_is)
    (case l62 => k_is)
    (case c62 => k_is)
    (case k62 => k_is)
    (case a63 => k_is)
    (case l64 => k_is)
    (case c64 => k_is)
    (case k64 => k_is)
    (case z65 => k_is)
    (case z66 => k_is)
    (case z67 => k_is)
    (case z68 => k_is)
    (case z69 => k_is)
    (case z70 => k_is)
    (case z71 => k_is)
    (case z72 => k_is)
    (case z73 => k_is)
    (case z74 => k_is)
    (case z75 => k_is)
    (case z76 => k_is)
    (case z77 => k_is)
    (case z78 => k_is)
    (case z79 => k_is)
    (case z80 => k_is)
